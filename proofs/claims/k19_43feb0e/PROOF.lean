import PyProof.Rows.All
import Wide.All
import OpenK.AllK
import Wide.FinOn
import Lean
import PyProof.EqAt
import PyProof.EqKinds
import PyProof.TupleCall
import PyProof.NeKinds
import PyProof.IsiTupleOf
import PyProof.IsiPairs
import PyProof.IsiHeapPairs
import PyProof.ConsumeWalk
import PyProof.EnumFor
import PyProof.EnumMake
import PyProof.AutoSeq1
import KE.KDictOf
import KE.KRevIter
import PyProof.AutoListH
import PyProof.CollectWalk
import PyProof.FactsAll.list_3
import PyProof.IsiH_list
import PyProof.ListRange
import PyProof.MeetsDict
import PyProof.MinMaxWalk
import PyProof.RaisesAny
import PyProof.RulesTry
import PyProof.SetKind
import PyProof.SetRoads
import PyProof.SumWalkG
import PySem.SetTable
import PyProof.FactsAll.list_2
import PySem.Challenge.RW_moonseat_k19_prices_judged
section
open PySem PySem.Spec PyProof.Rows
def wAa:=@wpAny_bind
def wBa:=@wpAny_pure
def wCa:=@wpAny_mono
def wDa:=@wpAny_holding
def wEa:=@wpAny_of_eq
def wIa:=@Heap.get?_push_of_some
def wJa:=@Heap.get?_push_size
def wKa:=@Heap.get?_update_other
def wLa:=@Heap.lt_size
def wMa:=@List.mem_cons_of_mem
def wNa:=@List.mem_cons_self
def wPa:=@Nat.le_refl
def wQa:=@Nat.le_of_lt
def wRa:=@Nat.lt_of_le_of_lt
def wSa:=@Nat.le_trans
def wTa:=@Nat.ne_of_lt
def wUa:=@Nat.lt_irrefl
def wYa:=@List.mem_of_getElem?
def vAa:=@decide_eq_true
def vBa:=@decide_eq_false
def vDa:=@absurd
def vFa:=@Option.some.inj
def vIa:=@List.mem_append_left
def vJa:=@List.mem_append_right
def vKa:=@Nat.le_add_right
def vLa:=@eq_of_beq
def vMa:=@Nat.le_succ
def vNa:=@Bool.false_ne_true
def vOa:=@wpAny_standAt
def vQa:=@wpAny_rule
def vTa:=@wpAny_newObj_type
def vUa:=@Heap.get?_update_self
def vVa:=@List.mem_of_mem_take
def vWa:=@List.map_cons
def vXa:=@List.length_cons
def vYa:=@List.length_map
def vZa:=@List.length_append
def uAa:=@List.getElem?_map
def uBa:=@List.getD_eq_getElem?_getD
def uCa:=@List.getElem?_eq_getElem
def uDa:=@List.map_append
def uEa:=@Option.bind_some
def uFa:=@List.append_nil
def uIa:=@List.length_singleton
def uJa:=@List.map_nil
def uLa:=@List.size_toArray
def uMa:=@Nat.pow_succ
def uNa:=@List.length_drop
def uOa:=@List.length_take
def uPa:=@Heap.size_push
def uRa:=@List.getElem?_append_left
def uSa{α:Type _}{l:List α}{i:Nat}{a:α}(h:l[i]?=some a):∃h:i<l.length,l[i]=a:=List.getElem?_eq_some_iff.mp h
def uTa{α:Type _}{a b:α}{l:List α}(h:a∈b::l):a=b∨a∈l:=List.mem_cons.mp h
def uUa{α:Type _}{p:α->Bool}{a:α}{l:List α}(h:a∈l.filter p):a∈l/\p a=true:=List.mem_filter.mp h
def uVa{α β:Type _}{f:α->β}{b:β}{l:List α}(h:b∈l.map f):∃a,a∈l/\f a=b:=List.mem_map.mp h
def uWa{α:Type _}{a:α}{s t:List α}(h:a∈s++t):a∈s∨a∈t:=List.mem_append.mp h
abbrev uXa:=PySem.W.Frag
end
noncomputable section
set_option tactic.hygienic false
set_option bootstrap.genMatcherCode false
set_option genSizeOf false
set_option linter.all false
namespace ST
noncomputable def F:Nat->Nat->Nat
 | 0,i=>i
 | n+1,i=>F n (5 * i+1)
theorem F_add:∀(n m i:Nat),F (n+m) i=F m (F n i)
 | 0,m,i=>by rw[Nat.zero_add,F]
 | n+1,m,i=>by rw[show n+1+m=(n+m)+1 by lia,F,F_add n m,F]
theorem F_pow:∀k:Nat,∃e:Nat,∀i,F (2 ^ k) i=i+2 ^ k * ((2 * e+1) * (4 * i+1))
 | 0=>⟨0,fun i=>by show 5 * i+1=_;lia⟩
 | k+1=>by
  obtain⟨e,h⟩:=F_pow k;refine⟨e+2 ^ k * (2 * e+1) * (2 * e+1),fun i=>?_⟩;rw[show 2 ^ (k+1)=2 ^ k+2 ^ k by rw[uMa];lia,F_add,h,h];generalize 2 ^ k=p
  grind
theorem cover:∀(k i t:Nat),∃n,n < 2 ^ k/\∃a b,F n i+2 ^ k * a=t+2 ^ k * b
 | 0,i,t=>⟨0,by decide,t,i,by show i+1 * t=t+1 * i;lia⟩
 | k+1,i,t=>by
  obtain⟨n,hn,a,b,e⟩:=cover k i t;obtain⟨d,hd⟩:=F_pow k;have p2:2 ^ (k+1)=2 * 2 ^ k:=by rw[uMa];lia
  have fin:∀(x a b:Nat),x+2 ^ k * a=t+2 ^ k * b->a % 2=b % 2->∃a' b',x+2 ^ (k+1) * a'=t+2 ^ (k+1) * b':=fun x a b h hp=>by
   rw[p2];refine⟨a / 2,b / 2,?_⟩;have ea:a=2 * (a / 2)+a % 2:=by lia
   have eb:b=2 * (b / 2)+a % 2:=by lia
   rw[ea,eb]at h;generalize a / 2=u at *;generalize b / 2=v at *;generalize a % 2=w at *
   grind
  by_cases hp:a % 2=b % 2
  ·exact⟨n,by lia,fin _ a b e hp⟩
  ·refine⟨n+2 ^ k,by lia,?_⟩;rw[F_add,hd];refine fin _ a (b+(2 * d+1) * (4 * F n i+1)) ?_ ?_
   ·generalize F n i=y at *;generalize (2 * d+1) * (4 * y+1)=z
    grind
   ·have:((2 * d+1) * (4 * F n i+1)) % 2=1:=by rw[Nat.mul_mod,show(2 * d+1) % 2=1 by lia,show(4 * F n i+1) % 2=1 by lia]
    lia
theorem F_mod{m:Nat}:∀(n i:Nat),F n (i % m) % m=F n i % m
 | 0,i=>by rw[F,F,Nat.mod_mod]
 | n+1,i=>by
  rw[F,F,<-F_mod n (5 * (i % m)+1),<-F_mod n (5 * i+1)];congr 2;rw[Nat.add_mod,Nat.mul_mod,Nat.mod_mod,<-Nat.mul_mod,<-Nat.add_mod]
def meets(k i:Nat){t:Nat}(ht:t < 2 ^ k):∃n,n < 2 ^ k/\F n i % 2 ^ k=t:=by
 obtain⟨n,hn,a,b,e⟩:=cover k i t;refine⟨n,hn,?_⟩;have:=congrArg (· % 2 ^ k) e;simp only[Nat.add_mul_mod_self_left]at this;rw[this,Nat.mod_eq_of_lt ht]
end ST
namespace ST
open PySem PySem.SetTable
noncomputable def advN(t:SetTable):Nat->Probe->Probe
 | 0,p=>p
 | n+1,p=>advN t n (t.advance p)
theorem advN_add(t:SetTable):∀(n m:Nat) (p:Probe),advN t (n+m) p=advN t m (advN t n p)
 | 0,m,p=>by rw[Nat.zero_add,advN]
 | n+1,m,p=>by rw[show n+1+m=(n+m)+1 by lia,advN,advN_add t n m,advN]
noncomputable def nextRun(t:SetTable)(p:Probe):Probe:={ p with j:=(leap t.mask p.i p.perturb).1,more:=runEnd t.mask (leap t.mask p.i p.perturb).1 - (leap t.mask p.i p.perturb).1,i:=(leap t.mask p.i p.perturb).1,perturb:=(leap t.mask p.i p.perturb).2 }
theorem adv_run(t:SetTable):∀(m:Nat) (p:Probe),p.more=m->advN t (m+1) p=nextRun t p
 | 0,p,h=>by
  rw[advN,advN,advance,if_neg (by lia)];rfl
 | m+1,p,h=>by
  rw[advN,adv_run t m _ (by rw[advance,if_pos (by lia)];show p.more - 1=m;lia),advance,if_pos (by lia)];rfl
def runN(t:SetTable):Nat->Probe->Probe
 | 0,p=>p
 | n+1,p=>runN t n (nextRun t p)
def run_le(mask i:Nat):runEnd mask i - i<=9:=by unfold runEnd;split <;> lia
theorem adv_runs(t:SetTable):∀(n:Nat) (p:Probe),p.more<=9->∃m,m<=10 * n/\advN t m p=runN t n p
 | 0,p,_=>⟨0,by lia,rfl⟩
 | n+1,p,h=>by
  obtain⟨m,hm,e⟩:=adv_runs t n (nextRun t p) (run_le _ _);exact⟨p.more+1+m,by lia,by rw[advN_add,adv_run t _ p rfl,e,runN]⟩
theorem runN_add(t:SetTable):∀(n m:Nat) (p:Probe),runN t (n+m) p=runN t m (runN t n p)
 | 0,m,p=>by rw[Nat.zero_add,runN]
 | n+1,m,p=>by rw[show n+1+m=(n+m)+1 by lia,runN,runN_add t n m,runN]
theorem run_pert(t:SetTable):∀(n:Nat) (p:Probe),(runN t n p).perturb=p.perturb / 32 ^ n
 | 0,p=>by simp[runN]
 | n+1,p=>by
  rw[runN,run_pert t n];show p.perturb / 32 / 32 ^ n=_;rw[Nat.div_div_eq_div_mul,uMa,Nat.mul_comm]
theorem run_zero(t:SetTable):∀(n:Nat) (p:Probe),p.perturb=0->(runN t n p).i % (t.mask+1)=F n p.i % (t.mask+1)
 | 0,p,_=>rfl
 | n+1,p,h=>by
  rw[runN,run_zero t n (nextRun t p) (by show p.perturb / 32=0;rw[h]),F];show F n ((p.i * 5+1+p.perturb / 32) % (t.mask+1)) % (t.mask+1)=_;rw[h,F_mod,show p.i * 5+1+0 / 32=5 * p.i+1 by lia]
theorem run_j(t:SetTable):∀(n:Nat) (p:Probe),0 < n->(runN t n p).j=(runN t n p).i/\(runN t n p).i < t.mask+1
 | n+1,p,_=>by
  rw[runN];by_cases h:0 < n
  ·exact run_j t n _ h
  ·have e:n=0:=by lia
   subst e;exact⟨rfl,Nat.mod_lt _ (by lia)⟩
def reach(t:SetTable){k:Nat}(hm:t.mask+1=2 ^ k)(h:Int){s:Nat}(hs:s<=t.mask):∃n,n < 10 * turns t.mask/\(advN t n (t.probeStart h)).j=s:=by
 obtain⟨n,hn,e⟩:=meets k (runN t 13 (t.probeStart h)).i (t:=s) (by lia);obtain⟨m,hm',em⟩:=adv_runs t (13+n) (t.probeStart h) (run_le _ _);refine⟨m,by unfold turns;lia,?_⟩;have hp:(runN t 13 (t.probeStart h)).perturb=0:=by
  rw[run_pert];have hb:bits h < 2 ^ 64:=by
   unfold bits;have:=Int.emod_lt_of_pos h (show(0:Int) < 2 ^ 64 by decide);have:=Int.emod_nonneg h (show(2 ^ 64:Int)≠0 by decide)
   lia
  exact Nat.div_eq_of_lt (Nat.lt_of_lt_of_le hb (by decide))
 have z:=run_zero t n _ hp;obtain⟨j1,j2⟩:=run_j t (13+n) (t.probeStart h) (by lia);rw[em,j1];rw[<-runN_add,hm,e,Nat.mod_eq_of_lt (by lia)]at z;exact z
def Ris(xs:Array Nat):Prop:=∀i j (hi:i < xs.size) (hj:j < xs.size),i < j->xs[i] < xs[j]
theorem below_go{xs:Array Nat}(R:Ris xs)(j:Nat):∀(fuel lo hi:Nat),hi<=xs.size->hi - lo<=fuel->lo<=hi->(∀i (h:i < xs.size),i < lo->xs[i] < j)->(∀i (h:i < xs.size),hi<=i->j<=xs[i])->
  ∃b,below.go xs j fuel lo hi=b/\b<=xs.size/\(∀i (h:i < xs.size),i < b->xs[i] < j)/\∀i (h:i < xs.size),b<=i->j<=xs[i]
 | 0,lo,hi,hs,hf,hl,h1,h2=>by
  have e:lo=hi:=by lia
  subst e;exact⟨lo,rfl,hs,h1,h2⟩
 | fuel+1,lo,hi,hs,hf,hl,h1,h2=>by
  unfold below.go;by_cases c:lo < hi
  ·rw[if_pos c];have hm:(lo+hi) / 2 < xs.size:=by lia
   have eg:xs.getD ((lo+hi) / 2) j=xs[(lo+hi) / 2]:=by simp[Array.getD,hm]
   dsimp only;rw[eg];by_cases c2:xs[(lo+hi) / 2] < j
   ·rw[if_pos c2];refine below_go R j fuel _ hi hs (by lia) (by lia) (fun i h hi'=>?_) h2;by_cases e:i=(lo+hi) / 2
    ·subst e;exact c2
    ·exact Nat.lt_trans (R i _ h hm (by lia)) c2
   ·rw[if_neg c2];refine below_go R j fuel lo _ (by lia) (by lia) (by lia) h1 (fun i h hi'=>?_);by_cases e:i=(lo+hi) / 2
    ·subst e;lia
    ·have:=R _ i hm h (by lia)
     lia
  ·rw[if_neg c];have e:lo=hi:=by lia
   subst e;exact⟨lo,rfl,hs,h1,h2⟩
def below_ok{xs:Array Nat}(R:Ris xs)(j:Nat):below xs j<=xs.size/\(∀i (h:i < xs.size),i < below xs j->xs[i] < j)/\∀i (h:i < xs.size),below xs j<=i->j<=xs[i]:=by
 obtain⟨b,e,h⟩:=below_go R j xs.size 0 xs.size (wPa _) (by lia) (Nat.zero_le _) (fun i h hi=>by lia) (fun i h hi=>by lia);have e:below xs j=b:=e;rw[e];exact h
structure TOk (t:SetTable):Prop where
 pw:∃k,t.mask+1=2 ^ k
 ri:Ris t.place
 du:t.dummies=#[]
 le:∀i (h:i < t.place.size),t.place[i]<=t.mask
 fu:t.place.size<=t.mask
def slot_live{t:SetTable}(T:TOk t){i j:Nat}(h:t.place[i]?=some j):t.slot j=.live i:=by
 obtain⟨hi,e⟩:=Array.getElem?_eq_some_iff.mp h;obtain⟨h1,h2,h3⟩:=below_ok T.ri j;have eb:below t.place j=i:=by
  rcases Nat.lt_trichotomy (below t.place j) i with c | c | c
  ·have hb:below t.place j < t.place.size:=by lia
   have:=h3 _ hb (wPa _);have:=T.ri _ i hb hi c
   lia
  ·exact c
  ·have:=h2 i hi c
   lia
 unfold slot;dsimp only;rw[eb,h];simp
def slot_empty{t:SetTable}(T:TOk t){j:Nat}(h:∀i:Nat,t.place[i]?≠some j):t.slot j=.empty:=by
 unfold slot;dsimp only;rw[if_neg (by simpa using h _),T.du];rfl
def slot_or{t:SetTable}(T:TOk t)(j:Nat):(∃i:Nat,t.place[i]?=some j/\t.slot j=.live i) \/ ((∀i:Nat,t.place[i]?≠some j)/\t.slot j=.empty):=by
 by_cases h:∃i:Nat,t.place[i]?=some j
 ·obtain⟨i,h⟩:=h;exact .inl ⟨i,h,slot_live T h⟩
 ·have h:∀i:Nat,t.place[i]?≠some j:=fun i e=>h ⟨i,e⟩;exact .inr ⟨h,slot_empty T h⟩
def free_slot{t:SetTable}(T:TOk t):∃s,s<=t.mask/\t.slot s=.empty:=by
 refine Classical.byContradiction fun hn=>?_;have all:∀s,s<=t.mask->∃i:Nat,t.place[i]?=some s:=fun s hs=>by
  rcases slot_or T s with⟨i,h,_⟩ | ⟨_,h⟩
  ·exact⟨i,h⟩
  ·exact vDa ⟨s,hs,h⟩ hn
 have grow:∀n,n<=t.mask->∃i:Nat,t.place[i]?=some n/\n<=i:=fun n=>by
  induction n with
  | zero=>intro h;obtain⟨i,e⟩:=all 0 h;exact⟨i,e,Nat.zero_le _⟩
  | succ n ih=>
   intro h;obtain⟨i,e,hi⟩:=ih (by lia);obtain⟨i',e'⟩:=all (n+1) h;obtain⟨q1,q2⟩:=Array.getElem?_eq_some_iff.mp e;obtain⟨q3,q4⟩:=Array.getElem?_eq_some_iff.mp e';refine⟨i',e',?_⟩;by_cases c:i < i'
   ·lia
   ·by_cases c2:i=i'
    ·subst c2;lia
    ·have:=T.ri i' i q3 q1 (by lia)
     lia
 obtain⟨i,e,hi⟩:=grow t.mask (wPa _);have:=(Array.getElem?_eq_some_iff.mp e).1;have:=T.fu
 lia
def adv_dummy(t:SetTable)(p:Probe):(t.advance p).dummy=p.dummy:=by
 unfold advance;split <;> rfl
theorem advN_dummy(t:SetTable):∀(n:Nat) (p:Probe),(advN t n p).dummy=p.dummy
 | 0,p=>rfl
 | n+1,p=>by rw[advN,advN_dummy t n,adv_dummy]
def advN_succ(t:SetTable)(n:Nat)(p:Probe):advN t (n+1) p=t.advance (advN t n p):=by rw[advN_add];rfl
def pj(t:SetTable)(h:Int)(n:Nat):Nat:=(advN t n (t.probeStart h)).j
structure FirstF (t:SetTable) (h:Int) (N:Nat):Prop where
 lt:N < 10 * turns t.mask
 em:t.slot (pj t h N)=.empty
 lv:∀m,m < N->∃i,t.slot (pj t h m)=.live i
def first_ex{t:SetTable}(T:TOk t)(h:Int):∃N,FirstF t h N:=by
 obtain⟨s,hs,e⟩:=free_slot T;obtain⟨k,hk⟩:=T.pw;obtain⟨n,hn,en⟩:=reach t hk h hs;have least:∀n,t.slot (pj t h n)=.empty->∃N,N<=n/\t.slot (pj t h N)=.empty/\∀m,m < N->t.slot (pj t h m)≠.empty:=fun n=>by
  induction n using Nat.strongRecOn with
  | ind n ih=>
   intro hn;by_cases c:∃m,m < n/\t.slot (pj t h m)=.empty
   ·obtain⟨m,h1,h2⟩:=c;obtain⟨N,q1,q2⟩:=ih m h1 h2;exact⟨N,by lia,q2⟩
   ·exact⟨n,wPa _,hn,fun m hm hc=>c ⟨m,hm,hc⟩⟩
 obtain⟨N,h1,h2,h3⟩:=least n (by unfold pj;rw[en];exact e);refine⟨N,by lia,h2,fun m hm=>?_⟩;rcases slot_or T (pj t h m)with⟨i,_,q⟩ | ⟨_,q⟩
 ·exact⟨i,q⟩
 ·exact vDa q (h3 m hm)
theorem go_ok{t:SetTable}{hashAt:Nat->Int}{h:Int}{N:Nat}(Fr:FirstF t h N):∀(d c f:Nat),N - c=d->c<=N->N - c < f->
  (∃m i,c<=m/\m < N/\t.slot (pj t h m)=.live i/\hashAt i=h/\(∀m',c<=m'->m' < m->∀i',t.slot (pj t h m')=.live i'->hashAt i'≠h)/\probe.go t hashAt h f (advN t c (t.probeStart h))=some (.candidate (pj t h m) i (advN t (m+1) (t.probeStart h)))) \/
  ((∀m',c<=m'->m' < N->∀i',t.slot (pj t h m')=.live i'->hashAt i'≠h)/\probe.go t hashAt h f (advN t c (t.probeStart h))=some (.empty (pj t h N) none))
 | 0,c,f+1,hd,hc,hf=>by
  have e:c=N:=by lia
  subst e;refine .inr ⟨fun m' h1 h2=>by lia,?_⟩;have:=Fr.em;unfold pj at this;rw[probe.go,this];show some (Met.empty _ (advN t c (t.probeStart h)).dummy)=_;rw[advN_dummy];rfl
 | d+1,c,f+1,hd,hc,hf=>by
  obtain⟨i,hi⟩:=Fr.lv c (by lia);have hi':=hi;unfold pj at hi';by_cases q:hashAt i=h
  ·refine .inl ⟨c,i,wPa _,by lia,hi,q,fun m' h1 h2=>by lia,?_⟩;rw[probe.go,hi'];dsimp only;rw[if_pos (by simpa using q),advN_succ];rfl
  ·have st:probe.go t hashAt h (f+1) (advN t c (t.probeStart h))=probe.go t hashAt h f (advN t (c+1) (t.probeStart h)):=by
    rw[probe.go,hi'];dsimp only;rw[if_neg (by simpa using q),advN_succ]
   have oth:∀i',t.slot (pj t h c)=.live i'->hashAt i'≠h:=fun i' e=>by
    rw[hi]at e;cases e;exact q
   rcases go_ok Fr d (c+1) f (by lia) (by lia) (by lia)with⟨m,i2,q1,q2,q3,q4,q5,q6⟩ | ⟨q5,q6⟩
   ·refine .inl ⟨m,i2,by lia,q2,q3,q4,fun m' h1 h2=>?_,by rw[st,q6]⟩;by_cases e:m'=c
    ·subst e;exact oth
    ·exact q5 m' (by lia) h2
   ·refine .inr ⟨fun m' h1 h2=>?_,by rw[st,q6]⟩;by_cases e:m'=c
    ·subst e;exact oth
    ·exact q5 m' (by lia) h2
 | 0,_,0,_,_,hf=>vDa hf (Nat.not_lt_zero _)
 | _+1,_,0,_,_,hf=>vDa hf (Nat.not_lt_zero _)
structure TI (t:SetTable) (hs:Array Int):Prop extends TOk t where
 n:t.place.size=hs.size
 pa:∀i (h:i < hs.size) (h':i < t.place.size),∃m,pj t hs[i] m=t.place[i]/\∀m',m' < m->∃i',t.slot (pj t hs[i] m')=.live i'
def TI.ahead{t:SetTable}{hs:Array Int}(I:TI t hs){h:Int}{N:Nat}(Fr:FirstF t h N){i:Nat}(hi:hs[i]?=some h):∃m,m < N/\t.slot (pj t h m)=.live i:=by
 obtain⟨h1,e⟩:=Array.getElem?_eq_some_iff.mp hi;have h2:i < t.place.size:=by rw[I.n];exact h1
 obtain⟨m,q1,q2⟩:=I.pa i h1 h2;rw[e]at q1 q2;have lv:t.slot (pj t h m)=.live i:=by
  rw[q1];exact slot_live I.toTOk (Array.getElem?_eq_some_iff.mpr ⟨h2,rfl⟩)
 refine⟨m,?_,lv⟩;rcases Nat.lt_trichotomy m N with c | c | c
 ·exact c
 ·subst c;have:=Fr.em;rw[lv]at this;cases this
 ·obtain⟨i',q⟩:=q2 N c;have:=Fr.em;rw[q]at this;cases this
def ins_get{α:Type}{xs:Array α}{p:Nat}(hp:p<=xs.size)(x:α)(i:Nat):(insertAt xs p x)[i]?=if i < p then xs[i]? else if i=p then some x else xs[i - 1]?:=by
 unfold insertAt;have e1:((xs.extract 0 p).push x).size=p+1:=by simp;lia
 by_cases c:i < p
 ·rw[if_pos c,Array.getElem?_append_left (by lia),Array.getElem?_push_lt (by simp;lia)];simp
 ·rw[if_neg c];by_cases c2:i=p
  ·subst c2;rw[if_pos rfl,Array.getElem?_append_left (by lia)];have e2:(xs.extract 0 i).size=i:=by simp;lia
   have:=Array.getElem?_push_size (xs:=xs.extract 0 i) (x:=x);rw[e2]at this;exact this
  ·rw[if_neg c2,Array.getElem?_append_right (by lia),e1,Array.getElem?_extract];by_cases c3:i - (p+1) < xs.size - p
   ·rw[if_pos (by lia)];congr 1
    lia
   ·rw[if_neg (by lia)];exact(Array.getElem?_eq_none (by lia)).symm
def ins_size{α:Type}{xs:Array α}{p:Nat}(hp:p<=xs.size)(x:α):(insertAt xs p x).size=xs.size+1:=by
 unfold insertAt;simp
 lia
def adv_congr{t t':SetTable}(e:t'.mask=t.mask)(p:Probe):t'.advance p=t.advance p:=by
 unfold advance;rw[e]
def pj_congr{t t':SetTable}(e:t'.mask=t.mask)(h:Int)(n:Nat):pj t' h n=pj t h n:=by
 have go:∀n p,advN t' n p=advN t n p:=fun n=>by
  induction n with
  | zero=>intro p;rfl
  | succ n ih=>intro p;rw[advN,advN,adv_congr e,ih]
 have es:t'.probeStart h=t.probeStart h:=by unfold probeStart;rw[e]
 unfold pj;rw[es,go]
def ris_get{xs:Array Nat}:Ris xs↔∀(i j a b:Nat),xs[i]?=some a->xs[j]?=some b->i < j->a < b:=by
 constructor
 ·intro R i j a b h1 h2 hij;obtain⟨q1,rfl⟩:=Array.getElem?_eq_some_iff.mp h1;obtain⟨q2,rfl⟩:=Array.getElem?_eq_some_iff.mp h2;exact R i j q1 q2 hij
 ·intro R i j hi hj hij;exact R i j _ _ (Array.getElem?_eq_getElem hi) (Array.getElem?_eq_getElem hj) hij
def put_tok{t:SetTable}(T:TOk t){j:Nat}(hj:j<=t.mask)(he:∀i:Nat,t.place[i]?≠some j)(hr:t.place.size < t.mask):TOk (t.put j).1/\(t.put j).1.mask=t.mask/\(t.put j).1.place=insertAt t.place (below t.place j) j:=by
 obtain⟨b1,b2,b3⟩:=below_ok T.ri j;have ep:(t.put j).1.place=insertAt t.place (below t.place j) j:=rfl;refine⟨⟨T.pw,?_,?_,?_,?_⟩,rfl,ep⟩
 ·rw[ep,ris_get];intro i k a b h1 h2 hik;rw[ins_get b1]at h1 h2;have lo:∀(i a:Nat),i < below t.place j->t.place[i]?=some a->a < j:=fun i a hi h=>by
   obtain⟨q,rfl⟩:=Array.getElem?_eq_some_iff.mp h;exact b2 i q hi
  have hi':∀(i a:Nat),below t.place j<=i->t.place[i]?=some a->j < a:=fun i a hi h=>by
   have hne:a≠j:=fun e=>he i (by rw[h,e]);obtain⟨q,rfl⟩:=Array.getElem?_eq_some_iff.mp h;have:=b3 i q hi
   lia
  by_cases c1:i < below t.place j
  ·rw[if_pos c1]at h1;have l1:=lo i a c1 h1;by_cases c2:k < below t.place j
   ·rw[if_pos c2]at h2;exact ris_get.mp T.ri i k a b h1 h2 hik
   ·rw[if_neg c2]at h2;by_cases c3:k=below t.place j
    ·rw[if_pos c3]at h2;cases h2;exact l1
    ·rw[if_neg c3]at h2;have:=hi' _ b (by lia) h2
     lia
  ·rw[if_neg c1]at h1;rw[if_neg (by lia),if_neg (by lia)]at h2;by_cases c3:i=below t.place j
   ·rw[if_pos c3]at h1;cases h1;exact hi' _ b (by lia) h2
   ·rw[if_neg c3]at h1;exact ris_get.mp T.ri _ _ a b h1 h2 (by lia)
 ·show(if has t.dummies j then _ else t.dummies)=#[];rw[T.du];rfl
 ·intro i h;have g:=ins_get b1 j i;have h0:i < (insertAt t.place (below t.place j) j).size:=h;rw[Array.getElem?_eq_getElem h0]at g;show(insertAt t.place (below t.place j) j)[i]<=t.mask;by_cases c1:i < below t.place j
  ·rw[if_pos c1]at g;obtain⟨q,e⟩:=Array.getElem?_eq_some_iff.mp g.symm;rw[<-e];exact T.le i q
  ·rw[if_neg c1]at g;by_cases c2:i=below t.place j
   ·rw[if_pos c2]at g;rw[Option.some.inj g];exact hj
   ·rw[if_neg c2]at g;obtain⟨q,e⟩:=Array.getElem?_eq_some_iff.mp g.symm;rw[<-e];exact T.le _ q
 ·show(insertAt t.place (below t.place j) j).size<=t.mask;rw[ins_size b1]
  lia
def put_ti{t:SetTable}{hs:Array Int}(I:TI t hs){h:Int}{N:Nat}(Fr:FirstF t h N)(hj:pj t h N<=t.mask)(hr:t.place.size < t.mask):TI (t.put (pj t h N)).1 (insertAt hs (below t.place (pj t h N)) h):=by
 have he:∀i:Nat,t.place[i]?≠some (pj t h N):=fun i e=>by
  have:=slot_live I.toTOk e;rw[Fr.em]at this;cases this
 obtain⟨T',em,ep⟩:=put_tok I.toTOk hj he hr;obtain⟨b1,_,_⟩:=below_ok I.ri (pj t h N);have b1':below t.place (pj t h N)<=hs.size:=by rw[<-I.n];exact b1
 have live:∀(s i:Nat),t.slot s=.live i->∃i',(t.put (pj t h N)).1.slot s=.live i':=fun s i hl=>by
  rcases slot_or I.toTOk s with⟨k,q,_⟩ | ⟨_,q⟩
  ·have g:∃k':Nat,(t.put (pj t h N)).1.place[k']?=some s:=by
    rw[ep];by_cases c:k < below t.place (pj t h N)
    ·exact⟨k,by rw[ins_get b1,if_pos c];exact q⟩
    ·exact⟨k+1,by rw[ins_get b1,if_neg (by lia),if_neg (by lia)];exact q⟩
   obtain⟨k',g⟩:=g;exact⟨k',slot_live T' g⟩
  ·rw[q]at hl;cases hl
 refine⟨T',by rw[ep,ins_size b1,ins_size b1',I.n],fun i h1 h2=>?_⟩;have gh:=ins_get b1' h i;rw[Array.getElem?_eq_getElem h1]at gh;have gp:=ins_get b1 (pj t h N) i;have h2':i < (insertAt t.place (below t.place (pj t h N)) (pj t h N)).size:=h2;rw[Array.getElem?_eq_getElem h2']at gp;have ex:∀(x:Int) (s:Nat),(insertAt hs (below t.place (pj t h N)) h)[i]=x->(insertAt t.place (below t.place (pj t h N)) (pj t h N))[i]=s->(∃m,pj t x m=s/\∀m',m' < m->∃i',t.slot (pj t x m')=.live i')->∃m,pj (t.put (pj t h N)).1 (insertAt hs (below t.place (pj t h N)) h)[i] m=(t.put (pj t h N)).1.place[i]/\∀m',m' < m->∃i',(t.put (pj t h N)).1.slot (pj (t.put (pj t h N)).1 (insertAt hs (below t.place (pj t h N)) h)[i] m')=.live i':=fun x s e1 e2 hm=>by
  obtain⟨m,q1,q2⟩:=hm;refine⟨m,?_,fun m' hm'=>?_⟩
  ·rw[pj_congr em,e1,q1];exact e2.symm
  ·rw[pj_congr em,e1];obtain⟨i',q⟩:=q2 m' hm';exact live _ _ q
 by_cases c1:i < below t.place (pj t h N)
 ·rw[if_pos c1]at gh gp;obtain⟨k1,e1⟩:=Array.getElem?_eq_some_iff.mp gh.symm;obtain⟨k2,e2⟩:=Array.getElem?_eq_some_iff.mp gp.symm;exact ex _ _ e1.symm e2.symm (I.pa i k1 k2)
 ·rw[if_neg c1]at gh gp;by_cases c2:i=below t.place (pj t h N)
  ·rw[if_pos c2]at gh gp;exact ex _ _ (vFa gh) (vFa gp) ⟨N,rfl,Fr.lv⟩
  ·rw[if_neg c2]at gh gp;obtain⟨k1,e1⟩:=Array.getElem?_eq_some_iff.mp gh.symm;obtain⟨k2,e2⟩:=Array.getElem?_eq_some_iff.mp gp.symm;exact ex _ _ e1.symm e2.symm (I.pa _ k1 k2)
theorem adv_in(t:SetTable):∀(k:Nat) (p:Probe),k<=p.more->(advN t k p).j=p.j+k/\(advN t k p).more=p.more - k/\(advN t k p).i=p.i/\(advN t k p).perturb=p.perturb
 | 0,p,_=>⟨rfl,rfl,rfl,rfl⟩
 | k+1,p,h=>by
  rw[advN];have e:t.advance p={ p with j:=p.j+1,more:=p.more - 1 }:=by rw[advance,if_pos (by lia)]
  obtain⟨h1,h2,h3,h4⟩:=adv_in t k (t.advance p) (by rw[e];show k<=p.more - 1;lia);rw[e]at h1 h2 h3 h4⊢;refine⟨by rw[h1];show p.j+1+k=_;lia,by rw[h2];show p.more - 1 - k=_;lia,h3,h4⟩
def owned(owner:Array (Option Nat))(j:Nat):Prop:=(owner.getD j (some 0)).isNone=false
theorem free_ok(t:SetTable)(owner:Array (Option Nat))(h:Int):∀(fuel n:Nat),(advN t n (t.probeStart h)).j=(advN t n (t.probeStart h)).i->(advN t n (t.probeStart h)).more=runEnd t.mask (advN t n (t.probeStart h)).i - (advN t n (t.probeStart h)).i->(∀m,m < n->owned owner (pj t h m))->
  ∀j,layClean.free t.mask owner fuel (advN t n (t.probeStart h)).i (advN t n (t.probeStart h)).perturb=some j->∃N,pj t h N=j/\(owner.getD j (some 0)).isNone=true/\∀m,m < N->owned owner (pj t h m)
 | 0,n,_,_,_,j,e=>by cases e
 | fuel+1,n,hj,hm,ho,j,e=>by
  have ge:(advN t n (t.probeStart h)).i<=runEnd t.mask (advN t n (t.probeStart h)).i:=by unfold runEnd;split <;> lia
  have at':∀k,k<=(advN t n (t.probeStart h)).more->pj t h (n+k)=(advN t n (t.probeStart h)).i+k:=fun k hk=>by
   unfold pj;rw[advN_add,(adv_in t k _ hk).1,hj]
  rw[layClean.free]at e;cases hf:(List.range (runEnd t.mask (advN t n (t.probeStart h)).i+1 - (advN t n (t.probeStart h)).i)).find? fun k=>(owner.getD ((advN t n (t.probeStart h)).i+k) (some 0)).isNone with
  | some k=>
   rw[hf]at e;have e:=vFa e;have hk:=List.mem_range.mp (List.mem_of_find?_eq_some hf);have hp:=List.find?_some hf;refine⟨n+k,by rw[at' k (by lia)];exact e,by rw[<-e];exact hp,fun m hmn=>?_⟩;by_cases c:m < n
   ·exact ho m c
   ·obtain⟨k',rfl⟩:∃k',m=n+k':=⟨m - n,by lia⟩
    rw[at' k' (by lia)];obtain⟨_,as,bs,hl,hb⟩:=List.find?_eq_some_iff_append.mp hf;have hlen:as.length=k:=by
     have h1:(List.range (runEnd t.mask (advN t n (t.probeStart h)).i+1 - (advN t n (t.probeStart h)).i))[as.length]?=some k:=by rw[hl];simp
     obtain⟨_,e'⟩:=uSa h1;rw[List.getElem_range]at e';exact e'
    have hin:k'∈as:=by
     have h1:=congrArg (fun l=>l[k']?) hl;rw[uRa (by lia)]at h1;rw[List.getElem?_range (by lia)]at h1;exact wYa h1.symm
    have:=hb k' hin
    unfold owned;simpa using this
  | none=>
   rw[hf]at e;have hn:=List.find?_eq_none.mp hf;have run:=adv_run t _ (advN t n (t.probeStart h)) rfl;rw[<-advN_add]at run;have all:∀m,m < n+((advN t n (t.probeStart h)).more+1)->owned owner (pj t h m):=fun m hmn=>by
    by_cases c:m < n
    ·exact ho m c
    ·obtain⟨k',rfl⟩:∃k',m=n+k':=⟨m - n,by lia⟩
     rw[at' k' (by lia)];exact Bool.eq_false_iff.mpr (hn k' (List.mem_range.mpr (by lia)))
   refine free_ok t owner h fuel (n+((advN t n (t.probeStart h)).more+1)) (by rw[run];rfl) (by rw[run];rfl) all j ?_;rw[run];exact e
theorem free_some(t:SetTable)(owner:Array (Option Nat)):∀(fuel:Nat) (p:Probe),(∃r,r < fuel/\(owner.getD (runN t r p).i (some 0)).isNone=true)->∃j,layClean.free t.mask owner fuel p.i p.perturb=some j
 | 0,p,h=>by obtain⟨r,hr,_⟩:=h;lia
 | fuel+1,p,h=>by
  rw[layClean.free];cases hf:(List.range (runEnd t.mask p.i+1 - p.i)).find? fun k=>(owner.getD (p.i+k) (some 0)).isNone with
  | some k=>exact⟨_,rfl⟩
  | none=>
   obtain⟨r,hr,hz⟩:=h;cases r with
   | zero=>
    have ge:p.i<=runEnd t.mask p.i:=by unfold runEnd;split <;> lia
    have:=List.find?_eq_none.mp hf 0 (List.mem_range.mpr (by lia));have hz:(owner.getD p.i (some 0)).isNone=true:=hz;exact vDa hz (by simpa using this)
   | succ r=>exact free_some t owner fuel (nextRun t p) ⟨r,by lia,hz⟩
structure LI (t:SetTable) (hs:List Int) (owner:Array (Option Nat)) (js:List Nat):Prop where
 sz:owner.size=t.mask+1
 ln:js.length=hs.length
 to:∀(q j:Nat),js[q]?=some j->owner[j]?=some (some q)
 of:∀(q j:Nat),owner[j]?=some (some q)->js[q]?=some j
 pa:∀(q j:Nat) (h:Int),js[q]?=some j->hs[q]?=some h->∃N,pj t h N=j/\∀m,m < N->owned owner (pj t h m)
noncomputable def stepL(mask:Nat)(acc:Option (Array (Option Nat)×Nat))(h:Int):Option (Array (Option Nat)×Nat):=do
 let (owner,k)<-acc
 let j<-layClean.free mask owner (turns mask) (bits h % (mask+1)) (bits h)
 pure (owner.setIfInBounds j (some k),k+1)
def li_start(t:SetTable):LI t [] (Array.replicate (t.mask+1) none) [] where
 sz:=by simp
 ln:=rfl
 to:=fun q j h=>by simp at h
 of:=fun q j h=>by
  rw[Array.getElem?_replicate]at h;split at h <;> cases h
 pa:=fun q j h h1=>by simp at h1
def li_step{t:SetTable}(hpw:∃k,t.mask+1=2 ^ k){hs:List Int}{owner:Array (Option Nat)}{js:List Nat}(I:LI t hs owner js)(hr:hs.length<=t.mask)(h:Int):∃owner' js',stepL t.mask (some (owner,hs.length)) h=some (owner',hs.length+1)/\LI t (hs++[h]) owner' js':=by
 have ex:∃s,s<=t.mask/\(owner.getD s (some 0)).isNone=true:=by
  refine Classical.byContradiction fun hn=>?_;have all:∀s,s<=t.mask->s∈js:=fun s hs'=>by
   have hlt:s < owner.size:=by rw[I.sz];lia
   have hg:owner.getD s (some 0)=owner[s]:=by simp[Array.getD,hlt]
   cases ho:owner[s]with
   | none=>exact vDa ⟨s,hs',by rw[hg,ho];rfl⟩ hn
   | some q=>exact wYa (I.of q s (by rw[Array.getElem?_eq_getElem hlt,ho]))
  have:=List.Nodup.length_le_of_subset (List.nodup_range (n:=t.mask+1)) (fun s hs'=>all s (by have:=List.mem_range.mp hs';lia):List.range (t.mask+1)⊆js);rw[List.length_range,I.ln]at this
  lia
 obtain⟨s,hs',hf⟩:=ex;obtain⟨k,hk⟩:=hpw;have hrun:∃r,r < turns t.mask/\(owner.getD (runN t r (t.probeStart h)).i (some 0)).isNone=true:=by
  obtain⟨n,hn,e⟩:=meets k (runN t 13 (t.probeStart h)).i (t:=s) (by lia);have hp:(runN t 13 (t.probeStart h)).perturb=0:=by
   rw[run_pert];have hb:bits h < 2 ^ 64:=by
    unfold bits;have:=Int.emod_lt_of_pos h (show(0:Int) < 2 ^ 64 by decide);have:=Int.emod_nonneg h (show(2 ^ 64:Int)≠0 by decide)
    lia
   exact Nat.div_eq_of_lt (Nat.lt_of_lt_of_le hb (by decide))
  have z:=run_zero t n _ hp;obtain⟨_,j2⟩:=run_j t (13+n) (t.probeStart h) (by lia);rw[<-runN_add,hk,e,Nat.mod_eq_of_lt (by lia)]at z;exact⟨13+n,by unfold turns;lia,by rw[z];exact hf⟩
 obtain⟨j,ej⟩:=free_some t owner (turns t.mask) (t.probeStart h) hrun;obtain⟨N,q1,q2,q3⟩:=free_ok t owner h (turns t.mask) 0 rfl rfl (fun m hm=>by lia) j ej;have ej:layClean.free t.mask owner (turns t.mask) (bits h % (t.mask+1)) (bits h)=some j:=ej;have hj:j < owner.size:=by
  refine Classical.byContradiction fun hn=>?_;have:owner.getD j (some 0)=some 0:=by simp[Array.getD,hn]
  rw[this]at q2;cases q2
 have hn:owner[j]?=some none:=by
  have hg:owner.getD j (some 0)=owner[j]:=by simp[Array.getD,hj]
  rw[hg]at q2;rw[Array.getElem?_eq_getElem hj];cases ho:owner[j]with
  | none=>rfl
  | some x=>rw[ho]at q2;cases q2
 have gset:∀i:Nat,(owner.setIfInBounds j (some hs.length))[i]?=if j=i then some (some hs.length)else owner[i]?:=fun i=>by
  rw[Array.getElem?_setIfInBounds,if_pos hj]
 have own:∀i,owned owner i->owned (owner.setIfInBounds j (some hs.length)) i:=fun i ho=>by
  unfold owned at ho⊢;rw[Array.getD_eq_getD_getElem?]at ho⊢;rw[gset];split
  ·rfl
  ·exact ho
 refine⟨owner.setIfInBounds j (some hs.length),js++[j],by simp[stepL,ej],by simp[I.sz],by simp[I.ln],fun q i hq=>?_,fun q i hq=>?_,fun q i x hq hx=>?_⟩
 ·rw[gset];by_cases c:q < js.length
  ·rw[uRa c]at hq;have:=I.to q i hq;rw[if_neg (fun e=>by rw[<-e,hn]at this;cases this)];exact this
  ·have e:q=js.length:=by
    have:=(uSa hq).1;simp at this
    lia
   subst e;simp at hq;rw[if_pos hq,I.ln]
 ·rw[gset]at hq;by_cases c:j=i
  ·rw[if_pos c]at hq;have:hs.length=q:=by simpa using hq
   rw[<-this,<-I.ln,<-c];simp
  ·rw[if_neg c]at hq;have:=I.of q i hq;rw[uRa (List.getElem?_eq_some_iff.mp this).1];exact this
 ·by_cases c:q < js.length
  ·rw[uRa c]at hq;rw[uRa (by rw[<-I.ln];exact c)]at hx;obtain⟨M,m1,m2⟩:=I.pa q i x hq hx;exact⟨M,m1,fun m hm=>own _ (m2 m hm)⟩
  ·have e:q=js.length:=by
    have:=(uSa hq).1;simp at this
    lia
   subst e;simp at hq;rw[I.ln]at hx;simp at hx;subst hq hx;exact⟨N,q1,fun m hm=>own _ (q3 m hm)⟩
theorem li_all{t:SetTable}(hpw:∃k,t.mask+1=2 ^ k):∀(r hs:List Int) (owner:Array (Option Nat)) (js:List Nat),LI t hs owner js->(hs++r).length<=t.mask+1->∃owner' js',r.foldl (stepL t.mask) (some (owner,hs.length))=some (owner',(hs++r).length)/\LI t (hs++r) owner' js'
 | [],hs,owner,js,I,_=>⟨owner,js,by simp,by simpa using I⟩
 | h::r,hs,owner,js,I,hl=>by
  obtain⟨o1,j1,e1,I1⟩:=li_step hpw I (by simp at hl;lia) h;obtain⟨o2,j2,e2,I2⟩:=li_all hpw r (hs++[h]) o1 j1 I1 (by simp at hl⊢;lia);refine⟨o2,j2,?_,by simpa using I2⟩;rw[List.foldl_cons,e1];simpa using e2
def lay_ok{t:SetTable}(hpw:∃k,t.mask+1=2 ^ k)(hs:Array Int)(hl:hs.size<=t.mask):∃owner js,layClean t.mask hs=some owner/\LI t hs.toList owner js:=by
 obtain⟨owner,js,e,I⟩:=li_all hpw hs.toList [] _ [] (li_start t) (by simp;lia);refine⟨owner,js,?_,by simpa using I⟩;have e:hs.toList.foldl (stepL t.mask) (some (Array.replicate (t.mask+1) none,0))=some (owner,hs.size):=by simpa using e
 unfold layClean;rw[<-Array.foldl_toList];show(hs.toList.foldl (stepL t.mask) (some (Array.replicate (t.mask+1) none,0))).map (·.1)=_;rw[e];rfl
theorem adv_le(t:SetTable):∀(n:Nat) (p:Probe),p.j+p.more<=t.mask->(advN t n p).j+(advN t n p).more<=t.mask
 | 0,p,h=>h
 | n+1,p,h=>by
  rw[advN];refine adv_le t n _ ?_;unfold advance;split
  ·show p.j+1+(p.more - 1)<=_;lia
  ·show(leap t.mask p.i p.perturb).1+(runEnd t.mask (leap t.mask p.i p.perturb).1 - (leap t.mask p.i p.perturb).1)<=t.mask;have:(leap t.mask p.i p.perturb).1 < t.mask+1:=Nat.mod_lt _ (by lia);generalize (leap t.mask p.i p.perturb).1=x at *;unfold runEnd;split <;> lia
def pj_le(t:SetTable)(h:Int)(n:Nat):pj t h n<=t.mask:=by
 have:=adv_le t n (t.probeStart h) (by
  show bits h % (t.mask+1)+(runEnd t.mask (bits h % (t.mask+1)) - bits h % (t.mask+1))<=t.mask;have:bits h % (t.mask+1) < t.mask+1:=Nat.mod_lt _ (by lia);generalize bits h % (t.mask+1)=x at *;unfold runEnd;split <;> lia)
 unfold pj
 lia
theorem fst_filter(f:Nat->Option Nat):∀l:List Nat,(l.filterMap fun j=>(f j).map (j,·)).map (·.1)=l.filter fun j=>(f j).isSome
 | []=>rfl
 | j::l=>by
  rw[List.filterMap_cons,List.filter_cons];cases hf:f j with
  | none=>simpa[hf]using fst_filter f l
  | some q=>simpa[hf]using fst_filter f l
def laid_ok{mask:Nat}(hpw:∃k,mask+1=2 ^ k)(hs:Array Int)(hl:hs.size<=mask)(finger moves:Nat)(led plain:Bool):∃t' order,laid mask finger moves led plain hs=some (t',order)/\t'.mask=mask/\t'.led=led/\t'.plain=plain/\order.size=hs.size/\order.toList.Nodup/\(∀q∈order.toList,q < hs.size)/\TI t' (order.map fun q=>hs.getD q 0):=by
 obtain⟨owner,js,e,I⟩:=lay_ok (t:={ fresh finger moves led with mask:=mask }) hpw hs hl;have e:layClean mask hs=some owner:=e;have sz:owner.size=mask+1:=I.sz
 let live:=(List.range (mask+1)).filterMap fun j=>(owner.getD j none).map (j,·)
 have hlive:live=(List.range (mask+1)).filterMap fun j=>(owner.getD j none).map (j,·):=rfl
 let t':SetTable:={ mask,place:=(live.map (·.1)).toArray,dummies:=#[],finger,led,moves,plain }
 have ht':t'={ mask,place:=(live.map (·.1)).toArray,dummies:=#[],finger,led,moves,plain }:=rfl;have em:t'.mask=({ fresh finger moves led with mask:=mask }:SetTable).mask:=rfl;have el:laid mask finger moves led plain hs=some (t',(live.map (·.2)).toArray):=by
  unfold laid;rw[e];rfl
 have gd:∀(j q:Nat),owner.getD j none=some q↔owner[j]?=some (some q):=fun j q=>by
  rw[Array.getD_eq_getD_getElem?];cases owner[j]? <;> simp
 have mem:∀j q,(j,q)∈live↔owner[j]?=some (some q):=fun j q=>by
  rw[hlive,List.mem_filterMap];constructor
  ·rintro⟨j',_,h⟩;obtain⟨q',h1,h2⟩:=Option.map_eq_some_iff.mp h;cases h2;exact(gd j q).mp h1
  ·intro h;have:=(Array.getElem?_eq_some_iff.mp h).1;exact⟨j,List.mem_range.mpr (by lia),by rw[(gd j q).mpr h];rfl⟩
 have hfst:=fst_filter (fun j=>owner.getD j none) (List.range (mask+1));rw[<-hlive]at hfst;have pw:(live.map (·.1)).Pairwise (· < ·):=by
  rw[hfst];exact List.Pairwise.filter _ List.pairwise_lt_range
 have nd1:(live.map (·.1)).Nodup:=pw.imp fun h=>wTa h;have jsnd:js.Nodup:=by
  refine List.pairwise_iff_getElem.mpr fun a b ha hb hab he=>?_;have h1:=I.to a js[a] (List.getElem?_eq_getElem ha);have h2:=I.to b js[b] (List.getElem?_eq_getElem hb);rw[he,h2]at h1;have:b=a:=by simpa using h1
  lia
 have lenl:live.length=hs.size:=by
  have s1:live.map (·.1)⊆js:=fun j hj=>by
   obtain⟨⟨j',q⟩,h1,rfl⟩:=uVa hj;exact wYa (I.of q j' ((mem j' q).mp h1))
  have s2:js⊆live.map (·.1):=fun j hj=>by
   obtain⟨q,hq⟩:=List.mem_iff_getElem?.mp hj;exact List.mem_map.mpr ⟨(j,q),(mem j q).mpr (I.to q j hq),rfl⟩
  have h1:=nd1.length_le_of_subset s1;have h2:=jsnd.length_le_of_subset s2;have h3:=I.ln;simp at h1 h2 h3
  lia
 have nd2:(live.map (·.2)).Nodup:=by
  refine List.pairwise_iff_getElem.mpr fun a b ha hb hab he=>?_;rw[vYa]at ha hb;have h1:=(mem live[a].1 live[a].2).mp (List.getElem_mem ha);have h2:=(mem live[b].1 live[b].2).mp (List.getElem_mem hb);have e':live[a].2=live[b].2:=by simpa using he
  have h1':=I.of _ _ h1;have h2':=I.of _ _ h2;rw[e',h2']at h1';have h3:live[b].1=live[a].1:=by simpa using h1'
  have:=List.pairwise_iff_getElem.mp pw a b (by simpa using ha) (by simpa using hb) hab;simp at this
  lia
 have qlt:∀q∈live.map (·.2),q < hs.size:=fun q hq=>by
  obtain⟨⟨j,q'⟩,h1,rfl⟩:=uVa hq;have:=(uSa (I.of q' j ((mem j q').mp h1))).1;have h3:=I.ln;simp at h3;show q' < _
  lia
 have T:TOk t':=⟨hpw,fun i j hi hj hij=>by
   have:=List.pairwise_iff_getElem.mp pw i j (by simpa[ht']using hi) (by simpa[ht']using hj) hij;simpa[ht']using this,rfl,fun i h=>by
   have hi:i < live.length:=by simpa[ht']using h
   have h1:=(mem live[i].1 live[i].2).mp (List.getElem_mem hi);have:=(Array.getElem?_eq_some_iff.mp h1).1;have:live[i].1<=mask:=by lia
   simpa[ht']using this,by
   show(live.map (·.1)).toArray.size<=mask;simp
   lia⟩
 refine⟨t',_,el,rfl,rfl,rfl,by simp[lenl],nd2,qlt,T,by simp[ht'],fun i h1 h2=>?_⟩;have hi:i < live.length:=by simpa using h1
 have h3:=(mem live[i].1 live[i].2).mp (List.getElem_mem hi);have h4:=I.of _ _ h3;have hq:live[i].2 < hs.size:=qlt _ (List.mem_map.mpr ⟨live[i],List.getElem_mem hi,rfl⟩);have e1:((live.map (·.2)).toArray.map fun q=>hs.getD q 0)[i]=hs[live[i].2]:=by simp[hq]
 have e2:t'.place[i]=live[i].1:=by simp[ht']
 obtain⟨N,q1,q2⟩:=I.pa _ _ hs[live[i].2] h4 (by simp[hq]);rw[e1,e2];refine⟨N,by rw[pj_congr em,q1],fun m hm=>?_⟩;have ho:=q2 m hm;have hle:pj ({ fresh finger moves led with mask:=mask }:SetTable) hs[live[i].2] m<=mask:=pj_le _ _ _;rw[pj_congr em];generalize pj ({ fresh finger moves led with mask:=mask }:SetTable) hs[live[i].2] m=s at *;have hso:s < owner.size:=by lia
 unfold owned at ho;rw[Array.getD_eq_getD_getElem?,Array.getElem?_eq_getElem hso]at ho;cases hos:owner[s]with
 | none=>rw[hos]at ho;cases ho
 | some q=>
  have hm':=(mem s q).mpr (by rw[Array.getElem?_eq_getElem hso,hos]);obtain⟨k,hk⟩:=List.mem_iff_getElem?.mp hm';exact⟨k,slot_live T (by simp[ht',hk])⟩
theorem above_go(n:Nat):∀(fuel k:Nat),n < 2 ^ (k+fuel)->∃m,sizeAbove.go n fuel (2 ^ k)=2 ^ m/\n < 2 ^ m/\k<=m/\(2 ^ m<=2 * n \/ m=k)
 | 0,k,h=>⟨k,rfl,by simpa using h,wPa _,.inr rfl⟩
 | fuel+1,k,h=>by
  rw[sizeAbove.go];by_cases c:2 ^ k<=n
  ·rw[if_pos c,show 2 ^ k * 2=2 ^ (k+1) by rw[uMa]];obtain⟨m,h1,h2,h3,h4⟩:=above_go n fuel (k+1) (by rw[show k+1+fuel=k+(fuel+1) by lia];exact h);refine⟨m,h1,h2,by lia,?_⟩;rcases h4 with h4 | h4
   ·exact .inl h4
   ·subst h4;left;rw[uMa]
    lia
  ·rw[if_neg c];exact⟨k,rfl,by lia,wPa _,.inr rfl⟩
def above_ok{n:Nat}(h:n < 2 ^ 60):∃m,sizeAbove n=2 ^ m/\n < 2 ^ m/\8<=2 ^ m/\(2 ^ m<=2 * n \/ m=3):=by
 obtain⟨m,h1,h2,h3,h4⟩:=above_go n 64 3 (Nat.lt_of_lt_of_le h (Nat.pow_le_pow_right (by decide) (by lia)));exact⟨m,h1,h2,wSa (by decide) (Nat.pow_le_pow_right (by decide) h3),h4⟩
def grown_ok{used:Nat}(h:used < 2 ^ 50):2 * used<=grown used/\grown used<=4 * used:=by
 unfold grown;split <;> lia
structure SI (t:SetTable) (hs:Array Int):Prop extends TI t hs where
 room:t.fill * 5 < t.mask * 3
def si_fresh(finger moves:Nat)(led:Bool):SI (fresh finger moves led) #[]:=by
 refine⟨⟨⟨⟨3,rfl⟩,fun i j hi=>by simp[SetTable.fresh]at hi,rfl,fun i h=>by simp[SetTable.fresh]at h,by simp[SetTable.fresh]⟩,rfl,fun i h=>by simp at h⟩,by simp[SetTable.fresh,fill]⟩
def fill_of{t:SetTable}(T:TOk t):t.fill=t.place.size:=by unfold fill;rw[T.du];simp
def SI.lt{t:SetTable}{hs:Array Int}(I:SI t hs):t.place.size < t.mask:=by
 have h1:=I.room;rw[fill_of I.toTOk]at h1
 lia
def relaid_ok{t:SetTable}{hs:Array Int}(hl:hs.size < 2 ^ 16)(h0:0 < hs.size):∃t' order,t.relaid hs (grown hs.size)=some (t',order)/\sizeAbove (grown hs.size)<=2 ^ 24/\t'.led=t.led/\t'.plain=t.plain/\order.size=hs.size/\order.toList.Nodup/\(∀q∈order.toList,q < hs.size)/\SI t' (order.map fun q=>hs.getD q 0):=by
 obtain⟨g1,g2⟩:=grown_ok (used:=hs.size) (by lia);obtain⟨m,a1,a2,a3,a4⟩:=above_ok (n:=grown hs.size) (by lia);have hm:sizeAbove (grown hs.size) - 1+1=2 ^ m:=by rw[a1];lia
 obtain⟨t',order,e1,e2,e3,e4,e5,e6,e7,e8⟩:=laid_ok (mask:=sizeAbove (grown hs.size) - 1) ⟨m,hm⟩ hs (by lia) t.finger (t.movedTo (sizeAbove (grown hs.size) - 1)) t.led t.plain
 refine⟨t',order,e1,?_,e3,e4,e5,e6,e7,e8,?_⟩
 ·rw[a1];rcases a4 with a4 | a4
  ·exact wSa a4 (by lia)
  ·rw[a4];decide
 ·rw[fill_of e8.toTOk,e2];have:=e8.n;simp at this
  lia
theorem F_per{m d x:Nat}(h:F d x % m=x % m):∀(q n:Nat),F (d * q+n) x % m=F n x % m
 | 0,n=>by rw[Nat.mul_zero,Nat.zero_add]
 | q+1,n=>by
  rw[show d * (q+1)+n=d+(d * q+n) by rw[Nat.mul_add];lia,F_add,<-F_mod,h,F_mod,F_per h q n]
def F_inj{k a b i:Nat}(hb:b < 2 ^ k)(hab:a < b):F a i % 2 ^ k≠F b i % 2 ^ k:=by
 intro e;have h:F (b - a) (F a i) % 2 ^ k=F a i % 2 ^ k:=by rw[<-F_add,show a+(b - a)=b by lia,e]
 have sub:List.range (2 ^ k)⊆(List.range (b - a)).map fun n=>F n (F a i) % 2 ^ k:=fun t ht=>by
  obtain⟨n,hn,en⟩:=meets k (F a i) (List.mem_range.mp ht);refine List.mem_map.mpr ⟨n % (b - a),List.mem_range.mpr (Nat.mod_lt _ (by lia)),?_⟩;have:=F_per h (n / (b - a)) (n % (b - a));rw[Nat.div_add_mod]at this;rw[<-this,en]
 have:=(List.nodup_range).length_le_of_subset sub;simp at this
 lia
def pert0(t:SetTable)(h:Int):(runN t 13 (t.probeStart h)).perturb=0:=by
 rw[run_pert];have hb:bits h < 2 ^ 64:=by
  unfold bits;have:=Int.emod_lt_of_pos h (show(0:Int) < 2 ^ 64 by decide);have:=Int.emod_nonneg h (show(2 ^ 64:Int)≠0 by decide)
  lia
 exact Nat.div_eq_of_lt (Nat.lt_of_lt_of_le hb (by decide))
def first_le{t:SetTable}(T:TOk t){h:Int}{N:Nat}(Fr:FirstF t h N):N<=10 * (t.place.size+14):=by
 refine Classical.byContradiction fun hn=>?_;obtain⟨k,hk⟩:=T.pw;have sub:((List.range (t.place.size+1)).map fun j=>F j (runN t 13 (t.probeStart h)).i % 2 ^ k)⊆t.place.toList:=fun v hv=>by
  obtain⟨j,hj,rfl⟩:=uVa hv;have hj:=List.mem_range.mp hj;obtain⟨m,hm,em⟩:=adv_runs t (13+j) (t.probeStart h) (run_le _ _);obtain⟨i,hi⟩:=Fr.lv m (by lia);unfold pj at hi;obtain⟨j1,j2⟩:=run_j t (13+j) (t.probeStart h) (by lia);have z:=run_zero t j _ (pert0 t h);rw[<-runN_add,Nat.mod_eq_of_lt j2,hk]at z;rw[em,j1,z]at hi;rcases slot_or T (F j (runN t 13 (t.probeStart h)).i % 2 ^ k)with⟨i',e,_⟩ | ⟨_,e⟩
  ·exact wYa (i:=i') (by simpa using e)
  ·rw[e]at hi;cases hi
 have fu:=T.fu;have nd:((List.range (t.place.size+1)).map fun j=>F j (runN t 13 (t.probeStart h)).i % 2 ^ k).Nodup:=by
  refine List.pairwise_map.mpr (List.Pairwise.imp_of_mem (fun {a b} _ hb hab=>?_) List.pairwise_lt_range);exact F_inj (by have:=List.mem_range.mp hb;lia) hab
 have:=nd.length_le_of_subset sub;simp at this
 lia
end ST
set_option Elab.async false
set_option maxRecDepth 100000
set_option maxHeartbeats 1000000
namespace L2
open PySem PySem.Spec PyProof.Rows
inductive KD where
 | i (n:Int) | s (x:Str) | t (l:List KD)
noncomputable instance:DecidableEq KD:=fun _ _=>Classical.propDecidable _
mutual
noncomputable def jy(h:Heap):KD->Value->Prop
 | .i n,v=>(∃t,v=.int n t) \/∃b:Bool,v=.bool b/\n=(if b then 1 else 0)
 | .s x,v=>∃t,v=.str x t
 | .t l,v=>∃a its,v=.ref a/\h.IsTuple a its/\j_ h l its.toList
noncomputable def j_(h:Heap):List KD->List Value->Prop
 | [],vs=>vs=[]
 | k::ks,vs=>∃v r,vs=v::r/\jy h k v/\j_ h ks r
end
mutual
noncomputable def KD.dep:KD->Nat
 | .i _=>0
 | .s _=>0
 | .t l=>yf l+1
noncomputable def yf:List KD->Nat
 | []=>0
 | k::ks=>max k.dep (yf ks)
end
mutual
noncomputable def KD.drw:KD->Nat
 | .i _=>1
 | .s _=>1
 | .t l=>G8 l+1
noncomputable def G8:List KD->Nat
 | []=>0
 | k::ks=>k.drw+G8 ks
end
mutual
noncomputable def jS(w:World):KD->Int
 | .i n=>hashInt n
 | .s x=>hashStr w x
 | .t l=>reduceHash (Builtin.Tuple.tupleHashOf (ui w l))
noncomputable def ui(w:World):List KD->List Int
 | []=>[]
 | k::ks=>jS w k::ui w ks
end
mutual
theorem jy.inj{h:Heap}:∀{x y:KD} {v:Value},jy h x v->jy h y v->x=y
 | .i n,.i m,v,p,q=>by
  rw[jy]at p;rw[jy]at q;rcases p with⟨t,rfl⟩ | ⟨b,rfl,rfl⟩
  ·rcases q with⟨t,e⟩ | ⟨b,e,_⟩ <;> cases e
   rfl
  ·rcases q with⟨t,e⟩ | ⟨b,e,rfl⟩ <;> cases e
   rfl
 | .s n,.s m,v,p,q=>by
  rw[jy]at p;rw[jy]at q;obtain⟨t,rfl⟩:=p;obtain⟨t,e⟩:=q;cases e;rfl
 | .t n,.t m,v,p,q=>by
  rw[jy]at p;rw[jy]at q;obtain⟨a,its,rfl,o1,p⟩:=p;obtain⟨a',its',e,o2,q⟩:=q;cases e;obtain⟨o,g,_,_,d⟩:=o1;obtain⟨o',g',_,_,d'⟩:=o2;rw[g]at g';cases g';rw[d]at d';cases d';rw[j_.inj p q]
 | .i n,.s m,v,p,q=>by
  rw[jy]at p;rw[jy]at q;obtain⟨t,rfl⟩:=q;rcases p with⟨t,e⟩ | ⟨b,e,_⟩ <;> cases e
 | .i n,.t m,v,p,q=>by
  rw[jy]at p;rw[jy]at q;obtain⟨_,_,rfl,_⟩:=q;rcases p with⟨t,e⟩ | ⟨b,e,_⟩ <;> cases e
 | .s n,.i m,v,p,q=>by
  rw[jy]at p;rw[jy]at q;obtain⟨t,rfl⟩:=p;rcases q with⟨t,e⟩ | ⟨b,e,_⟩ <;> cases e
 | .s n,.t m,v,p,q=>by
  rw[jy]at p;rw[jy]at q;obtain⟨t,rfl⟩:=p;obtain⟨_,_,e,_⟩:=q;cases e
 | .t n,.i m,v,p,q=>by
  rw[jy]at p;rw[jy]at q;obtain⟨_,_,rfl,_⟩:=p;rcases q with⟨t,e⟩ | ⟨b,e,_⟩ <;> cases e
 | .t n,.s m,v,p,q=>by
  rw[jy]at p;rw[jy]at q;obtain⟨_,_,rfl,_⟩:=p;obtain⟨t,e⟩:=q;cases e
theorem j_.inj{h:Heap}:∀{x y:List KD} {v:List Value},j_ h x v->j_ h y v->x=y
 | [],[],_,_,_=>rfl
 | [],_::_,_,p,q=>by
  rw[j_]at p;rw[j_]at q;subst p;obtain⟨_,_,e,_⟩:=q;cases e
 | _::_,[],_,p,q=>by
  rw[j_]at p;rw[j_]at q;subst q;obtain⟨_,_,e,_⟩:=p;cases e
 | x::xs,y::ys,_,p,q=>by
  rw[j_]at p;rw[j_]at q;obtain⟨v,r,rfl,p1,p2⟩:=p;obtain⟨v',r',e,q1,q2⟩:=q;cases e;rw[jy.inj p1 q1,j_.inj p2 q2]
end
mutual
theorem jy.keep{h h':Heap}(m:∀a its,h.IsTuple a its->h'.IsTuple a its):∀{k:KD} {v:Value},jy h k v->jy h' k v
 | .i _,_,p=>by rw[jy]at p⊢;exact p
 | .s _,_,p=>by rw[jy]at p⊢;exact p
 | .t l,_,p=>by
  rw[jy]at p⊢;obtain⟨a,its,rfl,o,p⟩:=p;exact⟨a,its,rfl,m a its o,j_.keep m p⟩
theorem j_.keep{h h':Heap}(m:∀a its,h.IsTuple a its->h'.IsTuple a its):∀{k:List KD} {v:List Value},j_ h k v->j_ h' k v
 | [],_,p=>by rw[j_]at p⊢;exact p
 | k::ks,_,p=>by
  rw[j_]at p⊢;obtain⟨v,r,rfl,p1,p2⟩:=p;exact⟨v,r,rfl,jy.keep m p1,j_.keep m p2⟩
end
section
variable {prog:Program} {w:World} {E:Value->Shared->Prop}
def qN{A:Around}{s:Shared}{b:Bool}{Q:Int->Shared->Prop}(hu:A.units < cLine)(h:Q (hashInt (if b then 1 else 0)) { s with toks:=s.toks+1 }):wpAny (model prog w) A (pyHash (.bool b)) Q E s:=by
 refine PySem.W.pyHash_slot (v:=.bool b) (T := "bool") rfl F.slot_bool_hash entry_int_hash (args_int_hash _) (beq_builtin_none _) (.inr hu) ?_;cases b
 ·exact(show wpAny _ _ (do ret (<-mkInt 0)) _ _ s from wAa (wpAny_mkInt (wBa ⟨_,_,rfl,by
    have e:reduceHash 0=hashInt 0:=by decide
    rw[e];exact h⟩)))
 ·exact(show wpAny _ _ (do ret (<-mkInt 1)) _ _ s from wAa (wpAny_mkInt (wBa ⟨_,_,rfl,by
    have e:reduceHash 1=hashInt 1:=by decide
    rw[e];exact h⟩)))
mutual
theorem GR:∀(k:KD) (v:Value) (A:Around) (s:Shared) (Q:Int->Shared->Prop),jy s.heap k v->A.units+k.dep < cLine->Q (jS w k) { s with toks:=s.toks+k.drw }->wpAny (model prog w) A (pyHash v) Q E s
 | .i n,v,A,s,Q,p,hu,h=>by
  rw[jy]at p;rw[jS,KD.drw]at h;rcases p with⟨t,rfl⟩ | ⟨b,rfl,rfl⟩
  ·exact wpAny_pyHash_int h
  ·exact qN (by rw[KD.dep]at hu;exact hu) h
 | .s x,v,A,s,Q,p,hu,h=>by
  rw[jy]at p;rw[jS,KD.drw]at h;obtain⟨t,rfl⟩:=p;exact wpAny_pyHash_str h
 | .t l,v,A,s,Q,p,hu,h=>by
  rw[jy]at p;rw[jS,KD.drw]at h;rw[KD.dep]at hu;obtain⟨a,its,rfl,o,p⟩:=p;obtain⟨ob,g,c,n,dt⟩:=o;refine PySem.W.pyHash_slot (v:=.ref a) (T := "tuple") ⟨_,g,c⟩ F.slot_tuple_hash F.entry_tuple_hash (F.args_tuple_hash_1 _) (beq_builtin_none _) (.inr (by lia)) ?_;refine(show wpAny _ _ (Builtin.Tuple.tupleItemsOf (.ref a) >>= _) _ _ s from wAa (wpAny_tupleItemsOf g dt (wAa ?_)));rw[<-Array.forIn_toList];refine Ku l its.toList A.in1 s #[] _ p (by rw[Around.in1_units];lia) fun b' hb=>?_;show wpAny _ _ (retInt (Builtin.Tuple.tupleHashOf b'.toList)) _ _ _;rw[hb];exact wAa (wpAny_mkInt (wBa ⟨_,_,rfl,by simpa[Nat.add_assoc]using h⟩))
theorem Ku:∀(ks:List KD) (vs:List Value) (A:Around) (s:Shared) (b:Array Int) (Q:Array Int->Shared->Prop),j_ s.heap ks vs->A.units+yf ks < cLine->(∀b':Array Int,b'.toList=b.toList++ui w ks->Q b' { s with toks:=s.toks+G8 ks })->
  wpAny (model prog w) A (forIn vs b fun x r=>do let h<-pyHash x;pure (ForInStep.yield (r.push h))) Q E s
 | [],vs,A,s,b,Q,p,hu,h=>by
  rw[j_]at p;subst p;rw[List.forIn_nil];exact wBa (by simpa[G8,ui]using h b)
 | k::ks,vs,A,s,b,Q,p,hu,h=>by
  rw[j_]at p;rw[yf]at hu;obtain⟨v,r,rfl,p1,p2⟩:=p;rw[List.forIn_cons];refine wAa (wAa (GR k v A s _ p1 (by lia) (wBa ?_)));refine Ku ks r A _ _ Q p2 (by lia) fun b' hb=>?_;have:=h b' (by rw[hb,ui];simp);rw[G8]at this;simpa[Nat.add_assoc]using this
end
end
section
open SeqAt
variable {s:Shared}
def Vf{α:Type}[DecidableEq α]{a b:α}{c:Bool}(h:c=true↔a=b):decide (a=b)=c:=by
 cases c with
 | true=>exact vAa (h.mp rfl)
 | false=>exact vBa fun z=>by have:=h.mpr z;cases this
theorem j_.len{h:Heap}:∀{ks:List KD} {vs:List Value},j_ h ks vs->vs.length=ks.length
 | [],_,p=>by rw[j_]at p;subst p;rfl
 | k::ks,_,p=>by
  rw[j_]at p;obtain⟨v,r,rfl,_,p2⟩:=p;simp[p2.len]
theorem j_.get{h:Heap}:∀{ks:List KD} {vs:List Value} {j:Nat} {v:Value},j_ h ks vs->vs[j]?=some v->∃k,ks[j]?=some k/\jy h k v
 | [],_,_,_,p,e=>by rw[j_]at p;subst p;simp at e
 | k::ks,_,j,v',p,e=>by
  rw[j_]at p;obtain⟨v,r,rfl,p1,p2⟩:=p;cases j with
  | zero=>cases e;exact⟨k,rfl,p1⟩
  | succ j=>exact p2.get (j:=j) e
theorem kE:∀{ks:List KD} {k:KD},k∈ks->k.dep<=yf ks
 | [],_,h=>by cases h
 | x::xs,k,h=>by
  rw[yf];rcases uTa h with rfl | h
  ·lia
  ·have:=kE h
   lia
theorem Xx:∀(n:Nat) (x y:KD) (u v:Value) (A:Around),x.dep<=n->jy s.heap x u->jy s.heap y v->A.units+n < cLine->EqAt A s u v (decide (x=y))
 | n,.i a,.i b,u,v,A,hn,p,q,hu=>by
  rw[jy]at p;rw[jy]at q;rcases p with⟨t,rfl⟩ | ⟨c,rfl,rfl⟩
  ·rcases q with⟨t',rfl⟩ | ⟨c',rfl,rfl⟩
   ·rw[Vf (c:=(a==b)) (by simp)];exact .int_int a t b t'
   ·rw[Vf (c:=(a==if c' then 1 else 0)) (by simp)];exact .int_bool a t c'
  ·rcases q with⟨t',rfl⟩ | ⟨c',rfl,rfl⟩
   ·rw[Vf (c:=((if c then 1 else 0)==b)) (by simp)];exact .bool_int c b t'
   ·rw[Vf (c:=(c==c')) (by cases c <;> cases c' <;> simp)];exact .bool_bool c c'
 | n,.s a,.s b,u,v,A,hn,p,q,hu=>by
  rw[jy]at p;rw[jy]at q;obtain⟨t,rfl⟩:=p;obtain⟨t',rfl⟩:=q;rw[Vf (c:=(a==b)) (by simp)];exact .str_str a t b t'
 | n,.i a,.s b,u,v,A,hn,p,q,hu=>by
  rw[jy]at p;rw[jy]at q;obtain⟨t',rfl⟩:=q;rw[decide_eq_false (by intro z;cases z)];rcases p with⟨t,rfl⟩ | ⟨c,rfl,rfl⟩
  ·exact .int_str a t b t'
  ·exact .bool_str c b t'
 | n,.s a,.i b,u,v,A,hn,p,q,hu=>by
  rw[jy]at p;rw[jy]at q;obtain⟨t',rfl⟩:=p;rw[decide_eq_false (by intro z;cases z)];rcases q with⟨t,rfl⟩ | ⟨c,rfl,rfl⟩
  ·exact .str_int a t' b t
  ·exact .str_bool a t' c
 | n,.i a,.t b,u,v,A,hn,p,q,hu=>by
  rw[jy]at p;rw[jy]at q;obtain⟨e,its,rfl,o,_⟩:=q;rw[decide_eq_false (by intro z;cases z)];rcases p with⟨t,rfl⟩ | ⟨c,rfl,rfl⟩
  ·exact .int_tuple a t o (by lia)
  ·exact .bool_tuple c o (by lia)
 | n,.t a,.i b,u,v,A,hn,p,q,hu=>by
  rw[jy]at p;rw[jy]at q;obtain⟨e,its,rfl,o,_⟩:=p;rw[decide_eq_false (by intro z;cases z)];rcases q with⟨t,rfl⟩ | ⟨c,rfl,rfl⟩
  ·exact .tuple_int b t o (by lia)
  ·exact .tuple_bool c o (by lia)
 | n,.s a,.t b,u,v,A,hn,p,q,hu=>by
  rw[jy]at p;rw[jy]at q;obtain⟨e,its,rfl,o,_⟩:=q;obtain⟨t,rfl⟩:=p;rw[decide_eq_false (by intro z;cases z)];exact .str_tuple a t o (by lia)
 | n,.t a,.s b,u,v,A,hn,p,q,hu=>by
  rw[jy]at p;rw[jy]at q;obtain⟨e,its,rfl,o,_⟩:=p;obtain⟨t,rfl⟩:=q;rw[decide_eq_false (by intro z;cases z)];exact .tuple_str b t o (by lia)
 | 0,.t a,.t b,u,v,A,hn,p,q,hu=>by rw[KD.dep]at hn;lia
 | n+1,.t a,.t b,u,v,A,hn,p,q,hu=>by
  rw[KD.dep]at hn;rw[jy]at p;rw[jy]at q;obtain⟨l,its,rfl,o,p⟩:=p;obtain⟨l',its',rfl,o',q⟩:=q;by_cases hl:l=l'
  ·subst hl;obtain⟨z,g,_,_,d⟩:=o;obtain⟨z',g',_,_,d'⟩:=o';rw[g]at g';cases g';rw[d]at d';cases d';rw[j_.inj p q,decide_eq_true rfl];exact .same _
  ·have l1:=p.len;have l2:=q.len;have ev:=RcAt.tuples (A:=A) (e:=fun j=>decide (a[j]?=b[j]?)) o o' (by lia) fun j h1 h2=>by
    have g1:its.toList[j]?=some its[j]:=by simp[h1]
    have g2:its'.toList[j]?=some its'[j]:=by simp[h2]
    obtain⟨k1,e1,r1⟩:=p.get g1;obtain⟨k2,e2,r2⟩:=q.get g2;have:=Xx n k1 k2 _ _ A.in1 (wSa (kE (wYa e1)) (by lia)) r1 r2 (by rw[Around.in1_units];lia);rw[e1,e2];have ee:decide (some k1=some k2)=decide (k1=k2):=by
     by_cases z:k1=k2
     ·rw[decide_eq_true z,decide_eq_true (by rw[z])]
     ·rw[decide_eq_false z,decide_eq_false (fun y=>z (Option.some.inj y))]
    rw[ee];exact this
   refine .of_refs hl ?_;rw[Vf (c:=((List.range (min its.size its'.size)).all (fun j=>decide (a[j]?=b[j]?))&&its.size==its'.size))]
   ·exact ev
   ·rw[Bool.and_eq_true,beq_iff_eq,List.all_eq_true];have z1:its.size=a.length:=by rw[<-l1];simp
    have z2:its'.size=b.length:=by rw[<-l2];simp
    rw[z1,z2];constructor
    ·rintro⟨h1,h2⟩;congr 1;refine List.ext_getElem? fun j=>?_;by_cases hj:j < a.length
     ·exact of_decide_eq_true (h1 j (by simp;lia))
     ·rw[List.getElem?_eq_none (by lia),List.getElem?_eq_none (by lia)]
    ·intro h;cases h;exact⟨fun j _=>by simp,rfl⟩
end
section
variable {prog:Program} {w:World} {E:Value->Shared->Prop} {s:Shared}
theorem VE:∀(n:Nat) (k:KD) (v:Value) (A:Around) (Q:Bool->Shared->Prop),k.dep<=n->jy s.heap k v->Q true s->wpAny (model prog w) A (eqIsQuiet n v) Q E s
 | n,.i _,v,A,Q,_,p,h=>by
  rw[jy]at p;rcases p with⟨t,rfl⟩ | ⟨b,rfl,_⟩
  ·rw[eqIsQuiet_byValue n (v:=.int _ t) rfl];exact wBa h
  ·rw[eqIsQuiet_byValue n (v:=.bool b) rfl];exact wBa h
 | n,.s x,v,A,Q,_,p,h=>by
  rw[jy]at p;obtain⟨t,rfl⟩:=p;rw[eqIsQuiet_byValue n (v:=.str x t) rfl];exact wBa h
 | 0,.t l,v,A,Q,hn,p,h=>by rw[KD.dep]at hn;lia
 | n+1,.t l,v,A,Q,hn,p,h=>by
  rw[KD.dep]at hn;rw[jy]at p;obtain⟨a,its,rfl,o,p⟩:=p;obtain⟨ob,g,c,m,dt⟩:=o;have ty:s.TypeIs (.ref a) "tuple" := ⟨ob,g,c⟩
  unfold eqIsQuiet;refine wAa (wpAny_specialOf ty F.slot_tuple_eq.lookup ?_);refine(show wpAny _ _ (isInstance (.ref a) (.type "tuple") >>= _) _ _ s from wAa (wpAny_isInstance ty isSubtype_tuple_tuple ?_));rw[if_neg (by decide)];refine wAa (wpAny_seqItems g dt (wAa ?_));rw[Option.getD_some,<-Array.forIn_toList];have ql:∀(rest:List Value),(∃ks,j_ s.heap ks rest/\yf ks<=n)->wpAny (model prog w) A (forIn rest ((none:Option Bool),PUnit.unit) fun y r=>do
    if (!(<-eqIsQuiet n y))=true then pure (ForInStep.done (some false,PUnit.unit))else do pure PUnit.unit;pure (ForInStep.yield (none,PUnit.unit))) (fun r s'=>r=(none,PUnit.unit)/\s'=s) E s:=by
   intro rest;induction rest with
   | nil=>intro _;rw[List.forIn_nil];exact wBa ⟨rfl,rfl⟩
   | cons y rest ih=>
    rintro⟨ks,hk,hd⟩;cases ks with
    | nil=>rw[j_]at hk;cases hk
    | cons k ks=>
     rw[j_]at hk;obtain⟨_,_,e,k1,k2⟩:=hk;cases e;rw[yf]at hd;rw[List.forIn_cons];refine wAa (wAa (VE n k y A _ (by lia) k1 ?_));rw[if_neg (by decide)];exact wBa (ih ⟨ks,k2,by lia⟩)
  refine wCa (ql its.toList ⟨l,p,by lia⟩) ?_ fun _ _ x=>x;rintro r s' ⟨rfl,rfl⟩;exact wBa h
end
def J7(prog:Program)(w:World):HeapKind prog w KD where
 is:=fun h k a=>jy h k (.ref a)/\k.dep<=8
 hash:=jS w
 draws:=KD.drw
 room:=fun A=>A.units+8 < cLine
 inj:=fun p q=>p.1.inj q.1
 keeps:=fun p ho hd hs=>by
  refine⟨p.1.keep fun b its t=>?_,p.2⟩;obtain⟨ob,g,c,m,dt⟩:=t;refine⟨ob,(hs.2 b ?_).trans g,c,m,dt⟩;rintro rfl;rw[ho]at g;cases g;rw[hd]at dt;cases dt
 pyHash:=fun hu p h=>GR _ _ _ _ _ p.1 (by have:=p.2;lia) h
 eqBool:=fun hu p q h=>Xx 8 _ _ _ _ _ p.2 p.1 q.1 hu _ _ _ _ h
 quiet:=fun p h=>VE 8 _ _ _ _ p.2 p.1 h
section
variable {prog:Program} {w:World} {E:Value->Shared->Prop} {s:Shared} {A:Around}
def ZM{t:SetTable}{es:Array (Int×Value)}(I:ST.SI t (es.map (·.1))):t.fits es.size=true:=by
 unfold SetTable.fits;rw[ST.fill_of I.toTOk];have h1:=I.n;have h2:=I.fu;simp at h1;simp[h1]at h2⊢;exact h2
def bE{t:SetTable}{hs:Array Int}(I:ST.SI t hs):t.gaveWay=false:=by
 obtain⟨k,hk⟩:=I.pw;have h1:=I.room;unfold SetTable.gaveWay;cases k with
 | zero=>simp at hk;lia
 | succ k=>
  rw[uMa]at hk;have:t.mask % 2=1:=by lia
  rw[this];rfl
theorem Kv:∀(n:Nat) (k:KD) (v:Value) (A:Around) (Q:Bool->Shared->Prop),k.dep<=n->jy s.heap k v->Q false s->wpAny (model prog w) A (ofAClassStatement n v) Q E s
 | n,.i _,v,A,Q,_,p,h=>by
  rw[jy]at p;rcases p with⟨t,rfl⟩ | ⟨b,rfl,_⟩ <;> unfold ofAClassStatement <;> exact wBa h
 | n,.s x,v,A,Q,_,p,h=>by
  rw[jy]at p;obtain⟨t,rfl⟩:=p;unfold ofAClassStatement;exact wBa h
 | 0,.t l,v,A,Q,hn,p,h=>by rw[KD.dep]at hn;lia
 | n+1,.t l,v,A,Q,hn,p,h=>by
  rw[KD.dep]at hn;rw[jy]at p;obtain⟨a,its,rfl,o,p⟩:=p;obtain⟨ob,g,c,m,dt⟩:=o;have ty:s.TypeIs (.ref a) "tuple" := ⟨ob,g,c⟩
  unfold ofAClassStatement;refine wAa (wpAny_typeOf ty ?_);dsimp only;rw[if_pos (by rfl)];refine wAa (wBa ?_);rw[if_neg (by decide)];refine wAa (wpAny_seqItems g dt ?_);dsimp only;refine wAa ?_;rw[<-Array.forIn_toList];have ql:∀(rest:List Value),(∃ks,j_ s.heap ks rest/\yf ks<=n)->wpAny (model prog w) A (forIn rest ((none:Option Bool),()) fun y r=>do
    if (<-ofAClassStatement n y)=true then pure (ForInStep.done (some true,()))else pure (ForInStep.yield (none,()))) (fun r s'=>r=(none,())/\s'=s) E s:=by
   intro rest;induction rest with
   | nil=>intro _;rw[List.forIn_nil];exact wBa ⟨rfl,rfl⟩
   | cons y rest ih=>
    rintro⟨ks,hk,hd⟩;cases ks with
    | nil=>rw[j_]at hk;cases hk
    | cons k ks=>
     rw[j_]at hk;obtain⟨_,_,e,k1,k2⟩:=hk;cases e;rw[yf]at hd;rw[List.forIn_cons];refine wAa (wAa (Kv n k y A _ (by lia) k1 ?_));rw[if_neg (by decide)];exact wBa (ih ⟨ks,k2,by lia⟩)
  refine wCa (ql its.toList ⟨l,p,by lia⟩) ?_ fun _ _ x=>x;rintro r s' ⟨rfl,rfl⟩;exact wBa h
theorem qO:∀(n:Nat) (k:KD) (v:Value) (A:Around) (Q:Bool->Shared->Prop),k.dep<=n->jy s.heap k v->(∀b,Q b s)->wpAny (model prog w) A (hashByValue n v) Q E s
 | n,.i _,v,A,Q,_,p,h=>by
  rw[jy]at p;rcases p with⟨t,rfl⟩ | ⟨b,rfl,_⟩ <;> unfold hashByValue <;> exact wBa (h _)
 | n,.s x,v,A,Q,_,p,h=>by
  rw[jy]at p;obtain⟨t,rfl⟩:=p;unfold hashByValue;exact wBa (h _)
 | 0,.t l,v,A,Q,hn,p,h=>by rw[KD.dep]at hn;lia
 | n+1,.t l,v,A,Q,hn,p,h=>by
  rw[KD.dep]at hn;rw[jy]at p;obtain⟨a,its,rfl,o,p⟩:=p;obtain⟨ob,g,c,m,dt⟩:=o;have ty:s.TypeIs (.ref a) "tuple" := ⟨ob,g,c⟩
  unfold hashByValue;refine wAa (wpAny_specialOf ty F.slot_tuple_hash.lookup ?_);dsimp only;refine wAa (wpAny_seqItems g dt (wAa ?_));rw[Option.getD_some,<-Array.forIn_toList];have ql:∀(rest:List Value),(∃ks,j_ s.heap ks rest/\yf ks<=n)->wpAny (model prog w) A (forIn rest ((none:Option Bool),PUnit.unit) fun y r=>do
    if (!(<-hashByValue n y))=true then pure (ForInStep.done (some false,PUnit.unit))else do pure PUnit.unit;pure (ForInStep.yield (none,PUnit.unit))) (fun r s'=>s'=s) E s:=by
   intro rest;induction rest with
   | nil=>intro _;rw[List.forIn_nil];exact wBa rfl
   | cons y rest ih=>
    rintro⟨ks,hk,hd⟩;cases ks with
    | nil=>rw[j_]at hk;cases hk
    | cons k ks=>
     rw[j_]at hk;obtain⟨_,_,e,k1,k2⟩:=hk;cases e;rw[yf]at hd;rw[List.forIn_cons];refine wAa (wAa (qO n k y A _ (by lia) k1 fun b=>?_));cases b
     ·rw[if_pos (by decide)];exact wBa (wBa rfl)
     ·rw[if_neg (by decide)];exact wBa (ih ⟨ks,k2,by lia⟩)
  refine wCa (ql its.toList ⟨l,p,by lia⟩) ?_ fun _ _ x=>x;rintro⟨r,_⟩ s' rfl;cases r with
  | none=>exact wBa (h _)
  | some b=>exact wBa (h _)
def EC(w:World)(h:Heap)(es:Array (Int×Value))(ks:List KD):Prop:=ks.length=es.size/\∀(i:Nat) (k:KD),ks[i]?=some k->k.dep<=8/\∃b,es[i]?=some (jS w k,.ref b)/\jy h k (.ref b)
variable {a ax:Addr} {k:KD} {o:Obj} {es:Array (Int×Value)} {ep:Nat} {t:SetTable} {ks:List KD} {Q:SetFound->Shared->Prop}
set_option tactic.hygienic true in
theorem aZ(hx:jy s.heap k (.ref ax))(hk:k.dep<=8){Q:Bool->Shared->Prop}(h:Q false s):∀(l:List Value),(∀v∈l,∃k' b,v=.ref b/\k'.dep<=8/\jy s.heap k' v)->wpAny (model prog w) A (searchCouldBeSeen (.ref ax) l) Q E s:=by
 intro l hl;unfold searchCouldBeSeen;refine wAa (wCa (?q:wpAny _ _ _ (fun r s'=>r=(none,())/\s'=s) _ _) ?_ fun _ _ x=>x)
 case q=>
  induction l with
  | nil=>rw[List.forIn_nil];exact wBa ⟨rfl,rfl⟩
  | cons y rest ih=>
   have ih:=ih fun v hv=>hl v (wMa _ hv);obtain⟨k',b,rfl,hk',hy⟩:=hl y wNa;rw[List.forIn_cons];refine wAa ?_;dsimp only;split
   ·exact wBa ih
   ·refine wAa (VE 8 k _ _ _ hk hx ?_);rw[if_neg (by decide)];refine wAa (VE 8 k' _ _ _ hk' hy ?_);rw[if_neg (by decide)];refine wAa (Kv 8 k _ _ _ hk hx ?_);rw[if_neg (by decide)];refine wAa (Kv 8 k' _ _ _ hk' hy ?_);rw[if_neg (by decide)];exact wBa ih
 rintro r s' ⟨rfl,rfl⟩;exact wBa h
theorem kG(ho:s.heap.get? a=some o)(hd:o.data=.set es ep t)(I:ST.SI t (es.map (·.1)))(hE:EC w s.heap es ks)(hx:jy s.heap k (.ref ax))(hk:k.dep<=8)(hr:A.units+8 < cLine){N:Nat}(Fr:ST.FirstF t (jS w k) N)
  (hT:k∈ks->Q (.there none) s) (hF:k∉ks->Q (.free (ST.pj t (jS w k) N) false) s):
  ∀(d c fuel:Nat) (st:Option SetTable.Probe),N - c=d->c<=N->d < fuel->st.getD (t.probeStart (jS w k))=ST.advN t c (t.probeStart (jS w k))->
   (∀m',m' < c->∀i',t.slot (ST.pj t (jS w k) m')=.live i'->ks[i']?≠some k)->wpAny (model prog w) A (setSearchFrom a (.ref ax) (jS w k) true fuel st) Q E s
 | d,c,0,st,_,_,hf,_,_=>vDa hf (Nat.not_lt_zero _)
 | d,c,fuel+1,st,hdc,hc,hf,hst,hno=>by
  unfold setSearchFrom;refine wAa (wpAny_setState_of ho hd (ZM I) ?_);dsimp only;rw[bE I,if_neg (by decide),hst];generalize hm:SetTable.probe t _ (jS w k) _=om;have hfu:N - c < 10 * SetTable.turns t.mask:=wRa (Nat.sub_le _ _) Fr.lt;rcases ST.go_ok (hashAt:=fun i=>(es[i]?.map (·.1)).getD 0) Fr d c (10 * SetTable.turns t.mask) hdc hc hfu with⟨m,i,m1,m2,sl,_,oth,q⟩ | ⟨oth,q⟩
  ·have e:om=_:=hm.symm.trans q;subst e;dsimp only;have hi:i < es.size:=by
    rcases ST.slot_or I.toTOk (ST.pj t (jS w k) m)with⟨i',e1,e2⟩ | ⟨_,e2⟩
    ·rw[sl]at e2;cases e2;have:=(Array.getElem?_eq_some_iff.mp e1).1;rw[I.n]at this;simpa using this
    ·rw[sl]at e2;cases e2
   obtain⟨k',hk'⟩:∃k',ks[i]?=some k':=⟨_,List.getElem?_eq_getElem (show i < ks.length by rw[hE.1];exact hi)⟩
   obtain⟨dk,b,ee,kb⟩:=hE.2 i _ hk';have stored:∀v∈(Array.filter (fun x=>x.fst==jS w k) es).toList.map (·.2),∃k' b,v=.ref b/\k'.dep<=8/\jy s.heap k' v:=fun v hv=>by
    obtain⟨p,hp,rfl⟩:=uVa hv;rw[Array.toList_filter]at hp;obtain⟨j,hj,ej⟩:=List.mem_iff_getElem.mp (uUa hp).1;obtain⟨k2,hj'⟩:∃k',ks[j]?=some k':=⟨_,List.getElem?_eq_getElem (show j < ks.length by rw[hE.1];simpa using hj)⟩
    obtain⟨d2,b2,e2,kk⟩:=hE.2 j _ hj';have:some p=some (jS w k2,Value.ref b2):=by rw[<-e2,<-ej];simp[show j < es.size by simpa using hj]
    cases this;exact⟨_,b2,rfl,d2,kk⟩
   have hs2:t.sameMemory t.moves t.mask=some true:=by simp[SetTable.sameMemory]
   have nx:k'≠k->wpAny (model prog w) A (setSearchFrom a (.ref ax) (jS w k) true fuel (some (ST.advN t (m+1) (t.probeStart (jS w k))))) Q E s:=fun ne=>
    kG ho hd I hE hx hk hr Fr hT hF (N - (m+1)) (m+1) fuel _ rfl m2 (by lia) rfl fun m' hm' i' hi'=>by
     by_cases l1:m' < c
     ·exact hno m' l1 i' hi'
     ·by_cases l2:m'=m
      ·subst l2;rw[sl]at hi';cases hi';rw[hk'];exact fun z=>ne (vFa z)
      ·intro z;obtain⟨_,b3,e3,_⟩:=hE.2 i' _ z;exact oth m' (by lia) (by lia) i' hi' (by rw[e3];rfl)
   cases hl:t.led
   ·rw[if_pos (by decide)];refine wAa (aZ hx hk ?_ _ stored);rw[if_neg (by decide)];rw[ee];dsimp only;refine wAa (wDa ((J7 prog w).eqBool hr ⟨kb,dk⟩ ⟨hx,hk⟩ ?_));refine wAa (wpAny_setState_of ho hd (ZM I) ?_);dsimp only;by_cases e:k'=k
    ·rw[decide_eq_true e];exact wBa (hT (e▸wYa hk'))
    ·rw[decide_eq_false e,if_neg (by decide),hs2];dsimp only;rw[if_pos rfl,sl];dsimp only;rw[ee];dsimp only;refine wAa (m:=isSame (.ref b) (.ref b)) ?_;unfold isSame;dsimp only;rw[if_pos (beq_self_eq_true b)];refine wBa (wAa (wBa ?_));exact nx e
   ·rw[if_neg (by decide)];rw[ee];dsimp only;refine wAa (wDa ((J7 prog w).eqBool hr ⟨kb,dk⟩ ⟨hx,hk⟩ ?_));refine wAa (wpAny_setState_of ho hd (ZM I) ?_);dsimp only;by_cases e:k'=k
    ·rw[decide_eq_true e];exact wBa (hT (e▸wYa hk'))
    ·rw[decide_eq_false e,if_neg (by decide),hs2];dsimp only;rw[if_pos rfl,sl];dsimp only;rw[ee];dsimp only;refine wAa (m:=isSame (.ref b) (.ref b)) ?_;unfold isSame;dsimp only;rw[if_pos (beq_self_eq_true b)];refine wBa (wAa (wBa ?_));exact nx e
  ·have e:om=_:=hm.symm.trans q;subst e;refine wBa (hF fun hin=>?_);obtain⟨i,hi,ei⟩:=List.mem_iff_getElem.mp hin
   have hk':ks[i]?=some k:=by rw[<-ei];simp[hi]
   obtain⟨_,b,e3,_⟩:=hE.2 i _ hk';obtain⟨m,m1,m2⟩:=I.toTI.ahead Fr (i:=i) (by simp[e3]);by_cases l1:m < c
   ·exact hno m l1 i m2 hk'
   ·exact oth m (by lia) m1 i m2 (by rw[e3];rfl)
end
def JM(hf:KD->Int)(a:Addr)(kas:List (KD×Addr))(h:Heap):Prop:=∃(o:Obj) (es:Array (Int×Value)) (ep:Nat) (t:SetTable) (kas':List (KD×Addr)),h.get? a=some o/\o.ExactSet/\o.data=.set es ep t/\ST.SI t (es.map (·.1))/\kas'.length=kas.length/\(∀p,p∈kas'↔p∈kas)/\es.toList=kas'.map fun p=>(hf p.1,Value.ref p.2)
def xg{t:SetTable}{hs:Array Int}(I:ST.TI t hs)(b:Bool):ST.TI { t with plain:=b } hs:=
 ⟨⟨I.pw,I.ri,I.du,I.le,I.fu⟩,I.n,fun i h h'=>by
  obtain⟨m,e,l⟩:=I.pa i h h';have c:∀h n,ST.pj { t with plain:=b } h n=ST.pj t h n:=fun h n=>ST.pj_congr (t:=t) (t':={ t with plain:=b }) rfl h n;exact⟨m,(c _ _).trans e,fun m' hm=>by rw[c];exact l m' hm⟩⟩
def a_{es:Array (Int×Value)}{p:Nat}(hp:p<=es.size)(x:Int×Value):(SetTable.insertAt es p x).map (·.1)=SetTable.insertAt (es.map (·.1)) p x.1:=by
 apply Array.ext_getElem?;intro i;rw[Array.getElem?_map,ST.ins_get hp,ST.ins_get (by simpa using hp)];split
 ·simp
 ·split <;> simp
section
variable {prog:Program} {w:World} {E:Value->Shared->Prop} {s:Shared} {A:Around} {a ax:Addr} {k:KD} {kas:List (KD×Addr)}
def Wl{h:Heap}{o:Obj}{es es':Array (Int×Value)}{ep:Nat}{t t':SetTable}(ho:h.get? a=some o)(hd:o.data=.set es ep t):(h.update a (Obj.putSet es' t')).get? a=some { o with data:=.set es' (ep+1) t' }:=by
 have:=vUa (Obj.putSet es' t') ho (by rw[putSet_of es' t' hd];rfl);rw[putSet_of es' t' hd]at this;exact this
def bF{l:List Nat}{n:Nat}(hl:l.length=n)(nd:l.Nodup)(hb:∀q∈l,q < n){i:Nat}(hi:i < n):i∈l:=by
 refine Classical.byContradiction fun hn=>?_;have:=(List.nodup_cons.mpr ⟨hn,nd⟩).length_le_of_subset (l₂:=List.range n) fun q hq=>by
  rcases uTa hq with rfl | hq
  ·exact List.mem_range.mpr hi
  ·exact List.mem_range.mpr (hb q hq)
 rw[vXa,List.length_range,hl]at this
 lia
def xh{Q:Bool->Shared->Prop}{o:Obj}{es es1:Array (Int×Value)}{ep n:Nat}{t t2:SetTable}{kas1:List (KD×Addr)}{hf:KD->Int}(ho:s.heap.get? a=some o)(hex:o.ExactSet)(hd:o.data=.set es ep t)
  (T:ST.TI t2 (es1.map (·.1))) (hn:n=es1.size) (hl:es1.size<=8192) (h0:0 < es1.size) (l1:kas1.length=kas.length) (l2:∀p,p∈kas1↔p∈kas) (ee:es1.toList=kas1.map fun p=>(hf p.1,Value.ref p.2))
  (hQ:∀h',Heap.SameBut a s.heap h'->JM hf a kas h'->Q true { s with heap:=h' }):
  wpAny (model prog w) A (do
   storeSet a es1 t2
   if (!false&&t2.tooFull)=true then do
    setRelay a (SetTable.grown n)
    pure true
   else pure true) Q E s:=by
 subst hn;have zl:(8192:Nat)<=sizeLine:=by decide
 refine wAa (wpAny_storeSet_of ho hd ?_ (by lia));have g1:=Wl (es':=es1) (t':=t2) ho hd;have sb1:=Heap.SameBut.update s.heap a (Obj.putSet es1 t2);have ff:t2.fits es1.size=true:=by
  unfold SetTable.fits;rw[ST.fill_of T.toTOk];have h1:=T.n;have h2:=T.fu;simp at h1;simp[h1]at h2⊢;exact h2
 by_cases hf2:t2.tooFull=true
 ·rw[hf2,if_pos (by decide)];unfold setRelay;refine wAa (wAa (wpAny_setState_of g1 rfl ff ?_));dsimp only;obtain⟨t',order,e1,e2,e3,e4,e5,e6,e7,e8⟩:=ST.relaid_ok (t:=t2) (hs:=es1.map (·.1)) (by simp;lia) (by simpa using h0);rw[Array.size_map]at e1 e2 e5 e7;have c1:¬SetTable.sizeAbove (SetTable.grown es1.size) > sizeLine:=by have:sizeLine=2 ^ 24:=rfl;lia
  rw[if_neg c1,e1];have fm:(order.filterMap fun q=>es1[q]?).toList=order.toList.filterMap fun q=>es1[q]?:=Array.toList_filterMap;have mp:∀l:List Nat,(∀q∈l,q < es1.size)->(l.filterMap fun q=>es1[q]?).map (·.1)=l.map (fun q=>(es1.map (·.1)).getD q 0)/\(l.filterMap fun q=>es1[q]?)=(l.filterMap fun q=>kas1[q]?).map (fun p=>(hf p.1,Value.ref p.2))/\(l.filterMap fun q=>kas1[q]?).length=l.length:=fun l=>by
   have kl:kas1.length=es1.size:=by rw[<-Array.length_toList,ee,vYa]
   induction l with
   | nil=>intro _;exact⟨rfl,rfl,rfl⟩
   | cons q l ih=>
    intro hb;obtain⟨i1,i2,i3⟩:=ih fun q hq=>hb q (wMa _ hq);have hq:=hb q wNa;have hk:q < kas1.length:=by lia
    have ge:es1[q]?=some (hf kas1[q].1,.ref kas1[q].2):=by rw[<-Array.getElem?_toList,ee,uAa,uCa hk];rfl
    have gk:kas1[q]?=some kas1[q]:=List.getElem?_eq_getElem hk;refine⟨?_,?_,?_⟩
    ·rw[List.filterMap_cons,ge,vWa,vWa,i1];congr 1;simp[Array.getD,hq,Array.getElem?_eq_some_iff.mp ge];obtain⟨_,z⟩:=Array.getElem?_eq_some_iff.mp ge;rw[z]
    ·rw[List.filterMap_cons,ge,List.filterMap_cons,gk,vWa,i2]
    ·rw[List.filterMap_cons,gk,vXa,vXa,i3]
  obtain⟨m1,m2,m3⟩:=mp order.toList e7;have sz:(order.filterMap fun q=>es1[q]?).size=es1.size:=by
   rw[<-Array.length_toList,fm,m2,vYa,m3,Array.length_toList,e5]
  refine wAa (show wpAny _ _ (ite _ _ _) _ _ _ from ?_);rw[if_neg (by rw[sz];simp)];refine wBa (wpAny_storeSet_of g1 rfl (wBa (hQ _ (sb1.trans (Heap.SameBut.update _ a _)) ?_)) (by rw[sz];lia));refine⟨_,_,_,t',order.toList.filterMap fun q=>kas1[q]?,Wl g1 rfl,hex,rfl,?_,?_,?_,?_⟩
  ·have:(order.filterMap fun q=>es1[q]?).map (·.1)=order.map fun q=>(es1.map (·.1)).getD q 0:=by
    apply Array.ext';rw[Array.toList_map,fm,m1,Array.toList_map]
   rw[this];exact e8
  ·rw[m3,Array.length_toList,e5,<-l1,<-Array.length_toList,ee,vYa]
  ·intro p;rw[<-l2 p,List.mem_filterMap];have kl:kas1.length=es1.size:=by rw[<-Array.length_toList,ee,vYa]
   constructor
   ·rintro⟨q,_,e⟩;exact wYa e
   ·intro hp;obtain⟨q,hq,e⟩:=List.mem_iff_getElem.mp hp;exact⟨q,bF (by rw[Array.length_toList,e5]) e6 e7 (by lia),by rw[uCa hq,e]⟩
  ·rw[fm,m2]
 ·have hf3:t2.tooFull=false:=by simpa using hf2
  rw[hf3,if_neg (by decide)];refine wBa (hQ _ sb1 ⟨_,es1,_,t2,kas1,g1,hex,rfl,⟨T,?_⟩,l1,l2,ee⟩);unfold SetTable.tooFull at hf3;simpa using hf3
def bG{Q:Bool->Shared->Prop}(hS:JM (jS w) a kas s.heap)(hK:∀p∈kas,p.1.dep<=8/\jy s.heap p.1 (.ref p.2))(hx:jy s.heap k (.ref ax))(hk:k.dep<=8)(hr:A.units+8 < cLine)(hl:kas.length < 8192)
  (h0:k∈kas.map (·.1)->Q false s) (h1:k∉kas.map (·.1)->∀h',Heap.SameBut a s.heap h'->JM (jS w) a (kas++[(k,ax)]) h'->Q true { s with heap:=h' }):
  wpAny (model prog w) A (setAddHashed a (.ref ax) (jS w k)) Q E s:=by
 obtain⟨o,es,ep,t,kas',ho,hex,hd,I,l1,l2,ee⟩:=hS;have sz:es.size=kas.length:=by rw[<-l1,<-Array.length_toList,ee,vYa]
 have hE:EC w s.heap es (kas'.map (·.1)):=⟨by simp[sz,l1],fun i k' hi=>by
  rw[uAa]at hi;obtain⟨p,hp,rfl⟩:=Option.map_eq_some_iff.mp hi;obtain⟨d1,k1⟩:=hK p ((l2 p).mp (wYa hp));refine⟨d1,p.2,?_,k1⟩;rw[<-Array.getElem?_toList,ee,uAa,hp];rfl⟩
 have mk:∀k',k'∈kas'.map (·.1)↔k'∈kas.map (·.1):=fun k'=>by
  simp only[List.mem_map];exact⟨fun⟨p,h,e⟩=>⟨p,(l2 p).mp h,e⟩,fun⟨p,h,e⟩=>⟨p,(l2 p).mpr h,e⟩⟩
 obtain⟨N,Fr⟩:=ST.first_ex I.toTOk (jS w k);have hN:=ST.first_le I.toTOk Fr;have hp:t.place.size=es.size:=by have:=I.n;simpa using this
 unfold setAddHashed setAddHashedIn;refine wDa (wAa (wpAny_setState_of ho hd (ZM I) ?_));dsimp only;rw[show byScan (.ref ax) es=false from rfl,if_neg (by decide)];unfold setSearch;refine wAa (kG ho hd I hE hx hk hr Fr (fun hin=>?_) (fun hin=>?_) N 0 100000 none rfl (Nat.zero_le _) (by lia) rfl fun _ h=>vDa h (Nat.not_lt_zero _))
 ·exact wBa (h0 ((mk k).mp hin))
 ·dsimp only;refine wAa (wpAny_setState_of ho hd (ZM I) ?_);dsimp only;have hle:=ST.pj_le t (jS w k) N;have lt:=I.lt;have ti:=ST.put_ti I.toTI Fr hle lt;have bl:=(ST.below_ok I.ri (ST.pj t (jS w k) N)).1;have bl':SetTable.below t.place (ST.pj t (jS w k) N)<=es.size:=by lia
  have e2:(t.put (ST.pj t (jS w k) N)).2=SetTable.below t.place (ST.pj t (jS w k) N):=rfl;rw[e2];generalize SetTable.below t.place (ST.pj t (jS w k) N)=p at *;generalize (t.put (ST.pj t (jS w k) N)).1=t1 at *;rw[<-a_ bl' (jS w k,Value.ref ax)]at ti;have sz1:(SetTable.insertAt es p (jS w k,Value.ref ax)).size=es.size+1:=ST.ins_size bl' _;have ee1:(SetTable.insertAt es p (jS w k,Value.ref ax)).toList=(kas'.take p++(k,ax)::kas'.drop p).map fun q=>(jS w q.1,Value.ref q.2):=by
   rw[SetTable.toList_insertAt,ee,uDa,vWa,List.map_take,List.map_drop]
   try simp
  have tail:∀b:Bool,wpAny (model prog w) A (do
    storeSet a (SetTable.insertAt es p (jS w k,Value.ref ax)) (if b=true then t1 else { t1 with plain:=false })
    if (!false&&(if b=true then t1 else { t1 with plain:=false }).tooFull)=true then do
     setRelay a (SetTable.grown (es.size+1))
     pure true
    else pure true) Q E s:=fun b=>by
   refine xh ho hex hd (t2:=if b=true then t1 else { t1 with plain:=false }) ?_ sz1.symm (by lia) (by lia) ?_ ?_ ee1 (h1 fun z=>hin ((mk k).mpr z))
   ·cases b
    ·exact xg ti false
    ·exact ti
   ·simp;lia
   ·intro q;rw[List.mem_append,List.mem_append,List.mem_singleton,List.mem_cons,<-l2 q];have:q∈kas'↔q∈kas'.take p \/ q∈kas'.drop p:=by rw[<-List.mem_append,List.take_append_drop]
    rw[this];constructor
    ·rintro(h | h | h)
     ·exact .inl (.inl h)
     ·exact .inr h
     ·exact .inl (.inr h)
    ·rintro((h | h) | h)
     ·exact .inl h
     ·exact .inr (.inr h)
     ·exact .inr (.inl h)
  split
  ·exact wAa (qO 8 k _ _ _ hk hx tail)
  ·exact wAa (wBa (tail true))
end
noncomputable abbrev Zw:=Sum Int Str
noncomputable def Xy:Zw->Value->Bool
 | .inl k,v=>Value.isInt k v
 | .inr x,v=>Value.isStrOf x v
noncomputable def fv(w:World):Zw->Int
 | .inl k=>hashInt k
 | .inr x=>hashStr w x
theorem JJ:∀{k:Zw} {v:Value},Xy k v=true->(∃i t,k=Sum.inl i/\v=Value.int i t) \/ (∃x t,k=Sum.inr x/\v=Value.str x t)
 | .inl i,v,h=>by
  obtain⟨t,e⟩:=Value.isInt_shape (k:=i) (v:=v) h;exact .inl ⟨i,t,rfl,e⟩
 | .inr x,v,h=>by
  obtain⟨t,e⟩:=Value.isStrOf_shape (x:=x) (v:=v) h;exact .inr ⟨x,t,rfl,e⟩
def bH(a b:Int):decide ((Sum.inl a:Zw)=Sum.inl b)=(a==b):=by
 by_cases e:a=b
 ·subst e;simp
 ·have h:¬(Sum.inl a:Zw)=Sum.inl b:=fun q=>e (Sum.inl.inj q);rw[decide_eq_false h];exact(beq_eq_false_iff_ne.mpr e).symm
def bI(a b:Str):decide ((Sum.inr a:Zw)=Sum.inr b)=decide (a=b):=by
 by_cases e:a=b
 ·subst e;simp
 ·have h:¬(Sum.inr a:Zw)=Sum.inr b:=fun q=>e (Sum.inr.inj q);rw[decide_eq_false h,decide_eq_false e]
def bJ(a:Int)(b:Str):decide ((Sum.inl a:Zw)=Sum.inr b)=false:=vBa (fun q=>nomatch q)
def bK(a:Str)(b:Int):decide ((Sum.inr a:Zw)=Sum.inl b)=false:=vBa (fun q=>nomatch q)
def Up(prog:Program)(w:World):PySem.KeyKind prog w Zw where
 is:=Xy
 hash:=fv w
 inj:=fun v a b ha hb=>by
  rcases JJ ha with⟨i,t,rfl,rfl⟩ | ⟨x,t,rfl,rfl⟩
  ·rcases JJ hb with⟨j,u,rfl,e⟩ | ⟨y,u,rfl,e⟩
   ·injection e with e1 _;rw[e1]
   ·exact nomatch e
  ·rcases JJ hb with⟨j,u,rfl,e⟩ | ⟨y,u,rfl,e⟩
   ·exact nomatch e
   ·injection e with e1 _;rw[e1]
 byValue:=fun k v h=>by
  rcases JJ h with⟨i,t,rfl,rfl⟩ | ⟨x,t,rfl,rfl⟩ <;> rfl
 pyHash:=fun hv h=>by
  rcases JJ hv with⟨i,t,rfl,rfl⟩ | ⟨x,t,rfl,rfl⟩
  ·exact wpAny_pyHash_int h
  ·exact wpAny_pyHash_str h
 eqBool:=fun hu hv h=>by
  rcases JJ hu with⟨i,t,rfl,rfl⟩ | ⟨x,t,rfl,rfl⟩
  ·rcases JJ hv with⟨j,u,rfl,rfl⟩ | ⟨y,u,rfl,rfl⟩
   ·rw[bH]at h;exact wpAny_eqBool_int h
   ·rw[bJ]at h;exact SeqAt.EqAt.int_str i t y u _ _ _ _ h
  ·rcases JJ hv with⟨j,u,rfl,rfl⟩ | ⟨y,u,rfl,rfl⟩
   ·rw[bK]at h;exact SeqAt.EqAt.str_int x t j u _ _ _ _ h
   ·rw[bI]at h;exact wpAny_eqBool_str h
 «strs»:=fun k x t v h=>by
  rcases JJ h with⟨i,u,rfl,e⟩ | ⟨y,u,rfl,e⟩
  ·exact nomatch e
  ·injection e with e1 _;subst e1;cases v <;> rfl
inductive V where
 | non | bl (b:Bool) | int (i:Int) | str (x:Str) | byt (b:Array UInt8) | flt (b:UInt64) | ref (a:Addr) | ty (n:String)
 deriving DecidableEq
def jB:V->Value->Prop
 | .non,u=>u=Value.none
 | .bl b,u=>u=Value.bool b
 | .int i,u=>∃t,u=Value.int i t
 | .str x,u=>∃t,u=Value.str x t
 | .byt b,u=>∃t,u=Value.bytes b t
 | .flt b,u=>∃t,u=Value.float b t
 | .ref a,u=>u=Value.ref a
 | .ty n,u=>u=Value.type n
abbrev jj:List V->List Value->Prop:=Paired jB
def jj.length{xs:List V}{us:List Value}(r:jj xs us):xs.length=us.length:=Paired.length r
theorem jj.get:∀{xs:List V} {us:List Value} {i:Nat} {x:V},jj xs us->xs[i]?=some x->∃u,us[i]?=some u/\jB x u
 | _,_,_,_,.nil,e=>by simp at e
 | _,_,0,_,.cons r _,e=>by simp at e;subst e;exact⟨_,rfl,r⟩
 | _,_,i+1,x,.cons _ t,e=>by
  obtain⟨u,h1,h2⟩:=jj.get (i:=i) (x:=x) t (by simpa using e);exact⟨u,by simpa using h1,h2⟩
theorem jj.set{x:V}{u:Value}(r:jB x u):∀{xs:List V} {us:List Value} (i:Nat),jj xs us->jj (xs.set i x) (us.set i u)
 | _,_,_,.nil=>.nil
 | _,_,0,.cons _ t=>.cons r t
 | _,_,i+1,.cons q t=>.cons q (jj.set r i t)
theorem jj.append:∀{xs ys:List V} {us ws:List Value},jj xs us->jj ys ws->jj (xs++ys) (us++ws)
 | _,_,_,_,.nil,s=>s
 | _,_,_,_,.cons r t,s=>.cons r (jj.append t s)
theorem jj.take:∀{xs:List V} {us:List Value} (n:Nat),jj xs us->jj (xs.take n) (us.take n)
 | _,_,0,_=>.nil
 | _,_,_+1,.nil=>.nil
 | _,_,n+1,.cons r t=>.cons r (jj.take n t)
theorem jj.drop:∀{xs:List V} {us:List Value} (n:Nat),jj xs us->jj (xs.drop n) (us.drop n)
 | _,_,0,r=>r
 | _,_,_+1,.nil=>.nil
 | _,_,n+1,.cons _ t=>jj.drop n t
def vX:Option V->Option Value->Prop
 | some v,some u=>jB v u
 | none,none=>True
 | _,_=>False
def KV{κ:Type}:List (κ×V)->List (κ×Value)->Prop:=Paired fun(p:κ×V) (q:κ×Value)=>p.1=q.1/\jB p.2 q.2
noncomputable def kV:Zw->V
 | .inl i=>.int i
 | .inr x=>.str x
inductive HO where
 | lst (xs:List V)
 | tup (xs:List V)
 | dK (kvs:List (Zw×V)) | dT (kvs:List (List Zw×V))
 | dD (kvs:List (KD×Addr×V)) (ep:Nat)
 | set (S:Int->Bool) (n:Nat)
 | ins (C dx:Addr) (fs:List (Str×V))
 | own (x:Addr)
 | xd (fs:List (Str×V))
 | met (f x:Addr)
 | rng (lo hi:Int)
 | frz (o:Obj) (u:HO)
 | tbl (ps:Array Value)
 | ext (φ:Heap->Prop)
noncomputable abbrev Hp:=Addr->Option HO
noncomputable def upd(H:Hp)(a:Addr)(o:HO):Hp:=fun b=>if b=a then some o else H b
def jV{H:Hp}{a:Addr}{o:HO}:upd H a o a=some o:=by unfold upd;rw[if_pos rfl]
def jq{H:Hp}{a b:Addr}{o:HO}(h:b≠a):upd H a o b=H b:=by unfold upd;rw[if_neg h]
def jJ{H:Hp}{a b:Addr}{o:HO}(h:H a=some o)(h':H b=none):a≠b:=by
 intro e;subst e;rw[h]at h';cases h'
section
variable (P:Program) (w:World)
def yc(H:Hp)(h:Heap)(a:Addr):HO->Prop
 | .lst xs=>xs.length<=sizeLine/\∃(its:List Value) (n:Nat),jj xs its/\h.get? a=some { cls:=.type "list",data:=.seq its.toArray n }
 | .tup xs=>xs.length<=sizeLine/\∃its:List Value,jj xs its/\IsTup h a its.toArray
 | .dK kvs=>kvs.length<=sizeLine/\(a==sysModules)=false/\∃vs,KV kvs vs/\h.DictOf (Up P w) a vs
 | .dT kvs=>kvs.length<=sizeLine/\(a==sysModules)=false/\∃xs:List (List Zw×Addr×Value),
   Paired (fun(p:List Zw×V) (q:List Zw×Addr×Value)=>p.1=q.1/\H q.2.1=some (.tup (p.1.map kV))/\jB p.2 q.2.2) kvs xs/\
   ∃o es ep,h.get? a=some o/\o.ExactDict/\o.data=.dict es ep/\es.toList=xs.map (entryOfKey (tupleKind (Up P w)))/\(xs.map (·.1)).Nodup
 | .dD kvs ep=>kvs.length<=sizeLine/\(a==sysModules)=false/\(kvs.map (·.1)).Nodup/\∃xs:List (KD×Addr×Value),
   Paired (fun(p:KD×Addr×V) (q:KD×Addr×Value)=>p.1=q.1/\p.2.1=q.2.1/\jB p.2.2 q.2.2) kvs xs/\
   ∃o es,h.get? a=some o/\o.ExactDict/\o.data=.dict es ep/\es.toList=xs.map (entryOfKey (J7 P w))
 | .set S n=>h.SetOf (intKind P w) a S n
 | .ins C dx fs=>H dx=some (.own a)/\fs.length<=1000/\dx≠a/\h.get? a=some (PySem.W.instObj C dx)/\
   ∃mA,h.Ns1 dx mA/\(∀f,vX (fs.lookup f) (mA f))/\PySem.Within mA (fs.map (·.1))
 | .own _=>∃o,h.get? a=some o
 | .xd fs=>∃mA,h.Ns1 a mA/\∀f,vX (fs.lookup f) (mA f)
 | .rng lo hi=>∃t u v,h.get? a=some { cls:=.type "range",data:=.fields #[.int lo t,.int hi u,.int 1 v] }
 | .frz o u=>h.get? a=some o/\yc H h a u
 | .tbl ps=>h.get? a=some { cls:=.none,data:=.fields ps }
 | .met f x=>h.get? a=some (PySem.W.methodObj (.ref f) (.ref x))
 | .ext φ=>φ h/\(∃o,h.get? a=some o)/\∀h1 h2:Heap,φ h1->(∀o,h1.get? a=some o->h2.get? a=some o)->φ h2
def yw(H:Hp)(h:Heap):Prop:=∀a o,H a=some o->yc P w H h a o
end
section
variable {P:Program} {w:World} {H H':Hp} {h h':Heap} {a:Addr} {o:HO}
def yc.lt(x:yc P w H h a o):a < h.objs.size:=by
 cases o with
 | lst xs=>obtain⟨_,_,_,_,e⟩:=x;exact wLa e
 | tup xs=>obtain⟨_,_,_,p⟩:=x;exact p.lt
 | dK kvs=>obtain⟨_,_,_,_,o,_,_,e,_⟩:=x;exact wLa e
 | dT kvs=>obtain⟨_,_,_,_,o,_,_,e,_⟩:=x;exact wLa e
 | dD kvs ep=>obtain⟨_,_,_,_,_,o,_,e,_⟩:=x;exact wLa e
 | set S n=>obtain⟨o,_,_,_,e,_⟩:=x;exact wLa e
 | ins C dx fs=>obtain⟨_,_,_,e,_⟩:=x;exact wLa e
 | own y=>obtain⟨_,e⟩:=x;exact wLa e
 | xd fs=>obtain⟨_,⟨_,_,_,e,_⟩,_⟩:=x;exact wLa e
 | rng lo hi=>obtain⟨_,_,_,e⟩:=x;exact wLa e
 | frz ob u=>obtain⟨e,_⟩:=x;exact wLa e
 | tbl ps=>exact wLa (show h.get? a=some _ from x)
 | met f y=>exact wLa (show h.get? a=some _ from x)
 | ext φ=>obtain⟨_,⟨_,e⟩,_⟩:=x;exact wLa e
theorem Paired.mapP{α β:Type}{F G:α->β->Prop}:∀{l₁:List α} {l₂:List β},Paired F l₁ l₂->(∀a b,F a b->G a b)->Paired G l₁ l₂
 | _,_,.nil,_=>.nil
 | _,_,.cons r t,f=>.cons (f _ _ r) (Paired.mapP t f)
theorem yc.stay(x:yc P w H h a o)(k:∀b u,(b=a \/ H b=some (.own a))->h.get? b=some u->h'.get? b=some u)
  (ho:∀b,H b=some (.own a)->H' b=some (.own a)) (ht:∀b xs,H b=some (.tup xs)->H' b=some (.tup xs)):yc P w H' h' a o:=by
 induction o with
 | lst xs=>obtain⟨z,its,n,r,e⟩:=x;exact⟨z,its,n,r,k _ _ (.inl rfl) e⟩
 | tup xs=>obtain⟨z,its,r,ob,e,c⟩:=x;exact⟨z,its,r,ob,k _ _ (.inl rfl) e,c⟩
 | dK kvs=>obtain⟨z,y,vs,r,ob,es,ep,e,c⟩:=x;exact⟨z,y,vs,r,ob,es,ep,k _ _ (.inl rfl) e,c⟩
 | dT kvs=>
  obtain⟨z,y,xs,r,ob,es,ep,e,c⟩:=x;exact⟨z,y,xs,Paired.mapP r fun p q z=>⟨z.1,ht _ _ z.2.1,z.2.2⟩,ob,es,ep,k _ _ (.inl rfl) e,c⟩
 | dD kvs ep=>obtain⟨z,y,nd,xs,r,ob,es,e,c⟩:=x;exact⟨z,y,nd,xs,r,ob,es,k _ _ (.inl rfl) e,c⟩
 | set S n=>obtain⟨ob,es,ep,t,e,c⟩:=x;exact⟨ob,es,ep,t,k _ _ (.inl rfl) e,c⟩
 | ins C dx fs=>
  obtain⟨d,z,ne,e,mA,⟨od,es,ep,e2,c⟩,r⟩:=x;exact⟨ho _ d,z,ne,k _ _ (.inl rfl) e,mA,⟨od,es,ep,k _ _ (.inr d) e2,c⟩,r⟩
 | own y=>obtain⟨ob,e⟩:=x;exact⟨ob,k _ _ (.inl rfl) e⟩
 | xd fs=>obtain⟨mA,⟨od,es,ep,e,c⟩,r⟩:=x;exact⟨mA,⟨od,es,ep,k _ _ (.inl rfl) e,c⟩,r⟩
 | rng lo hi=>obtain⟨t,u,v,e⟩:=x;exact⟨t,u,v,k _ _ (.inl rfl) e⟩
 | frz ob u ih=>obtain⟨e,q⟩:=x;exact⟨k _ _ (.inl rfl) e,ih q⟩
 | tbl ps=>
  have e:h.get? a=some { cls:=.none,data:=.fields ps }:=x;show h'.get? a=some { cls:=.none,data:=.fields ps };exact k a _ (.inl rfl) e
 | met f y=>
  have e:h.get? a=some (PySem.W.methodObj (.ref f) (.ref y)):=x;show h'.get? a=some (PySem.W.methodObj (.ref f) (.ref y));exact k a _ (.inl rfl) e
 | ext φ=>obtain⟨p,⟨o,e⟩,st⟩:=x;exact⟨st _ _ p fun o q=>k _ _ (.inl rfl) q,⟨o,k _ _ (.inl rfl) e⟩,st⟩
def yw.lt(x:yw P w H h)(e:H a=some o):a < h.objs.size:=(x a o e).lt
def yw.fresh(x:yw P w H h)(e:h.objs.size<=a):H a=none:=by
 cases q:H a with
 | none=>rfl
 | some u=>exact vDa (Nat.lt_of_lt_of_le (x.lt q) e) (wUa _)
def yw.kept(x:yw P w H h)(k:∀b u,h.get? b=some u->h'.get? b=some u):yw P w H h':=fun a o e=>
 (x a o e).stay (fun b u _ q=>k b u q) (fun _ q=>q) fun _ _ q=>q
def yw.laid(x:yw P w H h)(k:∀b u,h.get? b=some u->h'.get? b=some u)(hp:h.objs.size<=a)(new:yc P w (upd H a o) h' a o):yw P w (upd H a o) h':=fun b u e=>by
 have hn:=x.fresh hp;by_cases hb:b=a
 ·subst hb;rw[jV]at e;cases e;exact new
 ·rw[jq hb]at e;exact(x b u e).stay (fun c v _ q=>k c v q) (fun c q=>by rw[jq (jJ q hn)];exact q) fun c xs q=>by rw[jq (jJ q hn)];exact q
end
def Rd(H:Hp)(a:Addr)(u:HO):Prop:=H a=some u \/∃o,H a=some (.frz o u)
def Rd.ok{P:Program}{w:World}{H:Hp}{h:Heap}{a:Addr}{u:HO}(r:Rd H a u)(x:yw P w H h):yc P w H h a u:=by
 rcases r with r | ⟨o,r⟩
 ·exact x a u r
 ·obtain⟨_,q⟩:=x a _ r;exact q
def Xz:Option HO->Prop
 | some (.lst _)=>True
 | some (.dK _)=>True
 | some (.dT _)=>True
 | some (.dD _ _)=>True
 | some (.set _ _)=>True
 | some (.ins _ _ _)=>True
 | some (.ext _)=>True
 | _=>False
section
variable {P:Program} {w:World} {H:Hp} {h h':Heap} {x e:Addr} {o':HO}
def yw.write(ok:yw P w H h)(mu:Xz (H x))(he:e=x \/ H e=some (.own x))(k:∀b u,b≠e->h.get? b=some u->h'.get? b=some u)(heo:∃u,h'.get? e=some u)
  (new:yc P w (upd H x o') h' x o'):yw P w (upd H x o') h':=fun b u q=>by
 have nown:∀c y,H c=some (.own y)->c≠x:=fun c y r z=>by subst z;rw[r]at mu;exact mu
 have ntup:∀c xs,H c=some (.tup xs)->c≠x:=fun c xs r z=>by subst z;rw[r]at mu;exact mu
 by_cases hb:b=x
 ·subst hb;rw[jV]at q;cases q;exact new
 ·rw[jq hb]at q;by_cases hbe:b=e
  ·have q':H b=some (.own x):=by
    rcases he with z | z
    ·exact vDa (hbe.trans z) hb
    ·rw[hbe];exact z
   rw[q]at q';cases q';obtain⟨v,hv⟩:=heo;exact⟨v,by rw[hbe];exact hv⟩
  ·refine(ok b u q).stay (fun c v hc r=>k c v ?_ r) (fun c r=>by rw[jq (nown c b r)];exact r) fun c xs r=>by rw[jq (ntup c xs r)];exact r
   rcases hc with rfl | hc
   ·exact hbe
   ·rintro rfl;rcases he with z | z
    ·exact nown c b hc z
    ·rw[hc]at z;cases z;exact hb rfl
end
structure Un (fs ex:List Addr) (H H':Hp) (h h':Heap):Prop where
 keep:∀b o,h.get? b=some o->H b=none->b∉fs->b∉ex->h'.get? b=some o
 slot:∀b o,h.get? b=some o->H b=none->b∈fs->b∉ex->∃sl,h'.get? b=some { o with slots:=sl }
 free:∀b o,h.get? b=some o->H b=none->b∉ex->H' b=none
 there:∀b o,h.get? b=some o->b∉ex->∃o',h'.get? b=some o'
 tups:∀b xs,H b=some (.tup xs)->H' b=some (.tup xs)
 frzs:∀b o u,H b=some (.frz o u)->H' b=some (.frz o u)
 tbls:∀b ps,H b=some (.tbl ps)->∃more,H' b=some (.tbl (ps++more))
section
variable {fs fs' ex ex':List Addr} {H H1 H2:Hp} {h h1 h2 h':Heap} {a x e:Addr} {o:HO}
def Un.any(u:Un fs ex H H1 h h1){b:Addr}{ob:Obj}(q:h.get? b=some ob)(n:H b=none)(hx:b∉ex):∃sl,h1.get? b=some { ob with slots:=sl }:=by
 by_cases hb:b∈fs
 ·exact u.slot b ob q n hb hx
 ·exact⟨ob.slots,u.keep b ob q n hb hx⟩
def Un.kept(k:∀b u,h.get? b=some u->h'.get? b=some u):Un fs ex H H h h':=
 ⟨fun b ob q _ _ _=>k b ob q,fun b ob q _ _ _=>⟨ob.slots,k b ob q⟩,fun _ _ _ n _=>n,fun b ob q _=>⟨ob,k b ob q⟩,fun _ _ q=>q,fun _ _ _ q=>q,fun _ ps q=>⟨#[],by rw[q];simp⟩⟩
def Un.refl:Un fs ex H H h h:=Un.kept fun _ _ q=>q
def Un.laid(k:∀b u,h.get? b=some u->h'.get? b=some u)(hp:h.objs.size<=a)(hn:H a=none):Un fs ex H (upd H a o) h h' where
 keep:=fun b u q _ _ _=>k b u q
 slot:=fun b u q _ _ _=>⟨u.slots,k b u q⟩
 free:=fun b u q n _=>by rw[jq (Nat.ne_of_lt (Nat.lt_of_lt_of_le (Heap.lt_size q) hp))];exact n
 there:=fun b u q _=>⟨u,k b u q⟩
 tups:=fun b xs q=>by rw[jq (jJ q hn)];exact q
 frzs:=fun b u xs q=>by rw[jq (jJ q hn)];exact q
 tbls:=fun b ps q=>⟨#[],by rw[jq (jJ q hn),q];simp⟩
def Un.write(mu:Xz (H x))(he:e=x \/ H e=some (.own x))(k:∀b u,b≠e->h.get? b=some u->h'.get? b=some u)(heo:∃u,h'.get? e=some u):Un fs ex H (upd H x o) h h':=by
 have hx:∀b,H b=none->b≠x:=fun b n z=>by subst z;rw[n]at mu;exact mu
 have hb:∀b,H b=none->b≠e:=fun b n z=>by
  subst z;rcases he with r | r
  ·exact hx b n r
  ·rw[n]at r;cases r
 have hm:∀b u,H b=some u->¬Xz (some u)->b≠x:=fun b u q nm z=>by subst z;rw[q]at mu;exact nm mu
 refine⟨fun b u q n _ _=>k b u (hb b n) q,fun b u q n _ _=>⟨u.slots,k b u (hb b n) q⟩,fun b u q n _=>by rw[jq (hx b n)];exact n,fun b u q _=>?_,
  fun b xs q=>by rw[jq (hm b _ q fun z=>z)];exact q,fun b u xs q=>by rw[jq (hm b _ q fun z=>z)];exact q,fun b ps q=>⟨#[],by rw[jq (hm b _ q fun z=>z),q];simp⟩⟩
 by_cases hbe:b=e
 ·subst hbe;exact heo
 ·exact⟨u,k b u hbe q⟩
end
noncomputable def XA(h:Heap)(H:Hp):List Addr:=(List.range h.objs.size).filter fun a=>(H a).isSome
def VF(h:Heap)(H:Hp):Heap:=PySem.W.hideAll h (XA h H)
def qP(h:Heap)(H:Hp):(VF h H).objs.size=h.objs.size:=PySem.W.hideAll_size _ _
def xi{h:Heap}{H:Hp}{b:Addr}{o:Obj}(e:h.get? b=some o)(n:H b=none):(VF h H).get? b=some o:=
 PySem.W.hideAll_get _ e fun hm=>by
  have q:(H b).isSome=true:=(uUa hm).2;rw[n]at q;simp at q
def A0{h:Heap}{H:Hp}{b:Addr}{o:Obj}(e:(VF h H).get? b=some o):h.get? b=some o/\H b=none:=by
 have e':h.get? b=some o:=PySem.W.of_hideAll (XA h H) e;refine⟨e',?_⟩;cases q:H b with
 | none=>rfl
 | some x=>
  have hm:b∈XA h H:=List.mem_filter.mpr ⟨List.mem_range.mpr (wLa e'),by simp[q]⟩;have z:(VF h H).get? b=none:=PySem.W.hideAll_none (XA h H) hm;rw[z]at e;cases e
structure Mod (K:uXa) (mg:Str->Option Value) (base:Heap):Prop where
 kin:K.In base
 glob:base.Ns mainGlobals mg
 blt:∃mb,base.Ns builtinsNs mb/\∀x:Str,x≠ "__name__" ->mb x=bootBuiltins x
 nolimit:base.NoLimit
structure Cx where
 prog:Program
 w:World
 K:uXa
 mg:Str->Option Value
 base:Heap
 A:Around
 N:List Str
 s₀:Shared
 H₀:Hp
 env:Env
 outer:List Env
 stack:List Env
 ex:List Addr
 fn:Str->Bool
 calm:Bool
 pn:List (Addr×Obj)
 xe:Value->Shared->Prop
noncomputable def vG(l:List Env):List Addr:=l.filterMap (·.frame)
abbrev Cx.fs(X:Cx):List Addr:=vG X.outer
def qQ(sc:Scope)(x:Str):Prop:=sc.names.lookup x=some .local \/ sc.names.lookup x=some .cell \/ sc.names.lookup x=some .free
def UV(sc:Scope)(x:Str):Prop:=sc.names.lookup x=some .local \/ sc.names.lookup x=some .cell
def fw(env:Env)(h:Heap)(m:Str->Option Value)(x:Str)(u:Value):Prop:=
 (env.kindOf x=some .local/\m x=some u) \/ ((env.kindOf x=some .cell \/ env.kindOf x=some .free)/\∃c,env.cells.lookup x=some c/\h.IsCell c (some u))
structure Cx.Ok (X:Cx):Prop where
 mod:Mod X.K X.mg X.base
 kind:X.env.scope.kind=.function
 glob:X.env.globals=mainGlobals
 blt:X.env.builtins=builtinsNs
 above:X.s₀.heap.objs.size<=X.env.locals
 inj:∀x y c,X.env.cells.lookup x=some c->X.env.cells.lookup y=some c->x=y
 has:∀x,(X.env.kindOf x=some .cell \/ X.env.kindOf x=some .free)->∃c,X.env.cells.lookup x=some c
 cab:∀x c,X.fn x=true->X.env.cells.lookup x=some c->X.s₀.heap.objs.size<=c
 hd:X.calm=true->X.A.handled=none
 frames:X.A.frames=some X.stack
 stk:X.stack=X.outer \/ (X.stack=X.env::X.outer/\X.env.frame=some X.env.locals)
 exf:∀b∈X.ex,b≠X.env.locals/\∀x c,X.env.cells.lookup x=some c->c≠b
 bs:∀b o,X.base.get? b=some o->X.s₀.heap.get? b=some o/\X.H₀ b=none
 bsz:X.base.objs.size<=X.s₀.heap.objs.size
 noex:∀b o,X.base.get? b=some o->b∉X.ex
 exfs:∀b∈X.ex,b∉X.fs
 funs:X.s₀.heap.FunFrames X.base X.outer
 frf:∀b∈X.fs,X.H₀ b=none
structure Inv (X:Cx) (pins:List (Addr×Obj)) (U:List (Option V)) (H:Hp) (s:Shared):Prop where
 ok:X.Ok
 os:s.os=X.s₀.os
 bare:AllBare s.gens
 base:Un X.fs X.ex X.H₀ H X.s₀.heap s.heap
 loc:∃m,s.heap.Ns X.env.locals m/\∀(i:Nat) (x:Str) (v:V),X.N[i]?=some x->U[i]?=some (some v)->qQ X.env.scope x->∃u,jB v u/\fw X.env s.heap m x u
 cell:∀x c,X.env.cells.lookup x=some c->∃v,s.heap.IsCell c v
 free:H X.env.locals=none
 freeC:∀x c,X.env.cells.lookup x=some c->H c=none
 pin:∀p∈X.pn++pins,s.heap.get? p.1=some p.2/\H p.1=none/\p.1≠X.env.locals/\p.1∉X.fs/\∀v,p.2.data≠.cell v
 hok:yw X.prog X.w H s.heap
 len:U.length=X.N.length
section
variable {X:Cx} {pins:List (Addr×Obj)} {U:List (Option V)} {H H':Hp} {s:Shared} {h':Heap}
def Cx.Ok.nofr(ok:X.Ok){b:Addr}{o:Obj}(e:X.base.get? b=some o):b∉X.fs:=fun hb=>by
 have:=(ok.funs.mem hb).1;rw[e]at this;cases this
def Inv.bs(I:Inv X pins U H s):∀b o,X.base.get? b=some o->s.heap.get? b=some o/\H b=none:=fun b o e=>
 ⟨I.base.keep b o (I.ok.bs b o e).1 (I.ok.bs b o e).2 (I.ok.nofr e) (I.ok.noex b o e),I.base.free b o (I.ok.bs b o e).1 (I.ok.bs b o e).2 (I.ok.noex b o e)⟩
def Inv.bk(I:Inv X pins U H s):∀b o,X.base.get? b=some o->s.heap.get? b=some o:=fun b o e=>(I.bs b o e).1
def Inv.mod(I:Inv X pins U H s):Mod X.K X.mg X.base:=I.ok.mod
def Inv.kIn(I:Inv X pins U H s):X.K.In s.heap:=I.ok.mod.kin.keeps I.bk
def Inv.lt(I:Inv X pins U H s):X.env.locals < s.heap.objs.size:=let ⟨_,hn,_⟩:=I.loc;hn.lt
def Inv.sz(I:Inv X pins U H s):X.s₀.heap.objs.size<=s.heap.objs.size:=wSa I.ok.above (wQa I.lt)
def Inv.nofs(I:Inv X pins U H s){a:Addr}(h:s.heap.objs.size<=a):a∉X.fs:=fun hb=>by
 obtain⟨_,o,ho,_⟩:=I.ok.funs.mem hb;exact vDa (Nat.lt_of_lt_of_le (wLa ho) (wSa I.sz h)) (wUa _)
def Inv.cne(I:Inv X pins U H s):∀x c,X.env.cells.lookup x=some c->c≠X.env.locals:=fun x c e z=>by
 obtain⟨v,o,ho,hd⟩:=I.cell x c e;obtain⟨m,⟨o',es,ep,ho',hd',_⟩,_⟩:=I.loc;rw[z,ho']at ho;cases ho;rw[hd']at hd;cases hd
def Inv.funs(I:Inv X pins U H s):s.heap.FunFrames X.base X.outer:=by
 have all:∀(l:List Env),(∀b∈vG l,b∈X.fs)->X.s₀.heap.FunFrames X.base l->s.heap.FunFrames X.base l:=by
  intro l;induction l with
  | nil=>intro _ _;trivial
  | cons env r ih=>
   intro hs hl;obtain⟨hk,⟨L,o,hf,hn,ho,hd⟩,hr⟩:=hl;have hL:L∈X.fs:=hs L (by unfold vG;rw[List.filterMap_cons,hf];exact wNa);obtain⟨sl,e⟩:=I.base.slot L o ho (I.ok.frf L hL) hL fun z=>I.ok.exfs L z hL;exact⟨hk,⟨L,_,hf,hn,e,hd⟩,ih (fun b hb=>hs b (by unfold vG;rw[List.filterMap_cons,hf];exact wMa _ hb)) hr⟩
 exact all X.outer (fun _ hb=>hb) I.ok.funs
def Inv.stack(I:Inv X pins U H s):s.heap.FunFrames X.base X.stack:=by
 rcases I.ok.stk with e | ⟨e,hf⟩
 ·rw[e];exact I.funs
 ·rw[e];obtain⟨m,hn,_⟩:=I.loc;refine .cons (by rw[I.ok.kind];decide) hf hn ?_ I.funs;exact Heap.get?_none_of_le (wSa I.ok.bsz I.ok.above)
def Inv.stkSub(I:Inv X pins U H s):∀b∈vG X.stack,b∈X.env.locals::X.fs:=fun b hb=>by
 rcases I.ok.stk with e | ⟨e,hf⟩
 ·rw[e]at hb;exact wMa _ hb
 ·rw[e]at hb;unfold vG at hb;rw[List.filterMap_cons,hf]at hb;exact hb
def Inv.stkFree(I:Inv X pins U H s):∀b∈vG X.stack,H b=none:=fun b hb=>by
 rcases uTa (I.stkSub b hb)with e | hb
 ·rw[e];exact I.free
 ·obtain⟨_,o,ho,_⟩:=I.ok.funs.mem hb;exact I.base.free b o ho (I.ok.frf b hb) fun z=>I.ok.exfs b z hb
def Inv.step{g':Array GenState}{t':Nat}{d':Drawn}{ch:List Addr}(I:Inv X pins U H s)
  (hch:∀b∈ch,(b∈X.ex \/ X.s₀.heap.objs.size<=b)/\b≠X.env.locals/\(∀x c,X.env.cells.lookup x=some c->c≠b)/\∀p∈X.pn++pins,p.1≠b)
  (keep:∀b o,b≠X.env.locals->b∉X.fs->b∉ch->s.heap.get? b=some o->H b=none->h'.get? b=some o)
  (slot:∀b o,b≠X.env.locals->b∈X.fs->b∉ch->s.heap.get? b=some o->H b=none->∃sl,h'.get? b=some { o with slots:=sl }) (free:∀b o,b∉ch->s.heap.get? b=some o->H b=none->H' b=none)
  (there:∀b o,b∉ch->s.heap.get? b=some o->∃o',h'.get? b=some o')
  (tups:∀b xs,H b=some (.tup xs)->H' b=some (.tup xs)) (frzs:∀b o u,H b=some (.frz o u)->H' b=some (.frz o u)) (tbls:∀b ps,H b=some (.tbl ps)->∃more,H' b=some (.tbl (ps++more)))
  (ns:∀m,s.heap.Ns X.env.locals m->h'.Ns X.env.locals m) (hok:yw X.prog X.w H' h') (hg:AllBare g'):
  Inv X pins U H' { s with heap:=h',gens:=g',drawn:=d',toks:=t' }:=by
 have neL:∀b o,X.s₀.heap.get? b=some o->b≠X.env.locals:=fun b o e=>wTa (Nat.lt_of_lt_of_le (wLa e) I.ok.above);have neC:∀b o,X.s₀.heap.get? b=some o->b∉X.ex->b∉ch:=fun b o e hx hb=>by
  rcases(hch b hb).1 with z | z
  ·exact hx z
  ·exact vDa (Nat.lt_of_lt_of_le (wLa e) z) (wUa _)
 have cellK:∀x c,X.env.cells.lookup x=some c->∀v,s.heap.IsCell c v->h'.IsCell c v:=fun x c e v xx=>by
  obtain⟨o,ho,hd⟩:=xx;have nch:c∉ch:=fun z=>(hch c z).2.2.1 x c e rfl;by_cases hc:c∈X.fs
  ·obtain⟨sl,q⟩:=slot c o (I.cne x c e) hc nch ho (I.freeC x c e);exact⟨_,q,hd⟩
  ·exact⟨o,keep c o (I.cne x c e) hc nch ho (I.freeC x c e),hd⟩
 refine⟨I.ok,I.os,hg,⟨fun b o e n hb hx=>?_,fun b o e n hb hx=>?_,fun b o e n hx=>?_,fun b o e hx=>?_,fun b xs e=>tups b xs (I.base.tups b xs e),fun b o xs e=>frzs b o xs (I.base.frzs b o xs e),fun b ps e=>?_⟩,?_,fun x c e=>?_,?_,fun x c e=>?_,fun p hp=>?_,hok,I.len⟩
 ·exact keep b o (neL b o e) hb (neC b o e hx) (I.base.keep b o e n hb hx) (I.base.free b o e n hx)
 ·obtain⟨sl,e1⟩:=I.base.slot b o e n hb hx;obtain⟨sl',e2⟩:=slot b _ (neL b o e) hb (neC b o e hx) e1 (I.base.free b o e n hx);exact⟨sl',e2⟩
 ·obtain⟨o',e1⟩:=I.base.there b o e hx;exact free b o' (neC b o e hx) e1 (I.base.free b o e n hx)
 ·obtain⟨o',e1⟩:=I.base.there b o e hx;exact there b o' (neC b o e hx) e1
 ·obtain⟨m1,e1⟩:=I.base.tbls b ps e;obtain⟨m2,e2⟩:=tbls b _ e1;exact⟨m1++m2,by rw[e2,Array.append_assoc]⟩
 ·obtain⟨m,hn,hl⟩:=I.loc;refine⟨m,ns m hn,fun i x v e1 e2 e3=>?_⟩;obtain⟨u,r,l⟩:=hl i x v e1 e2 e3;refine⟨u,r,?_⟩;rcases l with l | ⟨k,c,e,z⟩
  ·exact .inl l
  ·exact .inr ⟨k,c,e,cellK x c e _ z⟩
 ·obtain⟨v,z⟩:=I.cell x c e;exact⟨v,cellK x c e v z⟩
 ·obtain⟨m,⟨o,_,_,ho,_⟩,_⟩:=I.loc;exact free _ o (fun z=>(hch _ z).2.1 rfl) ho I.free
 ·obtain⟨v,o,ho,hd⟩:=I.cell x c e;exact free c o (fun z=>(hch c z).2.2.1 x c e rfl) ho (I.freeC x c e)
 ·obtain⟨e,n,ne,nf,d⟩:=I.pin p hp;have nch:p.1∉ch:=fun z=>(hch p.1 z).2.2.2 p hp rfl;exact⟨keep p.1 p.2 ne nf nch e n,free p.1 p.2 nch e n,ne,nf,d⟩
def Inv.un{t':Nat}(I:Inv X pins U H s)(u:Un X.fs [] H H' s.heap h')(hok:yw X.prog X.w H' h'):Inv X pins U H' { s with heap:=h',toks:=t' }:=by
 obtain⟨m,⟨o,es,ep,ho,r⟩,_⟩:=id I.loc;obtain⟨sl,hL⟩:=u.any ho I.free (by simp);exact I.step (g':=s.gens) (d':=s.drawn) (ch:=[]) (fun _ z=>nomatch z) (fun b o _ hb _ e n=>u.keep b o e n hb (by simp)) (fun b o _ hb _ e n=>u.slot b o e n hb (by simp)) (fun b o _ e n=>u.free b o e n (by simp)) (fun b o _ e=>u.there b o e (by simp)) u.tups u.frzs u.tbls (fun m' hm=>by
  obtain⟨o',es',ep',ho',r'⟩:=hm;rw[ho]at ho';cases ho';exact⟨_,es',ep',hL,r'⟩) hok I.bare
def Inv.call{g':Array GenState}{t':Nat}{d':Drawn}{ch:List Addr}(I:Inv X pins U H s)(u:Un (vG X.stack) ch H H' s.heap h')(hok:yw X.prog X.w H' h')(hg:AllBare g')
  (hch:∀b∈ch,(b∈X.ex \/ X.s₀.heap.objs.size<=b)/\b≠X.env.locals/\(∀x c,X.env.cells.lookup x=some c->c≠b)/\∀p∈X.pn++pins,p.1≠b):
  Inv X pins U H' { s with heap:=h',gens:=g',drawn:=d',toks:=t' }:=by
 obtain⟨m,⟨o,es,ep,ho,r⟩,_⟩:=id I.loc;obtain⟨sl,hL⟩:=u.any ho I.free fun z=>(hch _ z).2.1 rfl;exact I.step (ch:=ch) hch (fun b o hL hb hc e n=>u.keep b o e n (fun z=>(uTa (I.stkSub b z)).elim hL hb) hc) (fun b o _ _ hc e n=>u.any e n hc) (fun b o hc e n=>u.free b o e n hc) (fun b o hc e=>u.there b o e hc) u.tups u.frzs u.tbls (fun m' hm=>by
  obtain⟨o',es',ep',ho',r'⟩:=hm;rw[ho]at ho';cases ho';exact⟨_,es',ep',hL,r'⟩) hok hg
def Inv.turned{t':Nat}{it:Addr}(I:Inv X pins U H s)(k:∀b o,b≠it->s.heap.get? b=some o->h'.get? b=some o)(hn:H it=none)(hL:it≠X.env.locals)
  (h1:it∈X.ex \/ X.s₀.heap.objs.size<=it) (h2:∀x c,X.env.cells.lookup x=some c->c≠it) (h3:∀p∈X.pn++pins,p.1≠it):Inv X pins U H { s with heap:=h',toks:=t' }:=by
 have nit:∀b u,H b=some u->b≠it:=fun b u e z=>by rw[z,hn]at e;cases e
 refine I.step (g':=s.gens) (d':=s.drawn) (ch:=[it]) (fun b hb=>?_) (fun b o _ _ hc e _=>k b o (fun z=>hc (by simp[z])) e) (fun b o _ _ hc e _=>⟨o.slots,k b o (fun z=>hc (by simp[z])) e⟩) (fun _ _ _ _ n=>n)
  (fun b o hc e=>⟨o,k b o (fun z=>hc (by simp[z])) e⟩) (fun _ _ e=>e) (fun _ _ _ e=>e) (fun b ps e=>⟨#[],by rw[e];simp⟩) (fun m hm=>?_) (fun b u e=>?_) I.bare
 ·have e:b=it:=by simpa using hb
  subst e;exact⟨h1,hL,h2,h3⟩
 ·obtain⟨o,es,ep,ho,r⟩:=hm;exact⟨o,es,ep,k _ o (Ne.symm hL) ho,r⟩
 ·refine(I.hok b u e).stay (fun c v hc q=>k c v ?_ q) (fun _ q=>q) fun _ _ q=>q;rcases hc with z | z
  ·rw[z];exact nit b u e
  ·exact nit c _ z
def Inv.tok(I:Inv X pins U H s)(t:Nat):Inv X pins U H { s with toks:=t }:=I.un (h':=s.heap) (t':=t) Un.refl I.hok
def Inv.kept{t':Nat}(I:Inv X pins U H s)(k:∀b u,s.heap.get? b=some u->h'.get? b=some u):Inv X pins U H { s with heap:=h',toks:=t' }:=I.un (Un.kept k) (I.hok.kept k)
def Inv.laid{a:Addr}{o:HO}{t':Nat}(I:Inv X pins U H s)(k:∀b u,s.heap.get? b=some u->h'.get? b=some u)(hp:s.heap.objs.size<=a)(new:yc X.prog X.w (upd H a o) h' a o):
  Inv X pins U (upd H a o) { s with heap:=h',toks:=t' }:=I.un (Un.laid k hp (I.hok.fresh hp)) (I.hok.laid k hp new)
def Inv.write{x e:Addr}{o:HO}{t':Nat}(I:Inv X pins U H s)(mu:Xz (H x))(he:e=x \/ H e=some (.own x))(k:∀b u,b≠e->s.heap.get? b=some u->h'.get? b=some u)(heo:∃u,h'.get? e=some u)
  (new:yc X.prog X.w (upd H x o) h' x o):Inv X pins U (upd H x o) { s with heap:=h',toks:=t' }:=I.un (Un.write mu he k heo) (I.hok.write mu he k heo new)
def Inv.weak{U':List (Option V)}(I:Inv X pins U H s)(hl:U'.length=U.length)(w:∀(i:Nat) v,U'[i]?=some (some v)->U[i]?=some (some v)):Inv X pins U' H s:=
 ⟨I.ok,I.os,I.bare,I.base,let ⟨m,hn,hl'⟩:=I.loc;⟨m,hn,fun i x v e1 e2 e3=>hl' i x v e1 (w i v e2) e3⟩,I.cell,I.free,I.freeC,I.pin,I.hok,hl.trans I.len⟩
def Inv.pins_of{pins':List (Addr×Obj)}(I:Inv X pins U H s)(h:∀p∈pins',s.heap.get? p.1=some p.2/\H p.1=none/\p.1≠X.env.locals/\p.1∉X.fs/\∀v,p.2.data≠.cell v):Inv X pins' U H s:=
 ⟨I.ok,I.os,I.bare,I.base,I.loc,I.cell,I.free,I.freeC,fun p hp=>(uWa hp).elim (fun z=>I.pin p (vIa _ z)) (h p),I.hok,I.len⟩
def Kw{N:List Str}(hN:N.Nodup){i j:Nat}{x:Str}(a:N[i]?=some x)(b:N[j]?=some x):i=j:=by
 obtain⟨h1,e1⟩:=uSa a;obtain⟨h2,e2⟩:=uSa b;exact(List.getElem_inj hN).mp (e1.trans e2.symm)
def uj{M:Model}{A:Around}{E:Value->Shared->Prop}{i:Nat}{x:Str}{v:V}{u:Value}{Q:Unit->Shared->Prop}(I:Inv X pins U H s)(hN:X.N.Nodup)(hi:X.N[i]?=some x)(hx:UV X.env.scope x)(r:jB v u)
  (h:∀s',Inv X pins (U.set i (some v)) H s'->(∃a,Heap.SameBut a s.heap s'.heap/\(a=X.env.locals \/ X.env.cells.lookup x=some a))->Q () s') (hf:X.fn x=true \/ X.env.scope.names.lookup x=some .local:=by first | exact .inl rfl | exact .inr rfl | assumption):wpAny M A (storeName X.env x u) Q E s:=by
 obtain⟨m,hn,hl⟩:=id I.loc;have hcls:(X.env.scope.kind==.class||(X.env.scope.kind==.module&&X.env.locals != X.env.globals))=false:=by rw[I.ok.kind];rfl
 have hiU:i < U.length:=by rw[I.len];exact(uSa hi).1
 have cne:=I.cne;have tracked:∀{a:Addr} {h':Heap},(∃o,s.heap.get? a=some o/\H a=none)->Heap.SameBut a s.heap h'->yw X.prog X.w H h':=fun {a h'} ha hs b ob e=>by
  obtain⟨_,_,hfree⟩:=ha;refine(I.hok b ob e).stay (fun c w' hc q=>(hs.2 c ?_).trans q) (fun _ q=>q) fun _ _ q=>q;rintro rfl;rcases hc with rfl | hc
  ·rw[hfree]at e;cases e
  ·rw[hfree]at hc;cases hc
 rcases hx with hk | hk
 ·refine wpAny_storeName_local hk hn (fun h' hn' hs=>?_) hcls;obtain⟨oL,_,_,hoL,_⟩:=id hn;refine h _ ⟨I.ok,I.os,I.bare,⟨fun b o e n hb hx=>?_,fun b o e n hb hx=>?_,I.base.free,fun b o e hx=>?_,I.base.tups,I.base.frzs,I.base.tbls⟩,⟨_,hn',fun j y v' e1 e2 e3=>?_⟩,fun y c e=>?_,I.free,I.freeC,fun p hp=>?_,tracked ⟨oL,hoL,I.free⟩ hs,by simpa using I.len⟩ ⟨_,hs,.inl rfl⟩
  ·exact(hs.2 b (wTa (Nat.lt_of_lt_of_le (wLa e) I.ok.above))).trans (I.base.keep b o e n hb hx)
  ·obtain⟨sl,e1⟩:=I.base.slot b o e n hb hx;exact⟨sl,(hs.2 b (wTa (Nat.lt_of_lt_of_le (wLa e) I.ok.above))).trans e1⟩
  ·obtain⟨o',e1⟩:=I.base.there b o e hx;exact⟨o',(hs.2 b (wTa (Nat.lt_of_lt_of_le (wLa e) I.ok.above))).trans e1⟩
  ·by_cases hj:j=i
   ·subst hj;rw[hi]at e1;cases e1;rw[List.getElem?_set_self hiU]at e2;cases e2;exact⟨u,r,.inl ⟨hk,by simp⟩⟩
   ·rw[List.getElem?_set_ne (Ne.symm hj)]at e2;obtain⟨u',r',q⟩:=hl j y v' e1 e2 e3;refine⟨u',r',?_⟩;rcases q with⟨k,e⟩ | ⟨k,c,e,z⟩
    ·refine .inl ⟨k,?_⟩;have:y≠x:=fun e=>hj (Kw hN e1 (e▸hi));simp[this,e]
    ·exact .inr ⟨k,c,e,z.sameBut hs (cne y c e)⟩
  ·obtain⟨w',z⟩:=I.cell y c e;exact⟨w',z.sameBut hs (cne y c e)⟩
  ·obtain⟨e,n,ne,nf,d⟩:=I.pin p hp;exact⟨(hs.2 p.1 ne).trans e,n,ne,nf,d⟩
 ·have hfn:X.fn x=true:=by
   rcases hf with z | z
   ·exact z
   ·rw[z]at hk;cases hk
  obtain⟨c,hc⟩:=I.ok.has x (.inl hk);obtain⟨w',z⟩:=I.cell x c hc;refine wpAny_storeName_cell I.ok.kind hk hc z (fun h' hc' hs=>?_);obtain⟨oc,hoc,hocd⟩:=id z;refine h { s with heap:=h' } ⟨I.ok,I.os,I.bare,⟨fun b o e n hb hx=>?_,fun b o e n hb hx=>?_,I.base.free,fun b o e hx=>?_,I.base.tups,I.base.frzs,I.base.tbls⟩,⟨m,hn.sameBut hs (Ne.symm (cne x c hc)),fun j y v' e1 e2 e3=>?_⟩,fun y c' e=>?_,I.free,I.freeC,fun p hp=>?_,tracked ⟨oc,hoc,I.freeC x c hc⟩ hs,by simpa using I.len⟩ ⟨c,hs,.inr hc⟩
  ·exact(hs.2 b (wTa (Nat.lt_of_lt_of_le (wLa e) (I.ok.cab x c hfn hc)))).trans (I.base.keep b o e n hb hx)
  ·obtain⟨sl,e1⟩:=I.base.slot b o e n hb hx;exact⟨sl,(hs.2 b (wTa (Nat.lt_of_lt_of_le (wLa e) (I.ok.cab x c hfn hc)))).trans e1⟩
  ·obtain⟨o',e1⟩:=I.base.there b o e hx;exact⟨o',(hs.2 b (wTa (Nat.lt_of_lt_of_le (wLa e) (I.ok.cab x c hfn hc)))).trans e1⟩
  ·by_cases hj:j=i
   ·subst hj;rw[hi]at e1;cases e1;rw[List.getElem?_set_self hiU]at e2;cases e2;exact⟨u,r,.inr ⟨.inl hk,c,hc,hc'⟩⟩
   ·rw[List.getElem?_set_ne (Ne.symm hj)]at e2;obtain⟨u',r',q⟩:=hl j y v' e1 e2 e3;refine⟨u',r',?_⟩;rcases q with q | ⟨k,c',e,z'⟩
    ·exact .inl q
    ·refine .inr ⟨k,c',e,z'.sameBut hs ?_⟩;rintro rfl;exact hj (Kw hN e1 (I.ok.inj _ _ _ e hc▸hi))
  ·by_cases hcc:c'=c
   ·subst hcc;exact⟨_,hc'⟩
   ·obtain⟨w2,z2⟩:=I.cell y c' e;exact⟨w2,z2.sameBut hs hcc⟩
  ·obtain⟨e,n,ne,nf,d⟩:=I.pin p hp;refine⟨(hs.2 p.1 ?_).trans e,n,ne,nf,d⟩;intro q;rw[q,hoc]at e;have q':oc=p.2:=vFa e;exact d w' (by rw[<-q'];exact hocd)
def Kx{M:Model}{A:Around}{E:Value->Shared->Prop}{i:Nat}{x:Str}{v:V}{u:Value}{Q:Unit->Shared->Prop}(I:Inv X pins U H s)(hN:X.N.Nodup)(hi:X.N[i]?=some x)(hx:UV X.env.scope x)(r:jB v u)
  (h:∀s',Inv X pins (U.set i (some v)) H s'->Q () s') (hf:X.fn x=true \/ X.env.scope.names.lookup x=some .local:=by first | exact .inl rfl | exact .inr rfl | assumption):wpAny M A (storeName X.env x u) Q E s:=
 uj I hN hi hx r (fun s' I' _=>h s' I') hf
def Inv.call'{s':Shared}{ch:List Addr}(I:Inv X pins U H s)(ho:s'.os=s.os)(u:Un (vG X.stack) ch H H' s.heap s'.heap)(hok:yw X.prog X.w H' s'.heap)(hg:AllBare s'.gens)
  (hch:∀b∈ch,(b∈X.ex \/ X.s₀.heap.objs.size<=b)/\b≠X.env.locals/\(∀x c,X.env.cells.lookup x=some c->c≠b)/\∀p∈X.pn++pins,p.1≠b):Inv X pins U H' s':=by
 obtain⟨h',g',d',t',o'⟩:=s';have e:o'=s.os:=ho;subst e;exact I.call (g':=g') (t':=t') (d':=d') u hok hg hch
end
noncomputable abbrev XK:=Value->Option Addr->Hp->Prop
noncomputable abbrev St:=List (Option V)
noncomputable abbrev VK:=V->Hp->Prop
noncomputable abbrev TE:=St->Hp->VK->Prop
noncomputable abbrev TT:=St->Hp->(Bool->Hp->Prop)->Prop
noncomputable abbrev TA:=St->Hp->(List V->Hp->Prop)->Prop
structure Ends where
 nx:St->Hp->Prop
 rt:VK
 bk:St->Hp->Prop:=fun _ _=>False
 ct:St->Hp->Prop:=fun _ _=>False
noncomputable abbrev TS:=Ends->St->Hp->Prop
def EP(X:Cx)(pins:List (Addr×Obj))(U:St)(Q:VK)(u:Value)(s':Shared):Prop:=∃v H',Inv X pins U H' s'/\jB v u/\Q v H'
def TP(X:Cx)(pins:List (Addr×Obj))(U:St)(Q:Bool->Hp->Prop)(b:Bool)(s':Shared):Prop:=∃H',Inv X pins U H' s'/\Q b H'
def AP(X:Cx)(pins:List (Addr×Obj))(U:St)(Q:List V->Hp->Prop)(us:List Value)(s':Shared):Prop:=∃vs H',Inv X pins U H' s'/\jj vs us/\Q vs H'
def SP(X:Cx)(pins:List (Addr×Obj))(D:Ends)(f:Flow)(s':Shared):Prop:=
 match f with
 | .next=>∃U' H',Inv X pins U' H' s'/\D.nx U' H'
 | .brk=>∃U' H',Inv X pins U' H' s'/\D.bk U' H'
 | .cont=>∃U' H',Inv X pins U' H' s'/\D.ct U' H'
 | .ret u=>∃v U' H',Inv X pins U' H' s'/\jB v u/\D.rt v H'
def PE(X:Cx)(e:Expr)(t:TE):Prop:=
 ∀(pins:List (Addr×Obj)) (s:Shared) (U:St) (H:Hp) (Q:VK),Inv X pins U H s->t U H Q->wpAny (model X.prog X.w) X.A (eval e X.env) (EP X pins U Q) X.xe s
def PT(X:Cx)(e:Expr)(t:TT):Prop:=
 ∀(pins:List (Addr×Obj)) (s:Shared) (U:St) (H:Hp) (Q:Bool->Hp->Prop),Inv X pins U H s->t U H Q->wpAny (model X.prog X.w) X.A (isTrue e X.env (eval e X.env)) (TP X pins U Q) X.xe s
def PW(X:Cx)(e:Expr)(t:TT):Prop:=
 ∀(whole:Sem Value) (pins:List (Addr×Obj)) (s:Shared) (U:St) (H:Hp) (Q:Bool->Hp->Prop),Inv X pins U H s->t U H Q->wpAny (model X.prog X.w) X.A (isTrue e X.env whole) (TP X pins U Q) X.xe s
def PW.pt{X:Cx}{e:Expr}{t:TT}(h:PW X e t):PT X e t:=h _
def PA(X:Cx)(es:List Expr)(t:TA):Prop:=
 ∀(pos:Pos) (pins:List (Addr×Obj)) (s:Shared) (U:St) (H:Hp) (Q:List V->Hp->Prop),Inv X pins U H s->t U H Q->wpAny (model X.prog X.w) X.A (spliced (backTo pos (starEach es X.env))) (AP X pins U Q) X.xe s
def PS(X:Cx)(st:Stmt)(t:TS):Prop:=
 ∀(pins:List (Addr×Obj)) (s:Shared) (U:St) (H:Hp) (D:Ends),Inv X pins U H s->t D U H->wpAny (model X.prog X.w) X.A (exec st X.env) (SP X pins D) X.xe s
def Jn(X:Cx)(st:List Stmt)(t:TS):Prop:=
 ∀(pins:List (Addr×Obj)) (s:Shared) (U:St) (H:Hp) (D:Ends),Inv X pins U H s->t D U H->wpAny (model X.prog X.w) X.A (execs st X.env) (SP X pins D) X.xe s
def jw{α:Type}{t:Sem α}{Q Q':α->Shared->Prop}{M:Model}{A:Around}{E:Value->Shared->Prop}{s:Shared}(h:wpAny M A t Q E s)(hQ:∀a s,Q a s->Q' a s):wpAny M A t Q' E s:=wCa h hQ fun _ _ x=>x
section
variable {X:Cx}
def yx(i:Nat):TE:=fun U H Q=>∃v,U[i]?=some (some v)/\Q v H
def tC(v:V):TE:=fun _ H Q=>Q v H
def bL{i:Nat}{x:Str}{pos:Pos}(hN:X.N[i]?=some x)(hv:qQ X.env.scope x)(hd:(x==("__debug__" : Str))=false:=by decide)(hcd:(x==("__classdict__" : Str))=false:=by decide):PE X (.Name x pos) (yx i):=by
 intro pins s U H Q I h;obtain⟨v,e,h⟩:=h;obtain⟨m,hn,hl⟩:=I.loc;obtain⟨u,r,l⟩:=hl i x v hN e hv;have fin:EP X pins U Q u s:=⟨v,H,I,r,h⟩
 rcases l with⟨hk,hm⟩ | ⟨hk,c,hc,hcell⟩
 ·exact wpAny_Name (wpAny_loadName_local I.ok.kind hk hn hm fin) hd
 ·rcases hk with hk | hk
  ·exact wpAny_Name (wpAny_loadName_cell I.ok.kind hk hc hcell fin) hd
  ·exact wpAny_Name (wpAny_loadName_free I.ok.kind hk hc hcell fin hcd) hd
def bM{i j pos}:PE X (.Constant (.int i) j pos) (tC (.int i)):=fun _ _ _ H _ I h=>wpAny_Constant_int ⟨.int i,H,I.tok _,⟨_,rfl⟩,h⟩
def Da{b j pos}:PE X (.Constant (.bool b) j pos) (tC (.bl b)):=fun _ _ _ H _ I h=>Constant_bool ⟨.bl b,H,I,rfl,h⟩
def bN{j pos}:PE X (.Constant .none j pos) (tC .non):=fun _ _ _ H _ I h=>Constant_none ⟨.non,H,I,rfl,h⟩
def bO{x j pos}:PE X (.Constant (.str x) j pos) (tC (.str x)):=fun _ _ _ H _ I h=>Calls.Constant_str ⟨.str x,H,I.tok _,⟨_,rfl⟩,h⟩
def Gl(X:Cx)(x:Str):Prop:=X.env.kindOf x=some .globalImplicit
def GS{E:Value->Shared->Prop}{pins:List (Addr×Obj)}{s:Shared}{U:St}{H:Hp}{x:Str}{u:Value}{pos:Pos}{Q:Value->Shared->Prop}(I:Inv X pins U H s)(hg:Gl X x)(hm:X.mg x=some u)(h:Q u s)
  (hd:(x==("__debug__" : Str))=false:=by decide):wpAny (model X.prog X.w) X.A (eval (.Name x pos) X.env) Q E s:=
 Calls.Name_function_global I.ok.kind hg (Calls.loadGlobal_global (by rw[I.ok.glob];exact I.mod.glob.keeps I.bk) hm h) hd
def ZT{E:Value->Shared->Prop}{pins:List (Addr×Obj)}{s:Shared}{U:St}{H:Hp}{x:Str}{u:Value}{pos:Pos}{Q:Value->Shared->Prop}(I:Inv X pins U H s)(hg:Gl X x)(hm:X.mg x=none)(hv:bootBuiltins x=some u)(h:Q u s)
  (hn:x≠ "__name__" := by decide) (hd:(x==("__debug__" : Str))=false:=by decide):wpAny (model X.prog X.w) X.A (eval (.Name x pos) X.env) Q E s:=by
 obtain⟨mb,h1,h2⟩:=I.mod.blt;exact Calls.Name_function_global I.ok.kind hg (Calls.loadGlobal_builtin (by rw[I.ok.glob];exact I.mod.glob.keeps I.bk) hm (by rw[I.ok.blt];exact h1.keeps I.bk) ((h2 x hn).trans hv) h) hd
def A2{x:Str}{v:V}{u:Value}{pos:Pos}(hg:Gl X x)(hm:X.mg x=some u)(r:jB v u)(hd:(x==("__debug__" : Str))=false:=by decide):PE X (.Name x pos) (tC v):=
 fun _ _ _ H _ I h=>GS I hg hm ⟨v,H,I,r,h⟩ hd
def A4{x:Str}{v:V}{u:Value}{pos:Pos}(hg:Gl X x)(hm:X.mg x=none)(hv:bootBuiltins x=some u)(r:jB v u)(hn:x≠ "__name__" := by decide)(hd:(x==("__debug__" : Str))=false:=by decide):PE X (.Name x pos) (tC v):=
 fun _ _ _ H _ I h=>ZT I hg hm hv ⟨v,H,I,r,h⟩ hn hd
variable {a b:Expr} {ta tb:TE} {pos:Pos}
variable {tA tB':TT} {rest:List Expr}
def fx(t u:TT):TT:=fun U H Q=>t U H fun c H1=>if c=true then u U H1 Q else Q false H1
def hU(t u:TT):TT:=fun U H Q=>t U H fun c H1=>if c=true then Q true H1 else u U H1 Q
def fy(t:TT):TT:=fun U H Q=>t U H fun c H1=>Q (!c) H1
def A6(ha:PT X a tA):PW X (.BoolOp .And [a] pos) tA:=by
 intro wh pins s U H Q I h;refine isTrue_and (jw (ha pins s U H Q I h) fun c s1 e=>?_);cases c with
 | true=>exact isTrue_and_nil e
 | false=>exact e
def bP(ha:PT X a tA):PW X (.BoolOp .Or [a] pos) tA:=by
 intro wh pins s U H Q I h;refine isTrue_or (jw (ha pins s U H Q I h) fun c s1 e=>?_);cases c with
 | false=>exact isTrue_or_nil e
 | true=>exact e
def bQ(ha:PT X a tA)(hb:PW X (.BoolOp .And (b::rest) pos) tB'):PW X (.BoolOp .And (a::b::rest) pos) (fx tA tB'):=by
 intro wh pins s U H Q I h;refine isTrue_and (jw (ha pins s U H _ I h) fun c s1 xx=>?_);obtain⟨H1,I1,q1⟩:=xx;cases c with
 | true=>exact hb wh pins s1 U H1 Q I1 q1
 | false=>exact⟨H1,I1,q1⟩
def Db(ha:PT X a tA)(hb:PW X (.BoolOp .Or (b::rest) pos) tB'):PW X (.BoolOp .Or (a::b::rest) pos) (hU tA tB'):=by
 intro wh pins s U H Q I h;refine isTrue_or (jw (ha pins s U H _ I h) fun c s1 xx=>?_);obtain⟨H1,I1,q1⟩:=xx;cases c with
 | true=>exact⟨H1,I1,q1⟩
 | false=>exact hb wh pins s1 U H1 Q I1 q1
def bR(ha:PT X a tA):PT X (.UnaryOp .Not a pos) (fy tA):=by
 intro pins s U H Q I h;exact isTrue_not (ha pins s U H (fun c H1=>Q (!c) H1) I h)
def Dc(ta tb:TE):TE:=fun U H Q=>ta U H fun x H1=>∃c,x=.bl c/\if c=true then tb U H1 Q else Q (.bl false) H1
def fA(ta tb:TE):TE:=fun U H Q=>ta U H fun x H1=>∃c,x=.bl c/\if c=true then Q (.bl true) H1 else tb U H1 Q
def Dg(ta:TE):TE:=fun U H Q=>ta U H fun x H1=>∃c,x=.bl c/\Q (.bl (!c)) H1
def bS{op}{t:TE}(h:PE X a t):PE X (.BoolOp op [a] pos) t:=fun pins s U H Q I hw=>BoolOp_one (h pins s U H Q I hw)
def bT(ha:PE X a ta)(hb:PE X (.BoolOp .And (b::rest) pos) tb):PE X (.BoolOp .And (a::b::rest) pos) (Dc ta tb):=by
 intro pins s U H Q I h;refine BoolOp_and (jw (ha pins s U H _ I h) fun v s1 xx=>?_);obtain⟨x,H1,I1,r1,q1⟩:=xx;obtain⟨c,rfl,q1⟩:=q1;cases r1;refine wpAny_truthy_bool ?_;cases c with
 | true=>exact hb pins s1 U H1 Q I1 q1
 | false=>exact⟨.bl false,H1,I1,rfl,q1⟩
def Dh(ha:PE X a ta)(hb:PE X (.BoolOp .Or (b::rest) pos) tb):PE X (.BoolOp .Or (a::b::rest) pos) (fA ta tb):=by
 intro pins s U H Q I h;refine BoolOp_or (jw (ha pins s U H _ I h) fun v s1 xx=>?_);obtain⟨x,H1,I1,r1,q1⟩:=xx;obtain⟨c,rfl,q1⟩:=q1;cases r1;refine wpAny_truthy_bool ?_;cases c with
 | false=>exact hb pins s1 U H1 Q I1 q1
 | true=>exact⟨.bl true,H1,I1,rfl,q1⟩
def bU(ha:PE X a ta):PE X (.UnaryOp .Not a pos) (Dg ta):=by
 intro pins s U H Q I h;refine UnaryOp_ (jw (ha pins s U H _ I h) fun v s1 xx=>?_);obtain⟨x,H1,I1,r1,q1⟩:=xx;obtain⟨c,rfl,q1⟩:=q1;cases r1;exact not_of (wpAny_truthy_bool ⟨.bl (!c),H1,I1,rfl,q1⟩)
def hV(t:TT)(ta tb:TE):TE:=fun U H Q=>t U H fun c H1=>if c=true then ta U H1 Q else tb U H1 Q
def xj{c:Expr}(hc:PT X c tA)(ha:PE X a ta)(hb:PE X b tb):PE X (.IfExp c a b pos) (hV tA ta tb):=by
 intro pins s U H Q I h;refine wpAny_IfExp (jw (hc pins s U H _ I h) fun d s1 xx=>?_);obtain⟨H1,I1,q1⟩:=xx;cases d with
 | true=>exact ha pins s1 U H1 Q I1 q1
 | false=>exact hb pins s1 U H1 Q I1 q1
end
def jG(K:uXa)(H:Hp)(a:Addr)(xs:List V):Prop:=
 Rd H a (.lst xs) \/
  ∃(o:Obj) (its:Array Value) (n:Nat),K.lookup a=some o/\o.cls=.type "list" /\o.dict=none/\o.data=.seq its n/\its.size<=sizeLine/\jj xs its.toList
def Jq(K:uXa)(H:Hp)(a:Addr)(xs:List V):Prop:=
 Rd H a (.tup xs) \/
  ∃(o:Obj) (its:Array Value) (n:Nat),K.lookup a=some o/\o.cls=.type "tuple" /\o.data=.seq its n/\its.size<=sizeLine/\jj xs its.toList
noncomputable def fG:Value->Option V
 | .none=>some .non
 | .bool b=>some (.bl b)
 | .int i _=>some (.int i)
 | .str x _=>some (.str x)
 | .bytes b _=>some (.byt b)
 | .float b _=>some (.flt b)
 | .ref a=>some (.ref a)
 | .type n=>some (.ty n)
 | _=>none
def jB.abs{x:V}{u:Value}(r:jB x u):fG u=some x:=by
 cases x with
 | non=>cases r;rfl
 | bl _=>cases r;rfl
 | int _=>obtain⟨t,rfl⟩:=r;rfl
 | str _=>obtain⟨t,rfl⟩:=r;rfl
 | byt _=>obtain⟨t,rfl⟩:=r;rfl
 | flt _=>obtain⟨t,rfl⟩:=r;rfl
 | ref _=>cases r;rfl
 | ty _=>cases r;rfl
def jB.inj{x y:V}{u:Value}(r:jB x u)(q:jB y u):x=y:=vFa (r.abs.symm.trans q.abs)
theorem jj.inj:∀{xs ys:List V} {us:List Value},jj xs us->jj ys us->xs=ys
 | _,_,_,.nil,.nil=>rfl
 | _,_,_,.cons r t,.cons r' t'=>by rw[r.inj r',jj.inj t t']
section
variable {X:Cx} {pins:List (Addr×Obj)} {U:St} {H:Hp} {s:Shared} {a:Addr} {xs ys:List V}
def jG.of{K:uXa}(h:H a=some (.lst xs)):jG K H a xs:=.inl (.inl h)
def Jq.of{K:uXa}(h:H a=some (.tup xs)):Jq K H a xs:=.inl (.inl h)
def Inv.list(I:Inv X pins U H s)(h:jG X.K H a xs):∃its:List Value,jj xs its/\PlainL s.heap a its.toArray/\xs.length<=sizeLine:=by
 rcases h with h | ⟨o,its,n,hk,hc,hd,hs,hz,r⟩
 ·obtain⟨z,its,n,r,e⟩:=h.ok I.hok;exact⟨its,r,⟨_,n,e,rfl,rfl,rfl⟩,z⟩
 ·refine⟨its.toList,r,⟨o,n,I.kIn a o hk,hc,hd,by simpa using hs⟩,?_⟩;have e:=r.length;simp only[Array.length_toList]at e
  lia
def Inv.tuple(I:Inv X pins U H s)(h:Jq X.K H a xs):∃its:List Value,jj xs its/\IsTup s.heap a its.toArray/\xs.length<=sizeLine:=by
 rcases h with h | ⟨o,its,n,hk,hc,hs,hz,r⟩
 ·obtain⟨z,its,r,p⟩:=h.ok I.hok;exact⟨its,r,p,z⟩
 ·refine⟨its.toList,r,⟨o,I.kIn a o hk,hc,n,by simpa using hs⟩,?_⟩;have e:=r.length;simp only[Array.length_toList]at e
  lia
def Inv.list_inj(I:Inv X pins U H s)(h:jG X.K H a xs)(h':jG X.K H a ys):xs=ys:=by
 obtain⟨its,r,⟨o,n,e,_,_,d⟩,_⟩:=I.list h;obtain⟨its',r',⟨o',n',e',_,_,d'⟩,_⟩:=I.list h';rw[e]at e';cases e';rw[d]at d';injection d' with d1 _;have:its=its':=by simpa using congrArg Array.toList d1
 subst this;exact r.inj r'
def Inv.tuple_inj(I:Inv X pins U H s)(h:Jq X.K H a xs)(h':Jq X.K H a ys):xs=ys:=by
 obtain⟨its,r,⟨o,e,_,n,d⟩,_⟩:=I.tuple h;obtain⟨its',r',⟨o',e',_,n',d'⟩,_⟩:=I.tuple h';rw[e]at e';cases e';rw[d]at d';injection d' with d1 _;have:its=its':=by simpa using congrArg Array.toList d1
 subst this;exact r.inj r'
end
noncomputable abbrev Cx.wish(X:Cx)(E:Value->Shared->Prop):Cx:={ X with xe:=E }
abbrev Cx.nox(X:Cx):Cx:=X.wish fun _ _=>False
def Cx.Ok.wish{X:Cx}(ok:X.Ok)(E:Value->Shared->Prop):(X.wish E).Ok:=
 ⟨ok.mod,ok.kind,ok.glob,ok.blt,ok.above,ok.inj,ok.has,ok.cab,ok.hd,ok.frames,ok.stk,ok.exf,ok.bs,ok.bsz,ok.noex,ok.exfs,ok.funs,ok.frf⟩
def Cx.Ok.unwish{X:Cx}{E:Value->Shared->Prop}(ok:(X.wish E).Ok):X.Ok:=
 ⟨ok.mod,ok.kind,ok.glob,ok.blt,ok.above,ok.inj,ok.has,ok.cab,ok.hd,ok.frames,ok.stk,ok.exf,ok.bs,ok.bsz,ok.noex,ok.exfs,ok.funs,ok.frf⟩
section
variable {X:Cx} {pins:List (Addr×Obj)} {U:St} {H:Hp} {s:Shared} {E:Value->Shared->Prop}
def Inv.wish(I:Inv X pins U H s)(E:Value->Shared->Prop):Inv (X.wish E) pins U H s:=⟨I.ok.wish E,I.os,I.bare,I.base,I.loc,I.cell,I.free,I.freeC,I.pin,I.hok,I.len⟩
def Inv.unwish(I:Inv (X.wish E) pins U H s):Inv X pins U H s:=⟨I.ok.unwish,I.os,I.bare,I.base,I.loc,I.cell,I.free,I.freeC,I.pin,I.hok,I.len⟩
def SP.unwish{D:Ends}{f:Flow}{s':Shared}(h:SP (X.wish E) pins D f s'):SP X pins D f s':=by
 cases f with
 | next=>obtain⟨U',H',I,q⟩:=h;exact⟨U',H',I.unwish,q⟩
 | brk=>obtain⟨U',H',I,q⟩:=h;exact⟨U',H',I.unwish,q⟩
 | cont=>obtain⟨U',H',I,q⟩:=h;exact⟨U',H',I.unwish,q⟩
 | ret u=>obtain⟨v,U',H',I,r,q⟩:=h;exact⟨v,U',H',I.unwish,r,q⟩
def Jn.nox{st:List Stmt}{t:TS}(h:Jn X.nox st t):Jn X st t:=fun pins s U H D I hw=>
 wCa (h pins s U H D (I.wish _) hw) (fun _ _ q=>q.unwish) fun _ _ z=>False.elim z
end
section
variable {X:Cx} {st:Stmt} {rest:List Stmt} {t u:TS} {e:Expr} {te:TE} {pos:Pos}
def Di:TS:=fun D U H=>D.nx U H
def fH(t u:TS):TS:=fun D U H=>t { D with nx:=u D } U H
def A7:Jn X [] Di:=fun _ _ U H _ I h=>wpAny_execs_nil ⟨U,H,I,h⟩
def Ky(h1:PS X st t)(h2:Jn X rest u):Jn X (st::rest) (fH t u):=by
 intro pins s U H D I h;refine wpAny_execs_cons (jw (h1 pins s U H { D with nx:=u D } I h) fun f s1 q=>?_);cases f with
 | next=>
  obtain⟨U',H',I',q⟩:=q;exact h2 pins s1 U' H' D I' q
 | ret v=>exact q
 | brk=>exact q
 | cont=>exact q
def Wm(h1:PS X st t):Jn X [st] t:=by
 intro pins s U H D I h;refine wpAny_execs_cons (jw (h1 pins s U H D I h) fun f s1 q=>?_);cases f with
 | next=>exact wpAny_execs_nil q
 | ret v=>exact q
 | brk=>exact q
 | cont=>exact q
def Inv.quiet{pins:List (Addr×Obj)}{U:St}{H:Hp}{s:Shared}(I:Inv X pins U H s):interactive X.env=false:=by simp[interactive,I.ok.kind]
def VG(te:TE):TS:=fun D U H=>te U H fun _ H1=>D.nx U H1
def zv(he:PE X e te)(hs:swapsWith e none pos.line X.env=pure false:=by rfl):PS X (.Expr e pos) (VG te):=by
 intro pins s U H D I h;exact wpAny_Expr_any (jw (he pins s U H _ I h) fun v s1 ⟨x,H1,I1,r1,q1⟩=>⟨U,H1,I1,q1⟩) I.quiet hs
def fJ(te:TE):TS:=fun D U H=>te U H D.rt
def Ga(he:PE X e te):PS X (.Return (some e) pos) (fJ te):=by
 intro pins s U H D I h;exact wpAny_Return_some (jw (he pins s U H _ I h) fun v s1 ⟨x,H1,I1,r1,q1⟩=>⟨x,U,H1,I1,r1,q1⟩)
def Dj:TS:=fun D _ H=>D.rt .non H
def A8:PS X (.Return none pos) Dj:=fun _ _ U H _ I h=>wpAny_Return_none ⟨.non,U,H,I,rfl,h⟩
def fM(c:TT)(t u:TS):TS:=fun D U H=>c U H fun b H1=>if b=true then t D U H1 else u D U H1
def Dk{c:Expr}{a b:List Stmt}{tc:TT}(hc:PT X c tc)(ha:Jn X a t)(hb:Jn X b u):PS X (.If c a b pos) (fM tc t u):=by
 intro pins s U H D I h;refine wpAny_If (jw (hc pins s U H _ I h) fun d s1 xx=>?_);obtain⟨H1,I1,q1⟩:=xx;cases d with
 | true=>exact ha pins s1 U H1 D I1 q1
 | false=>exact hb pins s1 U H1 D I1 q1
def bV:TS:=fun _ _ _=>False
def qR{sts:List Stmt}:Jn X sts bV:=fun _ _ _ _ _ _ h=>h.elim
end
noncomputable abbrev TG:=V->St->Hp->(St->Hp->Prop)->Prop
noncomputable abbrev Gb:=List V->St->Hp->(St->Hp->Prop)->Prop
def PG(X:Cx)(target:Expr)(t:TG):Prop:=
 ∀(pins:List (Addr×Obj)) (s:Shared) (U:St) (H:Hp) (v:V) (u:Value) (Q:St->Hp->Prop),Inv X pins U H s->jB v u->t v U H Q->
  wpAny (model X.prog X.w) X.A (assign target X.env u) (fun _ s'=>∃U' H',Inv X pins U' H' s'/\Q U' H') X.xe s
def uk(X:Cx)(ts:List Expr)(t:Gb):Prop:=
 ∀(pins:List (Addr×Obj)) (s:Shared) (U:St) (H:Hp) (vs:List V) (us:List Value) (Q:St->Hp->Prop),Inv X pins U H s->jj vs us->t vs U H Q->
  wpAny (model X.prog X.w) X.A (assignInOrder ((assignEach ts X.env).map (·.2)) us) (fun _ s'=>∃U' H',Inv X pins U' H' s'/\Q U' H') X.xe s
noncomputable abbrev xk:=V->V->V->Hp->(Hp->Prop)->Prop
def xl(X:Cx)(t:xk):Prop:=
 ∀(pins:List (Addr×Obj)) (s:Shared) (U:St) (H:Hp) (o i v:V) (ov iv u:Value) (Q:Hp->Prop),Inv X pins U H s->jB o ov->jB i iv->jB v u->t o i v H Q->
  wpAny (model X.prog X.w) X.A (setItem ov iv u) (fun _ s'=>∃H',Inv X pins U H' s'/\Q H') X.xe s
section
variable {X:Cx} {pos:Pos}
def Yv(i:Nat):TG:=fun v U H Q=>Q (U.set i (some v)) H
def A9{i:Nat}{x:Str}(hN:X.N.Nodup)(hi:X.N[i]?=some x)(hx:UV X.env.scope x)(hf:X.fn x=true \/ X.env.scope.names.lookup x=some .local:=by first | exact .inl rfl | exact .inr rfl | assumption):PG X (.Name x pos) (Yv i):=by
 intro pins s U H v u Q I r h;exact wpAny_assign_Name (Kx I hN hi hx r (fun s' I'=>⟨_,H,I',h⟩) hf)
def fN:Gb:=fun vs U H Q=>vs=[]/\Q U H
def Dl(t:TG)(u:Gb):Gb:=fun vs U H Q=>∃v r,vs=v::r/\t v U H fun U' H'=>u r U' H' Q
def Aa:uk X [] fN:=by
 intro pins s U H vs us Q I r h;obtain⟨e,h⟩:=h;subst e;cases r;exact assignInOrder_nil ⟨U,H,I,h⟩
theorem xm{e:Expr}{es:List Expr}{t:TG}{u:Gb}(h1:PG X e t)(h2:uk X es u)
  (hs:(assignEach (e::es) X.env).map (·.2)=assign e X.env::(assignEach es X.env).map (·.2):=by rfl):uk X (e::es) (Dl t u):=by
 intro pins s U H vs us Q I r h;obtain⟨v,vr,e1,h⟩:=h;subst e1;cases r with
 | cons r rr=>
  rw[hs];refine assignInOrder_cons (jw (h1 pins s U H _ _ _ I r h) fun _ s1 xx=>?_);obtain⟨U1,H1,I1,q1⟩:=xx;exact h2 pins s1 U1 H1 _ _ Q I1 rr q1
def fP(K:uXa)(n:Nat)(t:Gb):TG:=fun v U H Q=>∃a xs,v=.ref a/\Jq K H a xs/\xs.length=n/\t xs U H Q
def bW{es:List Expr}{k:Nat}{t:Gb}{n:Nat}(hc:X.calm=true)(h:uk X es t)
  (hn:(assignEach es X.env).length=n:=by rfl) (hst:(assignEach es X.env).findIdx? (·.1)=none:=by rfl):PG X (.Tuple es k pos) (fP X.K n t):=by
 intro pins s U H v u Q I r hw;obtain⟨a,xs,e1,hq,hl,hw⟩:=hw;subst e1;cases r;obtain⟨its,rv,ht,hz⟩:=I.tuple hq;refine assign_Tuple_tuple (I.ok.hd hc) ht (by simp[hn,<-hl,rv.length]) hst fun h' hx=>?_;have I1:Inv X pins U H { s with heap:=h' }:=I.kept (t':=s.toks) fun b o e=>hx b o (wTa (wLa e)) e;exact h pins _ U H xs _ Q I1 (by simpa using rv) hw
def Kz(to ti:TE)(t:xk):TG:=fun v U H Q=>to U H fun o H1=>ti U H1 fun i H2=>t o i v H2 fun H3=>Q U H3
def Gc{o i:Expr}{to ti:TE}{t:xk}(ho:PE X o to)(hi:PE X i ti)(hs:xl X t)
  (ha:∀v,assign (.Subscript o i pos) X.env v=(do
   let ov<-holding [v] (eval o X.env)
   let iv<-holding [v,ov] (eval i X.env)
   standAt pos
   holding [v,ov,iv] (setItem ov iv v)
   release [v,ov,iv] []):=by intro _;rfl):PG X (.Subscript o i pos) (Kz to ti t):=by
 intro pins s U H v u Q I r h;rw[ha];refine wAa (wDa (jw (ho pins s U H _ I h) fun ov s1 xx=>?_));obtain⟨x,H1,I1,r1,q1⟩:=xx;refine wAa (wDa (jw (hi pins s1 U H1 _ I1 q1) fun iv s2 xx=>?_));obtain⟨y,H2,I2,r2,q2⟩:=xx;refine wAa (vOa (wAa (wDa (jw (hs pins s2 U H2 x y v ov iv u _ I2 r1 r2 r q2) fun _ s3 xx=>?_))));obtain⟨H3,I3,q3⟩:=xx;exact wpAny_release ⟨U,H3,I3,q3⟩
def Y5(te:TE)(g:TG):TS:=fun D U H=>te U H fun x H1=>g x U H1 D.nx
def Vg{tg e:Expr}{te:TE}{g:TG}(he:PE X e te)(hg:PG X tg g)(hs:swapsWithSole [tg] e pos.line X.env=pure false:=by rfl)(hw:swappedStores [tg] e X.env=pure none:=by rfl)
  (h1:(assignEach [tg] X.env).map (·.2)=[assign tg X.env]:=by rfl):PS X (.Assign [tg] e pos) (Y5 te g):=by
 intro pins s U H D I h;refine wpAny_Assign_stores (jw (he pins s U H _ I h) fun v s1 xx=>?_) hs hw;obtain⟨x,H1,I1,r1,q1⟩:=xx;rw[h1];exact jw (hg pins s1 U H1 x v _ I1 r1 q1) fun _ s2 q=>q
def Vh{i:Nat}{x:Str}{e:Expr}{te:TE}{pos':Pos}(hN:X.N.Nodup)(hi:X.N[i]?=some x)(hx:UV X.env.scope x)(he:PE X e te)(hs:swapsWith e (some (.Name x pos')) pos.line X.env=pure false:=by rfl)(hf:X.fn x=true \/ X.env.scope.names.lookup x=some .local:=by first | exact .inl rfl | exact .inr rfl | assumption):
  PS X (.Assign [.Name x pos'] e pos) (Y5 te (Yv i)):=by
 intro pins s U H D I h;refine wpAny_Assign_Name (jw (he pins s U H _ I h) fun v s1 xx=>?_) hs;obtain⟨y,H1,I1,r1,q1⟩:=xx;exact Kx I1 hN hi hx r1 (fun s2 I2=>⟨_,H1,I2,q1⟩) hf
end
section
variable {X:Cx} {pos:Pos}
def bX(c:TT)(tb:TS):TS:=fun D U H=>∃W:Nat->St->Hp->Prop,(∃m,W m U H)/\∀m U H,W m U H->
 c U H fun b H1=>if b=true then∃N:St->Hp->Prop,(∀U' H',N U' H'->∃m',m' < m/\W m' U' H')/\tb { D with nx:=N,ct:=N,bk:=D.nx } U H1 else D.nx U H1
def xn{c:Expr}{body:List Stmt}{tc:TT}{tb:TS}(hp:PassesOwn (model X.prog X.w) X.A X.env X.xe)(hc:PT X c tc)(hb:Jn X body tb):PS X (.While c body [] pos) (bX tc tb):=by
 intro pins s U H D I h;obtain⟨W,⟨m0,w0⟩,turn⟩:=h;refine wpAny_While (codeAny_whileLoop (fun n s'=>∃U' H',Inv X pins U' H' s'/\W n U' H') ?_ m0 ⟨U,H,I,w0⟩);rintro n s1 ⟨U1,H1,I1,w1⟩;refine wpAny_passesOwn hp (jw (hc pins s1 U1 H1 _ I1 (turn n U1 H1 w1)) fun b s2 xx=>?_);obtain⟨H2,I2,q2⟩:=xx;cases b with
 | true=>
  obtain⟨N,hN,q2⟩:=q2;rw[if_pos rfl];refine wpAny_passesOwn hp (jw (hb pins s2 U1 H2 _ I2 q2) fun f s3 q3=>?_);cases f with
  | next=>
   obtain⟨U3,H3,I3,n3⟩:=q3;obtain⟨m',hm,w3⟩:=hN U3 H3 n3;exact⟨m',hm,U3,H3,I3,w3⟩
  | cont=>
   obtain⟨U3,H3,I3,n3⟩:=q3;obtain⟨m',hm,w3⟩:=hN U3 H3 n3;exact⟨m',hm,U3,H3,I3,w3⟩
  | brk=>exact q3
  | ret v=>exact q3
 | false=>
  rw[if_neg Bool.false_ne_true];exact wpAny_execs_nil ⟨U1,H2,I2,q2⟩
end
structure It where
 go:Nat->Hp->Prop
 yld:Nat->Hp->V->Hp->Prop
 stop:Nat->Hp->Prop
def Je(X:Cx)(pins:List (Addr×Obj))(H:Hp)(b:Addr):Prop:=
 H b=none/\b≠X.env.locals/\b∉X.fs/\(b∈X.ex \/ X.s₀.heap.objs.size<=b)/\(∀x c,X.env.cells.lookup x=some c->c≠b)/\∀p∈X.pn++pins,p.1≠b
def Inv.fpOk{X:Cx}{pins:List (Addr×Obj)}{U:St}{H H':Hp}{s:Shared}{b:Addr}(I:Inv X pins U H s)(hb:s.heap.objs.size<=b)(hn:H' b=none):Je X pins H' b:=by
 refine⟨hn,Nat.ne_of_gt (Nat.lt_of_lt_of_le I.lt hb),I.nofs hb,.inr (wSa I.sz hb),fun x c e z=>?_,fun p hp z=>?_⟩
 ·obtain⟨v,q⟩:=I.cell x c e;exact vDa (Nat.lt_of_lt_of_le q.lt (by rw[z];exact hb)) (wUa _)
 ·exact vDa (Nat.lt_of_lt_of_le (wLa (I.pin p hp).1) (by rw[z];exact hb)) (wUa _)
structure Turn (P:Program) (w:World) (K:uXa) (tg:Expr) (J:It) (fp:List Addr) (it:Addr) (tn:Nat->Heap->Prop):Prop where
 mem:it∈fp
 obj:∀i h,tn i h->∀b∈fp,∃o,h.get? b=some o/\∀v,o.data≠.cell v
 keep:∀i h h',tn i h->(∀b∈fp,∀o,h.get? b=some o->h'.get? b=some o)->tn i h'
 item:∀(X:Cx),X.prog=P->X.w=w->X.K=K->X.calm=true->∀(i:Nat) (pins:List (Addr×Obj)) (s:Shared) (U:St) (H:Hp) (E:Value->Shared->Prop),Inv X pins U H s->(∀b∈fp,Je X pins H b)->tn i s.heap->J.go i H->
  wpAny (model P w) X.A (pyNext (.ref it)) (fun r s1=>∃u,r=some u/\
   wpAny (model P w) X.A (letOwnedTupleGo tg (.ref it) u) (fun _ s2=>∃x H',Inv X pins U H' s2/\jB x u/\J.yld i H x H'/\tn (i+1) s2.heap/\∀b∈fp,H' b=none) E s1) E s
 done:∀(X:Cx),X.prog=P->X.w=w->X.K=K->X.calm=true->∀(i:Nat) (pins:List (Addr×Obj)) (s:Shared) (U:St) (H:Hp) (E:Value->Shared->Prop),Inv X pins U H s->(∀b∈fp,Je X pins H b)->tn i s.heap->J.stop i H->
  wpAny (model P w) X.A (pyNext (.ref it)) (fun r s1=>r=none/\Inv X pins U H s1) E s
 self:∀(A:Around) (i:Nat) (s:Shared) (Q:Value->Shared->Prop) (E:Value->Shared->Prop),tn i s.heap->Q (.ref it) s->wpAny (model P w) A (pyIter (.ref it)) Q E s
noncomputable abbrev TI:=St->Hp->(It->Hp->Prop)->Prop
def ED(X:Cx)(pins:List (Addr×Obj))(U:St)(tg:Expr)(R:It->Hp->Prop)(itv:Value)(s2:Shared):Prop:=
 ∃(it:Addr) (fp:List Addr) (tn:Nat->Heap->Prop) (J:It) (H':Hp),itv=.ref it/\Inv X pins U H' s2/\Turn X.prog X.w X.K tg J fp it tn/\tn 0 s2.heap/\(∀b∈fp,Je X pins H' b)/\R J H'
def PI(X:Cx)(tg iter:Expr)(wi:TI):Prop:=
 ∀(pins:List (Addr×Obj)) (s:Shared) (U:St) (H:Hp) (R:It->Hp->Prop),Inv X pins U H s->wi U H R->
  wpAny (model X.prog X.w) X.A (eval iter X.env) (fun v s1=>wpAny (model X.prog X.w) X.A (pyIter v) (ED X pins U tg R) X.xe s1) X.xe s
def Kg{M:Model}{A:Around}{E:Value->Shared->Prop}{s:Shared}{tg:Expr}{it:Addr}{u:Value}{o:Obj}{n:String}{vs:Array Value}{Q:Unit->Shared->Prop}(ho:s.heap.get? it=some o)(hc:o.cls=.type n)(hd:o.data=.fields vs)
  (hn:["enumerate", "zip", "dict_itemiterator", "dict_reverseitemiterator", "odict_iterator", "itertools.zip_longest", "itertools.pairwise"].contains n=false) (hQ:Q () s):wpAny M A (letOwnedTupleGo tg (.ref it) u) Q E s:=by
 unfold letOwnedTupleGo;cases tg <;> first
  | exact wBa hQ
  | (cases u <;> first
    | exact wBa hQ
    | (refine wAa (wpAny_load ho ?_)
       rw[hc,hd];show wpAny M A (if (["enumerate", "zip", "dict_itemiterator", "dict_reverseitemiterator", "odict_iterator", "itertools.zip_longest", "itertools.pairwise"].contains n&&vs[0]?==some (rawInt _))=true then _ else _) Q E s;rw[if_neg (by intro h;rw[hn,Bool.false_and]at h;cases h)];exact wBa hQ))
def bZ(K:uXa)(a:Addr):It:=
 ⟨fun i H=>∃xs x,jG K H a xs/\xs[i]?=some x,fun i H x H'=>H'=H/\∀xs,jG K H a xs->xs[i]?=some x,fun i H=>∃xs,jG K H a xs/\xs.length<=i⟩
def b_(K:uXa)(a:Addr):It:=
 ⟨fun i H=>∃xs x,Jq K H a xs/\xs[i]?=some x,fun i H x H'=>H'=H/\∀xs,Jq K H a xs->xs[i]?=some x,fun i H=>∃xs,Jq K H a xs/\xs.length<=i⟩
def XB(lo:Int)(n:Nat):It:=⟨fun i _=>i < n,fun i H x H'=>H'=H/\x=.int (lo+i),fun i _=>n<=i⟩
def qS{P:Program}{w:World}{K:uXa}{tg:Expr}(a it:Addr):Turn P w K tg (bZ K a) [it] it (fun i h=>h.IsListIter it a i) where
 mem:=by simp
 obj:=fun i h st b hb=>by
  have e:b=it:=by simpa using hb
  subst e;obtain⟨o,e,c,d⟩:=st;exact⟨o,e,fun v z=>by rw[d]at z;cases z⟩
 keep:=fun i h h' st k=>st.at fun o e=>k it (by simp) o e
 item:=by
  intro X hP hw hK hc i pins s U H E I hf st hg;subst hP hw hK;obtain⟨xs,x,hq,hx⟩:=hg;obtain⟨its,rv,p,hz⟩:=I.list hq;obtain⟨u,hu,ru⟩:=rv.get hx;obtain⟨f0,f1,f2,f3,f4,f5⟩:=hf it (by simp);refine wpAny_pyNext_list_item st p.isList (x:=u) (by simpa using hu) fun h' st' sb=>?_;have I1:Inv X pins U H { s with heap:=h' }:=I.turned (t':=s.toks) (fun b o hb e=>(sb.2 b hb).trans e) f0 f1 f3 f4 f5;obtain⟨o,e,c,d⟩:=id st';exact⟨u,rfl,Kg (s:={ s with heap:=h' }) e c d (by decide) ⟨x,H,I1,ru,⟨rfl,fun ys hy=>by rw[I.list_inj hy hq];exact hx⟩,st',fun b hb=>(hf b hb).1⟩⟩
 done:=by
  intro X hP hw hK hc i pins s U H E I hf st hg;subst hP hw hK;obtain⟨xs,hq,hx⟩:=hg;obtain⟨its,rv,p,hz⟩:=I.list hq;obtain⟨f0,f1,f2,f3,f4,f5⟩:=hf it (by simp);have hl:=rv.length;exact wpAny_pyNext_list_end (I.ok.hd hc) st p.isList (by simp;lia) fun h' eb=>⟨rfl,I.turned (t':=s.toks) (fun b o hb e=>eb b o hb e) f0 f1 f3 f4 f5⟩
 self:=fun _ _ _ _ _ st h=>wpAny_pyIter_listiter st h
def WS{P:Program}{w:World}{K:uXa}{tg:Expr}(a it:Addr):Turn P w K tg (b_ K a) [it] it (fun i h=>h.IsTupleIter it a i) where
 mem:=by simp
 obj:=fun i h st b hb=>by
  have e:b=it:=by simpa using hb
  subst e;obtain⟨o,e,c,d⟩:=st;exact⟨o,e,fun v z=>by rw[d]at z;cases z⟩
 keep:=fun i h h' st k=>st.at fun o e=>k it (by simp) o e
 item:=by
  intro X hP hw hK hc i pins s U H E I hf st hg;subst hP hw hK;obtain⟨xs,x,hq,hx⟩:=hg;obtain⟨its,rv,p,hz⟩:=I.tuple hq;obtain⟨u,hu,ru⟩:=rv.get hx;obtain⟨f0,f1,f2,f3,f4,f5⟩:=hf it (by simp);refine wpAny_pyNext_tuple_item st (show s.heap.IsTuple a its.toArray from p) (x:=u) (by simpa using hu) fun h' st' sb=>?_;have I1:Inv X pins U H { s with heap:=h' }:=I.turned (t':=s.toks) (fun b o hb e=>(sb.2 b hb).trans e) f0 f1 f3 f4 f5;obtain⟨o,e,c,d⟩:=id st';exact⟨u,rfl,Kg (s:={ s with heap:=h' }) e c d (by decide) ⟨x,H,I1,ru,⟨rfl,fun ys hy=>by rw[I.tuple_inj hy hq];exact hx⟩,st',fun b hb=>(hf b hb).1⟩⟩
 done:=by
  intro X hP hw hK hc i pins s U H E I hf st hg;subst hP hw hK;obtain⟨xs,hq,hx⟩:=hg;obtain⟨its,rv,p,hz⟩:=I.tuple hq;obtain⟨f0,f1,f2,f3,f4,f5⟩:=hf it (by simp);have hl:=rv.length;exact wpAny_pyNext_tuple_end (I.ok.hd hc) st (show s.heap.IsTuple a its.toArray from p) (by simp;lia) fun h' eb=>⟨rfl,I.turned (t':=s.toks) (fun b o hb e=>eb b o hb e) f0 f1 f3 f4 f5⟩
 self:=fun _ _ _ _ _ st h=>wpAny_pyIter_tupleiter st h
def WT{P:Program}{w:World}{K:uXa}{tg:Expr}(it:Addr)(lo:Int)(n:Nat):Turn P w K tg (XB lo n) [it] it (fun i h=>IsRangeIter h it (lo+(i:Nat) * 1) ((n:Int) - (i:Nat)) 1) where
 mem:=by simp
 obj:=fun i h st b hb=>by
  have e:b=it:=by simpa using hb
  subst e;exact⟨_,st,fun v z=>by
   have z':Data.fields _=Data.cell v:=z;cases z'⟩
 keep:=fun i h h' st k=>k it (by simp) _ st
 item:=by
  intro X hP hw hK hc i pins s U H E I hf st hg;subst hP hw hK;obtain⟨f0,f1,f2,f3,f4,f5⟩:=hf it (by simp);have W:=Walks.range (prog:=X.prog) (w:=X.w) (I.ok.hd hc) it lo 1 n;refine W.item i s _ _ hg st fun v h' tk hv st' kk=>?_;obtain⟨t,rfl⟩:=hv;have I1:Inv X pins U H { s with heap:=h',toks:=tk }:=I.turned (fun b o hb e=>kk b o (by simpa using hb) e) f0 f1 f3 f4 f5;refine⟨_,rfl,Kg (s:={ s with heap:=h',toks:=tk }) (n := "range_iterator") st' rfl rfl (by decide) ⟨.int (lo+i),H,I1,⟨t,?_⟩,⟨rfl,rfl⟩,st',fun b hb=>(hf b hb).1⟩⟩;rw[Int.mul_one]
 done:=by
  intro X hP hw hK hc i pins s U H E I hf st hg;subst hP hw hK;obtain⟨f0,f1,f2,f3,f4,f5⟩:=hf it (by simp);exact wpAny_pyNext_range_end (I.ok.hd hc) st (by have:n<=i:=hg;lia) fun h' eb=>⟨rfl,I.turned (t':=s.toks) (fun b o hb e=>eb b o hb e) f0 f1 f3 f4 f5⟩
 self:=fun _ _ _ _ _ st h=>wpAny_pyIter_rangeiter st h
section
variable {X:Cx} {tg:Expr}
def xo{pins:List (Addr×Obj)}{U:St}{H:Hp}{s:Shared}{R:It->Hp->Prop}{E:Value->Shared->Prop}{lo hi:Int}{t u v:Tok}{tk:Nat}(I:Inv X pins U H s)(h1:-(2 ^ 62)<=lo)(h2:lo < 2 ^ 62)(h3:-(2 ^ 62)<=hi)(h4:hi < 2 ^ 62)
  (q:R (XB lo (hi - lo).toNat) H):wpAny (model X.prog X.w) X.A (pyIter (.ref s.heap.objs.size)) (ED X pins U tg R) E { s with heap:=s.heap.push { cls:=.type "range",data:=.fields #[.int lo t,.int hi u,.int 1 v] },toks:=tk }:=by
 refine wpAny_pyIter_range (IsRange.new ..) (small_one h1 h2 h3 h4) ?_;have I1:Inv X pins U H { s with heap:=s.heap.push { cls:=.type "range",data:=.fields #[.int lo t,.int hi u,.int 1 v] },toks:=tk }:=I.kept fun b o e=>wIa _ e;refine⟨(s.heap.push { cls:=.type "range",data:=.fields #[.int lo t,.int hi u,.int 1 v] }).objs.size,[(s.heap.push { cls:=.type "range",data:=.fields #[.int lo t,.int hi u,.int 1 v] }).objs.size],_,_,H,rfl,
  I1.kept (t':=tk) fun b o e=>wIa _ e,WT _ lo (hi - lo).toNat,?_,fun b hb=>?_,q⟩
 ·have e1:lo+((0:Nat):Int) * 1=lo:=by simp
  have e2:(((hi - lo).toNat:Nat):Int) - ((0:Nat):Int)=Builtin.Range.rangeSize lo hi 1:=by rw[rangeSize_one];split <;> lia
  show IsRangeIter _ _ (lo+((0:Nat):Int) * 1) ((((hi - lo).toNat:Nat):Int) - ((0:Nat):Int)) 1;rw[e1,e2];exact wJa _ rfl
 ·have e:b=(s.heap.push { cls:=.type "range",data:=.fields #[.int lo t,.int hi u,.int 1 v] }).objs.size:=by simpa using hb
  subst e;exact I1.fpOk (wPa _) (I1.hok.fresh (wPa _))
def Dm(ta:TA):TI:=fun U H R=>ta U H fun vs H1=>∃j:Int,vs=[.int j]/\-(2 ^ 62)<=j/\j < 2 ^ 62/\R (XB 0 j.toNat) H1
def qT{a:Expr}{ta:TA}{p pos:Pos}(hg:Gl X "range")(hm:X.mg "range" = none)(ha:PA X [a] ta)(hs:starEach [a] X.env=[(false,eval a X.env)]:=by rfl):PI X tg (.Call (.Name "range" p) [a] [] pos) (Dm ta):=by
 intro pins s U H R I h;refine Call_ (ZT I hg hm boot_range (PyProof.Rows.callWith_type1 (jw (ha pos pins s U H _ I h) fun us s1 xx=>?_) hs rfl));obtain⟨vs,H1,I1,r1,q1⟩:=xx;obtain⟨j,e,q1,q2,q⟩:=q1;subst e;cases r1 with
 | cons r rr=>
  cases rr;obtain⟨t,rfl⟩:=r;exact call_range_1 (xo I1 (by lia) (by lia) q1 q2 (by simpa using q))
def fQ(wi:TI)(g:TG)(tb:TS):TS:=fun D U H=>wi U H fun J H1=>∃W:Nat->Nat->St->Hp->Prop,(∃m,W 0 m U H1)/\∀i m U H,W i m U H->
 (J.stop i H/\D.nx U H) \/ (J.go i H/\∃N:St->Hp->Prop,(∀U' H',N U' H'->∃m',m' < m/\W (i+1) m' U' H')/\∀x H',J.yld i H x H'->g x U H' fun U2 H2=>tb { D with nx:=N,ct:=N,bk:=D.nx } U2 H2)
noncomputable def ul(fp:List Addr)(h:Heap):List (Addr×Obj):=fp.filterMap fun b=>(h.get? b).map fun o=>(b,o)
def Yd{fp:List Addr}{h:Heap}{b:Addr}{o:Obj}(hb:b∈fp)(e:h.get? b=some o):(b,o)∈ul fp h:=List.mem_filterMap.mpr ⟨b,hb,by rw[e];rfl⟩
def qU{fp:List Addr}{h:Heap}{p:Addr×Obj}(hp:p∈ul fp h):p.1∈fp/\h.get? p.1=some p.2:=by
 obtain⟨b,hb,e⟩:=List.mem_filterMap.mp hp;cases q:h.get? b with
 | none=>rw[q]at e;cases e
 | some o=>
  rw[q]at e;have e':(b,o)=p:=vFa e;subst e';exact⟨hb,q⟩
def Inv.pinned{pins:List (Addr×Obj)}{U:St}{H:Hp}{s:Shared}{fp:List Addr}(I:Inv X pins U H s)(hf:∀b∈fp,Je X pins H b)(ho:∀b∈fp,∃o,s.heap.get? b=some o/\∀v,o.data≠.cell v):Inv X (pins++ul fp s.heap) U H s:=
 I.pins_of fun p hp=>(uWa hp).elim (fun z=>I.pin p (vJa _ z)) fun z=>by
  obtain⟨hb,e⟩:=qU z;obtain⟨f0,f1,f2,_⟩:=hf p.1 hb;obtain⟨o,e',d⟩:=ho p.1 hb;rw[e]at e';cases e';exact⟨e,f0,f1,f2,d⟩
def Inv.unpinned{pins pl:List (Addr×Obj)}{U:St}{H:Hp}{s:Shared}(I:Inv X (pins++pl) U H s):Inv X pins U H s:=I.pins_of fun p hp=>I.pin p (vJa _ (vIa _ hp))
def B0{iter:Expr}{body:List Stmt}{wi:TI}{g:TG}{tb:TS}{pos:Pos}(hp:PassesOwn (model X.prog X.w) X.A X.env X.xe)(hc:X.calm=true)(hi:PI X tg iter wi)(hg:PG X tg g)(hb:Jn X body tb)
  (hs:∀x,foldedSetIterable iter X.env x=pure x:=by intro _;rfl):PS X (.For tg iter body [] pos) (fQ wi g tb):=by
 intro pins s U H D I h;refine wpAny_For (jw (hi pins s U H _ I h) fun v s1 h1=>jw h1 fun itv s2 h2=>?_) hs;obtain⟨it,fp,tn,J,H2,e,I2,T,st2,f2,W,⟨m0,w0⟩,turn⟩:=h2;subst e;have stat:∀{H':Hp},(∀b∈fp,H' b=none)->∀b∈fp,Je X pins H' b:=fun hn b hb=>⟨hn b hb,(f2 b hb).2⟩
 refine codeAny_forLoop_any (fun n s'=>∃i U' H',Inv X pins U' H' s'/\tn i s'.heap/\(∀b∈fp,H' b=none)/\W i n U' H') ?_ m0 ⟨0,U,H2,I2,st2,fun b hb=>(f2 b hb).1,w0⟩;rintro n s3 ⟨i,U3,H3,I3,st3,fr3,w3⟩;rcases turn i n U3 H3 w3 with⟨stop,qn⟩ | ⟨go,N,hN,step⟩
 ·refine wpAny_passesOwn hp (jw (T.done X rfl rfl rfl hc i pins s3 U3 H3 X.xe I3 (stat fr3) st3 stop) fun r s4 xx=>?_);obtain⟨hr,I4⟩:=xx;subst hr;exact wpAny_execs_nil ⟨U3,H3,I4,qn⟩
 ·refine wpAny_passesOwn hp (jw (T.item X rfl rfl rfl hc i pins s3 U3 H3 X.xe I3 (stat fr3) st3 go) fun r s4 xx=>?_);obtain⟨u,hr,h4⟩:=xx;subst hr;refine wpAny_passesOwn hp (jw h4 fun _ s5 xx=>?_);obtain⟨x,H5,I5,r5,y5,st5,fr5⟩:=xx;have I5':=I5.pinned (stat fr5) (T.obj _ _ st5);refine wpAny_passesOwn hp (jw (hg _ s5 U3 H5 x u _ I5' r5 (step x H5 y5)) fun _ s6 xx=>?_);obtain⟨U6,H6,I6,q6⟩:=xx;refine wpAny_passesOwn hp (jw (hb _ s6 U6 H6 _ I6 q6) fun f s7 q7=>?_);have again:∀{U7:St} {H7:Hp},Inv X (pins++ul fp s5.heap) U7 H7 s7->N U7 H7->∃m,m < n/\∃i U' H',Inv X pins U' H' s7/\tn i s7.heap/\(∀b∈fp,H' b=none)/\W i m U' H':=fun {U7 H7} I7 n7=>by
   obtain⟨m',hm,w7⟩:=hN U7 H7 n7;refine⟨m',hm,i+1,U7,H7,I7.unpinned,T.keep _ _ _ st5 fun b hb o e=>(I7.pin (b,o) (vJa _ (vJa _ (Yd hb e)))).1,fun b hb=>?_,w7⟩;obtain⟨o,e,d⟩:=T.obj _ _ st5 b hb;exact(I7.pin (b,o) (vJa _ (vJa _ (Yd hb e)))).2.1
  cases f with
  | next=>obtain⟨U7,H7,I7,n7⟩:=q7;exact again I7 n7
  | cont=>obtain⟨U7,H7,I7,n7⟩:=q7;exact again I7 n7
  | brk=>obtain⟨U7,H7,I7,q7⟩:=q7;exact⟨U7,H7,I7.unpinned,q7⟩
  | ret v=>obtain⟨x7,U7,H7,I7,r7,q7⟩:=q7;exact⟨x7,U7,H7,I7.unpinned,r7,q7⟩
end
noncomputable abbrev R2:=V->V->Hp->VK->Prop
def J0(X:Cx)(f:Value->Value->Sem Value)(r:R2):Prop:=
 ∀(pins:List (Addr×Obj)) (s:Shared) (U:St) (H:Hp) (x y:V) (v u:Value) (Q:VK),Inv X pins U H s->jB x v->jB y u->r x y H Q->
  wpAny (model X.prog X.w) X.A (f v u) (EP X pins U Q) X.xe s
def B4(X:Cx)(f:Value->Sem Value)(r:V->Hp->VK->Prop):Prop:=
 ∀(pins:List (Addr×Obj)) (s:Shared) (U:St) (H:Hp) (x:V) (v:Value) (Q:VK),Inv X pins U H s->jB x v->r x H Q->
  wpAny (model X.prog X.w) X.A (f v) (EP X pins U Q) X.xe s
def yZ(X:Cx)(f:Value)(r:List V->Hp->VK->Prop):Prop:=
 ∀(pins:List (Addr×Obj)) (s:Shared) (U:St) (H:Hp) (xs:List V) (us:List Value) (Q:VK),Inv X pins U H s->jj xs us->r xs H Q->
  wpAny (model X.prog X.w) X.A (call f us) (EP X pins U Q) X.xe s
def fU(X:Cx)(r:V->Hp->(Bool->Hp->Prop)->Prop):Prop:=
 ∀(pins:List (Addr×Obj)) (s:Shared) (U:St) (H:Hp) (x:V) (v:Value) (Q:Bool->Hp->Prop),Inv X pins U H s->jB x v->r x H Q->
  wpAny (model X.prog X.w) X.A (truthy v) (TP X pins U Q) X.xe s
def kH(r:R2)(ta tb:TE):TE:=fun U H Q=>ta U H fun x H1=>tb U H1 fun y H2=>r x y H2 Q
def hW(r:V->Hp->VK->Prop)(ta:TE):TE:=fun U H Q=>ta U H fun x H1=>r x H1 Q
def rI(C:Int->Int->Prop)(g:Int->Int->V):R2:=fun x y H Q=>∃i j,x=.int i/\y=.int j/\C i j/\Q (g i j) H
def Zx(g:Int->Int->V):R2:=fun x y H Q=>∃i j,x=.int i/\y=.int j/\Q (g i j) H
def rU(g:Int->V):V->Hp->VK->Prop:=fun x H Q=>∃i,x=.int i/\Q (g i) H
section
variable {X:Cx} {a b c:Expr} {ta tb tc:TE} {pos:Pos}
def xp(ha:PE X a ta)(hb:PE X b tb){pins:List (Addr×Obj)}{s:Shared}{U:St}{H:Hp}{R:V->V->Hp->Prop}(I:Inv X pins U H s)
  (h:ta U H fun x H1=>tb U H1 fun y H2=>R x y H2) {Q:Value->Shared->Prop} {f:Value->Value->Sem Value}
  (hf:∀v u s2 x y H2,Inv X pins U H2 s2->jB x v->jB y u->R x y H2->wpAny (model X.prog X.w) X.A (f v u) Q X.xe s2):
  wpAny (model X.prog X.w) X.A (eval a X.env) (fun v s₁=>wpAny (model X.prog X.w) X.A (eval b X.env) (fun u s₂=>wpAny (model X.prog X.w) X.A (f v u) Q X.xe s₂) X.xe s₁) X.xe s:=by
 refine jw (ha pins s U H _ I h) fun v s1 xx=>?_;obtain⟨x,H1,I1,r1,q1⟩:=xx;refine jw (hb pins s1 U H1 _ I1 q1) fun u s2 xx=>?_;obtain⟨y,H2,I2,r2,q2⟩:=xx;exact hf v u s2 x y H2 I2 r1 r2 q2
def XC{op:Operator}{r:R2}(ho:J0 X (binaryOp op) r)(ha:PE X a ta)(hb:PE X b tb):PE X (.BinOp a op b pos) (kH r ta tb):=by
 intro pins s U H Q I h;exact wpAny_BinOp (xp ha hb I h fun v u s2 x y H2 I2 rx ry q=>ho pins s2 U H2 x y v u Q I2 rx ry q)
def Dp{op:UnaryOp}{r:V->Hp->VK->Prop}(ho:B4 X (unaryOp op) r)(ha:PE X a ta):PE X (.UnaryOp op a pos) (hW r ta):=by
 intro pins s U H Q I h;exact UnaryOp_ (jw (ha pins s U H _ I h) fun v s1 ⟨x,H1,I1,r1,q1⟩=>ho pins s1 U H1 x v Q I1 r1 q1)
def XD{f:Value->Value->Sem Value}{C:Int->Int->Prop}{g:Int->Int->Int}
  (rule:∀(i j:Int) (t u:Tok) (s:Shared) (Q:Value->Shared->Prop) (E:Value->Shared->Prop),C i j->Q (.int (g i j) s.toks) { s with toks:=s.toks+1 }->wpAny (model X.prog X.w) X.A (f (.int i t) (.int j u)) Q E s):
  J0 X f (rI C fun i j=>.int (g i j)):=by
 intro pins s U H x y v u Q I rx ry h;obtain⟨i,j,rfl,rfl,hc,q⟩:=h;obtain⟨t,rfl⟩:=rx;obtain⟨t',rfl⟩:=ry;exact rule i j t t' s _ _ hc ⟨.int (g i j),H,I.tok _,⟨_,rfl⟩,q⟩
def B5{f:Value->Value->Sem Value}{g:Int->Int->Int}
  (rule:∀(i j:Int) (t u:Tok) (s:Shared) (Q:Value->Shared->Prop) (E:Value->Shared->Prop),Q (.int (g i j) s.toks) { s with toks:=s.toks+1 }->wpAny (model X.prog X.w) X.A (f (.int i t) (.int j u)) Q E s):
  J0 X f (Zx fun i j=>.int (g i j)):=by
 intro pins s U H x y v u Q I rx ry h;obtain⟨i,j,rfl,rfl,q⟩:=h;obtain⟨t,rfl⟩:=rx;obtain⟨t',rfl⟩:=ry;exact rule i j t t' s _ _ ⟨.int (g i j),H,I.tok _,⟨_,rfl⟩,q⟩
def WU{f:Value->Value->Sem Value}{g:Int->Int->Bool}
  (rule:∀(i j:Int) (t u:Tok) (s:Shared) (Q:Value->Shared->Prop) (E:Value->Shared->Prop),Q (.bool (g i j)) s->wpAny (model X.prog X.w) X.A (f (.int i t) (.int j u)) Q E s):
  J0 X f (Zx fun i j=>.bl (g i j)):=by
 intro pins s U H x y v u Q I rx ry h;obtain⟨i,j,rfl,rfl,q⟩:=h;obtain⟨t,rfl⟩:=rx;obtain⟨t',rfl⟩:=ry;exact rule i j t t' s _ _ ⟨.bl (g i j),H,I,rfl,q⟩
def xq(i j:Int):Prop:=0 < j/\j < 1073741824
def xr(i j:Int):Prop:=0<=j/\j<=1000000/\i.natAbs < 2 ^ 64
def gw(i j:Int):Prop:=(-(2 ^ 64) < i/\i < 2 ^ 64) \/ (-(2 ^ 64) < j/\j < 2 ^ 64)
def gw.ok{i j:Int}(h:gw i j):IntMulOk i j:=by
 rcases h with⟨h1,h2⟩ | ⟨h1,h2⟩
 ·exact .of_left (intBits_le_64 h1 h2)
 ·exact .of_right (intBits_le_64 h1 h2)
def B6:J0 X (binaryOp .Add) (Zx fun i j=>.int (i+j)):=B5 fun _ _ _ _ _ _ _ q=>add_int q
def B7:J0 X (binaryOp .Sub) (Zx fun i j=>.int (i - j)):=B5 fun _ _ _ _ _ _ _ q=>sub_int q
def B8:J0 X (binaryOp .Mult) (rI gw fun i j=>.int (i * j)):=XD fun _ _ _ _ _ _ _ hc q=>mul_int q hc.ok
def Ab:J0 X (binaryOp .FloorDiv) (rI xq fun i j=>.int (i / j)):=XD fun i j _ _ _ _ _ hc q=>by
 have h1:(0:Int) < j:=hc.1;have h2:j < 1073741824:=hc.2;exact floordiv_int (by lia) (by rw[Int.fdiv_eq_ediv_of_nonneg i (by lia)];exact q) (.inl (PyProof.noPylong_small (by lia)))
def B9:J0 X (binaryOp .Mod) (rI (fun _ j=>0 < j) fun i j=>.int (i % j)):=XD fun i j _ _ _ _ _ hc q=>by
 have h1:(0:Int) < j:=hc;exact mod_int' (by lia) (by rw[Int.fmod_eq_emod_of_nonneg i (by lia)];exact q)
def Ba:J0 X (binaryOp .Pow) (rI xr fun i j=>.int (i ^ j.toNat)):=XD fun _ _ _ _ _ _ _ hc q=>pow_int_small hc.1 hc.2.1 hc.2.2 q
def hX{f:Value->Sem Value}{g:Int->Int}
  (rule:∀(i:Int) (t:Tok) (s:Shared) (Q:Value->Shared->Prop) (E:Value->Shared->Prop),Q (.int (g i) s.toks) { s with toks:=s.toks+1 }->wpAny (model X.prog X.w) X.A (f (.int i t)) Q E s):
  B4 X f (rU fun i=>.int (g i)):=by
 intro pins s U H x v Q I rx h;obtain⟨i,rfl,q⟩:=h;obtain⟨t,rfl⟩:=rx;exact rule i t s _ _ ⟨.int (g i),H,I.tok _,⟨_,rfl⟩,q⟩
def Bb:B4 X (unaryOp .USub) (rU fun i=>.int (-i)):=hX fun _ _ _ _ _ q=>neg_int q
end
noncomputable def JV:V->V->Bool
 | .non,.non=>true | .non,.int _=>true | .int _,.non=>true | .non,.bl _=>true | .bl _,.non=>true | .non,.str _=>true | .str _,.non=>true
 | .int _,.int _=>true | .bl _,.bl _=>true | .str _,.str _=>true | .byt _,.byt _=>true
 | .int _,.str _=>true | .str _,.int _=>true | .bl _,.str _=>true | .str _,.bl _=>true
 | _,_=>false
def XE:R2:=fun x y H Q=>JV x y=true/\Q (.bl (decide (x=y))) H
def XF:R2:=fun x y H Q=>JV x y=true/\Q (.bl (!decide (x=y))) H
def Vi{i j:Int}:decide (V.int i=V.int j)=(i==j):=by
 rw[Bool.eq_iff_iff];simp
def um{i j:Bool}:decide (V.bl i=V.bl j)=(i==j):=by
 rw[Bool.eq_iff_iff];simp
def Vj{i j:Str}:decide (V.str i=V.str j)=(i==j):=by
 rw[Bool.eq_iff_iff];simp
def Wn{i j:Array UInt8}:decide (V.byt i=V.byt j)=(i.toList==j.toList):=by
 rw[Bool.eq_iff_iff];cases i;cases j;simp
section
variable {X:Cx} {a b c:Expr} {ta tb tc:TE} {pos:Pos}
def jP{pins:List (Addr×Obj)}{U:St}{H:Hp}{s:Shared}{Q:VK}{k k':Bool}(I:Inv X pins U H s)(q:Q (.bl k) H)(e:k=k'):EP X pins U Q (.bool k') s:=by
 subst e;exact⟨.bl k,H,I,rfl,q⟩
def Dq:J0 X (compareOp .Eq) XE:=by
 intro pins s U H x y v u Q I rx ry h;obtain⟨hs,q⟩:=h;cases x with
 | non=>
  cases rx;cases y with
  | non=>cases ry;exact PySem.EqNone.eq_none_none (jP I q (by simp))
  | bl j=>cases ry;exact PySem.EqNone.eq_none_bool (jP I q (by simp))
  | int j=>obtain⟨t',rfl⟩:=ry;exact PySem.EqNone.eq_none_int (jP I q (by simp))
  | str j=>obtain⟨t',rfl⟩:=ry;exact PySem.EqNone.eq_none_str (jP I q (by simp))
  | _=>exact vDa (show false=true from hs) vNa
 | bl i=>
  cases rx;cases y with
  | non=>cases ry;exact PySem.EqNone.eq_bool_none (jP I q (by simp))
  | bl j=>cases ry;exact eq_bool (jP I q um)
  | str j=>obtain⟨t',rfl⟩:=ry;exact PySem.EqMixed.eq_bool_str (jP I q (by simp))
  | _=>exact vDa (show false=true from hs) vNa
 | int i=>
  obtain⟨t,rfl⟩:=rx;cases y with
  | non=>cases ry;exact PySem.EqNone.eq_int_none (jP I q (by simp))
  | int j=>obtain⟨t',rfl⟩:=ry;exact eq_int (jP I q Vi)
  | str j=>obtain⟨t',rfl⟩:=ry;exact PySem.EqMixed.eq_int_str (jP I q (by simp))
  | _=>exact vDa (show false=true from hs) vNa
 | str i=>
  obtain⟨t,rfl⟩:=rx;cases y with
  | non=>cases ry;exact PySem.EqNone.eq_str_none (jP I q (by simp))
  | bl j=>cases ry;exact PySem.EqMixed.eq_str_bool (jP I q (by simp))
  | int j=>obtain⟨t',rfl⟩:=ry;exact PySem.EqMixed.eq_str_int (jP I q (by simp))
  | str j=>obtain⟨t',rfl⟩:=ry;exact eq_str (jP I q Vj)
  | _=>exact vDa (show false=true from hs) vNa
 | byt i=>
  obtain⟨t,rfl⟩:=rx;cases y with
  | byt j=>obtain⟨t',rfl⟩:=ry;exact PySem.W.eq_bytes (jP I q Wn)
  | _=>exact vDa (show false=true from hs) vNa
 | _=>cases y <;> exact vDa (show false=true from hs) vNa
def Dr:J0 X (compareOp .NotEq) XF:=by
 intro pins s U H x y v u Q I rx ry h;obtain⟨hs,q⟩:=h;cases x with
 | non=>
  cases rx;cases y with
  | non=>cases ry;exact PySem.EqNone.ne_none_none (jP I q (by simp))
  | bl j=>cases ry;exact PySem.EqNone.ne_none_bool (jP I q (by simp))
  | int j=>obtain⟨t',rfl⟩:=ry;exact PySem.EqNone.ne_none_int (jP I q (by simp))
  | str j=>obtain⟨t',rfl⟩:=ry;exact PySem.EqNone.ne_none_str (jP I q (by simp))
  | _=>exact vDa (show false=true from hs) vNa
 | bl i=>
  cases rx;cases y with
  | non=>cases ry;exact PySem.EqNone.ne_bool_none (jP I q (by simp))
  | bl j=>cases ry;exact ne_bool (jP I q (congrArg not um))
  | str j=>obtain⟨t',rfl⟩:=ry;exact PySem.EqMixed.ne_bool_str (jP I q (by simp))
  | _=>exact vDa (show false=true from hs) vNa
 | int i=>
  obtain⟨t,rfl⟩:=rx;cases y with
  | non=>cases ry;exact PySem.EqNone.ne_int_none (jP I q (by simp))
  | int j=>obtain⟨t',rfl⟩:=ry;exact ne_int (jP I q (congrArg not Vi))
  | str j=>obtain⟨t',rfl⟩:=ry;exact PySem.EqMixed.ne_int_str (jP I q (by simp))
  | _=>exact vDa (show false=true from hs) vNa
 | str i=>
  obtain⟨t,rfl⟩:=rx;cases y with
  | non=>cases ry;exact PySem.EqNone.ne_str_none (jP I q (by simp))
  | bl j=>cases ry;exact PySem.EqMixed.ne_str_bool (jP I q (by simp))
  | int j=>obtain⟨t',rfl⟩:=ry;exact PySem.EqMixed.ne_str_int (jP I q (by simp))
  | str j=>obtain⟨t',rfl⟩:=ry;exact ne_str (jP I q (congrArg not Vj))
  | _=>exact vDa (show false=true from hs) vNa
 | byt i=>
  obtain⟨t,rfl⟩:=rx;cases y with
  | byt j=>obtain⟨t',rfl⟩:=ry;exact PySem.W.ne_bytes (jP I q (congrArg not Wn))
  | _=>exact vDa (show false=true from hs) vNa
 | _=>cases y <;> exact vDa (show false=true from hs) vNa
def Ds:J0 X (compareOp .Lt) (Zx fun i j=>.bl (decide (i < j))):=WU fun _ _ _ _ _ _ _ q=>lt_int q
def Dt:J0 X (compareOp .LtE) (Zx fun i j=>.bl (decide (i<=j))):=WU fun _ _ _ _ _ _ _ q=>le_int q
def Du:J0 X (compareOp .Gt) (Zx fun i j=>.bl (decide (j < i))):=WU fun _ _ _ _ _ _ _ q=>gt_int q
def Dv:J0 X (compareOp .GtE) (Zx fun i j=>.bl (decide (j<=i))):=WU fun _ _ _ _ _ _ _ q=>ge_int q
def Bc:J0 X (compareOp .Is) (fun x y H Q=>y=.non/\Q (.bl (decide (x=.non))) H):=by
 intro pins s U H x y v u Q I rx ry h;obtain⟨rfl,q⟩:=h;cases ry;refine is_none_gen (jP I q ?_);cases x <;> first
  | (cases rx;rfl)
  | (obtain⟨t,rfl⟩:=rx;rfl)
def Ad:J0 X (compareOp .IsNot) (fun x y H Q=>y=.non/\Q (.bl (!decide (x=.non))) H):=by
 intro pins s U H x y v u Q I rx ry h;obtain⟨rfl,q⟩:=h;cases ry;refine isnot_none_gen (jP I q ?_);cases x <;> first
  | (cases rx;rfl)
  | (obtain⟨t,rfl⟩:=rx;rfl)
def J0.or{f:Value->Value->Sem Value}{r r':R2}(h:J0 X f r)(h':J0 X f r'):J0 X f (fun x y H Q=>r x y H Q \/ r' x y H Q):=by
 intro pins s U H x y v u Q I rx ry q;rcases q with q | q
 ·exact h pins s U H x y v u Q I rx ry q
 ·exact h' pins s U H x y v u Q I rx ry q
def Ae{op:CmpOp}{r:R2}(ho:J0 X (compareOp op) r)(ha:PE X a ta)(hb:PE X b tb)(hm:behindInMarks op b=false):PE X (.Compare a [op] [b] pos) (kH r ta tb):=by
 intro pins s U H Q I h;exact wpAny_Compare1 (xp ha hb I h fun v u s2 x y H2 I2 rx ry q=>ho pins s2 U H2 x y v u Q I2 rx ry q) hm
def XH(t:TE):TT:=fun U H Q=>t U H fun x H'=>∃k,x=.bl k/\Q k H'
def Af{op:CmpOp}{r:R2}(ho:J0 X (compareOp op) r)(ha:PE X a ta)(hb:PE X b tb)(hm:behindInMarks op b=false):PT X (.Compare a [op] [b] pos) (XH (kH r ta tb)):=by
 intro pins s U H Q I h;refine wpAny_isTrue_Compare1 (jw (ha pins s U H _ I h) fun v s1 ⟨x,H1,I1,r1,q1⟩=>jw (hb pins s1 U H1 _ I1 q1) fun u s2 ⟨y,H2,I2,r2,q2⟩=>
  jw (ho pins s2 U H2 x y v u _ I2 r1 r2 q2) fun c s3 ⟨z,H3,I3,r3,k,e,q3⟩=>?_) hm
 subst e;cases r3;exact wpAny_truthy_bool ⟨H3,I3,q3⟩
def KA(r r':R2)(ta tb tc:TE):TE:=fun U H Q=>ta U H fun x H1=>tb U H1 fun y H2=>r x y H2 fun z H3=>∃k,z=.bl k/\
 (if k=true then tc U H3 fun w' H4=>r' y w' H4 Q else Q (.bl false) H3)
theorem xt{op op':CmpOp}{r r':R2}(ho:J0 X (compareOp op) r)(ho':J0 X (compareOp op') r')(ha:PE X a ta)(hb:PE X b tb)(hc:PE X c tc)
  (hm:lastMarks [op,op'] [b,c]=false:=by with_unfolding_all rfl):PE X (.Compare a [op,op'] [b,c] pos) (KA r r' ta tb tc):=by
 intro pins s U H Q I h;refine Compare_chain (jw (ha pins s U H _ I h) fun v s1 ⟨x,H1,I1,r1,q1⟩=>chain_link (jw (hb pins s1 U H1 _ I1 q1) fun u s2 ⟨y,H2,I2,r2,q2⟩=>
  jw (ho pins s2 U H2 x y v u _ I2 r1 r2 q2) fun d s3 ⟨z,H3,I3,r3,k,e,q3⟩=>?_)) hm
 subst e;cases r3;refine wpAny_truthy_bool ?_;cases k with
 | false=>exact ite_ff ⟨.bl false,H3,I3,rfl,q3⟩
 | true=>exact ite_tt (chain_last (jw (hc pins s3 U H3 _ I3 q3) fun w' s4 ⟨z',H4,I4,r4,q4⟩=>ho' pins s4 U H4 y z' u w' Q I4 r2 r4 q4))
theorem xu{op op':CmpOp}{r r':R2}(ho:J0 X (compareOp op) r)(ho':J0 X (compareOp op') r')(ha:PE X a ta)(hb:PE X b tb)(hc:PE X c tc)
  (hm:lastMarks [op,op'] [b,c]=false:=by with_unfolding_all rfl):PT X (.Compare a [op,op'] [b,c] pos) (XH (KA r r' ta tb tc)):=by
 intro pins s U H Q I h;refine isTrue_chain (jw (ha pins s U H _ I h) fun v s1 ⟨x,H1,I1,r1,q1⟩=>test_link (jw (hb pins s1 U H1 _ I1 q1) fun u s2 ⟨y,H2,I2,r2,q2⟩=>
  jw (ho pins s2 U H2 x y v u _ I2 r1 r2 q2) fun d s3 ⟨z,H3,I3,r3,k,e,q3⟩=>?_)) hm
 subst e;cases r3;refine wpAny_truthy_bool ?_;cases k with
 | false=>
  obtain⟨k',e',q'⟩:=q3;cases e';exact ite_ff ⟨H3,I3,q'⟩
 | true=>
  refine ite_tt (test_last (jw (hc pins s3 U H3 _ I3 q3) fun w' s4 ⟨z',H4,I4,r4,q4⟩=>jw (ho' pins s4 U H4 y z' u w' _ I4 r2 r4 q4) fun d' s5 xx=>?_));obtain⟨z2,H5,I5,r5,k2,e2,q5⟩:=xx;subst e2;cases r5;exact wpAny_truthy_bool ⟨H5,I5,q5⟩
def xw(K:uXa)(x:V)(H:Hp)(k:Bool):Prop:=
 match x with
 | .non=>k=false
 | .bl b=>k=b
 | .int i=>k=(i != 0)
 | .str y=>y.length<=sizeLine/\k=((y.length:Int) != 0)
 | .byt y=>y.size<=sizeLine/\k=((y.size:Int) != 0)
 | .ref p=>(∃xs,jG K H p xs/\k=!xs.isEmpty) \/ (∃xs,Jq K H p xs/\k=!xs.isEmpty) \/∃kvs,H p=some (.dK kvs)/\k=!kvs.isEmpty
 | _=>False
def WV{κ:Type}{kvs:List (κ×V)}{vs:List (κ×Value)}(r:KV kvs vs):(!vs.isEmpty)=!kvs.isEmpty:=by
 cases r <;> rfl
def Gd{xs:List V}{its:List Value}(r:jj xs its):(!its.toArray.isEmpty)=!xs.isEmpty:=by
 cases r <;> simp
def Vk:(sizeLine:Nat) < 2 ^ 63:=by rw[sizeLine_eq];decide
def Be:fU X (fun x H Q=>∃k,xw X.K x H k/\Q k H):=by
 intro pins s U H x v Q I rx h;obtain⟨k,e,q⟩:=h;have hl:=Vk;have hs:sizeLine=16777216:=sizeLine_eq;cases x with
 | non=>
  cases rx;have e':k=false:=e;subst e';exact truthy_none ⟨H,I,q⟩
 | bl b=>
  cases rx;have e':k=b:=e;subst e';exact wpAny_truthy_bool ⟨H,I,q⟩
 | int i=>
  obtain⟨t,rfl⟩:=rx;have e':k=(i != 0):=e;subst e';exact PySem.P.truthy_int ⟨H,I,q⟩
 | str y=>
  obtain⟨t,rfl⟩:=rx;obtain⟨hy,e'⟩:y.length<=sizeLine/\k=((y.length:Int) != 0):=e;subst e';exact PySem.P.truthy_str (by lia) ⟨H,I.tok _,q⟩
 | byt y=>
  obtain⟨t,rfl⟩:=rx;obtain⟨hy,e'⟩:y.size<=sizeLine/\k=((y.size:Int) != 0):=e;subst e';exact PySem.W.truthy_bytes (by lia) ⟨H,I.tok _,q⟩
 | ref p=>
  cases rx;have e':(∃xs,jG X.K H p xs/\k=!xs.isEmpty) \/ (∃xs,Jq X.K H p xs/\k=!xs.isEmpty) \/∃kvs,H p=some (.dK kvs)/\k=!kvs.isEmpty:=e;rcases e' with⟨xs,hx,e'⟩ | ⟨xs,hx,e'⟩ | ⟨kvs,hx,e'⟩
  ·subst e';obtain⟨its,r,pl,hz⟩:=I.list hx;have hlen:=r.length;exact wpAny_truthy_list pl.isList (by simp only[List.size_toArray];lia) ⟨H,I.tok _,by rw[Gd r];exact q⟩
  ·subst e';obtain⟨its,r,pl,hz⟩:=I.tuple hx;have hlen:=r.length;exact truthy_tuple pl (by simp only[List.size_toArray];lia) ⟨H,I.tok _,by rw[Gd r];exact q⟩
  ·subst e';obtain⟨hz,hS,vs,r,m⟩:kvs.length<=sizeLine/\(p==sysModules)=false/\∃vs,KV kvs vs/\s.heap.DictOf (Up X.prog X.w) p vs:=I.hok p _ hx;have hlen:kvs.length=vs.length:=Paired.length r;exact wpAny_truthy_dict hS m (by lia) ⟨H,I.tok _,by rw[WV r];exact q⟩
 | _=>exact(show False from e).elim
def xy(ha:PE X a ta)(he:∀whole,isTrue a X.env whole=(do let v<-whole;standAt a.pos;holding [v] (truthy v))):
  PT X a (fun U H Q=>ta U H fun x H'=>∃k,xw X.K x H' k/\Q k H'):=by
 intro pins s U H Q I h;exact isTrue_plain (jw (ha pins s U H _ I h) fun v s1 ⟨x,H1,I1,r1,q1⟩=>Be pins s1 U H1 x v Q I1 r1 q1) (he _)
def WW:J0 X (binaryOp .Add) (fun x y H Q=>∃i j,x=.str i/\y=.str j/\i.length+j.length<=sizeLine/\Q (.str (i++j)) H):=by
 intro pins s U H x y v u Q I rx ry h;obtain⟨i,j,rfl,rfl,hz,q⟩:=h;obtain⟨t,rfl⟩:=rx;obtain⟨t',rfl⟩:=ry;exact add_str (fun t' tk=>⟨.str (i++j),H,I.tok _,⟨_,rfl⟩,q⟩) hz
def WX{x:V}{us:List Value}(r:jj [x] us):∃u,us=[u]/\jB x u:=by
 cases r with
 | cons r1 r2=>cases r2;exact⟨_,rfl,r1⟩
def XI{x y:V}{us:List Value}(r:jj [x,y] us):∃u w',us=[u,w']/\jB x u/\jB y w':=by
 cases r with
 | cons r1 r2=>
  cases r2 with
  | cons r3 r4=>cases r4;exact⟨_,_,rfl,r1,r3⟩
def qV(hc:X.calm=true):yZ X (.builtin "max") (fun xs H Q=>∃i j,xs=[.int i,.int j]/\Q (.int (if j > i then j else i)) H):=by
 intro pins s U H xs us Q I r h;obtain⟨i,j,rfl,q⟩:=h;obtain⟨u,w',rfl,⟨t,rfl⟩,⟨t',rfl⟩⟩:=XI r;refine max_two_ints (I.ok.hd hc) fun h' tk k=>⟨_,H,I.kept k,?_,q⟩
 by_cases hj:j > i
 ·rw[if_pos hj,if_pos hj];exact⟨_,rfl⟩
 ·rw[if_neg hj,if_neg hj];exact⟨_,rfl⟩
def qW(hc:X.calm=true):yZ X (.builtin "min") (fun xs H Q=>∃i j,xs=[.int i,.int j]/\Q (.int (if j < i then j else i)) H):=by
 intro pins s U H xs us Q I r h;obtain⟨i,j,rfl,q⟩:=h;obtain⟨u,w',rfl,⟨t,rfl⟩,⟨t',rfl⟩⟩:=XI r;refine min_two_ints (I.ok.hd hc) fun h' tk k=>⟨_,H,I.kept k,?_,q⟩
 by_cases hj:j < i
 ·rw[if_pos hj,if_pos hj];exact⟨_,rfl⟩
 ·rw[if_neg hj,if_neg hj];exact⟨_,rfl⟩
end
structure ObjM (h:Heap) (x dx C:Addr) (mA:Str->Option Value):Prop where
 obj:h.get? x=some (PySem.W.instObj C dx)
 ns:h.Ns1 dx mA
 ne:dx≠x
set_option tactic.hygienic true in
theorem qX{h:Heap}{dx:Addr}{mA:Str->Option Value}(n:h.Ns1 dx mA):∃od,h.get? dx=some od/\∀name,PySem.W.lookIn name od=some (mA name):=by
 obtain⟨o,es,ep,ho,hd,hk,_,hm⟩:=n;refine⟨o,ho,fun name=>?_⟩;have e:=hm name;unfold nsFind findBy at e;rw[<-Array.find?_toList]at e;unfold PySem.W.lookIn;rw[hd];dsimp only;split
 ·rename_i y q;rw[q]at e;exact congrArg some e
 ·rename_i q;rw[q]at e;have a:es.toList.any (·.refKey)=false:=by
   rw[List.any_eq_false];intro y hy;obtain⟨z,t,hkey⟩:=hk y (Array.mem_toList_iff.mp hy);simp[DictEntry.refKey,hkey]
  have a':¬es.toList.any (·.refKey)=true:=by rw[a];exact vNa
  rw[if_neg a'];exact congrArg some e
def ObjM.look{h:Heap}{x dx C:Addr}{mA:Str->Option Value}(I:ObjM h x dx C mA):∃od,PySem.W.InstAt h x (PySem.W.instObj C dx) C (some od)/\∀name,PySem.W.lookIn name od=some (mA name):=
 let ⟨od,ho,hl⟩:=qX I.ns
 ⟨od,⟨I.obj,rfl,rfl,ho⟩,hl⟩
section
variable {prog:Program} {w:World} {A:Around} {E:Value->Shared->Prop} {s:Shared} {K:uXa} {x dx C f:Addr} {mA:Str->Option Value} {name:Str} {v:Value}
def Ag{expr:Bool}{Q:Value->Shared->Prop}(X:K.In s.heap)(I:ObjM s.heap x dx C mA)(hg:PySem.W.plainGet K C name=true)(hh:PySem.W.hasDictIn K C=true)
  (ha:PySem.W.findIn K (.ref C) name=some none) (hv:mA name=some v) (hv':PySem.W.handedIn v=true) (h:Q v { s with toks:=s.toks+1 }):
  wpAny (model prog w) A (getAttr (.ref x) name expr) Q E s:=by
 obtain⟨od,J,hl⟩:=I.look;exact PySem.W.get_value X J (PySem.W.plainGet_of hg).1 (PySem.W.findObj_own hh ha rfl (by rw[hl,hv])) hv' h
def xz{pl:Sem Bool}{Q:Value×List Value->Shared->Prop}(X:K.In s.heap)(I:ObjM s.heap x dx C mA)(hg:PySem.W.plainGet K C name=true)
  (hf:PySem.W.findIn K (.ref C) name=some (some (.ref f))) (ht:PySem.W.isFn K (.ref f)=true) (hv:mA name=none) (h:Q (.ref f,[.ref x]) s):
  wpAny (model prog w) A (getMethod (.ref x) name pl) Q E s:=by
 obtain⟨od,J,hl⟩:=I.look;exact PySem.W.method_fn X J (PySem.W.plainGet_of hg).1 (PySem.W.plainGet_of hg).2 hf (beq_iff_eq.mp ht) (by show(PySem.W.lookIn name od).map (·.isSome)=some false;rw[hl,hv];rfl) h
def Ah{ns:List Str}{Q:Unit->Shared->Prop}(X:K.In s.heap)(I:ObjM s.heap x dx C mA)
  (hs:PySem.W.findIn K (.ref C) "__setattr__" = some (some (.builtin "object.__setattr__"))) (hp:PySem.W.plainOver K C=true) (ht:PySem.W.takerIn K C name=some none) (hh:PySem.W.hasDictIn K C=true)
  (hw:PySem.Within mA ns) (hsz:ns.length<=sizeLine)
  (h:∀h',ObjM h' x dx C (fun y=>if y=name then some v else mA y)->Heap.SameBut dx s.heap h'->Q () { s with heap:=h',toks:=s.toks+2 }):
  wpAny (model prog w) A (setAttr (.ref x) name v) Q E s:=by
 obtain⟨od,J,hl⟩:=I.look;refine PySem.W.set_plain X J hs (PySem.W.osa_open (s:={ s with toks:=s.toks+1 }) (r:=none) X J hp ht fun b=>?_);obtain⟨cd,hc,hd'⟩:=PySem.W.any_some hh;have hx:s.heap.get? x=some ⟨.ref C,some dx,.plain,#[]⟩:=I.obj;refine wAa (wBa (wAa (wAa (wpAny_loadPart hx (wAa (PySem.W.Looks.here (s:={ s with toks:=s.toks+1 }) (PySem.W.looks_clsIn X hc) ?_))))));rw[hd'];refine wBa (a:=some dx) (wAa (wBa (wAa ?_)));refine wpAny_nsSet1 (s:={ s with toks:=s.toks+1 }) I.ns fun h' hn2 hs2=>?_;obtain⟨oD,esD,epD,hoD,hdD,hcD⟩:=hn2.count (PySem.Within.cons name v hw);refine wAa (wpAny_lookBehind hoD (by rw[hdD];exact pastItsLine_dict (wSa hcD (by rw[vXa];lia))) ?_);exact wBa (h _ ⟨(hs2.2 _ (Ne.symm I.ne)).trans I.obj,hn2,I.ne⟩ hs2)
def xA{R:Result->Shared->Prop}{vs:List Value}{kw:List (Str×Value)}(X:K.In s.heap)(hm:PySem.W.makesIn K C=true)
  (hi:PySem.W.findIn K (.ref C) "__init__" = some (some (.ref f))) (hf:PySem.W.typeIn K (.ref f)=some (.type "function"))
  (h:codeAny (model prog w) (A.under (.builtin "type.__call__" ⟨.ref C::vs,kw⟩)) (.call (.ref f) ⟨.ref (s.heap.objs.size+1)::vs,kw⟩) (PySem.W.InitBack (s.heap.objs.size+1) R)
   { s with heap:=(s.heap.push PySem.W.emptyDict).push (PySem.W.instObj C s.heap.objs.size) }):
  codeAny (model prog w) A (.call (.ref C) ⟨vs,kw⟩) R s:=by
 obtain⟨hh,g,d,t,os⟩:=s;exact PySem.W.make_core (PySem.W.makes_of X hm) (PySem.W.looks_findIn X hi) (fun self=>PySem.W.bind_fn X self hf) (.inl rfl) h
end
noncomputable def yT(f:Str)(v:V):List (Str×V)->List (Str×V)
 | []=>[(f,v)]
 | (g,x)::r=>if g=f then(g,v)::r else(g,x)::yT f v r
theorem UW(f g:Str)(v:V):∀fs:List (Str×V),(yT f v fs).lookup g=if g=f then some v else fs.lookup g
 | []=>by
  show List.lookup g [(f,v)]=_;by_cases h:g=f
  ·have hb:(g==f)=true:=beq_iff_eq.mpr h;simp only[List.lookup,hb,if_pos h]
  ·have hb:(g==f)=false:=beq_eq_false_iff_ne.mpr h;simp only[List.lookup,hb,if_neg h]
 | (k,x)::r=>by
  have ih:=UW f g v r;rw[show yT f v ((k,x)::r)=(if k=f then(k,v)::r else(k,x)::yT f v r) from rfl];by_cases hk:k=f
  ·rw[if_pos hk];by_cases h:g=k
   ·have hb:(g==k)=true:=beq_iff_eq.mpr h;simp only[List.lookup,hb,if_pos (h.trans hk)]
   ·have hb:(g==k)=false:=beq_eq_false_iff_ne.mpr h;simp only[List.lookup,hb,if_neg (fun e:g=f=>h (e.trans hk.symm))]
  ·rw[if_neg hk];by_cases h:g=k
   ·have hb:(g==k)=true:=beq_iff_eq.mpr h;simp only[List.lookup,hb,if_neg (fun e:g=f=>hk (h.symm.trans e))]
   ·have hb:(g==k)=false:=beq_eq_false_iff_ne.mpr h;simp only[List.lookup,hb];exact ih
theorem uo(f:Str)(v:V):∀fs:List (Str×V),f∈(yT f v fs).map (·.1)/\∀g,g∈fs.map (·.1)->g∈(yT f v fs).map (·.1)
 | []=>⟨by simp[yT],fun g h=>by simp at h⟩
 | (k,x)::r=>by
  obtain⟨i1,i2⟩:=uo f v r;rw[show yT f v ((k,x)::r)=(if k=f then(k,v)::r else(k,x)::yT f v r) from rfl];by_cases hk:k=f
  ·rw[if_pos hk];subst hk;exact⟨by simp,fun g h=>by simpa using h⟩
  ·rw[if_neg hk];refine⟨?_,fun g h=>?_⟩
   ·rw[vWa];exact wMa _ i1
   ·rw[vWa]at h⊢;rcases uTa h with e | e
    ·exact List.mem_cons.mpr (.inl e)
    ·exact wMa _ (i2 g e)
theorem UX(f:Str)(v:V):∀fs:List (Str×V),(yT f v fs).length<=fs.length+1
 | []=>by simp[yT]
 | (k,x)::r=>by
  have ih:=UX f v r;rw[show yT f v ((k,x)::r)=(if k=f then(k,v)::r else(k,x)::yT f v r) from rfl];by_cases hk:k=f
  ·rw[if_pos hk,vXa,vXa];lia
  ·rw[if_neg hk,vXa,vXa];lia
def vX.some_of{v:V}{o:Option Value}(r:vX (some v) o):∃u,o=some u/\jB v u:=by
 cases o with
 | none=>exact(show False from r).elim
 | some u=>exact⟨u,rfl,r⟩
def vX.none_of{o:Option Value}(r:vX none o):o=none:=by
 cases o with
 | none=>rfl
 | some u=>exact(show False from r).elim
def qY{v:V}{u:Value}(r:jB v u):PySem.W.handedIn u=true:=by
 cases v with
 | non=>cases (show u=Value.none from r);rfl
 | bl b=>cases (show u=Value.bool b from r);rfl
 | int i=>obtain⟨t,e⟩:=(show∃t,u=Value.int i t from r);cases e;rfl
 | str x=>obtain⟨t,e⟩:=(show∃t,u=Value.str x t from r);cases e;rfl
 | byt b=>obtain⟨t,e⟩:=(show∃t,u=Value.bytes b t from r);cases e;rfl
 | flt b=>obtain⟨t,e⟩:=(show∃t,u=Value.float b t from r);cases e;rfl
 | ref a=>cases (show u=Value.ref a from r);rfl
 | ty n=>cases (show u=Value.type n from r);rfl
section
variable {P:Program} {w:World} {H H':Hp} {h h':Heap} {a C dx:Addr} {fs fs':List (Str×V)}
def ins_get(hok:yw P w H h)(e:H a=some (.ins C dx fs)):∃mA,ObjM h a dx C mA/\(∀f,vX (fs.lookup f) (mA f))/\PySem.Within mA (fs.map (·.1))/\fs.length<=1000/\H dx=some (.own a):=by
 obtain⟨d,z,ne,ob,mA,n,r,q⟩:=(show yc P w H h a (.ins C dx fs) from hok a _ e)
 exact⟨mA,⟨ob,n,ne⟩,r,q,z,d⟩
end
structure Cls (K:uXa) (C:Addr):Prop where
 pg:PySem.W.plainGet K C Str.empty=true
 hd:PySem.W.hasDictIn K C=true
 po:PySem.W.plainOver K C=true
 sa:PySem.W.findIn K (.ref C) "__setattr__" = some (some (.builtin "object.__setattr__"))
def Cls.get{K:uXa}{C:Addr}(c:Cls K C)(f:Str):PySem.W.plainGet K C f=true:=c.pg
def Yo(K:uXa)(C:Addr)(f:Str):Prop:=PySem.W.findIn K (.ref C) f=some none
def Yo.taker{K:uXa}{C:Addr}{f:Str}(n:Yo K C f):PySem.W.takerIn K C f=some none:=by
 unfold PySem.W.takerIn;rw[show PySem.W.findIn K (.ref C) f=some none from n];rfl
structure Meth (K:uXa) (C:Addr) (m:Str) (f:Addr):Prop where
 at_:PySem.W.findIn K (.ref C) m=some (some (.ref f))
 fn:PySem.W.isFn K (.ref f)=true
 kp:PySem.W.keepIn K (.ref f)=true
section
variable {X:Cx} {pins:List (Addr×Obj)} {U:St} {H:Hp} {s:Shared} {a C dx:Addr} {fs:List (Str×V)} {f:Str} {v:V} {A:Around} {E:Value->Shared->Prop}
def WY{b:Bool}{Q:Value->Shared->Prop}(I:Inv X pins U H s)(e:H a=some (.ins C dx fs))(c:Cls X.K C)(n:Yo X.K C f)(l:fs.lookup f=some v)
  (h:∀u s',Inv X pins U H s'->jB v u->Q u s'):wpAny (model X.prog X.w) A (getAttr (.ref a) f b) Q E s:=by
 obtain⟨mA,O,r,_,_,_⟩:=ins_get I.hok e;obtain⟨u,hu,ru⟩:=vX.some_of (v:=v) (o:=mA f) (by rw[<-l];exact r f);exact Ag I.kIn O (c.get f) c.hd n hu (qY ru) (h u _ (I.tok _) ru)
def WZ{m:Str}{g:Addr}{pl:Sem Bool}{Q:Value×List Value->Shared->Prop}(I:Inv X pins U H s)(e:H a=some (.ins C dx fs))(c:Cls X.K C)(k:Meth X.K C m g)(l:fs.lookup m=none)
  (h:Q (.ref g,[.ref a]) s):wpAny (model X.prog X.w) A (getMethod (.ref a) m pl) Q E s:=by
 obtain⟨mA,O,r,_,_,_⟩:=ins_get I.hok e;have hn:mA m=none:=vX.none_of (by rw[<-l];exact r m);exact xz I.kIn O (c.get m) k.at_ k.fn hn h
def W_{y:V}{u:Value}{Q:Unit->Shared->Prop}(I:Inv X pins U H s)(e:H a=some (.ins C dx fs))(c:Cls X.K C)(n:Yo X.K C f)(hl:fs.length < 1000)(ry:jB y u)
  (h:∀s',Inv X pins U (upd H a (.ins C dx (yT f y fs))) s'->Q () s'):wpAny (model X.prog X.w) A (setAttr (.ref a) f u) Q E s:=by
 obtain⟨mA,O,r,wi,_,ho⟩:=ins_get I.hok e;have hz:(fs.map (·.1)).length<=sizeLine:=by rw[vYa,sizeLine_eq];lia
 refine Ah I.kIn O c.sa c.po n.taker c.hd wi hz fun h' O' sb=>h _ ?_;have hd:∃o,h'.get? dx=some o:=let ⟨o,_,_,e',_⟩:=O'.ns;⟨o,e'⟩
 refine I.write (x:=a) (e:=dx) (by rw[e];exact True.intro) (.inr ho) (fun b q hb z=>(sb.2 b hb).trans z) hd ?_;refine⟨by rw[jq O.ne];exact ho,?_,O.ne,O'.obj,_,O'.ns,fun g=>?_,fun g hg=>?_⟩
 ·have:=UX f y fs;lia
 ·show vX ((yT f y fs).lookup g) (if g=f then some u else mA g);rw[UW];by_cases q:g=f
  ·rw[if_pos q,if_pos q];exact ry
  ·rw[if_neg q,if_neg q];exact r g
 ·by_cases q:g=f
  ·rw[q];exact(uo f y fs).1
  ·refine(uo f y fs).2 g (wi g fun z=>hg ?_);show(if g=f then some u else mA g)=none;rw[if_neg q];exact z
def Inv.made(I:Inv X pins U H s):Inv X pins U (upd (upd H s.heap.objs.size (.own (s.heap.objs.size+1))) (s.heap.objs.size+1) (.ins C s.heap.objs.size []))
  { s with heap:=(s.heap.push PySem.W.emptyDict).push (PySem.W.instObj C s.heap.objs.size) }:=by
 have e1:(s.heap.push PySem.W.emptyDict).get? s.heap.objs.size=some PySem.W.emptyDict:=wJa s.heap rfl;have e2:((s.heap.push PySem.W.emptyDict).push (PySem.W.instObj C s.heap.objs.size)).get? (s.heap.objs.size+1)=some (PySem.W.instObj C s.heap.objs.size):=by
  have:=wJa (s.heap.push PySem.W.emptyDict) (o:=PySem.W.instObj C s.heap.objs.size) rfl;rwa [uPa]at this
 have e3:(s.heap.push PySem.W.emptyDict).Ns s.heap.objs.size (fun _=>none):=⟨PySem.W.emptyDict,#[],_,e1,rfl,(fun e he=>vDa he (by simp)),fun _=>rfl⟩
 have I1:=I.laid (a:=s.heap.objs.size) (o:=.own (s.heap.objs.size+1)) (h':=s.heap.push PySem.W.emptyDict) (t':=s.toks) (fun b u q=>wIa _ q) (wPa _) ⟨_,e1⟩;refine I1.laid (a:=s.heap.objs.size+1) (o:=.ins C s.heap.objs.size []) (t':=s.toks) (fun b u q=>wIa _ q) (Nat.le_of_eq (Heap.size_push _ _)) ?_;have ne:s.heap.objs.size≠s.heap.objs.size+1:=wTa (Nat.lt_succ_self _);refine⟨by rw[jq ne,jV],Nat.zero_le _,ne,e2,fun _=>none,(Heap.Ns1.of_empty e3).at fun o q=>wIa _ q,fun _=>True.intro,fun y hy=>vDa rfl hy⟩
def Uq{prog:Program}{w:World}{env:Env}{e:Expr}{f:Str}{pos:Pos}{s:Shared}{Q:Value->Shared->Prop}(hb:attributeBase e f env (eval e env)=eval e env)
  (h:wpAny (model prog w) A (eval e env) (fun o s₁=>wpAny (model prog w) A (getAttr o f true) Q E s₁) E s):wpAny (model prog w) A (eval (.Attribute e f pos) env) Q E s:=
 Attribute_any_ h (by rw[arm_eval_Attribute,hb])
end
def fW(K:uXa)(ta:TE)(f:Str):TE:=fun U H Q=>ta U H fun x H1=>∃a C dx fs v,x=.ref a/\H1 a=some (.ins C dx fs)/\Cls K C/\Yo K C f/\fs.lookup f=some v/\Q v H1
def Bf(K:uXa)(ta tv:TE)(f:Str):TS:=fun D U H=>tv U H fun y H1=>ta U H1 fun x H2=>∃a C dx fs,x=.ref a/\H2 a=some (.ins C dx fs)/\Cls K C/\Yo K C f/\fs.length < 1000/\
 D.nx U (upd H2 a (.ins C dx (yT f y fs)))
section
variable {X:Cx} {o e value:Expr} {f:Str} {pos pos' tpos:Pos} {ta tv:TE}
def Bg(he:PE X e ta)(hb:attributeBase e f X.env (eval e X.env)=eval e X.env):PE X (.Attribute e f pos) (fW X.K ta f):=by
 intro pins s U H Q I h;refine Uq hb (jw (he pins s U H _ I h) fun u s1 xx=>?_);obtain⟨x,H1,I1,rx,a,C,dx,fs,v,ex,ea,c,n,l,q⟩:=xx;subst ex;obtain rfl:u=Value.ref a:=rx;exact WY I1 ea c n l fun u' s2 I2 ru=>⟨v,H1,I2,ru,q⟩
def Bh(ha:PE X o ta)(hv:PE X value tv)(hs:swapsWith value (some (.Attribute o f pos')) pos.line X.env=pure false):PS X (.Assign [.Attribute o f pos'] value pos) (Bf X.K ta tv f):=by
 intro pins s U H D I h;refine plainObj_wpAny_Assign_Attribute (jw (hv pins s U H _ I h) fun u s1 ⟨y,H1,I1,ry,q⟩=>jw (ha pins s1 U H1 _ I1 q) fun ov s2 xx=>?_) hs;obtain⟨x,H2,I2,rx,a,C,dx,fs,ex,ea,c,n,l,q2⟩:=xx;subst ex;obtain rfl:ov=Value.ref a:=rx;exact W_ I2 ea c n l ry fun s3 I3=>⟨U,_,I3,q2⟩
end
structure Room (k:Nat) (A:Around):Prop where
 hd:A.handled=none
 dp:A.depth+3 * k+5 < recursionLimit
 un:A.units+16 * k+200 < cLine
def Room.mono{j k:Nat}{A:Around}(r:Room k A)(h:j<=k):Room j A:=⟨r.hd,by have:=r.dp;lia,by have:=r.un;lia⟩
def Room.deeper{k:Nat}{A:Around}(r:Room (k+1) A)(env:Env):Room k (A.deeper env):=
 ⟨r.hd,by have:=r.dp;show A.depth+1+3 * k+5 < _;lia,by have:=r.un;show A.units+3+16 * k+200 < _;lia⟩
def qc{A:Around}{C:Addr}{us:List Value}{kw:List (Str×Value)}:(A.under (.builtin "type.__call__" ⟨.ref C::us,kw⟩)).depth=A.depth+1:=by
 first | rfl | simp[Around.under,Code.weight,Code.isCreation,Code.isGuard,Code.isCaller,Code.frames,Code.isFrame,guardIds]
def qd{A:Around}{C:Addr}{us:List Value}{kw:List (Str×Value)}:(A.under (.builtin "type.__call__" ⟨.ref C::us,kw⟩)).units=A.units+1:=by
 first | rfl | simp[Around.under,Code.cUnits,Code.frames,Code.isFrame]
def Room.make{k:Nat}{A:Around}(r:Room (k+1) A)(C:Addr)(us:List Value)(kw:List (Str×Value)):Room k (A.under (.builtin "type.__call__" ⟨.ref C::us,kw⟩)):=
 ⟨r.hd,by have:=r.dp;rw[qc];lia,by have:=r.un;rw[qd];lia⟩
def Room.depth{k:Nat}{A:Around}(r:Room k A):A.depth < recursionLimit:=by have:=r.dp;lia
def Room.units{k:Nat}{A:Around}(r:Room k A):A.units+64 < cLine:=by have:=r.un;lia
def ZU:TA:=fun _ H Q=>Q [] H
def yH(ta:TE)(tr:TA):TA:=fun U H Q=>ta U H fun x H1=>tr U H1 fun xs H2=>Q (x::xs) H2
section
variable {X:Cx} {e:Expr} {es:List Expr} {te:TE} {t:TA} {pos:Pos}
def yz:PA X [] ZU:=fun _ _ _ _ H Q I h=>Calls.spliced_nil ⟨[],H,I,.nil,h⟩
def Jc(ha:PE X e te)(hr:PA X es t)(hs:starEach (e::es) X.env=(false,eval e X.env)::starEach es X.env:=by rfl):PA X (e::es) (yH te t):=by
 intro pos pins s U H Q I h;rw[hs];show wpAny _ _ (spliced ((false,eval e X.env)::backTo pos (starEach es X.env))) _ _ s;refine Calls.spliced_cons (jw (ha pins s U H _ I h) fun u s1 xx=>?_);obtain⟨x,H1,I1,r1,q1⟩:=xx;exact jw (hr pos pins s1 U H1 _ I1 q1) fun us s2 ⟨xs,H2,I2,r2,q2⟩=>⟨x::xs,H2,I2,.cons r1 r2,q2⟩
def fX(t:TA):TE:=fun U H Q=>t U H fun xs H1=>xs.length<=sizeLine/\∀p,H1 p=none->Q (.ref p) (upd H1 p (.tup xs))
def fY(t:TA):TE:=fun U H Q=>t U H fun xs H1=>xs.length<=sizeLine/\∀p,H1 p=none->Q (.ref p) (upd H1 p (.lst xs))
def Bi{x1}(h:PA X es t):PE X (.Tuple es x1 pos) (fX t):=by
 intro pins s U H Q I hq;refine wpAny_Tuple_spliced (jw (h pos pins s U H _ I hq) fun us s1 ⟨xs,H1,I1,r,z,q⟩=>⟨by rw[<-r.length];exact z,?_⟩);have hf:H1 s1.heap.objs.size=none:=I1.hok.fresh (wPa _);refine⟨.ref s1.heap.objs.size,upd H1 s1.heap.objs.size (.tup xs),I1.laid (t':=s1.toks) (fun b u e=>wIa _ e) (wPa _) ?_,rfl,q _ hf⟩;exact⟨z,us,r,⟨_,wJa _ rfl,rfl,_,rfl⟩⟩
def Bj(h:PA X es t):PE X (.List es pos) (fY t):=by
 intro pins s U H Q I hq;refine wpAny_List_spliced (jw (h pos pins s U H _ I hq) fun us s1 ⟨xs,H1,I1,r,z,q⟩=>⟨by rw[<-r.length];exact z,?_⟩);have hf:H1 s1.heap.objs.size=none:=I1.hok.fresh (wPa _);refine⟨.ref s1.heap.objs.size,upd H1 s1.heap.objs.size (.lst xs),I1.laid (t':=s1.toks) (fun b u e=>wIa _ e) (wPa _) ?_,rfl,q _ hf⟩;exact⟨z,us,0,r,wJa _ rfl⟩
end
noncomputable abbrev Sp:=List V->Hp->VK->XK->Prop
noncomputable abbrev uq:=List Env->Hp->Shared->XK->Value->Shared->Prop
structure Env0 (P:Program) (w:World) (K:uXa) (mg:Str->Option Value) (base:Heap) (A:Around) (outer:List Env) (s:Shared) (H:Hp):Prop where
 frames:A.frames=some outer
 mod:Mod K mg base
 bs:∀b o,base.get? b=some o->s.heap.get? b=some o/\H b=none
 bsz:base.objs.size<=s.heap.objs.size
 funs:s.heap.FunFrames base outer
 frf:∀b∈vG outer,H b=none
 hok:yw P w H s.heap
 bare:AllBare s.gens
def CE(outer:List Env)(P:Program)(w:World)(H:Hp)(s:Shared)(Q:VK)(u:Value)(s':Shared):Prop:=
 ∃v H',s'.os=s.os/\AllBare s'.gens/\Un (vG outer) [] H H' s.heap s'.heap/\yw P w H' s'.heap/\jB v u/\Q v H'
def CR(CX:uq)(outer:List Env)(P:Program)(w:World)(H:Hp)(s:Shared)(Q:VK)(E:XK)(r:Result)(s':Shared):Prop:=
 match r with
 | .ok (.ret u)=>CE outer P w H s Q u s'
 | .ok _=>False
 | .error e=>CX outer H s E e s'
structure FnOk (P:Program) (w:World) (K:uXa) (mg:Str->Option Value) (base:Heap) (CX:uq) (k:Nat) (f:Addr) (fd:FuncData) (ps:List Str) (sp:Sp):Prop where
 len:∀vs H Q E,sp vs H Q E->vs.length=ps.length
 run:∀(A:Around) (outer:List Env) (s:Shared) (H:Hp) (args:Args) (us:List Value) (vs:List V) (Q:VK) (E:XK),Room k A->Env0 P w K mg base A outer s H->BindsTo s fd args (ps.zip us)->jj vs us->sp vs H Q E->
  codeAny (model P w) A (.call (.ref f) args) (CR CX outer P w H s Q E) s
def FnOk.imp{P:Program}{w:World}{K:uXa}{mg:Str->Option Value}{base:Heap}{CX:uq}{k:Nat}{f:Addr}{fd:FuncData}{ps:List Str}{sp sp':Sp}(F:FnOk P w K mg base CX k f fd ps sp)
  (h:∀vs H Q E,sp' vs H Q E->sp vs H Q E):FnOk P w K mg base CX k f fd ps sp':=
 ⟨fun vs H Q E q=>F.len vs H Q E (h _ _ _ _ q),fun A outer s H args us vs Q E hr he hb hv hs=>F.run A outer s H args us vs Q E hr he hb hv (h _ _ _ _ hs)⟩
def Env0.make{P:Program}{w:World}{K:uXa}{mg:Str->Option Value}{base:Heap}{A:Around}{outer:List Env}{s:Shared}{H:Hp}(e:Env0 P w K mg base A outer s H)(C:Addr)(us:List Value)(kw:List (Str×Value)):
  Env0 P w K mg base (A.under (.builtin "type.__call__" ⟨.ref C::us,kw⟩)) outer s H:=⟨by first | exact e.frames | (simpa[Around.under,Code.envs,Code.isFrame,pushEnvs]using e.frames),e.mod,e.bs,e.bsz,e.funs,e.frf,e.hok,e.bare⟩
section
variable {X:Cx} {pins:List (Addr×Obj)} {U:St} {H:Hp} {s s':Shared}
def Inv.env0(I:Inv X pins U H s):Env0 X.prog X.w X.K X.mg X.base X.A X.stack s H:=
 ⟨I.ok.frames,I.ok.mod,I.bs,wSa I.ok.bsz I.sz,I.stack,I.stkFree,I.hok,I.bare⟩
def Inv.after{Q:VK}{u:Value}(I:Inv X pins U H s)(h:CE X.stack X.prog X.w H s Q u s'):EP X pins U Q u s':=by
 obtain⟨v,H',os,bare,un,hok,r,q⟩:=h;obtain⟨hh,g,d,t,os'⟩:=s';obtain rfl:os'=s.os:=os;exact⟨v,H',I.call (h':=hh) (g':=g) (d':=d) (t':=t) (ch:=[]) un hok bare (fun b z=>vDa z (by simp)),r,q⟩
end
def qe(sp:Sp)(dvs:List V)(E:XK)(t:TA):TE:=fun U H Q=>t U H fun vs H1=>sp (vs++dvs) H1 Q E
def XJ(C:Addr)(m:Str)(sp:Sp)(dvs:List V)(E:XK)(ta:TE)(t:TA):TE:=fun U H Q=>ta U H fun x H1=>∃a dx fs,x=.ref a/\H1 a=some (.ins C dx fs)/\fs.lookup m=none/\
 t U H1 fun vs H2=>sp (x::(vs++dvs)) H2 Q E
def XM(C:Addr)(sp:Sp)(dvs:List V)(E:XK)(t:TA):TE:=fun U H Q=>t U H fun vs H1=>∀x dx,H1 x=none->H1 dx=none->dx≠x->
 sp (.ref x::(vs++dvs)) (upd (upd H1 dx (.own x)) x (.ins C dx [])) (fun v H2=>v=.non/\Q (.ref x) H2) E
def YJ(K:uXa)(fd:FuncData)(ps:List Str)(ds:List Value):Prop:=
 ∀(s:Shared) (us:List Value),K.In s.heap->(us++ds).length=ps.length->BindsTo s fd ⟨us,[]⟩ (ps.zip (us++ds))
def YJ.all{K:uXa}{fd:FuncData}{ps:List Str}(h:∀us:List Value,us.length=ps.length->bindArgs fd ⟨us,[]⟩=pure (ps.zip us)):YJ K fd ps []:=fun s us _ hl=>by
 rw[uFa]at hl⊢;exact .of_eq (h us hl)
def Vl(CX:uq)(X:Cx)(E:XK):Prop:=∀(pins:List (Addr×Obj)) (U:St) (H:Hp) (s:Shared) (e:Value) (s':Shared),Inv X pins U H s->CX X.stack H s E e s'->X.xe e s'
section
variable {X:Cx} {CX:uq} {k:Nat} {f C:Addr} {fd:FuncData} {ps:List Str} {sp:Sp} {dvs:List V} {ds:List Value} {E:XK} {x m:Str} {p pos apos:Pos} {e o:Expr} {es:List Expr} {ta:TE} {t:TA}
theorem qZ{pins:List (Addr×Obj)}{U:St}{H:Hp}{s:Shared}{Q:VK}{us:List Value}{vs:List V}(F:FnOk X.prog X.w X.K X.mg X.base CX k f fd ps sp)(hr:Room k X.A)(hb:YJ X.K fd ps ds)(hd:jj dvs ds)(hx:Vl CX X E)
  (I:Inv X pins U H s) (r:jj vs us) (h:sp (vs++dvs) H Q E):wpAny (model X.prog X.w) X.A (call (.ref f) us) (EP X pins U Q) X.xe s:=by
 have r2:jj (vs++dvs) (us++ds):=r.append hd;have hl:(us++ds).length=ps.length:=by rw[<-r2.length];exact F.len _ _ _ _ h
 refine wpAny_call (codeAny_mono (F.run X.A X.stack s H ⟨us,[]⟩ (us++ds) (vs++dvs) Q E hr I.env0 (hb s us I.kIn hl) r2 h) fun r s' hq=>?_);cases r with
 | error e=>exact hx pins U H s e s' I hq
 | ok fl=>
  cases fl with
  | ret u=>exact I.after hq
  | next=>exact False.elim hq
  | brk=>exact False.elim hq
  | cont=>exact False.elim hq
def Ai(F:FnOk X.prog X.w X.K X.mg X.base CX k f fd ps sp)(hr:Room k X.A)(hg:Gl X x)(hm:X.mg x=some (.ref f))(hk:PySem.W.keepIn X.K (.ref f)=true)(hb:YJ X.K fd ps ds)(hd:jj dvs ds)(hx:Vl CX X E)
  (ha:PA X (e::es) t) (hdb:(x==("__debug__" : Str))=false:=by decide) (he:starEach (e::es) X.env=(false,eval e X.env)::starEach es X.env:=by rfl) (hpl:(backTo pos (starEach es X.env)).any (·.1)=false:=by rfl):
  PE X (.Call (.Name x p) (e::es) [] pos) (qe sp dvs E t):=by
 intro pins s U H Q I h;refine wpAny_Call_Name_kw (GS I hg hm ?_ hdb);refine PySem.W.callWith_K (h₀:=X.base) I.ok.mod.kin hk (jw (ha pos pins s U H _ I h) fun us s1 ⟨vs,H1,I1,r,q⟩=>⟨I1.kIn,?_⟩) he hpl;exact qZ F hr hb hd hx I1 r q
def xB{pl:Sem Bool}(he:PE X o ta)(c:Cls X.K C)(hm:Meth X.K C m f)(F:FnOk X.prog X.w X.K X.mg X.base CX k f fd ps sp)(hr:Room k X.A)(hb:YJ X.K fd ps ds)(hd:jj dvs ds)(hx:Vl CX X E)
  (ht:eval (.Call (.Attribute o m apos) [] [] pos) X.env=(do
   let ov<-eval o X.env
   standAt apos.atName
   let (f,first)<-holding [ov] (getMethod ov m pl)
   callWith pos f first (backTo pos (starEach [] X.env)) (backToKw pos (keywordEach [] X.env))):=by rfl):
  PE X (.Call (.Attribute o m apos) [] [] pos) (XJ C m sp dvs E ta ZU):=by
 intro pins s U H Q I h;refine PySem.W.methodCall_KW (pl:=pl) (jw (he pins s U H _ I h) fun u s1 xx=>?_) ht;obtain⟨x,H1,I1,rx,a,dx,fs,ex,ea,l,q⟩:=xx;subst ex;obtain rfl:u=Value.ref a:=rx;refine WZ I1 ea c hm l ?_;exact PySem.W.callWith_K0 (first:=[.ref a]) I1.kIn hm.kp (qZ (us:=[.ref a]) (vs:=[.ref a]) F hr hb hd hx I1 (.cons rfl .nil) q)
structure Mk (K:uXa) (C f:Addr):Prop where
 makes:PySem.W.makesIn K C=true
 init:PySem.W.findIn K (.ref C) "__init__" = some (some (.ref f))
 fn:PySem.W.isFn K (.ref f)=true
 kp:PySem.W.keepIn K (.ref C)=true
theorem xC{pins:List (Addr×Obj)}{U:St}{H:Hp}{s:Shared}{Q:VK}{us:List Value}{vs:List V}(M:Mk X.K C f)(F:FnOk X.prog X.w X.K X.mg X.base CX k f fd ps sp)(hr:Room (k+1) X.A)(hb:YJ X.K fd ps ds)(hd:jj dvs ds)
  (hx:Vl CX X E) (I:Inv X pins U H s) (r:jj vs us)
  (h:∀x dx,H x=none->H dx=none->dx≠x->sp (.ref x::(vs++dvs)) (upd (upd H dx (.own x)) x (.ins C dx [])) (fun v H2=>v=.non/\Q (.ref x) H2) E):
  wpAny (model X.prog X.w) X.A (call (.ref C) us) (EP X pins U Q) X.xe s:=by
 have hq:=h (s.heap.objs.size+1) s.heap.objs.size (I.hok.fresh (vMa _)) (I.hok.fresh (wPa _)) (wTa (Nat.lt_succ_self _));have I2:=Inv.made (C:=C) I;have r2:jj (V.ref (s.heap.objs.size+1)::(vs++dvs)) (Value.ref (s.heap.objs.size+1)::(us++ds)):=.cons rfl (r.append hd);have hl:(Value.ref (s.heap.objs.size+1)::us++ds).length=ps.length:=by
  have e:=r2.length;rw[F.len _ _ _ _ hq]at e;exact e.symm
 refine wpAny_call (xA (f:=f) I.kIn M.makes M.init (beq_iff_eq.mp M.fn) (codeAny_mono (F.run _ X.stack _ _ ⟨Value.ref (s.heap.objs.size+1)::us,[]⟩ (Value.ref (s.heap.objs.size+1)::(us++ds)) _ _ E (hr.make C us [])
  (I2.env0.make C us []) (hb _ (Value.ref (s.heap.objs.size+1)::us) I2.kIn hl) r2 hq) fun r s' hq'=>?_))
 cases r with
 | error e=>exact hx pins U _ _ e s' I2 hq'
 | ok fl=>
  cases fl with
  | ret u=>
   obtain⟨v,H',I3,rv,ev,q3⟩:=I2.after hq';subst ev;exact⟨rv,⟨V.ref (s.heap.objs.size+1),H',I3,rfl,q3⟩⟩
  | next=>exact False.elim hq'
  | brk=>exact False.elim hq'
  | cont=>exact False.elim hq'
def Aj(M:Mk X.K C f)(F:FnOk X.prog X.w X.K X.mg X.base CX k f fd ps sp)(hr:Room (k+1) X.A)(hg:Gl X x)(hm:X.mg x=some (.ref C))(hb:YJ X.K fd ps ds)(hd:jj dvs ds)(hx:Vl CX X E)
  (ha:PA X (e::es) t) (hdb:(x==("__debug__" : Str))=false:=by decide) (he:starEach (e::es) X.env=(false,eval e X.env)::starEach es X.env:=by rfl) (hpl:(backTo pos (starEach es X.env)).any (·.1)=false:=by rfl):
  PE X (.Call (.Name x p) (e::es) [] pos) (XM C sp dvs E t):=by
 intro pins s U H Q I h;refine wpAny_Call_Name_kw (GS I hg hm ?_ hdb);refine PySem.W.callWith_K (h₀:=X.base) I.ok.mod.kin M.kp (jw (ha pos pins s U H _ I h) fun us s1 ⟨vs,H1,I1,r,q⟩=>⟨I1.kIn,?_⟩) he hpl;exact xC M F hr hb hd hx I1 r q
end
structure FnScope (N P:List Str) (sc:Scope):Prop where
 kind:sc.kind=.function
 co:sc.isCoroutine=false
 gen:sc.isGenerator=false
 nd:N.Nodup
 pre:N.take P.length=P
 par:∀x∈P,sc.names.lookup x=some .local \/ sc.names.lookup x=some .cell
 nofree:∀y∈sc.names,y.2≠.free
theorem kK{kindOf:Str->Option NameKind}{x:Str}:∀{binds:List (Str×Value)} {m:Str->Option Value},(∀v,(x,v)∉binds)->bindL kindOf binds m x=m x
 | [],_,_=>rfl
 | (n,v)::r,m,h=>by
  unfold bindL;rw[kK fun w hw=>h w (List.mem_cons_of_mem _ hw)];split
  ·have:x≠n:=by rintro rfl;exact h v wNa
   simp[this]
  ·rfl
theorem kL{kindOf:Str->Option NameKind}{x:Str}:∀{binds:List (Str×Value)} {m:Str->Option Value},(∀v,(x,v)∉binds)->bindC kindOf binds m x=m x
 | [],_,_=>rfl
 | (n,v)::r,m,h=>by
  unfold bindC;rw[kL fun w hw=>h w (List.mem_cons_of_mem _ hw)];split
  ·rfl
  ·have:x≠n:=by rintro rfl;exact h v wNa
   simp[this]
theorem kM{kindOf:Str->Option NameKind}{x:Str}{v:Value}:∀{P:List Str} {vs:List Value} {i:Nat} {m:Str->Option Value},P.Nodup->P[i]?=some x->vs[i]?=some v->kindOf x=some .local->
  bindL kindOf (P.zip vs) m x=some v
 | [],_,_,_,_,h,_,_=>by simp at h
 | _::_,[],_,_,_,_,h,_=>by simp at h
 | p::P,w::vs,0,m,nd,h1,h2,hk=>by
  simp at h1 h2;subst h1;subst h2;show bindL kindOf ((p,w)::P.zip vs) m p=_;unfold bindL;rw[kK fun v hv=>(List.nodup_cons.mp nd).1 (List.of_mem_zip hv).1,if_pos hk];simp
 | p::P,w::vs,i+1,m,nd,h1,h2,hk=>by
  show bindL kindOf ((p,w)::P.zip vs) m x=_;unfold bindL;exact kM (i:=i) (List.nodup_cons.mp nd).2 (by simpa using h1) (by simpa using h2) hk
theorem kN{kindOf:Str->Option NameKind}{x:Str}{v:Value}:∀{P:List Str} {vs:List Value} {i:Nat} {m:Str->Option Value},P.Nodup->P[i]?=some x->vs[i]?=some v->kindOf x≠some .local->
  bindC kindOf (P.zip vs) m x=some v
 | [],_,_,_,_,h,_,_=>by simp at h
 | _::_,[],_,_,_,_,h,_=>by simp at h
 | p::P,w::vs,0,m,nd,h1,h2,hk=>by
  simp at h1 h2;subst h1;subst h2;show bindC kindOf ((p,w)::P.zip vs) m p=_;unfold bindC;rw[kL fun v hv=>(List.nodup_cons.mp nd).1 (List.of_mem_zip hv).1,if_neg hk];simp
 | p::P,w::vs,i+1,m,nd,h1,h2,hk=>by
  show bindC kindOf ((p,w)::P.zip vs) m x=_;unfold bindC;exact kN (i:=i) (List.nodup_cons.mp nd).2 (by simpa using h1) (by simpa using h2) hk
noncomputable def Yw(N:List Str)(vs:List V):St:=vs.map some++List.replicate (N.length - vs.length) none
noncomputable def Zc(CX:uq)(P:Program)(w:World)(K:uXa)(mg:Str->Option Value)(base:Heap)(N:List Str)(qual:Str)(scope:Scope)(f:Addr)(cd:Value)(A:Around)(outer:List Env)(s:Shared)(H:Hp)(E:XK):Cx where
 prog:=P
 w:=w
 K:=K
 mg:=mg
 base:=base
 A:=A.deeper (envOfC qual scope s.heap.objs.size f cd)
 N:=N
 s₀:=s
 H₀:=H
 env:=envOfC qual scope s.heap.objs.size f cd
 outer:=outer
 stack:=envOfC qual scope s.heap.objs.size f cd::outer
 ex:=[]
 calm:=true
 fn:=fun _=>true
 pn:=[]
 xe:=fun e s'=>wpAny (model P w) (A.deeper (envOfC qual scope s.heap.objs.size f cd)) (leaving (envOfC qual scope s.heap.objs.size f cd) e) (fun _ s''=>CX outer H s E e s'') (fun e' s''=>CX outer H s E e' s'') s'
def KB{sc:Scope}{n:Nat}{x:Str}(h:sc.names.lookup x=some .cell):∃c,(cellsFrom n sc.names []).lookup x=some c:=by
 have q:=PySem.W.cellsFrom_some sc.names n [] (.inl h);exact Option.isSome_iff_exists.mp q
def q_{CX:uq}{P:Program}{w:World}{K:uXa}{mg:Str->Option Value}{base:Heap}{N ps:List Str}{qual:Str}{scope:Scope}{f:Addr}{cd:Value}{A:Around}{outer:List Env}{s s1:Shared}{H:Hp}{E:XK}{us:List Value}{vs:List V}
  (S:FnScope N ps scope) (hd:A.handled=none) (e0:Env0 P w K mg base A outer s H) (hl:vs.length=ps.length) (r:jj vs us)
  (x:InCallC s s.heap.objs.size (bindL (envOfC qual scope s.heap.objs.size f cd).kindOf (ps.zip us) fun _=>none) (cellsFrom (s.heap.objs.size+1) scope.names []) (bindC (envOfC qual scope s.heap.objs.size f cd).kindOf (ps.zip us) fun _=>none) s1):
  Inv (Zc CX P w K mg base N qual scope f cd A outer s H E) [] (Yw N vs) H s1:=by
 have hpl:ps.length<=N.length:=by have:=congrArg List.length S.pre;rw[uOa]at this;lia
 obtain⟨h1,tk,rfl,hk⟩:=x.done;have noA:∀b:Addr,b∉(Zc CX P w K mg base N qual scope f cd A outer s H E).ex:=fun b z=>vDa (show b∈([]:List Addr) from z) (by simp);refine⟨⟨e0.mod,S.kind,rfl,rfl,wPa _,fun y z c h1 h2=>?_,fun y hy=>?_,fun y c _ h=>?_,fun _=>hd,Around.frames_deeper e0.frames,.inr ⟨rfl,rfl⟩,fun b z=>vDa z (noA b),e0.bs,e0.bsz,fun b _ _=>noA b,fun b z=>vDa z (noA b),e0.funs,e0.frf⟩,
  rfl,e0.bare,Un.kept hk,⟨_,x.toInCall.ns,fun i y v h1 h2 h3=>?_⟩,fun y c h=>⟨_,x.cell y c h⟩,e0.hok.fresh (wPa _),fun y c h=>?_,fun p hp=>vDa (show p∈([]:List (Addr×Obj)) from hp) (by simp),e0.hok.kept hk,?_⟩
 ·exact name_of_addr x.apart (PySem.mem_of_lookup h1) (PySem.mem_of_lookup h2)
 ·have hy:scope.names.lookup y=some .cell \/ scope.names.lookup y=some .free:=hy;rcases hy with hy | hy
  ·exact KB hy
  ·exact vDa rfl (S.nofree _ (PySem.mem_of_lookup hy))
 ·exact wQa (x.above y c (PySem.mem_of_lookup h))
 ·have hi:i < vs.length:=by
   unfold Yw at h2;by_cases hi:i < vs.length
   ·exact hi
   ·rw[List.getElem?_append_right (by simpa using hi)]at h2;rw[List.getElem?_replicate]at h2;split at h2 <;> cases h2
  have ha:vs[i]?=some v:=by
   unfold Yw at h2;rw[uRa (by simpa using hi),uAa]at h2;cases e:vs[i]? with
   | none=>rw[e]at h2;cases h2
   | some a=>rw[e]at h2;cases h2;rfl
  obtain⟨u,hu,rv⟩:=r.get ha;have hp:ps[i]?=some y:=by
   rw[<-S.pre,List.getElem?_take_of_lt (by lia)];exact h1
  have ndP:ps.Nodup:=by rw[<-S.pre];exact S.nd.sublist (List.take_sublist _ _)
  refine⟨u,rv,?_⟩;rcases S.par y (wYa hp)with k | k
  ·exact .inl ⟨k,kM ndP hp hu k⟩
  ·obtain⟨c,e⟩:=KB (n:=s.heap.objs.size+1) k;refine .inr ⟨.inl k,c,e,?_⟩;have q:=x.cell y c e;rw[kN ndP hp hu (by show scope.names.lookup y≠_;rw[k];decide)]at q;exact q
 ·exact e0.hok.fresh (wQa (x.above y c (PySem.mem_of_lookup h)))
 ·unfold Yw;show _=N.length;rw[vZa,vYa,List.length_replicate]
  lia
theorem Dw{CX:uq}{P:Program}{w:World}{K:uXa}{mg:Str->Option Value}{base:Heap}{k:Nat}{f:Addr}{name qual:Str}{params:Arguments}{body:List Stmt}{scope:Scope}{dV kV doc pm cdv ct oc:Value}{an od:Option Addr}
  {osl:Array (Option Value)} {N ps:List Str} {sp:Sp} (lk:K.lookup f=some ⟨oc,od,.func (PySem.W.fnOf name qual params body scope dV kV doc pm an cdv ct),osl⟩) (hcd:PySem.W.codeIn K cdv qual=true) (S:FnScope N ps scope)
  (len:∀vs H Q E,sp vs H Q E->vs.length=ps.length)
  (hbody:∀(A:Around) (outer:List Env) (s:Shared) (H:Hp) (vs:List V) (Q:VK) (E:XK),Room k (A.deeper (envOfC qual scope s.heap.objs.size f cdv))->sp vs H Q E->
   ∃t,Jn (Zc CX P w K mg base N qual scope f cdv A outer s H E) body t/\t { nx:=fun _ H'=>Q .non H',rt:=Q } (Yw N vs) H):
  FnOk P w K mg base CX (k+1) f (PySem.W.fnOf name qual params body scope dV kV doc pm an cdv ct) ps sp:=by
 refine⟨len,fun A outer s H args us vs Q E hr e0 hb r hsp=>?_⟩;have hl:=len _ _ _ _ hsp;have KX:K.In s.heap:=e0.mod.kin.keeps fun b o e=>(e0.bs b o e).1;have lim:s.heap.NoLimit:=e0.mod.nolimit.keeps fun b o e=>(e0.bs b o e).1;have hkind:∀y∈ps.zip us,scope.names.lookup y.1=some .local \/ (scope.names.lookup y.1=some .cell/\((cellsFrom (s.heap.objs.size+1) scope.names []).lookup y.1).isSome=true):=fun⟨n,v⟩ hy=>by
  rcases S.par n (List.of_mem_zip hy).1 with q | q
  ·exact .inl q
  ·exact .inr ⟨q,PySem.W.cellsFrom_some _ _ _ (.inl q)⟩
 refine codeAny_call_function hr.depth (KX _ _ lk) rfl S.co S.gen rfl (PySem.W.codeRec_of KX hcd) (hb _ _ _ _ ?_);refine wpAny_newFunctionEnv_cells S.kind hkind fun env he s1 x=>?_;subst he;refine⟨lim.keeps x.toInCall.keep,codeAny_func ?_⟩;obtain⟨t,ht,hq⟩:=hbody A outer s H vs Q E (hr.deeper _) hsp;have I:Inv (Zc CX P w K mg base N qual scope f cdv A outer s H E) [] (Yw N vs) H s1:=q_ S hr.hd e0 hl r x;refine wCa (ht [] s1 (Yw N vs) H _ I hq) (fun fl s' hs=>?_) fun e s' hs=>hs;have fin:∀{U':St} {H':Hp} {v:V} {u:Value},Inv (Zc CX P w K mg base N qual scope f cdv A outer s H E) [] U' H' s'->jB v u->Q v H'->CE outer P w H s Q u s':=
  fun {U' H' v u} J rv q=>⟨v,H',J.os,J.bare,J.base,J.hok,rv,q⟩
 cases fl with
 | ret u=>
  obtain⟨v,U',H',J,rv,q⟩:=hs;exact fin J rv q
 | next=>
  obtain⟨U',H',J,q⟩:=hs;exact fin (v:=V.non) (u:=Value.none) J rfl q
 | brk=>
  obtain⟨_,_,_,q⟩:=hs;exact False.elim q
 | cont=>
  obtain⟨_,_,_,q⟩:=hs;exact False.elim q
section
variable {X:Cx} {x:Str} {p pos:Pos} {e:Expr} {es:List Expr} {t:TA} {id T:String} {r:List V->Hp->VK->Prop}
def Q0(r:List V->Hp->VK->Prop)(t:TA):TE:=fun U H Q=>t U H fun vs H1=>r vs H1 Q
def Y6(hc:yZ X (.builtin id) r)(hg:Gl X x)(hm:X.mg x=none)(hv:bootBuiltins x=some (.builtin id))(ha:PA X (e::es) t)(hn:x≠ "__name__" := by decide)(hdb:(x==("__debug__" : Str))=false:=by decide)
  (he:starEach (e::es) X.env=(false,eval e X.env)::starEach es X.env:=by rfl) (hpl:(backTo pos (starEach es X.env)).any (·.1)=false:=by rfl):PE X (.Call (.Name x p) (e::es) [] pos) (Q0 r t):=by
 intro pins s U H Q I h;refine wpAny_Call_Name_kw (ZT I hg hm hv ?_ hn hdb);exact PyProof.Rows.callWith_builtin1 (jw (ha pos pins s U H _ I h) fun us s1 ⟨vs,H1,I1,r1,q1⟩=>hc pins s1 U H1 vs us Q I1 r1 q1) he hpl
def vH(hc:yZ X (.type T) r)(hg:Gl X x)(hm:X.mg x=none)(hv:bootBuiltins x=some (.type T))(ha:PA X (e::es) t)(hn:x≠ "__name__" := by decide)(hdb:(x==("__debug__" : Str))=false:=by decide)
  (he:starEach (e::es) X.env=(false,eval e X.env)::starEach es X.env:=by rfl) (hpl:(backTo pos (starEach es X.env)).any (·.1)=false:=by rfl):PE X (.Call (.Name x p) (e::es) [] pos) (Q0 r t):=by
 intro pins s U H Q I h;refine wpAny_Call_Name_kw (ZT I hg hm hv ?_ hn hdb);exact PyProof.Rows.callWith_type1 (jw (ha pos pins s U H _ I h) fun us s1 ⟨vs,H1,I1,r1,q1⟩=>hc pins s1 U H1 vs us Q I1 r1 q1) he hpl
end
end L2
namespace HT
open PySem PyProof.Rows
section
open PySem.SeqAt
open PySem.AutoSeq1 (wpAny_loadPart')
open PySem.MeetsSeq PySem.MeetsSeq2 PySem.MeetsSeq3
end
section
variable {prog:Program} {w:World} {A:Around} {E:Value->Shared->Prop} {s:Shared}
def cat_tup{t b:Addr}{vs ws:List Value}{Q:Value->Shared->Prop}(ht:IsTup s.heap t vs.toArray)(hb:IsTup s.heap b ws.toArray)(hv:vs≠[])
  (h1:ws=[]->Q (.ref t) s) (h2:ws≠[]->Q (.ref s.heap.objs.size) { s with heap:=s.heap.push { cls:=.type "tuple",data:=.seq (vs++ws).toArray } })
  (hsz:vs.length+ws.length<=sizeLine):wpAny (model prog w) A (binaryOp .Add (.ref t) (.ref b)) Q E s:=by
 obtain⟨⟨cls,dd,data,sl⟩,ho,hc,n,hd⟩:=id ht;obtain⟨⟨cls2,dd2,data2,sl2⟩,ho2,hc2,n2,hd2⟩:=id hb;simp only at hc hd hc2 hd2;subst hc hd hc2 hd2;have e:vs.toArray++ws.toArray=(vs++ws).toArray:=by simp
 by_cases hw:ws=[]
 ·exact concat_meets ⟨_,ho,rfl⟩ ⟨_,ho2,rfl⟩ noFill_tuple_add seq_tuple_add PySem.F.slot_tuple_add PySem.F.entry_tuple_add (PySem.F.args_tuple_add_2 _ _)
   (tuple_addW1 t b vs.toArray ws.toArray n n2 dd dd2 sl sl2 (by simpa using hv) (by simp[hw])) ⟨ho,ho2,h1 hw⟩
 ·refine concat_meets ⟨_,ho,rfl⟩ ⟨_,ho2,rfl⟩ noFill_tuple_add seq_tuple_add PySem.F.slot_tuple_add PySem.F.entry_tuple_add (PySem.F.args_tuple_add_2 _ _)
   (tuple_addW2 t b vs.toArray ws.toArray n n2 dd dd2 sl sl2 (by simpa using hv) (by simpa using hw) (by rw[List.size_toArray,List.size_toArray];exact hsz)) ⟨ho,ho2,?_⟩
  rw[e];exact h2 hw
noncomputable def sIx(n d:Nat):Option Int->Nat
 | none=>d
 | some v=>if v < 0 then(v+(n:Int)).toNat else min v.toNat n
def sIx_nat(n d k:Nat):sIx n d (some (k:Int))=min k n:=by
 show(if (k:Int) < 0 then((k:Int)+(n:Int)).toNat else min (k:Int).toNat n)=min k n;rw[if_neg (by lia),Int.toNat_natCast]
def sIx_le(n d:Nat)(hd:d<=n)(o:Option Int):sIx n d o<=n:=by
 cases o with
 | none=>exact hd
 | some v=>
  show(if v < 0 then(v+(n:Int)).toNat else min v.toNat n)<=n;by_cases hv:v < 0
  ·rw[if_pos hv];lia
  ·rw[if_neg hv];exact Nat.min_le_right _ _
def clip_eq(v:Int)(n d:Nat):(if v < 0 then max (v+(n:Int)) 0 else min v (n:Int))=((sIx n d (some v):Nat):Int):=by
 show(if v < 0 then max (v+(n:Int)) 0 else min v (n:Int))=(((if v < 0 then(v+(n:Int)).toNat else min v.toNat n):Nat):Int)
 by_cases hv:v < 0
 ·simp only[if_pos hv];lia
 ·simp only[if_neg hv];lia
def adjust_gen(lo hi:Option Int)(n:Nat):Builtin.Slice.sliceAdjust lo hi 1 (n:Int)=(((sIx n 0 lo:Nat):Int),((sIx n n hi:Nat):Int)):=by
 have h1:¬((1:Int) < 0):=by lia
 unfold Builtin.Slice.sliceAdjust;simp only[h1,if_false];refine Prod.ext ?_ ?_
 ·cases lo with
  | none=>rfl
  | some v=>exact clip_eq v n 0
 ·cases hi with
  | none=>rfl
  | some v=>exact clip_eq v n n
def places_gen(i j:Nat):Builtin.Slice.slicePlaces (i:Int) (j:Int) 1=j - i:=by
 unfold Builtin.Slice.slicePlaces;have h1:(1:Int) > 0:=by lia
 simp only[h1,if_true,Int.ediv_one];split <;> lia
def slicePart_{v:Value}{o:Option Int}{Q:Option Int->Shared->Prop}(p:IsPart v o)(h:Q o s):wpAny (model prog w) A (Builtin.Slice.slicePartIndex v) Q E s:=by
 cases p with
 | none=>exact slicePart_none h
 | int i t=>exact slicePart_int h
def sliceApplied_gen{sl:Addr}{vl vu:Value}{lo hi:Option Int}{n:Nat}{Q:Int×Int×Nat->Shared->Prop}(hs:s.heap.IsSliceOf sl vl vu .none)(pl:IsPart vl lo)(pu:IsPart vu hi)
  (h:Q (((sIx n 0 lo:Nat):Int),1,sIx n n hi - sIx n 0 lo) s):wpAny (model prog w) A (Builtin.Slice.sliceApplied (.ref sl) (pure (n:Int))) Q E s:=by
 obtain⟨os,hos,hcs,hds⟩:=id hs;unfold Builtin.Slice.sliceApplied Builtin.Slice.sliceFields;refine wAa (wAa (wpAny_field hos hds (x:=vl) rfl (wAa (wpAny_field hos hds (x:=vu) rfl (wAa (wpAny_field hos hds (x:=.none) rfl (wBa ?_)))))));refine wAa (slicePart_none ?_);show wpAny _ _ (if ((1:Int)==0)=true then _ else _) _ _ s;rw[if_neg (by decide)];refine wAa (slicePart_ pl (wAa (slicePart_ pu (wAa (wBa ?_)))));show wpAny _ _ (match Builtin.Slice.sliceAdjust lo hi 1 (n:Int)with | (lo,hi)=>pure (lo,(1:Int),Builtin.Slice.slicePlaces lo hi 1)) _ _ s;rw[adjust_gen lo hi n];show wpAny _ _ (pure (((sIx n 0 lo:Nat):Int),(1:Int),Builtin.Slice.slicePlaces ((sIx n 0 lo:Nat):Int) ((sIx n n hi:Nat):Int) 1)) _ _ s;rw[places_gen];exact wBa h
def pick_gen(xs:Array Value)(i k:Nat):((List.range k).filterMap fun(m:Nat)=>xs[((i:Int)+(m:Int) * 1).toNat]?).toArray=((xs.toList.drop i).take k).toArray:=by
 have e:(fun(m:Nat)=>xs[((i:Int)+(m:Int) * 1).toNat]?)=fun m=>xs[i+m]?:=by
  funext m;have:((i:Int)+(m:Int) * 1).toNat=i+m:=by lia
  rw[this]
 rw[e];have:=pick_run xs i k;rw[List.filterMap_map]at this;have e2:((fun x=>xs[x]?)∘fun x=>i+x)=fun m=>xs[i+m]?:=rfl;rw[e2]at this;rw[this]
def getItem_tuple_cut{t sl:Addr}{items:Array Value}{vl vu:Value}{lo hi:Option Int}{Q:Value->Shared->Prop}(ht:IsTup s.heap t items)(hs:s.heap.IsSliceOf sl vl vu .none)(pl:IsPart vl lo)(pu:IsPart vu hi)
  (hw:¬(sIx items.size 0 lo=0/\sIx items.size items.size hi=items.size))
  (h:Q (.ref s.heap.objs.size) { s with heap:=s.heap.push { cls:=.type "tuple",data:=.seq ((items.toList.drop (sIx items.size 0 lo)).take (sIx items.size items.size hi - sIx items.size 0 lo)).toArray } })
  (hsz:items.size<=sizeLine):wpAny (model prog w) A (getItem (.ref t) (.ref sl)) Q E s:=by
 have htake:sizeOk (.seq ((items.toList.drop (sIx items.size 0 lo)).take (sIx items.size items.size hi - sIx items.size 0 lo)).toArray):=by
  show((items.toList.drop (sIx items.size 0 lo)).take (sIx items.size items.size hi - sIx items.size 0 lo)).toArray.size<=sizeLine;rw[uLa,uOa,uNa,Array.length_toList]
  lia
 have hj:sIx items.size items.size hi<=items.size:=sIx_le _ _ (wPa _) hi;obtain⟨os,hos,hcs,hds⟩:=id hs;have hTs:s.TypeIs (.ref sl) "slice" := ⟨os,hos,hcs⟩
 unfold getItem
 try with_reducible refine wDa ?_
 first | refine wAa (wBa ?_) | skip
 refine wAa (wpAny_sequenceKey ht.typeIs (by decide) ?_);refine wAa (wpAny_callSpecial?_slot (name:=Str.ofString "__getitem__") ht.typeIs PyProof.Rows.slot_tuple_getitem
  (wpAny_call_entry PyProof.Rows.slot_tuple_getitem ht.typeIs entry_tuple_getitem ?_ (args_tuple_getitem _ _)))
 show wpAny _ _ (Builtin.Tuple.tupleItemsOf (.ref t) >>= _) _ _ s;refine wAa (tupleItemsOf_ ht ?_);refine wAa (wpAny_typeOf hTs ?_);rw[if_pos (by decide)];refine wAa (sliceApplied_gen hs pl pu ?_);have hno:¬((((sIx items.size 0 lo:Nat):Int)==0&&(1:Int)==1&&(sIx items.size items.size hi - sIx items.size 0 lo)==items.size)=true):=by
  intro q;rw[Bool.and_eq_true,Bool.and_eq_true]at q;have q1:((sIx items.size 0 lo:Nat):Int)=0:=vLa q.1.1;have q2:sIx items.size items.size hi - sIx items.size 0 lo=items.size:=vLa q.2;exact hw ⟨by lia,by lia⟩
 show wpAny _ _ (if (((sIx items.size 0 lo:Nat):Int)==0&&(1:Int)==1&&(sIx items.size items.size hi - sIx items.size 0 lo)==items.size)=true then _ else _) _ _ s;rw[if_neg hno,pick_gen]
 first
  | exact wAa (m:=Builtin.Tuple.tupleExact _) (vTa (wBa ⟨_,rfl,wBa h⟩) htake)
  | exact wAa (m:=Builtin.Tuple.tupleExact _) (vTa (wAa (wBa (wBa ⟨_,rfl,wBa h⟩))) htake)
  | exact wAa (wAa (m:=Builtin.Tuple.tupleExact _) (vTa (wBa (wBa ⟨_,rfl,wBa h⟩)) htake))
  | exact wAa (wAa (m:=Builtin.Tuple.tupleExact _) (vTa (wBa ⟨_,rfl,wBa h⟩) htake))
end
end HT
namespace L2
open PySem PySem.Spec PyProof.Rows
noncomputable abbrev TO:=St->Hp->(Option Int->Hp->Prop)->Prop
def PO(X:Cx)(e:Option Expr)(t:TO):Prop:=
 ∀(pins:List (Addr×Obj)) (s:Shared) (U:St) (H:Hp) (Q:Option Int->Hp->Prop),Inv X pins U H s->t U H Q->
  wpAny (model X.prog X.w) X.A (evalPart e X.env) (fun u s'=>∃o H',Inv X pins U H' s'/\IsPart u o/\Q o H') X.xe s
noncomputable def Ak:TO:=fun _ H Q=>Q none H
noncomputable def Dx(t:TE):TO:=fun U H Q=>t U H fun x H1=>∃i,x=.int i/\Q (some i) H1
section
variable {X:Cx} {e:Expr} {te:TE} {lo hi:Option Expr} {tl th:TO} {pos p2:Pos}
def Am:PO X none Ak:=by
 intro pins s U H Q I h;rw[evalPart_none];exact wBa ⟨none,H,I,.none,h⟩
def An(h:PE X e te):PO X (some e) (Dx te):=by
 intro pins s U H Q I hw;rw[evalPart_some];refine jw (h pins s U H _ I hw) fun u s1 xx=>?_;obtain⟨x,H1,I1,r1,q1⟩:=xx;obtain⟨i,rfl,q⟩:=q1;obtain⟨t,rfl⟩:=r1;exact⟨some i,H1,I1,.int i t,q⟩
def Bl(X:Cx)(r:V->Option Int->Option Int->Hp->VK->Prop):Prop:=
 ∀(pins:List (Addr×Obj)) (s:Shared) (U:St) (H:Hp) (x:V) (v vl vu:Value) (lo hi:Option Int) (sl:Addr) (Q:VK),Inv X pins U H s->jB x v->s.heap.IsSliceOf sl vl vu .none->IsPart vl lo->IsPart vu hi->r x lo hi H Q->
  ∃T id,typeLookup (.type T) "__getitem__" = pure (some (.builtin id))/\s.TypeIs v T/\wpAny (model X.prog X.w) X.A (getItem v (.ref sl)) (EP X pins U Q) X.xe s
def hZ(r:V->Option Int->Option Int->Hp->VK->Prop)(te:TE)(tl th:TO):TE:=fun U H Q=>te U H fun x H1=>tl U H1 fun l H2=>th U H2 fun u H3=>r x l u H3 Q
def KC{r:V->Option Int->Option Int->Hp->VK->Prop}(hr:Bl X r)(he:PE X e te)(hl:PO X lo tl)(hu:PO X hi th):PE X (.Subscript e (.Slice lo hi none p2) pos) (hZ r te tl th):=by
 intro pins s U H Q I h;refine Subscript_ (jw (he pins s U H _ I h) fun v s1 xx=>?_);obtain⟨x,H1,I1,r1,q1⟩:=xx;refine wpAny_Slice (jw (hl pins s1 U H1 _ I1 q1) fun vl s2 ⟨l,H2,I2,pl,q2⟩=>jw (hu pins s2 U H2 _ I2 q2) fun vu s3 xx=>?_);obtain⟨u,H3,I3,pu,q3⟩:=xx;rw[evalPart_none];refine wBa ?_;have I4:Inv X pins U H3 { s3 with heap:=s3.heap.push { cls:=.type "slice",data:=.fields #[vl,vu,.none] } }:=I3.kept (t':=s3.toks) fun b ob q=>wIa _ q;obtain⟨T,id,hT,ht,hg⟩:=hr pins { s3 with heap:=s3.heap.push { cls:=.type "slice",data:=.fields #[vl,vu,.none] } } U H3 x v vl vu l u s3.heap.objs.size Q I4 r1 (Heap.IsSliceOf.new ..) pl pu q3;show wpAny (model X.prog X.w) X.A (subscriptTail e (.Slice lo hi none p2) v (.ref s3.heap.objs.size)) (EP X pins U Q) X.xe { s3 with heap:=s3.heap.push { cls:=.type "slice",data:=.fields #[vl,vu,.none] } };exact tail_any (ops:=[.ref s3.heap.objs.size,v]) ht hT hg (by with_unfolding_all rfl)
def ur(xs:List V)(lo hi:Option Int):List V:=(xs.drop (HT.sIx xs.length 0 lo)).take (HT.sIx xs.length xs.length hi - HT.sIx xs.length 0 lo)
def UY(xs:List V)(lo hi:Option Int):(ur xs lo hi).length<=xs.length:=by
 unfold ur;rw[uOa,uNa]
 lia
def fZ(K:uXa):V->Option Int->Option Int->Hp->VK->Prop:=fun x lo hi H Q=>∃a xs,x=.ref a/\Jq K H a xs/\
 ¬(HT.sIx xs.length 0 lo=0/\HT.sIx xs.length xs.length hi=xs.length)/\∀p,H p=none->Q (.ref p) (upd H p (.tup (ur xs lo hi)))
def Bm:Bl X (fZ X.K):=by
 intro pins s U H x v vl vu lo hi sl Q I rx hs pl pu h;obtain⟨a,xs,rfl,hx,hw,q⟩:=h;cases rx;obtain⟨its,r,ht,hz⟩:=I.tuple hx;have hlen:its.toArray.size=xs.length:=by rw[uLa];exact r.length.symm
 refine⟨"tuple",_,PyProof.Rows.slot_tuple_getitem.lookup,ht.typeIs,?_⟩;refine HT.getItem_tuple_cut ht hs pl pu (by rw[hlen];exact hw) ?_ (by rw[hlen];exact hz);rw[hlen];refine⟨.ref s.heap.objs.size,_,I.laid (t':=s.toks) (o:=.tup (ur xs lo hi)) (fun b ob q=>wIa _ q) (wPa _) ?_,rfl,q _ (I.hok.fresh (wPa _))⟩;exact⟨wSa (UY xs lo hi) hz,_,(r.drop (HT.sIx xs.length 0 lo)).take (HT.sIx xs.length xs.length hi - HT.sIx xs.length 0 lo),IsTup.new _ _⟩
def qf(K:uXa):R2:=fun x y H Q=>∃a b xs ys,x=.ref a/\y=.ref b/\Jq K H a xs/\Jq K H b ys/\xs≠[]/\xs.length+ys.length<=sizeLine/\
 (ys=[]->Q (.ref a) H)/\(ys≠[]->∀p,H p=none->Q (.ref p) (upd H p (.tup (xs++ys))))
def jj.nil_iff{xs:List V}{us:List Value}(r:jj xs us):us=[]↔xs=[]:=by
 cases r with
 | nil=>simp
 | cons _ _=>simp
def Ao:J0 X (binaryOp .Add) (qf X.K):=by
 intro pins s U H x y v u Q I rx ry h;obtain⟨a,b,xs,ys,rfl,rfl,ha,hb,hx,hz,q1,q2⟩:=h;cases rx;cases ry;obtain⟨its,r1,p1,_⟩:=I.tuple ha;obtain⟨its2,r2,p2,_⟩:=I.tuple hb;refine HT.cat_tup p1 p2 (fun z=>hx (r1.nil_iff.mp z)) (fun z=>⟨.ref a,H,I,rfl,q1 (r2.nil_iff.mp z)⟩) (fun z=>?_) (by rw[<-r1.length,<-r2.length];exact hz);refine⟨.ref s.heap.objs.size,_,I.laid (t':=s.toks) (o:=.tup (xs++ys)) (fun b ob q=>wIa _ q) (wPa _) ?_,rfl,q2 (fun w=>z (r2.nil_iff.mpr w)) _ (I.hok.fresh (wPa _))⟩;exact⟨by rw[vZa];exact hz,_,r1.append r2,IsTup.new _ _⟩
end
noncomputable def Yp(n:Nat)(i:Int):Option Nat:=if 0<=i then(if i < n then some i.toNat else none)else if -(n:Int)<=i then some (i+n).toNat else none
def atI{α:Type}(xs:List α)(i:Int):Option α:=(Yp xs.length i).bind fun j=>xs[j]?
def Wo{n:Nat}{i:Int}{j:Nat}(h:Yp n i=some j):seqIndex? i n=some j/\j < n/\-(n:Int)<=i/\i < n:=by
 unfold Yp at h;by_cases h0:0<=i
 ·rw[if_pos h0]at h;by_cases h1:i < n
  ·rw[if_pos h1]at h;have e:i.toNat=j:=vFa h;exact⟨by rw[seqIndex_of h0 h1,e],by lia,by lia,h1⟩
  ·rw[if_neg h1]at h;cases h
 ·rw[if_neg h0]at h;by_cases h1:-(n:Int)<=i
  ·rw[if_pos h1]at h;have e:(i+n).toNat=j:=vFa h;exact⟨by rw[seqIndex_neg (by lia) h1,e],by lia,h1,by lia⟩
  ·rw[if_neg h1]at h;cases h
def GT{α:Type}{xs:List α}{i:Int}{v:α}(h:atI xs i=some v):∃j,seqIndex? i xs.length=some j/\xs[j]?=some v/\j < xs.length/\-(xs.length:Int)<=i/\i < xs.length:=by
 unfold atI at h;cases e:Yp xs.length i with
 | none=>rw[e]at h;cases h
 | some j=>
  rw[e]at h;obtain⟨h1,h2,h3,h4⟩:=Wo e;exact⟨j,h1,h,h2,h3,h4⟩
def GU(b:Expr):Prop:=∀o i,subscripted b false o i=operate [o,i] (getItem o i)
def ut(X:Cx)(r:R2):Prop:=
 ∀(value slice:Expr) (pins:List (Addr×Obj)) (s:Shared) (U:St) (H:Hp) (x y:V) (v u:Value) (Q:VK),Inv X pins U H s->jB x v->jB y u->r x y H Q->
  subscripted slice false v u=operate [v,u] (getItem v u)->wpAny (model X.prog X.w) X.A (subscriptTail value slice v u) (EP X pins U Q) X.xe s
def EE(X:Cx)(id:String)(r:V->List V->Hp->VK->Prop):Prop:=
 ∀(pins:List (Addr×Obj)) (s:Shared) (U:St) (H:Hp) (x:V) (xs:List V) (v:Value) (us:List Value) (Q:VK),Inv X pins U H s->jB x v->jj xs us->r x xs H Q->
  wpAny (model X.prog X.w) X.A (call (.builtin id) (v::us)) (EP X pins U Q) X.xe s
section
variable {X:Cx} {a b:Expr} {ta tb:TE} {pos:Pos}
def ut.or{r r':R2}(h:ut X r)(h':ut X r'):ut X (fun x y H Q=>r x y H Q \/ r' x y H Q):=by
 intro value slice pins s U H x y v u Q I rx ry q hs;rcases q with q | q
 ·exact h value slice pins s U H x y v u Q I rx ry q hs
 ·exact h' value slice pins s U H x y v u Q I rx ry q hs
def Kh{r:R2}(hr:ut X r)(ha:PE X a ta)(hb:PE X b tb)(hs:GU b):PE X (.Subscript a b pos) (kH r ta tb):=by
 intro pins s U H Q I h;exact Subscript_ (xp ha hb I h fun v u s2 x y H2 I2 rx ry q=>hr a b pins s2 U H2 x y v u Q I2 rx ry q (hs _ _))
def KF(K:uXa):R2:=fun x y H Q=>∃p xs i v,x=.ref p/\y=.int i/\jG K H p xs/\atI xs i=some v/\Q v H
def Bn(K:uXa):R2:=fun x y H Q=>∃p xs i v,x=.ref p/\y=.int i/\Jq K H p xs/\atI xs i=some v/\Q v H
def Bo:R2:=fun x y H Q=>∃z i c,x=.str z/\y=.int i/\z.length<=sizeLine/\atI z.cps.toList i=some c/\Q (.str ⟨#[c]⟩) H
def Ur:ut X (KF X.K):=by
 intro value slice pins s U H x y v u Q I rx ry h hs;obtain⟨p,xs,i,z,rfl,rfl,hq,he,q⟩:=h;cases rx;obtain⟨t,rfl⟩:=ry;obtain⟨its,r,pl,hz⟩:=I.list hq;obtain⟨j,h1,h2,h3,h4,h5⟩:=GT he;obtain⟨w,ew,rw'⟩:=r.get h2;have hl:=r.length;have hn:=Vk;have fin:EP X pins U Q w s:=⟨z,H,I,rw',q⟩
 by_cases h0:0<=i
 ·have hj:i.toNat=j:=by
   rw[seqIndex_of h0 h5]at h1;exact vFa h1
  exact item_listR pl.isList h0 (by lia) (by rw[hj];simpa using ew) fin hs
 ·have hj:(i+(its.toArray.size:Int)).toNat=j:=by
   rw[seqIndex_neg (by lia) h4]at h1;rw[uLa,<-hl];exact vFa h1
  exact subscriptTail_builtinR (x:=w) pl.isList.typeIs slot_list_getitem.lookup
   (wpAny_getItem_list_neg (Q:=fun r s'=>r=w/\EP X pins U Q r s') pl.isList (by lia) (by rw[uLa] <;> lia) (by lia) (by rw[hj];simpa using ew) ⟨rfl,fin⟩) hs
def Bp:ut X (Bn X.K):=by
 intro value slice pins s U H x y v u Q I rx ry h hs;obtain⟨p,xs,i,z,rfl,rfl,hq,he,q⟩:=h;cases rx;obtain⟨t,rfl⟩:=ry;obtain⟨its,r,pl,hz⟩:=I.tuple hq;obtain⟨j,h1,h2,h3,h4,h5⟩:=GT he;obtain⟨w,ew,rw'⟩:=r.get h2;have hl:=r.length;have hn:=Vk;have fin:EP X pins U Q w s:=⟨z,H,I,rw',q⟩
 exact subscriptTail_builtinR (x:=w) pl.typeIs slot_tuple_getitem.lookup
  (getItem_tuple (j:=j) (Q:=fun r s'=>r=w/\EP X pins U Q r s') pl (by lia) (by lia) (by rw[uLa,<-hl];exact h1) (by simpa using ew) ⟨rfl,fin⟩) hs
def Bq:ut X Bo:=by
 intro value slice pins s U H x y v u Q I rx ry h hs;obtain⟨z,i,c,rfl,rfl,hz,he,q⟩:=h;obtain⟨t,rfl⟩:=rx;obtain⟨t',rfl⟩:=ry;obtain⟨j,h1,h2,h3,h4,h5⟩:=GT he;have hl:z.cps.toList.length=z.length:=by simp[Str.length]
 rw[hl]at h1 h4 h5;have hn:=Vk;exact tail_any (typeIs_str s z t) slot_str_getitem.lookup (getItem_str (c:=c) (by
  have e1:decide (i < -(2 ^ 63:Int))=false:=vBa (by lia);have e2:decide (i>=2 ^ 63)=false:=vBa (by lia);rw[e1,e2,Bool.or_false]) (by rw[h1];simpa using h2) ⟨.str ⟨#[c]⟩,H,I.tok _,⟨_,rfl⟩,q⟩) hs
def EF(K:uXa):R2:=fun x y H Q=>KF K x y H Q \/ Bn K x y H Q \/ Bo x y H Q
def Br:ut X (EF X.K):=Ur.or (Bp.or Bq)
def qg(its:List Value)(n j:Nat)(u:Value):Obj.mapSeq (·.setIfInBounds j u) { cls:=.type "list",data:=.seq its.toArray n }={ cls:=.type "list",data:=.seq (its.set j u).toArray n }:=by
 simp[Obj.mapSeq]
def Inv.lst{pins:List (Addr×Obj)}{U:St}{H:Hp}{s:Shared}{p:Addr}{xs:List V}(I:Inv X pins U H s)(h:H p=some (.lst xs)):
  ∃(its:List Value) (n:Nat),jj xs its/\s.heap.get? p=some { cls:=.type "list",data:=.seq its.toArray n }/\xs.length<=sizeLine:=by
 obtain⟨z,its,n,r,e⟩:=I.hok p _ h;exact⟨its,n,r,e,z⟩
def Inv.lstUpd{pins:List (Addr×Obj)}{U:St}{H:Hp}{s:Shared}{p:Addr}{xs ys:List V}{its its':List Value}{n n':Nat}{f:Obj->Obj}(I:Inv X pins U H s)(h:H p=some (.lst xs))
  (ho:s.heap.get? p=some { cls:=.type "list",data:=.seq its.toArray n }) (hf:f { cls:=.type "list",data:=.seq its.toArray n }={ cls:=.type "list",data:=.seq its'.toArray n' }) (r:jj ys its') (hz:ys.length<=sizeLine) (t:Nat):
  Inv X pins U (upd H p (.lst ys)) { s with heap:=s.heap.update p f,toks:=t }:=by
 have e:(s.heap.update p f).get? p=some { cls:=.type "list",data:=.seq its'.toArray n' }:=by
  rw[Heap.get?_update_self f ho (by rw[hf] <;> rfl),hf]
 refine I.write (x:=p) (e:=p) (by rw[h];trivial) (.inl rfl) (fun b u hb q=>(wKa _ _ (Ne.symm hb)).trans q) ⟨_,e⟩ ?_;exact⟨hz,its',n',r,e⟩
def Ki:V->V->V->Hp->(Hp->Prop)->Prop:=fun o i v H Q=>∃p xs k j,o=.ref p/\i=.int k/\H p=some (.lst xs)/\Yp xs.length k=some j/\Q (upd H p (.lst (xs.set j v)))
def gx:xl X Ki:=by
 intro pins s U H o i v ov iv u Q I ro ri rv h;obtain⟨p,xs,k,j,rfl,rfl,hp,hj,q⟩:=h;cases ro;obtain⟨t,rfl⟩:=ri;obtain⟨its,n,r,ho,hz⟩:=I.lst hp;obtain⟨h1,h2,h3,h4⟩:=Wo hj;have hl:=r.length;have hn:=Vk;have I':Inv X pins U (upd H p (.lst (xs.set j v))) { s with heap:=s.heap.update p (Obj.mapSeq (·.setIfInBounds j u)) }:=
  I.lstUpd hp ho (qg its n j u) (r.set rv j) (by rw[List.length_set];exact hz) s.toks
 by_cases h0:0<=k
 ·have hk:k.toNat=j:=by
   rw[seqIndex_of h0 h4]at h1;exact vFa h1
  exact PySem.W.ki_setAt ho h0 (by lia) (by rw[uLa,<-hl];exact h4) (by rw[hk];exact⟨_,I',q⟩)
 ·have hk:(k+(its.toArray.size:Int)).toNat=j:=by
   rw[seqIndex_neg (by lia) h3]at h1;rw[uLa,<-hl];exact vFa h1
  exact PySem.W.ki_setBack ho (by lia) (by rw[uLa,<-hl];exact h3) (by lia) (by rw[hk];exact⟨_,I',q⟩)
def KG(lo hi:Option Int)(n:Nat):(sliceBounds lo hi none n).1=((HT.sIx n 0 lo:Nat):Int)/\(sliceBounds lo hi none n).2.1=((HT.sIx n n hi:Nat):Int)/\(sliceBounds lo hi none n).2.2=1:=by
 refine⟨?_,?_,rfl⟩
 ·cases lo with
  | none=>simp[sliceBounds,HT.sIx]
  | some i=>
   simp only[sliceBounds,HT.sIx,Option.getD_none,show(1:Int) > 0 by decide,if_true];by_cases h:i < 0
   ·simp only[h,if_true] <;> lia
   ·simp only[h,if_false] <;> lia
 ·cases hi with
  | none=>simp[sliceBounds,HT.sIx]
  | some i=>
   simp only[sliceBounds,HT.sIx,Option.getD_none,show(1:Int) > 0 by decide,if_true];by_cases h:i < 0
   ·simp only[h,if_true] <;> lia
   ·simp only[h,if_false] <;> lia
def K9(its:List Value)(lo hi:Option Int):slicePick its.toArray lo hi none=((its.drop (HT.sIx its.length 0 lo)).take (HT.sIx its.length its.length hi - HT.sIx its.length 0 lo)).toArray:=by
 obtain⟨h1,h2,h3⟩:=KG lo hi its.toArray.size;unfold slicePick;rw[h1,h2,h3];simp only[sliceRange_one,pick_run,List.size_toArray] <;> rfl
def f_(K:uXa):V->Option Int->Option Int->Hp->VK->Prop:=fun x lo hi H Q=>∃a xs,x=.ref a/\jG K H a xs/\∀p,H p=none->Q (.ref p) (upd H p (.lst (ur xs lo hi)))
def Ap:Bl X (f_ X.K):=by
 intro pins s U H x v vl vu lo hi sl Q I rx hs pl pu h;obtain⟨a,xs,rfl,hx,q⟩:=h;cases rx;obtain⟨its,r,ht,hz⟩:=I.list hx;have hlen:=r.length;refine⟨"list",_,slot_list_getitem.lookup,ht.isList.typeIs,?_⟩;refine wpAny_getItem_list_slice ht.isList hs pl pu .none (by simp) ?_ (by rw[List.size_toArray] <;> lia);rw[K9,<-hlen];refine⟨.ref s.heap.objs.size,_,I.laid (t':=s.toks) (o:=.lst (ur xs lo hi)) (fun b ob q=>wIa _ q) (wPa _) ?_,rfl,q _ (I.hok.fresh (wPa _))⟩;exact⟨wSa (UY xs lo hi) hz,_,0,(r.drop (HT.sIx xs.length 0 lo)).take (HT.sIx xs.length xs.length hi - HT.sIx xs.length 0 lo),wJa _ rfl⟩
def KH:yZ X (.builtin "len") (fun xs H Q=>∃p ys,xs=[.ref p]/\(jG X.K H p ys \/ Jq X.K H p ys)/\Q (.int ys.length) H):=by
 intro pins s U H xs us Q I r h;obtain⟨p,ys,rfl,hq,q⟩:=h;obtain⟨u,rfl,rx⟩:=WX r;cases rx;have hn:=Vk;rcases hq with hq | hq
 ·obtain⟨its,r',pl,hz⟩:=I.list hq;have hlen:=r'.length;exact Calls.call_len_list pl.isList (by simp only[List.size_toArray] <;> lia) ⟨.int ys.length,H,I.tok _,⟨s.toks+1,by rw[uLa,hlen]⟩,q⟩
 ·obtain⟨its,r',pl,hz⟩:=I.tuple hq;have hlen:=r'.length;exact len_tuple pl (by simp only[List.size_toArray] <;> lia) ⟨.int ys.length,H,I.tok _,⟨s.toks+1,by rw[uLa,hlen]⟩,q⟩
def KI:yZ X (.type "list") (fun xs H Q=>∃p ys,xs=[.ref p]/\(jG X.K H p ys \/ Jq X.K H p ys)/\∀l,H l=none->Q (.ref l) (upd H l (.lst ys))):=by
 intro pins s U H xs us Q I r h;obtain⟨p,ys,rfl,hq,q⟩:=h;obtain⟨u,rfl,rx⟩:=WX r;cases rx;have fin:∀(its:List Value),jj ys its->ys.length<=sizeLine->∀(h':Heap) (c':Nat),(∀b o',s.heap.get? b=some o'->h'.get? b=some o')->
   h'.get? s.heap.objs.size=some { cls:=.type "list",dict:=none,data:=.seq its.toArray c',slots:=#[] }->EP X pins U Q (.ref s.heap.objs.size) { s with heap:=h' }:=fun its r' hz h' c' kp e=>
  ⟨.ref s.heap.objs.size,_,I.laid (t':=s.toks) kp (wPa _) (show yc X.prog X.w _ h' _ (.lst ys) from⟨hz,its,c',r',e⟩),rfl,q _ (I.hok.fresh (wPa _))⟩
 rcases hq with hq | hq
 ·obtain⟨its,r',pl,hz⟩:=I.list hq;have hlen:=r'.length;obtain⟨o,ho,hc,n,hd⟩:=pl.isList;exact call_list_seq p (.inl rfl) ho hc hd (fun h' c' kp e=>fin its r' hz h' c' kp e) (by simp only[List.size_toArray] <;> lia)
 ·obtain⟨its,r',pl,hz⟩:=I.tuple hq;have hlen:=r'.length;obtain⟨o,ho,hc,n,hd⟩:=pl;exact call_list_seq p (.inr rfl) ho hc hd (fun h' c' kp e=>fin its r' hz h' c' kp e) (by simp only[List.size_toArray] <;> lia)
def Ka:yZ X (.type "tuple") (fun xs H Q=>∃p ys,xs=[.ref p]/\((jG X.K H p ys/\∀l,H l=none->Q (.ref l) (upd H l (.tup ys))) \/ (Jq X.K H p ys/\Q (.ref p) H))):=by
 intro pins s U H xs us Q I r h;obtain⟨p,ys,rfl,h⟩:=h;obtain⟨u,rfl,rx⟩:=WX r;cases rx;rcases h with⟨hq,q⟩ | ⟨hq,q⟩
 ·obtain⟨its,r',pl,hz⟩:=I.list hq;have hlen:=r'.length;refine call_tuple_list pl.isList (fun h' kp=>?_) (by simp only[List.size_toArray] <;> lia);have I1:Inv X pins U H { s with heap:=h' }:=I.kept (t':=s.toks) kp;have I2:Inv X pins U (upd H h'.objs.size (.tup ys)) { s with heap:=h'.push { cls:=.type "tuple",data:=.seq its.toArray } }:=
   I1.laid (t':=s.toks) (fun b o e=>wIa _ e) (wPa _) (show yc X.prog X.w _ _ _ (.tup ys) from⟨hz,its,r',IsTup.new _ _⟩)
  exact⟨.ref h'.objs.size,_,I2,rfl,q _ (I1.hok.fresh (wPa _))⟩
 ·obtain⟨its,r',pl,hz⟩:=I.tuple hq;exact call_tuple_same pl ⟨.ref p,H,I,rfl,q⟩
def EG(K:uXa)(T:String)(x:V)(H:Hp):Prop:=match x with
 | .str _=>T = "str"
 | .int _=>T = "int"
 | .ref p=>(T = "list" /\∃xs,jG K H p xs) \/ (T = "tuple" /\∃o,K.lookup p=some o/\o.cls=.type "tuple" /\o.dict=none) \/
   (T = "dict" /\((∃kvs,H p=some (.dK kvs)) \/ (∃kvs,H p=some (.dT kvs)) \/∃kvs ep,H p=some (.dD kvs ep))) \/ (T = "set" /\∃S n,H p=some (.set S n))
 | _=>False
theorem Bs{pins:List (Addr×Obj)}{U:St}{H:Hp}{s:Shared}{T:String}{x:V}{v:Value}(I:Inv X pins U H s)(r:jB x v)(ty:EG X.K T x H):
  s.TypeIs v T/\∀a,v=.ref a->∃ob,s.heap.get? a=some ob/\ob.dict=none:=by
 cases x with
 | str z=>
  obtain⟨t,rfl⟩:=r;cases (show T = "str" from ty);exact⟨typeIs_str s z t,fun _ e=>nomatch e⟩
 | int i=>
  obtain⟨t,rfl⟩:=r;cases (show T = "int" from ty);exact⟨typeIs_int s i t,fun _ e=>nomatch e⟩
 | ref p=>
  cases r;rcases ty with⟨rfl,xs,hq⟩ | ⟨rfl,o,hk,hc,hd⟩ | ⟨rfl,hk⟩ | ⟨rfl,S,n,hk⟩
  ·obtain⟨its,_,pl,_⟩:=I.list hq;refine⟨pl.isList.typeIs,fun a e=>?_⟩;cases e;obtain⟨o,n,e,c,hd,_⟩:=pl;exact⟨o,e,hd⟩
  ·refine⟨⟨o,I.kIn p o hk,hc⟩,fun a e=>?_⟩;cases e;exact⟨o,I.kIn _ o hk,hd⟩
  ·have z:∃o,s.heap.get? p=some o/\o.ExactDict:=by
    rcases hk with⟨kvs,hk⟩ | ⟨kvs,hk⟩ | ⟨kvs,ep,hk⟩
    ·obtain⟨_,_,_,_,o,_,_,e,ex,_⟩:=I.hok p _ hk;exact⟨o,e,ex⟩
    ·obtain⟨_,_,_,_,o,_,_,e,ex,_⟩:=I.hok p _ hk;exact⟨o,e,ex⟩
    ·obtain⟨_,_,_,_,_,o,_,e,ex,_⟩:=I.hok p _ hk;exact⟨o,e,ex⟩
   obtain⟨o,e,ex⟩:=z;refine⟨⟨o,e,ex.1⟩,fun a e2=>?_⟩;cases e2;exact⟨o,e,ex.2.1⟩
  ·obtain⟨o,_,_,_,e,ex,_⟩:=I.hok p _ hk;refine⟨⟨o,e,ex.1⟩,fun a e2=>?_⟩;cases e2;exact⟨o,e,ex.2.1⟩
 | _=>exact False.elim ty
def Ge(K:uXa)(T:String)(r:V->List V->Hp->VK->Prop)(to:TE)(t:TA):TE:=fun U H Q=>to U H fun x H1=>EG K T x H1/\t U H1 fun xs H2=>r x xs H2 Q
variable {o e:Expr} {es:List Expr} {to:TE} {t:TA} {name:Str} {apos cpos:Pos} {T id:String} {r:V->List V->Hp->VK->Prop}
def Kj(pa:PlainAttrs T)(slot:Slot T name id)(hty:typeOf (.builtin id)=pure (.type "method_descriptor"))(hm:EE X id r)(ho:PE X o to)(ha:PA X (e::es) t)
  (hbase:attributeBase o name X.env (eval o X.env)=eval o X.env:=by rfl)
  (hfew:((backTo cpos (starEach (e::es) X.env)).all (fun x=>!x.1)&&(backToKw cpos (keywordEach [] X.env)).all (fun x=>x.1.isSome)
   && decide ((e::es).length+([]:List Keyword).length+(if ([]:List Keyword).isEmpty then 0 else 1) < 30))=true:=by rfl)
  (hline:(apos.endLine==cpos.line)=true:=by rfl) (hs:starEach (e::es) X.env=(false,eval e X.env)::starEach es X.env:=by rfl) (hplain:(backTo cpos (starEach es X.env)).any (·.1)=false:=by rfl):
  PE X (.Call (.Attribute o name apos) (e::es) [] cpos) (Ge X.K T r to t):=by
 intro pins s U H Q I h;refine wpAny_Call_method_late hbase hfew hline rfl (jw (ho pins s U H _ I h) fun v s1 xx=>?_);obtain⟨x,H1,I1,r1,ty,q1⟩:=xx;obtain⟨h1,h2⟩:=Bs I1 r1 ty;refine⟨T,id,pa,slot,hty,h1,h2,?_⟩;have hA:=ha cpos pins s1 U H1 _ I1 q1;rw[hs]at hA⊢;refine Calls.callWith_builtin (by show(false||(backTo cpos (starEach es X.env)).any (·.1))=false;rw[hplain] <;> rfl) (Calls.evalArgs_plain ?_)
 exact jw hA fun us s2 ⟨vs,H2,I2,r2,q2⟩=>hm pins s2 U H2 x vs v us Q I2 r1 r2 q2
end
def Bt(X:Cx)(id:String)(r:V->List V->Hp->VK->Prop):Prop:=
 ∀(pins:List (Addr×Obj)) (s:Shared) (U:St) (H:Hp) (x:V) (xs:List V) (v:Value) (us:List Value) (Q:VK),Inv X pins U H s->jB x v->jj xs us->r x xs H Q->
  wpAny (model X.prog X.w) X.A (call (.builtin id) (v::us)) (EP X pins U Q) X.xe s
theorem jj.one:∀{x:V} {us:List Value},jj [x] us->∃u,us=[u]/\jB x u
 | _,_,.cons r .nil=>⟨_,rfl,r⟩
theorem jj.eraseIdx:∀{xs:List V} {us:List Value} (i:Nat),jj xs us->jj (xs.eraseIdx i) (us.eraseIdx i)
 | _,_,_,.nil=>.nil
 | _,_,0,.cons _ t=>t
 | _,_,i+1,.cons r t=>.cons r (jj.eraseIdx i t)
def jj.reverse{xs:List V}{us:List Value}(h:jj xs us):jj xs.reverse us.reverse:=by
 induction h with
 | nil=>exact .nil
 | cons r t ih=>rw[List.reverse_cons,List.reverse_cons];exact jj.append ih (.cons r .nil)
theorem kO{α:Type}:∀(l:List α) (i:Nat),(l.eraseIdx i).length<=l.length
 | [],_=>wPa _
 | _::_,0=>vMa _
 | _::r,i+1=>Nat.succ_le_succ (kO r i)
section
variable {X:Cx} {pins:List (Addr×Obj)} {U:St} {H:Hp} {s:Shared} {l b:Addr} {xs ys zs:List V}
def Inv.lset{its its':List Value}{n:Nat}{f:Array Value->Array Value}{t':Nat}(I:Inv X pins U H s)(hH:H l=some (.lst xs))
  (e:s.heap.get? l=some { cls:=.type "list",data:=.seq its.toArray n }) (hf:f its.toArray=its'.toArray) (hv:jj ys its') (hz:ys.length<=sizeLine):
  Inv X pins U (upd H l (.lst ys)) { s with heap:=s.heap.update l (Obj.mapSeq f),toks:=t' }:=by
 have q:=PySem.IsL.update e f;rw[hf]at q;refine I.write (x:=l) (e:=l) (by rw[hH];exact trivial) (.inl rfl) (fun b' u hb hu=>(wKa s.heap (Obj.mapSeq f) (Ne.symm hb)).trans hu) ⟨_,q⟩ ?_;exact⟨hz,its',_,hv,q⟩
def Inv.lnew{its:List Value}{t':Nat}(I:Inv X pins U H s)(hv:jj ys its)(hz:ys.length<=sizeLine):
  Inv X pins U (upd H s.heap.objs.size (.lst ys)) { s with heap:=s.heap.push { cls:=.type "list",data:=.seq its.toArray },toks:=t' }:=
 I.laid (fun _ _ q=>wIa _ q) (wPa _) ⟨hz,its,0,hv,wJa _ rfl⟩
def Inv.fresh(I:Inv X pins U H s):H s.heap.objs.size=none:=I.hok.fresh (wPa _)
def Inv.lstM(I:Inv X pins U H s)(hH:H l=some (.lst xs)):xs.length<=sizeLine/\∃(its:List Value) (n:Nat),jj xs its/\xs.length=its.length/\s.heap.get? l=some { cls:=.type "list",data:=.seq its.toArray n }:=by
 obtain⟨z,its,n,r,e⟩:=I.hok l _ hH;exact⟨z,its,n,r,r.length,e⟩
end
section
variable {X:Cx}
def Us:V->List V->Hp->VK->Prop:=fun x vs H Q=>∃l xs y,x=.ref l/\vs=[y]/\H l=some (.lst xs)/\xs.length < sizeLine/\Q .non (upd H l (.lst (xs++[y])))
def Q1:Bt X "list.append" Us:=by
 intro pins s U H x vs v us Q I rx rv h;obtain⟨l,xs,y,rfl,rfl,hH,hz,q⟩:=h;cases rx;obtain⟨u,rfl,ru⟩:=rv.one;obtain⟨z,its,n,r,hl,e⟩:=I.lstM hH;refine call_meets F.slot_list_append ⟨_,e,rfl⟩ F.entry_list_append (F.args_list_append_2 _ _) (PySem.list_append l its.toArray n u (by rw[uLa];lia)) ⟨e,?_⟩;refine⟨.non,_,I.lset (its':=its++[u]) hH e (by simp) (r.append (.cons ru .nil)) ?_,rfl,q⟩;rw[vZa,uIa]
 lia
def Q2:V->List V->Hp->VK->Prop:=fun x vs H Q=>∃l xs i k y,x=.ref l/\vs=[.int i]/\H l=some (.lst xs)/\-(2 ^ 63)<=i/\i < 2 ^ 63/\seqIndex? i xs.length=some k/\xs[k]?=some y/\Q y (upd H l (.lst (xs.eraseIdx k)))
def xD:Bt X "list.pop" Q2:=by
 intro pins s U H x vs v us Q I rx rv h;obtain⟨l,xs,i,k,y,rfl,rfl,hH,h1,h2,hk,hy,q⟩:=h;cases rx;obtain⟨u,rfl,ru⟩:=rv.one;obtain⟨t,rfl⟩:=ru;obtain⟨z,its,n,r,hl,e⟩:=I.lstM hH;obtain⟨w,hw,rw'⟩:=r.get hy;refine call_meets F.slot_list_pop ⟨_,e,rfl⟩ F.entry_list_pop (F.args_list_pop_2 _ _)
  (MeetsSeq.list_pop_at l its.toArray n i t k w (fitsIndex_both h1 h2) (by rw[uLa,<-hl];exact hk) (by rw[<-Array.getElem?_toList];exact hw) (by rw[uLa];lia)) ⟨e,?_⟩
 refine⟨y,_,I.lset (its':=its.eraseIdx k) hH e ?_ (r.eraseIdx k) ?_,rw',q⟩
 ·show its.toArray.eraseIdxIfInBounds k=(its.eraseIdx k).toArray;rw[List.eraseIdxIfInBounds_toArray]
 ·have:=kO xs k
  lia
def Bu:R2:=fun x y H Q=>∃l b xs zs,x=.ref l/\y=.ref b/\H l=some (.lst xs)/\H b=some (.lst zs)/\xs.length+zs.length<=sizeLine/\∀p,H p=none->Q (.ref p) (upd H p (.lst (xs++zs)))
def Bv:J0 X (binaryOp .Add) Bu:=by
 intro pins s U H x y v u Q I rx ry h;obtain⟨l,b,xs,zs,rfl,rfl,hH,hB,hz,q⟩:=h;cases rx;cases ry;obtain⟨z,its,n,r,hl,e⟩:=I.lstM hH;obtain⟨z2,its2,n2,r2,hl2,e2⟩:=I.lstM hB;refine PySem.P.add_list e e2 ?_ (by rw[uLa,uLa];lia);have ea:its.toArray++its2.toArray=(its++its2).toArray:=by simp
 rw[ea];exact⟨.ref _,_,I.lnew (t':=s.toks) (r.append r2) (by rw[vZa];lia),rfl,q _ I.fresh⟩
end
end L2
namespace Att
open PySem PySem.W PySem.Calls PyProof.Rows
def ints_of_wellAll{P:Params}{h:Heap}:∀(ns:List Int) (vs:List Value),WellAll P h vs (ns.map WData.int)->IntsAre vs ns:=by
 intro ns;induction ns with
 | nil=>
  intro vs w;rw[uJa]at w;cases w;exact .nil
 | cons n ns ih=>
  intro vs w;rw[vWa]at w;cases w with
  | cons a b=>
   cases a;exact .cons _ _ (ih _ b)
theorem script_of{l:OpenLaw}{n:Nat}(hn:l.most=some n){P:Params}{h:Heap}{args:List WData}{vals:List Value}
  (hpre:l.row.toRowW.claim.pre args=true) (hwl:WellAll P h vals args):
  ∃a vs ns,vals=[Value.ref a]/\args=[WData.list (ns.map WData.int)]/\h.get? a=some { cls:=.type "list",data:=.seq vs.toArray }/\IntsAre vs ns/\ns.length<=n:=by
 have hsh:WShape.hasAll [] args [.list .int]=true:=(pre_splitW hpre).1;have hc:l.pre.holds [] { args:=args }=true:=(pre_splitW hpre).2;obtain⟨d,r,rfl,h1,h2⟩:=hasAllW_cons hsh;obtain rfl:=hasAllW_nil h2;obtain⟨xs,rfl,h3⟩:=hasW_list h1;obtain⟨ns,rfl⟩:=items_int h3;have hlen:ns.length<=n:=by
  unfold OpenLaw.pre at hc;have h4:(WTm.not (.lt (.lit (.int (n:Int))) (.len (.arg 0)))).holds [] { args:=[.list (ns.map .int)] }=true:=by
   have h4:=(holds_andW hc).1;rw[hn]at h4;exact h4
  have h5:=condW_of h4 (w_not (w_lt w_lit (w_len_list (w_arg rfl))));rw[vYa]at h5;refine Nat.le_of_not_lt fun q=>?_;have q':(n:Int) < ((ns.length:Nat):Int):=by lia
  first
   | (rw[decide_eq_true q']at h5;exact vDa h5 (by decide))
   | (simp at h5;lia)
 cases hwl with
 | cons w1 w2=>
  cases w2;cases w1 with
  | list ho hall=>exact⟨_,_,ns,rfl,rfl,ho,ints_of_wellAll ns _ hall,hlen⟩
def post_true(l:OpenLaw)(args:List WData):l.row.toRowW.claim.post args (.bool true) args=true:=
 postW_of (r:=l.row.toRowW) (X:=(true==true))
  (show WShape.has [] (.bool true) .bool=true by first | rfl | decide | simp[WShape.has,WShape.arms,WShape.armsAll])
  (show(WTm.eq .res (.lit (.bool true))).value [] { args:=args,res:=some (.bool true),after:=args }=some (.bool (true==true)) from w_eq_bool (w_res rfl) w_lit) rfl
def attach_call{l:OpenLaw}{n:Nat}{q:Program}{loose:List Str}{XP:(Str->Option Value)->Heap->Prop}{YP:World->Heap->Prop}{d:DefRec}
  (hn:l.most=some n) (hdf:d.params.defaults=[])
  (call:∀(w:World) (s₀ s₁:Shared) (mg mb:Str->Option Value) (fa:Addr) (o:Obj) (pm cd doc:Value) (a:Addr) (vs:List Value) (ns:List Int),
   Ground q loose [] XP w s₀ mg mb s₁.heap->YP w s₁.heap->
   s₁.heap.get? fa=some o->o.data=.func (docDef d.name d.params d.body d.scope pm cd doc)->s₁.heap.CodeRec cd d.name->mg d.name=some (.ref fa)->
   s₁.heap.get? a=some { cls:=.type "list",data:=.seq vs.toArray }->IntsAre vs ns->ns.length<=n->s₁.gens=#[]->
   codeAny (model l.prog w) callerA (.call (.ref fa) ⟨[.ref a],[]⟩) (fun r s'=>r=.ok (.ret (.bool true))/\OldK s₁.heap s'.heap/\s'.os=s₁.os/\AllBare s'.gens) s₁):
  WalkO q loose XP YP l.row.toRowW d [] (fun f vs=>PySem.call f vs):=by
 intro w s₀ s₁ mg mb G Y fa o pm cd doc dV kV ho hd hcd hD hmg hg args vals as hpre hlay hrd hwl hlo;obtain rfl:dV=.none:=Dflts.none hD hdf;obtain rfl:kV=.none:=Dflts.noKw hD;obtain⟨a,vs,ns,rfl,rfl,hobj,hints,hlen⟩:=script_of hn hpre hwl;refine enter_call (codeAny_mono (call w s₀ s₁ mg mb fa o pm cd doc a vs ns G Y ho (fd_plain hd) hcd hmg hobj hints hlen hg) fun r s' hq=>?_);obtain⟨rfl,h2,h3,h4⟩:=hq;exact⟨.inl ⟨.bool true,.bool true,[],rfl,fun _=>rfl,.bool true,post_true l _,fun _=>⟨List.Pairwise.nil,fun _ hm=>(nomatch hm)⟩⟩,h2,h3,h4⟩
end Att
namespace L2
open PySem PySem.Spec PyProof.Rows
theorem kP:∀{vs:List Value} {ns:List Int},IntsAre vs ns->jj (ns.map V.int) vs
 | _,_,.nil=>.nil
 | _,_,.cons n t h=>.cons ⟨t,rfl⟩ (kP h)
def xE(H:Hp):Prop:=∀b,H b=none \/∃o xs,H b=some (.frz o (.lst xs))
theorem xF{P:Program}{w:World}{K:uXa}{mg mb:Str->Option Value}{CX:uq}{k:Nat}{fa a:Addr}{fd:FuncData}{x:Str}{sp:Sp}{s₁:Shared}{vs:List Value}{ns:List Int}
  (KX:K.In s₁.heap) (hns:s₁.heap.Ns mainGlobals mg) (hb:s₁.heap.Ns builtinsNs mb) (hbb:∀x:Str,x≠ "__name__" ->mb x=bootBuiltins x) (hlim:s₁.heap.NoLimit) (hg:s₁.gens=#[])
  (ha:s₁.heap.get? a=some { cls:=.type "list",data:=.seq vs.toArray }) (hi:IntsAre vs ns) (hl:ns.length<=sizeLine) (hr:Room k callerA)
  (F:∀base:Heap,K.In base->base.Ns mainGlobals mg->FnOk P w K mg base CX k fa fd [x] sp) (hbind:∀(s:Shared) (u:Value),BindsTo s fd ⟨[u],[]⟩ [(x,u)])
  (hsp:∀H:Hp,xE H->jG K H a (ns.map V.int)->sp [.ref a] H (fun v _=>v=.bl true) fun _ _ _=>False)
  (hCX:∀H e s',CX [] H s₁ (fun _ _ _=>False) e s'->False):
  codeAny (model P w) callerA (.call (.ref fa) ⟨[.ref a],[]⟩) (fun r s'=>r=.ok (.ret (.bool true))/\OldK s₁.heap s'.heap/\s'.os=s₁.os/\AllBare s'.gens) s₁:=by
 have rv:=kP hi;have lenV:=hi.length;have core:∀H:Hp,xE H->jG K H a (ns.map V.int)->yw P w H s₁.heap->(∀b,H b≠none->b=a)->(H a≠none->K.lookup a=none)->
   codeAny (model P w) callerA (.call (.ref fa) ⟨[.ref a],[]⟩) (fun r s'=>r=.ok (.ret (.bool true))/\OldK s₁.heap s'.heap/\s'.os=s₁.os/\AllBare s'.gens) s₁:=by
  intro H hO hS hok hA hK;have base_of:∀{b:Addr} {o:Obj},s₁.heap.get? b=some o->H b=none->(VF s₁.heap H).get? b=some o:=fun e n=>xi e n;have noA:∀{b:Addr} {o:Obj} {es:Array DictEntry} {ep:Nat},s₁.heap.get? b=some o->o.data=.dict es ep->H b=none:=fun {b o es ep} e d=>by
   cases q:H b with
   | none=>rfl
   | some u=>
    have e':b=a:=hA b (by rw[q];simp);subst e';rw[ha]at e;cases e;have d':Data.seq vs.toArray _=Data.dict es ep:=d;cases d'
  have nsK:∀{b:Addr} {m:Str->Option Value},s₁.heap.Ns b m->(VF s₁.heap H).Ns b m:=fun {b m} ⟨o,es,ep,e,d,r⟩=>⟨o,es,ep,base_of e (noA e d),d,r⟩
  have hKb:K.In (VF s₁.heap H):=fun b o e=>base_of (KX b o e) (by
   cases q:H b with
   | none=>rfl
   | some u=>
    have e':b=a:=hA b (by rw[q];simp);subst e';rw[hK (by rw[q];simp)]at e;cases e)
  have hM:Mod K mg (VF s₁.heap H):=⟨hKb,nsK hns,⟨mb,nsK hb,hbb⟩,let ⟨mc,h1,h2⟩:=hlim;⟨mc,nsK h1,h2⟩⟩
  have e0:Env0 P w K mg (VF s₁.heap H) callerA [] s₁ H:=⟨rfl,hM,fun b o e=>A0 e,Nat.le_of_eq (qP _ _),trivial,fun b hb=>vDa (show b∈([]:List Addr) from hb) (by simp),hok,.of_eq hg⟩
  refine codeAny_mono ((F _ hKb (nsK hns)).run callerA [] s₁ H ⟨[.ref a],[]⟩ [.ref a] [.ref a] _ _ hr e0 (hbind s₁ (.ref a)) (.cons rfl .nil) (hsp H hO hS)) fun r s' h=>?_;cases r with
  | error e=>exact(hCX H e s' h).elim
  | ok fl=>
   cases fl with
   | next=>exact False.elim h
   | brk=>exact False.elim h
   | cont=>exact False.elim h
   | ret u=>
    obtain⟨v,H',os,bare,un,hok',r',q⟩:=h;have q':v=.bl true:=q;subst q';obtain rfl:u=Value.bool true:=r';refine⟨rfl,OldK.of_keep fun b o e=>?_,os,bare⟩;cases q:H b with
    | none=>exact un.keep b o e q (by intro z;exact vDa (show b∈([]:List Addr) from z) (by simp)) (by simp)
    | some u=>
     rcases hO b with z | ⟨ob,xs,z⟩
     ·rw[q]at z;cases z
     ·have z2:=un.frzs b ob _ z;obtain⟨e1,_⟩:=hok b _ z;obtain⟨e2,_⟩:=hok' b _ z2;rw[e]at e1;cases e1;exact e2
 cases hk:K.lookup a with
 | some o=>
  have e:=KX a o hk;rw[ha]at e;cases e;refine core (fun _=>none) (fun _=>.inl rfl) (.inr ⟨_,vs.toArray,_,hk,rfl,rfl,rfl,by rw[uLa,lenV];exact hl,by simpa using rv⟩) (fun b u z=>by have z':(none:Option HO)=some u:=z;cases z') (fun b z=>vDa rfl z) fun z=>vDa rfl z
 | none=>
  refine core (fun b=>if b=a then some (.frz { cls:=.type "list",data:=.seq vs.toArray } (.lst (ns.map V.int)))else none) (fun b=>?_) (.inl (.inr ⟨{ cls:=.type "list",data:=.seq vs.toArray },if_pos rfl⟩)) (fun b u z=>?_) (fun b z=>?_) fun _=>hk
  ·by_cases hb:b=a
   ·exact .inr ⟨_,_,if_pos hb⟩
   ·exact .inl (if_neg hb)
  ·by_cases hb:b=a
   ·have z':=(if_pos hb).symm.trans z;cases z';subst hb;exact⟨ha,by rw[vYa];exact hl,vs,_,rv,ha⟩
   ·have z':=(if_neg hb).symm.trans z;cases z'
  ·by_cases hb:b=a
   ·exact hb
   ·exact vDa (if_neg hb) z
noncomputable abbrev HI{K:uXa}{h:Heap}(_:K.In h):uXa:=K
def Aq{l:PySem.W.OpenLaw}{n k:Nat}{q:Program}{loose:List Str}{XP:(Str->Option Value)->Heap->Prop}{YP:World->Heap->Prop}{d:DefRec}{K:Params->uXa}{CX:World->uq}{sp:World->Sp}{x:Str}
  (hn:l.most=some n) (hn2:n<=sizeLine) (hdf:d.params.defaults=[]) (hr:Room k callerA)
  (hY:∀(w:World) (h:Heap),YP w h->(K w.params).In h)
  (F:∀(w:World) (mg:Str->Option Value) (fa:Addr) (h:Heap),(K w.params).In h->h.Ns mainGlobals mg->mg d.name=some (.ref fa)->
   ∃fd:FuncData,(∀(s:Shared) (u:Value),BindsTo s fd ⟨[u],[]⟩ [(x,u)])/\
    ∀base:Heap,(K w.params).In base->base.Ns mainGlobals mg->FnOk l.prog w (K w.params) mg base (CX w) k fa fd [x] (sp w))
  (hsp:∀(w:World) (H:Hp) (a:Addr) (ns:List Int),ns.length<=n->xE H->jG (K w.params) H a (ns.map V.int)->sp w [.ref a] H (fun v _=>v=.bl true) fun _ _ _=>False)
  (hCX:∀(w:World) (H:Hp) (s:Shared) (e:Value) (s':Shared),CX w [] H s (fun _ _ _=>False) e s'->False):
  PySem.W.WalkO q loose XP YP l.row.toRowW d [] (fun f vs=>PySem.call f vs):=by
 refine Att.attach_call hn hdf fun w s₀ s₁ mg mb fa o pm cd doc a vs ns G Y ho hd hcd hmg hobj hints hlen hg=>?_;have KX:=hY w _ Y;obtain⟨fd,hb,hF⟩:=F w mg fa _ KX G.T.g hmg;exact xF KX G.T.g G.T.b G.T.builtins G.T.nolimit hg hobj hints (wSa hlen hn2) hr hF hb (fun H hO hS=>hsp w H a ns hlen hO hS) fun H e s'=>hCX w H s₁ e s'
noncomputable def inClass(s:Stmt)(j:Nat):Stmt:=match s with
 | .ClassDef _ _ _ body _ _ _ _ _ _ _=>body.getD j (.Pass ⟨0,0,0,0⟩)
 | _=>.Pass ⟨0,0,0,0⟩
noncomputable def defArgs(s:Stmt):Arguments:=match s with
 | .FunctionDef _ a _ _ _ _ _ _ _ _=>a
 | _=>{ posonlyargs:=[],args:=[],vararg:=none,kwonlyargs:=[],kw_defaults:=[],kwarg:=none,defaults:=[] }
noncomputable def defBody(s:Stmt):List Stmt:=match s with
 | .FunctionDef _ _ b _ _ _ _ _ _ _=>b
 | _=>[]
noncomputable def defScope(s:Stmt):Scope:=match s with
 | .FunctionDef _ _ _ _ _ _ sc _ _ _=>sc
 | _=>{ kind:=.function,names:=[],isGenerator:=false,isCoroutine:=false }
abbrev Y7:uq:=fun _ _ _ _ _ _=>False
abbrev E0:XK:=fun _ _ _=>False
def qh{X:Cx}:Vl Y7 X E0:=fun _ _ _ _ _ _ _ h=>h.elim
structure Fun (K:uXa) (x qual:Str) (st:Stmt) (f:Addr) (fd:FuncData):Prop where
 ex:∃(oc:Value) (od:Option Addr) (kV doc pm:Value) (an:Option Addr) (cdv ct:Value) (osl:Array (Option Value)),
  fd=PySem.W.fnOf x qual (defArgs st) (defBody st) (defScope st) .none kV doc pm an cdv ct/\K.lookup f=some ⟨oc,od,.func fd,osl⟩/\PySem.W.codeIn K cdv qual=true
 kp:PySem.W.keepIn K (.ref f)=true
section
variable {P:Program} {w:World} {K:uXa} {mg:Str->Option Value} {base:Heap}
def Fun.ok{x qual:Str}{st:Stmt}{f:Addr}{fd:FuncData}{N ps:List Str}{k:Nat}{sp:Sp}(F:Fun K x qual st f fd)(S:FnScope N ps (defScope st))(len:∀vs H Q E,sp vs H Q E->vs.length=ps.length)
  (hbody:∀(cdv:Value) (A:Around) (outer:List Env) (s:Shared) (H:Hp) (vs:List V) (Q:VK) (E:XK),Room k (A.deeper (envOfC qual (defScope st) s.heap.objs.size f cdv))->sp vs H Q E->
   ∃t,Jn (Zc Y7 P w K mg base N qual (defScope st) f cdv A outer s H E).nox (defBody st) t/\t { nx:=fun _ H'=>Q .non H',rt:=Q } (Yw N vs) H):FnOk P w K mg base Y7 (k+1) f fd ps sp:=by
 obtain⟨oc,od,kV,doc,pm,an,cdv,ct,osl,rfl,lk,hcd⟩:=F.ex;refine Dw lk hcd S len fun A outer s H vs Q E hr hsp=>?_;obtain⟨t,h,q⟩:=hbody cdv A outer s H vs Q E hr hsp;exact⟨t,h.nox,q⟩
def Fun.binds{x qual:Str}{st:Stmt}{f:Addr}{fd:FuncData}{ps:List Str}(F:Fun K x qual st f fd)
  (h:∀(kV doc pm:Value) (an:Option Addr) (cdv ct:Value) (us:List Value),us.length=ps.length->bindArgs (PySem.W.fnOf x qual (defArgs st) (defBody st) (defScope st) .none kV doc pm an cdv ct) ⟨us,[]⟩=pure (ps.zip us)):YJ K fd ps []:=by
 obtain⟨oc,od,kV,doc,pm,an,cdv,ct,osl,rfl,lk,hcd⟩:=F.ex;exact .all (h kV doc pm an cdv ct)
def Q3{x qual:Str}{st:Stmt}{f:Addr}{oc:Value}{od an:Option Addr}{osl:Array (Option Value)}{kV doc pm cdv ct:Value}(l:K.lookup f=some ⟨oc,od,.func (PySem.W.fnOf x qual (defArgs st) (defBody st) (defScope st) .none kV doc pm an cdv ct),osl⟩)
  (c:PySem.W.codeIn K cdv qual=true) (k:PySem.W.keepIn K (.ref f)=true):Fun K x qual st f (PySem.W.fnOf x qual (defArgs st) (defBody st) (defScope st) .none kV doc pm an cdv ct):=⟨⟨oc,od,kV,doc,pm,an,cdv,ct,osl,rfl,l,c⟩,k⟩
end
def Q4{n:Nat}(h:n<=1000):n < sizeLine:=wRa h (by decide)
section
variable {X:Cx}
def pv(i:Nat){x:Str}{pos:Pos}(hN:X.N[i]?=some x:=by rfl)(hv:qQ X.env.scope x:=by first | exact Or.inl rfl | exact Or.inr (Or.inl rfl) | exact Or.inr (Or.inr rfl))(hd:(x==("__debug__" : Str))=false:=by decide)
  (hcd:(x==("__classdict__" : Str))=false:=by decide):PE X (.Name x pos) (yx i):=bL hN hv hd hcd
end
def Zd{A B:Prop}(h:B):if false=true then A else B:=by
 rw[if_neg Bool.false_ne_true];exact h
def Ze{A B:Prop}(h:A):if true=true then A else B:=by
 rw[if_pos rfl];exact h
def j5(H H':Hp):Prop:=∀b o,H b=some o->H' b=some o
def j5.refl(H:Hp):j5 H H:=fun _ _ h=>h
def j5.trans{H H1 H2:Hp}(a:j5 H H1)(b:j5 H1 H2):j5 H H2:=fun c o h=>b c o (a c o h)
def j5.free{H H':Hp}(e:j5 H H'){l:Addr}(h:H' l=Option.none):H l=Option.none:=by
 cases q:H l with
 | none=>rfl
 | some o=>
  rw[e l o q]at h;cases h
def j5.seq{K:uXa}{H H':Hp}{a:Addr}{xs:List V}(e:j5 H H')(h:jG K H a xs):jG K H' a xs:=by
 rcases h with(h | ⟨o,h⟩) | h
 ·exact .inl (.inl (e _ _ h))
 ·exact .inl (.inr ⟨o,e _ _ h⟩)
 ·exact .inr h
end L2
set_option maxHeartbeats 4000000
namespace L2
open PySem PySem.Spec PyProof.Rows
noncomputable def yU(env:Env):List (Str×NameKind)->List (Str×Addr)->List (Str×Addr)
 | [],cs=>cs
 | (n,k)::r,cs=>yU env r (if k==.free then(match env.cells.lookup n with | some a=>(n,a)::cs | none=>cs)else cs)
theorem GV{env:Env}:∀{ns:List (Str×NameKind)} {cs:List (Str×Addr)},(∀x c,cs.lookup x=some c->env.cells.lookup x=some c)->∀x c,(yU env ns cs).lookup x=some c->env.cells.lookup x=some c
 | [],_,h,x,c,e=>h x c e
 | (n,k)::r,cs,h,x,c,e=>by
  refine GV (ns:=r) ?_ x c e;intro y d q;by_cases hk:(k==NameKind.free)=true
  ·rw[if_pos hk]at q;cases hl:env.cells.lookup n with
   | none=>rw[hl]at q;exact h y d q
   | some a=>
    rw[hl]at q;have q:((n,a)::cs).lookup y=some d:=q;rw[List.lookup_cons]at q;cases hy:(y==n)with
    | true=>
     rw[hy]at q;have e1:y=n:=by simpa using hy
     have e2:a=d:=by simpa using q
     rw[e1,hl,e2]
    | false=>rw[hy]at q;exact h y d q
  ·rw[if_neg hk]at q;exact h y d q
theorem kQ{env:Env}:∀{ns:List (Str×NameKind)} {cs:List (Str×Addr)} {x:Str},(∃c,cs.lookup x=some c)->∃c,(yU env ns cs).lookup x=some c
 | [],_,_,h=>h
 | (n,k)::r,cs,x,h=>by
  refine kQ (ns:=r) ?_;by_cases hk:(k==NameKind.free)=true
  ·rw[if_pos hk];cases hl:env.cells.lookup n with
   | none=>exact h
   | some a=>
    show∃c,((n,a)::cs).lookup x=some c;rw[List.lookup_cons];cases hy:(x==n)with
    | true=>exact⟨a,rfl⟩
    | false=>exact h
  ·rw[if_neg hk];exact h
theorem gy{env:Env}:∀{ns:List (Str×NameKind)} {cs:List (Str×Addr)} {x:Str},(x,NameKind.free)∈ns->(∃c,env.cells.lookup x=some c)->∃c,(yU env ns cs).lookup x=some c
 | (n,k)::r,cs,x,hm,hc=>by
  rcases uTa hm with e | hm
  ·cases e;obtain⟨c,hc⟩:=hc;refine kQ (ns:=r) ?_;rw[if_pos (by rfl)];rw[hc];exact⟨c,by rw[List.lookup_cons];simp⟩
  ·exact gy (ns:=r) hm hc
def Ut{scope:Scope}{env:Env}(h:∀y∈scope.names,y.2=.free->∃c,env.cells.lookup y.1=some c):closureFor scope env=pure (yU env scope.names []):=by
 unfold closureFor;have go:∀(ns:List (Str×NameKind)) (cs:List (Str×Addr)),(∀y∈ns,y.2=.free->∃c,env.cells.lookup y.1=some c)->
   (forIn ns cs fun(x:Str×NameKind) (r:List (Str×Addr))=>(match x with
    | (name,kind)=>if (kind==NameKind.free)=true then(do let a<-cellOf env name;pure (ForInStep.yield ((name,a)::r)))else pure (ForInStep.yield r):Sem (ForInStep (List (Str×Addr)))))=pure (yU env ns cs):=by
  intro ns;induction ns with
  | nil=>intro cs _;rfl
  | cons p r ih=>
   obtain⟨n,k⟩:=p;intro cs hh;rw[List.forIn_cons];by_cases hk:(k==NameKind.free)=true
   ·obtain⟨c,hc⟩:=hh (n,k) wNa (by simpa using hk);have hc:env.cells.lookup n=some c:=hc;have e1:cellOf env n=pure c:=by unfold cellOf;rw[hc]
    have e2:yU env ((n,k)::r) cs=yU env r ((n,c)::cs):=by
     show yU env r (if (k==NameKind.free)=true then _ else _)=_;rw[if_pos hk,hc]
    dsimp only;rw[if_pos hk,e1,e2,<-ih ((n,c)::cs) fun y hy=>hh y (List.mem_cons_of_mem _ hy)];rfl
   ·have e2:yU env ((n,k)::r) cs=yU env r cs:=by
     show yU env r (if (k==NameKind.free)=true then _ else _)=_;rw[if_neg hk]
    dsimp only;rw[if_neg hk,e2,<-ih cs fun y hy=>hh y (List.mem_cons_of_mem _ hy)];rfl
 exact(congrArg (fun m=>m >>= fun r=>(pure r:Sem (List (Str×Addr)))) (go scope.names [] h)).trans rfl
def Cx.comp(X:Cx)(N':List Str)(scope:Scope)(s3:Shared)(H3:Hp)(ex':List Addr):Cx:=
 { X with N:=N',s₀:=s3,H₀:=H3,env:=compEnvC scope (yU X.env scope.names []) s3.heap.objs.size X.env,outer:=X.stack,stack:=X.stack,ex:=ex',fn:=fun _=>false,pn:=[],xe:=fun _ _=>False }
inductive Caps (X:Cx) (scope:Scope):List (Str×Nat)->Prop
 | nil:Caps X scope []
 | cons {y:Str} {j:Nat} {r:List (Str×Nat)}:X.N[j]?=some y->(X.env.kindOf y=some .cell \/ X.env.kindOf y=some .free)->scope.names.lookup y=some .free->Caps X scope r->Caps X scope ((y,j)::r)
theorem Caps.get{X:Cx}{scope:Scope}:∀{caps:List (Str×Nat)} {k:Nat} {y:Str} {j:Nat},Caps X scope caps->caps[k]?=some (y,j)->
  X.N[j]?=some y/\(X.env.kindOf y=some .cell \/ X.env.kindOf y=some .free)/\scope.names.lookup y=some .free
 | _,_,_,_,.nil,e=>by simp at e
 | _,0,_,_,.cons a b c _,e=>by simp at e;obtain⟨rfl,rfl⟩:=e;exact⟨a,b,c⟩
 | _,k+1,_,_,.cons _ _ _ t,e=>Caps.get (k:=k) t (by simpa using e)
noncomputable abbrev cN(own:List Str)(caps:List (Str×Nat)):List Str:=own++caps.map (·.1)
noncomputable abbrev Yk(own:List Str)(caps:List (Str×Nat))(U:St):St:=own.map (fun _=>none)++caps.map fun p=>(U[p.2]?).join
def Zf(X:Cx)(ifs:List Expr)(t:TT):Prop:=
 ∀(pins:List (Addr×Obj)) (s:Shared) (U:St) (H:Hp) (Q:Bool->Hp->Prop),Inv X pins U H s->t U H Q->
  wpAny (model X.prog X.w) X.A (forIn ifs true fun c r=>if r=true then do let ok<-isTrue c X.env (eval c X.env);pure (ForInStep.yield ok)else pure (ForInStep.yield r)) (TP X pins U Q) X.xe s
def Dy:TT:=fun _ H Q=>Q true H
def Ar{X:Cx}:Zf X [] Dy:=fun _ _ _ H _ I h=>wpAny_tests_nil ⟨H,I,h⟩
def As{X:Cx}{c:Expr}{t:TT}(h:PT X c t):Zf X [c] t:=fun pins s U H Q I q=>wpAny_tests_one (h pins s U H Q I q)
def uu{scope:Scope}{env:Env}{x:Str}{k:NameKind}(h:(relabel scope env).names.lookup x=some k):∃k0,scope.names.lookup x=some k0/\(k=k0 \/ (k0=.free/\k=.cell)):=by
 have go:∀ns:List (Str×NameKind),(ns.map fun(n,k)=>if (k==NameKind.free&&env.scope.kind==.function&&env.kindOf n==some .cell)then(n,NameKind.cell)else(n,k)).lookup x=some k->
   ∃k0,ns.lookup x=some k0/\(k=k0 \/ (k0=.free/\k=.cell)):=by
  intro ns;induction ns with
  | nil=>intro q;simp at q
  | cons p r ih=>
   obtain⟨n,k1⟩:=p;intro q;have q:List.lookup x ((if (k1==NameKind.free&&env.scope.kind==.function&&env.kindOf n==some .cell)=true then(n,NameKind.cell)else(n,k1))::(r.map fun(n,k)=>if (k==NameKind.free&&env.scope.kind==.function&&env.kindOf n==some .cell)then(n,NameKind.cell)else(n,k)))=some k:=q;by_cases hc:(k1==NameKind.free&&env.scope.kind==.function&&env.kindOf n==some .cell)=true
   ·rw[if_pos hc,List.lookup_cons]at q;rw[List.lookup_cons];cases hx:(x==n)with
    | true=>
     rw[hx]at q;have e:NameKind.cell=k:=by simpa using q
     refine⟨k1,rfl,.inr ⟨?_,e.symm⟩⟩;simp only[Bool.and_eq_true]at hc;simpa using hc.1.1
    | false=>rw[hx]at q;exact ih q
   ·rw[if_neg hc,List.lookup_cons]at q;rw[List.lookup_cons];cases hx:(x==n)with
    | true=>
     rw[hx]at q;have e:k1=k:=by simpa using q
     exact⟨k1,rfl,.inl e.symm⟩
    | false=>rw[hx]at q;exact ih q
 exact go scope.names h
def KJ(k:Nat)(J:It)(U0:St)(g:TG)(tc:TT)(te:TE)(Qv:VK)(W:Nat->Nat->List V->Hp->Prop):Prop:=∀i m vs H,W i m vs H->
  (J.stop i H/\vs.length<=sizeLine/\∀D,H D=none->Qv (.ref D) (upd H D (.lst vs))) \/
  (J.go i H/\vs.length < sizeLine/\∃N:List V->Hp->Prop,(∀vs' H',N vs' H'->∃m',m' < m/\W (i+1) m' vs' H')/\
   ∀x H',J.yld i H x H'->g x U0 H' fun U2 H2=>U2.drop k=U0.drop k/\tc U2 H2 fun b H3=>if b=true then te U2 H3 fun y H4=>N (vs++[y]) H4 else N vs H3)
section
variable {X:Cx} {elt tg iter:Expr} {ifs:List Expr} {scope:Scope} {pos:Pos} {own:List Str} {caps:List (Str×Nat)} {g:TG} {tc:TT} {te:TE} {pins:List (Addr×Obj)} {U:St} {H:Hp} {s2:Shared} {J:It} {fp:List Addr} {it:Addr} {tn:Nat->Heap->Prop} {Qv:VK}
def Au(hcell:∀y∈scope.names,y.2≠.cell)(hkind:scope.kind=.function)
  (hfr:∀y∈scope.names,y.2=.free->X.env.kindOf y.1=some .cell \/ X.env.kindOf y.1=some .free)
  (I:Inv X pins U H s2) {ex':List Addr} (hf:∀b∈ex',b < s2.heap.objs.size/\Je X pins H b):(X.comp (cN own caps) scope s2 H ex').Ok:=by
 have cin:∀x c,(yU X.env scope.names []).lookup x=some c->X.env.cells.lookup x=some c:=GV fun _ _ e=>by simp at e
 refine⟨I.ok.mod,hkind,I.ok.glob,I.ok.blt,wPa _,fun x y c h1 h2=>I.ok.inj x y c (cin x c h1) (cin y c h2),fun x hx=>?_,fun _ _ z=>(by cases z),I.ok.hd,I.ok.frames,.inl rfl,fun b hb=>⟨wTa (hf b hb).1,fun x c h=>(hf b hb).2.2.2.2.2.1 x c (cin x c h)⟩,
  I.bs,wSa I.ok.bsz I.sz,fun b o e hb=>?_,fun b hb hs=>?_,I.stack,I.stkFree⟩
 ·have q:∃k,(relabel scope X.env).names.lookup x=some k/\(k=.cell \/ k=.free):=by
   rcases hx with hx | hx
   ·exact⟨_,hx,.inl rfl⟩
   ·exact⟨_,hx,.inr rfl⟩
  obtain⟨k,q,hk⟩:=q;obtain⟨k0,q0,hk0⟩:=uu q;have m0:=PySem.mem_of_lookup q0;have e0:k0=.free:=by
   rcases hk0 with e | e
   ·rcases hk with z | z
    ·exact vDa (e.symm.trans z) (hcell _ m0)
    ·exact e.symm.trans z
   ·exact e.1
  subst e0;exact gy m0 (I.ok.has x (hfr _ m0 rfl))
 ·rcases(hf b hb).2.2.2.2.1 with z | z
  ·exact I.ok.noex b o e z
  ·exact vDa (Nat.lt_of_lt_of_le (wLa e) (wSa I.ok.bsz z)) (wUa _)
 ·rcases uTa (I.stkSub b hs)with z | z
  ·exact(hf b hb).2.2.1 z
  ·exact(hf b hb).2.2.2.1 z
def VH(hcell:∀y∈scope.names,y.2≠.cell)(hkind:scope.kind=.function)
  (hfr:∀y∈scope.names,y.2=.free->X.env.kindOf y.1=some .cell \/ X.env.kindOf y.1=some .free) (hcap:Caps X scope caps)
  (I:Inv X pins U H s2) {ex':List Addr} (hf:∀b∈ex',b < s2.heap.objs.size/\Je X pins H b) {h1:Heap} {t:Nat} {m:Str->Option Value} (hn:h1.Ns s2.heap.objs.size m) (hk:∀b o,s2.heap.get? b=some o->h1.get? b=some o):
  Inv (X.comp (cN own caps) scope s2 H ex') [] (Yk own caps U) H { s2 with heap:=h1,toks:=t }:=by
 have cin:∀x c,(yU X.env scope.names []).lookup x=some c->X.env.cells.lookup x=some c:=GV fun _ _ e=>by simp at e
 have ok:=Au (own:=own) (caps:=caps) hcell hkind hfr I hf;refine⟨ok,rfl,I.bare,Un.kept hk,⟨m,hn,fun i x v e1 e2 e3=>?_⟩,fun x c e=>?_,I.hok.fresh (wPa _),fun x c e=>I.freeC x c (cin x c e),fun p hp=>vDa (show p∈([]:List (Addr×Obj)) from hp) (by simp),I.hok.kept hk,by simp[Cx.comp,cN,Yk]⟩
 ·by_cases hi:i < own.length
  ·have e2:(own.map (fun _=>(none:Option V))++caps.map fun p=>(U[p.2]?).join)[i]?=some (some v):=e2;rw[uRa (by simpa using hi),uAa]at e2;cases q:own[i]? with
   | none=>rw[q]at e2;cases e2
   | some _=>rw[q]at e2;cases e2
  ·have e2:(own.map (fun _=>(none:Option V))++caps.map fun p=>(U[p.2]?).join)[i]?=some (some v):=e2;have e1:(own++caps.map (·.1))[i]?=some x:=e1;rw[List.getElem?_append_right (by simpa using hi),uAa]at e2;rw[List.getElem?_append_right (by simpa using hi),uAa]at e1;rw[vYa]at e2;cases q:caps[i - own.length]? with
   | none=>rw[q]at e1;cases e1
   | some p=>
    obtain⟨y,j⟩:=p;rw[q]at e1 e2;have e1:y=x:=vFa e1;subst e1;have e2:(U[j]?).join=some v:=vFa e2;obtain⟨a1,a2,a3⟩:=hcap.get q;have sj:U[j]?=some (some v):=by
     cases z:U[j]? with
     | none=>rw[z]at e2;cases e2
     | some z'=>rw[z]at e2;exact congrArg some e2
    obtain⟨m0,hn0,hl0⟩:=I.loc;have vis:qQ X.env.scope y:=by
     rcases a2 with z | z
     ·exact .inr (.inl z)
     ·exact .inr (.inr z)
    obtain⟨u,r,l⟩:=hl0 j y v a1 sj vis;refine⟨u,r,.inr ⟨?_,?_⟩⟩
    ·rcases e3 with z | z
     ·obtain⟨k0,q0,hk0⟩:=uu z;rw[a3]at q0;cases q0;rcases hk0 with z' | z'
      ·cases z'
      ·cases z'.2
     ·exact z
    ·rcases l with⟨hk',_⟩ | ⟨_,c,hc,z⟩
     ·rcases a2 with z | z <;> rw[hk']at z <;> cases z
     ·obtain⟨c',hc'⟩:=gy (cs:=[]) (PySem.mem_of_lookup a3) ⟨c,hc⟩;have:=cin y c' hc';rw[hc]at this;cases this;obtain⟨o,ho,hd⟩:=z;exact⟨c,hc',o,hk c o ho,hd⟩
 ·obtain⟨v,o,ho,hd⟩:=I.cell x c (cin x c e);exact⟨v,o,hk c o ho,hd⟩
end
section
variable {X:Cx} {elt tg iter:Expr} {ifs:List Expr} {scope:Scope} {pos:Pos} {own:List Str} {caps:List (Str×Nat)} {g:TG} {tc:TT} {te:TE} {pins:List (Addr×Obj)} {U:St} {H:Hp} {s2:Shared} {J:It} {fp:List Addr} {it:Addr} {tn:Nat->Heap->Prop} {Qv:VK}
def yw.adopt{P:Program}{w:World}{H:Hp}{h:Heap}{D:Addr}{vs:List V}{ys:List Value}{k:Nat}(x:yw P w H h)(hn:H D=none)(hl:vs.length<=sizeLine)(r:jj vs ys)(e:h.get? D=some { cls:=.type "list",data:=.seq ys.toArray k }):yw P w (upd H D (.lst vs)) h:=fun b u q=>by
 by_cases hb:b=D
 ·subst hb;rw[jV]at q;cases q;exact⟨hl,ys,k,r,e⟩
 ·rw[jq hb]at q;exact(x b u q).stay (fun _ _ _ z=>z) (fun c z=>by rw[jq (jJ z hn)];exact z) fun c xs z=>by rw[jq (jJ z hn)];exact z
def Q5{N':List Str}{U':St}{H':Hp}{s':Shared}{D:Addr}{vs:List V}{ys:List Value}{k:Nat}(I:Inv X pins U H s2)(hD:D < s2.heap.objs.size)(fD:Je X pins H D)(hf:∀b∈fp,Je X pins H b)
  (J':Inv (X.comp N' scope s2 H (D::fp)) [] U' H' s') (hn:H' D=none) (hl:vs.length<=sizeLine) (r:jj vs ys) (e:s'.heap.get? D=some { cls:=.type "list",data:=.seq ys.toArray k }):
  Inv X pins U (upd H' D (.lst vs)) s':=by
 have u:Un (vG X.stack) (D::fp) H H' s2.heap s'.heap:=J'.base;have nD:∀b,b∉D::fp->b≠D:=fun b hb z=>hb (by rw[z];exact wNa);refine I.call' (ch:=D::fp) J'.os ⟨u.keep,u.slot,fun b o q n hx=>?_,u.there,fun b xs q=>?_,fun b o v q=>?_,fun b ps q=>?_⟩ (J'.hok.adopt hn hl r e) J'.bare fun b hb=>?_
 ·rw[jq (nD b hx)];exact u.free b o q n hx
 ·rw[jq (jJ q fD.1)];exact u.tups b xs q
 ·rw[jq (jJ q fD.1)];exact u.frzs b o v q
 ·rw[jq (jJ q fD.1)];exact u.tbls b ps q
 ·have F:Je X pins H b:=by
   rcases uTa hb with z | z
   ·rw[z];exact fD
   ·exact hf b z
  exact⟨F.2.2.2.1,F.2.1,F.2.2.2.2.1,F.2.2.2.2.2⟩
def Av{C:Addr}{D:Addr}{W:Nat->Nat->List V->Hp->Prop}(hc:X.calm=true)
  (hg:∀s3 H3 ex',PG (X.comp (cN own caps) scope s3 H3 ex') tg g) (ht:∀s3 H3 ex',Zf (X.comp (cN own caps) scope s3 H3 ex') ifs tc) (he:∀s3 H3 ex',PE (X.comp (cN own caps) scope s3 H3 ex') elt te)
  (I:Inv X pins U H s2) (hD:D < s2.heap.objs.size) (fD:Je X pins H D) (nDf:D∉fp) (hfl:∀b∈fp,b < s2.heap.objs.size) (hf:∀b∈fp,Je X pins H b) (T:Turn X.prog X.w X.K tg J fp it tn) (turn:KJ own.length J (Yk own caps U) g tc te Qv W)
  (R:Result->Shared->Prop) (hR:∀s',(∃H' m,Inv X pins U H' s'/\s'.heap.Ns s2.heap.objs.size m/\Je X pins H' s2.heap.objs.size/\Qv (.ref D) H')->R (.ok .next) s')
  (n:Nat) (s4:Shared) (st:∃i vs H' ys k,Inv (X.comp (cN own caps) scope s2 H (D::fp)) [] (Yk own caps U) H' s4/\tn i s4.heap/\(∀b∈fp,H' b=none)/\H' D=none/\
   s4.heap.get? D=some { cls:=.type "list",data:=.seq (ys:List Value).toArray k }/\jj vs ys/\W i n vs H'):
  codeAny (model X.prog X.w) X.A (.compLoop (.ListComp elt [⟨tg,iter,ifs,0⟩] scope pos) 0 (.ref it) (.ref D) (X.comp (cN own caps) scope s2 H (D::fp)).env) R s4:=by
 let Y:=X.comp (cN own caps) scope s2 H (D::fp)
 have stat:∀{H':Hp},H' D=none->(∀b∈fp,H' b=none)->∀s':Shared,∀U',Inv Y [] U' H' s'->∀b∈D::fp,Je Y [] H' b:=fun {H'} h0 h1 s' U' I' b hb=>by
  have hb':b < s2.heap.objs.size:=by
   rcases uTa hb with z | z
   ·rw[z];exact hD
   ·exact hfl b z
  refine⟨?_,wTa hb',I'.ok.exfs b hb,.inl hb,(I'.ok.exf b hb).2,fun p hp=>vDa (show p∈([]:List (Addr×Obj)) from hp) (by simp)⟩;rcases uTa hb with z | z
  ·rw[z];exact h0
  ·exact h1 b z
 refine codeAny_loop rfl (fun n s'=>∃i vs H' ys k,Inv Y [] (Yk own caps U) H' s'/\tn i s'.heap/\(∀b∈fp,H' b=none)/\H' D=none/\
   s'.heap.get? D=some { cls:=.type "list",data:=.seq (ys:List Value).toArray k }/\jj vs ys/\W i n vs H') ?_ n st
 rintro n s3 ⟨i,vs,H3,ys,k,I3,st3,fr3,n3,g3,r3,w3⟩;show wpAny _ _ ((compTurn (.ListComp elt [⟨tg,iter,ifs,0⟩] scope pos) 0 (.ref it) (.ref D) Y.env).onRaise (fun x=>do noteFrame x Y.env;theTreesLotGoes x)) _ _ s3;refine wpAny_noted ?_;rw[compTurn_list];have F0:=stat n3 fr3 s3 _ I3;have pinD:∀{U':St} {H':Hp} {s':Shared} {ps:List (Addr×Obj)} {zs:List Value} {kk:Nat},Inv Y ps U' H' s'->H' D=none->s'.heap.get? D=some { cls:=.type "list",data:=.seq zs.toArray kk }->Inv Y (ps++[(D,{ cls:=.type "list",data:=.seq zs.toArray kk })]) U' H' s':=fun {U' H' s' ps zs kk} I' hn hg'=>
  I'.pins_of fun p hp=>(uWa hp).elim (fun z=>I'.pin p (vJa _ z)) fun z=>by
   have e:p=(D,{ cls:=.type "list",data:=.seq zs.toArray kk }):=by simpa using z
   subst e;have f:=(stat n3 fr3 s3 _ I3) D wNa;exact⟨hg',hn,f.2.1,f.2.2.1,fun v z=>by cases z⟩
 have I3p:=pinD I3 n3 g3;have F3:∀b∈fp,Je Y ([]++[(D,{ cls:=.type "list",data:=.seq ys.toArray k })]) H3 b:=fun b hb=>by
  obtain⟨f0,f1,f2,f3,f4,f5⟩:=F0 b (wMa _ hb);refine⟨f0,f1,f2,f3,f4,fun p hp z=>?_⟩;have e:p=(D,{ cls:=.type "list",data:=.seq ys.toArray k }):=by simpa[Y,Cx.comp]using hp
  subst e;exact nDf (by rw[show D=b from z];exact hb)
 rcases turn i n vs H3 w3 with⟨stop,hl,q⟩ | ⟨go,hl,N,hN,step⟩
 ·refine wAa (vOa (wAa (wCa (T.done Y rfl rfl rfl hc i _ s3 _ H3 (fun _ _=>False) I3p F3 st3 stop) (fun r s5 h5=>?_) fun _ _ z=>z.elim)));obtain⟨hr,I5p⟩:=h5;subst hr;refine wBa (hR s5 ?_);have g5:s5.heap.get? D=some { cls:=.type "list",data:=.seq ys.toArray k }:=(I5p.pin (D,_) (by simp)).1;have I5:Inv Y [] (Yk own caps U) H3 s5:=I5p.unpinned (pins:=[]);obtain⟨m5,hm5,_⟩:=id I5.loc;refine⟨_,m5,Q5 I hD fD hf I5 n3 hl r3 g5,hm5,I.fpOk (wPa _) ?_,q D n3⟩;rw[jq (Nat.ne_of_gt hD)];exact I5.free
 ·refine wAa (vOa (wAa (wCa (T.item Y rfl rfl rfl hc i _ s3 _ H3 (fun _ _=>False) I3p F3 st3 go) (fun r s5 h5=>?_) fun _ _ z=>z.elim)));obtain⟨u,hr,h5⟩:=h5;subst hr;refine wAa (wCa h5 (fun _ s6 h6=>?_) fun _ _ z=>z.elim);obtain⟨x,H6,I6,r6,y6,st6,fr6⟩:=h6;have F6:∀b∈fp,Je Y ([]++[(D,{ cls:=.type "list",data:=.seq ys.toArray k })]) H6 b:=fun b hb=>⟨fr6 b hb,(F3 b hb).2⟩
  have I6':=I6.pinned F6 (T.obj _ _ st6);refine wAa (wCa (hg s2 H (D::fp) _ s6 _ H6 x u _ I6' r6 (step x H6 y6)) (fun _ s7 h7=>?_) fun _ _ z=>z.elim);obtain⟨U7,H7,I7,d7,q7⟩:=h7;refine wAa (wCa (ht s2 H (D::fp) _ s7 U7 H7 _ I7 q7) (fun b s8 h8=>?_) fun _ _ z=>z.elim);obtain⟨H8,I8,q8⟩:=h8;have fin:∀{s9:Shared} {H9:Hp} {vs':List V} {zs:List Value} {kk:Nat},Inv Y [] U7 H9 s9->tn (i+1) s9.heap->(∀b∈fp,H9 b=none)->H9 D=none->s9.heap.get? D=some { cls:=.type "list",data:=.seq zs.toArray kk }->jj vs' zs->N vs' H9->
    ∃m,m < n/\∃i vs H' ys k,Inv Y [] (Yk own caps U) H' s9/\tn i s9.heap/\(∀b∈fp,H' b=none)/\H' D=none/\s9.heap.get? D=some { cls:=.type "list",data:=.seq (ys:List Value).toArray k }/\jj vs ys/\W i m vs H':=fun {s9 H9 vs' zs kk} I9 st9 fr9 n9 g9 r9 w9=>by
   obtain⟨m',hm,w'⟩:=hN vs' H9 w9;refine⟨m',hm,i+1,vs',H9,zs,kk,?_,st9,fr9,n9,g9,r9,w'⟩;have l9:U7.length=(Yk own caps U).length:=I9.len.trans (by simp[Y,Cx.comp,cN,Yk]);refine I9.weak l9.symm fun j v e=>?_;by_cases hj:j < own.length
   ·rw[uRa (by simpa using hj),uAa]at e;cases q:own[j]? with
    | none=>rw[q]at e;cases e
    | some _=>rw[q]at e;cases e
   ·have z:=congrArg (fun l=>l[j - own.length]?) d7;simp only[List.getElem?_drop]at z;have ej:own.length+(j - own.length)=j:=by omega
    rw[ej]at z;exact z.trans e
  have pins8:∀{s9:Shared} {H9:Hp},Inv Y ([]++[(D,{ cls:=.type "list",data:=.seq ys.toArray k })]++ul fp s6.heap) U7 H9 s9->tn (i+1) s9.heap/\(∀b∈fp,H9 b=none)/\H9 D=none/\s9.heap.get? D=some { cls:=.type "list",data:=.seq ys.toArray k }:=fun {s9 H9} I9=>by
   refine⟨T.keep _ _ _ st6 fun b hb o e=>(I9.pin (b,o) (vJa _ (vJa _ (Yd hb e)))).1,fun b hb=>?_,(I9.pin (D,{ cls:=.type "list",data:=.seq ys.toArray k }) (vJa _ (vIa _ (by simp)))).2.1,(I9.pin (D,{ cls:=.type "list",data:=.seq ys.toArray k }) (vJa _ (vIa _ (by simp)))).1⟩;obtain⟨o,e,d⟩:=T.obj _ _ st6 b hb;exact(I9.pin (b,o) (vJa _ (vJa _ (Yd hb e)))).2.1
  cases b with
  | false=>
   obtain⟨a1,a2,a3,a4⟩:=pins8 I8;exact wBa ⟨rfl,fin (I8.unpinned.unpinned) a1 a2 a3 a4 r3 q8⟩
  | true=>
   refine wAa (wAa (wCa (he s2 H (D::fp) _ s8 U7 H8 _ I8 q8) (fun y s9 h9=>?_) fun _ _ z=>z.elim));obtain⟨v9,H9,I9,r9,q9⟩:=h9;obtain⟨a1,a2,a3,a4⟩:=pins8 I9;have hlz:ys.toArray.size<=sizeLine:=by
    have:=r3.length;simp only[List.size_toArray];omega
   refine wAa (wpAny_list_append_plain (hsz:=hlz) ⟨k,a4⟩ fun h' hp sb=>wBa (wBa ⟨rfl,?_⟩));obtain⟨k',g'⟩:=hp;have I9':Inv Y [] U7 H9 s9:=I9.unpinned.unpinned;have F9:=stat a3 a2 s9 _ I9' D wNa;obtain⟨f0,f1,f2,f3,f4,f5⟩:=F9;have I10:Inv Y [] U7 H9 { s9 with heap:=h' }:=I9'.turned (t':=s9.toks) (fun b o hb e=>(sb.2 b hb).trans e) f0 f1 f3 f4 f5;refine fin (zs:=ys++[y]) (kk:=k') I10 (T.keep _ _ _ a1 fun b hb o e=>(sb.2 b fun z=>nDf (by rw[<-z];exact hb)).trans e) a2 a3 ?_ (r3.append (.cons r9 .nil)) q9;rw[g'];simp
end
structure CScope (X:Cx) (scope:Scope):Prop where
 kind:scope.kind=.function
 loc:(scope.names.all fun y=>y.2 != .local||scope.names.lookup y.1==some .local)=true
 nocell:(scope.names.all fun y=>y.2 != .cell)=true
 free:(scope.names.all fun y=>y.2 != .free||X.env.scope.names.lookup y.1==some .cell||X.env.scope.names.lookup y.1==some .free)=true
section
variable {X:Cx} {elt tg iter:Expr} {ifs:List Expr} {scope:Scope} {pos:Pos} {own:List Str} {caps:List (Str×Nat)} {g:TG} {tc:TT} {te:TE} {pins:List (Addr×Obj)} {U:St} {H:Hp} {s2:Shared} {J:It} {fp:List Addr} {it:Addr} {tn:Nat->Heap->Prop} {Qv:VK}
def CScope.l(S:CScope X scope):∀x∈scope.names,x.2=.local->scope.names.lookup x.1=some .local:=fun x hx e=>by
 have:=List.all_eq_true.mp S.loc x hx;rw[e]at this;simpa using this
def CScope.c(S:CScope X scope):∀x∈scope.names,x.2≠.cell:=fun x hx e=>by
 have:=List.all_eq_true.mp S.nocell x hx;rw[e]at this;simp at this
def CScope.f(S:CScope X scope):∀y∈scope.names,y.2=.free->X.env.kindOf y.1=some .cell \/ X.env.kindOf y.1=some .free:=fun x hx e=>by
 have:=List.all_eq_true.mp S.free x hx;rw[e]at this;simpa[Env.kindOf]using this
def Wp{E:Value->Shared->Prop}{RR:Value->Addr->Result->Shared->Prop}(S:CScope X scope)(hcap:Caps X scope caps)(hc:X.calm=true)
  (hg:∀s3 H3 ex',PG (X.comp (cN own caps) scope s3 H3 ex') tg g) (ht:∀s3 H3 ex',Zf (X.comp (cN own caps) scope s3 H3 ex') ifs tc) (he:∀s3 H3 ex',PE (X.comp (cN own caps) scope s3 H3 ex') elt te)
  (I:Inv X pins U H s2) (T:Turn X.prog X.w X.K tg J fp it tn) (st:tn 0 s2.heap) (hf:∀b∈fp,Je X pins H b)
  (w:∃W,(∃m,W 0 m [] H)/\KJ own.length J (Yk own caps U) g tc te Qv W)
  (hRR:∀D C s' H' m,Inv X pins U H' s'->s'.heap.Ns C m->Je X pins H' C->Qv (.ref D) H'->RR (.ref D) C (.ok .next) s'):
  wpAny (model X.prog X.w) X.A (newList []) (fun acc s3=>wpAny (model X.prog X.w) X.A (newFunctionEnv scope X.env.globals (yU X.env scope.names []) [] X.env.qual none .none (some X.env)) (fun cenv s4=>
   codeAny (model X.prog X.w) X.A (.compStart (.ListComp elt [⟨tg,iter,ifs,0⟩] scope pos) 0 (.ref it) acc { cenv with scope:=relabel scope X.env }) (RR acc cenv.locals) s4) E s3) E s2:=by
 obtain⟨W,⟨m0,w0⟩,turn⟩:=w;refine vTa (wpAny_newFunctionEnv S.c (by intro y hy;simp at hy) (fun h1 hns hsb=>?_) S.kind);have hlt:∀b∈fp,b < s2.heap.objs.size:=fun b hb=>by
  obtain⟨o,e,_⟩:=T.obj _ _ st b hb;exact wLa e
 let s3:Shared:={ s2 with heap:=s2.heap.push { cls:=.type "list",dict:=none,data:=.seq ([]:List Value).toArray } }
 have e3:s3.heap.objs.size=s2.heap.objs.size+1:=Heap.size_push ..;have I3:Inv X pins U H s3:=I.kept (t':=s2.toks) fun b o e=>wIa _ e;have fD:Je X pins H s2.heap.objs.size:=I.fpOk (wPa _) (I.hok.fresh (wPa _));have hk:∀b o,s3.heap.get? b=some o->h1.get? b=some o:=fun b o e=>hsb.extBut b o (wTa (wLa e)) (wIa _ e);have hD:s2.heap.objs.size < s3.heap.objs.size:=by rw[e3];exact Nat.lt_succ_self _
 have hl3:∀b∈fp,b < s3.heap.objs.size:=fun b hb=>Nat.lt_trans (hlt b hb) hD;have I4:Inv (X.comp (cN own caps) scope s3 H (s2.heap.objs.size::fp)) [] (Yk own caps U) H { s3 with heap:=h1,toks:=s2.toks+([]:List (Str×Value)).length }:=by
  refine VH S.c S.kind S.f hcap I3 (fun b hb=>?_) hns hk;rcases uTa hb with z | z
  ·rw[z];exact⟨hD,fD⟩
  ·exact⟨hl3 b z,hf b z⟩
 have st4:tn 0 h1:=T.keep _ _ _ st fun b hb o e=>hk b o (wIa _ e);have g4:h1.get? s2.heap.objs.size=some { cls:=.type "list",data:=.seq ([]:List Value).toArray }:=hk _ _ (wJa _ rfl);have loop:=Av (C:=0) (iter:=iter) (pos:=pos) hc hg ht he I3 hD fD (fun z=>wUa _ (hlt _ z)) hl3 hf T turn (RR (.ref s2.heap.objs.size) s3.heap.objs.size) (fun s' ⟨H',m,a1,a2,a3,a4⟩=>hRR _ _ s' H' m a1 a2 a3 a4) m0
  { s3 with heap:=h1,toks:=s2.toks+([]:List (Str×Value)).length } ⟨0,[],H,[],0,I4,st4,fun b hb=>(hf b hb).1,fD.1,g4,.nil,w0⟩
 exact codeAny_compStart_list loop (T.self _ 0 _ _ _ st4 loop)
def Wq(own:List Str)(caps:List (Str×Nat))(wi:TI)(g:TG)(tc:TT)(te:TE):TE:=fun U H Q=>wi U H fun J H1=>∃W,(∃m,W 0 m [] H1)/\KJ own.length J (Yk own caps U) g tc te Q W
def Dz{wi:TI}(own:List Str)(caps:List (Str×Nat))(S:CScope X scope)(hcap:Caps X scope caps)(hc:X.calm=true)(hi:PI X tg iter wi)
  (hg:∀s3 H3 ex',PG (X.comp (cN own caps) scope s3 H3 ex') tg g) (ht:∀s3 H3 ex',Zf (X.comp (cN own caps) scope s3 H3 ex') ifs tc) (he:∀s3 H3 ex',PE (X.comp (cN own caps) scope s3 H3 ex') elt te)
  (hs:∀x,foldedSetIterable iter X.env x=pure x:=by intro _;rfl):PE X (.ListComp elt [⟨tg,iter,ifs,0⟩] scope pos) (Wq own caps wi g tc te):=by
 intro pins s U H Q I h;rw[eval_ListComp];refine wpAny_comprehension_free (use:=none) rfl hs (Ut fun y hy e=>I.ok.has y.1 (S.f y hy e)) S.kind S.l (jw (hi pins s U H _ I h) fun xv s1 h1=>jw h1 fun itv s2 h2=>?_);obtain⟨it,fp,tn,J,H2,e,I2,T,st,f2,w⟩:=h2;subst e;refine Wp (RR:=fun acc C=>compPost (model X.prog X.w) X.A X.xe none (EP X pins U Q) acc C) S hcap hc hg ht he I2 T st f2 w ?_;intro D C s' H' m I' hn hf' q;refine⟨m,hn,fun h' sb=>⟨.ref D,H',?_,rfl,q⟩⟩;obtain⟨f0,f1,f2,f3,f4,f5⟩:=hf';exact I'.turned (t':=s'.toks) (fun b o hb e=>(sb.2 b hb).trans e) f0 f1 f3 f4 f5
set_option tactic.hygienic true in
theorem KK{wi:TI}(own:List Str)(caps:List (Str×Nat)){i:Nat}{x:Str}{pos' spos:Pos}(hN:X.N.Nodup)(hix:X.N[i]?=some x)(hx:UV X.env.scope x)(S:CScope X scope)(hcap:Caps X scope caps)(hc:X.calm=true)(hi:PI X tg iter wi)
  (hg:∀s3 H3 ex',PG (X.comp (cN own caps) scope s3 H3 ex') tg g) (ht:∀s3 H3 ex',Zf (X.comp (cN own caps) scope s3 H3 ex') ifs tc) (he:∀s3 H3 ex',PE (X.comp (cN own caps) scope s3 H3 ex') elt te)
  (hs:∀x,foldedSetIterable iter X.env x=pure x:=by intro _;rfl)
  (hsw:swapsWith (.ListComp elt [⟨tg,iter,ifs,0⟩] scope pos) (some (.Name x pos')) spos.line X.env=pure true:=by rfl) (hf:X.fn x=true \/ X.env.scope.names.lookup x=some .local:=by first | exact .inl rfl | exact .inr rfl | assumption):
  PS X (.Assign [.Name x pos'] (.ListComp elt [⟨tg,iter,ifs,0⟩] scope pos) spos) (Y5 (Wq own caps wi g tc te) (Yv i)):=by
 intro pins s U H D I h;rw[exec_Assign_Name_used _ _ _ _ hsw];refine wAa (vOa (wAa ?_));show wpAny _ _ (do let _<-comprehension (.ListComp elt [⟨tg,iter,ifs,0⟩] scope pos) scope X.env _ (newList []) false (eval iter X.env) (some (assign (.Name x pos') X.env))) _ _ s;refine wAa (wCa (wpAny_comprehension_free (use:=some (assign (.Name x pos') X.env)) (Q:=fun _ s'=>SP X pins D .next s') rfl hs (Ut fun y hy e=>I.ok.has y.1 (S.f y hy e)) S.kind S.l
  (jw (hi pins s U H _ I h) fun xv s1 h1=>jw h1 fun itv s2 h2=>?_)) (fun _ s' hq=>wBa (wBa hq)) fun _ _ e=>e)
 obtain⟨it,fp,tn,J,H2,e,I2,T,st,f2,w⟩:=h2;subst e;refine Wp (RR:=fun acc C=>compPost (model X.prog X.w) X.A X.xe (some (assign (.Name x pos') X.env)) (fun _ s'=>SP X pins D .next s') acc C) S hcap hc hg ht he I2 T st f2 w ?_;intro A C s' H' m I' hn hf' q;obtain⟨f0,f1,f2,f3,f4,f5⟩:=hf';show wpAny _ _ (assign (.Name x pos') X.env (.ref A)) _ _ _;refine wpAny_assign_Name (uj (v:=.ref A) I' hN hix hx rfl (fun s'' I'' hsb=>?_) hf);obtain⟨a,sb,ha⟩:=hsb;have aC:C≠a:=by
  rcases ha with z | z
  ·rw[z];exact f1
  ·exact fun e=>f4 x a z e.symm
 refine⟨m,hn.sameBut sb aC,fun h' sb'=>⟨_,H',?_,q⟩⟩;exact I''.turned (t':=s''.toks) (fun b o hb e=>(sb'.2 b hb).trans e) f0 f1 f3 f4 f5
end
inductive Sk where
 | l | t
def u7(K:uXa):Sk->Hp->Addr->List V->Prop
 | .l=>jG K
 | .t=>Jq K
def Jf:Sk->Heap->Addr->Array Value->Prop
 | .l,h,a,vs=>h.IsList a vs
 | .t,h,a,vs=>h.IsTuple a vs
def Ji:Sk->Heap->Addr->Addr->Nat->Prop
 | .l,h,it,a,i=>h.IsListIter it a i
 | .t,h,it,a,i=>h.IsTupleIter it a i
def Jf.at{k:Sk}{h h':Heap}{a:Addr}{vs:Array Value}(x:Jf k h a vs)(e:∀o,h.get? a=some o->h'.get? a=some o):Jf k h' a vs:=by
 cases k
 ·exact Heap.IsList.at x e
 ·obtain⟨o,ho,r⟩:=x;exact⟨o,e o ho,r⟩
def Ji.at{k:Sk}{h h':Heap}{it a:Addr}{i:Nat}(x:Ji k h it a i)(e:∀o,h.get? it=some o->h'.get? it=some o):Ji k h' it a i:=by
 cases k <;> (obtain⟨o,ho,r⟩:=x;exact⟨o,e o ho,r⟩)
def Ji.obj{k:Sk}{h:Heap}{it a:Addr}{i:Nat}(x:Ji k h it a i):∃o,h.get? it=some o/\∀v,o.data≠.cell v:=by
 cases k <;> (obtain⟨o,ho,_,d⟩:=x;exact⟨o,ho,fun v z=>by rw[d]at z;cases z⟩)
def Jf.lt{k:Sk}{h:Heap}{a:Addr}{vs:Array Value}(x:Jf k h a vs):a < h.objs.size:=by
 cases k <;> (obtain⟨o,ho,_⟩:=x;exact wLa ho)
section
variable {prog:Program} {w:World} {A:Around} {E:Value->Shared->Prop} {s:Shared} {it a:Addr} {i:Nat} {its:Array Value} {x:Value}
def Kb{Q:Value->Shared->Prop}(hi:s.heap.IsTupleIter it a i)(ht:s.heap.IsTuple a its)(hx:its[i]?=some x)
  (hQ:∀h',h'.IsTupleIter it a (i+1)->Heap.SameBut it s.heap h'->Q x { s with heap:=h' }):wpAny (model prog w) A (Builtin.SmallTypes.nextOf (.ref it)) Q E s:=by
 obtain⟨o,ho,hc,hd⟩:=id hi;obtain⟨oa,hoa,_,na,hda⟩:=ht;unfold Builtin.SmallTypes.nextOf;refine wAa (wpAny_callSpecial?_slot (name:=Str.ofString "__next__") hi.typeIs F.slot_tuple_iterator_next (wpAny_call_entry F.slot_tuple_iterator_next hi.typeIs F.entry_tuple_iterator_next ?_ (F.args_tuple_iterator_next_1 _)));show wpAny _ _ (field (.ref it) 0 >>= _) _ _ s;refine wAa (wpAny_field ho hd (x:=.ref a) rfl ?_);show wpAny _ _ (if (Value.ref a==Value.none)=true then _ else _) _ _ s;have nn:¬((Value.ref a==Value.none)=true):=vNa;rw[if_neg nn];show wpAny _ _ (field (.ref it) 1 >>= _) _ _ s;refine wAa (wpAny_field ho hd (x:=.int i 0) rfl ?_);show wpAny _ _ (seqItems? (.ref a) >>= _) _ _ s;refine wAa (wpAny_seqItems hoa hda ?_);simp only[Int.toNat_natCast,hx];refine wAa (wpAny_setField ho hd (by simp) (wBa ⟨x,rfl,wBa (hQ _ ⟨_,vUa _ ho (Obj.isFreed_of_fields (Obj.data_mapFields hd _)),(Obj.cls_mapFields ..).trans hc,?_⟩ (Heap.SameBut.update ..))⟩));rw[Obj.data_mapFields hd];simp[rawInt]
def KL{Q:Value->Shared->Prop}(hh:A.handled=none)(hi:s.heap.IsTupleIter it a i)(ht:s.heap.IsTuple a its)(hx:its[i]?=none)
  (hE:∀h' e,Heap.ExtBut it s.heap h'->(∃o,h'.get? e=some o/\o.cls=.type "StopIteration")->E (.ref e) { s with heap:=h' }):wpAny (model prog w) A (Builtin.SmallTypes.nextOf (.ref it)) Q E s:=by
 obtain⟨o,ho,hc,hd⟩:=id hi;obtain⟨oa,hoa,_,na,hda⟩:=ht;unfold Builtin.SmallTypes.nextOf;refine wAa (wpAny_callSpecial?_slot (name:=Str.ofString "__next__") hi.typeIs F.slot_tuple_iterator_next (wpAny_call_entry F.slot_tuple_iterator_next hi.typeIs F.entry_tuple_iterator_next ?_ (F.args_tuple_iterator_next_1 _)));show wpAny _ _ (field (.ref it) 0 >>= _) _ _ s;refine wAa (wpAny_field ho hd (x:=.ref a) rfl ?_);show wpAny _ _ (if (Value.ref a==Value.none)=true then _ else _) _ _ s;have nn:¬((Value.ref a==Value.none)=true):=vNa;rw[if_neg nn];show wpAny _ _ (field (.ref it) 1 >>= _) _ _ s;refine wAa (wpAny_field ho hd (x:=.int i 0) rfl ?_);show wpAny _ _ (seqItems? (.ref a) >>= _) _ _ s;refine wAa (wpAny_seqItems hoa hda ?_);simp only[Int.toNat_natCast,hx];refine wAa (vQa (wAa (wpAny_setField ho hd (by simp) ?_)));show wpAny _ _ (newExc (.type "StopIteration") [] >>= _) _ _ _;refine wAa ?_;simp only[newExc,newTuple];refine wAa (vTa ?_ (by size_fits));refine wAa (m:=firstArgMember _ _) (wEa (a:=Value.none) (by first | rfl | (simp only[firstArgMember];rfl)) (vTa ?_ (by size_fits)));simp only[raiseNew];refine wAa (wpAny_handled ?_)
 first | rw[show A.in1.handled=none from hh] | rw[hh]
 exact wAa (wBa (wpAny_throw (hE _ _ (((Heap.SameBut.update ..).extBut.push _).push _) ⟨_,wJa _ rfl,rfl⟩)))
def uv{k:Sk}{Q:Value->Shared->Prop}(hi:Ji k s.heap it a i)(ht:Jf k s.heap a its)(hx:its[i]?=some x)
  (hQ:∀h',Ji k h' it a (i+1)->Heap.SameBut it s.heap h'->Q x { s with heap:=h' }):wpAny (model prog w) A (Builtin.SmallTypes.nextOf (.ref it)) Q E s:=by
 cases k
 ·exact wpAny_nextOf_list_item hi ht hx hQ
 ·exact Kb hi ht hx hQ
def KM{k:Sk}{Q:Value->Shared->Prop}(hh:A.handled=none)(hi:Ji k s.heap it a i)(ht:Jf k s.heap a its)(hx:its[i]?=none)
  (hE:∀h' e,Heap.ExtBut it s.heap h'->(∃o,h'.get? e=some o/\o.cls=.type "StopIteration")->E (.ref e) { s with heap:=h' }):wpAny (model prog w) A (Builtin.SmallTypes.nextOf (.ref it)) Q E s:=by
 cases k
 ·exact wpAny_nextOf_list_end hh hi ht hx hE
 ·exact KL hh hi ht hx hE
noncomputable def VI(k:Sk)(a:Addr):Obj:={ cls:=.type (match k with | .l => "list_iterator" | .t => "tuple_iterator"),data:=.fields #[.ref a,.int 0 0] }
def Gf{k:Sk}{h:Heap}{it a:Addr}(e:h.get? it=some (VI k a)):Ji k h it a 0:=by
 cases k <;> exact⟨_,e,rfl,rfl⟩
def Wr{k:Sk}{Q:Value->Shared->Prop}(ht:Jf k s.heap a its)(hQ:Q (.ref s.heap.objs.size) { s with heap:=s.heap.push (VI k a) }):wpAny (model prog w) A (pyIter (.ref a)) Q E s:=by
 cases k
 ·exact wpAny_pyIter_list ht hQ
 ·exact wpAny_pyIter_tuple ht hQ
end
abbrev XO(k:Sk)(h:Heap)(a:Addr):Heap:=h.push (VI k a)
abbrev Q6(k j:Sk)(h:Heap)(a b:Addr):Heap:=(XO k h a).push (VI j b)
abbrev XQ(k j:Sk)(h:Heap)(a b:Addr):Heap:=(Q6 k j h a b).push { cls:=.type "tuple",data:=.seq #[.ref h.objs.size,.ref (XO k h a).objs.size] }
abbrev XR(k j:Sk)(h:Heap)(a b:Addr):Heap:=(XQ k j h a b).push { cls:=.type "tuple",data:=.seq #[.none,.none] }
abbrev KN(k j:Sk)(h:Heap)(a b:Addr):Heap:=(XR k j h a b).push { cls:=.type "zip",data:=.fields #[.none,.bool false,.bool false,.ref (Q6 k j h a b).objs.size,.ref (XQ k j h a b).objs.size] }
def Kc(k j:Sk)(a b:Addr)(xs ys:Array Value):
  Meets (Builtin.«zip.__new__» ⟨[.type "zip",.ref a,.ref b],[]⟩) (fun _ R s=>Jf k s.heap a xs/\Jf j s.heap b ys/\R (.ok (.ret (.ref (XR k j s.heap a b).objs.size))) { s with heap:=KN k j s.heap a b }):=
 .of_wp fun prog w A R s h=>by
  obtain⟨hp,g,d,tk,os⟩:=s;obtain⟨ha,hb,h⟩:=h;have hsub:=sub_zip;have ha':Jf k (Shared.heap ⟨hp,g,d,tk,os⟩) a xs:=ha;have hb':Jf j (Shared.heap ⟨hp.push (VI k a),g,d,tk,os⟩) b ys:=hb.at fun o e=>wIa _ e
  wp_walk using Wr ha',Wr hb'
  exact⟨_,rfl,h⟩
section
variable {prog:Program} {w:World} {A:Around} {E:Value->Shared->Prop} {s:Shared}
def xG{k j:Sk}{a b:Addr}{xs ys:Array Value}{Q:Value->Shared->Prop}(ha:Jf k s.heap a xs)(hb:Jf j s.heap b ys)
  (h:∀h',IsZip h' (s.heap.objs.size+4) (s.heap.objs.size+2) (s.heap.objs.size+3) .none->IsPair h' (s.heap.objs.size+2) (.ref s.heap.objs.size) (.ref (s.heap.objs.size+1))->
   IsPair h' (s.heap.objs.size+3) .none .none->Ji k h' s.heap.objs.size a 0->Ji j h' (s.heap.objs.size+1) b 0->
   (∀c o,s.heap.get? c=some o->h'.get? c=some o)->Q (.ref (s.heap.objs.size+4)) { s with heap:=h' }):
  wpAny (model prog w) A (call (.type "zip") [.ref a,.ref b]) Q E s:=by
 refine callType_new F.called_zip (by decide) (F.typeCall_zip_2 _ _) (F.newCall_zip_2 _ _) (fun obj=>F.args_object_init_3 obj _ _) F.entry_zip_new (Kc k j a b xs ys) ⟨ha,hb,?_⟩;have z1:(XO k s.heap a).objs.size=s.heap.objs.size+1:=Heap.size_push ..;have z2:(Q6 k j s.heap a b).objs.size=s.heap.objs.size+2:=by rw[uPa,z1]
 have z3:(XQ k j s.heap a b).objs.size=s.heap.objs.size+3:=by rw[uPa,z2]
 have z4:(XR k j s.heap a b).objs.size=s.heap.objs.size+4:=by rw[uPa,z3]
 have up:∀c o,(Q6 k j s.heap a b).get? c=some o->(KN k j s.heap a b).get? c=some o:=fun c o e=>wIa _ (wIa _ (wIa _ e));have g5:(KN k j s.heap a b).get? (XR k j s.heap a b).objs.size=some _:=wJa _ rfl;have g4:(KN k j s.heap a b).get? (XQ k j s.heap a b).objs.size=some _:=wIa _ (wJa _ rfl);have g3:(KN k j s.heap a b).get? (Q6 k j s.heap a b).objs.size=some _:=wIa _ (wIa _ (wJa _ rfl));have g2:(KN k j s.heap a b).get? (XO k s.heap a).objs.size=some (VI j b):=up _ _ (wJa _ rfl);have g1:(KN k j s.heap a b).get? s.heap.objs.size=some (VI k a):=up _ _ (wIa _ (wJa _ rfl));show _/\_;rw[z2,z3,z4]at g5;rw[z1,z2]at g3;rw[z3]at g4;rw[z1]at g2;rw[z4];exact⟨⟨_,g5,rfl⟩,h _ g5 g3 g4 (Gf g1) (Gf g2) fun c o x=>up c o (wIa _ (wIa _ x))⟩
variable {z TI TO i1 i2 a b:Addr} {k j:Sk} {n1 n2:Nat} {xs ys:Array Value} {x y:Value}
def xH{u v:Value}{Q:Value->Shared->Prop}(D:ZipApart z TI TO i1 i2 a b)(hz:IsZip s.heap z TI TO .none)(hTI:IsPair s.heap TI (.ref i1) (.ref i2))(hTO:IsPair s.heap TO u v)
  (h1:Ji k s.heap i1 a n1) (h2:Ji j s.heap i2 b n2) (ha:Jf k s.heap a xs) (hb:Jf j s.heap b ys) (hx:xs[n1]?=some x) (hy:ys[n2]?=some y)
  (hQ:∀h',IsZip h' z TI TO (rawInt s.heap.objs.size)->IsPair h' TO x y->Ji k h' i1 a (n1+1)->Ji j h' i2 b (n2+1)->IsPair h' s.heap.objs.size x y->
   (∀c o,c≠z->c≠TO->c≠i1->c≠i2->s.heap.get? c=some o->h'.get? c=some o)->Q (.ref s.heap.objs.size) { s with heap:=h' }):
  wpAny (model prog w) A (Builtin.«zip.__next__» ⟨[.ref z],[]⟩) (fun fin s'=>∃v,fin=.done (.ret v)/\Q v s') E s:=by
 show wpAny _ _ (field (.ref z) 2 >>= _) _ _ _;refine wAa (wpAny_field hz rfl (x:=.bool false) rfl ?_);show wpAny _ _ (field (.ref z) 3 >>= _) _ _ _;refine wAa (wpAny_field hz rfl (x:=.ref TI) rfl (wAa (wpAny_seqItems hTI rfl ?_)));show wpAny _ _ (Builtin.SmallTypes.ownedTupleIsFree (.ref z) >>= _) _ _ _;refine wAa ?_;unfold Builtin.SmallTypes.ownedTupleIsFree;refine wAa (wpAny_field hz rfl (x:=.none) rfl (wBa ?_));simp only[if_true];refine wAa (vQa (wAa (wpAny_field hz rfl (x:=.ref TO) rfl (wAa (wpAny_setField_rec hz (by simp) fun g1 z1 s1=>?_)))))
 replace z1:IsZip g1 z TI TO .ellipsis:=z1
 refine wAa ?_;simp only[List.zipIdx_cons,List.zipIdx_nil,List.forIn_cons,List.forIn_nil];have e1:∀c o,c≠z->s.heap.get? c=some o->g1.get? c=some o:=fun c o hc e=>s1.extBut c o hc e;refine wAa (wAa (wpAny_onRaise ?_));show wpAny _ _ (Builtin.SmallTypes.nextOf (.ref i1) >>= _) _ _ _;refine wAa (uv (h1.at fun o e=>e1 _ o D.i1z e) (ha.at fun o e=>e1 _ o D.l1z e) hx fun g2 it2 s2=>wBa ?_);have e2:∀c o,c≠z->c≠i1->s.heap.get? c=some o->g2.get? c=some o:=fun c o hc hd e=>s2.extBut c o hd (e1 c o hc e);have t2:IsPair g2 TO u v:=e2 _ _ D.TOz D.TOi1 hTO;refine wAa (wpAny_seqItems t2 rfl (wAa (wpAny_updateSeq_pair t2 fun g3 t3 s3=>?_)))
 replace t3:IsPair g3 TO x v:=t3
 refine wAa (wpAny_letGo (wBa (wAa (wAa (wpAny_onRaise ?_)))));have e3:∀c o,c≠z->c≠i1->c≠TO->s.heap.get? c=some o->g3.get? c=some o:=fun c o hc hd he e=>s3.extBut c o he (e2 c o hc hd e);show wpAny _ _ (Builtin.SmallTypes.nextOf (.ref i2) >>= _) _ _ _;refine wAa (uv (h2.at fun o e=>e3 _ o D.i2z D.i12.symm D.TOi2.symm e) (hb.at fun o e=>e3 _ o D.l2z D.l2i1 D.l2TO e) hy fun g4 it4 s4=>wBa ?_);have t4:IsPair g4 TO x v:=s4.extBut _ _ D.TOi2 t3;refine wAa (wpAny_seqItems t4 rfl (wAa (wpAny_updateSeq_pair t4 fun g5 t5 s5=>?_)))
 replace t5:IsPair g5 TO x y:=t5
 refine wAa (wpAny_letGo (wBa (wBa (wAa (wpAny_seqItems t5 rfl (wAa (wpAny_newTuple ?_)))))));have sz:g5.objs.size=s.heap.objs.size:=by rw[s5.1,s4.1,s3.1,s2.1,s1.1]
 have z5:IsZip g5 z TI TO .ellipsis:=s5.extBut _ _ D.TOz.symm (s4.extBut _ _ D.i2z.symm (s3.extBut _ _ D.TOz.symm (s2.extBut _ _ D.i1z.symm z1)));have e5:∀c o,c≠z->c≠TO->c≠i1->c≠i2->s.heap.get? c=some o->g5.get? c=some o:=fun c o c1 c2 c3 c4 e=>s5.extBut _ _ c2 (s4.extBut _ _ c4 (e3 c o c1 c3 c2 e));have it5:Ji k g5 i1 a (n1+1):=((it2.at fun o e=>s3.extBut _ o D.TOi1.symm e).at fun o e=>s4.extBut _ o D.i12 e).at fun o e=>s5.extBut _ o D.TOi1.symm e;have jt5:Ji j g5 i2 b (n2+1):=it4.at fun o e=>s5.extBut _ o D.TOi2.symm e;have lz:z < g5.objs.size:=wLa z5;show wpAny _ _ (Builtin.SmallTypes.ownedTupleHandOut (.ref z) (.ref g5.objs.size) >>= _) _ _ _;refine wAa ?_;unfold Builtin.SmallTypes.ownedTupleHandOut;have z6:IsZip (g5.push { cls:=.type "tuple",data:=.seq #[x,y] }) z TI TO .ellipsis:=wIa _ z5;refine wAa (wpAny_setField_rec z6 (by simp) fun g7 z7 s7=>?_)
 replace z7:IsZip g7 z TI TO (rawInt g5.objs.size):=z7
 refine wpAny_setField_rec z7 (by simp) fun g8 z8 s8=>?_
 replace z8:IsZip g8 z TI TO (rawInt g5.objs.size):=z8
 have up:∀c o,c≠z->g5.get? c=some o->g8.get? c=some o:=fun c o c1 e=>s8.extBut _ _ c1 (s7.extBut _ _ c1 (wIa _ e));have t8:IsPair g8 g5.objs.size x y:=s8.extBut _ _ (Nat.ne_of_gt lz) (s7.extBut _ _ (Nat.ne_of_gt lz) (wJa _ rfl));rw[sz]at z8 t8;refine wBa ⟨_,rfl,?_⟩;show Q (.ref g5.objs.size) _;rw[sz];exact hQ g8 z8 (up _ _ D.TOz t5) (it5.at fun o e=>up _ o D.i1z e) (jt5.at fun o e=>up _ o D.i2z e) t8 fun c o c1 c2 c3 c4 e=>up c o c1 (e5 c o c1 c2 c3 c4 e)
theorem xI{u v:Value}{Q:Fin->Shared->Prop}(hh:A.handled=none)(D:ZipApart z TI TO i1 i2 a b)(hz:IsZip s.heap z TI TO .none)(hTI:IsPair s.heap TI (.ref i1) (.ref i2))(hTO:IsPair s.heap TO u v)
  (h1:Ji k s.heap i1 a n1) (h2:Ji j s.heap i2 b n2) (ha:Jf k s.heap a xs) (hb:Jf j s.heap b ys) (hend:xs[n1]?=none \/ ys[n2]?=none)
  (hE:∀h' e,(∀c o,c≠z->c≠TO->c≠i1->c≠i2->s.heap.get? c=some o->h'.get? c=some o)->(∃o,h'.get? e=some o/\o.cls=.type "StopIteration")->E (.ref e) { s with heap:=h' }):
  wpAny (model prog w) A (Builtin.«zip.__next__» ⟨[.ref z],[]⟩) Q E s:=by
 show wpAny _ _ (field (.ref z) 2 >>= _) _ _ _;refine wAa (wpAny_field hz rfl (x:=.bool false) rfl ?_);show wpAny _ _ (field (.ref z) 3 >>= _) _ _ _;refine wAa (wpAny_field hz rfl (x:=.ref TI) rfl (wAa (wpAny_seqItems hTI rfl ?_)));show wpAny _ _ (Builtin.SmallTypes.ownedTupleIsFree (.ref z) >>= _) _ _ _;refine wAa ?_;unfold Builtin.SmallTypes.ownedTupleIsFree;refine wAa (wpAny_field hz rfl (x:=.none) rfl (wBa ?_));simp only[if_true];refine wAa (vQa (wAa (wpAny_field hz rfl (x:=.ref TO) rfl (wAa (wpAny_setField_rec hz (by simp) fun g1 z1 s1=>?_)))))
 replace z1:IsZip g1 z TI TO .ellipsis:=z1
 refine wAa ?_;simp only[List.zipIdx_cons,List.zipIdx_nil,List.forIn_cons,List.forIn_nil];have e1:∀c o,c≠z->s.heap.get? c=some o->g1.get? c=some o:=fun c o hc e=>s1.extBut c o hc e;refine wAa (wAa (wpAny_onRaise ?_));show wpAny _ _ (Builtin.SmallTypes.nextOf (.ref i1) >>= _) _ _ _;cases hx:xs[n1]? with
 | none=>
  refine wAa (KM hh (h1.at fun o e=>e1 _ o D.i1z e) (ha.at fun o e=>e1 _ o D.l1z e) hx fun g2 e s2 he=>?_);obtain⟨oe,hoe,hce⟩:=he;have z2:IsZip g2 z TI TO .ellipsis:=s2 _ _ D.i1z.symm z1;have ez:e≠z:=fun q=>by subst q;rw[z2]at hoe;cases hoe;simp at hce
  exact wpAny_setField_rec z2 (by simp) fun g3 _ s3=>hE g3 e (fun c o c1 _ c3 _ q=>s3.extBut _ _ c1 (s2 _ _ c3 (e1 _ _ c1 q))) ⟨oe,s3.extBut _ _ ez hoe,hce⟩
 | some x=>
  have hy:ys[n2]?=none:=by
   rcases hend with q | q
   ·rw[hx]at q;cases q
   ·exact q
  refine wAa (uv (h1.at fun o e=>e1 _ o D.i1z e) (ha.at fun o e=>e1 _ o D.l1z e) hx fun g2 it2 s2=>wBa ?_);have e2:∀c o,c≠z->c≠i1->s.heap.get? c=some o->g2.get? c=some o:=fun c o hc hd e=>s2.extBut c o hd (e1 c o hc e);have t2:IsPair g2 TO u v:=e2 _ _ D.TOz D.TOi1 hTO;refine wAa (wpAny_seqItems t2 rfl (wAa (wpAny_updateSeq_pair t2 fun g3 t3 s3=>?_)));refine wAa (wpAny_letGo (wBa (wAa (wAa (wpAny_onRaise ?_)))));have e3:∀c o,c≠z->c≠i1->c≠TO->s.heap.get? c=some o->g3.get? c=some o:=fun c o hc hd he e=>s3.extBut c o he (e2 c o hc hd e);show wpAny _ _ (Builtin.SmallTypes.nextOf (.ref i2) >>= _) _ _ _;refine wAa (KM hh (h2.at fun o e=>e3 _ o D.i2z D.i12.symm D.TOi2.symm e) (hb.at fun o e=>e3 _ o D.l2z D.l2i1 D.l2TO e) hy fun g4 e s4 he=>?_);obtain⟨oe,hoe,hce⟩:=he;have z4:IsZip g4 z TI TO .ellipsis:=s4 _ _ D.i2z.symm (s3.extBut _ _ D.TOz.symm (s2.extBut _ _ D.i1z.symm z1));have ez:e≠z:=fun q=>by subst q;rw[z4]at hoe;cases hoe;simp at hce
  exact wpAny_setField_rec z4 (by simp) fun g5 _ s5=>hE g5 e (fun c o c1 c2 c3 c4 q=>s5.extBut _ _ c1 (s4 _ _ c4 (e3 c o c1 c3 c2 q))) ⟨oe,s5.extBut _ _ ez hoe,hce⟩
def qi{u v:Value}{Q:Option Value->Shared->Prop}(D:ZipApart z TI TO i1 i2 a b)(hz:IsZip s.heap z TI TO .none)(hTI:IsPair s.heap TI (.ref i1) (.ref i2))(hTO:IsPair s.heap TO u v)
  (h1:Ji k s.heap i1 a n1) (h2:Ji j s.heap i2 b n2) (ha:Jf k s.heap a xs) (hb:Jf j s.heap b ys) (hx:xs[n1]?=some x) (hy:ys[n2]?=some y)
  (hQ:∀h',IsZip h' z TI TO (rawInt s.heap.objs.size)->IsPair h' TO x y->Ji k h' i1 a (n1+1)->Ji j h' i2 b (n2+1)->IsPair h' s.heap.objs.size x y->
   (∀c o,c≠z->c≠TO->c≠i1->c≠i2->s.heap.get? c=some o->h'.get? c=some o)->Q (some (.ref s.heap.objs.size)) { s with heap:=h' }):
  wpAny (model prog w) A (pyNext (.ref z)) Q E s:=by
 have hT:s.TypeIs (.ref z) "zip" := ⟨_,hz,rfl⟩
 unfold pyNext;exact wAa (wpAny_attempt (wpAny_callSpecial?_slot (name:=Str.ofString "__next__") hT F.slot_zip_next (wpAny_call_entry F.slot_zip_next hT F.entry_zip_next
   (xH D hz hTI hTO h1 h2 ha hb hx hy fun h' a1 a2 a3 a4 a5 a6=>wBa (hQ h' a1 a2 a3 a4 a5 a6)) (F.args_zip_next_1 _))))
def Q7{u v:Value}{Q:Option Value->Shared->Prop}(hh:A.handled=none)(D:ZipApart z TI TO i1 i2 a b)(hz:IsZip s.heap z TI TO .none)(hTI:IsPair s.heap TI (.ref i1) (.ref i2))(hTO:IsPair s.heap TO u v)
  (h1:Ji k s.heap i1 a n1) (h2:Ji j s.heap i2 b n2) (ha:Jf k s.heap a xs) (hb:Jf j s.heap b ys) (hend:xs[n1]?=none \/ ys[n2]?=none)
  (hQ:∀h',(∀c o,c≠z->c≠TO->c≠i1->c≠i2->s.heap.get? c=some o->h'.get? c=some o)->Q none { s with heap:=h' }):wpAny (model prog w) A (pyNext (.ref z)) Q E s:=by
 have hT:s.TypeIs (.ref z) "zip" := ⟨_,hz,rfl⟩
 unfold pyNext;refine wAa (wpAny_attempt (wpAny_callSpecial?_slot (name:=Str.ofString "__next__") hT F.slot_zip_next (wpAny_call_entry F.slot_zip_next hT F.entry_zip_next (xI hh D hz hTI hTO h1 h2 ha hb hend fun h' e hk he=>?_) (F.args_zip_next_1 _))));obtain⟨o,ho,hc⟩:=he;exact wAa (wpAny_isInstance (T := "StopIteration") (b:=true) ⟨o,ho,hc⟩ isSubtype_stop (wBa (hQ _ hk)))
end
section
variable {X:Cx} {pins:List (Addr×Obj)} {U:St} {H:Hp} {s:Shared} {h':Heap}
def Inv.turnedL{t':Nat}{ch:List Addr}(I:Inv X pins U H s)(hch:∀b∈ch,Je X pins H b)(k:∀c o,c∉ch->s.heap.get? c=some o->h'.get? c=some o):Inv X pins U H { s with heap:=h',toks:=t' }:=by
 have nit:∀b u,H b=some u->b∉ch:=fun b u e z=>by rw[(hch b z).1]at e;cases e
 refine I.step (g':=s.gens) (d':=s.drawn) (ch:=ch) (fun b hb=>?_) (fun b o _ _ hc e _=>k b o hc e) (fun b o _ _ hc e _=>⟨o.slots,k b o hc e⟩) (fun _ _ _ _ n=>n)
  (fun b o hc e=>⟨o,k b o hc e⟩) (fun _ _ e=>e) (fun _ _ _ e=>e) (fun b ps e=>⟨#[],by rw[e];simp⟩) (fun m hm=>?_) (fun b u e=>?_) I.bare
 ·obtain⟨f0,f1,f2,f3,f4,f5⟩:=hch b hb;exact⟨f3,f1,f4,f5⟩
 ·obtain⟨o,es,ep,ho,r⟩:=hm;exact⟨o,es,ep,k _ o (fun z=>(hch _ z).2.1 rfl) ho,r⟩
 ·refine(I.hok b u e).stay (fun c v hc q=>k c v ?_ q) (fun _ q=>q) fun _ _ q=>q;rcases hc with z | z
  ·rw[z];exact nit b u e
  ·exact nit c _ z
def Inv.tupled{t':Nat}{ch:List Addr}{T:Addr}{vs:List V}{us:List Value}(I:Inv X pins U H s)(hT:T=s.heap.objs.size)(hch:∀b∈ch,Je X pins H b)(k:∀c o,c∉ch->s.heap.get? c=some o->h'.get? c=some o)
  (r:jj vs us) (hz:vs.length<=sizeLine) (ht:IsTup h' T us.toArray):Inv X pins U (upd H T (.tup vs)) { s with heap:=h',toks:=t' }:=by
 have nit:∀b u,H b=some u->b∉ch:=fun b u e z=>by rw[(hch b z).1]at e;cases e
 have nT:∀b o,s.heap.get? b=some o->b≠T:=fun b o e=>by rw[hT];exact wTa (wLa e)
 have fT:H T=none:=by rw[hT];exact I.hok.fresh (wPa _)
 refine I.step (g':=s.gens) (d':=s.drawn) (ch:=ch) (fun b hb=>?_) (fun b o _ _ hc e _=>k b o hc e) (fun b o _ _ hc e _=>⟨o.slots,k b o hc e⟩) (fun b o _ e n=>by rw[jq (nT b o e)];exact n)
  (fun b o hc e=>⟨o,k b o hc e⟩) (fun b xs e=>by rw[jq (jJ e fT)];exact e) (fun b o u e=>by rw[jq (jJ e fT)];exact e) (fun b ps e=>⟨#[],by rw[jq (jJ e fT),e];simp⟩) (fun m hm=>?_) (fun b u e=>?_) I.bare
 ·obtain⟨f0,f1,f2,f3,f4,f5⟩:=hch b hb;exact⟨f3,f1,f4,f5⟩
 ·obtain⟨o,es,ep,ho,r⟩:=hm;exact⟨o,es,ep,k _ o (fun z=>(hch _ z).2.1 rfl) ho,r⟩
 ·by_cases hb:b=T
  ·subst hb;rw[jV]at e;cases e;exact⟨hz,us,r,ht⟩
  ·rw[jq hb]at e;refine(I.hok b u e).stay (fun c v hc q=>k c v ?_ q) (fun c q=>by rw[jq (jJ q fT)];exact q) fun c xs q=>by rw[jq (jJ q fT)];exact q
   rcases hc with z | z
   ·rw[z];exact nit b u e
   ·exact nit c _ z
def Inv.seqK{k:Sk}{a:Addr}{xs:List V}(I:Inv X pins U H s)(h:u7 X.K k H a xs):∃its:List Value,jj xs its/\Jf k s.heap a its.toArray/\xs.length<=sizeLine:=by
 cases k
 ·obtain⟨its,r,p,z⟩:=I.list h;exact⟨its,r,p.isList,z⟩
 ·obtain⟨its,r,p,z⟩:=I.tuple h;exact⟨its,r,p,z⟩
def Inv.seqK_inj{k:Sk}{a:Addr}{xs ys:List V}(I:Inv X pins U H s)(h:u7 X.K k H a xs)(h':u7 X.K k H a ys):xs=ys:=by
 cases k
 ·exact I.list_inj h h'
 ·exact I.tuple_inj h h'
end
def kR:2<=sizeLine:=by decide
def EH(K:uXa)(k j:Sk)(a b:Addr):It:=
 ⟨fun i H=>∃xs ys x y,u7 K k H a xs/\u7 K j H b ys/\xs[i]?=some x/\ys[i]?=some y,
  fun i H v H'=>∃p,H p=none/\v=.ref p/\∀xs ys x y,u7 K k H a xs->u7 K j H b ys->xs[i]?=some x->ys[i]?=some y->H'=upd H p (.tup [x,y]),
  fun i H=>∃xs ys,u7 K k H a xs/\u7 K j H b ys/\(xs.length<=i \/ ys.length<=i)⟩
def xJ{P:Program}{w:World}{K:uXa}{es:List Expr}{x1:Nat}{tp:Pos}{k j:Sk}{a b z TI TO i1 i2:Addr}(D:ZipApart z TI TO i1 i2 a b):
  Turn P w K (.Tuple es x1 tp) (EH K k j a b) [z,TI,TO,i1,i2] z (fun i h=>IsZip h z TI TO .none/\IsPair h TI (.ref i1) (.ref i2)/\(∃u v,IsPair h TO u v)/\Ji k h i1 a i/\Ji j h i2 b i) where
 mem:=by simp
 obj:=fun i h st c hc=>by
  obtain⟨s1,s2,⟨u,v,s3⟩,s4,s5⟩:=st;simp only[List.mem_cons,List.not_mem_nil,or_false]at hc;rcases hc with rfl | rfl | rfl | rfl | rfl
  ·exact⟨_,s1,fun v z=>by cases z⟩
  ·exact⟨_,s2,fun v z=>by cases z⟩
  ·exact⟨_,s3,fun v z=>by cases z⟩
  ·exact s4.obj
  ·exact s5.obj
 keep:=fun i h h' st kk=>by
  obtain⟨s1,s2,⟨u,v,s3⟩,s4,s5⟩:=st;exact⟨kk z (by simp) _ s1,kk TI (by simp) _ s2,⟨u,v,kk TO (by simp) _ s3⟩,s4.at fun o e=>kk i1 (by simp) o e,s5.at fun o e=>kk i2 (by simp) o e⟩
 item:=by
  intro X hP hw hK hc i pins s U H E I hf st hg;subst hP hw hK;obtain⟨s1,s2,⟨u,v,s3⟩,s4,s5⟩:=st;obtain⟨xs,ys,x,y,qa,qb,ex,ey⟩:=hg;obtain⟨ia,ra,pa,_⟩:=I.seqK qa;obtain⟨ib,rb,pb,_⟩:=I.seqK qb;obtain⟨ux,eux,rx⟩:=ra.get ex;obtain⟨uy,euy,ry⟩:=rb.get ey;refine qi D s1 s2 s3 s4 s5 pa pb (x:=ux) (y:=uy) (by simpa using eux) (by simpa using euy) fun h' b1 b2 b3 b4 b5 bk=>?_;refine⟨_,rfl,wpAny_letOwnedTupleGo_zip b1 fun h2 c1 c2=>?_⟩;have F4:∀c∈[z,TO,i1,i2],Je X pins H c:=fun c hc=>hf c (by
   simp only[List.mem_cons,List.not_mem_nil,or_false]at hc⊢;rcases hc with q | q | q | q
   ·exact .inl q
   ·exact .inr (.inr (.inl q))
   ·exact .inr (.inr (.inr (.inl q)))
   ·exact .inr (.inr (.inr (.inr q))))
  have kp:∀c o,c∉[z,TO,i1,i2]->s.heap.get? c=some o->h2.get? c=some o:=fun c o hc e=>by
   simp only[List.mem_cons,List.not_mem_nil,or_false,not_or]at hc;exact c2.extBut c o hc.1 (bk c o hc.1 hc.2.1 hc.2.2.1 hc.2.2.2 e)
  have nz:s.heap.objs.size≠z:=Nat.ne_of_gt (wLa s1);have ht:IsTup h2 s.heap.objs.size ([ux,uy]:List Value).toArray:=⟨_,c2.extBut _ _ nz b5,rfl,_,rfl⟩
  have I2:=I.tupled (t':=s.toks) (h':=h2) rfl F4 kp (vs:=[x,y]) (us:=[ux,uy]) (.cons rx (.cons ry .nil)) kR ht;refine⟨.ref s.heap.objs.size,_,I2,rfl,⟨s.heap.objs.size,I.hok.fresh (wPa _),rfl,fun xs' ys' x' y' qa' qb' ex' ey'=>?_⟩,⟨c1,kp _ _ (by simp[D.TIz,D.TITO,D.TIi1,D.TIi2]) s2,⟨ux,uy,c2.extBut _ _ D.TOz b2⟩,b3.at fun o e=>c2.extBut _ o D.i1z e,b4.at fun o e=>c2.extBut _ o D.i2z e⟩,fun c hc=>?_⟩
  ·rw[I.seqK_inj qa' qa,ex]at ex';rw[I.seqK_inj qb' qb,ey]at ey';cases ex';cases ey';rfl
  ·have q:=(hf c hc).1;rw[jq ?_]
   ·exact q
   ·intro e;have:c < s.heap.objs.size:=by
     simp only[List.mem_cons,List.not_mem_nil,or_false]at hc;rcases hc with rfl | rfl | rfl | rfl | rfl
     ·exact wLa s1
     ·exact wLa s2
     ·exact wLa s3
     ·obtain⟨o,e,_⟩:=s4.obj;exact wLa e
     ·obtain⟨o,e,_⟩:=s5.obj;exact wLa e
    rw[e]at this;exact wUa _ this
 done:=by
  intro X hP hw hK hc i pins s U H E I hf st hg;subst hP hw hK;obtain⟨s1,s2,⟨u,v,s3⟩,s4,s5⟩:=st;obtain⟨xs,ys,qa,qb,hend⟩:=hg;obtain⟨ia,ra,pa,_⟩:=I.seqK qa;obtain⟨ib,rb,pb,_⟩:=I.seqK qb;have la:=ra.length;have lb:=rb.length;have hend':ia.toArray[i]?=none \/ ib.toArray[i]?=none:=by
   rcases hend with q | q
   ·exact .inl (by simp;lia)
   ·exact .inr (by simp;lia)
  refine Q7 (I.ok.hd hc) D s1 s2 s3 s4 s5 pa pb hend' fun h' bk=>⟨rfl,?_⟩
  refine I.turnedL (t':=s.toks) (ch:=[z,TI,TO,i1,i2]) hf fun c o hc e=>?_;simp only[List.mem_cons,List.not_mem_nil,or_false,not_or]at hc;exact bk c o hc.1 hc.2.2.1 hc.2.2.2.1 hc.2.2.2.2 e
 self:=fun _ _ _ _ _ st h=>wpAny_pyIter_zip st.1 h
def j5.tup{K:uXa}{H H':Hp}{a:Addr}{xs:List V}(e:j5 H H')(h:Jq K H a xs):Jq K H' a xs:=by
 rcases h with(h | ⟨o,h⟩) | h
 ·exact .inl (.inl (e _ _ h))
 ·exact .inl (.inr ⟨o,e _ _ h⟩)
 ·exact .inr h
section
variable {X:Cx}
def xK(hc:X.calm=true):yZ X (.builtin "all") (fun xs H Q=>∃(p:Addr) (bs:List Bool),xs=[.ref p]/\jG X.K H p (bs.map V.bl)/\Q (.bl (bs.all id)) H):=by
 intro pins s U H xs us Q I r h;obtain⟨p,bs,e,hq,q⟩:=h;subst e;cases r with
 | cons r rr=>
  cases rr;cases r;obtain⟨its,rv,pl,hz⟩:=I.list hq;refine call_all_walk (wpAny_pyIter_list pl.isList ?_);have hp:p < s.heap.objs.size:=by obtain⟨o,ho,_⟩:=pl.isList;exact wLa ho
  have hlen:its.length=bs.length:=by have:=rv.length;simp at this;lia
  refine⟨s.heap.objs.size,_,_,_,_,_,fun i=>(bs[i]?).getD true,rfl,Walks.list (A:=X.A.in1) (I.ok.hd hc) s.heap.objs.size p (wTa hp) its.toArray,⟨⟨_,wJa _ rfl,rfl,rfl⟩,Heap.IsList.at pl.isList fun o e=>wIa _ e⟩,?_,fun h' tk hk=>?_⟩
  ·intro i v s' Q' E' hv hq';have hv:its[i]?=some v:=by simpa using hv
   have hi:i < bs.length:=by rw[<-hlen];exact(uSa hv).1
   obtain⟨u,eu,ru⟩:=rv.get (i:=i) (x:=V.bl bs[i]) (by simp[hi]);rw[hv]at eu;cases eu;cases ru;have e1:(bs[i]?).getD true=bs[i]:=by simp[hi]
   have hq':Q' ((bs[i]?).getD true) s':=hq';rw[e1]at hq';exact wpAny_truthy_bool hq'
  ·have e:((List.range its.toArray.size).all fun i=>(bs[i]?).getD true)=bs.all id:=by
    rw[uLa,hlen,Bool.eq_iff_iff];simp only[List.all_eq_true,List.mem_range,id];constructor
    ·intro hh x hx;obtain⟨i,hi,rfl⟩:=List.mem_iff_getElem.mp hx;have:=hh i hi;simpa[hi]using this
    ·intro hh i hi;have:=hh bs[i] (List.getElem_mem hi);simpa[hi]using this
   rw[e];have I':Inv X pins U H { s with heap:=h',toks:=tk }:=I.turnedL (t':=tk) (ch:=[s.heap.objs.size]) (fun b hb=>by
    have e:b=s.heap.objs.size:=by simpa using hb
    subst e;exact I.fpOk (wPa _) (I.hok.fresh (wPa _))) (fun c o hc' e'=>hk c o hc' (wIa _ e'))
   exact⟨.bl (bs.all id),H,I',rfl,q⟩
def Bw:List V->Hp->VK->Prop:=fun xs H Q=>∃b,xs=[.bl b,.ty "bool"]/\Q (.bl true) H
def xL:yZ X (.builtin "isinstance") Bw:=by
 rintro pins s U H _ us Q I r ⟨b,rfl,q⟩;cases r with
 | cons r rr=>
  cases rr with
  | cons r' rr=>
   cases rr;cases r';cases r;exact IsiPair.bool_bool ⟨.bl true,H,I,rfl,q⟩
end
def Aw(r r' r'':R2)(ta tb tc td:TE):TE:=fun U H Q=>ta U H fun x H1=>tb U H1 fun y H2=>r x y H2 fun z H3=>∃k,z=.bl k/\
 (if k=true then tc U H3 fun w' H4=>r' y w' H4 fun z' H5=>∃k',z'=.bl k'/\(if k'=true then td U H5 fun q H6=>r'' w' q H6 Q else Q (.bl false) H5)else Q (.bl false) H3)
section
variable {X:Cx} {a b c d:Expr} {ta tb tc td:TE} {pos:Pos}
theorem Q8{op op' op'':CmpOp}{r r' r'':R2}(ho:J0 X (compareOp op) r)(ho':J0 X (compareOp op') r')(ho'':J0 X (compareOp op'') r'')(ha:PE X a ta)(hb:PE X b tb)(hc:PE X c tc)(hd:PE X d td)
  (hm:lastMarks [op,op',op''] [b,c,d]=false:=by with_unfolding_all rfl):PE X (.Compare a [op,op',op''] [b,c,d] pos) (Aw r r' r'' ta tb tc td):=by
 intro pins s U H Q I h;refine Compare_chain (jw (ha pins s U H _ I h) fun v s1 ⟨x,H1,I1,r1,q1⟩=>chain_link (jw (hb pins s1 U H1 _ I1 q1) fun u s2 ⟨y,H2,I2,r2,q2⟩=>
  jw (ho pins s2 U H2 x y v u _ I2 r1 r2 q2) fun _ s3 ⟨z,H3,I3,r3,k,e,q3⟩=>?_)) hm
 subst e;cases r3;refine wpAny_truthy_bool ?_;cases k with
 | false=>exact ite_ff ⟨.bl false,H3,I3,rfl,q3⟩
 | true=>
  refine ite_tt (chain_link (jw (hc pins s3 U H3 _ I3 q3) fun w' s4 ⟨z',H4,I4,r4,q4⟩=>jw (ho' pins s4 U H4 y z' u w' _ I4 r2 r4 q4) fun _ s5 xx=>?_));obtain⟨z5,H5,I5,r5,k5,e5,q5⟩:=xx;subst e5;cases r5;refine wpAny_truthy_bool ?_;cases k5 with
  | false=>exact ite_ff ⟨.bl false,H5,I5,rfl,q5⟩
  | true=>exact ite_tt (chain_last (jw (hd pins s5 U H5 _ I5 q5) fun w6 s6 ⟨z6,H6,I6,r6,q6⟩=>ho'' pins s6 U H6 z' z6 w' w6 Q I6 r4 r6 q6))
end
section
variable {X:Cx}
open PySem.SeqAt
end
structure FnI (P:Program) (w:World) (K:uXa) (mg:Str->Option Value) (base:Heap) (k:Nat) (x:Str) (ps:List Str) (sp:Sp):Prop where
 ex:∃f fd,FnOk P w K mg base Y7 k f fd ps sp/\YJ K fd ps []/\PySem.W.keepIn K (.ref f)=true/\mg x=some (.ref f)
structure MtI (P:Program) (w:World) (K:uXa) (mg:Str->Option Value) (base:Heap) (k:Nat) (C:Addr) (m:Str) (ps:List Str) (sp:Sp):Prop where
 ex:∃f fd,FnOk P w K mg base Y7 k f fd ps sp/\YJ K fd ps []/\Meth K C m f
structure MkI (P:Program) (w:World) (K:uXa) (mg:Str->Option Value) (base:Heap) (k:Nat) (C:Addr) (x:Str) (ps:List Str) (sp:Sp):Prop where
 ex:∃f fd,FnOk P w K mg base Y7 k f fd ps sp/\YJ K fd ps []/\Mk K C f/\mg x=some (.ref C)
section
variable {X:Cx} {k:Nat} {x m:Str} {ps:List Str} {sp:Sp} {p pos apos:Pos} {e o:Expr} {es:List Expr} {t:TA} {ta:TE} {C:Addr}
def Kk(F:FnI X.prog X.w X.K X.mg X.base k x ps sp)(hr:Room k X.A)(ha:PA X (e::es) t)(hg:Gl X x:=by rfl)(hdb:(x==("__debug__" : Str))=false:=by decide)
  (he:starEach (e::es) X.env=(false,eval e X.env)::starEach es X.env:=by rfl) (hpl:(backTo pos (starEach es X.env)).any (·.1)=false:=by rfl):PE X (.Call (.Name x p) (e::es) [] pos) (qe sp [] E0 t):=by
 obtain⟨f,fd,G,b,kp,hm⟩:=F.ex;exact Ai G hr hg hm kp b .nil qh ha hdb he hpl
def Bx{pl:Sem Bool}(he:PE X o ta)(c:Cls X.K C)(M:MtI X.prog X.w X.K X.mg X.base k C m ps sp)(hr:Room k X.A)
  (ht:eval (.Call (.Attribute o m apos) [] [] pos) X.env=(do
   let ov<-eval o X.env
   standAt apos.atName
   let (f,first)<-holding [ov] (getMethod ov m pl)
   callWith pos f first (backTo pos (starEach [] X.env)) (backToKw pos (keywordEach [] X.env))):=by rfl):
  PE X (.Call (.Attribute o m apos) [] [] pos) (XJ C m sp [] E0 ta ZU):=by
 obtain⟨f,fd,G,b,hm⟩:=M.ex;exact xB he c hm G hr b .nil qh ht
def DB(M:MkI X.prog X.w X.K X.mg X.base k C x ps sp)(hr:Room (k+1) X.A)(ha:PA X (e::es) t)(hg:Gl X x:=by rfl)(hdb:(x==("__debug__" : Str))=false:=by decide)
  (he:starEach (e::es) X.env=(false,eval e X.env)::starEach es X.env:=by rfl) (hpl:(backTo pos (starEach es X.env)).any (·.1)=false:=by rfl):PE X (.Call (.Name x p) (e::es) [] pos) (XM C sp [] E0 t):=by
 obtain⟨f,fd,G,b,mk,hm⟩:=M.ex;exact Aj mk G hr hg hm b .nil qh ha hdb he hpl
def Bz(ho:PE X o ta)(ha:PA X [e] t)(hbase:attributeBase o "append" X.env (eval o X.env)=eval o X.env:=by rfl)
  (hfew:((backTo pos (starEach [e] X.env)).all (fun x=>!x.1)&&(backToKw pos (keywordEach [] X.env)).all (fun x=>x.1.isSome)
   && decide (([e]:List Expr).length+([]:List Keyword).length+(if ([]:List Keyword).isEmpty then 0 else 1) < 30))=true:=by rfl)
  (hline:(apos.endLine==pos.line)=true:=by rfl) (hs:starEach [e] X.env=(false,eval e X.env)::starEach [] X.env:=by rfl) (hplain:(backTo pos (starEach [] X.env)).any (·.1)=false:=by rfl):
  PE X (.Call (.Attribute o "append" apos) [e] [] pos) (Ge X.K "list" Us ta t):=
 Kj PySem.F.plainAttrs_list PySem.F.slot_list_append PySem.F.type_list_append Q1 ho ha hbase hfew hline hs hplain
end
def h_{X:Cx}{x:Str}{i:Int}{pos:Pos}(hm:∃t,X.mg x=some (.int i t))(hg:Gl X x:=by rfl)(hd:(x==("__debug__" : Str))=false:=by decide):PE X (.Name x pos) (tC (.int i)):=by
 obtain⟨t,h⟩:=hm;exact A2 hg h ⟨t,rfl⟩ hd
def jC{H:Hp}{p:Addr}(h:H p=none)(o:HO):j5 H (upd H p o):=fun b u q=>by rw[jq (jJ q h)];exact q
def j5.upd{H0 H:Hp}{p:Addr}(s:j5 H0 H)(h:H0 p=none)(o:HO):j5 H0 (upd H p o):=fun b u q=>by rw[jq (jJ q h)];exact s b u q
def j5.none{H H':Hp}(s:j5 H H'){p:Addr}(h:H' p=Option.none):H p=Option.none:=s.free h
def DC{n:Nat}(h:n<=1000):n<=sizeLine:=wQa (Q4 h)
noncomputable abbrev T3:=Int×Int×Int
noncomputable def Ha:HO->Bool
 | .tup _=>true
 | .frz _ (.tup _)=>true
 | _=>false
def VJ(H H':Hp):Prop:=∀b o,Ha o=true->H b=some o->H' b=some o
def VJ.sqT{K:uXa}{H H':Hp}{a:Addr}{xs:List V}(k:VJ H H')(h:Jq K H a xs):Jq K H' a xs:=by
 rcases h with(h | ⟨o,h⟩) | h
 ·exact .inl (.inl (k _ _ rfl h))
 ·exact .inl (.inr ⟨o,k _ _ rfl h⟩)
 ·exact .inr h
def EI(K:uXa)(a:Addr):It:=
 ⟨fun i H=>∃xs x,jG K H a xs/\xs[i]?=some x,fun i H v H'=>∃p,H p=none/\v=.ref p/\∀xs x,jG K H a xs->xs[i]?=some x->H'=upd H p (.tup [.int i,x]),fun i H=>∃xs,jG K H a xs/\xs.length<=i⟩
def Q9{P:Program}{w:World}{K:uXa}{es:List Expr}{x1:Nat}{tp:Pos}{a e it:Addr}(hei:e≠it)(hle:a≠e)(hli:a≠it):
  Turn P w K (.Tuple es x1 tp) (EI K a) [e,it] e (fun i h=>(∃old,IsEnum h e it (i:Nat) old)/\h.IsListIter it a i) where
 mem:=by simp
 obj:=fun i h st c hc=>by
  obtain⟨⟨old,s1⟩,s2⟩:=st;simp only[List.mem_cons,List.not_mem_nil,or_false]at hc;rcases hc with rfl | rfl
  ·exact⟨_,s1,fun v z=>by cases z⟩
  ·obtain⟨o,ho,_,d⟩:=s2;exact⟨o,ho,fun v z=>by rw[d]at z;cases z⟩
 keep:=fun i h h' st kk=>by
  obtain⟨⟨old,s1⟩,s2⟩:=st;exact⟨⟨old,kk e (by simp) _ s1⟩,s2.at fun o z=>kk it (by simp) o z⟩
 item:=by
  intro X hP hw hK hc i pins s U H E I hf st hg;subst hP hw hK;obtain⟨⟨old,s1⟩,s2⟩:=st;obtain⟨xs,x,qa,ex⟩:=hg;obtain⟨ia,ra,pa,_⟩:=I.list qa;obtain⟨ux,eux,rx⟩:=ra.get ex;refine wpAny_pyNext_enum_item s1 s2 pa.isList (x:=ux) (by simpa using eux) hei fun h' b1 b2 b3 b4 bk=>?_;refine⟨_,rfl,wpAny_letOwnedTupleGo_enum b1 fun h2 c1 c2=>?_⟩;have lt1:e < s.heap.objs.size:=wLa s1;have lt2:it < s.heap.objs.size:=by obtain⟨o,ho,_⟩:=s2;exact wLa ho
  have kp:∀c o,c∉[e,it]->s.heap.get? c=some o->h2.get? c=some o:=fun c o hc z=>by
   simp only[List.mem_cons,List.not_mem_nil,or_false,not_or]at hc;exact c2.extBut c o hc.1 (bk c o hc.1 hc.2 z)
  have ht:IsTup h2 s.heap.objs.size ([.int i s.toks,ux]:List Value).toArray:=⟨_,c2.extBut _ _ (Nat.ne_of_gt lt1) b3,rfl,_,rfl⟩
  have I2:=I.tupled (t':=s.toks+1) (h':=h2) rfl hf kp (vs:=[.int i,x]) (us:=[.int i s.toks,ux]) (.cons ⟨_,rfl⟩ (.cons rx .nil)) kR ht;refine⟨.ref s.heap.objs.size,_,I2,rfl,⟨s.heap.objs.size,I.hok.fresh (wPa _),rfl,fun xs' x' qa' ex'=>?_⟩,⟨⟨ux,by simpa using c1⟩,b2.at fun o z=>c2.extBut _ o hei.symm z⟩,fun c hc=>?_⟩
  ·rw[I.list_inj qa' qa,ex]at ex';cases ex';rfl
  ·have q:=(hf c hc).1;rw[jq ?_]
   ·exact q
   ·intro z;simp only[List.mem_cons,List.not_mem_nil,or_false]at hc;rcases hc with rfl | rfl
    ·rw[z]at lt1;exact wUa _ lt1
    ·rw[z]at lt2;exact wUa _ lt2
 done:=by
  intro X hP hw hK hc i pins s U H E I hf st hg;subst hP hw hK;obtain⟨⟨old,s1⟩,s2⟩:=st;obtain⟨xs,qa,hend⟩:=hg;obtain⟨ia,ra,pa,_⟩:=I.list qa;have la:=ra.length;refine wpAny_pyNext_enum_end (I.ok.hd hc) s1 s2 pa.isList (by simp;lia) fun h' bk=>⟨rfl,?_⟩
  refine I.turnedL (t':=s.toks) (ch:=[e,it]) hf fun c o hc z=>?_;simp only[List.mem_cons,List.not_mem_nil,or_false,not_or]at hc;exact bk c o hc.2 z
 self:=fun _ _ _ _ _ st h=>by
  obtain⟨⟨old,s1⟩,s2⟩:=st;exact wpAny_pyIter_enum s1 h
def Qa:bootBuiltins "enumerate" = some (.type "enumerate"):=by decide +kernel
def DD(K:uXa)(ta:TA):TI:=fun U H R=>ta U H fun vs H1=>∃a xs,vs=[.ref a]/\jG K H1 a xs/\R (EI K a) H1
def Ax{X:Cx}{es:List Expr}{x1:Nat}{tp:Pos}{e1:Expr}{ta:TA}{p pos:Pos}(hg:Gl X "enumerate")(hm:X.mg "enumerate" = none)(ha:PA X [e1] ta)(hs:starEach [e1] X.env=[(false,eval e1 X.env)]:=by rfl):
  PI X (.Tuple es x1 tp) (.Call (.Name "enumerate" p) [e1] [] pos) (DD X.K ta):=by
 intro pins s U H R I h;refine Call_ (ZT I hg hm Qa (PyProof.Rows.callWith_type1 (jw (ha pos pins s U H _ I h) fun us s1 xx=>?_) hs rfl));obtain⟨vs,H1,I1,r1,q1⟩:=xx;obtain⟨a,xs,e,qa,q⟩:=q1;subst e;cases r1 with
 | cons r rr=>
  cases rr;cases r;obtain⟨ia,ra,pa,_⟩:=I1.list qa;have lt:a < s1.heap.objs.size:=by obtain⟨o,ho,_⟩:=pa.isList;exact wLa ho
  refine call_enumerate_list pa.isList fun h' b1 b2 b3 bk=>?_;refine wpAny_pyIter_enum b1 ?_;have fr:∀m,Je X pins H1 (s1.heap.objs.size+m):=fun m=>I1.fpOk (vKa _ _) (I1.hok.fresh (vKa _ _));refine⟨_,_,_,_,H1,rfl,I1.kept (t':=s1.toks) bk,Q9 (a:=a) (e:=s1.heap.objs.size+1) (it:=s1.heap.objs.size) (Nat.ne_of_gt (Nat.lt_succ_self _)) (wTa (Nat.lt_succ_of_lt lt)) (wTa lt),⟨⟨_,b1⟩,b2⟩,fun c hc=>?_,q⟩;simp only[List.mem_cons,List.not_mem_nil,or_false]at hc;rcases hc with rfl | rfl
  ·exact fr 1
  ·exact fr 0
end L2
namespace DS
open PySem PySem.Spec PyProof.Rows L2
set_option genSizeOf true in
inductive D where
 | non | bl (b:Bool) | int (i:Int) | str (x:Str) | tup (l:List D) | lst (l:List D) | ins (C:Addr) (ns:List Str) (ds:List D) | scr (ns:List Int) | dct (ks vs:List D) | sz (n:Nat)
mutual
noncomputable def yI:D->Option KD
 | .int n=>some (.i n)
 | .bl b=>some (.i (if b then 1 else 0))
 | .str x=>some (.s x)
 | .tup l=>(Yx l).bind fun ks=>some (.t ks)
 | _=>none
noncomputable def Yx:List D->Option (List KD)
 | []=>some []
 | d::ds=>(yI d).bind fun k=>(Yx ds).bind fun ks=>some (k::ks)
end
def J3:D->Option KD
 | .tup l=>(yI (.tup l)).bind fun k=>if k.dep<=8 then some k else none
 | _=>none
def jK:List D->Option (List KD)
 | []=>some []
 | d::ds=>(J3 d).bind fun k=>(jK ds).bind fun ks=>some (k::ks)
mutual
noncomputable def j9(K:uXa)(H:Hp):D->V->Prop
 | .non,v=>v=.non
 | .bl b,v=>v=.bl b
 | .int i,v=>v=.int i
 | .str x,v=>v=.str x
 | .tup l,v=>∃a xs,v=.ref a/\Jq K H a xs/\j0 K H l xs
 | .lst l,v=>∃a xs,v=.ref a/\H a=some (.lst xs)/\j0 K H l xs
 | .scr ns,v=>∃a,v=.ref a/\jG K H a (ns.map V.int)
 | .ins C ns l,v=>∃a dx xs,v=.ref a/\H a=some (.ins C dx (ns.zip xs))/\ns.length=xs.length/\j0 K H l xs
 | .dct ks vs,v=>∃a kvs ep,v=.ref a/\H a=some (.dD kvs ep)/\jK ks=some (kvs.map (·.1))/\j0 K H ks (kvs.map fun p=>V.ref p.2.1)/\j0 K H vs (kvs.map (·.2.2))
 | .sz n,v=>∃a hf kas,v=.ref a/\H a=some (.ext (JM hf a kas))/\kas.length=n
noncomputable def j0(K:uXa)(H:Hp):List D->List V->Prop
 | [],vs=>vs=[]
 | d::ds,vs=>∃v r,vs=v::r/\j9 K H d v/\j0 K H ds r
end
mutual
theorem j9.same{K:uXa}{H H':Hp}(e:j5 H H'):∀{d:D} {v:V},j9 K H d v->j9 K H' d v
 | .non,_,h=>h
 | .bl _,_,h=>h
 | .int _,_,h=>h
 | .str _,_,h=>h
 | .tup l,_,h=>by
  rw[j9]at h⊢;obtain⟨a,xs,rfl,q,r⟩:=h;exact⟨a,xs,rfl,e.tup q,j0.same e r⟩
 | .lst l,_,h=>by
  rw[j9]at h⊢;obtain⟨a,xs,rfl,q,r⟩:=h;exact⟨a,xs,rfl,e _ _ q,j0.same e r⟩
 | .scr ns,_,h=>by
  rw[j9]at h⊢;obtain⟨a,rfl,q⟩:=h;exact⟨a,rfl,e.seq q⟩
 | .ins C ns l,_,h=>by
  rw[j9]at h⊢;obtain⟨a,dx,xs,rfl,q,n,r⟩:=h;exact⟨a,dx,xs,rfl,e _ _ q,n,j0.same e r⟩
 | .dct ks vs,_,h=>by
  rw[j9]at h⊢;obtain⟨a,kvs,ep,rfl,q,n,r1,r2⟩:=h;exact⟨a,kvs,ep,rfl,e _ _ q,n,j0.same e r1,j0.same e r2⟩
 | .sz n,_,h=>by
  rw[j9]at h⊢;obtain⟨a,hf,kas,rfl,q,n⟩:=h;exact⟨a,hf,kas,rfl,e _ _ q,n⟩
theorem j0.same{K:uXa}{H H':Hp}(e:j5 H H'):∀{ds:List D} {vs:List V},j0 K H ds vs->j0 K H' ds vs
 | [],_,h=>h
 | d::ds,_,h=>by
  rw[j0]at h⊢;obtain⟨v,r,rfl,a,b⟩:=h;exact⟨v,r,rfl,j9.same e a,j0.same e b⟩
end
section
variable {K:uXa} {H:Hp}
theorem j0.len:∀{ds:List D} {vs:List V},j0 K H ds vs->vs.length=ds.length
 | [],_,h=>by rw[j0]at h;subst h;rfl
 | d::ds,_,h=>by
  rw[j0]at h;obtain⟨v,r,rfl,a,b⟩:=h;rw[vXa,vXa,j0.len b]
theorem j0.get:∀{ds:List D} {vs:List V} {i:Nat} {d:D},j0 K H ds vs->ds[i]?=some d->∃v,vs[i]?=some v/\j9 K H d v
 | [],_,_,_,h,e=>by simp at e
 | d::ds,_,0,_,h,e=>by
  rw[j0]at h;obtain⟨v,r,rfl,a,b⟩:=h;simp at e;subst e;exact⟨v,rfl,a⟩
 | d::ds,_,i+1,d',h,e=>by
  rw[j0]at h;obtain⟨v,r,rfl,a,b⟩:=h;obtain⟨v',e',q⟩:=j0.get (i:=i) b (by simpa using e);exact⟨v',by simpa using e',q⟩
def j0.nil:j0 K H [] []:=by rw[j0]
def j0.cons{d:D}{ds:List D}{v:V}{vs:List V}(a:j9 K H d v)(b:j0 K H ds vs):j0 K H (d::ds) (v::vs):=by rw[j0];exact⟨v,vs,rfl,a,b⟩
theorem j0.app:∀{ds es:List D} {vs us:List V},j0 K H ds vs->j0 K H es us->j0 K H (ds++es) (vs++us)
 | [],_,_,_,h,g=>by rw[j0]at h;subst h;exact g
 | d::ds,es,_,us,h,g=>by
  rw[j0]at h;obtain⟨u,r,rfl,a,b⟩:=h;exact j0.cons a (j0.app b g)
def j0.snoc{d:D}{v:V}{ds:List D}{vs:List V}(h:j0 K H ds vs)(q:j9 K H d v):j0 K H (ds++[d]) (vs++[v]):=h.app (j0.cons q j0.nil)
theorem j0.drop:∀{ds:List D} {vs:List V} (n:Nat),j0 K H ds vs->j0 K H (ds.drop n) (vs.drop n)
 | _,_,0,h=>h
 | [],_,n+1,h=>by rw[j0]at h;subst h;exact j0.nil
 | d::ds,_,n+1,h=>by
  rw[j0]at h;obtain⟨u,r,rfl,a,b⟩:=h;exact j0.drop n b
theorem j0.take:∀{ds:List D} {vs:List V} (n:Nat),j0 K H ds vs->j0 K H (ds.take n) (vs.take n)
 | _,_,0,h=>j0.nil
 | [],_,n+1,h=>by rw[j0]at h;subst h;exact j0.nil
 | d::ds,_,n+1,h=>by
  rw[j0]at h;obtain⟨u,r,rfl,a,b⟩:=h;exact j0.cons a (j0.take n b)
theorem j0.set{d:D}{v:V}(q:j9 K H d v):∀{ds:List D} {vs:List V} (n:Nat),j0 K H ds vs->j0 K H (ds.set n d) (vs.set n v)
 | [],_,n,h=>by rw[j0]at h;subst h;exact j0.nil
 | e::ds,_,0,h=>by
  rw[j0]at h;obtain⟨u,r,rfl,a,b⟩:=h;exact j0.cons q b
 | e::ds,_,n+1,h=>by
  rw[j0]at h;obtain⟨u,r,rfl,a,b⟩:=h;exact j0.cons a (j0.set q n b)
end
noncomputable def j6(H:Hp)(O:List Addr):Hp:=fun b=>if b∈O then none else H b
def ZN{H:Hp}{O:List Addr}{b:Addr}(h:b∈O):j6 H O b=none:=if_pos h
def jR{H:Hp}{O:List Addr}{b:Addr}(h:b∉O):j6 H O b=H b:=if_neg h
def Jg{H:Hp}{O:List Addr}{b:Addr}{o:HO}(h:j6 H O b=some o):b∉O/\H b=some o:=by
 by_cases hb:b∈O
 ·rw[ZN hb]at h;cases h
 ·rw[jR hb]at h;exact⟨hb,h⟩
def Jj{H:Hp}{O:List Addr}:j5 (j6 H O) H:=fun b o h=>(Jg h).2
def JE{H:Hp}{O O':List Addr}(s:∀a∈O',a∈O):j5 (j6 H O) (j6 H O'):=fun b o h=>by
 obtain⟨h1,h2⟩:=Jg h;rw[jR (fun z=>h1 (s b z))];exact h2
def jc{H H':Hp}{O:List Addr}(s:j5 H H'):j5 (j6 H O) (j6 H' O):=fun b o h=>by
 obtain⟨h1,h2⟩:=Jg h;rw[jR h1];exact s _ _ h2
def yg{H H':Hp}{O:List Addr}{l:Addr}(s:j5 H H')(hl:H l=none):j5 (j6 H O) (j6 H' (l::O)):=fun b o h=>by
 obtain⟨h1,h2⟩:=Jg h;have ne:b≠l:=jJ h2 hl;rw[jR (by intro z;rcases List.mem_cons.mp z with z | z;exact ne z;exact h1 z)];exact s _ _ h2
def Ja{H:Hp}{O:List Addr}{l:Addr}{o:HO}(h:l∈O):j6 (upd H l o) O=j6 H O:=by
 funext b;by_cases hb:b∈O
 ·rw[ZN hb,ZN hb]
 ·rw[jR hb,jR hb,jq (fun e=>hb (by rw[e];exact h))]
inductive OD where
 | lst (ds:List D) | ins (C:Addr) (ns:List Str) (ds:List D) | dct (ks vs:List D) | sz (n:Nat)
@[simp] noncomputable def OD.toD:OD->D
 | .lst ds=>.lst ds
 | .ins C ns ds=>.ins C ns ds
 | .dct ks vs=>.dct ks vs
 | .sz n=>.sz n
def JR(K:uXa)(H Hd:Hp)(l:Addr):OD->Prop
 | .lst ds=>∃vs,H l=some (.lst vs)/\j0 K Hd ds vs
 | .ins C ns ds=>∃dx vs,H l=some (.ins C dx (ns.zip vs))/\ns.length=vs.length/\j0 K Hd ds vs
 | .dct ks vs=>∃kvs ep,H l=some (.dD kvs ep)/\jK ks=some (kvs.map (·.1))/\j0 K Hd ks (kvs.map fun p=>V.ref p.2.1)/\j0 K Hd vs (kvs.map (·.2.2))
 | .sz n=>∃hf kas,H l=some (.ext (JM hf l kas))/\kas.length=n
def JR.same{K:uXa}{H H' Hd Hd':Hp}{l:Addr}{o:OD}(s:∀u,H l=some u->H' l=some u)(sd:j5 Hd Hd')(h:JR K H Hd l o):JR K H' Hd' l o:=by
 cases o with
 | lst ds=>obtain⟨vs,a,b⟩:=h;exact⟨vs,s _ a,b.same sd⟩
 | ins C ns ds=>obtain⟨dx,vs,a,n,b⟩:=h;exact⟨dx,vs,s _ a,n,b.same sd⟩
 | dct ks vs=>obtain⟨kvs,ep,a,n,b,c⟩:=h;exact⟨kvs,ep,s _ a,n,b.same sd,c.same sd⟩
 | sz n=>obtain⟨hf,kas,a,n⟩:=h;exact⟨hf,kas,s _ a,n⟩
def JR.there{K:uXa}{H Hd:Hp}{l:Addr}{o:OD}(h:JR K H Hd l o):H l≠none:=by
 cases o with
 | lst ds=>obtain⟨vs,a,b⟩:=h;rw[a];exact fun z=>nomatch z
 | ins C ns ds=>obtain⟨dx,vs,a,n,b⟩:=h;rw[a];exact fun z=>nomatch z
 | dct ks vs=>obtain⟨kvs,ep,a,n,b⟩:=h;rw[a];exact fun z=>nomatch z
 | sz n=>obtain⟨hf,kas,a,n⟩:=h;rw[a];exact fun z=>nomatch z
def JR.rep{K:uXa}{H Hd:Hp}{l:Addr}{o:OD}(s:∀u,H l=some u->Hd l=some u)(h:JR K H Hd l o):j9 K Hd o.toD (.ref l):=by
 cases o with
 | lst ds=>obtain⟨vs,a,b⟩:=h;show j9 K Hd (.lst ds) _;rw[j9];exact⟨l,vs,rfl,s _ a,b⟩
 | ins C ns ds=>obtain⟨dx,vs,a,n,b⟩:=h;show j9 K Hd (.ins C ns ds) _;rw[j9];exact⟨l,dx,vs,rfl,s _ a,n,b⟩
 | dct ks vs=>obtain⟨kvs,ep,a,n,b,c⟩:=h;show j9 K Hd (.dct ks vs) _;rw[j9];exact⟨l,kvs,ep,rfl,s _ a,n,b,c⟩
 | sz n=>obtain⟨hf,kas,a,n⟩:=h;show j9 K Hd (.sz _) _;rw[j9];exact⟨l,hf,kas,rfl,s _ a,n⟩
inductive Sl where
 | un
 | cl (d:D)
 | bo (d:D)
 | ow (q:Option Addr) (o:OD)
 | lo (ls:List (List D))
noncomputable abbrev je:=List Sl
def RB(K:uXa)(O:List Addr)(H:Hp)(d:D)(v:V):Prop:=j9 K (j6 H O) d v \/∃l o,v=.ref l/\d=OD.toD o/\JR K H (j6 H O) l o
def RB.same{K:uXa}{O:List Addr}{H H':Hp}{d:D}{v:V}(s:j5 H H')(h:RB K O H d v):RB K O H' d v:=by
 rcases h with h | ⟨l,o,e1,e2,h1⟩
 ·exact .inl (h.same (jc s))
 ·exact .inr ⟨l,o,e1,e2,h1.same (s l) (jc s)⟩
def RB.full{K:uXa}{O:List Addr}{H:Hp}{d:D}{v:V}(h:RB K O H d v):j9 K H d v:=by
 rcases h with h | ⟨l,o,rfl,rfl,h1⟩
 ·exact h.same Jj
 ·exact(h1.same (fun _ z=>z) Jj).rep fun _ z=>z
def RB.lst{K:uXa}{O:List Addr}{H:Hp}{ds:List D}{v:V}(h:RB K O H (.lst ds) v):∃p xs,v=.ref p/\H p=some (.lst xs)/\j0 K (j6 H O) ds xs:=by
 rcases h with h | ⟨l,o,rfl,e,h1⟩
 ·rw[j9]at h;obtain⟨a,xs,rfl,q,r⟩:=h;exact⟨a,xs,rfl,Jj _ _ q,r⟩
 ·cases o <;> cases e;obtain⟨vs,a,b⟩:=h1;exact⟨l,vs,rfl,a,b⟩
def RB.tup{K:uXa}{O:List Addr}{H:Hp}{ds:List D}{v:V}(h:RB K O H (.tup ds) v):∃p xs,v=.ref p/\Jq K H p xs/\j0 K (j6 H O) ds xs:=by
 rcases h with h | ⟨l,o,rfl,e,h1⟩
 ·rw[j9]at h;obtain⟨a,xs,rfl,q,r⟩:=h;exact⟨a,xs,rfl,Jj.tup q,r⟩
 ·cases o <;> cases e
def RB.int{K:uXa}{O:List Addr}{H:Hp}{i:Int}{v:V}(h:RB K O H (.int i) v):v=.int i:=by have:=h.full;rwa [j9]at this
def RB.bl{K:uXa}{O:List Addr}{H:Hp}{i:Bool}{v:V}(h:RB K O H (.bl i) v):v=.bl i:=by have:=h.full;rwa [j9]at this
def RB.str{K:uXa}{O:List Addr}{H:Hp}{i:Str}{v:V}(h:RB K O H (.str i) v):v=.str i:=by have:=h.full;rwa [j9]at this
def RB.non{K:uXa}{O:List Addr}{H:Hp}{v:V}(h:RB K O H .non v):v=.non:=by have:=h.full;rwa [j9]at this
def RB.ins{K:uXa}{O:List Addr}{H:Hp}{C:Addr}{ns:List Str}{ds:List D}{v:V}(h:RB K O H (.ins C ns ds) v):∃a dx xs,v=.ref a/\H a=some (.ins C dx (ns.zip xs))/\ns.length=xs.length/\j0 K (j6 H O) ds xs:=by
 rcases h with h | ⟨l,o,rfl,e,h1⟩
 ·rw[j9]at h;obtain⟨a,dx,xs,rfl,q,n,r⟩:=h;exact⟨a,dx,xs,rfl,Jj _ _ q,n,r⟩
 ·cases o <;> cases e;obtain⟨dx,vs,a,n,b⟩:=h1;exact⟨l,dx,vs,rfl,a,n,b⟩
def RB.dct{K:uXa}{O:List Addr}{H:Hp}{ks vs:List D}{v:V}(h:RB K O H (.dct ks vs) v):∃a kvs ep,v=.ref a/\H a=some (.dD kvs ep)/\jK ks=some (kvs.map (·.1))/\j0 K (j6 H O) ks (kvs.map fun p=>V.ref p.2.1)/\j0 K (j6 H O) vs (kvs.map (·.2.2)):=by
 rcases h with h | ⟨l,o,rfl,e,h1⟩
 ·rw[j9]at h;obtain⟨a,kvs,ep,rfl,q,n,r⟩:=h;exact⟨a,kvs,ep,rfl,Jj _ _ q,n,r⟩
 ·cases o <;> cases e;obtain⟨kvs,ep,a,n,b⟩:=h1;exact⟨l,kvs,ep,rfl,a,n,b⟩
def J4(K:uXa)(Hd H:Hp):List Addr->List (List D)->Prop
 | [],[]=>True
 | a::as,m::r=>(∃vs,H a=some (.lst vs)/\j0 K Hd m vs)/\J4 K Hd H as r
 | _,_=>False
theorem J4.mono{K:uXa}{Hd Hd' H H':Hp}(sd:j5 Hd Hd'):∀{as:List Addr} {ls:List (List D)},(∀a∈as,∀u,H a=some u->H' a=some u)->J4 K Hd H as ls->J4 K Hd' H' as ls
 | [],[],_,_=>trivial
 | a::as,xs::r,s,h=>by
  obtain⟨⟨vs,h1,h2⟩,h3⟩:=h;exact⟨⟨vs,s a wNa _ h1,h2.same sd⟩,J4.mono sd (fun b hb=>s b (wMa _ hb)) h3⟩
 | [],_::_,_,h=>h.elim
 | _::_,[],_,h=>h.elim
theorem J4.at{K:uXa}{Hd H:Hp}:∀{as:List Addr} {ls:List (List D)},J4 K Hd H as ls->∀a∈as,∃vs,H a=some (.lst vs)
 | _::_,_::_,h,a,ha=>by
  obtain⟨⟨vs,h1,_⟩,h3⟩:=h;rcases uTa ha with rfl | ha
  ·exact⟨vs,h1⟩
  ·exact J4.at h3 a ha
 | _::_,[],h,_,_=>h.elim
def Zg(K:uXa)(H Hd:Hp)(l:Addr)(ps:List Addr)(ls:List (List D)):Prop:=H l=some (.lst (ps.map V.ref))/\J4 K Hd H ps ls
def Zg.at{K:uXa}{H Hd:Hp}{l:Addr}{ps:List Addr}{ls:List (List D)}(h:Zg K H Hd l ps ls):∀a∈l::ps,∃vs,H a=some (.lst vs):=fun a ha=>by
 rcases uTa ha with rfl | ha
 ·exact⟨_,h.1⟩
 ·exact h.2.at a ha
def yd(Z:je)(U:L2.St)(a:Addr):Prop:=∃(j:Nat) (q:Option Addr) (o:OD),Z[j]?=some (.ow q o)/\U[j]?=some (some (.ref a))
def XS(K:uXa)(H0:Hp)(Z:je)(U:L2.St)(H:Hp)(O:List Addr):Prop:=∀(i:Nat) (ls:List (List D)),Z[i]?=some (.lo ls)->∃l ps,U[i]?=some (some (.ref l))/\Zg K H (j6 H O) l ps ls/\(l::ps).Nodup/\(∀a∈l::ps,a∈O/\H0 a=none/\¬yd Z U a)/\∀j ms,Z[j]?=some (.lo ms)->j=i
def XS.up{K:uXa}{H0 H H':Hp}{Z Z':je}{U U':L2.St}{O O':List Addr}(h:XS K H0 Z U H O)(h1:∀(i:Nat) (ls:List (List D)),Z'[i]?=some (.lo ls)->Z[i]?=some (.lo ls)/\U'[i]?=U[i]?)(h2:∀a,H a≠none->yd Z' U' a->yd Z U a)
  (h3:∀a,a∈O->¬yd Z U a->a∈O'/\∀u,H a=some u->H' a=some u) (h4:j5 (j6 H O) (j6 H' O')):XS K H0 Z' U' H' O':=fun i ls e=>by
 obtain⟨e1,e2⟩:=h1 i ls e;obtain⟨l,ps,a,b,n,f,u⟩:=h i ls e1;have k:∀c∈l::ps,∀u,H c=some u->H' c=some u:=fun c hc=>(h3 c (f c hc).1 (f c hc).2.2).2;refine⟨l,ps,e2.trans a,⟨k l wNa _ b.1,b.2.mono h4 fun c hc=>k c (wMa _ hc)⟩,n,fun c hc=>⟨(h3 c (f c hc).1 (f c hc).2.2).1,(f c hc).2.1,fun z=>(f c hc).2.2 (h2 c ?_ z)⟩,fun j ms z=>u j ms (h1 j ms z).1⟩;obtain⟨vs,hv⟩:=b.at c hc;rw[hv];exact fun z=>nomatch z
def RB.sz{K:uXa}{O:List Addr}{H:Hp}{n:Nat}{v:V}(h:RB K O H (.sz n) v):∃a hf kas,v=.ref a/\H a=some (.ext (JM hf a kas))/\kas.length=n:=by
 rcases h with h | ⟨l,o,rfl,e,h1⟩
 ·rw[j9]at h;obtain⟨a,hf,kas,rfl,q,n⟩:=h;exact⟨a,hf,kas,rfl,Jj _ _ q,n⟩
 ·cases o <;> cases e;obtain⟨hf,kas,a,n⟩:=h1;exact⟨l,hf,kas,rfl,a,n⟩
structure Rel (K:uXa) (H0:Hp) (O0:List Addr) (Z:je) (U:L2.St) (H:Hp) (O:List Addr):Prop where
 len:U.length=Z.length
 sub:∀a∈O0,a∈O
 fr:∀a∈O,a∈O0 \/ H0 a=none
 al0:∀a∈O0,H0 a≠none
 al:∀a∈O,H a≠none
 keep:j5 H0 H
 cl:∀(i:Nat) (d:D),Z[i]?=some (.cl d)->∃v,U[i]?=some (some v)/\j9 K (j6 H O) d v
 bo:∀(i:Nat) (d:D),Z[i]?=some (.bo d)->∃v,U[i]?=some (some v)/\RB K O0 H0 d v
 ow:∀(i:Nat) (q:Option Addr) (o:OD),Z[i]?=some (.ow q o)->∃l,(∀p,q=some p->l=p)/\U[i]?=some (some (.ref l))/\JR K H (j6 H O) l o/\l∈O/\H0 l=none
 dist:∀(i j:Nat) (q q':Option Addr) (ds es:OD) (l:Addr),Z[i]?=some (.ow q ds)->Z[j]?=some (.ow q' es)->U[i]?=some (some (.ref l))->U[j]?=some (some (.ref l))->i=j
 lo:XS K H0 Z U H O
section
variable {K:uXa} {H0 H H':Hp} {O0 O:List Addr} {Z:je} {U:L2.St}
def Rel.in0(R:Rel K H0 O0 Z U H O):j5 (j6 H0 O0) (j6 H O):=fun b o h=>by
 obtain⟨h1,h2⟩:=Jg h;rw[jR (fun z=>by rcases R.fr b z with y | y;exact h1 y;rw[h2]at y;cases y)];exact R.keep _ _ h2
def Rel.grow(R:Rel K H0 O0 Z U H O)(s:j5 H H'):Rel K H0 O0 Z U H' O where
 len:=R.len
 sub:=R.sub
 fr:=R.fr
 al0:=R.al0
 al:=fun a h z=>R.al a h (s.none z)
 keep:=R.keep.trans s
 cl:=fun i d e=>by obtain⟨v,a,b⟩:=R.cl i d e;exact⟨v,a,b.same (jc s)⟩
 bo:=R.bo
 ow:=fun i q d e=>by obtain⟨l,z,a,b,d,f⟩:=R.ow i q d e;exact⟨l,z,a,b.same (s l) (jc s),d,f⟩
 dist:=R.dist
 lo:=R.lo.up (fun i ls e=>⟨e,rfl⟩) (fun a _ z=>z) (fun a h _=>⟨h,fun u z=>s a u z⟩) (jc s)
def Rel.new(R:Rel K H0 O0 Z U H O){p:Addr}(h:H p=none):p∉O:=fun z=>R.al p z h
def jr{α:Type}{xs:List α}{i j:Nat}{x y:α}(h:(xs.set i x)[j]?=some y):(j=i/\y=x/\i < xs.length) \/ (j≠i/\xs[j]?=some y):=by
 rw[List.getElem?_set]at h;by_cases e:i=j
 ·subst e;rw[if_pos rfl]at h;split at h
  ·exact .inl ⟨rfl,(vFa h).symm,by assumption⟩
  ·cases h
 ·rw[if_neg e]at h;exact .inr ⟨fun z=>e z.symm,h⟩
def ZO{α:Type}{xs:List α}{i:Nat}{x:α}(h:i < xs.length):(xs.set i x)[i]?=some x:=by simp[h]
def Jx{α:Type}{xs:List α}{i j:Nat}{x:α}(h:j≠i):(xs.set i x)[j]?=xs[j]?:=by rw[List.getElem?_set,if_neg (fun z=>h z.symm)]
def uw{i j:Nat}{s:Sl}{v:Option V}{ls:List (List D)}(hs:∀ls,s≠.lo ls)(e:(Z.set i s)[j]?=some (.lo ls)):Z[j]?=some (.lo ls)/\(U.set i v)[j]?=U[j]?:=by
 rcases jr e with⟨rfl,e',_⟩ | ⟨ne,e'⟩
 ·exact vDa e'.symm (hs ls)
 ·exact⟨e',Jx ne⟩
def gz{i:Nat}{s:Sl}{v:Option V}{a:Addr}(hs:∀q o,s=.ow q o->v≠some (.ref a))(hi:U.length=Z.length):yd (Z.set i s) (U.set i v) a->yd Z U a:=fun xx=>by
 obtain⟨j,q,o,e,z⟩:=xx;rcases jr e with⟨rfl,e',hj⟩ | ⟨ne,e'⟩
 ·rw[ZO (by rw[hi];exact hj)]at z;exact vDa (vFa z) (hs _ _ e'.symm)
 ·rw[Jx ne]at z;exact⟨j,q,o,e',z⟩
def Rel.set(R:Rel K H0 O0 Z U H O){d:D}{v:V}(q:j9 K (j6 H O) d v)(i:Nat):Rel K H0 O0 (Z.set i (.cl d)) (U.set i (some v)) H O where
 len:=by rw[List.length_set,List.length_set];exact R.len
 sub:=R.sub
 fr:=R.fr
 al0:=R.al0
 al:=R.al
 keep:=R.keep
 cl:=fun j d' e=>by
  rcases jr e with⟨rfl,e',hi⟩ | ⟨ne,e'⟩
  ·cases e';exact⟨v,ZO (by rw[R.len];exact hi),q⟩
  ·rw[Jx ne];exact R.cl j d' e'
 bo:=fun j d' e=>by
  rcases jr e with⟨rfl,e',hi⟩ | ⟨ne,e'⟩
  ·cases e'
  ·rw[Jx ne];exact R.bo j d' e'
 ow:=fun j q' d' e=>by
  rcases jr e with⟨rfl,e',hi⟩ | ⟨ne,e'⟩
  ·cases e'
  ·rw[Jx ne];exact R.ow j q' d' e'
 dist:=fun j k q1 q2 ds es l e1 e2 s1 s2=>by
  rcases jr e1 with⟨rfl,e',hi⟩ | ⟨ne,e1'⟩
  ·cases e'
  ·rcases jr e2 with⟨rfl,e',hi⟩ | ⟨ne2,e2'⟩
   ·cases e'
   ·rw[Jx ne]at s1;rw[Jx ne2]at s2;exact R.dist j k q1 q2 ds es l e1' e2' s1 s2
 lo:=R.lo.up (fun j ls e=>uw (by intro _ z;cases z) e) (fun a _ z=>gz (by intro _ _ z;cases z) R.len z) (fun a h _=>⟨h,fun u z=>z⟩) (j5.refl _)
def Rel.forget(R:Rel K H0 O0 Z U H O)(i:Nat):Rel K H0 O0 (Z.set i .un) U H O where
 len:=by rw[List.length_set];exact R.len
 sub:=R.sub
 fr:=R.fr
 al0:=R.al0
 al:=R.al
 keep:=R.keep
 cl:=fun j d' e=>by
  rcases jr e with⟨rfl,e',hi⟩ | ⟨ne,e'⟩
  ·cases e'
  ·exact R.cl j d' e'
 bo:=fun j d' e=>by
  rcases jr e with⟨rfl,e',hi⟩ | ⟨ne,e'⟩
  ·cases e'
  ·exact R.bo j d' e'
 ow:=fun j q' d' e=>by
  rcases jr e with⟨rfl,e',hi⟩ | ⟨ne,e'⟩
  ·cases e'
  ·exact R.ow j q' d' e'
 dist:=fun j k q1 q2 ds es l e1 e2 s1 s2=>by
  rcases jr e1 with⟨rfl,e',hi⟩ | ⟨ne,e1'⟩
  ·cases e'
  ·rcases jr e2 with⟨rfl,e',hi⟩ | ⟨ne2,e2'⟩
   ·cases e'
   ·exact R.dist j k q1 q2 ds es l e1' e2' s1 s2
 lo:=R.lo.up (fun j ls e=>⟨(uw (U:=U) (v:=none) (by intro _ z;cases z) e).1,rfl⟩) (fun a _ xx=>by
  obtain⟨j,q,o,e,z⟩:=xx;rcases jr e with⟨rfl,e',_⟩ | ⟨_,e'⟩
  ·cases e'
  ·exact⟨j,q,o,e',z⟩) (fun a h _=>⟨h,fun u z=>z⟩) (j5.refl _)
def Rel.own(R:Rel K H0 O0 Z U H O){ds:OD}{l:Addr}(s:j5 H H')(hn:H l=none)(h:JR K H' (j6 H' (l::O)) l ds)(i:Nat):Rel K H0 O0 (Z.set i (.ow none ds)) (U.set i (some (.ref l))) H' (l::O) where
 len:=by rw[List.length_set,List.length_set];exact R.len
 sub:=fun a h=>wMa _ (R.sub a h)
 fr:=fun a ha=>by
  rcases uTa ha with rfl | ha
  ·exact .inr (R.keep.none hn)
  ·exact R.fr a ha
 al0:=R.al0
 al:=fun a ha=>by
  rcases uTa ha with rfl | ha
  ·exact h.there
  ·exact fun z=>R.al a ha (s.none z)
 keep:=R.keep.trans s
 cl:=fun j d' e=>by
  rcases jr e with⟨rfl,e',hi⟩ | ⟨ne,e'⟩
  ·cases e'
  ·rw[Jx ne];obtain⟨v,a,b⟩:=R.cl j d' e';exact⟨v,a,b.same (yg s hn)⟩
 bo:=fun j d' e=>by
  rcases jr e with⟨rfl,e',hi⟩ | ⟨ne,e'⟩
  ·cases e'
  ·rw[Jx ne];exact R.bo j d' e'
 ow:=fun j q' d' e=>by
  rcases jr e with⟨rfl,e',hi⟩ | ⟨ne,e'⟩
  ·cases e';exact⟨l,(fun p z=>nomatch z),ZO (by rw[R.len];exact hi),h,wNa,R.keep.none hn⟩
  ·rw[Jx ne];obtain⟨l',z,a,b,d,f⟩:=R.ow j q' d' e';exact⟨l',z,a,b.same (s l') (yg s hn),wMa _ d,f⟩
 dist:=fun j k q1 q2 ds' es l' e1 e2 s1 s2=>by
  have other:∀(j:Nat) (q:Option Addr) (ds:OD),Z[j]?=some (.ow q ds)->U[j]?≠some (some (.ref l)):=fun j q ds e z=>by
   obtain⟨l2,_,a,b,_⟩:=R.ow j q ds e;rw[z]at a;cases a;exact b.there hn
  rcases jr e1 with⟨rfl,e',hi⟩ | ⟨ne,e1'⟩
  ·rcases jr e2 with⟨rfl,e'',hi'⟩ | ⟨ne2,e2'⟩
   ·rfl
   ·rw[ZO (by rw[R.len];exact hi)]at s1;cases s1;rw[Jx ne2]at s2;exact vDa s2 (other k q2 es e2')
  ·rcases jr e2 with⟨rfl,e',hi⟩ | ⟨ne2,e2'⟩
   ·rw[ZO (by rw[R.len];exact hi)]at s2;cases s2;rw[Jx ne]at s1;exact vDa s1 (other j q1 ds' e1')
   ·rw[Jx ne]at s1;rw[Jx ne2]at s2;exact R.dist j k q1 q2 ds' es l' e1' e2' s1 s2
 lo:=R.lo.up (fun j ls e=>uw (by intro _ z;cases z) e) (fun a ha z=>gz (by intro _ _ _ y;cases y;exact ha hn) R.len z) (fun a ha _=>⟨wMa _ ha,fun u z=>s a u z⟩) (yg s hn)
def Rel.change(R:Rel K H0 O0 Z U H O){qq:Option Addr}{ds ds':OD}{u:HO}{l:Addr}{i:Nat}(e:Z[i]?=some (.ow qq ds))(hq:∀p,qq=some p->l=p)(hi:U[i]?=some (some (.ref l)))(hl:l∈O)(h0:H0 l=none)(q:JR K (upd H l u) (j6 H O) l ds'):Rel K H0 O0 (Z.set i (.ow qq ds')) U (upd H l u) O where
 len:=by rw[List.length_set];exact R.len
 sub:=R.sub
 fr:=R.fr
 al0:=R.al0
 al:=fun a ha=>by
  by_cases z:a=l
  ·rw[z,jV];exact fun z=>nomatch z
  ·rw[jq z];exact R.al a ha
 keep:=R.keep.upd h0 _
 cl:=fun j d' e=>by
  rcases jr e with⟨rfl,e',hi⟩ | ⟨ne,e'⟩
  ·cases e'
  ·rw[Ja hl];exact R.cl j d' e'
 bo:=fun j d' e=>by
  rcases jr e with⟨rfl,e',hi⟩ | ⟨ne,e'⟩
  ·cases e'
  ·exact R.bo j d' e'
 ow:=fun j q' d' e2=>by
  rw[Ja hl];rcases jr e2 with⟨rfl,e',_⟩ | ⟨ne,e'⟩
  ·cases e';exact⟨l,hq,hi,q,hl,h0⟩
  ·obtain⟨l',z,a,b,d,f⟩:=R.ow j q' d' e';refine⟨l',z,a,b.same (fun u h=>?_) (j5.refl _),d,f⟩;rw[jq]
   ·exact h
   ·rintro rfl;exact ne (R.dist j i _ _ _ _ _ e' e a hi)
 dist:=fun j k q1 q2 ds1 es l' e1 e2 s1 s2=>by
  have f:∀(j:Nat) (q:Option Addr) (ds1:OD),(Z.set i (.ow qq ds'))[j]?=some (.ow q ds1)->∃q2 ds2,Z[j]?=some (.ow q2 ds2):=fun j q ds1 z=>by
   rcases jr z with⟨rfl,_,_⟩ | ⟨_,z⟩
   ·exact⟨_,_,e⟩
   ·exact⟨_,_,z⟩
  obtain⟨_,d1,f1⟩:=f j _ _ e1;obtain⟨_,d2,f2⟩:=f k _ _ e2;exact R.dist j k _ _ _ _ l' f1 f2 s1 s2
 lo:=by
  have ft:yd Z U l:=⟨i,_,_,e,hi⟩
  refine R.lo.up (fun j ls e=>⟨(uw (U:=U) (v:=none) (by intro _ z;cases z) e).1,rfl⟩) (fun a _ ⟨j,q,o,e',z⟩=>?_) (fun a ha nf=>⟨ha,fun u z=>?_⟩) (by rw[Ja hl];exact j5.refl _)
  ·rcases jr e' with⟨rfl,_,_⟩ | ⟨_,e'⟩
   ·exact⟨_,_,_,e,z⟩
   ·exact⟨j,q,o,e',z⟩
  ·rw[jq fun y=>nf (by rw[y];exact ft)];exact z
def Rel.share(R:Rel K H0 O0 Z U H O){q:Option Addr}{ds:OD}{i:Nat}(e:Z[i]?=some (.ow q ds)):∃O',Rel K H0 O0 (Z.set i (.cl ds.toD)) U H O'/\j5 (j6 H O) (j6 H O'):=by
 obtain⟨l,_,hs,q,lo,h0⟩:=R.ow i q ds e;have ss:j5 (j6 H O) (j6 H (O.filter (·≠l))):=JE fun a h=>(uUa h).1;have nin:l∉O.filter (·≠l):=fun z=>by simpa using (uUa z).2
 refine⟨O.filter (·≠l),⟨by rw[List.length_set];exact R.len,fun a h=>List.mem_filter.mpr ⟨R.sub a h,?_⟩,fun a h=>R.fr a (uUa h).1,R.al0,fun a h=>R.al a (uUa h).1,R.keep,?_,?_,?_,?_,?_⟩,ss⟩
 ·have z:a≠l:=by
   rintro rfl;exact R.al0 a h h0
  simpa using z
 ·intro j d' e2;rcases jr e2 with⟨rfl,e',hi⟩ | ⟨ne,e'⟩
  ·cases e';exact⟨_,hs,(q.same (fun _ z=>z) ss).rep fun u z=>by rw[jR nin];exact z⟩
  ·obtain⟨v,a,b⟩:=R.cl j d' e';exact⟨v,a,b.same ss⟩
 ·intro j d' e2;rcases jr e2 with⟨rfl,e',hi⟩ | ⟨ne,e'⟩
  ·cases e'
  ·exact R.bo j d' e'
 ·intro j q' d' e2;rcases jr e2 with⟨rfl,e',hi⟩ | ⟨ne,e'⟩
  ·cases e'
  ·obtain⟨l',z,a,b,d,f⟩:=R.ow j q' d' e';refine⟨l',z,a,b.same (fun _ z=>z) ss,List.mem_filter.mpr ⟨d,?_⟩,f⟩;have z:l'≠l:=by
    rintro rfl;exact ne (R.dist j i _ _ _ _ _ e' e a hs)
   simpa using z
 ·intro j k q1 q2 ds1 es l' e1 e2 s1 s2;rcases jr e1 with⟨rfl,e',hi⟩ | ⟨ne,e1'⟩
  ·cases e'
  ·rcases jr e2 with⟨rfl,e',hi⟩ | ⟨ne2,e2'⟩
   ·cases e'
   ·exact R.dist j k _ _ _ _ l' e1' e2' s1 s2
 ·refine R.lo.up (fun j ls e=>⟨(uw (U:=U) (v:=none) (by intro _ z;cases z) e).1,rfl⟩) (fun a _ ⟨j,q,o,e',z⟩=>?_) (fun a ha nf=>⟨List.mem_filter.mpr ⟨ha,?_⟩,fun u z=>z⟩) ss
  ·rcases jr e' with⟨rfl,y,_⟩ | ⟨_,e'⟩
   ·cases y
   ·exact⟨j,q,o,e',z⟩
  ·have:a≠l:=fun y=>nf (by rw[y];exact⟨i,_,_,e,hs⟩);simpa using this
end
abbrev DE:=je->Option D
abbrev DO:=je->Option OD
noncomputable abbrev Fr:=uXa
def tE(K:Fr)(de:DE):TE:=fun U H Q=>∃H0 O0 Z O d,Rel K H0 O0 Z U H O/\de Z=some d/\∀v H',j5 H H'->j9 K (j6 H' O) d v->Q v H'
def tR(K:Fr)(de:DE):TE:=fun U H Q=>∃H0 O0 Z O d,Rel K H0 O0 Z U H O/\de Z=some d/\∀v H',j5 H H'->RB K O H' d v->Q v H'
def tF(K:Fr)(de:DO):TE:=fun U H Q=>∃H0 O0 Z O o,Rel K H0 O0 Z U H O/\de Z=some o/\∀l H',j5 H H'->H l=none->JR K H' (j6 H' (l::O)) l o->Q (.ref l) H'
def tT(K:Fr)(dt:je->Option Bool):TT:=fun U H Q=>∃H0 O0 Z O b,Rel K H0 O0 Z U H O/\dt Z=some b/\∀H',j5 H H'->Q b H'
def AK(K:Fr)(O:List Addr)(H:Hp):Bool->D->V->Prop
 | true,d,v=>j9 K (j6 H O) d v
 | false,d,v=>RB K O H d v
def yA(K:Fr)(O:List Addr)(H:Hp):List Bool->List D->List V->Prop
 | [],[],[]=>True
 | k::ks,d::ds,v::vs=>AK K O H k d v/\yA K O H ks ds vs
 | _,_,_=>False
theorem AK.same{K:Fr}{O:List Addr}{H H':Hp}(s:j5 H H'):∀{k:Bool} {d:D} {v:V},AK K O H k d v->AK K O H' k d v
 | true,_,_,h=>j9.same (jc s) h
 | false,_,_,h=>RB.same s h
theorem AK.rb{K:Fr}{O:List Addr}{H:Hp}:∀{k:Bool} {d:D} {v:V},AK K O H k d v->RB K O H d v
 | true,_,_,h=>.inl h
 | false,_,_,h=>h
theorem yA.same{K:Fr}{O:List Addr}{H H':Hp}(s:j5 H H'):∀{ks:List Bool} {ds:List D} {vs:List V},yA K O H ks ds vs->yA K O H' ks ds vs
 | [],[],[],_=>trivial
 | _::_,_::_,_::_,h=>⟨AK.same s h.1,yA.same s h.2⟩
 | [],[],_::_,h=>h.elim
 | [],_::_,_,h=>h.elim
 | _::_,[],_,h=>h.elim
 | _::_,_::_,[],h=>h.elim
noncomputable abbrev DA:=List (Bool×DE)
@[simp] noncomputable def YK:DA->je->Option (List D)
 | [],_=>some []
 | p::ps,Z=>(p.2 Z).bind fun d=>(YK ps Z).bind fun ds=>some (d::ds)
def zp(K:Fr)(l:DA):TA:=fun U H Q=>∃H0 O0 Z O ds,Rel K H0 O0 Z U H O/\YK l Z=some ds/\∀vs H',j5 H H'->yA K O H' (l.map (·.1)) ds vs->Q vs H'
section
variable {X:Cx} {K:Fr} {e a b c d:Expr} {de da db dc dd:DE} {pos:Pos}
def jz{t t':TE}(h:PE X e t)(f:∀U H Q,t' U H Q->t U H Q):PE X e t':=fun pins s U H Q I q=>h pins s U H Q I (f U H Q q)
def Gg{t t':TT}(h:PT X e t)(f:∀U H Q,t' U H Q->t U H Q):PT X e t':=fun pins s U H Q I q=>h pins s U H Q I (f U H Q q)
def XT{t t':TT}(h:PW X e t)(f:∀U H Q,t' U H Q->t U H Q):PW X e t':=fun w pins s U H Q I q=>h w pins s U H Q I (f U H Q q)
def XU{es:List Expr}{t t':TA}(h:PA X es t)(f:∀U H Q,t' U H Q->t U H Q):PA X es t':=fun p pins s U H Q I q=>h p pins s U H Q I (f U H Q q)
def F2(h:PE X e (tE K de)):PE X e (tR K de):=jz h fun U H Q ⟨H0,O0,Z,O,d,R,ed,q⟩=>⟨H0,O0,Z,O,d,R,ed,fun v H' s r=>q v H' s (.inl r)⟩
@[simp] def dL(df:DO)(Z:je):Option D:=(df Z).bind fun l=>some l.toD
def j3{α β:Type}{o:Option α}{f:α->Option β}{y:β}(h:o.bind f=some y):∃x,o=some x/\f x=some y:=by
 cases o with
 | none=>cases h
 | some x=>exact⟨x,rfl,h⟩
def BA{df:DO}(h:PE X e (tF K df)):PE X e (tE K (dL df)):=jz h fun U H Q xx=>by
 obtain⟨H0,O0,Z,O,d,R,ed,q⟩:=xx;obtain⟨ds,e1,e2⟩:=j3 ed;cases e2;exact⟨H0,O0,Z,O,ds,R,e1,fun l H' s hn r=>q _ _ s ((r.same (fun _ z=>z) (JE fun a h=>wMa _ h)).rep fun u z=>by rw[jR (R.new hn)];exact z)⟩
@[simp] def dV(i:Nat)(Z:je):Option D:=match Z[i]? with
 | some (.cl d)=>some d
 | some (.bo d)=>some d
 | some (.ow _ o)=>some o.toD
 | _=>none
@[simp] noncomputable def dC(i:Nat)(Z:je):Option D:=match Z[i]? with
 | some (.cl d)=>some d
 | _=>none
def DF(i:Nat){x:Str}(h:PE X (.Name x pos) (yx i)):PE X (.Name x pos) (tR K (dV i)):=jz h fun U H Q xx=>by
 obtain⟨H0,O0,Z,O,d,R,ed,q⟩:=xx;unfold dV at ed;split at ed
 ·cases ed;obtain⟨v,e1,r⟩:=R.cl i _ (by assumption);exact⟨v,e1,q v H (j5.refl H) (.inl r)⟩
 ·cases ed;obtain⟨v,e1,r⟩:=R.bo i _ (by assumption);refine⟨v,e1,q v H (j5.refl H) ?_⟩;rcases r with r | ⟨l,o,e2,e3,h1⟩
  ·exact .inl (r.same R.in0)
  ·exact .inr ⟨l,o,e2,e3,h1.same (R.keep l) R.in0⟩
 ·cases ed;obtain⟨l,_,e1,h1,_⟩:=R.ow i _ _ (by assumption);exact⟨_,e1,q _ H (j5.refl H) (.inr ⟨l,_,rfl,rfl,h1⟩)⟩
 ·cases ed
def XV(i:Nat){x:Str}(h:PE X (.Name x pos) (yx i)):PE X (.Name x pos) (tE K (dC i)):=jz h fun U H Q xx=>by
 obtain⟨H0,O0,Z,O,d,R,ed,q⟩:=xx;unfold dC at ed;split at ed
 ·cases ed;obtain⟨v,e1,r⟩:=R.cl i _ (by assumption);exact⟨v,e1,q v H (j5.refl H) r⟩
 ·cases ed
@[simp] noncomputable def dK(d:D)(_:je):Option D:=some d
def Gh{v:V}{d:D}(h:PE X e (tC v))(r:∀H,j9 K H d v):PE X e (tE K (dK d)):=jz h fun U H Q xx=>by
 obtain⟨H0,O0,Z,O,d',R,ed,q⟩:=xx;cases ed;exact q v H (j5.refl H) (r _)
def DH{i j}:PE X (.Constant (.int i) j pos) (tE K (dK (.int i))):=Gh bM fun _=>by rw[j9]
def F5{i j}:PE X (.Constant (.bool i) j pos) (tE K (dK (.bl i))):=Gh Da fun _=>by rw[j9]
def DJ{j}:PE X (.Constant .none j pos) (tE K (dK .non)):=Gh bN fun _=>by rw[j9]
def DK{i j}:PE X (.Constant (.str i) j pos) (tE K (dK (.str i))):=Gh bO fun _=>by rw[j9]
def BB{x:Str}{i:Int}(h:PE X (.Name x pos) (tC (.int i))):PE X (.Name x pos) (tE K (dK (.int i))):=Gh h fun _=>by rw[j9]
@[simp] noncomputable def d2(f:D->D->Option D)(da db:DE)(Z:je):Option D:=(da Z).bind fun x=>(db Z).bind fun y=>f x y
@[simp] noncomputable def d1(f:D->Option D)(da:DE)(Z:je):Option D:=(da Z).bind f
def Ju(K:Fr)(r:R2)(f:D->D->Option D):Prop:=∀(O:List Addr) (H:Hp) (a b d:D) (x y:V) (Q:VK),RB K O H a x->RB K O H b y->(∀p,H p=none->p∉O)->f a b=some d->(∀v H',j5 H H'->j9 K (j6 H' O) d v->Q v H')->r x y H Q
def Gi{r:R2}{f:D->D->Option D}(hf:Ju K r f):∀U H Q,tE K (d2 f da db) U H Q->kH r (tR K da) (tR K db) U H Q:=fun U H Q xx=>by
 obtain⟨H0,O0,Z,O,d,R,ed,q⟩:=xx;obtain⟨x,ex,ed⟩:=j3 ed;obtain⟨y,ey,ed⟩:=j3 ed;exact⟨H0,O0,Z,O,x,R,ex,fun vx H1 s1 rx=>⟨H0,O0,Z,O,y,R.grow s1,ey,fun vy H2 s2 ry=>hf O H2 x y d vx vy Q (rx.same s2) ry (fun p hp=>(R.grow (s1.trans s2)).new hp) ed fun v H' s r=>q v H' ((s1.trans s2).trans s) r⟩⟩
def F7{op:Operator}{r:R2}{f:D->D->Option D}(ho:J0 X (binaryOp op) r)(hf:Ju K r f)(ha:PE X a (tR K da))(hb:PE X b (tR K db)):PE X (.BinOp a op b pos) (tE K (d2 f da db)):=jz (XC ho ha hb) (Gi hf)
def DL{op:CmpOp}{r:R2}{f:D->D->Option D}(ho:J0 X (compareOp op) r)(hf:Ju K r f)(ha:PE X a (tR K da))(hb:PE X b (tR K db))(hm:behindInMarks op b=false):PE X (.Compare a [op] [b] pos) (tE K (d2 f da db)):=jz (Ae ho ha hb hm) (Gi hf)
def BC{r:R2}{f:D->D->Option D}(ho:ut X r)(hf:Ju K r f)(ha:PE X a (tR K da))(hb:PE X b (tR K db))(hs:GU b):PE X (.Subscript a b pos) (tE K (d2 f da db)):=jz (Kh ho ha hb hs) (Gi hf)
def BD(K:Fr)(r:R2)(f:D->D->Option OD):Prop:=∀(O:List Addr) (H:Hp) (a b:D) (ds:OD) (x y:V) (Q:VK),RB K O H a x->RB K O H b y->f a b=some ds->(∀l H',j5 H H'->H l=none->JR K H' (j6 H' (l::O)) l ds->Q (.ref l) H')->r x y H Q
@[simp] noncomputable def Qb(f:D->D->Option OD)(da db:DE)(Z:je):Option OD:=(da Z).bind fun x=>(db Z).bind fun y=>f x y
def F8{op:Operator}{r:R2}{f:D->D->Option OD}(ho:J0 X (binaryOp op) r)(hf:BD K r f)(ha:PE X a (tR K da))(hb:PE X b (tR K db)):PE X (.BinOp a op b pos) (tF K (Qb f da db)):=jz (XC ho ha hb) fun U H Q xx=>by
 obtain⟨H0,O0,Z,O,d,R,ed,q⟩:=xx;obtain⟨x,ex,ed⟩:=j3 ed;obtain⟨y,ey,ed⟩:=j3 ed;exact⟨H0,O0,Z,O,x,R,ex,fun vx H1 s1 rx=>⟨H0,O0,Z,O,y,R.grow s1,ey,fun vy H2 s2 ry=>hf O H2 x y d vx vy Q (rx.same s2) ry ed fun l H' s hn r=>q l H' ((s1.trans s2).trans s) ((s1.trans s2).none hn) r⟩⟩
@[simp] noncomputable def fI(C:Int->Int->Bool)(g:Int->Int->D):D->D->Option D
 | .int i,.int j=>if C i j=true then some (g i j)else none
 | _,_=>none
noncomputable def vD:D->Option V
 | .int i=>some (.int i)
 | .bl i=>some (.bl i)
 | .str i=>some (.str i)
 | .non=>some .non
 | _=>none
def BE{K:Fr}{H:Hp}{d:D}{v:V}(h:vD d=some v):j9 K H d v:=by
 cases d <;> first | (cases h;rw[j9]) | cases h
def KO{C:Int->Int->Bool}{P:Int->Int->Prop}{g:Int->Int->D}{gv:Int->Int->V}(hP:∀i j,C i j=true->P i j)(hg:∀i j,vD (g i j)=some (gv i j)):Ju K (rI P gv) (fI C g):=by
 intro O H a b d x y Q ha hb _ e q;unfold fI at e;split at e
 ·split at e
  ·cases e;exact⟨_,_,ha.int,hb.int,hP _ _ (by assumption),q _ H (j5.refl H) (BE (hg _ _))⟩
  ·cases e
 ·cases e
def Gj{g:Int->Int->D}{gv:Int->Int->V}(hg:∀i j,vD (g i j)=some (gv i j)):Ju K (Zx gv) (fI (fun _ _=>true) g):=by
 intro O H a b d x y Q ha hb hn e q;obtain⟨i,j,e1,e2,_,q⟩:=KO (K:=K) (P:=fun _ _=>True) (fun _ _ _=>trivial) hg O H a b d x y Q ha hb hn e q;exact⟨i,j,e1,e2,q⟩
noncomputable abbrev YB:=fI (fun _ _=>true) fun i j=>.int (i - j)
noncomputable def uz(i j:Int):Bool:=Nat.blt i.natAbs 18446744073709551616||Nat.blt j.natAbs 18446744073709551616
abbrev XW:=fI uz fun i j=>.int (i * j)
noncomputable abbrev jF:=fI (fun _ j=>decide (0 < j)) fun i j=>.int (i % j)
noncomputable abbrev GW:=fI (fun _ j=>decide (0 < j)&&decide (j < 1073741824)) fun i j=>.int (i / j)
@[simp] noncomputable def BF(i j:Int):Bool:=decide (0<=j)&&(decide (j<=1000000)&&decide (i.natAbs < 2 ^ 64))
abbrev GX:=fI BF fun i j=>.int (i ^ j.toNat)
noncomputable abbrev Zy:=fI (fun _ _=>true) fun i j=>.bl (decide (i < j))
noncomputable abbrev Jo:=fI (fun _ _=>true) fun i j=>.bl (decide (i<=j))
noncomputable abbrev JW:=fI (fun _ _=>true) fun i j=>.bl (decide (j < i))
noncomputable abbrev Vm:=fI (fun _ _=>true) fun i j=>.bl (decide (j<=i))
def DM:Ju K (Zx fun i j=>.int (i - j)) YB:=Gj fun _ _=>rfl
def DN:Ju K (rI gw fun i j=>.int (i * j)) XW:=KO (fun i j h=>by
 unfold uz at h;rw[Bool.or_eq_true,Nat.blt_eq,Nat.blt_eq]at h;unfold gw;have e:(2:Int) ^ 64=18446744073709551616:=by decide
 rw[e];rcases h with h | h
 ·exact .inl ⟨by omega,by omega⟩
 ·exact .inr ⟨by omega,by omega⟩) fun _ _=>rfl
def DP:Ju K (rI (fun _ j=>0 < j) fun i j=>.int (i % j)) jF:=KO (fun i j h=>by simpa using h) fun _ _=>rfl
def DQ:Ju K (rI xq fun i j=>.int (i / j)) GW:=KO (fun i j h=>by simpa[xq]using h) fun _ _=>rfl
def DR:Ju K (rI xr fun i j=>.int (i ^ j.toNat)) GX:=KO (fun i j h=>by simpa[xr,BF]using h) fun _ _=>rfl
def Fa:Ju K (Zx fun i j=>.bl (decide (i < j))) Zy:=Gj fun _ _=>rfl
def Fb:Ju K (Zx fun i j=>.bl (decide (i<=j))) Jo:=Gj fun _ _=>rfl
def Fc:Ju K (Zx fun i j=>.bl (decide (j < i))) JW:=Gj fun _ _=>rfl
def Fd:Ju K (Zx fun i j=>.bl (decide (j<=i))) Vm:=Gj fun _ _=>rfl
noncomputable def vI:D->Bool
 | .non=>true
 | _=>false
@[simp] theorem FR:vI .non=true:=rfl
@[simp] theorem Hb(b:Bool):vI (.bl b)=false:=rfl
@[simp] theorem FS(b:Int):vI (.int b)=false:=rfl
@[simp] theorem FT(b:Str):vI (.str b)=false:=rfl
@[simp] theorem FU(b:List D):vI (.tup b)=false:=rfl
@[simp] theorem FV(b:List D):vI (.lst b)=false:=rfl
def XX{H:Hp}{d:D}{v:V}(h:j9 K H d v):decide (v=.non)=vI d:=by
 cases d <;> rw[j9]at h;all_goals first
  | (subst h;rfl)
  | (obtain⟨_,_,rfl,_⟩:=h;rfl)
  | (obtain⟨_,_,_,rfl,_⟩:=h;rfl)
  | (obtain⟨_,rfl,_⟩:=h;rfl)
def KP:D->D->Option D
 | d,.non=>some (.bl (vI d))
 | _,_=>none
@[simp] theorem Fe(d:D):KP d .non=some (.bl (vI d)):=by cases d <;> rfl
def ZE:D->D->Option D
 | d,.non=>some (.bl (!vI d))
 | _,_=>none
@[simp] theorem EJ(d:D):ZE d .non=some (.bl (!vI d)):=by cases d <;> rfl
def DU:Ju K (fun x y H Q=>y=.non/\Q (.bl (decide (x=.non))) H) KP:=by
 intro O H a b d x y Q ha hb _ e q;unfold KP at e;split at e
 ·cases e;exact⟨hb.non,q _ H (j5.refl H) (by rw[j9,XX ha.full])⟩
 ·cases e
def BG:Ju K (fun x y H Q=>y=.non/\Q (.bl (!decide (x=.non))) H) ZE:=by
 intro O H a b d x y Q ha hb _ e q;unfold ZE at e;split at e
 ·cases e;exact⟨hb.non,q _ H (j5.refl H) (by rw[j9,XX ha.full])⟩
 ·cases e
@[simp] noncomputable def KQ:D->D->Option D
 | .int i,.int j=>some (.bl (decide (i=j)))
 | .bl i,.bl j=>some (.bl (decide (i=j)))
 | .str i,.str j=>some (.bl (decide (i=j)))
 | _,_=>none
@[simp] def xM(a b:D):Option D:=(KQ a b).bind fun r=>match r with | .bl c=>some (.bl (!c)) | _=>none
def Vi(x y:Int):decide (V.int x=V.int y)=decide (x=y):=by simp
def um(x y:Bool):decide (V.bl x=V.bl y)=decide (x=y):=by simp
def Vj(x y:Str):decide (V.str x=V.str y)=decide (x=y):=by simp
def DV:Ju K XE KQ:=by
 intro O H a b d x y Q ha hb _ e q;unfold KQ at e;split at e
 ·cases e;rw[ha.int,hb.int];exact⟨rfl,q _ H (j5.refl H) (by rw[j9,Vi])⟩
 ·cases e;rw[ha.bl,hb.bl];exact⟨rfl,q _ H (j5.refl H) (by rw[j9,um])⟩
 ·cases e;rw[ha.str,hb.str];exact⟨rfl,q _ H (j5.refl H) (by rw[j9,Vj])⟩
 ·cases e
def DW:Ju K XF xM:=by
 intro O H a b d x y Q ha hb _ e q;unfold xM KQ at e;obtain⟨r,e1,e2⟩:=j3 e;split at e1
 ·cases e1;cases e2;rw[ha.int,hb.int];exact⟨rfl,q _ H (j5.refl H) (by rw[j9,Vi])⟩
 ·cases e1;cases e2;rw[ha.bl,hb.bl];exact⟨rfl,q _ H (j5.refl H) (by rw[j9,um])⟩
 ·cases e1;cases e2;rw[ha.str,hb.str];exact⟨rfl,q _ H (j5.refl H) (by rw[j9,Vj])⟩
 ·cases e1
def j8:D->D->Option D
 | .lst l,.int i=>atI l i
 | .tup l,.int i=>atI l i
 | _,_=>none
@[simp] theorem FW(l:List D)(i:Int):j8 (.lst l) (.int i)=L2.atI l i:=rfl
@[simp] theorem FX(l:List D)(i:Int):j8 (.tup l) (.int i)=L2.atI l i:=rfl
def j0.atI{H:Hp}{l:List D}{xs:List V}{i:Int}{d:D}(h:j0 K H l xs)(e:L2.atI l i=some d):∃v,L2.atI xs i=some v/\j9 K H d v:=by
 unfold L2.atI at e⊢;rw[h.len];obtain⟨j,e1,e2⟩:=j3 e;obtain⟨v,e3,r⟩:=h.get e2;exact⟨v,by rw[e1];exact e3,r⟩
def Ff:Ju K (EF K) j8:=by
 intro O H a b d x y Q ha hb _ e q;unfold j8 at e;split at e
 ·obtain⟨p,xs,rfl,h1,h2⟩:=ha.lst;obtain⟨v,e3,r⟩:=h2.atI e;exact .inl ⟨p,xs,_,v,rfl,hb.int,jG.of h1,e3,q v H (j5.refl H) r⟩
 ·obtain⟨p,xs,rfl,h1,h2⟩:=ha.tup;obtain⟨v,e3,r⟩:=h2.atI e;exact .inr (.inl ⟨p,xs,_,v,rfl,hb.int,h1,e3,q v H (j5.refl H) r⟩)
 ·cases e
@[simp] noncomputable def uA:D->D->Option OD
 | .lst l,.lst m=>if l.length+m.length<=sizeLine then some (.lst (l++m))else none
 | _,_=>none
def yh{O:List Addr}{H:Hp}{p:Addr}{ds:List D}{vs:List V}(hp:H p=none)(r:j0 K (j6 H O) ds vs):JR K (upd H p (.lst vs)) (j6 (upd H p (.lst vs)) (p::O)) p (.lst ds):=⟨vs,jV,r.same (yg (jC hp _) hp)⟩
def DX:BD K Bu uA:=by
 intro O H a b ds x y Q ha hb e q;unfold uA at e;split at e
 ·split at e
  ·cases e;obtain⟨p,xs,rfl,h1,h2⟩:=ha.lst;obtain⟨p',xs',rfl,h1',h2'⟩:=hb.lst;exact⟨p,p',xs,xs',rfl,rfl,h1,h1',by rw[h2.len,h2'.len];assumption,fun l hl=>q l _ (jC hl _) hl (yh hl (h2.app h2'))⟩
  ·cases e
 ·cases e
def yS{O:List Addr}{H:Hp}{p:Addr}{ds:List D}{vs:List V}(hO:p∉O)(hp:H p=none)(r:j0 K (j6 H O) ds vs):j9 K (j6 (upd H p (.tup vs)) O) (.tup ds) (.ref p):=by
 rw[j9];refine⟨p,vs,rfl,Jq.of ?_,r.same (jc (jC hp _))⟩;rw[jR hO,jV]
@[simp] noncomputable def jv:D->D->Option D
 | .int i,.int j=>some (.int (i+j))
 | .str i,.str j=>if i.length+j.length<=sizeLine then some (.str (i++j))else none
 | .tup l,.tup m=>if l.length+m.length<=sizeLine/\l≠[]then some (.tup (l++m))else none
 | _,_=>none
set_option tactic.hygienic true in
theorem DY:Ju K (fun x y H Q=>Zx (fun i j=>.int (i+j)) x y H Q \/ (fun x y H Q=>qf K x y H Q \/ (fun x y H Q=>∃i j,x=.str i/\y=.str j/\i.length+j.length<=sizeLine/\Q (.str (i++j)) H) x y H Q) x y H Q) jv:=by
 intro O H a b d x y Q ha hb hn e q;unfold jv at e;split at e
 ·cases e;exact .inl ⟨_,_,ha.int,hb.int,q _ H (j5.refl H) (by rw[j9])⟩
 ·split at e
  ·cases e;exact .inr (.inr ⟨_,_,ha.str,hb.str,by assumption,q _ H (j5.refl H) (by rw[j9])⟩)
  ·cases e
 ·split at e
  ·rename_i hh;cases e;obtain⟨p,xs,rfl,h1,h2⟩:=ha.tup;obtain⟨p',xs',rfl,h1',h2'⟩:=hb.tup;have l1:=h2.len;have l2:=h2'.len;refine .inr (.inl ⟨p,p',xs,xs',rfl,rfl,h1,h1',fun z=>hh.2 (List.length_eq_zero_iff.mp (by rw[<-l1,z];rfl)),by rw[l1,l2];exact hh.1,fun z=>?_,fun _ l hl=>q _ _ (jC hl _) (yS (hn l hl) hl (h2.app h2'))⟩);refine q _ H (j5.refl H) ?_;have e0:∀m:List D,xs'.length=m.length->xs'=[]->m=[]:=fun m h z=>List.length_eq_zero_iff.mp (by rw[<-h,z];rfl);rw[e0 _ l2 z,uFa];rcases ha with ha | ⟨_,o,_,z,_⟩
   ·exact ha
   ·cases o <;> cases z
  ·cases e
 ·cases e
end
section
variable {X:Cx} {K:Fr} {e a b c d:Expr} {de da db dc dd:DE} {pos:Pos}
@[simp] noncomputable def KR(z:D)(yes:Option D):Option D:=match z with
 | .bl true=>yes
 | .bl false=>some (.bl false)
 | _=>none
def vJ{z d:D}{y:Option D}(h:KR z y=some d):∃k,z=.bl k/\((k=true/\y=some d) \/ (k=false/\d=.bl false)):=by
 unfold KR at h;split at h
 ·exact⟨true,rfl,.inl ⟨rfl,h⟩⟩
 ·exact⟨false,rfl,.inr ⟨rfl,(vFa h).symm⟩⟩
 ·cases h
@[simp] def Jl(f f':D->D->Option D)(da db dc:DE)(Z:je):Option D:=(da Z).bind fun x=>(db Z).bind fun y=>(f x y).bind fun z=>KR z ((dc Z).bind fun w=>f' y w)
def Qc{r r':R2}{f f':D->D->Option D}(hf:Ju K r f)(hf':Ju K r' f'):∀U H Q,tE K (Jl f f' da db dc) U H Q->KA r r' (tR K da) (tR K db) (tR K dc) U H Q:=fun U H Q xx=>by
 obtain⟨H0,O0,Z,O,d,R,ed,q⟩:=xx;obtain⟨x,ex,ed⟩:=j3 ed;obtain⟨y,ey,ed⟩:=j3 ed;obtain⟨z,ez,ed⟩:=j3 ed;obtain⟨k,rfl,ek⟩:=vJ ed;refine⟨H0,O0,Z,O,x,R,ex,fun vx H1 s1 rx=>⟨H0,O0,Z,O,y,R.grow s1,ey,fun vy H2 s2 ry=>hf O H2 x y _ vx vy _ (rx.same s2) ry (fun p hp=>(R.grow (s1.trans s2)).new hp) ez fun v H3 s3 rz=>?_⟩⟩;rw[j9]at rz;subst rz;refine⟨k,rfl,?_⟩;have s13:=(s1.trans s2).trans s3;rcases ek with⟨rfl,e2⟩ | ⟨rfl,rfl⟩
 ·obtain⟨w,ew,e3⟩:=j3 e2;exact Ze ⟨H0,O0,Z,O,w,R.grow s13,ew,fun vw H4 s4 rw'=>hf' O H4 y w d vy vw Q ((ry.same s3).same s4) rw' (fun p hp=>(R.grow (s13.trans s4)).new hp) e3 fun v H' s r=>q v H' ((s13.trans s4).trans s) r⟩
 ·exact Zd (q _ _ s13 (by rw[j9]))
def Ay{op op':CmpOp}{r r':R2}{f f':D->D->Option D}(ho:J0 X (compareOp op) r)(ho':J0 X (compareOp op') r')(hf:Ju K r f)(hf':Ju K r' f')(ha:PE X a (tR K da))(hb:PE X b (tR K db))(hc:PE X c (tR K dc))(hm:lastMarks [op,op'] [b,c]=false:=by with_unfolding_all rfl):PE X (.Compare a [op,op'] [b,c] pos) (tE K (Jl f f' da db dc)):=jz (xt ho ho' ha hb hc hm) (Qc hf hf')
@[simp] def Uu(f f' f'':D->D->Option D)(da db dc dd:DE)(Z:je):Option D:=(da Z).bind fun x=>(db Z).bind fun y=>(f x y).bind fun z=>KR z ((dc Z).bind fun w=>(f' y w).bind fun z'=>KR z' ((dd Z).bind fun u=>f'' w u))
def xN{op op' op'':CmpOp}{r r' r'':R2}{f f' f'':D->D->Option D}(ho:J0 X (compareOp op) r)(ho':J0 X (compareOp op') r')(ho'':J0 X (compareOp op'') r'')(hf:Ju K r f)(hf':Ju K r' f')(hf'':Ju K r'' f'')(ha:PE X a (tR K da))(hb:PE X b (tR K db))(hc:PE X c (tR K dc))(hd:PE X d (tR K dd))(hm:lastMarks [op,op',op''] [b,c,d]=false:=by with_unfolding_all rfl):
  PE X (.Compare a [op,op',op''] [b,c,d] pos) (tE K (Uu f f' f'' da db dc dd)):=jz (Q8 ho ho' ho'' ha hb hc hd hm) fun U H Q xx=>by
 obtain⟨H0,O0,Z,O,d,R,ed,q⟩:=xx;obtain⟨x,ex,ed⟩:=j3 ed;obtain⟨y,ey,ed⟩:=j3 ed;obtain⟨z,ez,ed⟩:=j3 ed;obtain⟨k,rfl,ek⟩:=vJ ed;refine⟨H0,O0,Z,O,x,R,ex,fun vx H1 s1 rx=>⟨H0,O0,Z,O,y,R.grow s1,ey,fun vy H2 s2 ry=>hf O H2 x y _ vx vy _ (rx.same s2) ry (fun p hp=>(R.grow (s1.trans s2)).new hp) ez fun v H3 s3 rz=>?_⟩⟩;rw[j9]at rz;subst rz;refine⟨k,rfl,?_⟩;have s13:=(s1.trans s2).trans s3;rcases ek with⟨rfl,e2⟩ | ⟨rfl,rfl⟩
 ·obtain⟨w,ew,e3⟩:=j3 e2;obtain⟨z',ez',e3⟩:=j3 e3;obtain⟨k',rfl,ek'⟩:=vJ e3;refine Ze ⟨H0,O0,Z,O,w,R.grow s13,ew,fun vw H4 s4 rw'=>hf' O H4 y w _ vy vw _ ((ry.same s3).same s4) rw' (fun p hp=>(R.grow (s13.trans s4)).new hp) ez' fun v H5 s5 r=>?_⟩;rw[j9]at r;subst r;refine⟨k',rfl,?_⟩;have s15:=(s13.trans s4).trans s5;rcases ek' with⟨rfl,e4⟩ | ⟨rfl,rfl⟩
  ·obtain⟨u,eu,e5⟩:=j3 e4;exact Ze ⟨H0,O0,Z,O,u,R.grow s15,eu,fun vu H6 s6 ru=>hf'' O H6 w u d vw vu Q ((rw'.same s5).same s6) ru (fun p hp=>(R.grow (s15.trans s6)).new hp) e5 fun v H' s r=>q v H' ((s15.trans s6).trans s) r⟩
  ·exact Zd (q _ _ s15 (by rw[j9]))
 ·exact Zd (q _ _ s13 (by rw[j9]))
@[simp] noncomputable def BH:D->Option Bool
 | .bl b=>some b
 | _=>none
noncomputable def uB:D->Option Bool
 | .bl b=>some b
 | .non=>some false
 | .int i=>some (i != 0)
 | .lst l=>some (!l.isEmpty)
 | .tup l=>some (!l.isEmpty)
 | _=>none
@[simp] theorem FY(b:Bool):uB (.bl b)=some b:=rfl
@[simp] theorem Fg:uB .non=some false:=rfl
@[simp] theorem Fh(l:List D):uB (.lst l)=some (!l.isEmpty):=rfl
@[simp] theorem Fi(l:List D):uB (.tup l)=some (!l.isEmpty):=rfl
@[simp] theorem Fj(i:Int):uB (.int i)=some (i != 0):=rfl
set_option tactic.hygienic true in
theorem BI{O:List Addr}{H:Hp}{d:D}{v:V}{k:Bool}(h:RB K O H d v)(e:uB d=some k):xw K v H k:=by
 unfold uB at e;split at e
 ·cases e;rw[h.bl];rfl
 ·cases e;rw[h.non];rfl
 ·cases e;rw[h.int];rfl
 ·cases e;obtain⟨p,xs,rfl,h1,h2⟩:=h.lst;refine .inl ⟨xs,jG.of h1,?_⟩;have:=h2.len;cases xs with
  | nil=>rw[List.length_eq_zero_iff.mp this.symm];rfl
  | cons x xs=>
   rename_i l;cases l with
   | nil=>cases this
   | cons y l=>rfl
 ·cases e;obtain⟨p,xs,rfl,h1,h2⟩:=h.tup;refine .inr (.inl ⟨xs,h1,?_⟩);have:=h2.len;cases xs with
  | nil=>rw[List.length_eq_zero_iff.mp this.symm];rfl
  | cons x xs=>
   rename_i l;cases l with
   | nil=>cases this
   | cons y l=>rfl
 ·cases e
abbrev DT:=je->Option Bool
@[simp] def Jz(de:DE)(Z:je):Option Bool:=(de Z).bind uB
def XY(h:PE X e (tR K de))(hK:X.K=K:=by rfl)(he:∀whole,isTrue e X.env whole=(do let v<-whole;standAt e.pos;holding [v] (truthy v)):=by intro _;rfl):PT X e (tT K (Jz de)):=Gg (xy h he) fun U H Q xx=>by
 obtain⟨H0,O0,Z,O,k,R,ed,q⟩:=xx;subst hK;obtain⟨d,e1,e2⟩:=j3 ed;exact⟨H0,O0,Z,O,d,R,e1,fun v H' s r=>⟨k,BI r e2,q H' s⟩⟩
@[simp] def jl(de:DE)(Z:je):Option Bool:=(de Z).bind BH
def KS{d:D}{k:Bool}(h:BH d=some k):d=.bl k:=by
 unfold BH at h;split at h
 ·cases h;rfl
 ·cases h
def DZ{op:CmpOp}{r:R2}{f:D->D->Option D}(ho:J0 X (compareOp op) r)(hf:Ju K r f)(ha:PE X a (tR K da))(hb:PE X b (tR K db))(hm:behindInMarks op b=false):PT X (.Compare a [op] [b] pos) (tT K (jl (d2 f da db))):=Gg (Af ho ha hb hm) fun U H Q xx=>by
 obtain⟨H0,O0,Z,O,k,R,ed,q⟩:=xx;obtain⟨d,e1,e2⟩:=j3 ed;cases KS e2;exact Gi hf U H _ ⟨H0,O0,Z,O,_,R,e1,fun v H' s r=>⟨k,by rw[j9]at r;exact r,q H' s⟩⟩
def Az{op op':CmpOp}{r r':R2}{f f':D->D->Option D}(ho:J0 X (compareOp op) r)(ho':J0 X (compareOp op') r')(hf:Ju K r f)(hf':Ju K r' f')(ha:PE X a (tR K da))(hb:PE X b (tR K db))(hc:PE X c (tR K dc))(hm:lastMarks [op,op'] [b,c]=false:=by with_unfolding_all rfl):PT X (.Compare a [op,op'] [b,c] pos) (tT K (jl (Jl f f' da db dc))):=Gg (xu ho ho' ha hb hc hm) fun U H Q xx=>by
 obtain⟨H0,O0,Z,O,k,R,ed,q⟩:=xx;obtain⟨d,e1,e2⟩:=j3 ed;cases KS e2;have e1':=e1;obtain⟨x,ex,e1⟩:=j3 e1;obtain⟨y,ey,e1⟩:=j3 e1;obtain⟨z,ez,e1⟩:=j3 e1;obtain⟨k',rfl,ek⟩:=vJ e1;refine⟨H0,O0,Z,O,x,R,ex,fun vx H1 s1 rx=>⟨H0,O0,Z,O,y,R.grow s1,ey,fun vy H2 s2 ry=>hf O H2 x y _ vx vy _ (rx.same s2) ry (fun p hp=>(R.grow (s1.trans s2)).new hp) ez fun v H3 s3 rz=>?_⟩⟩;rw[j9]at rz;subst rz;refine⟨k',rfl,?_⟩;have s13:=(s1.trans s2).trans s3;rcases ek with⟨rfl,e2⟩ | ⟨rfl,e0⟩
 ·obtain⟨w,ew,e3⟩:=j3 e2;exact Ze ⟨H0,O0,Z,O,w,R.grow s13,ew,fun vw H4 s4 rw'=>hf' O H4 y w _ vy vw _ ((ry.same s3).same s4) rw' (fun p hp=>(R.grow (s13.trans s4)).new hp) e3 fun v H' s r=>⟨k,by rw[j9]at r;exact r,q H' ((s13.trans s4).trans s)⟩⟩
 ·cases e0;exact Zd ⟨false,rfl,q _ s13⟩
@[simp] noncomputable def JK(dt:DT)(Z:je):Option Bool:=(dt Z).bind fun k=>some (!k)
def D_{dt:DT}(h:PT X a (tT K dt)):PT X (.UnaryOp .Not a pos) (tT K (JK dt)):=Gg (bR h) fun U H Q xx=>by
 obtain⟨H0,O0,Z,O,k,R,ed,q⟩:=xx;obtain⟨k',e1,e2⟩:=j3 ed;cases e2;exact⟨H0,O0,Z,O,k',R,e1,fun H' s=>q H' s⟩
@[simp] noncomputable def Jb(dt du:DT)(Z:je):Option Bool:=(dt Z).bind fun k=>if k=true then du Z else some false
@[simp] noncomputable def Y8(dt du:DT)(Z:je):Option Bool:=(dt Z).bind fun k=>if k=true then some true else du Z
def BJ{dt:DT}(h:PT X a (tT K dt)):PW X (.BoolOp .And [a] pos) (tT K dt):=A6 h
def eo{dt:DT}(h:PT X a (tT K dt)):PW X (.BoolOp .Or [a] pos) (tT K dt):=bP h
def et{dt du:DT}{rest:List Expr}(h:PT X a (tT K dt))(h2:PW X (.BoolOp .And (b::rest) pos) (tT K du)):PW X (.BoolOp .And (a::b::rest) pos) (tT K (Jb dt du)):=XT (bQ h h2) fun U H Q xx=>by
 obtain⟨H0,O0,Z,O,k,R,ed,q⟩:=xx;obtain⟨k',e1,e2⟩:=j3 ed;refine⟨H0,O0,Z,O,k',R,e1,fun H' s=>?_⟩;cases k' with
 | true=>rw[if_pos rfl]at e2;exact Ze ⟨H0,O0,Z,O,k,R.grow s,e2,fun H2 s2=>q H2 (s.trans s2)⟩
 | false=>rw[if_neg Bool.false_ne_true]at e2;cases e2;exact Zd (q H' s)
def Fk{dt du:DT}{rest:List Expr}(h:PT X a (tT K dt))(h2:PW X (.BoolOp .Or (b::rest) pos) (tT K du)):PW X (.BoolOp .Or (a::b::rest) pos) (tT K (Y8 dt du)):=XT (Db h h2) fun U H Q xx=>by
 obtain⟨H0,O0,Z,O,k,R,ed,q⟩:=xx;obtain⟨k',e1,e2⟩:=j3 ed;refine⟨H0,O0,Z,O,k',R,e1,fun H' s=>?_⟩;cases k' with
 | true=>rw[if_pos rfl]at e2;cases e2;exact Ze (q H' s)
 | false=>rw[if_neg Bool.false_ne_true]at e2;exact Zd ⟨H0,O0,Z,O,k,R.grow s,e2,fun H2 s2=>q H2 (s.trans s2)⟩
def BK{dt:DT}(h:PW X e (tT K dt)):PT X e (tT K dt):=h.pt
@[simp] noncomputable def JB(da db:DE)(Z:je):Option D:=(da Z).bind fun x=>match x with
 | .bl true=>db Z
 | .bl false=>some (.bl false)
 | _=>none
@[simp] noncomputable def uC(da db:DE)(Z:je):Option D:=(da Z).bind fun x=>match x with
 | .bl true=>some (.bl true)
 | .bl false=>db Z
 | _=>none
@[simp] noncomputable def XZ(da:DE)(Z:je):Option D:=(da Z).bind fun x=>match x with
 | .bl k=>some (.bl (!k))
 | _=>none
def X_{op}(h:PE X a (tE K da)):PE X (.BoolOp op [a] pos) (tE K da):=bS h
def eA{rest:List Expr}(ha:PE X a (tR K da))(hb:PE X (.BoolOp .And (b::rest) pos) (tE K db)):PE X (.BoolOp .And (a::b::rest) pos) (tE K (JB da db)):=jz (bT ha hb) fun U H Q xx=>by
 obtain⟨H0,O0,Z,O,d,R,ed,q⟩:=xx;obtain⟨x,e1,e2⟩:=j3 ed;refine⟨H0,O0,Z,O,x,R,e1,fun v H' s r=>?_⟩;split at e2
 ·exact⟨true,r.bl,Ze ⟨H0,O0,Z,O,d,R.grow s,e2,fun v H2 s2 r2=>q v H2 (s.trans s2) r2⟩⟩
 ·cases e2;exact⟨false,r.bl,Zd (q _ _ s (by rw[j9]))⟩
 ·cases e2
def Fl{rest:List Expr}(ha:PE X a (tR K da))(hb:PE X (.BoolOp .Or (b::rest) pos) (tE K db)):PE X (.BoolOp .Or (a::b::rest) pos) (tE K (uC da db)):=jz (Dh ha hb) fun U H Q xx=>by
 obtain⟨H0,O0,Z,O,d,R,ed,q⟩:=xx;obtain⟨x,e1,e2⟩:=j3 ed;refine⟨H0,O0,Z,O,x,R,e1,fun v H' s r=>?_⟩;split at e2
 ·cases e2;exact⟨true,r.bl,Ze (q _ _ s (by rw[j9]))⟩
 ·exact⟨false,r.bl,Zd ⟨H0,O0,Z,O,d,R.grow s,e2,fun v H2 s2 r2=>q v H2 (s.trans s2) r2⟩⟩
 ·cases e2
def eB(ha:PE X a (tR K da)):PE X (.UnaryOp .Not a pos) (tE K (XZ da)):=jz (bU ha) fun U H Q xx=>by
 obtain⟨H0,O0,Z,O,d,R,ed,q⟩:=xx;obtain⟨x,e1,e2⟩:=j3 ed;refine⟨H0,O0,Z,O,x,R,e1,fun v H' s r=>?_⟩;split at e2
 ·cases e2;exact⟨_,r.bl,q _ _ s (by rw[j9])⟩
 ·cases e2
@[simp] noncomputable def yB(da:DE)(Z:je):Option D:=(da Z).bind fun x=>match x with
 | .int i=>some (.int (-i))
 | _=>none
def eD(ha:PE X a (tR K da)):PE X (.UnaryOp .USub a pos) (tE K (yB da)):=jz (Dp Bb ha) fun U H Q xx=>by
 obtain⟨H0,O0,Z,O,d,R,ed,q⟩:=xx;obtain⟨x,e1,e2⟩:=j3 ed;refine⟨H0,O0,Z,O,x,R,e1,fun v H' s r=>?_⟩;split at e2
 ·cases e2;exact⟨_,r.int,q _ _ s (by rw[j9])⟩
 ·cases e2
@[simp] noncomputable def gA(dt:DT)(da db:DE)(Z:je):Option D:=(dt Z).bind fun k=>if k=true then da Z else db Z
def eE{dt:DT}(hc:PT X c (tT K dt))(ha:PE X a (tE K da))(hb:PE X b (tE K db)):PE X (.IfExp c a b pos) (tE K (gA dt da db)):=jz (xj hc ha hb) fun U H Q xx=>by
 obtain⟨H0,O0,Z,O,d,R,ed,q⟩:=xx;obtain⟨k,e1,e2⟩:=j3 ed;refine⟨H0,O0,Z,O,k,R,e1,fun H' s=>?_⟩;cases k with
 | true=>rw[if_pos rfl]at e2;exact Ze ⟨H0,O0,Z,O,d,R.grow s,e2,fun v H2 s2 r2=>q v H2 (s.trans s2) r2⟩
 | false=>rw[if_neg Bool.false_ne_true]at e2;exact Zd ⟨H0,O0,Z,O,d,R.grow s,e2,fun v H2 s2 r2=>q v H2 (s.trans s2) r2⟩
def eF:PA X [] (zp K []):=XU yz fun U H Q xx=>by
 obtain⟨H0,O0,Z,O,ds,R,ed,q⟩:=xx;cases ed;exact q [] H (j5.refl H) trivial
def a8{es:List Expr}{l:DA}{k:Bool}{t:TE}(ht:∀U H Q,(∃H0 O0 Z O d,Rel K H0 O0 Z U H O/\de Z=some d/\∀v H',j5 H H'->AK K O H' k d v->Q v H')->t U H Q)(h:PE X e t)(hr:PA X es (zp K l))(hs:starEach (e::es) X.env=(false,eval e X.env)::starEach es X.env:=by rfl):PA X (e::es) (zp K ((k,de)::l)):=XU (Jc h hr hs) fun U H Q xx=>by
 obtain⟨H0,O0,Z,O,ds,R,ed,q⟩:=xx;obtain⟨d,e1,ed⟩:=j3 ed;obtain⟨ds',e2,ed⟩:=j3 ed;cases ed;exact ht _ _ _ ⟨H0,O0,Z,O,d,R,e1,fun v H1 s1 r1=>⟨H0,O0,Z,O,ds',R.grow s1,e2,fun vs H2 s2 r2=>q _ H2 (s1.trans s2) ⟨r1.same s2,r2⟩⟩⟩
def Fm{es:List Expr}{l:DA}(h:PE X e (tE K de))(hr:PA X es (zp K l))(hs:starEach (e::es) X.env=(false,eval e X.env)::starEach es X.env:=by rfl):PA X (e::es) (zp K ((true,de)::l)):=a8 (fun U H Q z=>z) h hr hs
def Fo{es:List Expr}{l:DA}(h:PE X e (tR K de))(hr:PA X es (zp K l))(hs:starEach (e::es) X.env=(false,eval e X.env)::starEach es X.env:=by rfl):PA X (e::es) (zp K ((false,de)::l)):=a8 (fun U H Q z=>z) h hr hs
theorem uD:∀{l:DA} {Z:je} {ds:List D},YK l Z=some ds->ds.length=l.length
 | [],_,_,h=>by cases h;rfl
 | p::ps,Z,ds,h=>by
  obtain⟨d,e1,h⟩:=j3 h;obtain⟨ds',e2,h⟩:=j3 h;cases h;rw[vXa,vXa,uD e2]
theorem yA.reps{O:List Addr}{H:Hp}:∀{ks:List Bool} {ds:List D} {vs:List V},yA K O H ks ds vs->ks.all id=true->j0 K (j6 H O) ds vs
 | [],[],[],_,_=>j0.nil
 | true::_,_::_,_::_,h,e=>j0.cons h.1 (yA.reps h.2 (by simpa using e))
 | false::_,_::_,_::_,h,e=>by simp at e
 | [],[],_::_,h,_=>h.elim
 | [],_::_,_,h,_=>h.elim
 | _::_,[],_,h,_=>h.elim
 | _::_,_::_,[],h,_=>h.elim
theorem yA.len{O:List Addr}{H:Hp}:∀{ks:List Bool} {ds:List D} {vs:List V},yA K O H ks ds vs->vs.length=ds.length/\ks.length=ds.length
 | [],[],[],_=>⟨rfl,rfl⟩
 | _::_,_::_,_::_,h=>by have:=yA.len h.2;simp[this.1,this.2]
 | [],[],_::_,h=>h.elim
 | [],_::_,_,h=>h.elim
 | _::_,[],_,h=>h.elim
 | _::_,_::_,[],h=>h.elim
@[simp] def JS(l:DA)(Z:je):Option D:=(YK l Z).bind fun ds=>some (.tup ds)
def eG{es:List Expr}{l:DA}{x1}(h:PA X es (zp K l))(hk:(l.map (·.1)).all id=true:=by rfl)(hl:Nat.ble l.length sizeLine=true:=by rfl):PE X (.Tuple es x1 pos) (tE K (JS l)):=jz (Bi h) fun U H Q xx=>by
 obtain⟨H0,O0,Z,O,d,R,ed,q⟩:=xx;obtain⟨ds,e1,e2⟩:=j3 ed;cases e2;refine⟨H0,O0,Z,O,ds,R,e1,fun vs H1 s1 r=>⟨by rw[r.len.1,uD e1];exact Nat.le_of_ble_eq_true hl,fun p hp=>q _ _ (s1.trans (jC hp _)) (yS ((R.grow s1).new hp) hp (r.reps hk))⟩⟩
@[simp] def J8(l:DA)(Z:je):Option OD:=(YK l Z).bind fun ds=>some (.lst ds)
def eH{es:List Expr}{l:DA}(h:PA X es (zp K l))(hk:(l.map (·.1)).all id=true:=by rfl)(hl:Nat.ble l.length sizeLine=true:=by rfl):PE X (.List es pos) (tF K (J8 l)):=jz (Bj h) fun U H Q xx=>by
 obtain⟨H0,O0,Z,O,d,R,ed,q⟩:=xx;obtain⟨ds,e1,e2⟩:=j3 ed;cases e2;refine⟨H0,O0,Z,O,ds,R,e1,fun vs H1 s1 r=>⟨by rw[r.len.1,uD e1];exact Nat.le_of_ble_eq_true hl,fun p hp=>q _ _ (s1.trans (jC hp _)) (s1.none hp) (yh hp (r.reps hk))⟩⟩
abbrev KT:=je->Option (Option Int)
noncomputable def KU(K:Fr)(p:KT):TO:=fun U H Q=>∃H0 O0 Z O o,Rel K H0 O0 Z U H O/\p Z=some o/\∀H',j5 H H'->Q o H'
@[simp] noncomputable def JC:D->Option (Option Int)
 | .int i=>some (some i)
 | _=>none
def Fp:PO X none (KU K fun _=>some none):=fun pins s U H Q I xx=>by
 obtain⟨H0,O0,Z,O,o,R,ed,q⟩:=xx;cases ed;exact Am pins s U H Q I (q H (j5.refl H))
def Fq(h:PE X e (tR K de)):PO X (some e) (KU K fun Z=>(de Z).bind JC):=fun pins s U H Q I xx=>by
 obtain⟨H0,O0,Z,O,o,R,ed,q⟩:=xx;obtain⟨d,e1,e2⟩:=j3 ed;refine An h pins s U H Q I ⟨H0,O0,Z,O,d,R,e1,fun v H' s r=>?_⟩;unfold JC at e2;split at e2
 ·cases e2;exact⟨_,r.int,q H' s⟩
 ·cases e2
def J6{α:Type}(xs:List α)(lo hi:Option Int):List α:=(xs.drop (HT.sIx xs.length 0 lo)).take (HT.sIx xs.length xs.length hi - HT.sIx xs.length 0 lo)
def j0.cut{H:Hp}{l:List D}{xs:List V}(h:j0 K H l xs)(lo hi:Option Int):j0 K H (J6 l lo hi) (ur xs lo hi):=by
 unfold J6 ur;rw[h.len];exact(h.drop _).take _
theorem j0.ints{H:Hp}:∀ns:List Int,j0 K H (ns.map D.int) (ns.map V.int)
 | []=>j0.nil
 | n::ns=>j0.cons (by rw[j9]) (j0.ints ns)
def Kl(d:D)(lo hi:Option Int):Option OD:=match d with
 | .lst l=>some (.lst (J6 l lo hi))
 | .scr ns=>some (.lst (J6 (ns.map D.int) lo hi))
 | _=>none
@[simp] theorem EK(l:List D)(lo hi:Option Int):Kl (.lst l) lo hi=some (.lst (J6 l lo hi)):=rfl
@[simp] theorem EL(l:List Int)(lo hi:Option Int):Kl (.scr l) lo hi=some (.lst (J6 (l.map D.int) lo hi)):=rfl
@[simp] def JT(de:DE)(p q:KT)(Z:je):Option OD:=(de Z).bind fun d=>(p Z).bind fun lo=>(q Z).bind fun hi=>Kl d lo hi
def eI{lo hi:Option Expr}{p q:KT}{p2:Pos}(he:PE X e (tR K de))(hl:PO X lo (KU K p))(hu:PO X hi (KU K q))(hK:X.K=K:=by rfl):PE X (.Subscript e (.Slice lo hi none p2) pos) (tF K (JT de p q)):=jz (KC Ap he hl hu) fun U H Q xx=>by
 obtain⟨H0,O0,Z,O,d,R,ed,qq⟩:=xx;subst hK;obtain⟨x,e1,ed⟩:=j3 ed;obtain⟨l,e2,ed⟩:=j3 ed;obtain⟨u,e3,ed⟩:=j3 ed;refine⟨H0,O0,Z,O,x,R,e1,fun v H1 s1 r=>⟨H0,O0,Z,O,l,R.grow s1,e2,fun H2 s2=>⟨H0,O0,Z,O,u,R.grow (s1.trans s2),e3,fun H3 s3=>?_⟩⟩⟩;have s13:=(s1.trans s2).trans s3;have r3:=r.same (s2.trans s3);unfold Kl at ed;split at ed
 ·cases ed;obtain⟨pp,xs,rfl,h1,h2⟩:=r3.lst;exact⟨pp,xs,rfl,jG.of h1,fun p hp=>qq p _ (s13.trans (jC hp _)) (s13.none hp) (yh hp (h2.cut l u))⟩
 ·cases ed;have r4:=r3.full;rw[j9]at r4;obtain⟨pp,rfl,h1⟩:=r4;exact⟨pp,_,rfl,h1,fun p hp=>qq p _ (s13.trans (jC hp _)) (s13.none hp) (yh hp ((j0.ints _).cut l u))⟩
 ·cases ed
def VL(d:D)(lo hi:Option Int):Option D:=match d with
 | .tup l=>if HT.sIx l.length 0 lo=0/\HT.sIx l.length l.length hi=l.length then none else some (.tup (J6 l lo hi))
 | _=>none
@[simp] def Uv(de:DE)(p q:KT)(Z:je):Option D:=(de Z).bind fun d=>(p Z).bind fun lo=>(q Z).bind fun hi=>VL d lo hi
def eJ{lo hi:Option Expr}{p q:KT}{p2:Pos}(he:PE X e (tR K de))(hl:PO X lo (KU K p))(hu:PO X hi (KU K q))(hK:X.K=K:=by rfl):PE X (.Subscript e (.Slice lo hi none p2) pos) (tE K (Uv de p q)):=jz (KC Bm he hl hu) fun U H Q xx=>by
 obtain⟨H0,O0,Z,O,d,R,ed,qq⟩:=xx;subst hK;obtain⟨x,e1,ed⟩:=j3 ed;obtain⟨l,e2,ed⟩:=j3 ed;obtain⟨u,e3,ed⟩:=j3 ed;refine⟨H0,O0,Z,O,x,R,e1,fun v H1 s1 r=>⟨H0,O0,Z,O,l,R.grow s1,e2,fun H2 s2=>⟨H0,O0,Z,O,u,R.grow (s1.trans s2),e3,fun H3 s3=>?_⟩⟩⟩;have s13:=(s1.trans s2).trans s3;have r3:=r.same (s2.trans s3);unfold VL at ed;split at ed
 ·split at ed
  ·cases ed
  ·cases ed;obtain⟨pp,xs,rfl,h1,h2⟩:=r3.tup;exact⟨pp,xs,rfl,h1,by rw[h2.len];assumption,fun p hp=>qq _ _ (s13.trans (jC hp _)) (yS ((R.grow s13).new hp) hp (h2.cut l u))⟩
 ·cases ed
def Fn(K:Fr)(r:List V->Hp->VK->Prop)(f:List D->Option D):Prop:=∀(O:List Addr) (H:Hp) (ks:List Bool) (ds:List D) (vs:List V) (d:D) (Q:VK),yA K O H ks ds vs->(∀p,H p=none->p∉O)->f ds=some d->(∀v H',j5 H H'->j9 K (j6 H' O) d v->Q v H')->r vs H Q
def a9(K:Fr)(r:List V->Hp->VK->Prop)(f:List D->Option OD):Prop:=∀(O:List Addr) (H:Hp) (ks:List Bool) (ds:List D) (vs:List V) (d:OD) (Q:VK),yA K O H ks ds vs->f ds=some d->(∀l H',j5 H H'->H l=none->JR K H' (j6 H' (l::O)) l d->Q (.ref l) H')->r vs H Q
@[simp] def jb(f:List D->Option D)(l:DA)(Z:je):Option D:=(YK l Z).bind f
@[simp] def Jr(f:List D->Option OD)(l:DA)(Z:je):Option OD:=(YK l Z).bind f
def zT{r:List V->Hp->VK->Prop}{f:List D->Option D}{l:DA}(hf:Fn K r f):∀U H Q,tE K (jb f l) U H Q->Q0 r (zp K l) U H Q:=fun U H Q xx=>by
 obtain⟨H0,O0,Z,O,d,R,ed,q⟩:=xx;obtain⟨ds,e1,e2⟩:=j3 ed;exact⟨H0,O0,Z,O,ds,R,e1,fun vs H1 s1 r1=>hf O H1 _ ds vs d Q r1 (fun p hp=>(R.grow s1).new hp) e2 fun v H' s r=>q v H' (s1.trans s) r⟩
def GY{r:List V->Hp->VK->Prop}{f:List D->Option OD}{l:DA}(hf:a9 K r f):∀U H Q,tF K (Jr f l) U H Q->Q0 r (zp K l) U H Q:=fun U H Q xx=>by
 obtain⟨H0,O0,Z,O,d,R,ed,q⟩:=xx;obtain⟨ds,e1,e2⟩:=j3 ed;exact⟨H0,O0,Z,O,ds,R,e1,fun vs H1 s1 r1=>hf O H1 _ ds vs d Q r1 e2 fun l H' s hn r=>q l H' (s1.trans s) (s1.none hn) r⟩
def zw{O:List Addr}{H:Hp}{ks:List Bool}{d:D}{vs:List V}(h:yA K O H ks [d] vs):∃v,vs=[v]/\RB K O H d v:=by
 cases ks with
 | nil=>exact h.elim
 | cons k ks=>
  cases vs with
  | nil=>exact h.elim
  | cons v vs=>
   obtain⟨h1,h2⟩:=h;have:=yA.len h2;have e:vs=[]:=List.length_eq_zero_iff.mp this.1;subst e;exact⟨v,rfl,AK.rb h1⟩
def BL{O:List Addr}{H:Hp}{ks:List Bool}{d d':D}{vs:List V}(h:yA K O H ks [d,d'] vs):∃v v',vs=[v,v']/\RB K O H d v/\RB K O H d' v':=by
 cases ks with
 | nil=>exact h.elim
 | cons k ks=>
  cases vs with
  | nil=>exact h.elim
  | cons v vs=>
   obtain⟨h1,h2⟩:=h;obtain⟨v',rfl,r⟩:=zw h2;exact⟨v,v',rfl,AK.rb h1,r⟩
@[simp] noncomputable def Jy:List D->Option D
 | [.lst l]=>some (.int l.length)
 | [.tup l]=>some (.int l.length)
 | _=>none
def eK:Fn K (fun xs H Q=>∃p ys,xs=[.ref p]/\(jG K H p ys \/ Jq K H p ys)/\Q (.int ys.length) H) Jy:=by
 intro O H ks ds vs d Q h hn e q;unfold Jy at e;split at e
 ·cases e;obtain⟨v,rfl,r⟩:=zw h;obtain⟨p,xs,rfl,h1,h2⟩:=r.lst;exact⟨p,xs,rfl,.inl (jG.of h1),q _ H (j5.refl H) (by rw[j9,h2.len])⟩
 ·cases e;obtain⟨v,rfl,r⟩:=zw h;obtain⟨p,xs,rfl,h1,h2⟩:=r.tup;exact⟨p,xs,rfl,.inr h1,q _ H (j5.refl H) (by rw[j9,h2.len])⟩
 ·cases e
@[simp] noncomputable def y_:List D->Option OD
 | [.lst l]=>some (.lst l)
 | [.tup l]=>some (.lst l)
 | _=>none
def BM:a9 K (fun xs H Q=>∃p ys,xs=[.ref p]/\(jG K H p ys \/ Jq K H p ys)/\∀l,H l=none->Q (.ref l) (upd H l (.lst ys))) y_:=by
 intro O H ks ds vs d Q h e q;unfold y_ at e;split at e
 ·cases e;obtain⟨v,rfl,r⟩:=zw h;obtain⟨p,xs,rfl,h1,h2⟩:=r.lst;exact⟨p,xs,rfl,.inl (jG.of h1),fun l hl=>q _ _ (jC hl _) hl (yh hl h2)⟩
 ·cases e;obtain⟨v,rfl,r⟩:=zw h;obtain⟨p,xs,rfl,h1,h2⟩:=r.tup;exact⟨p,xs,rfl,.inr h1,fun l hl=>q _ _ (jC hl _) hl (yh hl h2)⟩
 ·cases e
@[simp] noncomputable def JX:List D->Option D
 | [.lst l]=>some (.tup l)
 | [.tup l]=>some (.tup l)
 | _=>none
def AA:Fn K (fun xs H Q=>∃p ys,xs=[.ref p]/\((jG K H p ys/\∀l,H l=none->Q (.ref l) (upd H l (.tup ys))) \/ (Jq K H p ys/\Q (.ref p) H))) JX:=by
 intro O H ks ds vs d Q h hn e q;unfold JX at e;split at e
 ·cases e;obtain⟨v,rfl,r⟩:=zw h;obtain⟨p,xs,rfl,h1,h2⟩:=r.lst;exact⟨p,xs,rfl,.inl ⟨jG.of h1,fun l hl=>q _ _ (jC hl _) (yS (hn l hl) hl h2)⟩⟩
 ·cases e;obtain⟨v,rfl,r⟩:=zw h;have r0:=r;obtain⟨p,xs,rfl,h1,h2⟩:=r.tup;refine⟨p,xs,rfl,.inr ⟨h1,q _ H (j5.refl H) ?_⟩⟩;rcases r0 with r0 | ⟨_,o,_,z,_⟩
  ·exact r0
  ·cases o <;> cases z
 ·cases e
@[simp] noncomputable def uE:List D->Option D
 | [.int i,.int j]=>some (.int (if j > i then j else i))
 | _=>none
def eL:Fn K (fun xs H Q=>∃i j,xs=[.int i,.int j]/\Q (.int (if j > i then j else i)) H) uE:=by
 intro O H ks ds vs d Q h hn e q;unfold uE at e;split at e
 ·cases e;obtain⟨v,v',rfl,r,r'⟩:=BL h;exact⟨_,_,by rw[r.int,r'.int],q _ H (j5.refl H) (by rw[j9])⟩
 ·cases e
@[simp] noncomputable def VM:List D->Option D
 | [.int i,.int j]=>some (.int (if j < i then j else i))
 | _=>none
def eM:Fn K (fun xs H Q=>∃i j,xs=[.int i,.int j]/\Q (.int (if j < i then j else i)) H) VM:=by
 intro O H ks ds vs d Q h hn e q;unfold VM at e;split at e
 ·cases e;obtain⟨v,v',rfl,r,r'⟩:=BL h;exact⟨_,_,by rw[r.int,r'.int],q _ H (j5.refl H) (by rw[j9])⟩
 ·cases e
@[simp] noncomputable def uF:List D->Option (List Bool)
 | []=>some []
 | .bl b::r=>(uF r).bind fun bs=>some (b::bs)
 | _::_=>none
theorem uG{H:Hp}:∀{l:List D} {bs:List Bool} {xs:List V},uF l=some bs->j0 K H l xs->xs=bs.map V.bl
 | [],bs,xs,e,h=>by cases e;rw[j0]at h;exact h
 | .bl b::r,bs,xs,e,h=>by
  obtain⟨bs',e1,e2⟩:=j3 e;cases e2;rw[j0]at h;obtain⟨v,vs,rfl,a,b'⟩:=h;rw[j9]at a;rw[a,uG e1 b'];rfl
 | .non::_,_,_,e,_=>by cases e
 | .int _::_,_,_,e,_=>by cases e
 | .str _::_,_,_,e,_=>by cases e
 | .tup _::_,_,_,e,_=>by cases e
 | .lst _::_,_,_,e,_=>by cases e
 | .ins _ _ _::_,_,_,e,_=>by cases e
 | .scr _::_,_,_,e,_=>by cases e
@[simp] def zx:List D->Option D
 | [.lst l]=>(uF l).bind fun bs=>some (.bl (bs.all id))
 | _=>none
def eN:Fn K (fun xs H Q=>∃(p:Addr) (bs:List Bool),xs=[.ref p]/\jG K H p (bs.map V.bl)/\Q (.bl (bs.all id)) H) zx:=by
 intro O H ks ds vs d Q h hn e q;unfold zx at e;split at e
 ·obtain⟨bs,e1,e2⟩:=j3 e;cases e2;obtain⟨v,rfl,r⟩:=zw h;obtain⟨p,xs,rfl,h1,h2⟩:=r.lst;rw[uG e1 h2]at h1;exact⟨p,bs,rfl,jG.of h1,q _ H (j5.refl H) (by rw[j9])⟩
 ·cases e
noncomputable def Jk(C:Addr)(f:Str):D->Option D
 | .ins C' ns ds=>if C'=C then(ns.zip ds).lookup f else none
 | _=>none
theorem UZ{H:Hp}{f:Str}{d:D}:∀{ns:List Str} {ds:List D} {xs:List V},j0 K H ds xs->(ns.zip ds).lookup f=some d->∃v,(ns.zip xs).lookup f=some v/\j9 K H d v
 | [],_,_,_,e=>by cases e
 | _::_,[],_,_,e=>by cases e
 | n::ns,d'::ds,xs,h,e=>by
  rw[j0]at h;obtain⟨v,r,rfl,a,b⟩:=h;rw[List.zip_cons_cons,List.lookup_cons]at e⊢;cases hf:f==n with
  | true=>rw[hf]at e;cases e;exact⟨v,rfl,a⟩
  | false=>rw[hf]at e;exact UZ b e
set_option tactic.hygienic true in
theorem eO{C:Addr}{f:Str}(h:PE X e (tR K de))(c:Cls K C)(n:Yo K C f)(hb:attributeBase e f X.env (eval e X.env)=eval e X.env:=by rfl)(hK:X.K=K:=by rfl):PE X (.Attribute e f pos) (tE K (d1 (Jk C f) de)):=jz (Bg h hb) fun U H Q xx=>by
 obtain⟨H0,O0,Z,O,d,R,ed,q⟩:=xx;subst hK;obtain⟨x,e1,e2⟩:=j3 ed;refine⟨H0,O0,Z,O,x,R,e1,fun v H' s r=>?_⟩;unfold Jk at e2;split at e2
 ·split at e2
  ·rename_i hC;subst hC;obtain⟨a,dx,xs,rfl,h1,hn,h2⟩:=r.ins;obtain⟨v,e3,r3⟩:=UZ h2 e2;exact⟨a,_,dx,_,v,rfl,h1,c,n,e3,q v H' s r3⟩
  ·cases e2
 ·cases e2
end
def RP(K:Fr)(H0:Hp)(O0:List Addr)(H:Hp)(O:List Addr)(d:D)(v:V):Prop:=j9 K (j6 H O) d v \/ RB K O0 H0 d v
def tP(K:Fr)(de:DE):TE:=fun U H Q=>∃H0 O0 Z O d,Rel K H0 O0 Z U H O/\de Z=some d/\∀v H',j5 H H'->RP K H0 O0 H' O d v->Q v H'
def RP.at{K:Fr}{H0 H H':Hp}{O0 O O':List Addr}{d:D}{v:V}(r:RP K H0 O0 H O d v)(s0:j5 H0 H')(s1:j5 (j6 H0 O0) (j6 H' O'))(s2:j5 (j6 H O) (j6 H' O')):RB K O' H' d v:=by
 rcases r with r | r | ⟨l,o,e1,e2,h1⟩
 ·exact .inl (r.same s2)
 ·exact .inl (r.same s1)
 ·exact .inr ⟨l,o,e1,e2,h1.same (s0 l) s1⟩
def qj(K:Fr)(J:It)(H0:Hp)(O0:List Addr)(H:Hp)(O:List Addr)(items:List D):Prop:=∀(i:Nat) (H':Hp) (O':List Addr),j5 H0 H'->j5 (j6 H0 O0) (j6 H' O')->j5 (j6 H O) (j6 H' O')->(∀a∈O',H' a≠none)->
 (∀d,items[i]?=some d->J.go i H'/\∀x H'',J.yld i H' x H''->j5 H' H''/\j9 K (j6 H'' O') d x)/\(i=items.length->J.stop i H')
abbrev DI:=je->Option (List D)
def zq(K:Fr)(di:DI):TI:=fun U H R=>∃H0 O0 Z O items,Rel K H0 O0 Z U H O/\di Z=some items/\∀J H',j5 H H'->qj K J H0 O0 H' O items->R J H'
section
variable {X:Cx} {K:Fr} {e a b c d tg:Expr} {de da db dc dd:DE} {pos:Pos}
def Fs(h:PE X e (tE K de)):PE X e (tP K de):=jz h fun U H Q ⟨H0,O0,Z,O,d,R,ed,q⟩=>⟨H0,O0,Z,O,d,R,ed,fun v H' s r=>q v H' s (.inl r)⟩
@[simp] noncomputable def dP(i:Nat)(Z:je):Option D:=match Z[i]? with
 | some (.cl d)=>some d
 | some (.bo d)=>some d
 | _=>none
def eP(i:Nat){x:Str}(h:PE X (.Name x pos) (yx i)):PE X (.Name x pos) (tP K (dP i)):=jz h fun U H Q xx=>by
 obtain⟨H0,O0,Z,O,d,R,ed,q⟩:=xx;unfold dP at ed;split at ed
 ·cases ed;obtain⟨v,e1,r⟩:=R.cl i _ (by assumption);exact⟨v,e1,q v H (j5.refl H) (.inl r)⟩
 ·cases ed;obtain⟨v,e1,r⟩:=R.bo i _ (by assumption);exact⟨v,e1,q v H (j5.refl H) (.inr r)⟩
 ·cases ed
def Gk{wi wi':TI}(h:PI X tg e wi)(f:∀U H R,wi' U H R->wi U H R):PI X tg e wi':=fun pins s U H R I q=>h pins s U H R I (f U H R q)
def Ft(K:Fr)(tl:TE):TI:=fun U H R=>tl U H fun x H1=>∃a,x=.ref a/\(((∃xs,jG K H1 a xs)/\R (bZ K a) H1) \/ ((∃xs,Jq K H1 a xs)/\R (b_ K a) H1))
def BN{l:Expr}{tl:TE}(hl:PE X l tl):PI X tg l (Ft X.K tl):=by
 intro pins s U H R I h;refine jw (hl pins s U H _ I h) fun v s1 xx=>?_;obtain⟨x,H1,I1,r1,q1⟩:=xx;obtain⟨a,e,q⟩:=q1;subst e;cases r1;rcases q with⟨⟨xs,hq⟩,q⟩ | ⟨⟨xs,hq⟩,q⟩
 ·obtain⟨its,rv,p,hz⟩:=I1.list hq;refine wpAny_pyIter_list p.isList ?_;refine⟨s1.heap.objs.size,[s1.heap.objs.size],_,_,H1,rfl,I1.kept (t':=s1.toks) fun b o e=>wIa _ e,qS a _,⟨_,wJa _ rfl,rfl,rfl⟩,fun b hb=>?_,q⟩;have e:b=s1.heap.objs.size:=by simpa using hb
  subst e;exact I1.fpOk (wPa _) (I1.hok.fresh (wPa _))
 ·obtain⟨its,rv,p,hz⟩:=I1.tuple hq;refine wpAny_pyIter_tuple (show s1.heap.IsTuple a its.toArray from p) ?_;refine⟨s1.heap.objs.size,[s1.heap.objs.size],_,_,H1,rfl,I1.kept (t':=s1.toks) fun b o e=>wIa _ e,WS a _,⟨_,wJa _ rfl,rfl,rfl⟩,fun b hb=>?_,q⟩;have e:b=s1.heap.objs.size:=by simpa using hb
  subst e;exact I1.fpOk (wPa _) (I1.hok.fresh (wPa _))
noncomputable def ZF:D->Option (List D)
 | .lst l=>some l
 | .tup l=>some l
 | _=>none
@[simp] theorem EM(l:List D):ZF (.lst l)=some l:=rfl
@[simp] theorem EN(l:List D):ZF (.tup l)=some l:=rfl
@[simp] def jQ(de:DE)(Z:je):Option (List D):=(de Z).bind ZF
def BO{H0 H:Hp}{O0 O:List Addr}{d:D}{v:V}{l:List D}(r:RP K H0 O0 H O d v)(e:ZF d=some l)(s0:j5 H0 H)(s1:j5 (j6 H0 O0) (j6 H O)):
  ∃a,v=.ref a/\(((∃xs,jG K H a xs)/\qj K (bZ K a) H0 O0 H O l) \/ ((∃xs,Jq K H a xs)/\qj K (b_ K a) H0 O0 H O l)):=by
 unfold ZF at e;split at e
 ·cases e;obtain⟨p,xs,rfl,h1,h2⟩:=(r.at s0 s1 (j5.refl _)).lst;refine⟨p,rfl,.inl ⟨⟨xs,jG.of h1⟩,fun i H' O' t0 t1 t2 _=>?_⟩⟩;obtain⟨p',ys,e',g1,g2⟩:=(r.at t0 t1 t2).lst;cases e';refine⟨fun d hd=>?_,fun hi=>⟨ys,jG.of g1,by rw[g2.len,hi];exact wPa _⟩⟩;obtain⟨x,hx,rx⟩:=g2.get hd;refine⟨⟨ys,x,jG.of g1,hx⟩,fun x' H'' y=>?_⟩;obtain⟨e1,y⟩:=y;have z:=y ys (jG.of g1);rw[hx]at z;cases z;rw[e1];exact⟨j5.refl _,rx⟩
 ·cases e;obtain⟨p,xs,rfl,h1,h2⟩:=(r.at s0 s1 (j5.refl _)).tup;refine⟨p,rfl,.inr ⟨⟨xs,h1⟩,fun i H' O' t0 t1 t2 _=>?_⟩⟩;obtain⟨p',ys,e',g1,g2⟩:=(r.at t0 t1 t2).tup;cases e';refine⟨fun d hd=>?_,fun hi=>⟨ys,g1,by rw[g2.len,hi];exact wPa _⟩⟩;obtain⟨x,hx,rx⟩:=g2.get hd;refine⟨⟨ys,x,g1,hx⟩,fun x' H'' y=>?_⟩;obtain⟨e1,y⟩:=y;have z:=y ys g1;rw[hx]at z;cases z;rw[e1];exact⟨j5.refl _,rx⟩
 ·cases e
def eQ(h:PE X e (tP K de))(hK:X.K=K:=by rfl):PI X tg e (zq K (jQ de)):=Gk (BN h) fun U H R xx=>by
 obtain⟨H0,O0,Z,O,items,Re,ed,q⟩:=xx;subst hK;obtain⟨d,e1,e2⟩:=j3 ed;refine⟨H0,O0,Z,O,d,Re,e1,fun v H' s r=>?_⟩;have R':=Re.grow s;obtain⟨a,rfl,z⟩:=BO r e2 R'.keep R'.in0;rcases z with⟨z1,z2⟩ | ⟨z1,z2⟩
 ·exact⟨a,rfl,.inl ⟨z1,q _ H' s z2⟩⟩
 ·exact⟨a,rfl,.inr ⟨z1,q _ H' s z2⟩⟩
noncomputable def jX(lo:Int)(n:Nat):List D:=(List.range n).map fun(i:Nat)=>D.int (lo+(i:Int))
def BP{H0 H:Hp}{O0 O:List Addr}{lo:Int}{n:Nat}:qj K (XB lo n) H0 O0 H O (jX lo n):=fun i H' O' _ _ _ _=>by
 refine⟨fun d hd=>?_,fun hi=>?_⟩
 ·unfold jX at hd;rw[uAa]at hd;cases q:(List.range n)[i]? with
  | none=>rw[q]at hd;cases hd
  | some j=>
   rw[q]at hd;cases hd;obtain⟨h1,h2⟩:=uSa q;rw[List.getElem_range]at h2;subst h2;rw[List.length_range]at h1;refine⟨h1,fun x H'' y=>?_⟩;obtain⟨e1,e2⟩:=y;rw[e1,e2];exact⟨j5.refl _,by rw[j9]⟩
 ·unfold jX at hi;rw[vYa,List.length_range]at hi;show n<=i;omega
noncomputable def Jd(j:Int):Bool:=Nat.blt j.natAbs 4611686018427387904
def JL{j:Int}(h1:-4611686018427387904 < j)(h2:j < 4611686018427387904):Jd j=true:=by unfold Jd;rw[Nat.blt_eq];omega
def qk{j:Int}(h:Jd j=true):-(2 ^ 62)<=j/\j < 2 ^ 62:=by
 unfold Jd at h;rw[Nat.blt_eq]at h;have e:(2:Int) ^ 62=4611686018427387904:=by decide
 rw[e];omega
@[simp] def yt(de:DE)(Z:je):Option (List D):=(de Z).bind fun d=>match d with
 | .int j=>if Jd j=true then some (jX 0 j.toNat)else none
 | _=>none
set_option tactic.hygienic true in
theorem BQ{p:Pos}(hg:Gl X "range")(hm:X.mg "range" = none)(h:PE X a (tR K da))(hs:starEach [a] X.env=[(false,eval a X.env)]:=by rfl):PI X tg (.Call (.Name "range" p) [a] [] pos) (zq K (yt da)):=Gk (qT hg hm (Jc h yz (by rw[hs];rfl)) hs) fun U H R xx=>by
 obtain⟨H0,O0,Z,O,items,Re,ed,q⟩:=xx;obtain⟨d,e1,e2⟩:=j3 ed;refine⟨H0,O0,Z,O,d,Re,e1,fun v H' s r=>?_⟩;split at e2
 ·split at e2
  ·cases e2;rename_i hj;have hj:=qk hj;exact⟨_,by rw[r.int],hj.1,hj.2,q _ H' s BP⟩
  ·cases e2
 ·cases e2
def eR(K:Fr)(ta:TA):TI:=fun U H R=>ta U H fun vs H1=>∃k j a b xs ys,vs=[.ref a,.ref b]/\u7 K k H1 a xs/\u7 K j H1 b ys/\R (EH K k j a b) H1
def AB{es:List Expr}{x1:Nat}{tp:Pos}{e1 e2:Expr}{ta:TA}{p pos:Pos}(hg:Gl X "zip")(hm:X.mg "zip" = none)(ha:PA X [e1,e2] ta)(hs:starEach [e1,e2] X.env=[(false,eval e1 X.env),(false,eval e2 X.env)]:=by rfl)(hs2:starEach [e2] X.env=[(false,eval e2 X.env)]:=by rfl):
  PI X (.Tuple es x1 tp) (.Call (.Name "zip" p) [e1,e2] [] pos) (eR X.K ta):=by
 intro pins s U H R I h;refine Call_ (ZT I hg hm boot_zip (PyProof.Rows.callWith_type1 (jw (ha pos pins s U H _ I h) fun us s1 xx=>?_) (by rw[hs,hs2]) (by rw[hs2];rfl)));obtain⟨vs,H1,I1,r1,q1⟩:=xx;obtain⟨k,j,a,b,xs,ys,e,qa,qb,q⟩:=q1;subst e;cases r1 with
 | cons r rr=>
  cases rr with
  | cons r' rr=>
   cases rr;cases r;cases r';obtain⟨ia,ra,pa,_⟩:=I1.seqK qa;obtain⟨ib,rb,pb,_⟩:=I1.seqK qb;refine xG pa pb fun h' b1 b2 b3 b4 b5 bk=>?_;refine wpAny_pyIter_zip b1 ?_;have fr:∀m,Je X pins H1 (s1.heap.objs.size+m):=fun m=>I1.fpOk (vKa _ _) (I1.hok.fresh (vKa _ _));refine⟨_,_,_,_,H1,rfl,I1.kept (t':=s1.toks) bk,xJ (zipApart_new pa.lt pb.lt),⟨b1,b2,⟨_,_,b3⟩,b4,b5⟩,fun c hc=>?_,q⟩;simp only[List.mem_cons,List.not_mem_nil,or_false]at hc;rcases hc with rfl | rfl | rfl | rfl | rfl
   ·exact fr 4
   ·exact fr 2
   ·exact fr 3
   ·exact fr 0
   ·exact fr 1
def Gn{O:List Addr}{H:Hp}{d:D}{v:V}{l:List D}(r:RB K O H d v)(e:ZF d=some l):∃k a xs,v=.ref a/\u7 K k H a xs/\j0 K (j6 H O) l xs/\(k=Sk.l↔∃m,d=D.lst m):=by
 unfold ZF at e;split at e
 ·cases e;obtain⟨p,xs,rfl,h1,h2⟩:=r.lst;exact⟨.l,p,xs,rfl,jG.of h1,h2,Iff.intro (fun _=>⟨_,rfl⟩) (fun _=>rfl)⟩
 ·cases e;obtain⟨p,xs,rfl,h1,h2⟩:=r.tup;exact⟨.t,p,xs,rfl,h1,h2,Iff.intro (fun z=>nomatch z) (fun z=>by obtain⟨_,z⟩:=z;cases z)⟩
 ·cases e
def ab{k k':Sk}{d:D}(h:k=Sk.l↔∃m,d=D.lst m)(h':k'=Sk.l↔∃m,d=D.lst m):k=k':=by
 cases k <;> cases k' <;> first | rfl | (exact vDa (h'.mpr (h.mp rfl)) (by intro z;cases z)) | (exact vDa (h.mpr (h'.mp rfl)) (by intro z;cases z))
@[simp] def qo(da db:DE)(Z:je):Option (List D):=(da Z).bind fun x=>(db Z).bind fun y=>(ZF x).bind fun l=>(ZF y).bind fun m=>some (List.zipWith (fun p q=>D.tup [p,q]) l m)
def BR{O:List Addr}{H:Hp}{p:Addr}{d d':D}{x y:V}(hO:p∉O)(hp:H p=none)(r:j9 K (j6 H O) d x)(r':j9 K (j6 H O) d' y):j9 K (j6 (upd H p (.tup [x,y])) O) (.tup [d,d']) (.ref p):=yS hO hp (j0.cons r (j0.cons r' j0.nil))
set_option tactic.hygienic true in
theorem eU{es:List Expr}{x1:Nat}{tp p:Pos}(hg:Gl X "zip")(hm:X.mg "zip" = none)(h:PE X a (tP K da))(h':PE X b (tP K db))(hs:starEach [a,b] X.env=[(false,eval a X.env),(false,eval b X.env)]:=by rfl)(hs2:starEach [b] X.env=[(false,eval b X.env)]:=by rfl)(hK:X.K=K:=by rfl):
  PI X (.Tuple es x1 tp) (.Call (.Name "zip" p) [a,b] [] pos) (zq K (qo da db)):=Gk (AB hg hm (Jc h (Jc h' yz (by rw[hs2];rfl)) (by rw[hs,hs2])) hs hs2) fun U H R xx=>by
 obtain⟨H0,O0,Z,O,items,Re,ed,q⟩:=xx;subst hK;obtain⟨x,e1,ed⟩:=j3 ed;obtain⟨y,e2,ed⟩:=j3 ed;obtain⟨l,e3,ed⟩:=j3 ed;obtain⟨m,e4,ed⟩:=j3 ed;cases ed;refine⟨H0,O0,Z,O,x,Re,e1,fun v H1 s1 r=>⟨H0,O0,Z,O,y,Re.grow s1,e2,fun v2 H2 s2 r2=>?_⟩⟩;have R1:=Re.grow s1;have R2:=R1.grow s2;have r':RP X.K H0 O0 H2 O x v:=by
  rcases r with r | r
  ·exact .inl (r.same (jc s2))
  ·exact .inr r
 obtain⟨k,p,xs,rfl,h1,h2,hk⟩:=Gn (r'.at R2.keep R2.in0 (j5.refl _)) e3;obtain⟨j,p',ys,rfl,h1',h2',hj⟩:=Gn (r2.at R2.keep R2.in0 (j5.refl _)) e4;refine⟨k,j,p,p',xs,ys,rfl,h1,h1',q _ H2 (s1.trans s2) fun i H' O' t0 t1 t2 ta=>?_⟩;obtain⟨k2,q2,us,ea,g1,g2,hk2⟩:=Gn (r'.at t0 t1 t2) e3;cases ea;cases ab hk hk2;obtain⟨j2,q3,ws,eb,g1',g2',hj2⟩:=Gn (r2.at t0 t1 t2) e4;cases eb;cases ab hj hj2;refine⟨fun d hd=>?_,fun hi=>⟨us,ws,g1,g1',?_⟩⟩
 ·rw[List.getElem?_zipWith]at hd;split at hd
  ·cases hd;rename_i dp dq hp hq;obtain⟨u,hu,ru⟩:=g2.get hp;obtain⟨w,hw,rw'⟩:=g2'.get hq;refine⟨⟨us,ws,u,w,g1,g1',hu,hw⟩,fun x' H'' yy=>?_⟩;obtain⟨pp,hpp,rfl,yy⟩:=yy;rw[yy _ _ _ _ g1 g1' hu hw];exact⟨jC hpp _,BR (fun z=>ta pp z hpp) hpp ru rw'⟩
  ·cases hd
 ·rw[List.length_zipWith]at hi;rw[g2.len,g2'.len];omega
noncomputable def Y0:Nat->List D->List D
 | _,[]=>[]
 | n,d::ds=>.tup [.int n,d]::Y0 (n+1) ds
theorem zU:∀(n:Nat) (l:List D),(Y0 n l).length=l.length
 | _,[]=>rfl
 | n,d::ds=>by rw[Y0,vXa,vXa,zU]
theorem uH:∀(n:Nat) (l:List D) (i:Nat) (d:D),(Y0 n l)[i]?=some d->∃d',l[i]?=some d'/\d=.tup [.int ((n+i:Nat):Int),d']
 | _,[],_,_,h=>by simp[Y0]at h
 | n,x::l,0,d,h=>by
  simp[Y0]at h;exact⟨x,rfl,by rw[<-h];rfl⟩
 | n,x::l,i+1,d,h=>by
  simp only[Y0,List.getElem?_cons_succ]at h;obtain⟨d',h1,h2⟩:=uH (n+1) l i d h;refine⟨d',by simpa using h1,?_⟩;rw[h2];have:n+1+i=n+(i+1):=by omega
  rw[this]
noncomputable def Go:D->Option (List D)
 | .lst l=>some l
 | _=>none
@[simp] theorem EO(l:List D):Go (.lst l)=some l:=rfl
@[simp] def vK(de:DE)(Z:je):Option (List D):=(de Z).bind fun d=>(Go d).bind fun l=>some (Y0 0 l)
def BS{es:List Expr}{x1:Nat}{tp p:Pos}(hg:Gl X "enumerate")(hm:X.mg "enumerate" = none)(h:PE X a (tP K da))(hs:starEach [a] X.env=[(false,eval a X.env)]:=by rfl)(hK:X.K=K:=by rfl):
  PI X (.Tuple es x1 tp) (.Call (.Name "enumerate" p) [a] [] pos) (zq K (vK da)):=Gk (Ax hg hm (Jc h yz (by rw[hs];rfl)) hs) fun U H R xx=>by
 obtain⟨H0,O0,Z,O,items,Re,ed,q⟩:=xx;subst hK;obtain⟨x,e1,ed⟩:=j3 ed;obtain⟨l,e3,ed⟩:=j3 ed;cases ed;refine⟨H0,O0,Z,O,x,Re,e1,fun v H1 s1 r=>?_⟩;have R1:=Re.grow s1;unfold Go at e3;split at e3
 ·cases e3;obtain⟨p,xs,rfl,h1,h2⟩:=(r.at R1.keep R1.in0 (j5.refl _)).lst;refine⟨p,xs,rfl,jG.of h1,q _ H1 s1 fun i H' O' t0 t1 t2 ta=>?_⟩;obtain⟨p',us,ea,g1,g2⟩:=(r.at t0 t1 t2).lst;cases ea;refine⟨fun d hd=>?_,fun hi=>⟨us,jG.of g1,by rw[g2.len,hi,zU];exact wPa _⟩⟩;obtain⟨d',hd',rfl⟩:=uH 0 l i d hd;obtain⟨u,hu,ru⟩:=g2.get hd';refine⟨⟨us,u,jG.of g1,hu⟩,fun x' H'' yy=>?_⟩;obtain⟨pp,hpp,rfl,yy⟩:=yy;rw[yy _ _ (jG.of g1) hu];exact⟨jC hpp _,BR (fun z=>ta pp z hpp) hpp (by rw[j9,Nat.zero_add]) ru⟩
 ·cases e3
abbrev DG:=D->je->Option je
abbrev KW:=List D->je->Option je
def tG(K:Fr)(k:Nat)(g:DG):TG:=fun v U H Q=>∃H0 O0 Z O d Z',Rel K H0 O0 Z U H O/\j9 K (j6 H O) d v/\g d Z=some Z'/\∀U',Rel K H0 O0 Z' U' H O->U'.drop k=U.drop k->Q U' H
def Qd(K:Fr)(k:Nat)(g:KW):Gb:=fun vs U H Q=>∃H0 O0 Z O ds Z',Rel K H0 O0 Z U H O/\j0 K (j6 H O) ds vs/\g ds Z=some Z'/\∀U',Rel K H0 O0 Z' U' H O->U'.drop k=U.drop k->Q U' H
def ad{t t':TG}(h:PG X tg t)(f:∀v U H Q,t' v U H Q->t v U H Q):PG X tg t':=fun pins s U H v u Q I r q=>h pins s U H v u Q I r (f v U H Q q)
def Qe{ts:List Expr}{t t':Gb}(h:uk X ts t)(f:∀v U H Q,t' v U H Q->t v U H Q):uk X ts t':=fun pins s U H v u Q I r q=>h pins s U H v u Q I r (f v U H Q q)
@[simp] noncomputable def gN(i:Nat)(d:D)(Z:je):Option je:=some (Z.set i (.cl d))
def BU{i k:Nat}{x:Str}(h:PG X (.Name x pos) (Yv i))(hi:i < k:=by decide):PG X (.Name x pos) (tG K k (gN i)):=ad h fun v U H Q xx=>by
 obtain⟨H0,O0,Z,O,d,Z',R,r,e,q⟩:=xx;cases e;exact q _ (R.set r i) (List.drop_set_of_lt hi)
@[simp] noncomputable def gZ(ds:List D)(Z:je):Option je:=match ds with
 | []=>some Z
 | _=>none
@[simp] noncomputable def gC(g:DG)(gs:KW)(ds:List D)(Z:je):Option je:=match ds with
 | d::r=>(g d Z).bind fun Z1=>gs r Z1
 | []=>none
def eV{k:Nat}:uk X [] (Qd K k gZ):=Qe Aa fun v U H Q xx=>by
 obtain⟨H0,O0,Z,O,d,Z',R,r,e,q⟩:=xx;unfold gZ at e;split at e
 ·cases e;rw[j0]at r;exact⟨r,q _ R rfl⟩
 ·cases e
def BV{k:Nat}{es:List Expr}{g:DG}{gs:KW}(h1:PG X e (tG K k g))(h2:uk X es (Qd K k gs))(hs:(assignEach (e::es) X.env).map (·.2)=assign e X.env::(assignEach es X.env).map (·.2):=by rfl):uk X (e::es) (Qd K k (gC g gs)):=Qe (xm h1 h2 hs) fun v U H Q xx=>by
 obtain⟨H0,O0,Z,O,ds,Z',R,r,ed,q⟩:=xx;unfold gC at ed;split at ed
 ·obtain⟨Z1,e1,e2⟩:=j3 ed;rw[j0]at r;obtain⟨v1,vr,rfl,a,b⟩:=r;exact⟨v1,vr,rfl,H0,O0,Z,O,_,Z1,R,a,e1,fun U' R' k1=>⟨H0,O0,Z1,O,_,Z',R',b,e2,fun U2 R2 k2=>q U2 R2 (k2.trans k1)⟩⟩
 ·cases ed
@[simp] noncomputable def gT(n:Nat)(gs:KW)(d:D)(Z:je):Option je:=match d with
 | .tup l=>if l.length=n then gs l Z else none
 | _=>none
def eW{es:List Expr}{k kk:Nat}{gs:KW}(n:Nat)(hc:X.calm=true)(h:uk X es (Qd K kk gs))(hn:(assignEach es X.env).length=n:=by rfl)(hst:(assignEach es X.env).findIdx? (·.1)=none:=by rfl)(hK:X.K=K:=by rfl):PG X (.Tuple es k pos) (tG K kk (gT n gs)):=ad (bW hc h hn hst) fun v U H Q xx=>by
 obtain⟨H0,O0,Z,O,d,Z',R,r,ed,q⟩:=xx;subst hK;unfold gT at ed;split at ed
 ·split at ed
  ·obtain⟨a,xs,rfl,h1,h2⟩:=RB.tup (.inl r);exact⟨a,xs,rfl,h1,by rw[h2.len];assumption,H0,O0,Z,O,_,Z',R,h2,ed,q⟩
  ·cases ed
 ·cases ed
@[simp] noncomputable def jA(_:je):Option Bool:=some true
def Fu:Zf X [] (tT K jA):=fun pins s U H Q I xx=>by
 obtain⟨H0,O0,Z,O,b,R,ed,q⟩:=xx;cases ed;exact Ar pins s U H Q I (q H (j5.refl H))
def Fv{dt:DT}(h:PT X c (tT K dt)):Zf X [c] (tT K dt):=As h
@[simp] noncomputable def yV(k:Nat)(caps:List Nat)(Z:je):je:=List.replicate k .un++caps.map fun j=>(Z[j]?).getD .un
noncomputable def Js(g:DG)(dc:DT)(de:DE):List D->je->Option (List D)
 | [],_=>some []
 | d::ds,Z=>(g d Z).bind fun Z1=>(dc Z1).bind fun k=>if k=true then(de Z1).bind fun y=>(Js g dc de ds Z).bind fun ys=>some (y::ys)else Js g dc de ds Z
@[simp] def JU(k:Nat)(caps:List Nat)(di:DI)(g:DG)(dc:DT)(de:DE)(Z:je):Option OD:=(di Z).bind fun items=>(Js g dc de items (yV k caps Z)).bind fun ys=>if items.length<=sizeLine then some (.lst ys)else none
def gB{H0 H:Hp}{O0 O:List Addr}{Z:je}{U:L2.St}(own:List Str)(caps:List (Str×Nat))(R:Rel K H0 O0 Z U H O)(hnd:(caps.map (·.2)).Nodup):Rel K H0 O0 (yV own.length (caps.map (·.2)) Z) (Yk own caps U) H O:=by
 have key:∀(i:Nat) (s:Sl),s≠.un->(yV own.length (caps.map (·.2)) Z)[i]?=some s->∃m x j,i=own.length+m/\caps[m]?=some (x,j)/\Z[j]?=some s/\(Yk own caps U)[i]?=some ((U[j]?).join):=fun i s hs e=>by
  unfold yV at e;by_cases hi:i < own.length
  ·rw[uRa (by rw[List.length_replicate];exact hi),List.getElem?_replicate,if_pos hi]at e;cases e;exact vDa rfl hs
  ·rw[List.getElem?_append_right (by rw[List.length_replicate];omega),List.length_replicate,List.map_map,uAa]at e;cases q:caps[i - own.length]? with
   | none=>rw[q]at e;cases e
   | some p=>
    rw[q]at e;obtain⟨x,j⟩:=p;have e:(Z[j]?).getD .un=s:=vFa e;refine⟨i - own.length,x,j,by omega,q,?_,?_⟩
    ·cases z:Z[j]? with
     | none=>rw[z]at e;exact vDa e.symm hs
     | some s'=>rw[z]at e;rw[<-e];rfl
    ·show(own.map (fun _=>(none:Option V))++caps.map fun(p:Str×Nat)=>(U[p.2]?).join)[i]?=_;rw[List.getElem?_append_right (by rw[vYa];omega),vYa,uAa,q];rfl
 have jn:∀{o:Option (Option V)} {v:V},o.join=some v->o=some (some v):=fun {o v} z=>by
  cases o with
  | none=>cases z
  | some w=>cases w with
   | none=>cases z
   | some u=>cases z;rfl
 have mj:∀{m m' j:Nat} {x x':Str},caps[m]?=some (x,j)->caps[m']?=some (x',j)->m=m':=fun {m m' j x x'} c1 c2=>by
  have h1:(caps.map (·.2))[m]?=some j:=by rw[uAa,c1];rfl
  have h2:(caps.map (·.2))[m']?=some j:=by rw[uAa,c2];rfl
  have l1:=(uSa h1).1;exact(List.getElem?_inj l1 hnd).mp (h1.trans h2.symm)
 refine⟨?_,R.sub,R.fr,R.al0,R.al,R.keep,?_,?_,?_,?_,?_⟩
 ·show(own.map (fun _=>(none:Option V))++caps.map fun(p:Str×Nat)=>(U[p.2]?).join).length=_;unfold yV;simp
 ·intro i d e;obtain⟨m,x,j,_,_,e2,e3⟩:=key i _ (by intro z;cases z) e;obtain⟨v,h1,h2⟩:=R.cl j d e2;exact⟨v,by rw[e3,h1];rfl,h2⟩
 ·intro i d e;obtain⟨m,x,j,_,_,e2,e3⟩:=key i _ (by intro z;cases z) e;obtain⟨v,h1,h2⟩:=R.bo j d e2;exact⟨v,by rw[e3,h1];rfl,h2⟩
 ·intro i q o e;obtain⟨m,x,j,_,_,e2,e3⟩:=key i _ (by intro z;cases z) e;obtain⟨l,z,h1,h2⟩:=R.ow j q o e2;exact⟨l,z,by rw[e3,h1];rfl,h2⟩
 ·intro i i' q q' ds es l e e' f f';obtain⟨m,x,j,rfl,c1,e2,e3⟩:=key i _ (by intro z;cases z) e;obtain⟨m',x',j',rfl,c2,e2',e3'⟩:=key i' _ (by intro z;cases z) e';rw[e3]at f;rw[e3']at f';have ej:=R.dist j j' q q' ds es l e2 e2' (jn (vFa f)) (jn (vFa f'));subst ej;rw[mj c1 c2]
 ·intro i ls e;obtain⟨m,x,j,rfl,c1,e2,e3⟩:=key i _ (by intro z;cases z) e;obtain⟨l,ps,h1,h2,nd,f,u⟩:=R.lo j ls e2;refine⟨l,ps,by rw[e3,h1];rfl,h2,nd,fun a ha=>⟨(f a ha).1,(f a ha).2.1,fun⟨k,q,o,y,z⟩=>(f a ha).2.2 ?_⟩,fun k ms y=>?_⟩
  ·obtain⟨_,_,j',_,_,y2,y3⟩:=key k _ (by intro z;cases z) y;rw[y3]at z;exact⟨j',q,o,y2,jn (vFa z)⟩
  ·obtain⟨m',x',j',rfl,c2,y2,_⟩:=key k _ (by intro z;cases z) y;have:=u j' ms y2;subst this;rw[mj c1 c2]
end
section
variable {X:Cx} {K:Fr} {e a b c d tg:Expr} {de da db dc dd:DE} {pos:Pos}
set_option tactic.hygienic true in
theorem KY{own:List Str}{caps:List (Str×Nat)}{di:DI}{g:DG}{dc:DT}{de:DE}(hnd:(caps.map (·.2)).Nodup):∀U H Q,tF K (JU own.length (caps.map (·.2)) di g dc de) U H Q->Wq own caps (zq K di) (tG K own.length g) (tT K dc) (tE K de) U H Q:=fun U H Q xx=>by
 obtain⟨H0,O0,Z,O,o,R,ed,q⟩:=xx;obtain⟨items,e1,ed⟩:=j3 ed;obtain⟨ys,e2,ed⟩:=j3 ed;split at ed
 ·rename_i hz;cases ed;refine⟨H0,O0,Z,O,items,R,e1,fun J H1 s1 hJ=>?_⟩;have R1:=R.grow s1;have Rc:=gB own caps R1 hnd;refine⟨fun i m vs H'=>∃ys1 ys2,Js g dc de (items.drop i) (yV own.length (caps.map (·.2)) Z)=some ys2/\ys1++ys2=ys/\j5 H1 H'/\j0 K (j6 H' O) ys1 vs/\m=items.length - i/\i<=items.length/\ys1.length<=i,⟨items.length,[],ys,by simpa using e2,rfl,j5.refl _,j0.nil,rfl,Nat.zero_le _,wPa _⟩,?_⟩;rintro i m vs H' ⟨ys1,ys2,d1,d2,sH,rp,rfl,hi,hy⟩;have R2:=R1.grow sH;obtain⟨hgo,hstop⟩:=hJ i H' O R2.keep R2.in0 (jc sH) R2.al;by_cases hlt:i < items.length
  ·right;have hx:items[i]?=some items[i]:=by simp[hlt]
   have hd:items.drop i=items[i]::items.drop (i+1):=(List.getElem_cons_drop hlt).symm;rw[hd]at d1;obtain⟨g1,g2⟩:=hgo _ hx;refine⟨g1,by rw[rp.len];lia,fun vs' H4=>∃ys1 ys2,Js g dc de (items.drop (i+1)) (yV own.length (caps.map (·.2)) Z)=some ys2/\ys1++ys2=ys/\j5 H1 H4/\j0 K (j6 H4 O) ys1 vs'/\ys1.length<=i+1,?_,fun x H'' y=>?_⟩
   ·rintro vs' H4 ⟨z1,z2,a1,a2,a3,a4,a5⟩;exact⟨items.length - (i+1),by lia,z1,z2,a1,a2,a3,a4,rfl,hlt,a5⟩
   ·obtain⟨sy,rx⟩:=g2 x H'' y;obtain⟨Z1,f1,f2⟩:=j3 d1;obtain⟨k,f3,f4⟩:=j3 f2;refine⟨H0,O0,_,O,_,Z1,Rc.grow (sH.trans sy),rx,f1,fun U2 R3 kd=>⟨kd,H0,O0,Z1,O,k,R3,f3,fun H3 s3=>?_⟩⟩;cases k with
    | true=>
     rw[if_pos rfl]at f4;obtain⟨y1,f5,f6⟩:=j3 f4;obtain⟨yr,f7,f8⟩:=j3 f6;cases f8;refine Ze ⟨H0,O0,Z1,O,y1,R3.grow s3,f5,fun v H4 s4 rv=>?_⟩;exact⟨ys1++[y1],yr,f7,by rw[<-d2];simp,sH.trans (sy.trans (s3.trans s4)),(rp.same (jc (sy.trans (s3.trans s4)))).snoc rv,by simp;exact hy⟩
    | false=>
     rw[if_neg Bool.false_ne_true]at f4;exact Zd ⟨ys1,ys2,f4,d2,sH.trans (sy.trans s3),rp.same (jc (sy.trans s3)),by lia⟩
  ·left;have ei:i=items.length:=by lia
   refine⟨hstop ei,by rw[rp.len];lia,fun Dd hD=>?_⟩;have e0:items.drop i=[]:=List.drop_of_length_le (by lia);rw[e0]at d1;have e3:ys2=[]:=by
    have d1:some []=some ys2:=d1;exact(vFa d1).symm
   rw[e3,uFa]at d2;subst d2;exact q Dd _ ((s1.trans sH).trans (jC hD _)) ((s1.trans sH).none hD) (yh hD rp)
 ·cases ed
def Fw{iter elt:Expr}{ifs:List Expr}{scope:Scope}{di:DI}{g:DG}{dc:DT}{de:DE}(own:List Str)(caps:List (Str×Nat))(S:CScope X scope)(hcap:Caps X scope caps)(hc:X.calm=true)(hi:PI X tg iter (zq K di))
  (hg:∀s3 H3 ex',PG (X.comp (cN own caps) scope s3 H3 ex') tg (tG K own.length g)) (ht:∀s3 H3 ex',Zf (X.comp (cN own caps) scope s3 H3 ex') ifs (tT K dc)) (he:∀s3 H3 ex',PE (X.comp (cN own caps) scope s3 H3 ex') elt (tE K de))
  (hnd:(caps.map (·.2)).Nodup:=by decide) (hs:∀x,foldedSetIterable iter X.env x=pure x:=by intro _;rfl):PE X (.ListComp elt [⟨tg,iter,ifs,0⟩] scope pos) (tF K (JU own.length (caps.map (·.2)) di g dc de)):=jz (Dz own caps S hcap hc hi hg ht he hs) (KY hnd)
def kT(K:Fr)(ks:List Bool)(F:List D->Option D):Sp:=fun vs H Q _=>∃O ds d,(∀a∈O,H a≠none)/\yA K O H ks ds vs/\F ds=some d/\∀v H',j5 H H'->j9 K (j6 H' O) d v->Q v H'
def Qf(K:Fr)(ks:List Bool)(F:List D->Option OD):Sp:=fun vs H Q _=>∃O ds o,(∀a∈O,H a≠none)/\yA K O H ks ds vs/\F ds=some o/\∀l H',j5 H H'->H l=none->JR K H' (j6 H' (l::O)) l o->Q (.ref l) H'
variable {k:Nat} {x m:Str} {ps:List Str} {p apos:Pos} {es:List Expr} {l:DA} {ks:List Bool}
def BW{F:List D->Option D}(G:FnI X.prog X.w X.K X.mg X.base k x ps (kT K ks F))(hr:Room k X.A)(ha:PA X (e::es) (zp K l))(hk:l.map (·.1)=ks:=by rfl)(hg:Gl X x:=by rfl)(hdb:(x==("__debug__" : Str))=false:=by decide)
  (he:starEach (e::es) X.env=(false,eval e X.env)::starEach es X.env:=by rfl) (hpl:(backTo pos (starEach es X.env)).any (·.1)=false:=by rfl):PE X (.Call (.Name x p) (e::es) [] pos) (tE K (jb F l)):=jz (Kk G hr ha hg hdb he hpl) fun U H Q xx=>by
 obtain⟨H0,O0,Z,O,d,R,ed,q⟩:=xx;subst hk;obtain⟨ds,e1,e2⟩:=j3 ed;refine⟨H0,O0,Z,O,ds,R,e1,fun vs H1 s1 r1=>?_⟩
 (try dsimp only)
 rw[uFa];exact⟨O,ds,d,(R.grow s1).al,r1,e2,fun v H' s r=>q v H' (s1.trans s) r⟩
def BX{F:List D->Option OD}(G:FnI X.prog X.w X.K X.mg X.base k x ps (Qf K ks F))(hr:Room k X.A)(ha:PA X (e::es) (zp K l))(hk:l.map (·.1)=ks:=by rfl)(hg:Gl X x:=by rfl)(hdb:(x==("__debug__" : Str))=false:=by decide)
  (he:starEach (e::es) X.env=(false,eval e X.env)::starEach es X.env:=by rfl) (hpl:(backTo pos (starEach es X.env)).any (·.1)=false:=by rfl):PE X (.Call (.Name x p) (e::es) [] pos) (tF K (Jr F l)):=jz (Kk G hr ha hg hdb he hpl) fun U H Q xx=>by
 obtain⟨H0,O0,Z,O,d,R,ed,q⟩:=xx;subst hk;obtain⟨ds,e1,e2⟩:=j3 ed;refine⟨H0,O0,Z,O,ds,R,e1,fun vs H1 s1 r1=>?_⟩
 (try dsimp only)
 rw[uFa];exact⟨O,ds,d,(R.grow s1).al,r1,e2,fun l H' s hn r=>q l H' (s1.trans s) (s1.none hn) r⟩
noncomputable def vL(C:Addr)(m:Str)(F:List D->Option D):D->Option D:=fun d=>match d with
 | .ins C' ns ds=>if C'=C/\m∉ns then F [d]else none
 | _=>none
theorem U_{α:Type}{m:Str}:∀{ns:List Str} {xs:List α},m∉ns->(ns.zip xs).lookup m=none
 | [],_,_=>rfl
 | _::_,[],_=>rfl
 | n::ns,x::xs,h=>by
  rw[List.zip_cons_cons,List.lookup_cons];have e:(m==n)=false:=by
   rw[beq_eq_false_iff_ne];exact fun z=>h (by rw[z];exact wNa)
  rw[e];exact U_ fun z=>h (wMa _ z)
set_option tactic.hygienic true in
theorem AD{F:List D->Option D}{C:Addr}{pl:Sem Bool}(he:PE X a (tR K da))(c:Cls K C)(M:MtI X.prog X.w X.K X.mg X.base k C m ps (kT K [false] F))(hr:Room k X.A)
  (ht:eval (.Call (.Attribute a m apos) [] [] pos) X.env=(do
   let ov<-eval a X.env
   standAt apos.atName
   let (f,first)<-holding [ov] (getMethod ov m pl)
   callWith pos f first (backTo pos (starEach [] X.env)) (backToKw pos (keywordEach [] X.env))):=by rfl) (hK:X.K=K:=by rfl):
  PE X (.Call (.Attribute a m apos) [] [] pos) (tE K (d1 (vL C m F) da)):=by
 subst hK;refine jz (Bx he c M hr ht) fun U H Q xx=>?_;obtain⟨H0,O0,Z,O,d,R,ed,q⟩:=xx;obtain⟨x,e1,e2⟩:=j3 ed;refine⟨H0,O0,Z,O,x,R,e1,fun v H1 s1 r=>?_⟩;unfold vL at e2;split at e2
 ·split at e2
  ·rename_i hh;obtain⟨rfl,hm⟩:=hh;have r0:=r;obtain⟨pa,dx,xs,rfl,h1,hn,h2⟩:=r.ins;exact⟨pa,dx,_,rfl,h1,U_ hm,O,[_],d,(R.grow s1).al,⟨r0,trivial⟩,e2,fun v H' s r=>q v H' (s1.trans s) r⟩
  ·cases e2
 ·cases e2
def ae(K:Fr)(C:Addr)(ks:List Bool)(F:Addr->List D->Option OD):Sp:=fun vs H Q _=>∃O ds p dx vs' o,vs=.ref p::vs'/\(∀a∈O,H a≠none)/\H p=some (.ins C dx [])/\p∉O/\yA K O (j6 H [p]) ks ds vs'/\F p ds=some o/\∀H',j5 (j6 H [p]) H'->JR K H' (j6 H' (p::O)) p o->Q .non H'
@[simp] def qp(F:List D->Option OD)(l:DA)(Z:je):Option OD:=(YK l Z).bind F
def BZ{F:Addr->List D->Option OD}{F1:List D->Option OD}{C:Addr}(M:MkI X.prog X.w X.K X.mg X.base k C x ps (ae K C ks F))(hF:∀p ds o,F1 ds=some o->F p ds=some o)(hr:Room (k+1) X.A)(ha:PA X (e::es) (zp K l))(hk:l.map (·.1)=ks:=by rfl)(hg:Gl X x:=by rfl)(hdb:(x==("__debug__" : Str))=false:=by decide)
  (he:starEach (e::es) X.env=(false,eval e X.env)::starEach es X.env:=by rfl) (hpl:(backTo pos (starEach es X.env)).any (·.1)=false:=by rfl):PE X (.Call (.Name x p) (e::es) [] pos) (tF K (qp F1 l)):=jz (DB M hr ha hg hdb he hpl) fun U H Q xx=>by
 obtain⟨H0,O0,Z,O,o,R,ed,q⟩:=xx;subst hk;obtain⟨ds,e1,e2⟩:=j3 ed;refine⟨H0,O0,Z,O,ds,R,e1,fun vs H1 s1 r1=>fun y dy ny ndy hne=>?_⟩
 (try dsimp only)
 rw[uFa];have R1:=R.grow s1;have sB:j5 H1 (j6 (upd (upd H1 dy (.own y)) y (.ins C dy [])) [y]):=fun c u z=>by
  rw[jR (by intro w;simp at w;exact jJ z ny w),jq (jJ z ny),jq (jJ z ndy)];exact z
 refine⟨O,ds,y,dy,vs,o,rfl,fun c hc z=>?_,jV,R1.new ny,r1.same sB,hF y ds o e2,fun H' s ow=>⟨rfl,q y H' (s1.trans (sB.trans s)) (s1.none ny) ow⟩⟩;refine R1.al c hc ?_;by_cases h1:c=y
 ·rw[h1];exact ny
 ·rw[jq h1]at z;by_cases h2:c=dy
  ·rw[h2];exact ndy
  ·rw[jq h2]at z;exact z
inductive Rs where
 | nx (Z:je) | rt (d:D) | rf (o:OD) | bk (Z:je) | ct (Z:je)
abbrev DS:=je->Option Rs
def Fin(K:Fr)(H0:Hp)(O0:List Addr)(H:Hp)(O:List Addr)(E:Ends):Rs->Prop
 | .nx Z=>∀U' H' O',Rel K H0 O0 Z U' H' O'->j5 (j6 H O) (j6 H' O')->E.nx U' H'
 | .bk Z=>∀U' H' O',Rel K H0 O0 Z U' H' O'->j5 (j6 H O) (j6 H' O')->E.bk U' H'
 | .ct Z=>∀U' H' O',Rel K H0 O0 Z U' H' O'->j5 (j6 H O) (j6 H' O')->E.ct U' H'
 | .rt d=>∀v H',j5 H0 H'->j9 K (j6 H' O0) d v->E.rt v H'
 | .rf o=>∀l H',j5 H0 H'->H0 l=none->JR K H' (j6 H' (l::O0)) l o->E.rt (.ref l) H'
def Fin.mono{H0 H H1:Hp}{O0 O O1:List Addr}{E:Ends}{r:Rs}(s:j5 (j6 H O) (j6 H1 O1))(h:Fin K H0 O0 H O E r):Fin K H0 O0 H1 O1 E r:=by
 cases r with
 | nx Z=>exact fun U' H' O' R t=>h U' H' O' R (s.trans t)
 | bk Z=>exact fun U' H' O' R t=>h U' H' O' R (s.trans t)
 | ct Z=>exact fun U' H' O' R t=>h U' H' O' R (s.trans t)
 | rt d=>exact h
 | rf o=>exact h
def tS(K:Fr)(ds:DS):TS:=fun E U H=>∃H0 O0 Z O r,Rel K H0 O0 Z U H O/\ds Z=some r/\Fin K H0 O0 H O E r
variable {st:Stmt} {rest:List Stmt} {s1 s2:DS}
def Jt{t t':TS}(h:PS X st t)(f:∀D U H,t' D U H->t D U H):PS X st t':=fun pins s U H D I q=>h pins s U H D I (f D U H q)
def Vn{t t':TS}(h:Jn X rest t)(f:∀D U H,t' D U H->t D U H):Jn X rest t':=fun pins s U H D I q=>h pins s U H D I (f D U H q)
@[simp] noncomputable def ju(Z:je):Option Rs:=some (.nx Z)
def B_:Jn X [] (tS K ju):=Vn A7 fun D U H xx=>by
 obtain⟨H0,O0,Z,O,r,R,ed,f⟩:=xx;cases ed;exact f U H O R (j5.refl _)
@[simp] noncomputable def j4(s1 s2:DS)(Z:je):Option Rs:=(s1 Z).bind fun r=>match r with
 | .nx Z1=>s2 Z1
 | r=>some r
def AE(h1:PS X st (tS K s1))(h2:Jn X rest (tS K s2)):Jn X (st::rest) (tS K (j4 s1 s2)):=Vn (Ky h1 h2) fun D U H xx=>by
 obtain⟨H0,O0,Z,O,r,R,ed,f⟩:=xx;obtain⟨r1,e1,e2⟩:=j3 ed;refine⟨H0,O0,Z,O,r1,R,e1,?_⟩;cases r1 with
 | nx Z1=>exact fun U' H' O' R' t=>⟨H0,O0,Z1,O',r,R',e2,f.mono t⟩
 | bk Z1=>cases e2;exact f
 | ct Z1=>cases e2;exact f
 | rt d=>cases e2;exact f
 | rf o=>cases e2;exact f
def c6(h1:PS X st (tS K s1)):Jn X [st] (tS K s1):=Wm h1
@[simp] noncomputable def ZG(_:je):Option Rs:=none
def xO:Jn X rest (tS K ZG):=Vn qR fun D U H ⟨H0,O0,Z,O,r,R,ed,f⟩=>by cases ed
@[simp] def uI(i:Nat)(s:DS)(Z:je):Option Rs:=match Z[i]? with
 | some (.ow _ o)=>s (Z.set i (.cl o.toD))
 | _=>none
def xP(i:Nat)(h:Jn X rest (tS K s1)):Jn X rest (tS K (uI i s1)):=Vn h fun D U H xx=>by
 obtain⟨H0,O0,Z,O,r,R,ed,f⟩:=xx;unfold uI at ed;split at ed
 ·obtain⟨O',R',ss⟩:=R.share (by assumption);exact⟨H0,O0,_,O',r,R',ed,f.mono ss⟩
 ·cases ed
@[simp] noncomputable def jg(dt:DT)(s1 s2:DS)(Z:je):Option Rs:=(dt Z).bind fun k=>if k=true then s1 Z else s2 Z
def c8{dt:DT}{sa sb:List Stmt}(hc:PT X c (tT K dt))(ha:Jn X sa (tS K s1))(hb:Jn X sb (tS K s2)):PS X (.If c sa sb pos) (tS K (jg dt s1 s2)):=Jt (Dk hc ha hb) fun D U H xx=>by
 obtain⟨H0,O0,Z,O,r,R,ed,f⟩:=xx;obtain⟨k,e1,e2⟩:=j3 ed;refine⟨H0,O0,Z,O,k,R,e1,fun H' s=>?_⟩;cases k with
 | true=>rw[if_pos rfl]at e2;exact Ze ⟨H0,O0,Z,O,r,R.grow s,e2,f.mono (jc s)⟩
 | false=>rw[if_neg Bool.false_ne_true]at e2;exact Zd ⟨H0,O0,Z,O,r,R.grow s,e2,f.mono (jc s)⟩
@[simp] noncomputable def jk(i:Nat)(de:DE)(Z:je):Option Rs:=(de Z).bind fun d=>some (.nx (Z.set i (.cl d)))
def c9{i:Nat}:∀D U H,tS K (jk i de) D U H->Y5 (tE K de) (Yv i) D U H:=fun D U H xx=>by
 obtain⟨H0,O0,Z,O,r,R,ed,f⟩:=xx;obtain⟨d,e1,e2⟩:=j3 ed;cases e2;exact⟨H0,O0,Z,O,d,R,e1,fun v H' s q=>f _ H' O ((R.grow s).set q i) (jc s)⟩
def Gp{i:Nat}(h:PS X st (Y5 (tE K de) (Yv i))):PS X st (tS K (jk i de)):=Jt h c9
@[simp] noncomputable def yW(i:Nat)(df:DO)(Z:je):Option Rs:=(df Z).bind fun o=>some (.nx (Z.set i (.ow none o)))
def ca{i:Nat}{df:DO}:∀D U H,tS K (yW i df) D U H->Y5 (tF K df) (Yv i) D U H:=fun D U H xx=>by
 obtain⟨H0,O0,Z,O,r,R,ed,f⟩:=xx;obtain⟨d,e1,e2⟩:=j3 ed;cases e2;exact⟨H0,O0,Z,O,d,R,e1,fun l H' s hn q=>f _ H' (l::O) (R.own s hn q i) (yg s hn)⟩
def af{i:Nat}{df:DO}(h:PS X st (Y5 (tF K df) (Yv i))):PS X st (tS K (yW i df)):=Jt h ca
def ZV{te te':TE}{g:TG}(h:PS X st (Y5 te g))(f:∀U H Q,te' U H Q->te U H Q):PS X st (Y5 te' g):=Jt h fun D U H q=>f U H _ q
def KZ{df:DO}:∀U H Q,tE K (dL df) U H Q->tF K df U H Q:=fun U H Q xx=>by
 obtain⟨H0,O0,Z,O,d,R,ed,q⟩:=xx;obtain⟨ds,e1,e2⟩:=j3 ed;cases e2;exact⟨H0,O0,Z,O,ds,R,e1,fun l H' s hn r=>q _ _ s ((r.same (fun _ z=>z) (JE fun a h=>wMa _ h)).rep fun u z=>by rw[jR (R.new hn)];exact z)⟩
@[simp] noncomputable def zy(de:DE)(g:DG)(Z:je):Option Rs:=(de Z).bind fun d=>(g d Z).bind fun Z'=>some (.nx Z')
def ah{g:DG}{kk:Nat}(h:PS X st (Y5 (tE K de) (tG K kk g))):PS X st (tS K (zy de g)):=Jt h fun D U H xx=>by
 obtain⟨H0,O0,Z,O,r,R,ed,f⟩:=xx;obtain⟨d,e1,ed⟩:=j3 ed;obtain⟨Z',e2,ed⟩:=j3 ed;cases ed;exact⟨H0,O0,Z,O,d,R,e1,fun v H' s q=>⟨H0,O0,Z,O,d,Z',R.grow s,q,e2,fun U' R' _=>f U' H' O R' (jc s)⟩⟩
@[simp] noncomputable def Uw(de:DE)(Z:je):Option Rs:=(de Z).bind fun _=>some (.nx Z)
def Qg(h:PS X st (VG (tR K de))):PS X st (tS K (Uw de)):=Jt h fun D U H xx=>by
 obtain⟨H0,O0,Z,O,r,R,ed,f⟩:=xx;obtain⟨d,e1,e2⟩:=j3 ed;cases e2;exact⟨H0,O0,Z,O,d,R,e1,fun v H' s q=>f _ H' O (R.grow s) (jc s)⟩
@[simp] noncomputable def yi(i:Nat)(de:DE)(Z:je):Option Rs:=match Z[i]? with
 | some (.ow q (.lst ds))=>(de Z).bind fun d=>if ds.length < sizeLine then some (.nx (Z.set i (.ow q (.lst (ds++[d])))))else none
 | _=>none
set_option tactic.hygienic true in
theorem xQ{i:Nat}(h:PS X st (VG (Ge K "list" Us (yx i) (yH (tE K de) ZU)))):PS X st (tS K (yi i de)):=Jt h fun D U H xx=>by
 obtain⟨H0,O0,Z,O,r,R,ed,f⟩:=xx;unfold yi at ed;split at ed
 ·rename_i q ds hi;obtain⟨d,e1,e2⟩:=j3 ed;split at e2
  ·rename_i hz;cases e2;obtain⟨l,hq,hs,⟨vs,hl,rp⟩,lo,h0⟩:=R.ow i _ _ hi;refine⟨_,hs,.inl ⟨rfl,_,jG.of hl⟩,H0,O0,Z,O,d,R,e1,fun v H' s rv=>?_⟩;have R':=R.grow s;have rp':=rp.same (jc s);refine⟨l,vs,v,rfl,rfl,s _ _ hl,by rw[rp.len];exact hz,f _ _ O (R'.change hi hq hs lo h0 ⟨_,jV,rp'.snoc rv⟩) ?_⟩;rw[Ja lo];exact jc s
  ·cases e2
 ·cases ed
@[simp] def Ux(i:Nat)(dx de:DE)(Z:je):Option Rs:=match Z[i]? with
 | some (.ow q (.lst ds))=>(de Z).bind fun d=>(dx Z).bind fun j=>match j with
  | .int j=>(Yp ds.length j).bind fun n=>some (.nx (Z.set i (.ow q (.lst (ds.set n d)))))
  | _=>none
 | _=>none
set_option tactic.hygienic true in
theorem cb{i:Nat}{dx:DE}(h:PS X st (Y5 (tE K de) (Kz (yx i) (tR K dx) Ki))):PS X st (tS K (Ux i dx de)):=Jt h fun D U H xx=>by
 obtain⟨H0,O0,Z,O,r,R,ed,f⟩:=xx;unfold Ux at ed;split at ed
 ·rename_i q ds hi;obtain⟨d,e1,ed⟩:=j3 ed;obtain⟨j,e2,ed⟩:=j3 ed;split at ed
  ·obtain⟨n,e3,ed⟩:=j3 ed;cases ed;obtain⟨l,hq,hs,⟨vs,hl,rp⟩,lo,h0⟩:=R.ow i _ _ hi;refine⟨H0,O0,Z,O,d,R,e1,fun v H1 s1 rv=>⟨_,hs,H0,O0,Z,O,_,R.grow s1,e2,fun w H2 s2 rw'=>?_⟩⟩;have s12:=s1.trans s2;have R':=R.grow s12;have rp':=rp.same (jc s12);refine⟨l,vs,_,n,rfl,rw'.int,s12 _ _ hl,by rw[rp.len];exact e3,f _ _ O (R'.change hi hq hs lo h0 ⟨_,jV,rp'.set (rv.same (jc s2)) n⟩) ?_⟩;rw[Ja lo];exact jc s12
  ·cases ed
 ·cases ed
@[simp] noncomputable def jh(de:DE)(Z:je):Option Rs:=(de Z).bind fun d=>some (.rt d)
def aj(h:PE X e (tE K de)):PS X (.Return (some e) pos) (tS K (jh de)):=Jt (Ga h) fun D U H xx=>by
 obtain⟨H0,O0,Z,O,r,R,ed,f⟩:=xx;obtain⟨d,e1,e2⟩:=j3 ed;cases e2;exact⟨H0,O0,Z,O,d,R,e1,fun v H' s q=>f v H' (R.keep.trans s) (q.same (JE R.sub))⟩
@[simp] noncomputable def Uy(df:DO)(Z:je):Option Rs:=(df Z).bind fun o=>some (.rf o)
def ce{df:DO}(h:PE X e (tF K df)):PS X (.Return (some e) pos) (tS K (Uy df)):=Jt (Ga h) fun D U H xx=>by
 obtain⟨H0,O0,Z,O,r,R,ed,f⟩:=xx;obtain⟨d,e1,e2⟩:=j3 ed;cases e2;refine⟨H0,O0,Z,O,d,R,e1,fun l H' s hn q=>f l H' (R.keep.trans s) (R.keep.none hn) (q.same (fun _ z=>z) (JE fun a h=>?_))⟩;rcases uTa h with rfl | h
 ·exact wNa
 ·exact wMa _ (R.sub a h)
@[simp] noncomputable def VN(i:Nat)(Z:je):Option Rs:=match Z[i]? with
 | some (.ow _ o)=>some (.rf o)
 | _=>none
def cf{i:Nat}{x:Str}{pos':Pos}(h:PE X (.Name x pos') (yx i)):PS X (.Return (some (.Name x pos')) pos) (tS K (VN i)):=Jt (Ga h) fun D U H xx=>by
 obtain⟨H0,O0,Z,O,r,R,ed,f⟩:=xx;unfold VN at ed;split at ed
 ·cases ed;obtain⟨l,_,hs,ow,lo,h0⟩:=R.ow i _ _ (by assumption);refine⟨_,hs,f l H R.keep h0 (ow.same (fun _ z=>z) (JE fun a h=>?_))⟩;rcases uTa h with rfl | h
  ·exact lo
  ·exact R.sub a h
 ·cases ed
def cg:PS X (.Return none pos) (tS K (jh (dK .non))):=Jt A8 fun D U H xx=>by
 obtain⟨H0,O0,Z,O,r,R,ed,f⟩:=xx;cases ed;exact f .non H R.keep (by rw[j9])
noncomputable def J5(g:DG)(s:DS):List D->DS
 | [],Z=>some (.nx Z)
 | d::ds,Z=>(g d Z).bind fun Z1=>(s Z1).bind fun r=>match r with
  | .nx Z2=>J5 g s ds Z2
  | .ct Z2=>J5 g s ds Z2
  | .bk Z2=>some (.nx Z2)
  | .rt d=>some (.rt d)
  | .rf o=>some (.rf o)
@[simp] def jW(di:DI)(g:DG)(s:DS)(Z:je):Option Rs:=(di Z).bind fun items=>J5 g s items Z
def eX{iter:Expr}{body:List Stmt}{di:DI}{g:DG}{kk:Nat}(hp:PassesOwn (model X.prog X.w) X.A X.env X.xe)(hc:X.calm=true)(hi:PI X tg iter (zq K di))(hg:PG X tg (tG K kk g))(hb:Jn X body (tS K s1))(hs:∀x,foldedSetIterable iter X.env x=pure x:=by intro _;rfl):PS X (.For tg iter body [] pos) (tS K (jW di g s1)):=Jt (B0 hp hc hi hg hb hs) fun D U H xx=>by
 obtain⟨H0,O0,Z,O,r,R,ed,f⟩:=xx;obtain⟨items,e1,ed⟩:=j3 ed;refine⟨H0,O0,Z,O,items,R,e1,fun J H1 s1' hJ=>?_⟩;have R1:=R.grow s1';have f1:=f.mono (jc s1');refine⟨fun i m U' H'=>∃Z' O',Rel K H0 O0 Z' U' H' O'/\J5 g s1 (items.drop i) Z'=some r/\j5 (j6 H1 O) (j6 H' O')/\m=items.length - i/\i<=items.length,⟨items.length,Z,O,R1,by simpa using ed,j5.refl _,rfl,Nat.zero_le _⟩,?_⟩;rintro i m U' H' ⟨Z',O',R',d1,sd,rfl,hi'⟩;obtain⟨hgo,hstop⟩:=hJ i H' O' R'.keep R'.in0 sd R'.al;by_cases hlt:i < items.length
 ·right;have hx:items[i]?=some items[i]:=by simp[hlt]
  have hd:items.drop i=items[i]::items.drop (i+1):=(List.getElem_cons_drop hlt).symm;rw[hd]at d1;obtain⟨g1,g2⟩:=hgo _ hx;refine⟨g1,fun U2 H2=>∃Z2 O2,Rel K H0 O0 Z2 U2 H2 O2/\J5 g s1 (items.drop (i+1)) Z2=some r/\j5 (j6 H1 O) (j6 H2 O2),?_,fun x H'' y=>?_⟩
  ·rintro U2 H2 ⟨Z2,O2,a1,a2,a3⟩;exact⟨items.length - (i+1),by lia,Z2,O2,a1,a2,a3,rfl,hlt⟩
  ·obtain⟨sy,rx⟩:=g2 x H'' y;obtain⟨Z1,f3,f4⟩:=j3 d1;obtain⟨r1,f5,f6⟩:=j3 f4;refine⟨H0,O0,Z',O',_,Z1,R'.grow sy,rx,f3,fun U2 R3 _=>⟨H0,O0,Z1,O',r1,R3,f5,?_⟩⟩;have t1:=sd.trans (jc sy);cases r1 with
   | nx Z2=>exact fun U3 H3 O3 R4 t=>⟨Z2,O3,R4,f6,t1.trans t⟩
   | ct Z2=>exact fun U3 H3 O3 R4 t=>⟨Z2,O3,R4,f6,t1.trans t⟩
   | bk Z2=>cases f6;exact fun U3 H3 O3 R4 t=>f1 U3 H3 O3 R4 (t1.trans t)
   | rt d=>cases f6;exact f1
   | rf o=>cases f6;exact f1
 ·left;have ei:i=items.length:=by lia
  refine⟨hstop ei,?_⟩;have e0:items.drop i=[]:=List.drop_of_length_le (by lia);rw[e0]at d1;have d1:some (Rs.nx Z')=some r:=d1;cases d1;exact f1 U' H' O' R' sd
noncomputable def uJ(dt:DT)(s:DS):Nat->DS
 | 0,_=>none
 | n+1,Z=>(dt Z).bind fun k=>if k=true then(s Z).bind fun r=>match r with
  | .nx Z2=>uJ dt s n Z2
  | .ct Z2=>uJ dt s n Z2
  | .bk Z2=>some (.nx Z2)
  | .rt d=>some (.rt d)
  | .rf o=>some (.rf o)else some (.nx Z)
def AF{dt:DT}{body:List Stmt}(n:Nat)(hp:PassesOwn (model X.prog X.w) X.A X.env X.xe)(hc:PT X c (tT K dt))(hb:Jn X body (tS K s1)):PS X (.While c body [] pos) (tS K (uJ dt s1 n)):=Jt (xn hp hc hb) fun D U H xx=>by
 obtain⟨H0,O0,Z,O,r,R,ed,f⟩:=xx;refine⟨fun m U' H'=>∃Z' O',Rel K H0 O0 Z' U' H' O'/\uJ dt s1 m Z'=some r/\j5 (j6 H O) (j6 H' O'),⟨n,Z,O,R,ed,j5.refl _⟩,?_⟩;rintro m U' H' ⟨Z',O',R',d1,sd⟩;cases m with
 | zero=>cases d1
 | succ m=>
  obtain⟨k,e1,e2⟩:=j3 d1;refine⟨H0,O0,Z',O',k,R',e1,fun H2 s2=>?_⟩;have t1:=sd.trans (jc s2);cases k with
  | true=>
   rw[if_pos rfl]at e2;obtain⟨r1,f5,f6⟩:=j3 e2;refine Ze ⟨fun U3 H3=>∃Z3 O3,Rel K H0 O0 Z3 U3 H3 O3/\uJ dt s1 m Z3=some r/\j5 (j6 H O) (j6 H3 O3),?_,H0,O0,Z',O',r1,R'.grow s2,f5,?_⟩
   ·rintro U3 H3 ⟨Z3,O3,a1,a2,a3⟩;exact⟨m,Nat.lt_succ_self m,Z3,O3,a1,a2,a3⟩
   ·cases r1 with
    | nx Z2=>exact fun U3 H3 O3 R4 t=>⟨Z2,O3,R4,f6,t1.trans t⟩
    | ct Z2=>exact fun U3 H3 O3 R4 t=>⟨Z2,O3,R4,f6,t1.trans t⟩
    | bk Z2=>cases f6;exact fun U3 H3 O3 R4 t=>f U3 H3 O3 R4 (t1.trans t)
    | rt d=>cases f6;exact f
    | rf o=>cases f6;exact f
  | false=>
   rw[if_neg Bool.false_ne_true]at e2;cases e2;exact Zd (f U' H2 O' (R'.grow s2) t1)
def AG{iter elt:Expr}{ifs:List Expr}{scope:Scope}{di:DI}{g:DG}{dc:DT}{de:DE}(own:List Str)(caps:List (Str×Nat)){i:Nat}{x:Str}{pos' spos:Pos}(hN:X.N.Nodup)(hix:X.N[i]?=some x)(hx:UV X.env.scope x)(S:CScope X scope)(hcap:Caps X scope caps)(hc:X.calm=true)(hi:PI X tg iter (zq K di))
  (hg:∀s3 H3 ex',PG (X.comp (cN own caps) scope s3 H3 ex') tg (tG K own.length g)) (ht:∀s3 H3 ex',Zf (X.comp (cN own caps) scope s3 H3 ex') ifs (tT K dc)) (he:∀s3 H3 ex',PE (X.comp (cN own caps) scope s3 H3 ex') elt (tE K de)) (hnd:(caps.map (·.2)).Nodup:=by decide)
  (hs:∀x,foldedSetIterable iter X.env x=pure x:=by intro _;rfl)
  (hsw:swapsWith (.ListComp elt [⟨tg,iter,ifs,0⟩] scope pos) (some (.Name x pos')) spos.line X.env=pure true:=by rfl) (hf:X.fn x=true \/ X.env.scope.names.lookup x=some .local:=by first | exact .inl rfl | exact .inr rfl | assumption):
  PS X (.Assign [.Name x pos'] (.ListComp elt [⟨tg,iter,ifs,0⟩] scope pos) spos) (tS K (yW i (JU own.length (caps.map (·.2)) di g dc de))):=
 af (ZV (KK own caps hN hix hx S hcap hc hi hg ht he hs hsw hf) (KY hnd))
def AH{iter elt:Expr}{ifs:List Expr}{scope:Scope}{di:DI}{g:DG}{dc:DT}{de:DE}(own:List Str)(caps:List (Str×Nat)){i:Nat}{x:Str}{pos' spos:Pos}(hN:X.N.Nodup)(hix:X.N[i]?=some x)(hx:UV X.env.scope x)(S:CScope X scope)(hcap:Caps X scope caps)(hc:X.calm=true)(hi:PI X tg iter (zq K di))
  (hg:∀s3 H3 ex',PG (X.comp (cN own caps) scope s3 H3 ex') tg (tG K own.length g)) (ht:∀s3 H3 ex',Zf (X.comp (cN own caps) scope s3 H3 ex') ifs (tT K dc)) (he:∀s3 H3 ex',PE (X.comp (cN own caps) scope s3 H3 ex') elt (tE K de)) (hnd:(caps.map (·.2)).Nodup:=by decide)
  (hs:∀x,foldedSetIterable iter X.env x=pure x:=by intro _;rfl)
  (hsw:swapsWith (.ListComp elt [⟨tg,iter,ifs,0⟩] scope pos) (some (.Name x pos')) spos.line X.env=pure true:=by rfl) (hf:X.fn x=true \/ X.env.scope.names.lookup x=some .local:=by first | exact .inl rfl | exact .inr rfl | assumption):
  PS X (.Assign [.Name x pos'] (.ListComp elt [⟨tg,iter,ifs,0⟩] scope pos) spos) (tS K (jk i (dL (JU own.length (caps.map (·.2)) di g dc de)))):=
 Gp (ZV (ZV (KK own caps hN hix hx S hcap hc hi hg ht he hs hsw hf) (KY hnd)) KZ)
end
def Gq(v:Value)(n:Nat):List.foldl (fun x1 x2=>x1++x2) #[] (List.replicate n #[v])=(List.replicate n v).toArray:=by
 have f:∀(n:Nat) (a:Array Value),List.foldl (fun x1 x2=>x1++x2) a (List.replicate n #[v])=a++(List.replicate n v).toArray:=fun n=>by
  induction n with
  | zero=>intro a;simp
  | succ n ih=>intro a;rw[List.replicate_succ,List.foldl_cons,ih];apply Array.ext';simp[List.replicate_succ]
 rw[f];simp
def Kd(l:Addr)(v:Value)(n:Nat)(dd:Option Addr)(sl:Array (Option Value))(x:Int)(u:Tok)(h1:1 < x)(h2:x<=1000):
  Meets (Builtin.«tuple.__mul__» ⟨[.ref l,.int x u],[]⟩) (fun _ R s=>s.heap.get? l=some { cls:=.type "tuple",dict:=dd,data:=.seq #[v] n,slots:=sl }/\R (.ok (.ret (Value.ref s.heap.objs.size))) { s with heap:=s.heap.push { cls:=Value.type "tuple",data:=Data.seq (List.foldl (fun x1 x2=>x1++x2) #[] (List.replicate x.toNat #[v])) },toks:=s.toks }):=
 .of_wp fun prog w A R s h=>by
  obtain⟨hp,g,d,tk,os⟩:=s;obtain⟨hl,h⟩:=h
  wp_walk
  refine wpAny_ite_false (by simp;lia) ?_
  wp_walk
  refine wpAny_ite_false (by simp;lia) ?_
  wp_walk
  refine wpAny_ite_false (by simp;lia) ?_
  wp_walk
  rw[if_neg (by simp;lia)]
  wp_walk
  refine wpAny_ite_false (by simp[Builtin.Tuple.tupleTooMany,sizeLine];lia) ?_
  wp_walk
  have hz:(List.foldl (fun x1 x2=>x1++x2) #[] (List.replicate x.toNat #[v])).size<=sizeLine:=by
   rw[Gq];simp[sizeLine];lia
  first | exact⟨_,rfl,h⟩ | (refine wpAny_ite_false (vBa (Nat.not_lt.mpr hz)) ?_;wp_walk;exact⟨_,rfl,h⟩)
def Ke(l:Addr)(v:Value)(n:Nat)(dd:Option Addr)(sl:Array (Option Value))(u:Tok):
  Meets (Builtin.«tuple.__mul__» ⟨[.ref l,.int 1 u],[]⟩) (fun _ R s=>s.heap.get? l=some { cls:=.type "tuple",dict:=dd,data:=.seq #[v] n,slots:=sl }/\R (.ok (.ret (Value.ref l))) { s with heap:=s.heap,toks:=s.toks }):=
 .of_wp fun prog w A R s h=>by
  obtain⟨hp,g,d,tk,os⟩:=s;obtain⟨hl,h⟩:=h
  wp_walk
  first | exact⟨_,rfl,h⟩ | (refine wpAny_ite_false (by simp) ?_;wp_walk;refine wpAny_ite_true (by simp) ?_;wp_walk;exact⟨_,rfl,h⟩)
def GZ(l:Addr)(v:Value)(n:Nat)(dd:Option Addr)(sl:Array (Option Value))(u:Tok):
  Meets (Builtin.«tuple.__mul__» ⟨[.ref l,.int 0 u],[]⟩) (fun _ R s=>s.heap.get? l=some { cls:=.type "tuple",dict:=dd,data:=.seq #[v] n,slots:=sl }/\R (.ok (.ret (Value.ref s.heap.objs.size))) { s with heap:=s.heap.push { cls:=Value.type "tuple",data:=Data.seq #[] },toks:=s.toks }):=
 .of_wp fun prog w A R s h=>by
  obtain⟨hp,g,d,tk,os⟩:=s;obtain⟨hl,h⟩:=h
  wp_walk
  first | exact⟨_,rfl,h⟩ | (refine wpAny_ite_false (by simp) ?_;wp_walk;refine wpAny_ite_false (by simp) ?_;wp_walk;refine wpAny_ite_true (by simp) ?_;wp_walk;exact⟨_,rfl,h⟩)
def gD:fillsNumberSlot (.type "tuple") "mul" = pure false:=
 PySem.fillsNumberSlot_seq (id := "tuple.__mul__") (r:=some (.builtin "tuple.__rmul__")) F.slot_tuple_mul.lookup (by decide +kernel) F.slot_tuple_rmul.lookup (by decide +kernel)
def K_:seqRepeat? (.type "tuple")=pure (some (.builtin "tuple.__mul__")):=by
 unfold seqRepeat?;rw[PySem.seqSlot_of (T := "tuple") (name := "__mul__") (id := "tuple.__mul__") F.slot_tuple_mul.lookup (by decide +kernel),PySem.seqSlot_of (T := "tuple") (name := "__rmul__") (id := "tuple.__rmul__") F.slot_tuple_rmul.lookup (by decide +kernel)];rfl
def G_(a:Int)(t:Tok)(l:Addr)(items:Array Value)(n:Nat)(dd:Option Addr)(sl:Array (Option Value)):
  Meets (Builtin.«int.__rmul__» ⟨[.int a t,.ref l],[]⟩) (fun _ R s=>s.heap.get? l=some { cls:=.type "tuple",dict:=dd,data:=.seq items n,slots:=sl }/\R (.ok (.ret Value.notImplemented)) s):=
 .of_wp fun prog w A R s h=>by obtain⟨hp,g,d,tk,os⟩:=s;obtain⟨hl,h⟩:=h;wp_walk;exact⟨_,rfl,h⟩
section
variable {X:Cx} {K:Fr}
def qr(K:Fr):R2:=fun x y H Q=>∃l k z,x=.ref l/\y=.int k/\Jq K H l [z]/\0<=k/\k<=1000/\(k=1->Q (.ref l) H)/\(k≠1->∀p,H p=none->Q (.ref p) (upd H p (.tup (List.replicate k.toNat z))))
theorem wa{z:V}{v:Value}(r:jB z v):∀n:Nat,jj (List.replicate n z) (List.replicate n v)
 | 0=>.nil
 | n+1=>by rw[List.replicate_succ,List.replicate_succ];exact .cons r (wa r n)
def AI:J0 X (binaryOp .Mult) (qr X.K):=by
 intro pins s U H x y v u Q I rx ry h;obtain⟨l,k,z,rfl,rfl,hq,h1,h2,q1,q2⟩:=h;cases rx;obtain⟨t,rfl⟩:=ry;obtain⟨its,r,⟨⟨cls,dd,data,sl⟩,ho,hc,n,hd⟩,hz⟩:=I.tuple hq;simp only at hc hd;subst hc hd;obtain⟨w,rfl,rw'⟩:∃w,its=[w]/\jB z w:=by
  cases r with
  | cons a b=>cases b;exact⟨_,rfl,a⟩
 refine wpAny_binaryOp_repeat_ref (T := "tuple") (U := "int") (by decide) ⟨_,ho,rfl⟩ (fun s'=>typeIs_int s' k t) gD F.fills_int_mul F.slot_int_rmul K_ F.slot_int_index.lookup
  (call_meets F.slot_int_rmul (typeIs_int s k t) F.entry_int_rmul (F.args_int_rmul_2 _ _) (G_ k t l _ n dd sl) ⟨ho,rfl,⟨_,ho,rfl⟩,?_⟩)
 by_cases e1:k=1
 ·subst e1;exact call_meets F.slot_tuple_mul ⟨_,ho,rfl⟩ F.entry_tuple_mul (F.args_tuple_mul_2 _ _) (Ke l w n dd sl t) ⟨ho,.ref l,H,I,rfl,q1 rfl⟩
 ·by_cases e0:k=0
  ·subst e0;refine call_meets F.slot_tuple_mul ⟨_,ho,rfl⟩ F.entry_tuple_mul (F.args_tuple_mul_2 _ _) (GZ l w n dd sl t) ⟨ho,.ref s.heap.objs.size,_,I.laid (t':=s.toks) (o:=.tup (List.replicate (0:Int).toNat z)) (fun b ob q=>wIa _ q) (wPa _) ?_,rfl,q2 e1 _ (I.hok.fresh (wPa _))⟩;exact⟨Nat.zero_le _,[],.nil,IsTup.new _ _⟩
  ·refine call_meets F.slot_tuple_mul ⟨_,ho,rfl⟩ F.entry_tuple_mul (F.args_tuple_mul_2 _ _) (Kd l w n dd sl k t (by lia) h2) ⟨ho,?_⟩;rw[Gq];refine⟨.ref s.heap.objs.size,_,I.laid (t':=s.toks) (o:=.tup (List.replicate k.toNat z)) (fun b ob q=>wIa _ q) (wPa _) ?_,rfl,q2 e1 _ (I.hok.fresh (wPa _))⟩;exact⟨by rw[List.length_replicate];exact DC (by lia),_,wa rw' _,IsTup.new _ _⟩
@[simp] def yJ:D->D->Option D
 | .int i,.int j=>XW (.int i) (.int j)
 | .tup [z],.int k=>if 0<=k/\k<=1000 then some (.tup (List.replicate k.toNat z))else none
 | _,_=>none
theorem wb{H:Hp}{d:D}{v:V}(h:j9 K H d v):∀n:Nat,j0 K H (List.replicate n d) (List.replicate n v)
 | 0=>j0.nil
 | n+1=>by rw[List.replicate_succ,List.replicate_succ];exact j0.cons h (wb h n)
set_option tactic.hygienic true in
theorem ci:Ju K (fun x y H Q=>rI gw (fun i j=>.int (i * j)) x y H Q \/ qr K x y H Q) yJ:=by
 intro O H a b d x y Q ha hb hn e q;unfold yJ at e;split at e
 ·exact .inl (DN O H _ _ d x y Q ha hb hn e q)
 ·split at e
  ·rename_i hk;cases e;right;obtain⟨p,xs,rfl,h1,h2⟩:=ha.tup;obtain⟨v,rfl,rv⟩:∃v,xs=[v]/\j9 K (j6 H O) _ v:=by
    rw[j0]at h2;obtain⟨v,r,rfl,a1,b1⟩:=h2;rw[j0]at b1;subst b1;exact⟨v,rfl,a1⟩
   refine⟨p,_,v,rfl,hb.int,h1,hk.1,hk.2,fun e1=>?_,fun _ p hp=>q _ _ (jC hp _) (yS (hn p hp) hp (wb rv _))⟩;refine q _ H (j5.refl H) ?_;subst e1;rcases ha with ha | ⟨_,o,_,z,_⟩
   ·exact ha
   ·cases o <;> cases z
  ·cases e
 ·cases e
def AJ:J0 X (binaryOp .Mult) (fun x y H Q=>rI gw (fun i j=>.int (i * j)) x y H Q \/ qr X.K x y H Q):=B8.or AI
def AL:J0 X (binaryOp .Add) (fun x y H Q=>Zx (fun i j=>.int (i+j)) x y H Q \/ (fun x y H Q=>qf X.K x y H Q \/ (fun x y H Q=>∃i j,x=.str i/\y=.str j/\i.length+j.length<=sizeLine/\Q (.str (i++j)) H) x y H Q) x y H Q):=B6.or (Ao.or WW)
end
mutual
noncomputable def yC:D->D->Option Bool
 | .tup l,.tup m=>(JF l m).bind fun b=>some (b&&l.length==m.length)
 | .lst l,.lst m=>if l.length=m.length then JF l m else some false
 | .non,.non=>some true
 | .non,.tup _=>some false
 | .tup _,.non=>some false
 | .int a,.int b=>some (a==b)
 | .bl a,.bl b=>some (a==b)
 | .str a,.str b=>some (a==b)
 | _,_=>none
noncomputable def JF:List D->List D->Option Bool
 | [],_=>some true
 | _::_,[]=>some true
 | a::l,b::m=>(yC a b).bind fun x=>(JF l m).bind fun y=>some (x&&y)
end
mutual
@[simp] noncomputable def dep:D->Nat
 | .tup l=>ym l+1
 | .lst l=>ym l+1
 | _=>0
@[simp] noncomputable def ym:List D->Nat
 | []=>0
 | d::ds=>max (dep d) (ym ds)
end
theorem D.ind{P:D->Prop}(h:∀d,(∀l,d=.tup l->∀x∈l,P x)->(∀l,d=.lst l->∀x∈l,P x)->P d)(d:D):P d:=
 h d (fun l e x hx=>D.ind h x) (fun l e x hx=>D.ind h x)
termination_by sizeOf d
decreasing_by
 all_goals (subst e;have:=List.sizeOf_lt_of_mem hx;simp;lia)
section
variable {X:Cx} {K:Fr}
open PySem.SeqAt
def in1_units{A:Around}:A.in1.units=A.units+1:=rfl
variable {pins:List (Addr×Obj)} {U:L2.St} {H:Hp} {s:Shared}
def Gr(ih:∀d∈l,∀{d':D} {x:V} {r:Bool},j9 K H d x->j9 K H d' x->yC d d'=some r->r=true):∀{m:List D} {xs:List V} {r:Bool},j0 K H l xs->j0 K H m xs->JF l m=some r->r=true:=by
 induction l with
 | nil=>intro m xs r _ _ e;rw[JF]at e;cases e;rfl
 | cons a l il=>
  intro m xs r h1 h2 e;cases m with
  | nil=>rw[JF]at e;cases e;rfl
  | cons b m=>
   rw[JF]at e;obtain⟨x,e1,e⟩:=j3 e;obtain⟨y,e2,e⟩:=j3 e;cases e;rw[j0]at h1 h2;obtain⟨v,t,rfl,a1,b1⟩:=h1;obtain⟨v',t',e',a2,b2⟩:=h2;cases e';rw[ih a List.mem_cons_self a1 a2 e1,il (fun d hd=>ih d (List.mem_cons_of_mem _ hd)) b1 b2 e2];rfl
def kU(I:Inv X pins U H s)(d:D):∀{d':D} {x:V} {r:Bool},j9 X.K H d x->j9 X.K H d' x->yC d d'=some r->r=true:=by
 induction d using D.ind with
 | h d i1 i2=>
  intro d' x r h1 h2 e;unfold yC at e;split at e
  ·obtain⟨b,e1,e2⟩:=j3 e;cases e2;rw[j9]at h1 h2;obtain⟨a,xs,rfl,qa,ra⟩:=h1;obtain⟨b',ys,e',qb,rb⟩:=h2;cases e';have exy:=I.tuple_inj qa qb;subst exy;rw[Gr (fun d hd=>i1 _ rfl d hd) ra rb e1,<-ra.len,<-rb.len,beq_self_eq_true];rfl
  ·rw[j9]at h1 h2;obtain⟨a,xs,rfl,qa,ra⟩:=h1;obtain⟨b',ys,e',qb,rb⟩:=h2;cases e';rw[qa]at qb;cases qb;rw[if_pos (by rw[<-ra.len,<-rb.len])]at e;exact Gr (fun d hd=>i2 _ rfl d hd) ra rb e
  ·cases e;rfl
  ·rw[j9]at h1;rw[j9]at h2;obtain⟨b',ys,e',qb,rb⟩:=h2;rw[h1]at e';cases e'
  ·rw[j9]at h1;rw[j9]at h2;obtain⟨b',ys,e',qb,rb⟩:=h1;rw[h2]at e';cases e'
  ·cases e;rw[j9]at h1 h2;rw[h1]at h2;cases h2;simp
  ·cases e;rw[j9]at h1 h2;rw[h1]at h2;cases h2;simp
  ·cases e;rw[j9]at h1 h2;rw[h1]at h2;cases h2;simp
  ·cases e
theorem Km{l:List D}(ih:∀d∈l,∀{d':D} {x y:V} {u v:Value} {A:Around} {r:Bool},yC d d'=some r->j9 K H d x->j9 K H d' y->jB x u->jB y v->A.units+dep d < cLine->EqAt A s u v r):∀{m:List D} {xs ys:List V} {us vs:List Value} {A:Around} {r:Bool},JF l m=some r->j0 K H l xs->j0 K H m ys->jj xs us->jj ys vs->A.units+ym l < cLine->
  ∃e:Nat->Bool,(∀(j:Nat) (h1:j < us.length) (h2:j < vs.length),EqAt A s us[j] vs[j] (e j))/\(List.range (min l.length m.length)).all e=r:=by
 induction l with
 | nil=>
  intro m xs ys us vs A r e h1 h2 v1 v2 hu;rw[JF]at e;cases e;rw[j0]at h1;subst h1;cases v1;exact⟨fun _=>true,fun j h1 _=>vDa h1 (by simp),by simp⟩
 | cons a l il=>
  intro m xs ys us vs A r e h1 h2 v1 v2 hu;cases m with
  | nil=>
   rw[JF]at e;cases e;rw[j0]at h2;subst h2;cases v2;exact⟨fun _=>true,fun j _ h2=>vDa h2 (by simp),by simp⟩
  | cons b m=>
   rw[JF]at e;obtain⟨x,e1,e⟩:=j3 e;obtain⟨y,e2,e⟩:=j3 e;cases e;rw[j0]at h1 h2;obtain⟨v,t,rfl,a1,b1⟩:=h1;obtain⟨v',t',rfl,a2,b2⟩:=h2;rw[ym]at hu;cases v1 with
   | cons r1 rr1=>
    cases v2 with
    | cons r2 rr2=>
     obtain⟨e',q1,q2⟩:=il (fun d hd=>ih d (wMa _ hd)) e2 b1 b2 rr1 rr2 (A:=A) (by lia);refine⟨fun j=>match j with | 0=>x | j+1=>e' j,fun j h1 h2=>?_,?_⟩
     ·cases j with
      | zero=>exact ih a wNa e1 a1 a2 r1 r2 (by lia)
      | succ j=>exact q1 j (by simpa using h1) (by simpa using h2)
     ·rw[vXa,vXa,Nat.succ_min_succ,List.range_succ_eq_map,List.all_cons,List.all_map];rw[<-q2];rfl
set_option tactic.hygienic true in
theorem cj(I:Inv X pins U H s)(d:D):∀{d':D} {x y:V} {u v:Value} {A:Around} {r:Bool},yC d d'=some r->j9 X.K H d x->j9 X.K H d' y->jB x u->jB y v->A.units+dep d < cLine->EqAt A s u v r:=by
 induction d using D.ind with
 | h d i1 i2=>
  intro d' x y u v A r e hx hy rx ry hu;have e0:=e;unfold yC at e;split at e
  ·obtain⟨b,e1,e2⟩:=j3 e;cases e2;have hx0:=hx;have hy0:=hy;rw[j9]at hx hy;obtain⟨a,xs,rfl,qa,ra⟩:=hx;obtain⟨b',ys,rfl,qb,rb⟩:=hy;cases rx;cases ry;rw[dep]at hu;by_cases hab:a=b'
   ·subst hab;have:=kU I _ hx0 hy0 e0;rw[this];exact EqAt.same _
   ·obtain⟨ia,va,pa,_⟩:=I.tuple qa;obtain⟨ib,vb,pb,_⟩:=I.tuple qb;have la:=(List.size_toArray (as:=ia)).trans (va.length.symm.trans ra.len);have lb:=(List.size_toArray (as:=ib)).trans (vb.length.symm.trans rb.len);obtain⟨e',h1,h2⟩:=Km (fun d hd=>i1 _ rfl d hd) e1 ra rb va vb (A:=A.in1) (by rw[in1_units];lia);have key:=RcAt.tuples (A:=A) (s:=s) (l:=a) (b:=b') (items:=ia.toArray) (items2:=ib.toArray) (e:=e') pa pb (by lia) (fun j h1' h2'=>by simpa using h1 j (by simpa using h1') (by simpa using h2'));rw[la,lb,h2]at key;exact EqAt.of_refs hab key
  ·have hx0:=hx;have hy0:=hy;rw[j9]at hx hy;obtain⟨a,xs,rfl,qa,ra⟩:=hx;obtain⟨b',ys,rfl,qb,rb⟩:=hy;cases rx;cases ry;rw[dep]at hu;by_cases hab:a=b'
   ·subst hab;have:=kU I _ hx0 hy0 e0;rw[this];exact EqAt.same _
   ·obtain⟨ia,va,pa,_⟩:=I.list (jG.of qa);obtain⟨ib,vb,pb,_⟩:=I.list (jG.of qb);have la:=(List.size_toArray (as:=ia)).trans (va.length.symm.trans ra.len);have lb:=(List.size_toArray (as:=ib)).trans (vb.length.symm.trans rb.len);split at e
    ·rename_i ell;obtain⟨e',h1,h2⟩:=Km (fun d hd=>i2 _ rfl d hd) e ra rb va vb (A:=A.in1) (by rw[in1_units];lia);have key:=RcAt.lists (A:=A) (s:=s) (l:=a) (b:=b') (items:=ia.toArray) (items2:=ib.toArray) (e:=e') pa.isList pb.isList (by rw[la,lb,ell]) (by lia) (fun j h1' h2'=>by simpa using h1 j (by simpa using h1') (by simpa using h2'));rw[la]at key;rw[<-ell,Nat.min_self]at h2;rw[h2]at key;exact EqAt.of_refs hab key
    ·rename_i ell;cases e;exact EqAt.of_refs hab (RcAt.lists_lengths pa.isList pb.isList (by rw[la,lb];simpa using ell) (by lia))
  ·cases e;rw[j9]at hx hy;subst hx hy;cases rx;cases ry;exact EqAt.same _
  ·cases e;rw[j9]at hx;rw[j9]at hy;subst hx;cases rx;obtain⟨b',ys,rfl,qb,rb⟩:=hy;cases ry;obtain⟨ib,vb,pb,_⟩:=I.tuple qb;exact EqAt.none_tuple pb (by lia)
  ·cases e;rw[j9]at hx;rw[j9]at hy;subst hy;cases ry;obtain⟨b',ys,rfl,qb,rb⟩:=hx;cases rx;obtain⟨ib,vb,pb,_⟩:=I.tuple qb;exact EqAt.tuple_none pb (by lia)
  ·cases e;rw[j9]at hx hy;subst hx hy;obtain⟨t,rfl⟩:=rx;obtain⟨t',rfl⟩:=ry;exact EqAt.int_int _ _ _ _
  ·cases e;rw[j9]at hx hy;subst hx hy;cases rx;cases ry;exact EqAt.bool_bool _ _
  ·cases e;rw[j9]at hx hy;subst hx hy;obtain⟨t,rfl⟩:=rx;obtain⟨t',rfl⟩:=ry;exact EqAt.str_str _ _ _ _
  ·cases e
@[simp] noncomputable def vY:D->D->Bool
 | .lst _,.lst _=>true
 | .tup _,.tup _=>true
 | _,_=>false
def gE(K:Fr)(neg:Bool):R2:=fun x y H Q=>∃d d' r,j9 K H d x/\j9 K H d' y/\vY d d'=true/\yC d d'=some r/\dep d<=20/\Q (.bl (if neg then !r else r)) H
set_option tactic.hygienic true in
theorem ck(I:Inv X pins U H s){d d':D}{x y:V}{u v:Value}{A:Around}{r:Bool}(e:yC d d'=some r)(q:vY d d'=true)(hx:j9 X.K H d x)(hy:j9 X.K H d' y)(rx:jB x u)(ry:jB y v)(hu:A.units+dep d < cLine):RcAt A s u v r/\RcNeAt A s u v (!r):=by
 unfold vY at q;split at q
 ·rw[j9]at hx hy;obtain⟨a,xs,rfl,qa,ra⟩:=hx;obtain⟨b',ys,rfl,qb,rb⟩:=hy;cases rx;cases ry;rw[dep]at hu;rw[yC]at e;obtain⟨ia,va,pa,_⟩:=I.list (jG.of qa);obtain⟨ib,vb,pb,_⟩:=I.list (jG.of qb);have la:=(List.size_toArray (as:=ia)).trans (va.length.symm.trans ra.len);have lb:=(List.size_toArray (as:=ib)).trans (vb.length.symm.trans rb.len);split at e
  ·rename_i ell;obtain⟨e',h1,h2⟩:=Km (fun d _=>cj I d) e ra rb va vb (A:=A.in1) (by rw[in1_units];lia);have key:=RcAt.lists (A:=A) (s:=s) (l:=a) (b:=b') (items:=ia.toArray) (items2:=ib.toArray) (e:=e') pa.isList pb.isList (by rw[la,lb,ell]) (by lia) (fun j h1' h2'=>by simpa using h1 j (by simpa using h1') (by simpa using h2'));have key2:=RcNeAt.lists (A:=A) (s:=s) (l:=a) (b:=b') (items:=ia.toArray) (items2:=ib.toArray) (e:=e') pa.isList pb.isList (by rw[la,lb,ell]) (by lia) (fun j h1' h2'=>by simpa using h1 j (by simpa using h1') (by simpa using h2'));rw[la]at key key2;rw[<-ell,Nat.min_self]at h2;rw[h2]at key key2;exact⟨key,key2⟩
  ·rename_i ell;cases e;exact⟨RcAt.lists_lengths pa.isList pb.isList (by rw[la,lb];simpa using ell) (by lia),RcNeAt.lists_lengths pa.isList pb.isList (by rw[la,lb];simpa using ell) (by lia)⟩
 ·rw[j9]at hx hy;obtain⟨a,xs,rfl,qa,ra⟩:=hx;obtain⟨b',ys,rfl,qb,rb⟩:=hy;cases rx;cases ry;rw[dep]at hu;rw[yC]at e;obtain⟨b,e1,e2⟩:=j3 e;cases e2;obtain⟨ia,va,pa,_⟩:=I.tuple qa;obtain⟨ib,vb,pb,_⟩:=I.tuple qb;have la:=(List.size_toArray (as:=ia)).trans (va.length.symm.trans ra.len);have lb:=(List.size_toArray (as:=ib)).trans (vb.length.symm.trans rb.len);obtain⟨e',h1,h2⟩:=Km (fun d _=>cj I d) e1 ra rb va vb (A:=A.in1) (by rw[in1_units];lia);have key:=RcAt.tuples (A:=A) (s:=s) (l:=a) (b:=b') (items:=ia.toArray) (items2:=ib.toArray) (e:=e') pa pb (by lia) (fun j h1' h2'=>by simpa using h1 j (by simpa using h1') (by simpa using h2'));have key2:=RcNeAt.tuples (A:=A) (s:=s) (l:=a) (b:=b') (items:=ia.toArray) (items2:=ib.toArray) (e:=e') pa pb (by lia) (fun j h1' h2'=>by simpa using h1 j (by simpa using h1') (by simpa using h2'));rw[la,lb,h2]at key key2;exact⟨key,key2⟩
 ·cases q
def cm{k:Nat}(hr:Room k X.A):J0 X (compareOp .Eq) (gE X.K false):=by
 intro pins s U H x y v u Q I rx ry h;obtain⟨d,d',r,hx,hy,q,e,hd,qq⟩:=h;have hu:=hr.units;exact(ck (A:=X.A) I e q hx hy rx ry (by lia)).1 X.prog X.w X.xe _ ⟨.bl r,H,I,rfl,qq⟩
def cn{k:Nat}(hr:Room k X.A):J0 X (compareOp .NotEq) (gE X.K true):=by
 intro pins s U H x y v u Q I rx ry h;obtain⟨d,d',r,hx,hy,q,e,hd,qq⟩:=h;have hu:=hr.units;exact(ck (A:=X.A) I e q hx hy rx ry (by lia)).2 X.prog X.w X.xe _ ⟨.bl (!r),H,I,rfl,qq⟩
@[simp] def uK(neg:Bool):D->D->Option D:=fun a b=>if vY a b=true/\dep a<=20 then(yC a b).bind fun r=>some (.bl (if neg then !r else r))else none
set_option tactic.hygienic true in
theorem ao{neg:Bool}:Ju K (gE K neg) (uK neg):=by
 intro O H a b d x y Q ha hb hn e q;unfold uK at e;split at e
 ·rename_i hh;obtain⟨r,e1,e2⟩:=j3 e;cases e2;exact⟨a,b,r,ha.full,hb.full,hh.1,e1,hh.2,q _ H (j5.refl H) (by rw[j9])⟩
 ·cases e
@[simp] def jH(a b:D):Option D:=if vY a b=true then uK false a b else KQ a b
@[simp] def Jv(a b:D):Option D:=if vY a b=true then uK true a b else xM a b
def Fx:Ju K (fun x y H Q=>XE x y H Q \/ gE K false x y H Q) jH:=by
 intro O H a b d x y Q ha hb hn e q;unfold jH at e;split at e
 ·exact .inr (ao O H a b d x y Q ha hb hn e q)
 ·exact .inl (DV O H a b d x y Q ha hb hn e q)
def Fy:Ju K (fun x y H Q=>XF x y H Q \/ gE K true x y H Q) Jv:=by
 intro O H a b d x y Q ha hb hn e q;unfold Jv at e;split at e
 ·exact .inr (ao O H a b d x y Q ha hb hn e q)
 ·exact .inl (DW O H a b d x y Q ha hb hn e q)
def cq{k:Nat}(hr:Room k X.A):J0 X (compareOp .Eq) (fun x y H Q=>XE x y H Q \/ gE X.K false x y H Q):=Dq.or (cm hr)
def cr{k:Nat}(hr:Room k X.A):J0 X (compareOp .NotEq) (fun x y H Q=>XF x y H Q \/ gE X.K true x y H Q):=Dr.or (cn hr)
variable {e:Expr} {de:DE} {pos p p1 p2 tp:Pos}
@[simp] noncomputable def wc:D->Option D
 | .bl _=>some (.bl true)
 | _=>none
set_option tactic.hygienic true in
theorem eY{e2:Expr}(h:PE X (.Call (.Name "isinstance" p) [e,e2] [] pos) (Q0 Bw (yH (tR K de) (yH (tC (.ty "bool")) ZU)))):PE X (.Call (.Name "isinstance" p) [e,e2] [] pos) (tE K (d1 wc de)):=jz h fun U H Q xx=>by
 obtain⟨H0,O0,Z,O,d,R,ed,q⟩:=xx;obtain⟨x,e1,e2⟩:=j3 ed;unfold wc at e2;split at e2
 ·rename_i b;cases e2;exact⟨H0,O0,Z,O,_,R,e1,fun v H' s r=>⟨b,by rw[r.bl],q _ H' s (by rw[j9])⟩⟩
 ·cases e2
end
@[simp] noncomputable def vM(f:Str)(d:D):List Str->List D->List Str×List D
 | g::ns,x::xs=>if g=f then(g::ns,d::xs)else((g::(vM f d ns xs).1),x::(vM f d ns xs).2)
 | _,_=>([f],[d])
section
variable {X:Cx} {K:Fr}
theorem wd{H:Hp}{f:Str}{d:D}{v:V}(r:j9 K H d v):∀{ns:List Str} {ds:List D} {vs:List V},ns.length=vs.length->j0 K H ds vs->∃vs',yT f v (ns.zip vs)=(vM f d ns ds).1.zip vs'/\(vM f d ns ds).1.length=vs'.length/\j0 K H (vM f d ns ds).2 vs'
 | [],ds,vs,h,rp=>by
  have e:vs=[]:=List.length_eq_zero_iff.mp h.symm;subst e;have e:ds=[]:=by have:=rp.len;exact List.length_eq_zero_iff.mp this.symm
  subst e;exact⟨[v],rfl,rfl,j0.cons r j0.nil⟩
 | g::ns,[],vs,h,rp=>by rw[j0]at rp;subst rp;cases h
 | g::ns,x::ds,vs,h,rp=>by
  rw[j0]at rp;obtain⟨w,t,rfl,a,b⟩:=rp;rw[vM];by_cases e:g=f
  ·rw[if_pos e];refine⟨v::t,?_,by simpa using h,j0.cons r b⟩;show(if g=f then(g,v)::ns.zip t else _)=_;rw[if_pos e];rfl
  ·rw[if_neg e];obtain⟨vs',q1,q2,q3⟩:=wd (f:=f) r (ns:=ns) (ds:=ds) (vs:=t) (by simpa using h) b;refine⟨w::vs',?_,by simpa using q2,j0.cons a q3⟩;show(if g=f then _ else(g,w)::yT f v (ns.zip t))=_;rw[if_neg e,q1];rfl
variable {e o:Expr} {de:DE} {pos pos':Pos} {st:Stmt}
@[simp] def vO(i:Nat)(C:Addr)(f:Str)(de:DE)(Z:je):Option Rs:=match Z[i]? with
 | some (.ow q (.ins C' ns ds))=>if C'=C/\ns.length < 1000 then(de Z).bind fun d=>some (.nx (Z.set i (.ow q (.ins C' (vM f d ns ds).1 (vM f d ns ds).2))))else none
 | _=>none
set_option tactic.hygienic true in
theorem cu{i:Nat}{C:Addr}{f:Str}(h:PS X st (Bf X.K (yx i) (tE K de) f))(c:Cls K C)(n:Yo K C f)(hK:X.K=K:=by rfl):PS X st (tS K (vO i C f de)):=Jt h fun D U H xx=>by
 obtain⟨H0,O0,Z,O,r,R,ed,fi⟩:=xx;subst hK;unfold vO at ed;split at ed
 ·rename_i q C' ns ds hi;split at ed
  ·rename_i hh;obtain⟨rfl,hlen⟩:=hh;obtain⟨d,e1,e2⟩:=j3 ed;cases e2;obtain⟨l,hq,hs,⟨dx,vs,hl,hn,rp⟩,lo,h0⟩:=R.ow i _ _ hi;refine⟨H0,O0,Z,O,d,R,e1,fun v H1 s1 rv=>⟨_,hs,l,_,dx,_,rfl,s1 _ _ hl,c,n,?_,?_⟩⟩
   ·rw[List.length_zip,<-hn,Nat.min_self];exact hlen
   have R':=R.grow s1;obtain⟨vs',p1,p2,p3⟩:=wd (f:=f) rv hn (rp.same (jc s1));refine fi _ _ O (R'.change hi hq hs lo h0 ⟨dx,vs',by rw[jV,p1],p2,p3⟩) ?_;rw[Ja lo];exact jc s1
  ·cases ed
 ·cases ed
@[simp] noncomputable def ZW(ks:List Bool)(ds:List D)(n:Nat):je:=List.zipWith (fun k d=>if k=true then Sl.cl d else Sl.bo d) ks ds++List.replicate n .un
theorem yA.get{O:List Addr}{H:Hp}:∀{ks:List Bool} {ds:List D} {vs:List V} {i:Nat} {d:D},yA K O H ks ds vs->ds[i]?=some d->∃k v,ks[i]?=some k/\vs[i]?=some v/\AK K O H k d v
 | [],[],[],_,_,_,e=>by simp at e
 | k::_,d::_,v::_,0,_,h,e=>by simp at e;subst e;exact⟨k,v,rfl,rfl,h.1⟩
 | k::_,d::_,v::_,i+1,d',h,e=>by
  obtain⟨k',v',h1,h2,h3⟩:=yA.get (i:=i) h.2 (by simpa using e);exact⟨k',v',by simpa using h1,by simpa using h2,h3⟩
 | [],[],_::_,_,_,h,_=>h.elim
 | [],_::_,_,_,_,h,_=>h.elim
 | _::_,[],_,_,_,h,_=>h.elim
 | _::_,_::_,[],_,_,h,_=>h.elim
def Y9{O:List Addr}{H:Hp}{ks:List Bool}{ds:List D}{vs:List V}{n i:Nat}{s:Sl}(h:yA K O H ks ds vs)(hs:s≠.un)(e:(ZW ks ds n)[i]?=some s):∃k d v,vs[i]?=some v/\AK K O H k d v/\s=(if k=true then Sl.cl d else Sl.bo d):=by
 unfold ZW at e;have hl:=h.len;by_cases hi:i < ds.length
 ·rw[uRa (by rw[List.length_zipWith];lia),List.getElem?_zipWith]at e;have hd:ds[i]?=some ds[i]:=by simp[hi]
  obtain⟨k,v,h1,h2,h3⟩:=h.get hd;rw[h1,hd]at e;cases e;exact⟨k,_,v,h2,h3,rfl⟩
 ·rw[List.getElem?_append_right (by rw[List.length_zipWith];lia),List.getElem?_replicate]at e;split at e
  ·cases e;exact vDa rfl hs
  ·cases e
def xR{O:List Addr}{H:Hp}{ks:List Bool}{ds:List D}{vs:List V}{n:Nat}(h:yA K O H ks ds vs)(al:∀a∈O,H a≠none):Rel K H O (ZW ks ds n) (vs.map some++List.replicate n none) H O:=by
 have hl:=h.len;have at':∀{i:Nat} {v:V},vs[i]?=some v->(vs.map some++List.replicate n none)[i]?=some (some v):=fun {i v} e=>by
  have:=(uSa e).1;rw[uRa (by rw[vYa];exact this),uAa,e];rfl
 refine⟨?_,fun a h=>h,fun a h=>.inl h,al,al,j5.refl _,?_,?_,?_,?_,?_⟩
 ·unfold ZW;rw[vZa,vZa,vYa,List.length_replicate,List.length_replicate,List.length_zipWith]
  lia
 ·intro i d e;obtain⟨k,d',v,h1,h2,h3⟩:=Y9 h (by intro z;cases z) e;cases k with
  | true=>cases h3;exact⟨v,at' h1,h2⟩
  | false=>cases h3
 ·intro i d e;obtain⟨k,d',v,h1,h2,h3⟩:=Y9 h (by intro z;cases z) e;cases k with
  | true=>cases h3
  | false=>cases h3;exact⟨v,at' h1,h2⟩
 ·intro i q o e;obtain⟨k,d',v,h1,h2,h3⟩:=Y9 h (by intro z;cases z) e;cases k <;> cases h3
 ·intro i j q q' o o' l e;obtain⟨k,d',v,h1,h2,h3⟩:=Y9 h (by intro z;cases z) e;cases k <;> cases h3
 ·intro i ls e;obtain⟨k,d',v,h1,h2,h3⟩:=Y9 h (by intro z;cases z) e;cases k <;> cases h3
@[simp] def Jh(ks:List Bool)(n:Nat)(body:DS):List D->Option D:=fun ds=>(body (ZW ks ds n)).bind fun r=>match r with
 | .rt d=>some d
 | .rf o=>some o.toD
 | .nx _=>some .non
 | _=>none
@[simp] def Gu(ks:List Bool)(n:Nat)(body:DS):List D->Option OD:=fun ds=>(body (ZW ks ds n)).bind fun r=>match r with
 | .rf o=>some o
 | _=>none
@[simp] def Qh(C:Addr)(ks:List Bool)(n:Nat)(body:DS):Addr->List D->Option OD:=fun p ds=>(body (.ow (some p) (.ins C [] [])::ZW ks ds n)).bind fun r=>match r with
 | .nx Z=>(match (Z[0]?:Option Sl)with
  | some (Sl.ow q o)=>if q=some p then some o else none
  | _=>none)
 | _=>none
variable {P:Program} {w:World} {mg:Str->Option Value} {base:Heap} {x qual:Str} {f:Addr} {fd:FuncData} {N ps:List Str} {k n:Nat} {ks:List Bool} {body:DS}
def Fz(F:Fun K x qual st f fd)(S:FnScope N ps (defScope st))(hk:ks.length=ps.length)(hn:N.length - ps.length=n)
  (hb:∀(cdv:Value) (A:Around) (outer:List Env) (s:Shared) (H:Hp) (E:XK),Room k (A.deeper (envOfC qual (defScope st) s.heap.objs.size f cdv))->Jn (Zc Y7 P w K mg base N qual (defScope st) f cdv A outer s H E).nox (defBody st) (tS K body)):
  FnOk P w K mg base Y7 (k+1) f fd ps (kT K ks (Jh ks n body)):=by
 refine F.ok S (fun vs H Q E h=>?_) fun cdv A outer s H vs Q E hr h=>?_
 ·obtain⟨O,ds,d,_,ak,_⟩:=h;have:=ak.len
  lia
 ·obtain⟨O,ds,d,al,ak,e,q⟩:=h;refine⟨_,hb cdv A outer s H E hr,?_⟩;obtain⟨r,e1,e2⟩:=j3 e;have hl:N.length - vs.length=n:=by have:=ak.len;lia
  unfold L2.Yw;rw[hl];refine⟨H,O,_,O,r,xR ak al,e1,?_⟩;cases r with
  | rt d'=>cases e2;exact fun v H' s r=>q v H' s r
  | rf o=>
   cases e2;exact fun l H' s hl ow=>q _ H' s ((ow.same (fun _ z=>z) (JE fun a h=>wMa _ h)).rep fun u z=>by rw[jR (fun y=>al l y hl)];exact z)
  | nx Z=>cases e2;exact fun U' H' O' R' _=>q _ H' R'.keep (by rw[j9])
  | bk Z=>cases e2
  | ct Z=>cases e2
def FA(F:Fun K x qual st f fd)(S:FnScope N ps (defScope st))(hk:ks.length=ps.length)(hn:N.length - ps.length=n)
  (hb:∀(cdv:Value) (A:Around) (outer:List Env) (s:Shared) (H:Hp) (E:XK),Room k (A.deeper (envOfC qual (defScope st) s.heap.objs.size f cdv))->Jn (Zc Y7 P w K mg base N qual (defScope st) f cdv A outer s H E).nox (defBody st) (tS K body)):
  FnOk P w K mg base Y7 (k+1) f fd ps (Qf K ks (Gu ks n body)):=by
 refine F.ok S (fun vs H Q E h=>?_) fun cdv A outer s H vs Q E hr h=>?_
 ·obtain⟨O,ds,d,_,ak,_⟩:=h;have:=ak.len
  lia
 ·obtain⟨O,ds,d,al,ak,e,q⟩:=h;refine⟨_,hb cdv A outer s H E hr,?_⟩;obtain⟨r,e1,e2⟩:=j3 e;have hl:N.length - vs.length=n:=by have:=ak.len;lia
  unfold L2.Yw;rw[hl];refine⟨H,O,_,O,r,xR ak al,e1,?_⟩;cases r with
  | rt d'=>cases e2
  | rf o=>cases e2;exact q
  | nx Z=>cases e2
  | bk Z=>cases e2
  | ct Z=>cases e2
set_option tactic.hygienic true in
theorem FB{C:Addr}(F:Fun K x qual st f fd)(S:FnScope N ps (defScope st))(hk:ks.length+1=ps.length)(hn:N.length - ps.length=n)
  (hb:∀(cdv:Value) (A:Around) (outer:List Env) (s:Shared) (H:Hp) (E:XK),Room k (A.deeper (envOfC qual (defScope st) s.heap.objs.size f cdv))->Jn (Zc Y7 P w K mg base N qual (defScope st) f cdv A outer s H E).nox (defBody st) (tS K body)):
  FnOk P w K mg base Y7 (k+1) f fd ps (ae K C ks (Qh C ks n body)):=by
 refine F.ok S (fun vs H Q E h=>?_) fun cdv A outer s H vs Q E hr h=>?_
 ·obtain⟨O,ds,p,dx,vs',o,rfl,_,_,_,ak,_⟩:=h;have:=ak.len;rw[vXa]
  lia
 ·obtain⟨O,ds,p,dx,vs',o,rfl,al,hp,hpO,ak,e,q⟩:=h;refine⟨_,hb cdv A outer s H E hr,?_⟩;obtain⟨r,e1,e2⟩:=j3 e;have hl:N.length - (V.ref p::vs').length=n:=by have:=ak.len;rw[vXa];lia
  unfold L2.Yw;rw[hl];have al':∀a∈O,j6 H [p] a≠none:=fun a ha=>by
   rw[jR (by intro z;simp at z;exact hpO (z▸ha))];exact al a ha
  have R0:=xR (n:=n) ak al';have np:j6 H [p] p=none:=ZN wNa;have sH:j5 (j6 H [p]) H:=Jj;have sd:j5 (j6 (j6 H [p]) O) (j6 H (p::O)):=fun b u z=>by
   obtain⟨z1,z2⟩:=Jg z;obtain⟨z3,z4⟩:=Jg z2;rw[jR (by intro y;rcases List.mem_cons.mp y with y | y;exact z3 (by rw[y];exact List.mem_cons_self);exact z1 y)];exact z4
  have R:Rel K (j6 H [p]) O (.ow (some p) (.ins C [] [])::ZW ks ds n) (List.map some (V.ref p::vs')++List.replicate n none) H (p::O):=by
   refine⟨?_,fun a h=>wMa _ h,?_,al',?_,sH,?_,?_,?_,?_,?_⟩
   ·have:=R0.len;rw[vXa,vWa,List.cons_append,vXa,this]
   ·intro a ha;rcases uTa ha with rfl | ha
    ·exact .inr np
    ·exact .inl ha
   ·intro a ha;rcases uTa ha with rfl | ha
    ·rw[hp];exact fun z=>nomatch z
    ·exact al a ha
   ·intro i d e;cases i with
    | zero=>cases e
    | succ i=>
     obtain⟨v,h1,h2⟩:=R0.cl i d e;exact⟨v,h1,h2.same sd⟩
   ·intro i d e;cases i with
    | zero=>cases e
    | succ i=>exact R0.bo i d e
   ·intro i q' o' e;cases i with
    | zero=>
     cases e;exact⟨p,(fun p' z=>vFa z),rfl,⟨dx,[],hp,rfl,j0.nil⟩,wNa,np⟩
    | succ i=>
     obtain⟨k',d',v,_,_,h3⟩:=Y9 ak (by intro z;cases z) e;cases k' <;> cases h3
   ·intro i j q1 q2 o1 o2 l e e';have z:∀(i:Nat) (q':Option Addr) (o':OD),(Sl.ow (some p) (.ins C [] [])::ZW ks ds n)[i]?=some (.ow q' o')->i=0:=fun i q' o' e=>by
     cases i with
     | zero=>rfl
     | succ i=>
      obtain⟨k',d',v,_,_,h3⟩:=Y9 ak (by intro z;cases z) e;cases k' <;> cases h3
    intro _ _;rw[z i _ _ e,z j _ _ e']
   ·intro i ls e;cases i with
    | zero=>cases e
    | succ i=>
     obtain⟨k',d',v,_,_,h3⟩:=Y9 ak (by intro z;cases z) e;cases k' <;> cases h3
  refine⟨j6 H [p],O,_,p::O,r,R,e1,?_⟩;cases r with
  | nx Z=>
   intro U' H' O' R' _;have e2:(match (Z[0]?:Option Sl)with
    | some (Sl.ow q o)=>if q=some p then some o else none
    | _=>none)=some o:=e2
   split at e2
   ·rename_i qq o' h0;split at e2
    ·rename_i hq;cases e2;subst hq;obtain⟨l,hl2,_,ow,lo,_⟩:=R'.ow 0 _ _ h0;have el:=hl2 p rfl;subst el;refine q H' R'.keep (ow.same (fun _ z=>z) (JE fun a ha=>?_));rcases uTa ha with rfl | ha
     ·exact lo
     ·exact R'.sub a ha
    ·cases e2
   ·cases e2
  | rt d'=>cases e2
  | rf o=>cases e2
  | bk Z=>cases e2
  | ct Z=>cases e2
end
section
variable {K:Fr} {H0 H H':Hp} {O0 O:List Addr} {Z:je} {U:L2.St}
def Yb{F:List Addr}(s:j5 H H')(hn:∀a∈F,H a=none):j5 (j6 H O) (j6 H' (F++O)):=fun b o h=>by
 obtain⟨h1,h2⟩:=Jg h;rw[jR fun z=>?_]
 ·exact s _ _ h2
 ·rcases uWa z with z | z
  ·rw[hn b z]at h2;cases h2
  ·exact h1 z
def yd.there(R:Rel K H0 O0 Z U H O){a:Addr}:yd Z U a->H a≠none:=fun xx=>by
 obtain⟨j,q,o,e,z⟩:=xx;obtain⟨l,_,h1,h2,_⟩:=R.ow j q o e;rw[z]at h1;cases h1;exact h2.there
def Rel.lay{F:List Addr}(R:Rel K H0 O0 Z U H O)(s:j5 H H')(hn:∀a∈F,H a=none)(hA:∀a∈F,H' a≠none):Rel K H0 O0 Z U H' (F++O) where
 len:=R.len
 sub:=fun a h=>vJa _ (R.sub a h)
 fr:=fun a ha=>(uWa ha).elim (fun z=>.inr (R.keep.none (hn a z))) (R.fr a)
 al0:=R.al0
 al:=fun a ha=>(uWa ha).elim (hA a) fun z y=>R.al a z (s.none y)
 keep:=R.keep.trans s
 cl:=fun i d e=>by obtain⟨v,a,b⟩:=R.cl i d e;exact⟨v,a,b.same (Yb s hn)⟩
 bo:=R.bo
 ow:=fun i q o e=>by obtain⟨l,z,a,b,d,f⟩:=R.ow i q o e;exact⟨l,z,a,b.same (s l) (Yb s hn),vJa _ d,f⟩
 dist:=R.dist
 lo:=R.lo.up (fun _ _ e=>⟨e,rfl⟩) (fun _ _ z=>z) (fun a h _=>⟨vJa _ h,fun u z=>s a u z⟩) (Yb s hn)
def Rel.poke{a:Addr}{u:HO}(R:Rel K H0 O0 Z U H O)(nl:∀(i:Nat) (ls:List (List D)),Z[i]?≠some (.lo ls))(ha:a∈O)(h0:H0 a=none)(nf:¬yd Z U a):Rel K H0 O0 Z U (upd H a u) O where
 len:=R.len
 sub:=R.sub
 fr:=R.fr
 al0:=R.al0
 al:=fun b hb=>by
  by_cases z:b=a
  ·rw[z,jV];exact fun z=>nomatch z
  ·rw[jq z];exact R.al b hb
 keep:=R.keep.upd h0 _
 cl:=fun i d e=>by rw[Ja ha];exact R.cl i d e
 bo:=R.bo
 ow:=fun i q o e=>by
  obtain⟨l,z,h1,h2,h3⟩:=R.ow i q o e;rw[Ja ha];exact⟨l,z,h1,h2.same (fun u y=>by rw[jq fun w=>nf ⟨i,q,o,e,by rw[<-w];exact h1⟩];exact y) (j5.refl _),h3⟩
 dist:=R.dist
 lo:=fun i ls e=>vDa e (nl i ls)
def Rel.loSet{i:Nat}{l:Addr}{ps:List Addr}{ls:List (List D)}(R:Rel K H0 O0 Z U H O)(nl:∀(j:Nat) (ls:List (List D)),j≠i->Z[j]?≠some (.lo ls))(lat:Zg K H (j6 H O) l ps ls)(nd:(l::ps).Nodup)(fp:∀a∈l::ps,a∈O/\H0 a=none/\¬yd Z U a):
  Rel K H0 O0 (Z.set i (.lo ls)) (U.set i (some (.ref l))) H O where
 len:=by rw[List.length_set,List.length_set];exact R.len
 sub:=R.sub
 fr:=R.fr
 al0:=R.al0
 al:=R.al
 keep:=R.keep
 cl:=fun j d e=>by
  rcases jr e with⟨rfl,e',_⟩ | ⟨ne,e'⟩
  ·cases e'
  ·rw[Jx ne];exact R.cl j d e'
 bo:=fun j d e=>by
  rcases jr e with⟨rfl,e',_⟩ | ⟨ne,e'⟩
  ·cases e'
  ·rw[Jx ne];exact R.bo j d e'
 ow:=fun j q o e=>by
  rcases jr e with⟨rfl,e',_⟩ | ⟨ne,e'⟩
  ·cases e'
  ·rw[Jx ne];exact R.ow j q o e'
 dist:=fun j k q1 q2 o1 o2 a e1 e2 s1 s2=>by
  rcases jr e1 with⟨rfl,e',_⟩ | ⟨n1,e1'⟩
  ·cases e'
  ·rcases jr e2 with⟨rfl,e',_⟩ | ⟨n2,e2'⟩
   ·cases e'
   ·rw[Jx n1]at s1;rw[Jx n2]at s2;exact R.dist j k q1 q2 o1 o2 a e1' e2' s1 s2
 lo:=fun j ms e=>by
  rcases jr e with⟨rfl,e',hj⟩ | ⟨ne,e'⟩
  ·cases e';refine⟨l,ps,ZO (by rw[R.len];exact hj),lat,nd,fun a ha=>⟨(fp a ha).1,(fp a ha).2.1,fun z=>(fp a ha).2.2 ?_⟩,fun k ms e2=>?_⟩
   ·exact gz (by intro _ _ z;cases z) R.len z
   ·rcases jr e2 with⟨rfl,_,_⟩ | ⟨ne,e'⟩
    ·rfl
    ·exact vDa e' (nl k ms ne)
  ·exact vDa e' (nl j ms ne)
noncomputable def fz:Sl->Sl
 | .lo ls=>.cl (.lst (ls.map D.lst))
 | s=>s
noncomputable def frz(Z:je):je:=Z.map fz
def ZP{j:Nat}{s:Sl}(e:(frz Z)[j]?=some s):(Z[j]?=some s/\∀ls,s≠.lo ls) \/∃ls,Z[j]?=some (.lo ls)/\s=.cl (.lst (ls.map D.lst)):=by
 unfold frz at e;rw[uAa]at e;cases h:Z[j]? with
 | none=>rw[h]at e;cases e
 | some t=>
  rw[h]at e;have e:=vFa e;cases t with
  | lo ls=>exact .inr ⟨ls,rfl,e.symm⟩
  | un=>exact .inl ⟨by rw[<-e];rfl,fun ls z=>by rw[z]at e;cases e⟩
  | cl d=>exact .inl ⟨by rw[<-e];rfl,fun ls z=>by rw[z]at e;cases e⟩
  | bo d=>exact .inl ⟨by rw[<-e];rfl,fun ls z=>by rw[z]at e;cases e⟩
  | ow q o=>exact .inl ⟨by rw[<-e];rfl,fun ls z=>by rw[z]at e;cases e⟩
theorem J4.reps{Hd Hd':Hp}(sd:j5 Hd Hd'):∀{as:List Addr} {ls:List (List D)},(∀a∈as,Hd' a=H a)->J4 K Hd H as ls->j0 K Hd' (ls.map D.lst) (as.map V.ref)
 | [],[],_,_=>j0.nil
 | a::as,m::r,s,h=>by
  obtain⟨⟨vs,h1,h2⟩,h3⟩:=h;refine j0.cons ?_ (J4.reps sd (fun b hb=>s b (wMa _ hb)) h3);rw[j9];exact⟨a,vs,rfl,by rw[s a List.mem_cons_self];exact h1,h2.same sd⟩
 | [],_::_,_,h=>h.elim
 | _::_,[],_,h=>h.elim
def Rel.frz(R:Rel K H0 O0 Z U H O):∃O',Rel K H0 O0 (frz Z) U H O'/\(∀a∈O,a∈O' \/∃vs,H a=some (.lst vs))/\∀a∈O',a∈O:=by
 obtain⟨fp,f1,f2⟩:∃fp:List Addr,(∀a∈fp,H0 a=none/\¬yd Z U a/\∃vs,H a=some (.lst vs))/\∀(i:Nat) (ls:List (List D)),Z[i]?=some (.lo ls)->∃l ps,U[i]?=some (some (.ref l))/\Zg K H (j6 H O) l ps ls/\∀a∈l::ps,a∈fp:=by
  by_cases hl:∃(i:Nat) (ls:List (List D)),Z[i]?=some (.lo ls)
  ·obtain⟨i,ls,hi⟩:=hl;obtain⟨l,ps,hs,a1,_,fp,un⟩:=R.lo i ls hi;refine⟨l::ps,fun a ha=>⟨(fp a ha).2.1,(fp a ha).2.2,a1.at a ha⟩,fun j ms e=>?_⟩;have:=un j ms e;subst this;rw[hi]at e;cases e;exact⟨l,ps,hs,a1,fun a h=>h⟩
  ·exact⟨[],(fun a h=>by cases h),fun i ls e=>vDa ⟨i,ls,e⟩ hl⟩
 have ss:j5 (j6 H O) (j6 H (O.filter fun a=>decide (a∉fp))):=JE fun a h=>(uUa h).1;have out:∀a∈fp,j6 H (O.filter fun a=>decide (a∉fp)) a=H a:=fun a ha=>jR fun z=>by simpa[ha]using (uUa z).2
 refine⟨O.filter fun a=>decide (a∉fp),⟨?_,fun a h=>List.mem_filter.mpr ⟨R.sub a h,vAa fun z=>R.al0 a h (f1 a z).1⟩,fun a h=>R.fr a (uUa h).1,R.al0,fun a h=>R.al a (uUa h).1,R.keep,?_,?_,?_,?_,?_⟩,fun a ha=>if h:a∈fp then .inr (f1 a h).2.2 else .inl (List.mem_filter.mpr ⟨ha,vAa h⟩),fun a h=>(uUa h).1⟩
 ·unfold DS.frz;rw[vYa];exact R.len
 ·intro i d e;rcases ZP e with⟨e,_⟩ | ⟨ls,e9,z⟩
  ·obtain⟨v,a,b⟩:=R.cl i d e;exact⟨v,a,b.same ss⟩
  ·cases z;obtain⟨l,ps,hs,⟨h1,h2⟩,hin⟩:=f2 i ls e9;refine⟨_,hs,?_⟩;rw[j9];exact⟨l,_,rfl,by rw[out l (hin l List.mem_cons_self)];exact h1,h2.reps ss fun a ha=>out a (hin a (wMa _ ha))⟩
 ·intro i d e;rcases ZP e with⟨e,_⟩ | ⟨ls,e,z⟩
  ·exact R.bo i d e
  ·cases z
 ·intro i q o e;rcases ZP e with⟨e,_⟩ | ⟨ls,e,z⟩
  ·obtain⟨l,z,a,b,d,f⟩:=R.ow i q o e;exact⟨l,z,a,b.same (fun _ z=>z) ss,List.mem_filter.mpr ⟨d,vAa fun y=>(f1 l y).2.1 ⟨i,q,o,e,a⟩⟩,f⟩
  ·cases z
 ·intro i j q q' o o' l e e';rcases ZP e with⟨e,_⟩ | ⟨ls,e,z⟩
  ·rcases ZP e' with⟨e',_⟩ | ⟨ls,e',z⟩
   ·exact R.dist i j q q' o o' l e e'
   ·cases z
  ·cases z
 ·intro i ls e;rcases ZP e with⟨_,z⟩ | ⟨_,_,z⟩
  ·exact vDa rfl (z ls)
  ·cases z
end
mutual
@[simp] noncomputable def Ws:D->Bool
 | .non=>true
 | .bl _=>true
 | .int _=>true
 | .str _=>true
 | .tup l=>YL l
 | _=>false
@[simp] noncomputable def YL:List D->Bool
 | []=>true
 | d::ds=>Ws d&&YL ds
end
mutual
theorem we{K:Fr}{H H':Hp}(k:VJ H H'):∀{d:D} {v:V},Ws d=true->j9 K H d v->j9 K H' d v
 | .non,_,_,h=>by rw[j9]at h⊢;exact h
 | .bl _,_,_,h=>by rw[j9]at h⊢;exact h
 | .int _,_,_,h=>by rw[j9]at h⊢;exact h
 | .str _,_,_,h=>by rw[j9]at h⊢;exact h
 | .tup l,_,n,h=>by
  rw[j9]at h⊢;obtain⟨a,xs,rfl,q,r⟩:=h;rw[Ws]at n;exact⟨a,xs,rfl,k.sqT q,vP k n r⟩
 | .lst _,_,n,_=>by simp at n
 | .ins _ _ _,_,n,_=>by simp at n
 | .scr _,_,n,_=>by simp at n
 | .dct _ _,_,n,_=>by simp at n
theorem vP{K:Fr}{H H':Hp}(k:VJ H H'):∀{ds:List D} {vs:List V},YL ds=true->j0 K H ds vs->j0 K H' ds vs
 | [],_,_,h=>by rw[j0]at h⊢;exact h
 | d::ds,_,n,h=>by
  rw[j0]at h;obtain⟨v,r,rfl,a,b⟩:=h;rw[YL,Bool.and_eq_true]at n;exact j0.cons (we k n.1 a) (vP k n.2 b)
end
section
variable {X:Cx} {K:Fr} {e:Expr} {de:DE}
def eZ{dt:DT}(h:PT X e (tT K dt)):PT X e (tT K fun Z=>dt (frz Z)):=Gg h fun U H Q xx=>by
 obtain⟨H0,O0,Z,O,b,R,ed,q⟩:=xx;obtain⟨O',R',_⟩:=R.frz;exact⟨H0,O0,_,O',b,R',ed,q⟩
def JV(d:D):Option D:=if Ws d=true then some d else none
def Qi{H H':Hp}{O O':List Addr}(f:∀a∈O,a∈O' \/∃vs,H a=some (.lst vs))(s:j5 H H')(F:List Addr):VJ (j6 H' (F++O')) (j6 H' (F++O)):=fun b o i h=>by
 obtain⟨h1,h2⟩:=Jg h;rw[jR fun z=>?_]
 ·exact h2
 ·rcases uWa z with z | z
  ·exact h1 (vIa _ z)
  ·rcases f b z with z | ⟨vs,z⟩
   ·exact h1 (vJa _ z)
   ·rw[s _ _ z]at h2;cases h2;cases i
set_option tactic.hygienic true in
theorem Kn(h:PE X e (tE K de)):PE X e (tE K fun Z=>(de (frz Z)).bind JV):=jz h fun U H Q xx=>by
 obtain⟨H0,O0,Z,O,d,R,ed,q⟩:=xx;obtain⟨d',e1,e2⟩:=j3 ed;obtain⟨O',R',f,_⟩:=R.frz;unfold JV at e2;split at e2
 ·rename_i ht;cases e2;exact⟨H0,O0,_,O',_,R',e1,fun v H' s r=>q v H' s (we (Qi f s []) ht r)⟩
 ·cases e2
def vQ(o:OD):Option OD:=match o with
 | .lst m=>if YL m=true then some (.lst m)else none
 | _=>none
set_option tactic.hygienic true in
theorem e_{df:DO}(h:PE X e (tF K df)):PE X e (tF K fun Z=>(df (frz Z)).bind vQ):=jz h fun U H Q xx=>by
 obtain⟨H0,O0,Z,O,d,R,ed,q⟩:=xx;obtain⟨d',e1,e2⟩:=j3 ed;obtain⟨O',R',f,_⟩:=R.frz;cases d' with
 | lst m=>
  unfold vQ at e2;dsimp only at e2;split at e2
  ·rename_i ht;cases e2;refine⟨H0,O0,_,O',_,R',e1,fun l H' s hn ow=>q l H' s hn ?_⟩;obtain⟨vs,h1,h2⟩:=ow;exact⟨vs,h1,vP (Qi f s [l]) ht h2⟩
  ·cases e2
 | _=>cases e2
def E1{st:Stmt}{ds:DS}(h:PS X st (tS K ds)):PS X st (tS K fun Z=>ds (frz Z)):=Jt h fun D U H xx=>by
 obtain⟨H0,O0,Z,O,r,R,ed,f⟩:=xx;obtain⟨O',R',_,g⟩:=R.frz;refine⟨H0,O0,_,O',r,R',ed,f.mono (JE g)⟩
end
end DS
namespace L2
open PySem PySem.Spec PyProof.Rows
def yX(h:Heap)(d:Addr)(es:Array DictEntry)(ep:Nat):Prop:=∃o,h.get? d=some o/\o.ExactDict/\o.data=.dict es ep
def yX.ty{s:Shared}{d:Addr}{es:Array DictEntry}{ep:Nat}(m:yX s.heap d es ep):s.TypeIs (.ref d) "dict" := let ⟨o,g,c,_⟩:=m;⟨o,g,c.1⟩
def yX.at{h h':Heap}{d:Addr}{es:Array DictEntry}{ep:Nat}(m:yX h d es ep)(e:∀o,h.get? d=some o->h'.get? d=some o):yX h' d es ep:=let ⟨o,g,c⟩:=m;⟨o,e _ g,c⟩
section
variable {prog:Program} {w:World} {A:Around} {E:Value->Shared->Prop} {s:Shared} {d it:Addr} {es:Array DictEntry} {ep i:Nat}
def xS{Q:Value->Shared->Prop}(hd:(d==sysModules)=false)(m:yX s.heap d es ep)
  (q:Q (.ref s.heap.objs.size) { s with heap:=s.heap.push { cls:=.type "dict_keyiterator",data:=.fields #[.ref d,.int 0 0,.int es.size 0,.int ep 0] } }):wpAny (model prog w) A (pyIter (.ref d)) Q E s:=by
 have ty:=m.ty;obtain⟨o,g,c,dt⟩:=m;refine wpAny_pyIter_slot ty F.slot_dict_iter (wpAny_call_entry F.slot_dict_iter ty F.entry_dict_iter (wAa (wAa (wpAny_notOrdered_dict ty ?_))) (F.args_dict_iter_1 _));refine(show wpAny _ _ (pure (Value.ref d)) _ _ s from wBa (show wpAny _ _ (Builtin.Dict.showsAll d >>= _) _ _ s from ?_));unfold Builtin.Dict.showsAll;rw[if_neg (by rw[hd];decide)];refine wAa (wBa (wAa (wpAny_dictEntries g dt (wAa (wpAny_dictEpoch g dt (wAa (vTa (wBa ⟨_,rfl, "dict_keyiterator",_,⟨_,wJa _ rfl,rfl⟩,F.slot_dict_keyiterator_next.lookup,?_⟩))))))));simpa[rawInt]using q
def xT{e:DictEntry}{Q:Option Value->Shared->Prop}(k:s.heap.IsKeyIter it d i es.size ep)(m:yX s.heap d es ep)(x:es[i]?=some e)
  (q:∀h',h'.IsKeyIter it d (i+1) es.size ep->Heap.SameBut it s.heap h'->Q (some e.key) { s with heap:=h' }):wpAny (model prog w) A (pyNext (.ref it)) Q E s:=by
 have ty:=k.typeIs;obtain⟨o,g,c,dt⟩:=k;obtain⟨od,gd,_,dd⟩:=m;have own:Builtin.Dict_items.ownsTuple "dict_keyiterator" = false:=by decide
 unfold pyNext;refine wAa (wpAny_attempt (wpAny_callSpecial?_slot (name:=Str.ofString "__next__") ty F.slot_dict_keyiterator_next (wpAny_call_entry F.slot_dict_keyiterator_next ty F.entry_dict_keyiterator_next (wAa (wBa (wAa (wAa ?_)))) (F.args_dict_keyiterator_next_1 _))));refine wAa (wpAny_typeNameOfWhole_keyiter ty (wBa (wAa (wpAny_fieldsOf g dt ?_))));simp only[own,Bool.false_eq_true,if_false];refine(show wpAny _ _ (if (Value.ref d==Value.none)=true then _ else _) _ _ s from ?_);rw[if_neg (fun z:(Value.ref d==Value.none)=true=>by cases z)];refine wAa (wBa (wAa (wpAny_dictEntries gd dd ?_)));rw[if_neg (by simp)];refine wAa (wBa (wAa (wpAny_dictEpoch gd dd ?_)));rw[if_neg (by simp)];refine wBa ?_;simp only[show¬((i:Int) < 0) by lia,if_false,Int.toNat_natCast,x];refine wAa (wAa (wpAny_typeNameOfWhole_keyiter ty (wBa (wAa (wpAny_isOneOf_keyiter ty ?_)))));refine(show wpAny _ _ (setField (.ref it) 1 (rawInt ((i:Int)+1)) >>= _) _ _ s from wAa (wpAny_setField g dt (by simp) ?_));have k':(s.heap.update it (Obj.mapFields (·.setIfInBounds 1 (rawInt ((i:Int)+1))))).IsKeyIter it d (i+1) es.size ep:=
  ⟨_,vUa _ g (Obj.isFreed_of_fields (Obj.data_mapFields dt _)),(Obj.cls_mapFields ..).trans c,by rw[Obj.data_mapFields dt];simp[rawInt]⟩
 refine wAa (wDa (wAa (wpAny_isOneOf_keyiter (s:={ s with heap:=s.heap.update it (Obj.mapFields (·.setIfInBounds 1 (rawInt ((i:Int)+1)))) }) k'.typeIs ?_)));exact(show wpAny _ _ (pure e.key) _ _ _ from wBa (wBa ⟨_,rfl,wBa (q _ k' (Heap.SameBut.update ..))⟩))
def AM{Q:Option Value->Shared->Prop}(hh:A.handled=none)(k:s.heap.IsKeyIter it d i es.size ep)(m:yX s.heap d es ep)(x:es.size<=i)
  (q:∀h',Heap.ExtBut it s.heap h'->Q none { s with heap:=h' }):wpAny (model prog w) A (pyNext (.ref it)) Q E s:=by
 have ty:=k.typeIs;obtain⟨o,g,c,dt⟩:=k;obtain⟨od,gd,_,dd⟩:=m;have own:Builtin.Dict_items.ownsTuple "dict_keyiterator" = false:=by decide
 unfold pyNext;refine wAa (wpAny_attempt (wpAny_callSpecial?_slot (name:=Str.ofString "__next__") ty F.slot_dict_keyiterator_next (wpAny_call_entry F.slot_dict_keyiterator_next ty F.entry_dict_keyiterator_next (wAa (wBa (wAa (wAa ?_)))) (F.args_dict_keyiterator_next_1 _))));refine wAa (wpAny_typeNameOfWhole_keyiter ty (wBa (wAa (wpAny_fieldsOf g dt ?_))));simp only[own,Bool.false_eq_true,if_false];refine(show wpAny _ _ (if (Value.ref d==Value.none)=true then _ else _) _ _ s from ?_);rw[if_neg (fun z:(Value.ref d==Value.none)=true=>by cases z)];refine wAa (wBa (wAa (wpAny_dictEntries gd dd ?_)));rw[if_neg (by simp)];refine wAa (wBa (wAa (wpAny_dictEpoch gd dd ?_)));rw[if_neg (by simp)];refine wBa ?_;simp only[show¬((i:Int) < 0) by lia,if_false,Int.toNat_natCast,Array.getElem?_eq_none x];refine wAa (wAa (wpAny_typeNameOfWhole_keyiter ty (wBa ?_)));refine(show wpAny _ _ (setField (.ref it) 0 .none >>= _) _ _ s from wAa (wpAny_setField g dt (by simp) (show wpAny _ _ (newExc (.type "StopIteration") [] >>= _) _ _ _ from wAa ?_)));simp only[newExc,newTuple];refine wAa (vTa (wAa (m:=firstArgMember _ _) (wEa (a:=Value.none) (by first | rfl | (simp only[firstArgMember];rfl)) (vTa ?_ (by size_fits)))) (by size_fits));simp only[raiseNew];refine wAa (wpAny_handled ?_);rw[show A.in1.handled=none from hh];refine wAa (wBa (wpAny_throw (wAa ?_)));exact wpAny_isInstance (T := "StopIteration") (b:=true) ⟨_,wJa _ rfl,rfl⟩ isSubtype_stop (wBa (q _ (((Heap.SameBut.update ..).extBut.push _).push _)))
end
section
variable {prog:Program} {w:World} {A:Around} {E:Value->Shared->Prop} {s:Shared} {d:Addr} {es:Array DictEntry} {ep:Nat}
def xU{Q:Value->Shared->Prop}(hd:(d==sysModules)=false)(m:yX s.heap d es ep)(q:Q (.int es.size s.toks) { s with toks:=s.toks+1 }):wpAny (model prog w) A (call (.builtin "dict.__len__") [.ref d]) Q E s:=by
 have ty:=m.ty;obtain⟨o,g,c,dt⟩:=m;refine wpAny_call_entry F.slot_dict_len ty F.entry_dict_len (wAa (wAa (wpAny_notOrdered_dict ty ?_))) (F.args_dict_len_1 _);refine(show wpAny _ _ (pure (Value.ref d)) _ _ s from wBa (wAa (wBa (wAa ?_))));refine(show wpAny _ _ (dictSize d) _ _ s from wAa (wpAny_dictEntries g dt (wBa (wAa (wpAny_pendingCount_other hd (wpAny_ret_mkInt ?_))))));simpa using q
def AN{Q:Value->Shared->Prop}(hd:(d==sysModules)=false)(m:yX s.heap d es ep)(hz:(es.size:Int) < 2 ^ 63)(q:Q (.int es.size (s.toks+1)) { s with toks:=s.toks+1+1 }):wpAny (model prog w) A (call (.builtin "len") [.ref d]) Q E s:=
 PyProof.Rows.call_len_slot (n:=es.size) m.ty F.slot_dict_len (fun Q' hq=>xU hd m hq) (by omega) (by omega) q
def xV{Q:Bool->Shared->Prop}(m:yX s.heap d es ep)(q:Q false s):wpAny (model prog w) A (Builtin.List.listLengthHint (.ref d)) Q E s:=by
 have ty:=m.ty;unfold Builtin.List.listLengthHint;refine wAa (wpAny_specialOf ty F.slot_dict_len.lookup ?_);generalize nm:("dict.__len__" : String)=id0
 wp_delta
 rw[show splitId id0=some ("dict", "__len__") from by subst nm;decide +kernel];subst nm;refine wAa (wpAny_isInstance (T := "dict") (b:=true) ty (by rw[isSubtype_type];kernel_rfl) (wpAny_ite_split (fun z=>vDa z (by decide)) fun _=>?_));exact wpAny_ite_split (fun _=>wAa (wpAny_typeOf ty (wBa q))) fun z=>vDa (by decide +kernel) z
def Qj(hh:A.handled=none)(I:Addr)(hne:d≠I):
  Walks prog w A I [I,d] [I] es.size (fun i v=>∃e,es[i]?=some e/\v=e.key) (fun i h=>h.IsKeyIter I d i es.size ep/\yX h d es ep) where
 sub:=fun b hb=>by simp at hb;simp[hb]
 frame:=fun _ _ _ st hk=>⟨st.1.at fun o e=>hk I (by simp) o e,st.2.at fun o e=>hk d (by simp) o e⟩
 item:=fun i s Q E hi st hQ=>by
  have x:es[i]?=some es[i]:=by simp[hi]
  exact xT st.1 st.2 x fun h' k' sb=>hQ _ h' s.toks ⟨_,x,rfl⟩ ⟨k',st.2.at fun o e=>sb.extBut _ o hne e⟩ fun b o hb e=>sb.extBut b o (fun z=>hb (by simp[z])) e
 done:=fun s Q E st hQ=>AM hh st.1 st.2 (wPa _) fun h' eb=>hQ h' s.toks fun b o hb e=>eb b o (fun z=>hb (by simp[z])) e
 self:=fun _ _ _ _ st hQ=>wpAny_pyIter_keyiter st.1 hQ
def xW{Q:Value->Shared->Prop}(hh:A.handled=none)(hd:(d==sysModules)=false)(m:yX s.heap d es ep)(hz:es.size<=2 ^ 24)
  (q:∀h' tk acc c,(∀b o,s.heap.get? b=some o->h'.get? b=some o)->h'.get? s.heap.objs.size=some { cls:=.type "list",data:=.seq acc c }->acc.toList=es.toList.map (·.key)->Q (.ref s.heap.objs.size) { s with heap:=h',toks:=tk }):
  wpAny (model prog w) A (call (.type "list") [.ref d]) Q E s:=by
 have dlt:d < s.heap.objs.size:=by obtain⟨o,g,_⟩:=m;exact wLa g
 refine callType_codes (Q₁:=fun obj s₁=>obj=.ref s.heap.objs.size/\s₁={ s with heap:=s.heap.push { cls:=.type "list",data:=.seq #[] } }) F.called_list (F.typeCall_list_1 _) F.entry_list_init (code_list_new _ ⟨rfl,rfl⟩) ?_;rintro obj s₁ ⟨rfl,rfl⟩;obtain⟨S,hS⟩:∃S,s.heap.objs.size=S:=⟨_,rfl⟩
 rw[hS]at q dlt⊢;have g0:(s.heap.push { cls:=.type "list",data:=.seq #[] }).get? S=some { cls:=.type "list",data:=.seq #[] }:=by rw[<-hS];exact wJa _ rfl
 have m0:yX (s.heap.push { cls:=.type "list",data:=.seq #[] }) d es ep:=m.at fun o e=>wIa _ e;have sz0:(s.heap.push { cls:=.type "list",data:=.seq #[] }).objs.size=S+1:=by rw[uPa,hS]
 have k0:∀b o,s.heap.get? b=some o->(s.heap.push { cls:=.type "list",data:=.seq #[] }).get? b=some o/\b≠S:=fun b o e=>⟨wIa _ e,wTa (by rw[<-hS];exact wLa e)⟩
 generalize s.heap.push { cls:=.type "list",data:=.seq #[] }=h0 at g0 m0 sz0 k0;refine⟨⟨_,g0,rfl⟩,F.args_list_init_2 _ _,?_⟩;have hSd:S≠d:=Ne.symm (wTa dlt);refine(show wpAny _ _ (do let old<-Builtin.List.listItems (.ref S);Builtin.List.listUpdate (.ref S) (fun _=>#[]);letGo old.toList.reverse;Builtin.List.listExtendWith (.ref S) (.ref d) .none) _ _ { s with heap:=h0 } from wAa (wAa (wpAny_seqItems g0 rfl (wBa ?_))));refine(show wpAny _ _ (updateSeq S (fun _=>#[]) >>= fun _=>letGo (#[]:Array Value).toList.reverse >>= fun _=>Builtin.List.listExtendWith (.ref S) (.ref d) .none) _ _ { s with heap:=h0 } from wAa (wpAny_updateSeq g0 rfl (wAa (wpAny_letGo ?_))));have oth:∀(h:Heap) (f:Obj->Obj) b o,b≠S->h.get? b=some o->(h.update S f).get? b=some o:=fun h f b o hb e=>(wKa _ _ (Ne.symm hb)).trans e;have g1:=vUa (Obj.mapSeq (fun _=>(#[]:Array Value))) g0 rfl;have m1:yX (h0.update S (Obj.mapSeq (fun _=>(#[]:Array Value)))) d es ep:=m0.at fun o e=>oth _ _ _ o (Ne.symm hSd) e;have sz1:(h0.update S (Obj.mapSeq (fun _=>(#[]:Array Value)))).objs.size=S+1:=by rw[Heap.size_update,sz0]
 have k1:∀b o,s.heap.get? b=some o->(h0.update S (Obj.mapSeq (fun _=>(#[]:Array Value)))).get? b=some o/\b≠S:=fun b o e=>⟨oth _ _ b o (k0 b o e).2 (k0 b o e).1,(k0 b o e).2⟩
 generalize h0.update S (Obj.mapSeq (fun _=>(#[]:Array Value)))=h1 at g1 m1 sz1 k1;have W:=(Qj (prog:=prog) (w:=w) (A:=A.in1.in1) (es:=es) (ep:=ep) hh (S+1) (d:=d) (wTa (Nat.lt_succ_of_lt dlt))).toS;have fin:∀(h:Heap) (c tk:Nat),h.IsKeyIter (S+1) d 0 es.size ep->yX h d es ep->(∀b o,s.heap.get? b=some o->h.get? b=some o)->h.get? S=some { cls:=.type "list",data:=.seq #[] c }->
   codeAny (model prog w) A.in1 (.builtin "list.extend.loop" ⟨[.ref S,.ref (S+1),.none],[]⟩) (wants (fun r s₂=>r=Value.none/\Q (.ref S) s₂) E) { s with heap:=h,toks:=tk }:=by
  intro h c tk k mm kk gS;refine codeAny_extend_loopS W (by rw[sizeLine_eq];omega) S (by simp;omega) .none es.size 0 _ #[] c rfl (Nat.zero_le _) ⟨k,mm⟩ gS (ItemsOf.nil _) fun s' acc' c' hm hS' hacc=>?_;rw[Moved.eq_with hm];refine⟨rfl,q s'.heap s'.toks acc' c' (fun b o e=>hm.heap b o (fun z=>?_) (kk b o e)) hS' ?_⟩
  ·have lt:b < S:=by rw[<-hS];exact wLa e
   simp at z;rcases z with z | z
   ·exact wTa lt z
   ·exact wTa (Nat.lt_succ_of_lt lt) z
  ·refine List.ext_getElem? fun j=>?_;rw[uAa];by_cases hj:j < acc'.size
   ·obtain⟨e,e1,e2⟩:=hacc.2 j acc'[j] (by simp[hj]);simp[hj,e1,e2]
   ·have:=hacc.1;simp[hj,show¬j < es.size by omega]
 unfold Builtin.List.listExtendWith;refine wAa (wpAny_typeOf (s:={ s with heap:=h1 }) (T := "dict") m1.ty ?_);have b1:Builtin.List.listSameRef (.ref S) (.ref d)=false:=by simp[Builtin.List.listSameRef,hSd]
 have b2:(Value.type "dict" == Value.type "list")=false:=by decide
 have b3:(Value.type "dict" == Value.type "tuple")=false:=by decide
 simp only[b1,b2,b3,Bool.or_false,Bool.false_eq_true,if_false];refine wAa (xS hd m1 ?_);have m2:yX (h1.push { cls:=.type "dict_keyiterator",data:=.fields #[.ref d,.int 0 0,.int es.size 0,.int ep 0] }) d es ep:=m1.at fun o e=>wIa _ e;have i2:(h1.push { cls:=.type "dict_keyiterator",data:=.fields #[.ref d,.int 0 0,.int es.size 0,.int ep 0] }).IsKeyIter (S+1) d 0 es.size ep:=by rw[<-sz1];exact⟨_,wJa _ rfl,rfl,rfl⟩
 have g2:=wIa { cls:=.type "dict_keyiterator",data:=.fields #[.ref d,.int 0 0,.int es.size 0,.int ep 0] } g1;have k2:∀b o,s.heap.get? b=some o->(h1.push { cls:=.type "dict_keyiterator",data:=.fields #[.ref d,.int 0 0,.int es.size 0,.int ep 0] }).get? b=some o/\b≠S:=fun b o e=>⟨wIa _ (k1 b o e).1,(k1 b o e).2⟩
 show wpAny _ _ _ _ _ { s with heap:=h1.push { cls:=.type "dict_keyiterator",data:=.fields #[.ref d,.int 0 0,.int es.size 0,.int ep 0] } };rw[show Value.ref h1.objs.size=Value.ref (S+1) from congrArg _ sz1];generalize h1.push { cls:=.type "dict_keyiterator",data:=.fields #[.ref d,.int 0 0,.int es.size 0,.int ep 0] }=h2 at m2 i2 g2 k2;refine wAa (wDa (xV (s:={ s with heap:=h2 }) m2 ?_));refine wpAny_ite_split (fun _=>?_) (fun _=>wBa ⟨plainId_quiet F.plain_extend_loop _,fin _ _ _ i2 m2 (fun b o e=>(k2 b o e).1) g2⟩);refine wAa (vQa (wAa (show wpAny _ _ (updateSeq S (·.push .none) >>= fun _=>updateSeq S (·.pop)) _ _ _ from wAa (wpAny_updateSeq g2 rfl ?_))));have g3:=vUa (Obj.mapSeq (·.push Value.none)) g2 rfl;refine wpAny_updateSeq (hz:=by seq_fits) g3 rfl ?_;have g4:=vUa (Obj.mapSeq (·.pop)) g3 rfl;have up:∀b o,b≠S->h2.get? b=some o->((h2.update S (Obj.mapSeq (·.push Value.none))).update S (Obj.mapSeq (·.pop))).get? b=some o:=fun b o hb e=>oth _ _ b o hb (oth _ _ b o hb e);exact wBa ⟨plainId_quiet F.plain_extend_loop _,fin _ _ _ (i2.at fun o e=>up _ o (by omega) e) (m2.at fun o e=>up _ o (Ne.symm hSd) e) (fun b o e=>up b o (k2 b o e).2 (k2 b o e).1) g4⟩
end
end L2
namespace DS
open PySem PySem.Spec PyProof.Rows L2
noncomputable def Zz(kvs:List (KD×Addr×V))(k:KD):Option V:=(kvs.find? fun p=>decide (p.1=k)).map (·.2.2)
def yY(kvs:List (KD×Addr×V))(k:KD)(b:Addr)(v:V):List (KD×Addr×V):=if (Zz kvs k).isSome then kvs.map (fun p=>if p.1=k then(p.1,p.2.1,v)else p)else kvs++[(k,b,v)]
abbrev yO:List (KD×Addr×V)->List (KD×Addr×Value)->Prop:=Paired fun(p:KD×Addr×V) (q:KD×Addr×Value)=>p.1=q.1/\p.2.1=q.2.1/\jB p.2.2 q.2.2
theorem yO.at{k:KD}:∀{kvs:List (KD×Addr×V)} {xs:List (KD×Addr×Value)},yO kvs xs->(∃v p,Zz kvs k=some v/\atKey xs k=some p/\jB v p.2) \/ (Zz kvs k=none/\atKey xs k=none)
 | _,_,.nil=>.inr ⟨rfl,rfl⟩
 | _,_,@Paired.cons _ _ _ p q ps qs ⟨e1,e2,r⟩ t=>by
  unfold Zz atKey;rw[List.find?_cons,List.find?_cons,e1];by_cases h:q.1=k
  ·rw[decide_eq_true h];exact .inl ⟨_,_,rfl,rfl,r⟩
  ·rw[decide_eq_false h];exact yO.at t
def yO.put{k:KD}{b:Addr}{v:V}{u:Value}(rv:jB v u){kvs:List (KD×Addr×V)}{xs:List (KD×Addr×Value)}(h:yO kvs xs):yO (yY kvs k b v) (storedH xs k b u):=by
 have mp:∀{kvs:List (KD×Addr×V)} {xs:List (KD×Addr×Value)},yO kvs xs->yO (kvs.map (fun p=>if p.1=k then(p.1,p.2.1,v)else p)) (xs.map (putAt k u)):=by
  intro kvs xs h;induction h with
  | nil=>exact .nil
  | @cons p q ps qs r t ih=>
   obtain⟨e1,e2,r⟩:=r;rw[vWa,vWa];refine .cons ?_ ih;unfold putAt;rw[e1];split
   ·exact⟨rfl,e2,rv⟩
   ·exact⟨e1,e2,r⟩
 have ap:∀{kvs:List (KD×Addr×V)} {xs:List (KD×Addr×Value)},yO kvs xs->yO (kvs++[(k,b,v)]) (xs++[(k,b,u)]):=by
  intro kvs xs h;induction h with
  | nil=>exact .cons ⟨rfl,rfl,rv⟩ .nil
  | cons r t ih=>exact .cons r ih
 unfold yY storedH;rcases h.at (k:=k)with⟨w,p,e1,e2,_⟩ | ⟨e1,e2⟩
 ·rw[e1,e2];exact mp h
 ·rw[e1,e2];exact ap h
def gF(kvs:List (KD×Addr×V))(k:KD)(b:Addr)(v:V):(yY kvs k b v).length<=kvs.length+1:=by
 unfold yY;split <;> simp
section
variable {X:Cx} {pins:List (Addr×Obj)} {U:L2.St} {H:Hp} {s:Shared}
mutual
theorem Wt(I:Inv X pins U H s):∀{d:D} {k:KD} {v:V} {u:Value},j9 X.K H d v->jB v u->yI d=some k->jy s.heap k u
 | .int i,k,v,u,h,r,e=>by
  rw[yI]at e;cases e;rw[j9]at h;subst h;rw[jy];exact .inl r
 | .bl i,k,v,u,h,r,e=>by
  rw[yI]at e;cases e;rw[j9]at h;subst h;rw[jy];exact .inr ⟨i,r,rfl⟩
 | .str i,k,v,u,h,r,e=>by
  rw[yI]at e;cases e;rw[j9]at h;subst h;rw[jy];exact r
 | .tup l,k,v,u,h,r,e=>by
  rw[yI]at e;obtain⟨ks,e1,e2⟩:=j3 e;cases e2;rw[j9]at h;obtain⟨a,xs,rfl,q,rs⟩:=h;cases r;obtain⟨its,vs,t,_⟩:=I.tuple q;rw[jy];exact⟨a,its.toArray,rfl,t,by simpa using wf I rs vs e1⟩
 | .non,k,v,u,h,r,e=>by rw[yI]at e <;> first | cases e | (intros;contradiction)
 | .lst _,k,v,u,h,r,e=>by rw[yI]at e <;> first | cases e | (intros;contradiction)
 | .ins _ _ _,k,v,u,h,r,e=>by rw[yI]at e <;> first | cases e | (intros;contradiction)
 | .scr _,k,v,u,h,r,e=>by rw[yI]at e <;> first | cases e | (intros;contradiction)
 | .dct _ _,k,v,u,h,r,e=>by rw[yI]at e <;> first | cases e | (intros;contradiction)
 | .sz _,k,v,u,h,r,e=>by rw[yI]at e <;> first | cases e | (intros;contradiction)
theorem wf(I:Inv X pins U H s):∀{l:List D} {ks:List KD} {xs:List V} {us:List Value},j0 X.K H l xs->jj xs us->Yx l=some ks->j_ s.heap ks us
 | [],ks,xs,us,h,r,e=>by
  rw[Yx]at e;cases e;rw[j0]at h;subst h;cases r;rw[j_]
 | d::l,ks,xs,us,h,r,e=>by
  rw[Yx]at e;obtain⟨k,e1,e⟩:=j3 e;obtain⟨ks',e2,e⟩:=j3 e;cases e;rw[j0]at h;obtain⟨v,vs,rfl,h1,h2⟩:=h;cases r with
  | cons r1 r2=>
   rw[j_];exact⟨_,_,rfl,Wt I h1 r1 e1,wf I h2 r2 e2⟩
end
def kW{d:D}{k:KD}(e:J3 d=some k):yI d=some k/\k.dep<=8:=by
 unfold J3 at e;split at e
 ·obtain⟨k',e1,e2⟩:=j3 e;split at e2
  ·cases e2;exact⟨e1,by assumption⟩
  ·cases e2
 ·cases e
def Yq(I:Inv X pins U H s){d:D}{k:KD}{b:Addr}(r:j9 X.K H d (.ref b))(e:J3 d=some k):(J7 X.prog X.w).is s.heap k b:=⟨Wt I r rfl (kW e).1,(kW e).2⟩
def AO(I:Inv X pins U H s){kvs:List (KD×Addr×V)}{xs:List (KD×Addr×Value)}(pr:yO kvs xs):∀{ks:List D},jK ks=some (kvs.map (·.1))->j0 X.K H ks (kvs.map fun p=>V.ref p.2.1)->∀x∈xs,(J7 X.prog X.w).is s.heap x.1 x.2.1:=by
 induction pr with
 | nil=>intro ks _ _ x h;cases h
 | @cons p q ps qs rr t ih=>
  obtain⟨e1,e2,_⟩:=rr;intro ks e r x hx;cases ks with
  | nil=>rw[jK]at e;cases e
  | cons d ks=>
  rw[jK]at e;obtain⟨k,e3,e⟩:=j3 e;obtain⟨ks',e4,e⟩:=j3 e;rw[vWa]at e;cases e;rw[vWa,j0]at r;obtain⟨_,_,ee,r1,r2⟩:=r;cases ee;rcases uTa hx with rfl | hx
  ·rw[<-e1,<-e2];exact Yq I r1 e3
  ·exact ih e4 r2 x hx
structure DAt (K:Fr) (H:Hp) (a:Addr) (ks:List D) (kvs:List (KD×Addr×V)) (ep:Nat):Prop where
 at':H a=some (.dD kvs ep)
 k:jK ks=some (kvs.map (·.1))
 r:j0 K H ks (kvs.map fun p=>V.ref p.2.1)
def DAt.of(I:Inv X pins U H s){a:Addr}{kvs:List (KD×Addr×V)}{ep:Nat}(h:H a=some (.dD kvs ep)):kvs.length<=sizeLine/\(a==sysModules)=false/\(kvs.map (·.1)).Nodup/\∃xs es,yO kvs xs/\yX s.heap a es ep/\es.toList=xs.map (entryOfKey (J7 X.prog X.w)):=by
 obtain⟨z,y,nd,xs,r,o,es,e1,e2,e3,e4⟩:=I.hok a _ h;exact⟨z,y,nd,xs,es,r,⟨o,e1,e2,e3⟩,e4⟩
def yO.fst{kvs:List (KD×Addr×V)}{xs:List (KD×Addr×Value)}(h:yO kvs xs):xs.map (·.1)=kvs.map (·.1):=by
 induction h with
 | nil=>rfl
 | cons r _ ih=>rw[vWa,vWa,ih,r.1]
def DAt.dict(I:Inv X pins U H s){a:Addr}{ks:List D}{kvs:List (KD×Addr×V)}{ep:Nat}(h:DAt X.K H a ks kvs ep):kvs.length<=sizeLine/\(a==sysModules)=false/\∃xs,yO kvs xs/\s.heap.DictOfH (J7 X.prog X.w) a xs:=by
 obtain⟨z,y,nd,xs,es,r,⟨o,e1,e2,e3⟩,e4⟩:=DAt.of I h.at';exact⟨z,y,xs,r,o,es,ep,e1,e2,e3,e4,AO I r h.k h.r,by rw[r.fst];exact nd⟩
def Uz{k:Nat}{A:Around}(hr:Room k A):A.in1.units+8 < cLine:=by
 rw[Around.in1_units];have:=hr.un
 lia
def aq(K:Fr):R2:=fun x y H Q=>∃a kvs ep b ks k dk v,x=.ref a/\y=.ref b/\DAt K H a ks kvs ep/\j9 K H dk (.ref b)/\J3 dk=some k/\Zz kvs k=some v/\Q v H
def cv{n:Nat}(hr:Room n X.A):ut X (aq X.K):=by
 intro value slice pins s U H x y v u Q I rx ry h hs;obtain⟨a,kvs,ep,b,ks,k,dk,z,rfl,rfl,da,rb,ek,ev,q⟩:=h;cases rx;cases ry;obtain⟨zl,hd,xs,pr,dd⟩:=da.dict I;rcases pr.at (k:=k)with⟨w,p,e1,e2,rw'⟩ | ⟨e1,e2⟩
 ·rw[ev]at e1;cases e1;exact tail_any dd.typeIs slot_dict_getitem.lookup (wpAny_getItem_heap (knd:=J7 X.prog X.w) (Uz hr) (Yq I rb ek) dd e2 ⟨z,H,I.tok _,rw',q⟩) hs
 ·rw[ev]at e1;cases e1
def ar(K:Fr):V->V->V->Hp->(Hp->Prop)->Prop:=fun o i v H Q=>∃a kvs ep b ks k dk,o=.ref a/\i=.ref b/\DAt K H a ks kvs ep/\j9 K H dk (.ref b)/\J3 dk=some k/\kvs.length < sizeLine/\∀ep',Q (upd H a (.dD (yY kvs k b v) ep'))
def AQ{n:Nat}(hr:Room n X.A):xl X (ar X.K):=by
 intro pins s U H o i v ov iv u Q I ro ri rv h;obtain⟨a,kvs,ep,b,ks,k,dk,rfl,rfl,da,rb,ek,hl,q⟩:=h;cases ro;cases ri;obtain⟨zl,hd,xs,pr,dd⟩:=da.dict I;have hz:xs.length<=sizeLine:=by rw[<-Paired.length pr];exact zl
 refine wpAny_setItem_heap (hsz:=hz) (knd:=J7 X.prog X.w) (Uz hr) (Yq I rb ek) dd fun h' dd' hs=>?_;obtain⟨o,es,ep',e1,e2,e3,e4,_,e5⟩:=dd';have pr':=pr.put (k:=k) (b:=b) rv;have new:yc X.prog X.w (upd H a (.dD (yY kvs k b v) ep')) h' a (.dD (yY kvs k b v) ep'):=⟨by have:=gF kvs k b v;lia,hd,by rw[<-pr'.fst];exact e5,_,pr',o,es,e1,e2,e3,e4⟩
 exact⟨_,I.write (x:=a) (e:=a) (t':=s.toks+(J7 X.prog X.w).draws k) (by rw[da.at'];trivial) (.inl rfl) (fun c z hc e=>(hs.2 c hc).trans e) ⟨_,e1⟩ new,q ep'⟩
def xX(K:Fr)(neg:Bool):R2:=fun x y H Q=>∃a kvs ep b ks k dk,x=.ref b/\y=.ref a/\DAt K H a ks kvs ep/\j9 K H dk (.ref b)/\J3 dk=some k/\Q (.bl (xor neg (Zz kvs k).isSome)) H
def Qk{n:Nat}(hr:Room n X.A):J0 X (compareOp .In) (xX X.K false):=by
 intro pins s U H x y v u Q I rx ry h;obtain⟨a,kvs,ep,b,ks,k,dk,rfl,rfl,da,rb,ek,q⟩:=h;cases rx;cases ry;obtain⟨zl,hd,xs,pr,dd⟩:=da.dict I;refine wpAny_in_heap (knd:=J7 X.prog X.w) (Uz hr) (Yq I rb ek) hd dd ⟨_,H,I.tok _,?_,q⟩;rcases pr.at (k:=k)with⟨w,p,e1,e2,_⟩ | ⟨e1,e2⟩ <;> (rw[e1,e2];rfl)
def wg{n:Nat}(hr:Room n X.A):J0 X (compareOp .NotIn) (xX X.K true):=by
 intro pins s U H x y v u Q I rx ry h;obtain⟨a,kvs,ep,b,ks,k,dk,rfl,rfl,da,rb,ek,q⟩:=h;cases rx;cases ry;obtain⟨zl,hd,xs,pr,dd⟩:=da.dict I;refine wpAny_notIn_heap (knd:=J7 X.prog X.w) (Uz hr) (Yq I rb ek) hd dd ⟨_,H,I.tok _,?_,q⟩;rcases pr.at (k:=k)with⟨w,p,e1,e2,_⟩ | ⟨e1,e2⟩ <;> (rw[e1,e2];rfl)
def E2:TE:=fun _ H Q=>∀p,H p=none->Q (.ref p) (upd H p (.dD [] 0))
def Inv.big(I:Inv X pins U H s):sysModules < s.heap.objs.size:=Nat.lt_trans (by decide) (show mainGlobals < s.heap.objs.size from(I.mod.glob.keeps I.bk).lt)
def AR{pos:Pos}:PE X (.Dict [] [] pos) E2:=fun pins s U H Q I h=>
 wpAny_Dict_empty ⟨.ref s.heap.objs.size,_,I.laid (a:=s.heap.objs.size) (o:=.dD [] 0) (t':=s.toks) (fun _ _ q=>wIa _ q) (wPa _)
  ⟨Nat.zero_le _,beq_eq_false_iff_ne.mpr (Ne.symm (wTa (Inv.big I))),List.nodup_nil,[],.nil,_,#[],wJa _ rfl,⟨rfl,rfl,rfl⟩,rfl,rfl⟩,rfl,h _ (I.hok.fresh (wPa _))⟩
def yO.keys{kvs:List (KD×Addr×V)}{xs:List (KD×Addr×Value)}{P:Program}{w:World}(h:yO kvs xs):jj (kvs.map fun p=>V.ref p.2.1) ((xs.map (entryOfKey (J7 P w))).map (·.key)):=by
 induction h with
 | nil=>exact .nil
 | cons r _ ih=>exact .cons (by show Value.ref _=_;rw[r.2.1]) ih
def qt(hc:X.calm=true):yZ X (.type "list") (fun xs H Q=>∃a kvs ep,xs=[.ref a]/\H a=some (.dD kvs ep)/\∀l,H l=none->Q (.ref l) (upd H l (.lst (kvs.map fun p=>V.ref p.2.1)))):=by
 intro pins s U H xs us Q I r h;obtain⟨a,kvs,ep,rfl,e,q⟩:=h;cases r with
 | cons r1 r2=>
 cases r2;cases r1;obtain⟨z,hd,nd,ys,es,pr,rd,ee⟩:=DAt.of I e;have hl:es.size=kvs.length:=by rw[<-Array.length_toList,ee,vYa,Paired.length pr]
 refine xW (I.ok.hd hc) hd rd (by rw[hl];exact z) fun h' tk acc c k g ea=>?_;refine⟨.ref s.heap.objs.size,_,I.laid (a:=s.heap.objs.size) (o:=.lst (kvs.map fun p=>V.ref p.2.1)) (t':=tk) k (wPa _) ⟨by simpa using z,acc.toList,c,?_,by simpa using g⟩,rfl,q _ (I.hok.fresh (wPa _))⟩;rw[ea,ee];exact pr.keys
def Ql:yZ X (.builtin "len") (fun xs H Q=>∃a kvs ep,xs=[.ref a]/\H a=some (.dD kvs ep)/\Q (.int kvs.length) H):=by
 intro pins s U H xs us Q I r h;obtain⟨a,kvs,ep,rfl,e,q⟩:=h;cases r with
 | cons r1 r2=>
 cases r2;cases r1;obtain⟨z,hd,nd,ys,es,pr,rd,ee⟩:=DAt.of I e;have hl:es.size=kvs.length:=by rw[<-Array.length_toList,ee,vYa,Paired.length pr]
 rw[sizeLine_eq]at z;exact AN hd rd (by rw[hl];lia) ⟨_,H,I.tok _,by rw[hl];exact⟨_,rfl⟩,q⟩
end
def EQ(K:uXa)(a:Addr)(n:Nat):It:=
 ⟨fun i H=>∃xs,jG K H a xs/\xs.length=n/\i < n,fun i H x H'=>H'=H/\∀xs,jG K H a xs->xs[n - 1 - i]?=some x,fun i H=>n<=i⟩
def xY{P:Program}{w:World}{K:uXa}{tg:Expr}{n:Nat}(a it:Addr):Turn P w K tg (EQ K a n) [it] it (fun i h=>h.IsRevIter it a ((n:Int) - 1 - i)/\i<=n) where
 mem:=by simp
 obj:=fun i h st b hb=>by
  have e:b=it:=by simpa using hb
  subst e;obtain⟨⟨o,e,c,d⟩,_⟩:=st;exact⟨o,e,fun v z=>by rw[d]at z;cases z⟩
 keep:=fun i h h' st k=>⟨st.1.at fun o e=>k it (by simp) o e,st.2⟩
 item:=by
  intro X hP hw hK hc i pins s U H E I hf st hg;subst hP hw hK;obtain⟨xs,hq,hn,hi⟩:=hg;obtain⟨its,rv,p,hz⟩:=I.list hq;have hx:xs[n - 1 - i]?=some (xs[n - 1 - i]'(by omega)):=by simp
  obtain⟨u,hu,ru⟩:=rv.get hx;obtain⟨f0,f1,f2,f3,f4,f5⟩:=hf it (by simp);have e0:(n:Int) - 1 - i=((n - 1 - i:Nat):Int):=by omega
  have st1:=st.1;rw[e0]at st1;refine wpAny_pyNext_rev_item st1 p.isList (x:=u) (by simpa using hu) fun h' st' sb=>?_;have I1:Inv X pins U H { s with heap:=h' }:=I.turned (t':=s.toks) (fun b o hb e=>(sb.2 b hb).trans e) f0 f1 f3 f4 f5;obtain⟨o,e,c,d⟩:=id st';refine⟨u,rfl,Kg (s:={ s with heap:=h' }) e c d (by decide) ⟨_,H,I1,ru,⟨rfl,fun ys hy=>by rw[I.list_inj hy hq];exact hx⟩,⟨?_,hi⟩,fun b hb=>(hf b hb).1⟩⟩;have e1:(n:Int) - 1 - ((i+1:Nat):Int)=((n - 1 - i:Nat):Int) - 1:=by omega
  rw[e1];exact st'
 done:=by
  intro X hP hw hK hc i pins s U H E I hf st hg;subst hP hw hK;obtain⟨f0,f1,f2,f3,f4,f5⟩:=hf it (by simp);have hg:n<=i:=hg;have e0:(n:Int) - 1 - i=-1:=by have:=st.2;omega
  have st1:=st.1;rw[e0]at st1;exact wpAny_pyNext_rev_end (I.ok.hd hc) st1 fun h' eb=>⟨rfl,I.turned (t':=s.toks) (fun b o hb e=>eb b o hb e) f0 f1 f3 f4 f5⟩
 self:=fun _ _ _ _ _ st h=>wpAny_pyIter_revIter st.1 h
section
variable {X:Cx} {K:Fr} {e a b c d tg:Expr} {de da db dc dd dk:DE} {pos:Pos}
def FC(K:Fr)(ta:TA):TI:=fun U H R=>ta U H fun vs H1=>∃a xs,vs=[.ref a]/\jG K H1 a xs/\R (EQ K a xs.length) H1
def cw{e1:Expr}{ta:TA}{p:Pos}(hg:Gl X "reversed")(hm:X.mg "reversed" = none)(ha:PA X [e1] ta)(hs:starEach [e1] X.env=[(false,eval e1 X.env)]):PI X tg (.Call (.Name "reversed" p) [e1] [] pos) (FC X.K ta):=by
 intro pins s U H R I h;refine Call_ (ZT I hg hm PyProof.Rows.boot_reversed (PyProof.Rows.callWith_type1 (jw (ha pos pins s U H _ I h) fun us s1 xx=>?_) hs rfl));obtain⟨vs,H1,I1,r1,q1⟩:=xx;obtain⟨a,xs,rfl,qa,q⟩:=q1;cases r1 with
 | cons r rr=>
 cases rr;cases r;obtain⟨its,rv,p,hz⟩:=I1.list qa;have hl:=rv.length;refine call_reversed_list p.isList ?_;have k1:∀b o,s1.heap.get? b=some o->(s1.heap.push (revObj a ((its.toArray.size:Int) - 1))).get? b=some o:=fun b o e=>wIa _ e;have st:(s1.heap.push (revObj a ((its.toArray.size:Int) - 1))).IsRevIter s1.heap.objs.size a ((xs.length:Int) - 1 - (0:Nat)):=⟨_,wJa _ rfl,rfl,by rw[uLa,hl];simp[revObj]⟩
 refine wpAny_pyIter_revIter (i:=(xs.length:Int) - 1 - (0:Nat)) st ⟨s1.heap.objs.size,[s1.heap.objs.size],_,_,H1,rfl,I1.kept (t':=s1.toks) k1,xY (n:=xs.length) a _,⟨st,Nat.zero_le _⟩,fun b hb=>?_,q⟩;have e:b=s1.heap.objs.size:=by simpa using hb
 subst e;exact I1.fpOk (wPa _) (I1.hok.fresh (wPa _))
end
noncomputable def yj:List KD->List D->KD->Option D
 | q::qs,d::ds,k=>if q=k then some d else yj qs ds k
 | _,_,_=>none
noncomputable def zA:List KD->List D->KD->D->List D
 | q::qs,d::ds,k,v=>(if q=k then v else d)::zA qs ds k v
 | _,ds,_,_=>ds
def Zi:D->D->Option D
 | .dct ks vs,k=>(J3 k).bind fun q=>(jK ks).bind fun qs=>yj qs vs q
 | _,_=>none
def gG(neg:Bool):D->D->Option D
 | k,.dct ks _=>(J3 k).bind fun q=>(jK ks).bind fun qs=>some (.bl (xor neg (decide (q∈qs))))
 | _,_=>none
section
variable {K:Fr} {H:Hp} {O:List Addr}
theorem k4{k:KD}{d:D}:∀{kvs:List (KD×Addr×V)} {vs:List D},j0 K H vs (kvs.map (·.2.2))->yj (kvs.map (·.1)) vs k=some d->∃v,Zz kvs k=some v/\j9 K H d v
 | [],_,_,e=>by rw[uJa,yj]at e;cases e;all_goals (intros;contradiction)
 | p::kvs,[],r,e=>by rw[vWa,yj]at e;cases e;all_goals (intros;contradiction)
 | p::kvs,d'::vs,r,e=>by
  rw[vWa,j0]at r;obtain⟨_,_,ee,r1,r2⟩:=r;cases ee;rw[vWa,yj]at e;unfold Zz;rw[List.find?_cons];by_cases h:p.1=k
  ·rw[if_pos h]at e;cases e;rw[decide_eq_true h];exact⟨_,rfl,r1⟩
  ·rw[if_neg h]at e;rw[decide_eq_false h];exact k4 r2 e
theorem wj{k:KD}:∀{kvs:List (KD×Addr×V)},(Zz kvs k).isSome=decide (k∈kvs.map (·.1))
 | []=>by simp[Zz]
 | p::kvs=>by
  unfold Zz;rw[List.find?_cons,vWa];by_cases h:p.1=k
  ·rw[decide_eq_true h,decide_eq_true (by rw[h];exact List.mem_cons_self)];rfl
  ·rw[decide_eq_false h];have:=wj (k:=k) (kvs:=kvs);unfold Zz at this;refine this.trans ?_;by_cases hm:k∈kvs.map (·.1)
   ·rw[decide_eq_true hm,decide_eq_true (List.mem_cons_of_mem _ hm)]
   ·rw[decide_eq_false hm,decide_eq_false];intro z;rcases uTa z with z | z
    ·exact h z.symm
    ·exact hm z
def ZX{dk:D}{k:KD}{y:V}(h:RB K O H dk y)(e:J3 dk=some k):∃b,y=.ref b/\j9 K H dk (.ref b):=by
 have f:=h.full;unfold J3 at e;split at e
 ·have f0:=f;rw[j9]at f;obtain⟨a,xs,rfl,_⟩:=f;exact⟨a,rfl,f0⟩
 ·cases e
def E3:Ju K (aq K) Zi:=by
 intro O H a b d x y Q ha hb _ e q;unfold Zi at e;split at e
 ·obtain⟨k,e1,e⟩:=j3 e;obtain⟨qs,e2,e⟩:=j3 e;obtain⟨p,kvs,ep,rfl,h1,h2,h3,h4⟩:=ha.dct;obtain⟨y,rfl,ry⟩:=ZX hb e1;rw[h2]at e2;cases e2;obtain⟨v,ev,rv⟩:=k4 h4 e;exact⟨p,kvs,ep,y,_,k,_,v,rfl,rfl,⟨h1,h2,h3.same Jj⟩,ry,e1,ev,q v H (j5.refl H) rv⟩
 ·cases e
def au{neg:Bool}:Ju K (xX K neg) (gG neg):=by
 intro O H a b d x y Q ha hb _ e q;unfold gG at e;split at e
 ·obtain⟨k,e1,e⟩:=j3 e;obtain⟨qs,e2,e⟩:=j3 e;cases e;obtain⟨p,kvs,ep,rfl,h1,h2,h3,h4⟩:=hb.dct;obtain⟨y,rfl,ry⟩:=ZX ha e1;rw[h2]at e2;cases e2;exact⟨p,kvs,ep,y,_,k,_,rfl,rfl,⟨h1,h2,h3.same Jj⟩,ry,e1,q _ H (j5.refl H) (by rw[j9,wj])⟩
 ·cases e
noncomputable def Yy(qs:List KD)(ks:List D)(q:KD)(k:D):List D:=if q∈qs then ks else ks++[k]
def YM(qs:List KD)(vs:List D)(q:KD)(v:D):List D:=if q∈qs then zA qs vs q v else vs++[v]
theorem ga:∀{ks:List D} {qs:List KD} {k:D} {q:KD},jK ks=some qs->J3 k=some q->jK (ks++[k])=some (qs++[q])
 | [],qs,k,q,e,f=>by
  rw[jK]at e;cases e;rw[List.nil_append,jK,f];rfl
 | d::ks,qs,k,q,e,f=>by
  rw[jK]at e;obtain⟨x,e1,e⟩:=j3 e;obtain⟨xs,e2,e⟩:=j3 e;cases e;rw[List.cons_append,jK,e1,ga e2 f];rfl
theorem wk{k:KD}{v:V}{d:D}(rv:j9 K H d v):∀{kvs:List (KD×Addr×V)} {vs:List D},j0 K H vs (kvs.map (·.2.2))->j0 K H (zA (kvs.map (·.1)) vs k d) ((kvs.map (fun p=>if p.1=k then(p.1,p.2.1,v)else p)).map (·.2.2))
 | [],vs,r=>by
  rw[uJa,uJa,uJa,zA]
  ·exact r
  all_goals (intros;contradiction)
 | p::kvs,[],r=>by rw[vWa,j0]at r;cases r
 | p::kvs,d'::vs,r=>by
  rw[vWa,j0]at r;obtain⟨_,_,ee,r1,r2⟩:=r;cases ee;rw[vWa,vWa,vWa,zA];refine j0.cons ?_ (wk rv r2);by_cases h:p.1=k
  ·rw[if_pos h,if_pos h];exact rv
  ·rw[if_neg h,if_neg h];exact r1
def Wu{β:Type}{k:KD}{v:V}{f:KD×Addr×V->β}(hf:∀p:KD×Addr×V,f (p.1,p.2.1,v)=f p):∀kvs:List (KD×Addr×V),(kvs.map (fun p=>if p.1=k then(p.1,p.2.1,v)else p)).map f=kvs.map f:=fun kvs=>by
 rw[List.map_map];refine List.map_congr_left fun p _=>?_;show f (if p.1=k then(p.1,p.2.1,v)else p)=f p;split
 ·exact hf p
 ·rfl
def k6{k:KD}{b:Addr}{v:V}{d dk:D}{ks vs:List D}{qs:List KD}{kvs:List (KD×Addr×V)}(e1:J3 dk=some k)(e2:jK ks=some (kvs.map (·.1)))(rk:j0 K H ks (kvs.map fun p=>V.ref p.2.1))(rv:j0 K H vs (kvs.map (·.2.2)))(r1:j9 K H dk (.ref b))(r2:j9 K H d v):
  jK (Yy (kvs.map (·.1)) ks k dk)=some ((yY kvs k b v).map (·.1))/\j0 K H (Yy (kvs.map (·.1)) ks k dk) ((yY kvs k b v).map fun p=>V.ref p.2.1)/\j0 K H (YM (kvs.map (·.1)) vs k d) ((yY kvs k b v).map (·.2.2)):=by
 unfold Yy YM yY;rw[wj];by_cases h:k∈kvs.map (·.1)
 ·rw[decide_eq_true h,if_pos h,if_pos h,if_pos rfl,Wu (fun _=>rfl),Wu (fun _=>rfl)];exact⟨e2,rk,wk r2 rv⟩
 ·rw[decide_eq_false h,if_neg h,if_neg h,if_neg (by decide),uDa,uDa,uDa];exact⟨ga e2 e1,rk.snoc r1,rv.snoc r2⟩
end
section
variable {X:Cx} {K:Fr} {e a b c d tg:Expr} {de da db dc dd dk:DE} {pos:Pos} {st:Stmt}
@[simp] def vZ(i:Nat)(dk de:DE)(Z:je):Option Rs:=match Z[i]? with
 | some (.ow q (.dct ks vs))=>(de Z).bind fun d=>(dk Z).bind fun k=>(J3 k).bind fun x=>(jK ks).bind fun qs=>if ks.length < sizeLine then some (.nx (Z.set i (.ow q (.dct (Yy qs ks x k) (YM qs vs x d)))))else none
 | _=>none
set_option tactic.hygienic true in
theorem E4{i:Nat}(h:PS X st (Y5 (tE K de) (Kz (yx i) (tE K dk) (ar K)))):PS X st (tS K (vZ i dk de)):=Jt h fun D U H xx=>by
 obtain⟨H0,O0,Z,O,r,R,ed,f⟩:=xx;unfold vZ at ed;split at ed
 ·rename_i q ks vs hi;obtain⟨d,e1,ed⟩:=j3 ed;obtain⟨k,e2,ed⟩:=j3 ed;obtain⟨x,e3,ed⟩:=j3 ed;obtain⟨qs,e4,ed⟩:=j3 ed;split at ed
  ·rename_i hz;cases ed;obtain⟨l,hq,hs,⟨kvs,ep,hl,hk,rk,rv⟩,lo,h0⟩:=R.ow i _ _ hi;refine⟨H0,O0,Z,O,d,R,e1,fun v H1 s1 rd=>⟨_,hs,H0,O0,Z,O,k,R.grow s1,e2,fun w H2 s2 rw'=>?_⟩⟩;have s12:=s1.trans s2;have R':=R.grow s12;rw[hk]at e4;cases e4;obtain⟨b,rfl,rb⟩:=ZX (O:=O) (.inl rw') e3;have hlen:kvs.length=ks.length:=by have:=rk.len;simpa using this
   obtain⟨p1,p2,p3⟩:=k6 (b:=b) (qs:=[]) e3 hk (rk.same (jc s12)) (rv.same (jc s12)) rw' (rd.same (jc s2));refine⟨l,kvs,ep,b,ks,x,k,rfl,rfl,⟨s12 _ _ hl,hk,(rk.same (jc s12)).same Jj⟩,rb,e3,by rw[hlen];exact hz,fun ep'=>f _ _ O (R'.change hi hq hs lo h0 ⟨_,ep',jV,p1,p2,p3⟩) ?_⟩;rw[Ja lo];exact jc s12
  ·cases ed
 ·cases ed
@[simp] noncomputable def UA(_:je):Option OD:=some (.dct [] [])
def cx:PE X (.Dict [] [] pos) (tF K UA):=jz AR fun U H Q xx=>by
 obtain⟨H0,O0,Z,O,o,R,ed,q⟩:=xx;cases ed;exact fun p hp=>q p _ (jC hp _) hp ⟨[],0,jV,by rw[jK];rfl,j0.nil,j0.nil⟩
noncomputable def Vo:List D->Option OD
 | [.dct ks _]=>some (.lst ks)
 | _=>none
@[simp] theorem FD(ks vs:List D):Vo [.dct ks vs]=some (.lst ks):=rfl
def AS:a9 K (fun xs H Q=>∃a kvs ep,xs=[.ref a]/\H a=some (.dD kvs ep)/\∀l,H l=none->Q (.ref l) (upd H l (.lst (kvs.map fun p=>V.ref p.2.1)))) Vo:=by
 intro O H ks ds vs d Q ak e q;unfold Vo at e;split at e
 ·cases e;obtain⟨v,rfl,r⟩:=zw ak;obtain⟨p,kvs,ep,rfl,h1,h2,h3,h4⟩:=r.dct;exact⟨p,kvs,ep,rfl,h1,fun l hl=>q l _ (jC hl _) hl (yh hl h3)⟩
 ·cases e
@[simp] def xZ(de:DE)(Z:je):Option (List D):=(de Z).bind fun d=>(Go d).bind fun l=>some l.reverse
def E5{p:Pos}(hg:Gl X "reversed")(hm:X.mg "reversed" = none)(h:PE X a (tP K da))(hs:starEach [a] X.env=[(false,eval a X.env)])(hK:X.K=K:=by rfl):PI X tg (.Call (.Name "reversed" p) [a] [] pos) (zq K (xZ da)):=Gk (cw hg hm (Jc h yz (by rw[hs];rfl)) hs) fun U H R xx=>by
 obtain⟨H0,O0,Z,O,items,Re,ed,q⟩:=xx;subst hK;obtain⟨x,e1,ed⟩:=j3 ed;obtain⟨l,e3,ed⟩:=j3 ed;cases ed;refine⟨H0,O0,Z,O,x,Re,e1,fun v H1 s1 r=>?_⟩;have R1:=Re.grow s1;unfold Go at e3;split at e3
 ·cases e3;obtain⟨p,xs,rfl,h1,h2⟩:=(r.at R1.keep R1.in0 (j5.refl _)).lst;have hlen:=h2.len;refine⟨p,xs,rfl,jG.of h1,q _ H1 s1 fun i H' O' t0 t1 t2 ta=>?_⟩;obtain⟨p',us,ea,g1,g2⟩:=(r.at t0 t1 t2).lst;cases ea;have hl2:=g2.len;refine⟨fun d hd=>?_,fun hi=>by rw[hi,List.length_reverse];show xs.length<=_;lia⟩;have hil:i < l.length:=by have:=(uSa hd).1;simpa using this
  rw[List.getElem?_reverse hil]at hd;obtain⟨u,hu,ru⟩:=g2.get hd;refine⟨⟨us,jG.of g1,by lia,by lia⟩,fun x' H'' yy=>?_⟩;obtain⟨z1,z2⟩:=yy;have z3:=z2 us (jG.of g1);rw[hlen,hu]at z3;cases z3;rw[z1];exact⟨j5.refl _,ru⟩
 ·cases e3
end
end DS
namespace L2
open PySem PySem.Spec PyProof.Rows
noncomputable abbrev TB:=St->Hp->(St->Hp->Prop)->Prop
def Gv(Y:Cx)(m:Sem Fin->Sem Fin)(t:TB):Prop:=
 ∀(pins:List (Addr×Obj)) (s:Shared) (U:St) (H:Hp) (N:St->Hp->Prop) (c:Sem Fin) (Q:Fin->Shared->Prop) (E:Value->Shared->Prop),Inv Y pins U H s->t U H N->(∀s' U' H',Inv Y pins U' H' s'->N U' H'->wpAny (model Y.prog Y.w) Y.A c Q E s')->wpAny (model Y.prog Y.w) Y.A (m c) Q E s
def Vp(J:It)(g:TG)(tb:TB)(Qn:St->Hp->Prop)(W:Nat->Nat->St->Hp->Prop):Prop:=∀i m U H,W i m U H->(J.stop i H/\Qn U H) \/
 (J.go i H/\∃N:St->Hp->Prop,(∀U' H',N U' H'->∃m',m' < m/\W (i+1) m' U' H')/\∀x H',J.yld i H x H'->g x U H' fun U2 H2=>tb U2 H2 N)
section
variable {Y:Cx} {ex tg iter:Expr} {d:Nat} {acc:Value} {B:Sem Fin->Sem Fin} {g:TG} {tb:TB} {J:It} {fp:List Addr} {it:Addr} {tn:Nat->Heap->Prop} {Qn:St->Hp->Prop} {W:Nat->Nat->St->Hp->Prop} {pins:List (Addr×Obj)}
def k8(hc:Y.calm=true)(hun:Y.A.under (.compLoop ex d (.ref it) acc Y.env)=Y.A)
  (hdn:(model Y.prog Y.w).den (.compLoop ex d (.ref it) acc Y.env)=(compTurn ex d (.ref it) acc Y.env).onRaise fun x=>do noteFrame x Y.env;theTreesLotGoes x)
  (htn:compTurn ex d (.ref it) acc Y.env=(do
   standAt iter.pos
   match<-pyNext (.ref it)with
   | none=>pure (.done .next)
   | some v=>
    letOwnedTupleGo tg (.ref it) v
    assign tg Y.env v
    B (again (.compLoop ex d (.ref it) acc Y.env))))
  (hx:Y.xe=fun _ _=>False) (hg:PG Y tg g) (hb:Gv Y B tb) (T:Turn Y.prog Y.w Y.K tg J fp it tn) {H:Hp} (hf:∀b∈fp,Je Y pins H b)
  (turn:Vp J g tb Qn W) (R:Result->Shared->Prop) (hR:∀s',(∃U' H',Inv Y pins U' H' s'/\Qn U' H')->R (.ok .next) s') (n:Nat) (s4:Shared)
  (st:∃i U' H',Inv Y pins U' H' s4/\tn i s4.heap/\(∀b∈fp,H' b=none)/\W i n U' H'):codeAny (model Y.prog Y.w) Y.A (.compLoop ex d (.ref it) acc Y.env) R s4:=by
 have stat:∀{H':Hp},(∀b∈fp,H' b=none)->∀b∈fp,Je Y pins H' b:=fun hn b hb=>⟨hn b hb,(hf b hb).2⟩
 refine codeAny_loop rfl (fun n s'=>∃i U' H',Inv Y pins U' H' s'/\tn i s'.heap/\(∀b∈fp,H' b=none)/\W i n U' H') ?_ n st;rintro n s3 ⟨i,U3,H3,I3,st3,fr3,w3⟩;rw[hun,hdn];refine wpAny_noted ?_;rw[htn];rcases turn i n U3 H3 w3 with⟨stop,qn⟩ | ⟨go,N,hN,step⟩
 ·refine wAa (vOa (wAa (wCa (T.done Y rfl rfl rfl hc i pins s3 U3 H3 (fun _ _=>False) I3 (stat fr3) st3 stop) (fun r s5 h5=>?_) fun _ _ z=>z.elim)));obtain⟨hr,I5⟩:=h5;subst hr;exact wBa (hR s5 ⟨U3,H3,I5,qn⟩)
 ·refine wAa (vOa (wAa (wCa (T.item Y rfl rfl rfl hc i pins s3 U3 H3 (fun _ _=>False) I3 (stat fr3) st3 go) (fun r s5 h5=>?_) fun _ _ z=>z.elim)));obtain⟨u,hr,h5⟩:=h5;subst hr;refine wAa (wCa h5 (fun _ s6 h6=>?_) fun _ _ z=>z.elim);obtain⟨x,H6,I6,r6,y6,st6,fr6⟩:=h6;have I6':=I6.pinned (stat fr6) (T.obj _ _ st6);refine wAa (wCa (hg _ s6 U3 H6 x u _ I6' r6 (step x H6 y6)) (fun _ s7 h7=>?_) fun _ _ z=>(by rw[hx]at z;exact z.elim));obtain⟨U7,H7,I7,q7⟩:=h7;refine hb _ s7 U7 H7 N _ _ _ I7 q7 fun s8 U8 H8 I8 n8=>?_;obtain⟨m',hm,w8⟩:=hN U8 H8 n8;refine wBa ⟨rfl,m',hm,i+1,U8,H8,I8.unpinned,T.keep _ _ _ st6 fun b hb o e=>(I8.pin (b,o) (vJa _ (vJa _ (Yd hb e)))).1,fun b hb=>?_,w8⟩;obtain⟨o,e,_⟩:=T.obj _ _ st6 b hb;exact(I8.pin (b,o) (vJa _ (vJa _ (Yd hb e)))).2.1
end
def gb{prog:Program}{w:World}{A:Around}{R:Result->Shared->Prop}{s:Shared}{ex:Expr}{n:Nat}{g:Comprehension}{it acc:Value}{env:Env}(hcl:(clausesOf ex)[n]?=some g)(ha:g.is_async=0)(hun:A.under (.compStart ex n it acc env)=A)
  (hdn:(model prog w).den (.compStart ex n it acc env)=(compStart ex n it acc env).onRaise fun x=>do noteFrame x env;standAt theWindowsPlace)
  (h0:codeAny (model prog w) A (.compLoop ex n it acc env) R s)
  (h:wpAny (model prog w) A (pyIter it) (fun it' s'=>codeAny (model prog w) A (.compLoop ex n it' acc env) R s') (notedBy (model prog w) A env fun x s'=>R (.error x) s') s):
  codeAny (model prog w) A (.compStart ex n it acc env) R s:=by
 refine codeAny_of_tree ?_;rw[hun,hdn];refine wpAny_notedAt ?_;unfold compStart;rw[hcl,show(Option.elim (some g) false fun x=>x.is_async != 0)=false by simp[ha],if_neg (by decide)];refine wAa (wpAny_askSetting (wpAny_ite ?_));split
 ·exact wBa ⟨rfl,h0⟩
 ·exact wAa (vQa (wAa (vOa (wAa (wCa h (fun it' s' h'=>wBa ⟨rfl,h'⟩) fun _ _ x=>x)))))
noncomputable def Qm(kx vx t1 i1 t2 i2:Expr)(scope:Scope)(pos:Pos)(D:Addr)(env:Env)(c:Sem Fin):Sem Fin:=do
 let x<-eval i2 env
 standAt i2.pos
 let x<-foldedSetIterable i2 env x
 let y<-holding [x] (pyIter x)
 let _<-runOwn (.compStart (.DictComp kx vx [⟨t1,i1,[],0⟩,⟨t2,i2,[],0⟩] scope pos) 1 y (.ref D) env) env
 c
noncomputable def cy(kx vx:Expr)(D:Addr)(env:Env)(c:Sem Fin):Sem Fin:=do
 (do
  let kv<-eval kx env
  let vv<-holding [kv] (eval vx env)
  standAt { kx.pos with endLine:=vx.pos.endLine,endCol:=vx.pos.endCol }
  holding [kv,vv] (dictSet D kv vv))
 c
def cz(kx vx t1 i1 t2 i2:Expr)(scope:Scope)(pos:Pos)(it:Value)(D:Addr)(env:Env):
  compTurn (.DictComp kx vx [⟨t1,i1,[],0⟩,⟨t2,i2,[],0⟩] scope pos) 0 it (.ref D) env=(do
   standAt i1.pos
   match<-pyNext it with
   | none=>pure (.done .next)
   | some v=>
    letOwnedTupleGo t1 it v
    assign t1 env v
    Qm kx vx t1 i1 t2 i2 scope pos D env (again (.compLoop (.DictComp kx vx [⟨t1,i1,[],0⟩,⟨t2,i2,[],0⟩] scope pos) 0 it (.ref D) env))):=by rfl
def cD(kx vx t1 i1 t2 i2:Expr)(scope:Scope)(pos:Pos)(it:Value)(D:Addr)(env:Env):
  compTurn (.DictComp kx vx [⟨t1,i1,[],0⟩,⟨t2,i2,[],0⟩] scope pos) 1 it (.ref D) env=(do
   standAt i2.pos
   match<-pyNext it with
   | none=>pure (.done .next)
   | some v=>
    letOwnedTupleGo t2 it v
    assign t2 env v
    cy kx vx D env (again (.compLoop (.DictComp kx vx [⟨t1,i1,[],0⟩,⟨t2,i2,[],0⟩] scope pos) 1 it (.ref D) env))):=by rfl
end L2
namespace DS
open PySem PySem.Spec PyProof.Rows L2
def ER(K:Fr)(D:Addr)(tk tv:TE):TB:=fun U H N=>tk U H fun k H1=>tv U H1 fun v H2=>∃kvs ep b ks kk dk,k=.ref b/\DAt K H2 D ks kvs ep/\j9 K H2 dk (.ref b)/\J3 dk=some kk/\kvs.length < sizeLine/\∀ep',N U (upd H2 D (.dD (yY kvs kk b v) ep'))
noncomputable def ES(wi:TI)(g:TG)(tb:TB):TB:=fun U H N=>wi U H fun J H1=>∃W,(∃m,W 0 m U H1)/\Vp J g tb N W
section
variable {Y:Cx} {kx vx t1 i1 t2 i2:Expr} {scope:Scope} {pos:Pos} {D:Addr} {tk tv:TE} {tb:TB} {wi:TI} {g:TG}
def E6{n:Nat}(hx:Y.xe=fun _ _=>False)(hr:Room n Y.A)(hk:PE Y kx tk)(hv:PE Y vx tv):Gv Y (cy kx vx D Y.env) (ER Y.K D tk tv):=by
 intro pins s U H N c Q E I h hN;refine wAa (wAa (wCa (hk pins s U H _ I h) (fun kv s1 h1=>?_) fun _ _ z=>(by rw[hx]at z;exact z.elim)));obtain⟨k,H1,I1,r1,q1⟩:=h1;refine wAa (wDa (wCa (hv pins s1 U H1 _ I1 q1) (fun vv s2 h2=>?_) fun _ _ z=>(by rw[hx]at z;exact z.elim)));obtain⟨v,H2,I2,r2,kvs,ep,b,ks,kk,dk,rfl,da,rb,ek,hl,q⟩:=h2;cases r1;refine wAa (vOa (wDa ?_));obtain⟨zl,hd,xs,pr,dd⟩:=da.dict I2;have hz:xs.length<=sizeLine:=by rw[<-Paired.length pr];exact zl
 refine wpAny_dictSet_heap (hsz:=hz) (knd:=J7 Y.prog Y.w) (by have:=hr.un;show Y.A.units+8 < cLine;lia) (Yq I2 rb ek) dd fun h' dd' hs=>?_;obtain⟨o,es,ep',e1,e2,e3,e4,_,e5⟩:=dd';have pr':=pr.put (k:=kk) (b:=b) r2;have new:yc Y.prog Y.w (upd H2 D (.dD (yY kvs kk b v) ep')) h' D (.dD (yY kvs kk b v) ep'):=⟨by have:=gF kvs kk b v;lia,hd,by rw[<-pr'.fst];exact e5,_,pr',o,es,e1,e2,e3,e4⟩
 exact hN _ U _ (I2.write (x:=D) (e:=D) (t':=s2.toks+(J7 Y.prog Y.w).draws kk) (by rw[da.at'];trivial) (.inl rfl) (fun c z hc e=>(hs.2 c hc).trans e) ⟨_,e1⟩ new) (q ep')
def E7(hc:Y.calm=true)(hx:Y.xe=fun _ _=>False)(hi:PI Y t2 i2 wi)(hg:PG Y t2 g)(hs:∀x,foldedSetIterable i2 Y.env x=pure x)(hem:Gv Y (cy kx vx D Y.env) tb):Gv Y (Qm kx vx t1 i1 t2 i2 scope pos D Y.env) (ES wi g tb):=by
 intro pins s U H N c Q E I h hN;unfold Qm;refine wAa (wCa (hi pins s U H _ I h) (fun x s1 h1=>?_) fun _ _ z=>(by rw[hx]at z;exact z.elim));refine wAa (vOa (wAa (wEa (hs x) ?_)));refine wAa (wDa (wCa h1 (fun y s2 h2=>?_) fun _ _ z=>(by rw[hx]at z;exact z.elim)));obtain⟨it,fp,tn,J,H2,rfl,I2,T,st,hf,W,⟨m0,w0⟩,turn⟩:=h2;refine wAa (wpAny_runOwn ?_);have loop:=k8 (d:=1) hc rfl rfl (cD kx vx t1 i1 t2 i2 scope pos (.ref it) D Y.env) hx hg hem T hf turn (fun r s'=>match r with | .ok f=>wpAny (model Y.prog Y.w) Y.A c Q E s' | .error e=>cameBackBy (model Y.prog Y.w) Y.A Y.env E e s') (fun s' ⟨U',H',I',n'⟩=>hN s' U' H' I' n') m0 s2 ⟨0,U,H2,I2,st,fun b hb=>(hf b hb).1,w0⟩;exact gb rfl rfl rfl rfl loop (T.self _ 0 _ _ _ st loop)
end
section
variable {X:Cx} {kx vx t1 i1 t2 i2:Expr} {scope:Scope} {pos:Pos} {own:List Str} {caps:List (Str×Nat)} {g1:TG} {tb:Addr->TB} {pins:List (Addr×Obj)} {U:L2.St} {H:Hp} {s2:Shared} {J:It} {fp:List Addr} {it:Addr} {tn:Nat->Heap->Prop} {Qv:VK}
def AU{E:Value->Shared->Prop}{RR:Value->Addr->Result->Shared->Prop}(S:CScope X scope)(hcap:Caps X scope caps)(hc:X.calm=true)
  (hg:∀s3 H3 ex',PG (X.comp (L2.cN own caps) scope s3 H3 ex') t1 g1) (hB:∀s3 H3 ex' D,Gv (X.comp (L2.cN own caps) scope s3 H3 ex') (Qm kx vx t1 i1 t2 i2 scope pos D (X.comp (L2.cN own caps) scope s3 H3 ex').env) (tb D))
  (I:Inv X pins U H s2) (T:Turn X.prog X.w X.K t1 J fp it tn) (st:tn 0 s2.heap) (hf:∀b∈fp,Je X pins H b)
  (w:∀D,H D=none->∃W,(∃m,W 0 m (Yk own caps U) (upd H D (.dD [] 0)))/\Vp J g1 (tb D) (fun _ H'=>Qv (.ref D) H') W)
  (hRR:∀D C s' H' m,Inv X pins U H' s'->s'.heap.Ns C m->Je X pins H' C->Qv (.ref D) H'->RR (.ref D) C (.ok .next) s'):
  wpAny (model X.prog X.w) X.A newDict (fun acc s3=>wpAny (model X.prog X.w) X.A (newFunctionEnv scope X.env.globals (yU X.env scope.names []) [] X.env.qual none .none (some X.env)) (fun cenv s4=>
   codeAny (model X.prog X.w) X.A (.compStart (.DictComp kx vx [⟨t1,i1,[],0⟩,⟨t2,i2,[],0⟩] scope pos) 0 (.ref it) acc { cenv with scope:=relabel scope X.env }) (RR acc cenv.locals) s4) E s3) E s2:=by
 obtain⟨W,⟨m0,w0⟩,turn⟩:=w s2.heap.objs.size (I.hok.fresh (wPa _));refine vTa (wpAny_newFunctionEnv S.c (by intro y hy;simp at hy) (fun h1 hns hsb=>?_) S.kind);have hlt:∀b∈fp,b < s2.heap.objs.size:=fun b hb=>by
  obtain⟨o,e,_⟩:=T.obj _ _ st b hb;exact wLa e
 let s3:Shared:={ s2 with heap:=s2.heap.push { cls:=.type "dict",dict:=none,data:=.dict #[] } }
 have I3:Inv X pins U (upd H s2.heap.objs.size (.dD [] 0)) s3:=I.laid (a:=s2.heap.objs.size) (o:=.dD [] 0) (t':=s2.toks) (fun _ _ q=>wIa _ q) (wPa _)
  ⟨Nat.zero_le _,beq_eq_false_iff_ne.mpr (Ne.symm (wTa (Inv.big I))),List.nodup_nil,[],.nil,_,#[],wJa _ rfl,⟨rfl,rfl,rfl⟩,rfl,rfl⟩
 have hk:∀b o,s3.heap.get? b=some o->h1.get? b=some o:=fun b o e=>hsb.extBut b o (wTa (wLa e)) (wIa _ e);have e3:s3.heap.objs.size=s2.heap.objs.size+1:=Heap.size_push ..;have hl3:∀b∈fp,b < s3.heap.objs.size:=fun b hb=>by rw[e3];exact Nat.lt_succ_of_lt (hlt b hb)
 have hf3:∀b∈fp,Je X pins (upd H s2.heap.objs.size (.dD [] 0)) b:=fun b hb=>⟨by rw[jq (Nat.ne_of_lt (hlt b hb))];exact(hf b hb).1,(hf b hb).2⟩
 have I4:Inv (X.comp (L2.cN own caps) scope s3 (upd H s2.heap.objs.size (.dD [] 0)) fp) [] (Yk own caps U) (upd H s2.heap.objs.size (.dD [] 0)) { s3 with heap:=h1,toks:=s2.toks+([]:List (Str×Value)).length }:=
  VH S.c S.kind S.f hcap I3 (fun b hb=>⟨hl3 b hb,hf3 b hb⟩) hns hk
 have st4:tn 0 h1:=T.keep _ _ _ st fun b hb o e=>hk b o (wIa _ e);have f4:∀b∈fp,Je (X.comp (L2.cN own caps) scope s3 (upd H s2.heap.objs.size (.dD [] 0)) fp) [] (upd H s2.heap.objs.size (.dD [] 0)) b:=fun b hb=>
  ⟨(hf3 b hb).1,wTa (hl3 b hb),I4.ok.exfs b hb,.inl hb,(I4.ok.exf b hb).2,fun p hp=>vDa (show p∈([]:List (Addr×Obj)) from hp) (by simp)⟩
 have loop:=k8 (Y:=X.comp (L2.cN own caps) scope s3 (upd H s2.heap.objs.size (.dD [] 0)) fp) (d:=0) hc rfl rfl (cz kx vx t1 i1 t2 i2 scope pos (.ref it) s2.heap.objs.size _) rfl (hg _ _ _) (hB _ _ _ _) T f4 turn (RR (.ref s2.heap.objs.size) s3.heap.objs.size) (fun s' xx=>by
  obtain⟨U',H',J',q⟩:=xx;have u:Un (vG X.stack) fp (upd H s2.heap.objs.size (.dD [] 0)) H' s3.heap s'.heap:=J'.base;have I5:Inv X pins U H' s':=I3.call' (ch:=fp) J'.os ⟨u.keep,u.slot,u.free,u.there,u.tups,u.frzs,u.tbls⟩ J'.hok J'.bare fun b hb=>by
   have F:=hf3 b hb;exact⟨F.2.2.2.1,F.2.1,F.2.2.2.2.1,F.2.2.2.2.2⟩
  obtain⟨m5,hm5,_⟩:=id J'.loc;exact hRR _ _ s' H' m5 I5 hm5 (I3.fpOk (wPa _) J'.free) q) m0
  { s3 with heap:=h1,toks:=s2.toks+([]:List (Str×Value)).length } ⟨0,_,_,I4,st4,fun b hb=>(hf3 b hb).1,w0⟩
 exact codeAny_compStart_dict loop (T.self _ 0 _ _ _ st4 loop)
def ET(own:List Str)(caps:List (Str×Nat))(wi:TI)(g1:TG)(tb:Addr->TB):TE:=fun U H Q=>wi U H fun J H1=>∀D,H1 D=none->∃W,(∃m,W 0 m (Yk own caps U) (upd H1 D (.dD [] 0)))/\Vp J g1 (tb D) (fun _ H'=>Q (.ref D) H') W
def E8{wi:TI}(own:List Str)(caps:List (Str×Nat))(S:CScope X scope)(hcap:Caps X scope caps)(hc:X.calm=true)(hi:PI X t1 i1 wi)
  (hg:∀s3 H3 ex',PG (X.comp (L2.cN own caps) scope s3 H3 ex') t1 g1) (hB:∀s3 H3 ex' D,Gv (X.comp (L2.cN own caps) scope s3 H3 ex') (Qm kx vx t1 i1 t2 i2 scope pos D (X.comp (L2.cN own caps) scope s3 H3 ex').env) (tb D))
  (hs:∀x,foldedSetIterable i1 X.env x=pure x):PE X (.DictComp kx vx [⟨t1,i1,[],0⟩,⟨t2,i2,[],0⟩] scope pos) (ET own caps wi g1 tb):=by
 intro pins s U H Q I h;show wpAny _ _ (comprehension (.DictComp kx vx [⟨t1,i1,[],0⟩,⟨t2,i2,[],0⟩] scope pos) scope X.env _ newDict false (eval i1 X.env)) _ _ s;refine wpAny_comprehension_free (use:=none) rfl hs (Ut fun y hy e=>I.ok.has y.1 (S.f y hy e)) S.kind S.l (jw (hi pins s U H _ I h) fun xv s1 h1=>jw h1 fun itv s2 h2=>?_);obtain⟨it,fp,tn,J,H2,e,I2,T,st,f2,w⟩:=h2;subst e;refine AU (Qv:=Q) (RR:=fun acc C=>compPost (model X.prog X.w) X.A X.xe none (EP X pins U Q) acc C) S hcap hc hg hB I2 T st f2 w ?_;intro D C s' H' m I' hn hf' q;refine⟨m,hn,fun h' sb=>⟨.ref D,H',?_,rfl,q⟩⟩;obtain⟨f0,f1,f2,f3,f4,f5⟩:=hf';exact I'.turned (t':=s'.toks) (fun b o hb e=>(sb.2 b hb).trans e) f0 f1 f3 f4 f5
end
@[simp] noncomputable def Ye:Sl->Bool
 | .ow _ _=>false
 | .lo _=>false
 | _=>true
def gc(g:DG)(dk dv:DE):List D->je->List D->List D->Option (je×List D×List D)
 | [],Z,ks,vs=>some (Z,ks,vs)
 | d::ds,Z,ks,vs=>(g d Z).bind fun Z1=>(dk Z1).bind fun k=>(dv Z1).bind fun v=>(J3 k).bind fun x=>(jK ks).bind fun qs=>if ks.length < sizeLine/\Z1.all Ye=true then gc g dk dv ds Z1 (Yy qs ks x k) (YM qs vs x v)else none
def kX(g1:DG)(di:DI)(g:DG)(dk dv:DE):List D->je->List D->List D->Option (List D×List D)
 | [],_,ks,vs=>some (ks,vs)
 | d::ds,Z,ks,vs=>(g1 d Z).bind fun Z1=>(di Z1).bind fun items=>if Z1.all Ye=true then(gc g dk dv items Z1 ks vs).bind fun q=>kX g1 di g dk dv ds q.1 q.2.1 q.2.2 else none
def Wv(k:Nat)(caps:List Nat)(di:DI)(g1:DG)(di2:DI)(g:DG)(dk dv:DE):DO:=fun Z=>(di Z).bind fun items=>if (yV k caps Z).all Ye=true then(kX g1 di2 g dk dv items (yV k caps Z) [] []).bind fun p=>some (.dct p.1 p.2)else none
def av{Z:je}(h:Z.all Ye=true){i:Nat}{q:Option Addr}{o:OD}:Z[i]?≠some (.ow q o):=fun e=>by
 have:=List.all_eq_true.mp h _ (wYa e);cases this
def aw{Z:je}(h:Z.all Ye=true)(i:Nat)(ls:List (List D)):Z[i]?≠some (.lo ls):=fun e=>by
 have:=List.all_eq_true.mp h _ (wYa e);cases this
section
variable {K:Fr} {H0 H H':Hp} {O0 O:List Addr} {Z:je} {U:L2.St} {A:Addr}
structure DcI (K:Fr) (H0:Hp) (O0 O:List Addr) (A:Addr) (Z:je) (U:L2.St) (H:Hp) (ks vs:List D):Prop where
 R:Rel K H0 O0 Z U H (A::O)
 o:JR K H (j6 H (A::O)) A (.dct ks vs)
 n:Z.all Ye=true
variable {own:List Str} {caps:List (Str×Nat)} {di di2:DI} {g1 g:DG} {dk dv:DE}
set_option tactic.hygienic true in
theorem cH(hnd:(caps.map (·.2)).Nodup):∀U H Q,tF K (Wv own.length (caps.map (·.2)) di g1 di2 g dk dv) U H Q->
  ET own caps (zq K di) (tG K own.length g1) (fun A=>ES (zq K di2) (tG K own.length g) (ER K A (tE K dk) (tE K dv))) U H Q:=fun U H Q xx=>by
 obtain⟨H0,O0,Z,O,o,R,ed,q⟩:=xx;obtain⟨items,e1,ed⟩:=j3 ed;split at ed
 case isFalse=>cases ed
 rename_i nw;obtain⟨⟨ks,vs⟩,e2,ed⟩:=j3 ed;cases ed;refine⟨H0,O0,Z,O,items,R,e1,fun J H1 s1 hJ A hA=>?_⟩;have R1:=R.grow s1;have Rc:=gB own caps R1 hnd;have h0:H0 A=none:=R1.keep.none hA;have I0:DcI K H0 O0 O A (yV own.length (caps.map (·.2)) Z) (Yk own caps U) (upd H1 A (.dD [] 0)) [] []:=
  ⟨Rc.lay (F:=[A]) (jC hA _) (fun a h=>by rw[List.mem_singleton.mp h];exact hA) (fun a h=>by rw[List.mem_singleton.mp h,jV];exact fun z=>nomatch z),⟨[],0,jV,by rw[jK];rfl,j0.nil,j0.nil⟩,nw⟩
 refine⟨fun i m U' H'=>∃Z' ks' vs',DcI K H0 O0 O A Z' U' H' ks' vs'/\kX g1 di2 g dk dv (items.drop i) Z' ks' vs'=some (ks,vs)/\j5 (j6 H1 O) (j6 H' (A::O))/\j5 H1 H'/\m=items.length - i/\i<=items.length,
  ⟨items.length,_,[],[],I0,by simpa using e2,yg (jC hA _) hA,jC hA _,rfl,Nat.zero_le _⟩,?_⟩
 rintro i m U' H' ⟨Z',ks',vs',I,d1,sd,sH,rfl,hi⟩;obtain⟨hgo,hstop⟩:=hJ i H' (A::O) I.R.keep I.R.in0 sd I.R.al;by_cases hlt:i < items.length
 ·right;have hx:items[i]?=some items[i]:=by simp[hlt]
  have hd:items.drop i=items[i]::items.drop (i+1):=(List.getElem_cons_drop hlt).symm;rw[hd,kX]at d1;obtain⟨gg1,gg2⟩:=hgo _ hx;obtain⟨Z1,f1,d1⟩:=j3 d1;obtain⟨items2,f2,d1⟩:=j3 d1;split at d1
  case isFalse=>cases d1
  rename_i nw1;obtain⟨⟨Z2,ks2,vs2⟩,f3,d1⟩:=j3 d1;dsimp only at d1;refine⟨gg1,fun U2 H2=>∃Z' ks' vs',DcI K H0 O0 O A Z' U2 H2 ks' vs'/\kX g1 di2 g dk dv (items.drop (i+1)) Z' ks' vs'=some (ks,vs)/\j5 (j6 H1 O) (j6 H2 (A::O))/\j5 H1 H2,?_,fun x H'' y=>?_⟩
  ·rintro U2 H2 ⟨Z3,k3,v3,a1,a2,a3,a4⟩;exact⟨items.length - (i+1),by lia,Z3,k3,v3,a1,a2,a3,a4,rfl,hlt⟩
  obtain⟨sy,rx⟩:=gg2 x H'' y;refine⟨H0,O0,Z',A::O,_,Z1,I.R.grow sy,rx,f1,fun U2 R3 _=>⟨H0,O0,Z1,A::O,items2,R3,f2,fun J2 H3 s3 hJ2=>?_⟩⟩;have s13:=sy.trans s3;have I3:DcI K H0 O0 O A Z1 U2 H3 ks' vs':=⟨R3.grow s3,I.o.same (s13 A) (jc s13),nw1⟩
  refine⟨fun j m U' H'=>∃Z' ks' vs',DcI K H0 O0 O A Z' U' H' ks' vs'/\gc g dk dv (items2.drop j) Z' ks' vs'=some (Z2,ks2,vs2)/\j5 (j6 H3 (A::O)) (j6 H' (A::O))/\j5 H1 H'/\m=items2.length - j/\j<=items2.length,
   ⟨items2.length,Z1,ks',vs',I3,by simpa using f3,j5.refl _,sH.trans s13,rfl,Nat.zero_le _⟩,?_⟩
  rintro j m U5 H5 ⟨Z5,ks5,vs5,I5,d5,sd5,sH5,rfl,hj⟩;obtain⟨hgo2,hstop2⟩:=hJ2 j H5 (A::O) I5.R.keep I5.R.in0 sd5 I5.R.al;by_cases hlt2:j < items2.length
  ·right;have hx2:items2[j]?=some items2[j]:=by simp[hlt2]
   have hd2:items2.drop j=items2[j]::items2.drop (j+1):=(List.getElem_cons_drop hlt2).symm;rw[hd2,gc]at d5;obtain⟨u1,u2⟩:=hgo2 _ hx2;obtain⟨Z6,w1,d5⟩:=j3 d5;obtain⟨k,w2,d5⟩:=j3 d5;obtain⟨v,w3,d5⟩:=j3 d5;obtain⟨kk,w4,d5⟩:=j3 d5;obtain⟨qs,w5,d5⟩:=j3 d5;split at d5
   case isFalse=>cases d5
   rename_i hz;refine⟨u1,fun U7 H7=>∃Z' ks' vs',DcI K H0 O0 O A Z' U7 H7 ks' vs'/\gc g dk dv (items2.drop (j+1)) Z' ks' vs'=some (Z2,ks2,vs2)/\j5 (j6 H3 (A::O)) (j6 H7 (A::O))/\j5 H1 H7,?_,fun x6 H6 y6=>?_⟩
   ·rintro U7 H7 ⟨Z7,k7,v7,a1,a2,a3,a4⟩;exact⟨items2.length - (j+1),by lia,Z7,k7,v7,a1,a2,a3,a4,rfl,hlt2⟩
   obtain⟨sy6,rx6⟩:=u2 x6 H6 y6;refine⟨H0,O0,Z5,A::O,_,Z6,I5.R.grow sy6,rx6,w1,fun U7 R7 _=>⟨H0,O0,Z6,A::O,k,R7,w2,fun kv H8 s8 rk=>⟨H0,O0,Z6,A::O,v,R7.grow s8,w3,fun vv H9 s9 rv=>?_⟩⟩⟩;have s89:=s8.trans s9;have s59:=sy6.trans s89;obtain⟨kvs,ep,o1,o2,o3,o4⟩:=I5.o.same (s59 A) (jc s59);rw[o2]at w5;cases w5;have rk':=rk.same (jc s9);obtain⟨b,rfl,rb⟩:=ZX (O:=A::O) (.inl rk') w4;have hlen:kvs.length=ks5.length:=by have:=o3.len;simpa using this
   obtain⟨p1,p2,p3⟩:=k6 (b:=b) (qs:=[]) w4 o2 o3 o4 rk' rv;refine⟨kvs,ep,b,ks5,kk,k,rfl,⟨o1,o2,o3.same Jj⟩,rb,w4,by rw[hlen];exact hz.1,fun ep'=>⟨Z6,_,_,⟨(R7.grow s89).poke (aw hz.2) wNa h0 (fun⟨_,_,_,y,_⟩=>av hz.2 y),⟨_,ep',jV,p1,?_,?_⟩,hz.2⟩,d5,?_,?_⟩⟩
   ·rw[Ja List.mem_cons_self];exact p2
   ·rw[Ja List.mem_cons_self];exact p3
   ·rw[Ja List.mem_cons_self];exact sd5.trans (jc s59)
   ·exact(sH5.trans s59).upd hA _
  ·left;have ej:j=items2.length:=by lia
   refine⟨hstop2 ej,?_⟩;have e0:items2.drop j=[]:=List.drop_of_length_le (by lia);rw[e0,gc]at d5;cases d5;exact⟨_,_,_,I5,d1,sd.trans ((jc s13).trans sd5),sH5⟩
 ·left;have ei:i=items.length:=by lia
  refine⟨hstop ei,?_⟩;have e0:items.drop i=[]:=List.drop_of_length_le (by lia);rw[e0,kX]at d1;cases d1;exact q A H' (s1.trans sH) (s1.none hA) I.o
end
end DS
namespace L2
open PySem PySem.Spec PyProof.Rows
section
variable {X:Cx}
def UB:V->List V->Hp->VK->Prop:=fun x vs H Q=>∃l xs i y,x=.ref l/\vs=[.int i,y]/\H l=some (.lst xs)/\0<=i/\i<=(xs.length:Int)/\xs.length < 1000000/\Q .non (upd H l (.lst (xs.take i.toNat++y::xs.drop i.toNat)))
def qu:1000000 < sizeLine:=by decide
set_option tactic.hygienic true in
theorem Qo:Bt X "list.insert" UB:=by
 intro pins s U H x vs v us Q I rx rv h;obtain⟨l,xs,i,y,rfl,rfl,hH,h0,h1,hz,q⟩:=h;cases rx;cases rv with
 | cons r1 rr=>
 cases rr with
 | cons r2 rr=>
 cases rr;obtain⟨t,rfl⟩:=r1;rename_i u;obtain⟨z,its,n,r,hl,e⟩:=I.lstM hH;have sl:=qu;have hk:i.toNat<=its.length:=by lia
 refine call_meets F.slot_list_insert ⟨_,e,rfl⟩ F.entry_list_insert (F.args_list_insert_3 _ _ _) (AutoListH.list_insert_list_int_val_1 l its.toArray n i t u (by rw[fitsIndex_both (by lia) (by lia)];decide) (by rw[uLa];lia)) ⟨e,?_⟩;refine⟨.non,_,I.lset (its':=its.take i.toNat++u::its.drop i.toNat) hH e ?_ ?_ ?_,rfl,q⟩
 ·show(have k:=if i < 0 then(i+((its.toArray.size:Nat):Int)).toNat else min i.toNat its.toArray.size;(its.toArray.extract 0 k).push u++its.toArray.extract k)=_;dsimp only;rw[if_neg (by lia),uLa,Nat.min_eq_left hk];apply Array.ext';simp;exact List.take_of_length_le (by rw[uNa];lia)
 ·exact(r.take i.toNat).append (.cons r2 (r.drop i.toNat))
 ·rw[vZa,vXa,uOa,uNa]
  lia
end
end L2
namespace DS
open PySem PySem.Spec PyProof.Rows L2
end DS
namespace L2
open PySem PySem.Spec PyProof.Rows
def ay{X:Cx}{o k e:Expr}{ta:TE}{t:TA}{apos pos:Pos}(ho:PE X o ta)(ha:PA X [k,e] t)
  (hfew:((backTo pos (starEach [k,e] X.env)).all (fun x=>!x.1)&&(backToKw pos (keywordEach [] X.env)).all (fun x=>x.1.isSome)&&decide (([k,e]:List Expr).length+([]:List Keyword).length+(if ([]:List Keyword).isEmpty then 0 else 1) < 30))=true)
  (hline:(apos.endLine==pos.line)=true) (hs:starEach [k,e] X.env=(false,eval k X.env)::starEach [e] X.env) (hplain:(backTo pos (starEach [e] X.env)).any (·.1)=false) (hbase:attributeBase o "insert" X.env (eval o X.env)=eval o X.env:=by rfl):PE X (.Call (.Attribute o "insert" apos) [k,e] [] pos) (Ge X.K "list" UB ta t):=
 Kj PySem.F.plainAttrs_list PySem.F.slot_list_insert PySem.F.type_list_insert Qo ho ha hbase hfew hline hs hplain
end L2
namespace DS
open PySem PySem.Spec PyProof.Rows L2
section
variable {K:Fr} {Hd H H':Hp}
theorem J4.len:∀{as:List Addr} {ls:List (List D)},J4 K Hd H as ls->as.length=ls.length
 | [],[],_=>rfl
 | _::_,_::_,h=>congrArg Nat.succ (J4.len h.2)
 | [],_::_,h=>h.elim
 | _::_,[],h=>h.elim
theorem J4.get:∀{as:List Addr} {ls:List (List D)} {n:Nat} {m:List D},J4 K Hd H as ls->ls[n]?=some m->∃p vs,as[n]?=some p/\H p=some (.lst vs)/\j0 K Hd m vs
 | a::_,_::_,0,_,h,e=>by
  simp at e;subst e;obtain⟨vs,h1,h2⟩:=h.1;exact⟨a,vs,rfl,h1,h2⟩
 | _::as,_::r,n+1,m,h,e=>by
  obtain⟨p,vs,h1,h2⟩:=J4.get (n:=n) h.2 (by simpa using e);exact⟨p,vs,by simpa using h1,h2⟩
 | [],[],_,_,_,e=>by simp at e
 | [],_::_,_,_,h,_=>h.elim
 | _::_,[],_,_,h,_=>h.elim
theorem J4.set{p:Addr}{m:List D}(hp:∃vs,H' p=some (.lst vs)/\j0 K Hd m vs):∀{as:List Addr} {ls:List (List D)} {n:Nat},as.Nodup->as[n]?=some p->(∀a∈as,a≠p->∀u,H a=some u->H' a=some u)->J4 K Hd H as ls->J4 K Hd H' as (ls.set n m)
 | a::as,x::r,0,nd,e,s,h=>by
  simp at e;subst e;obtain⟨n1,n2⟩:=List.nodup_cons.mp nd;exact⟨hp,h.2.mono (j5.refl _) fun b hb=>s b (wMa _ hb) fun z=>n1 (z▸hb)⟩
 | a::as,x::r,n+1,nd,e,s,h=>by
  obtain⟨n1,n2⟩:=List.nodup_cons.mp nd;have e':as[n]?=some p:=by simpa using e
  obtain⟨vs,h1,h2⟩:=h.1;exact⟨⟨vs,s a wNa (fun z=>n1 (z▸wYa e')) _ h1,h2⟩,J4.set hp n2 e' (fun b hb=>s b (wMa _ hb)) h.2⟩
 | [],_,_,_,e,_,_=>by simp at e
 | _::_,[],_,_,_,_,h=>h.elim
theorem J4.app:∀{as bs:List Addr} {ls ms:List (List D)},J4 K Hd H as ls->J4 K Hd H bs ms->J4 K Hd H (as++bs) (ls++ms)
 | [],_,[],_,_,g=>g
 | _::_,_,_::_,_,h,g=>⟨h.1,J4.app h.2 g⟩
 | [],_,_::_,_,h,_=>h.elim
 | _::_,_,[],_,h,_=>h.elim
theorem J4.take:∀{as:List Addr} {ls:List (List D)} (n:Nat),J4 K Hd H as ls->J4 K Hd H (as.take n) (ls.take n)
 | _,_,0,_=>by simp[J4]
 | [],[],n+1,_=>by simp[J4]
 | _::_,_::_,n+1,h=>⟨h.1,J4.take n h.2⟩
 | [],_::_,_,h=>h.elim
 | _::_,[],_,h=>h.elim
theorem J4.drop:∀{as:List Addr} {ls:List (List D)} (n:Nat),J4 K Hd H as ls->J4 K Hd H (as.drop n) (ls.drop n)
 | _,_,0,h=>h
 | [],[],n+1,_=>by simp[J4]
 | _::_,_::_,n+1,h=>J4.drop n h.2
 | [],_::_,_,h=>h.elim
 | _::_,[],_,h=>h.elim
end
def wl{α:Type}{xs:List α}{i:Nat}{x:α}(h:xs[i]?=some x):xs.set i x=xs:=by
 obtain⟨hl,he⟩:=uSa h;rw[<-he];exact List.set_getElem_self hl
section
variable {X:Cx} {K:Fr} {de dj:DE} {st:Stmt} {i:Nat}
def YC{Z:je}{ls:List (List D)}{K:Fr}{H0 H:Hp}{O0 O:List Addr}{U:L2.St}(R:Rel K H0 O0 Z U H O)(hi:Z[i]?=some (.lo ls)):∀(j:Nat) (ms:List (List D)),(Z.set i .un)[j]?≠some (.lo ms):=fun j ms e=>by
 rcases jr e with⟨_,e',_⟩ | ⟨ne,e'⟩
 ·cases e'
 ·obtain⟨_,_,_,_,_,_,un⟩:=R.lo i ls hi;exact ne (un j ms e')
def zB{Z:je}{U:L2.St}{a:Addr}{j:Nat}:yd (Z.set j .un) U a->yd Z U a:=fun xx=>by
 obtain⟨k,q,o,e,z⟩:=xx;rcases jr e with⟨_,e',_⟩ | ⟨_,e'⟩
 ·cases e'
 ·exact⟨k,q,o,e',z⟩
def uL{Z:je}{ls:List (List D)}:(Z.set i .un).set i (.lo ls)=Z.set i (.lo ls):=by rw[List.set_set]
def cJ{α:Type}(xs:List α):J6 xs none (some (-1))=xs.take (xs.length - 1):=by
 unfold J6 HT.sIx;simp;congr 1
 lia
end
noncomputable def Gw:List D->Bool
 | []=>true
 | .tup t::_=>t.length != 2
 | .int _::_=>true
 | _=>false
mutual
@[simp] noncomputable def Qp:D->Bool
 | .non=>true
 | .bl _=>true
 | .int _=>true
 | .str _=>true
 | .tup l=>ZY l
 | .lst l=>Gw l&&ZY l
 | .ins _ _ l=>ZY l
 | _=>false
@[simp] noncomputable def ZY:List D->Bool
 | []=>true
 | d::ds=>Qp d&&ZY ds
end
theorem Qq{K:Fr}{Hd Hd' H':Hp}(k:VJ Hd Hd')(g:∀a u,Hd a=some u->H' a=some u):∀{ps:List Addr} {ls:List (List D)},ls.all YL=true->J4 K Hd Hd ps ls->J4 K Hd' H' ps ls
 | [],[],_,_=>trivial
 | p::ps,m::ls,n,h=>by
  rw[List.all_cons,Bool.and_eq_true]at n;obtain⟨⟨vs,h1,h2⟩,h3⟩:=h;exact⟨⟨vs,g _ _ h1,vP k n.1 h2⟩,Qq k g n.2 h3⟩
 | [],_::_,_,h=>h.elim
 | _::_,[],_,h=>h.elim
noncomputable def wm:Option HO->Bool
 | some (.lst _)=>true
 | _=>false
def Gx(F:List Addr)(H:Hp):Hp:=fun b=>if wm (H b)=true/\b∉F then none else H b
def Hc(K:Fr)(H:Hp):Prop:=(∀a xs ys,Jq K H a xs->Jq K H a ys->xs=ys)/\∀a xs zs,Jq K H a xs->H a≠some (.lst zs)
section
variable {K:Fr} {H H':Hp} {O:List Addr}
def UC{F:List Addr}{a:Addr}(h:wm (H a)=false \/ a∈F):Gx F H a=H a:=if_neg fun z=>by
 rcases h with h | h
 ·rw[h]at z;cases z.1
 ·exact z.2 h
set_option tactic.hygienic true in
theorem wo{F:List Addr}{a:Addr}{u:HO}(h:Gx F H a=some u):H a=some u/\(wm (H a)=false \/ a∈F):=by
 unfold Gx at h;split at h
 ·cases h
 ·rename_i z;refine⟨h,?_⟩;cases q:wm (H a)with
  | false=>exact .inl rfl
  | true=>exact .inr (Classical.byContradiction fun y=>z ⟨q,y⟩)
def uM{F G:List Addr}(s:∀a∈F,a∈G):j5 (Gx F H) (Gx G H):=fun b o h=>by
 obtain⟨h1,h2⟩:=wo h;rw[UC (h2.imp id (s b))];exact h1
def x_{F:List Addr}:VJ H (Gx F H):=fun b o i h=>by
 rw[UC (.inl (by rw[h];cases o <;> first | rfl | cases i))];exact h
def EU(K:Fr)(H:Hp)(F:List Addr):Prop:=∀a∈F,∃m xs,H a=some (.lst xs)/\j0 K H m xs/\Gw m=true
mutual
theorem X0:∀{d:D} {v:V},Qp d=true->j9 K H d v->∃F,EU K H F/\j9 K (Gx F H) d v
 | .non,_,_,h=>⟨[],(fun _ z=>by cases z),by rw[j9]at h⊢;exact h⟩
 | .bl _,_,_,h=>⟨[],(fun _ z=>by cases z),by rw[j9]at h⊢;exact h⟩
 | .int _,_,_,h=>⟨[],(fun _ z=>by cases z),by rw[j9]at h⊢;exact h⟩
 | .str _,_,_,h=>⟨[],(fun _ z=>by cases z),by rw[j9]at h⊢;exact h⟩
 | .tup l,_,n,h=>by
  rw[j9]at h;obtain⟨a,xs,rfl,q,r⟩:=h;rw[Qp]at n;obtain⟨F,f,r'⟩:=zV n r;exact⟨F,f,by rw[j9];exact⟨a,xs,rfl,x_.sqT q,r'⟩⟩
 | .lst l,_,n,h=>by
  rw[j9]at h;obtain⟨a,xs,rfl,q,r⟩:=h;rw[Qp,Bool.and_eq_true]at n;obtain⟨F,f,r'⟩:=zV n.2 r;refine⟨a::F,fun b hb=>?_,by rw[j9];exact⟨a,xs,rfl,by rw[UC (.inr List.mem_cons_self)];exact q,r'.same (uM fun b hb=>wMa _ hb)⟩⟩;rcases uTa hb with rfl | hb
  ·exact⟨l,xs,q,r,n.1⟩
  ·exact f b hb
 | .ins C ns l,_,n,h=>by
  rw[j9]at h;obtain⟨a,dx,xs,rfl,q,z,r⟩:=h;rw[Qp]at n;obtain⟨F,f,r'⟩:=zV n r;exact⟨F,f,by rw[j9];exact⟨a,dx,xs,rfl,by rw[UC (.inl (by rw[q];rfl))];exact q,z,r'⟩⟩
 | .scr _,_,n,_=>by simp at n
 | .dct _ _,_,n,_=>by simp at n
theorem zV:∀{ds:List D} {vs:List V},ZY ds=true->j0 K H ds vs->∃F,EU K H F/\j0 K (Gx F H) ds vs
 | [],_,_,h=>⟨[],(fun _ z=>by cases z),by rw[j0]at h⊢;exact h⟩
 | d::ds,_,n,h=>by
  rw[j0]at h;obtain⟨v,r,rfl,a,b⟩:=h;rw[ZY,Bool.and_eq_true]at n;obtain⟨F,f,x⟩:=X0 n.1 a;obtain⟨G,g,y⟩:=zV n.2 b;exact⟨F++G,fun c hc=>(uWa hc).elim (f c) (g c),j0.cons (x.same (uM fun b hb=>vIa _ hb)) (y.same (uM fun b hb=>vJa _ hb))⟩
end
theorem wq:∀{ks:List Bool} {ds:List D} {vs:List V},ks.all id=true->yA K O H ks ds vs->j0 K (j6 H O) ds vs
 | [],[],[],_,_=>j0.nil
 | true::ks,d::ds,v::vs,a,h=>j0.cons h.1 (wq (by simpa using a) h.2)
 | false::_,_,_,a,_=>by cases a
 | [],[],_::_,_,h=>h.elim
 | [],_::_,_,_,h=>h.elim
 | _::_,[],_,_,h=>by cases h
 | _::_,_::_,[],_,h=>by cases h
theorem wr:∀{ks:List Bool} {ds:List D} {vs:List V},ks.length=ds.length->j0 K (j6 H O) ds vs->yA K O H ks ds vs
 | [],[],_,_,h=>by rw[j0]at h;subst h;trivial
 | k::ks,d::ds,_,n,h=>by
  rw[j0]at h;obtain⟨v,r,rfl,a,b⟩:=h;refine⟨?_,wr (by simpa using n) b⟩;cases k
  ·exact .inl a
  ·exact a
 | [],_::_,_,n,_=>by cases n
 | _::_,[],_,n,_=>by cases n
theorem wt{Hd:Hp}:∀{ls:List (List D)} {xs:List V},j0 K Hd (ls.map D.lst) xs->∃ps:List Addr,xs=ps.map V.ref/\J4 K Hd Hd ps ls
 | [],_,h=>⟨[],by rw[uJa,j0]at h;exact h,trivial⟩
 | m::ls,_,h=>by
  rw[vWa,j0]at h;obtain⟨v,r,rfl,a,b⟩:=h;rw[j9]at a;obtain⟨p,ys,rfl,q,s⟩:=a;obtain⟨ps,rfl,e⟩:=wt b;exact⟨p::ps,rfl,⟨ys,q,s⟩,e⟩
end
noncomputable def k9:List D->Option Int
 | .tup [.tup (.int a::_),_]::_=>some a
 | _=>none
def UD:List (List D)->Option (List Int)
 | []=>some []
 | m::r=>(k9 m).bind fun a=>(UD r).map fun as=>a::as
noncomputable def wu:List D->Option (List (List D))
 | []=>some []
 | .lst m::r=>(wu r).map fun ls=>m::ls
 | _=>none
theorem Qr:∀{xs:List D} {ls:List (List D)},wu xs=some ls->xs=ls.map D.lst
 | [],_,h=>by cases h;rfl
 | x::xs,ls,h=>by
  cases x with
  | lst m=>
   obtain⟨r,e,rfl⟩:=Option.map_eq_some_iff.mp (show(wu xs).map _=_ from h);rw[Qr e];rfl
  | _=>cases h
theorem ww:∀{ls:List (List D)} {ks:List Int} {n:Nat} {m:List D},UD ls=some ks->ls[n]?=some m->∃a,ks[n]?=some a/\k9 m=some a
 | [],_,_,_,_,e=>by simp at e
 | m::r,_,0,_,h,e=>by
  obtain⟨a,e1,h⟩:=j3 h;obtain⟨as,e2,rfl⟩:=Option.map_eq_some_iff.mp h;simp at e;subst e;exact⟨a,rfl,e1⟩
 | m::r,_,n+1,_,h,e=>by
  obtain⟨a,e1,h⟩:=j3 h;obtain⟨as,e2,rfl⟩:=Option.map_eq_some_iff.mp h;obtain⟨b,h1,h2⟩:=ww (n:=n) e2 (by simpa using e);exact⟨b,by simpa using h1,h2⟩
section
variable {K:Fr} {H:Hp}
def cK{m:List D}{a:Int}{vs:List V}(e:k9 m=some a)(r:j0 K H m vs):∃b ws c us,vs.head?=some (.ref b)/\Jq K H b ws/\ws.length=2/\ws.head?=some (.ref c)/\Jq K H c us/\us.head?=some (.int a):=by
 unfold k9 at e;split at e
 ·cases e;rw[j0]at r;obtain⟨v,r',rfl,q,_⟩:=r;rw[j9]at q;obtain⟨b,ws,rfl,s,w⟩:=q;have:=w.len;rw[j0]at w;obtain⟨v,_,rfl,q,_⟩:=w;rw[j9]at q;obtain⟨c,us,rfl,s',w⟩:=q;rw[j0]at w;obtain⟨v,_,rfl,q,_⟩:=w;rw[j9]at q;subst q;exact⟨b,_,c,_,rfl,s,this,rfl,s',rfl⟩
 ·cases e
def az{m:List D}{vs:List V}{b:Addr}(o:Gw m=true)(r:j0 K H m vs)(e:vs.head?=some (.ref b)):∃ws,Jq K H b ws/\ws.length≠2:=by
 cases m with
 | nil=>rw[j0]at r;subst r;cases e
 | cons d m=>
  rw[j0]at r;obtain⟨v,r',rfl,q,_⟩:=r;cases e;cases d with
  | tup t=>
   rw[j9]at q;obtain⟨b',ws,z,s,w⟩:=q;cases z;refine⟨ws,s,?_⟩;rw[w.len];simpa[Gw]using o
  | int i=>rw[j9]at q;cases q
  | _=>cases o
end
section
variable {X:Cx} {K:Fr} {e:Expr} {es:List Expr} {pos p:Pos} {l:DA} {ks:List Bool} {x:Str} {ps:List Str} {k:Nat}
def E9{t:TA}(h:PA X es t):PA X es (fun U H Q=>t U H fun vs H1=>∀n,(∀a u,H1 a=some u->a < n)->Q vs H1):=fun p pins s U H Q I q=>by
 refine jw (h p pins s U H _ I q) fun us s1 xx=>?_;obtain⟨vs,H1,I1,r,q1⟩:=xx;exact⟨vs,H1,I1,r,q1 s1.heap.objs.size fun a u z=>(I1.hok a u z).lt⟩
def Ea{t:TE}(h:PE X e t):PE X e (fun U H Q=>t U H fun v H1=>Hc X.K H1->Q v H1):=fun pins s U H Q I q=>by
 refine jw (h pins s U H _ I q) fun v s1 xx=>?_;obtain⟨x,H1,I1,r,q1⟩:=xx;refine⟨x,H1,I1,r,q1 ⟨fun a xs ys u w=>I1.tuple_inj u w,fun a xs zs u w=>?_⟩⟩;obtain⟨its,_,⟨o,g,c,_⟩,_⟩:=I1.tuple u;obtain⟨_,_,_,_,g'⟩:=I1.hok a _ w;rw[g]at g';cases g';injection c with c;exact vDa c (by decide)
def tL(K:Fr)(de:je->Option (List (List D))):TE:=fun U H Q=>∃H0 O0 Z O ls,Rel K H0 O0 Z U H O/\de Z=some ls/\∀l ps H',j5 H H'->(∀a∈l::ps,H a=none)->(l::ps).Nodup->Zg K H' (j6 H' (l::ps++O)) l ps ls->Q (.ref l) H'
def Ww(F:List D->Option D)(l:DA):je->Option (List (List D)):=fun Z=>(YK l Z).bind fun ds=>(F ds).bind fun d=>match d with
 | .lst xs=>(wu xs).bind fun ls=>(UD ls).bind fun ks=>if ZY ds=true/\ls.isEmpty=false/\ks.Nodup/\ls.all YL=true then some ls else none
 | _=>none
set_option tactic.hygienic true in
theorem cL{F:List D->Option D}(G:FnI X.prog X.w X.K X.mg X.base k x ps (kT K ks F))(hr:Room k X.A)(ha:PA X (e::es) (zp K l))(hl:(l.map (·.1)).all id=true)(hk:ks.length=l.length)(hg:Gl X x)(hdb:(x==("__debug__" : Str))=false)
  (he:starEach (e::es) X.env=(false,eval e X.env)::starEach es X.env) (hpl:(backTo pos (starEach es X.env)).any (·.1)=false) (hK:X.K=K):PE X (.Call (.Name x p) (e::es) [] pos) (tL K (Ww F l)):=by
 subst hK;refine jz (Ea (Kk G hr (E9 ha) hg hdb he hpl)) fun U H Q xx=>?_;obtain⟨H0,O0,Z,O,ls,R,ed,q⟩:=xx;obtain⟨ds,e1,ed⟩:=j3 ed;obtain⟨d,e2,ed⟩:=j3 ed;cases d with
 | lst xs=>
  obtain⟨ls',e3,ed⟩:=j3 ed;obtain⟨ks',e4,ed⟩:=j3 ed;split at ed
  ·rename_i hh;cases ed;have ex:=Qr e3;subst ex;refine⟨H0,O0,Z,O,ds,R,e1,fun vs H1 s1 r1 n hn=>?_⟩
   (try dsimp only)
   rw[uFa];have R1:=R.grow s1;have rr:=wq hl r1;have hds:ks.length=ds.length:=by
    have:=r1.len;rw[vYa]at this
    lia
   obtain⟨F',fo,r2⟩:=zV hh.1 rr
   let S:=(List.range n).filter fun a=>wm (H1 a)&&decide (a∉F')
   have sd:j5 (Gx F' (j6 H1 O)) (j6 H1 (O++S)):=fun b u h=>by
    obtain⟨h1,h2⟩:=wo h;obtain⟨h3,h4⟩:=Jg h1;rw[jR fun z=>?_]
    ·exact h4
    ·rcases uWa z with z | z
     ·exact h3 z
     ·have:=(uUa z).2;rw[Bool.and_eq_true]at this;rcases h2 with h2 | h2
      ·rw[jR h3,this.1]at h2;cases h2
      ·exact of_decide_eq_true this.2 h2
   refine⟨O++S,ds,_,fun a ha z=>?_,wr hds (r2.same sd),e2,fun v H' s r T=>?_⟩
   ·rcases uWa ha with ha | ha
    ·exact R1.al a ha z
    ·have:=(uUa ha).2;rw[z]at this;cases this
   rw[j9]at r;obtain⟨l0,ys,rfl,hl0,ry⟩:=r;obtain⟨ps0,rfl,el⟩:=wt ry;obtain⟨T1,T2⟩:=T;have lf:∀{a:Addr} {u:HO},j6 H' (O++S) a=some u->H' a=some u:=fun h=>(Jg h).2;have up:∀{b:Addr} {ws:List V},Jq X.K (j6 H' (O++S)) b ws->Jq X.K H' b ws:=fun h=>Jj.tup h;have old:∀{a:Addr} {ys:List V},j6 H' (O++S) a=some (.lst ys)->H1 a≠none->∃m,j0 X.K (j6 H1 O) m ys/\Gw m=true:=fun {a ys} h hne=>by
    cases hu:H1 a with
    | none=>exact vDa hu hne
    | some u=>
     obtain⟨h1,h2⟩:=Jg h;have e0:=s a u hu;rw[h2]at e0;cases e0;have mF:a∈F':=Classical.byContradiction fun y=>h1 (vJa _ (List.mem_filter.mpr ⟨List.mem_range.mpr (hn a _ hu),by rw[hu,Bool.and_eq_true];exact⟨rfl,vAa y⟩⟩));obtain⟨m,xs,g1,g2,g3⟩:=fo a mF;have:=(Jg g1).2;rw[hu]at this;cases this;exact⟨m,g2,g3⟩
   have inner:∀{n:Nat} {a:Addr},ps0[n]?=some a->∃(z:Int) (ys:List V) (b:Addr) (ws:List V) (c:Addr) (us:List V),ks'[n]?=some z/\j6 H' (O++S) a=some (.lst ys)/\ys.head?=some (.ref b)/\Jq X.K H' b ws/\ws.length=2/\ws.head?=some (.ref c)/\Jq X.K H' c us/\us.head?=some (.int z):=fun {n a} h=>by
    have hlen:=el.len;have hn':n < ls.length:=by have:=(uSa h).1;lia
    have hm:ls[n]?=some ls[n]:=by simp[hn']
    obtain⟨p,vs,g1,g2,g3⟩:=el.get hm;rw[h]at g1;cases g1;obtain⟨z,k1,k2⟩:=ww e4 hm;obtain⟨b,ws,c,us,w1,w2,w3,w4,w5,w6⟩:=cK k2 g3;exact⟨z,vs,b,ws,c,us,k1,g2,w1,up w2,w3,w4,up w5,w6⟩
   obtain⟨p0,hp0⟩:∃p0,ps0[0]?=some p0:=by
    cases ps0 with
    | nil=>
     have:=el.len;cases ls with
     | nil=>cases hh.2.1
     | cons _ _=>cases this
    | cons p0 _=>exact⟨p0,rfl⟩
   have hd0:(ps0.map V.ref).head?=some (.ref p0):=by
    rw[List.head?_eq_getElem?,uAa,hp0];rfl
   obtain⟨_,y0,_,_,_,_,_,g0,_⟩:=inner hp0;have fr:∀a∈l0::ps0,H1 a=none:=fun a ha=>Classical.byContradiction fun hne=>by
    rcases uTa ha with rfl | ha
    ·obtain⟨m,m1,m2⟩:=old hl0 hne;obtain⟨ws,w1,_⟩:=az m2 m1 hd0;exact T2 _ _ _ (s.tup (Jj.tup w1)) (lf g0)
    ·obtain⟨n,hn'⟩:=List.getElem?_of_mem ha;obtain⟨z,ys,b,ws,_,_,_,g2,g3,g4,g5,_⟩:=inner hn';obtain⟨m,m1,m2⟩:=old g2 hne;obtain⟨ws',w1,w2⟩:=az m2 m1 g3;exact w2 (by rw[T1 _ _ _ (s.tup (Jj.tup w1)) g4];exact g5)
   have nd:(l0::ps0).Nodup:=by
    refine List.nodup_cons.mpr ⟨fun z=>?_,?_⟩
    ·obtain⟨n,hn'⟩:=List.getElem?_of_mem z;obtain⟨z,ys,b,ws,_,_,_,g2,g3,g4,_⟩:=inner hn';rw[hl0]at g2;cases g2;rw[hd0]at g3;cases g3;exact T2 _ _ _ g4 (lf g0)
    ·unfold List.Nodup;rw[List.pairwise_iff_getElem];intro i j h1 h2 hij he;obtain⟨z,ys,b,ws,c,us,k1,g2,g3,g4,_,g6,g7,g8⟩:=inner (n:=i) (a:=ps0[i]) (by simp[h1]);obtain⟨z',ys',b',ws',c',us',k1',g2',g3',g4',_,g6',g7',g8'⟩:=inner (n:=j) (a:=ps0[i]) (by rw[he];simp[h2]);rw[g2]at g2';cases g2';rw[g3]at g3';cases g3';rw[T1 _ _ _ g4 g4',g6']at g6;cases g6;rw[T1 _ _ _ g7 g7',g8']at g8;cases g8;have l1:=(uSa k1).1;have:=(List.getElem?_inj l1 hh.2.2.1).mp (k1.trans k1'.symm)
     lia
   refine q l0 ps0 H' (s1.trans s) (fun a ha=>s1.none (fr a ha)) nd ⟨lf hl0,Qq (fun b o i h=>?_) (fun a u h=>lf h) hh.2.2.2 el⟩;obtain⟨h1,h2⟩:=Jg h;rw[jR fun z=>?_]
   ·exact h2
   ·rcases uWa z with z | z
    ·obtain⟨vs,hv⟩:=Zg.at (K:=X.K) (Hd:=j6 H' (O++S)) (H:=j6 H' (O++S)) (ls:=ls) ⟨hl0,el⟩ b z;rw[h]at hv;cases hv;cases i
    ·exact h1 (vIa _ z)
  ·cases ed
 | _=>cases ed
noncomputable def Eb:Sl->Bool
 | .lo _=>false
 | _=>true
def Gy(i:Nat)(de:je->Option (List (List D))):DS:=fun Z=>(de Z).bind fun ls=>if (Z.set i .un).all Eb=true then some (.nx (Z.set i (.lo ls)))else none
set_option tactic.hygienic true in
theorem cM{st:Stmt}{i:Nat}{de:je->Option (List (List D))}(h:PS X st (Y5 (tL K de) (Yv i))):PS X st (tS K (Gy i de)):=Jt h fun D U H xx=>by
 obtain⟨H0,O0,Z,O,r,R,ed,f⟩:=xx;obtain⟨ls,e1,ed⟩:=j3 ed;split at ed
 ·rename_i nl;cases ed;refine⟨H0,O0,Z,O,ls,R,e1,fun l ps H' s hn nd lat=>?_⟩;show D.nx _ _;have R2:=(R.forget i).lay (F:=l::ps) s hn fun a ha=>by
   obtain⟨vs,hv⟩:=lat.at a ha;rw[hv];exact fun z=>nomatch z
  have R3:=R2.loSet (i:=i) (l:=l) (ps:=ps) (ls:=ls) (fun j ms _ e=>by
   have:=List.all_eq_true.mp nl _ (wYa e);cases this) lat nd fun a ha=>⟨vIa _ ha,R.keep.none (hn a ha),fun z=>yd.there R (zB z) (hn a ha)⟩
  rw[uL]at R3;exact f _ _ _ R3 (Yb s hn)
 ·cases ed
end
section
variable {K:Fr} {H0 H H':Hp} {O0 O:List Addr} {Z:je} {U:L2.St} {i:Nat} {ls:List (List D)}
def wx{ps:List Addr}{j:Int}{n k:Nat}{p:Addr}(h:ps.length=k)(e:Yp k j=some n)(hp:ps[n]?=some p):atI (ps.map V.ref) j=some (.ref p):=by
 unfold atI;rw[vYa,h,e];show(ps.map V.ref)[n]?=_;rw[uAa,hp];rfl
def Rel.inner{n:Nat}{m:List D}(R:Rel K H0 O0 Z U H O)(hi:Z[i]?=some (.lo ls))(hn:ls[n]?=some m):∃(l:Addr) (ps:List Addr) (p:Addr) (vs:List V),U[i]?=some (some (.ref l))/\H l=some (.lst (ps.map V.ref))/\ps.length=ls.length/\ps[n]?=some p/\H p=some (.lst vs)/\j0 K (j6 H O) m vs/\∀(H2:Hp) (m':List D) (ws:List V),j5 H H2->j0 K (j6 H2 O) m' ws->Rel K H0 O0 (Z.set i (.lo (ls.set n m'))) U (upd H2 p (.lst ws)) O/\j5 (j6 H O) (j6 (upd H2 p (.lst ws)) O):=by
 obtain⟨l,ps,hs,⟨hl,el⟩,nd,fp,un⟩:=R.lo i ls hi;obtain⟨p,vs,hp,hv,rp⟩:=el.get hn;have pm:=wYa hp;have ha:=(fp p (wMa _ pm))
 have nl:l≠p:=fun z=>(List.nodup_cons.mp nd).1 (z▸pm);refine⟨l,ps,p,vs,hs,hl,el.len,hp,hv,rp,fun H2 m' ws s12 rw'=>?_⟩;have R2:=R.grow s12;have R3:=((R2.forget i).poke (u:=.lst ws) (YC R2 hi) ha.1 ha.2.1 fun z=>ha.2.2 (zB z)).loSet (i:=i) (l:=l) (ps:=ps) (ls:=ls.set n m') (fun j ls _=>YC R2 hi j ls)
  ⟨by rw[jq nl];exact s12 _ _ hl,by
   rw[Ja ha.1];exact J4.set ⟨_,jV,rw'⟩ (List.nodup_cons.mp nd).2 hp (fun a _ ne u z=>by rw[jq ne];exact z) (el.mono (jc s12) fun a _ u z=>s12 a u z)⟩ nd fun a h=>⟨(fp a h).1,(fp a h).2.1,fun z=>(fp a h).2.2 (zB z)⟩
 rw[uL,wl hs]at R3;exact⟨R3,by rw[Ja ha.1];exact jc s12⟩
def Rel.outer(R:Rel K H0 O0 Z U H O)(hi:Z[i]?=some (.lo ls)):∃(l:Addr) (ps:List Addr),U[i]?=some (some (.ref l))/\H l=some (.lst (ps.map V.ref))/\J4 K (j6 H O) H ps ls/\ps.Nodup/\
  (∀(H2:Hp) (F ps':List Addr) (ls':List (List D)),j5 H H2->(∀a∈F,H a=none)->(∀a∈F,H2 a≠none)->ps'.Nodup->(∀a∈ps',a∈ps \/ a∈F)->J4 K (j6 H2 (F++O)) H2 ps' ls'->Rel K H0 O0 (Z.set i (.lo ls')) U (upd H2 l (.lst (ps'.map V.ref))) (F++O)/\j5 (j6 H O) (j6 (upd H2 l (.lst (ps'.map V.ref))) (F++O)))/\
  ∀(H2:Hp) (F ps':List Addr) (l':Addr) (ls':List (List D)),j5 H H2->(∀a∈F,H a=none)->(∀a∈F,H2 a≠none)->l'∈F->H2 l'=some (.lst (ps'.map V.ref))->(l'::ps').Nodup->(∀a∈ps',a∈ps \/ a∈F)->J4 K (j6 H2 (F++O)) H2 ps' ls'->Rel K H0 O0 (Z.set i (.lo ls')) (U.set i (some (.ref l'))) H2 (F++O)/\j5 (j6 H O) (j6 H2 (F++O)):=by
 obtain⟨l,ps,hs,⟨hl,el⟩,nd,fp,un⟩:=R.lo i ls hi;have nd2:=List.nodup_cons.mp nd;have old:∀F a,a∈l::ps->a∈F++O/\H0 a=none/\¬yd (Z.set i .un) U a:=fun F a h=>⟨vJa _ (fp a h).1,(fp a h).2.1,fun z=>(fp a h).2.2 (zB z)⟩
 have new:∀F,(∀a∈F,H a=none)->∀a∈F,a∈F++O/\H0 a=none/\¬yd (Z.set i .un) U a:=fun F hn a h=>⟨vIa _ h,R.keep.none (hn a h),fun z=>yd.there R (zB z) (hn a h)⟩
 have both:∀F,(∀a∈F,H a=none)->∀a,a∈ps \/ a∈F->a∈F++O/\H0 a=none/\¬yd (Z.set i .un) U a:=fun F hn a h=>h.elim (fun z=>old F a (wMa _ z)) (new F hn a);refine⟨l,ps,hs,hl,el,nd2.2,fun H2 F ps' ls' s hn hA nd' hps el'=>?_,fun H2 F ps' l' ls' s hn hA hl' h2 nd' hps el'=>?_⟩
 ·have R2:=R.lay s hn hA;have lO:=old F l wNa;have ln:l∉ps':=fun z=>(hps l z).elim nd2.1 fun y=>by rw[hn l y]at hl;cases hl
  have R3:=((R2.forget i).poke (u:=.lst (ps'.map V.ref)) (YC R2 hi) lO.1 lO.2.1 lO.2.2).loSet (i:=i) (l:=l) (ps:=ps') (ls:=ls') (fun j ls _=>YC R2 hi j ls)
   ⟨jV,by
    rw[Ja lO.1];exact el'.mono (j5.refl _) fun a h u z=>by rw[jq fun y=>ln (by rw[<-y];exact h)];exact z⟩ (List.nodup_cons.mpr ⟨ln,nd'⟩) fun a h=>by
     rcases uTa h with rfl | h
     ·exact lO
     ·exact both F hn a (hps a h)
  rw[uL,wl hs]at R3;exact⟨R3,by rw[Ja lO.1];exact Yb s hn⟩
 ·have R2:=R.lay s hn hA;have R3:=(R2.forget i).loSet (i:=i) (l:=l') (ps:=ps') (ls:=ls') (fun j ls _=>YC R2 hi j ls) ⟨h2,el'⟩ nd' fun a h=>by
   rcases uTa h with rfl | h
   ·exact new F hn _ hl'
   ·exact both F hn a (hps a h)
  rw[uL]at R3;exact⟨R3,Yb s hn⟩
end
section
variable {X:Cx} {K:Fr} {de dj dh:DE} {df:DO} {st:Stmt} {i:Nat}
def Gz(i:Nat)(dj de:DE):DS:=fun Z=>match Z[i]? with
 | some (.lo ls)=>(dj Z).bind fun j=>(de Z).bind fun d=>match j with
  | .int j=>(Yp ls.length j).bind fun n=>(ls[n]?).bind fun m=>if m.length < sizeLine then some (.nx (Z.set i (.lo (ls.set n (m++[d])))))else none
  | _=>none
 | _=>none
set_option tactic.hygienic true in
theorem cP(h:PS X st (VG (Ge K "list" Us (kH (KF K) (yx i) (tR K dj)) (yH (tE K de) ZU)))):PS X st (tS K (Gz i dj de)):=Jt h fun D U H xx=>by
 obtain⟨H0,O0,Z,O,r,R,ed,f⟩:=xx;unfold Gz at ed;split at ed
 ·rename_i ls hi;obtain⟨j,e1,ed⟩:=j3 ed;obtain⟨d,e2,ed⟩:=j3 ed;cases j with
  | int j=>
   obtain⟨n,e3,ed⟩:=j3 ed;obtain⟨m,e4,ed⟩:=j3 ed;split at ed
   ·rename_i hz;cases ed;obtain⟨l,ps,p,vs,hs,hl,hlen,hp,hv,rp,fin⟩:=R.inner hi e4;refine⟨_,hs,H0,O0,Z,O,_,R,e1,fun w H1 s1 r1=>?_⟩;refine⟨l,_,j,.ref p,rfl,r1.int,jG.of (s1 _ _ hl),wx hlen e3 hp,.inl ⟨rfl,_,jG.of (s1 _ _ hv)⟩,H0,O0,Z,O,d,R.grow s1,e2,fun v H2 s2 rv=>?_⟩;have s12:=s1.trans s2;obtain⟨R3,s4⟩:=fin H2 (m++[d]) _ s12 ((rp.same (jc s12)).snoc rv);exact⟨p,vs,v,rfl,rfl,s12 _ _ hv,by rw[rp.len];exact hz,f _ _ O R3 s4⟩
   ·cases ed
  | _=>cases ed
 ·cases ed
noncomputable def UE(i:Nat)(dj:DE)(df:DO):DS:=fun Z=>match Z[i]? with
 | some (.lo ls)=>(dj Z).bind fun j=>(df Z).bind fun o=>match j,o with
  | .int k,.lst m=>if 0<=k/\k<=(ls.length:Int)/\ls.length < 1000000 then some (.nx (Z.set i (.lo (ls.take k.toNat++m::ls.drop k.toNat))))else none
  | _,_=>none
 | _=>none
set_option tactic.hygienic true in
theorem cR(h:PS X st (VG (Ge K "list" UB (yx i) (yH (tR K dj) (yH (tF K df) ZU))))):PS X st (tS K (UE i dj df)):=Jt h fun D U H xx=>by
 obtain⟨H0,O0,Z,O,r,R,ed,f⟩:=xx;unfold UE at ed;split at ed
 ·rename_i ls hi;obtain⟨j,e1,ed⟩:=j3 ed;obtain⟨o,e2,ed⟩:=j3 ed;cases j with
  | int k=>
   cases o with
   | lst m=>
   dsimp only at ed;split at ed
   ·rename_i hz;cases ed;obtain⟨l,ps,hs,hl,el,nd,fin,_⟩:=R.outer hi;refine⟨_,hs,.inl ⟨rfl,_,jG.of hl⟩,H0,O0,Z,O,_,R,e1,fun w H1 s1 r1=>⟨H0,O0,Z,O,_,R.grow s1,e2,fun q H2 s2 hq ow=>?_⟩⟩;obtain⟨vs,hv,rp⟩:=ow;have s12:=s1.trans s2;have hn:∀a∈[q],H a=none:=fun a h=>by rw[List.mem_singleton.mp h];exact s1.none hq
    have nq:q∉ps:=fun z=>by
     obtain⟨us,hu⟩:=el.at q z;rw[s1.none hq]at hu;cases hu
    have el2:=el.mono (Yb s12 hn) fun a _ u z=>s12 a u z;obtain⟨R3,s4⟩:=fin H2 [q] (ps.take k.toNat++q::ps.drop k.toNat) (ls.take k.toNat++m::ls.drop k.toNat) s12 hn (fun a h=>by rw[List.mem_singleton.mp h,hv];exact fun z=>nomatch z)
     (by
      have pm:(q::ps).Perm (ps.take k.toNat++q::ps.drop k.toNat):=by
       have:=(List.perm_middle (a:=q) (l₁:=ps.take k.toNat) (l₂:=ps.drop k.toNat)).symm;rwa [List.take_append_drop]at this
      exact pm.nodup_iff.mp (List.nodup_cons.mpr ⟨nq,nd⟩))
     (fun a h=>by
      rcases uWa h with h | h
      ·exact .inl (vVa h)
      ·rcases uTa h with h | h
       ·exact .inr (List.mem_singleton.mpr h)
       ·exact .inl (List.mem_of_mem_drop h))
     ((el2.take _).app ⟨⟨vs,hv,rp⟩,el2.drop _⟩)
    rw[uDa,vWa,List.map_take,List.map_drop]at R3 s4;exact⟨l,_,k,.ref q,rfl,by rw[r1.int],s12 _ _ hl,hz.1,by rw[vYa,el.len];exact hz.2.1,by rw[vYa,el.len];exact hz.2.2,f _ _ _ R3 s4⟩
   ·cases ed
      | _=>cases ed
  | _=>cases ed
 ·cases ed
def UF(i:Nat)(dj dh de:DE):DS:=fun Z=>match Z[i]? with
 | some (.lo ls)=>(dj Z).bind fun j=>(dh Z).bind fun h=>(de Z).bind fun d=>match j,h with
  | .int j,.int h=>(Yp ls.length j).bind fun n=>(ls[n]?).bind fun m=>if 0<=h/\h<=(m.length:Int)/\m.length < 1000000 then some (.nx (Z.set i (.lo (ls.set n (m.take h.toNat++d::m.drop h.toNat)))))else none
  | _,_=>none
 | _=>none
set_option tactic.hygienic true in
theorem cU(h:PS X st (VG (Ge K "list" UB (kH (KF K) (yx i) (tR K dj)) (yH (tR K dh) (yH (tE K de) ZU))))):PS X st (tS K (UF i dj dh de)):=Jt h fun D U H xx=>by
 obtain⟨H0,O0,Z,O,r,R,ed,f⟩:=xx;unfold UF at ed;split at ed
 ·rename_i ls hi;obtain⟨j,e1,ed⟩:=j3 ed;obtain⟨k,e2,ed⟩:=j3 ed;obtain⟨d,e3,ed⟩:=j3 ed;cases j with
  | int j=>
   cases k with
   | int k=>
   obtain⟨n,e4,ed⟩:=j3 ed;obtain⟨m,e5,ed⟩:=j3 ed;split at ed
   ·rename_i hz;cases ed;obtain⟨l,ps,p,vs,hs,hl,hlen,hp,hv,rp,fin⟩:=R.inner hi e5;refine⟨_,hs,H0,O0,Z,O,_,R,e1,fun w H1 s1 r1=>?_⟩;refine⟨l,_,j,.ref p,rfl,r1.int,jG.of (s1 _ _ hl),wx hlen e4 hp,.inl ⟨rfl,_,jG.of (s1 _ _ hv)⟩,H0,O0,Z,O,_,R.grow s1,e2,fun w2 H2 s2 r2=>⟨H0,O0,Z,O,d,R.grow (s1.trans s2),e3,fun v H3 s3 rv=>?_⟩⟩;have s13:=(s1.trans s2).trans s3;have rp3:=rp.same (jc s13);refine⟨p,vs,k,v,rfl,by rw[r2.int],s13 _ _ hv,hz.1,by rw[rp.len];exact hz.2.1,by rw[rp.len];exact hz.2.2,?_⟩;obtain⟨R3,s4⟩:=fin H3 (m.take k.toNat++d::m.drop k.toNat) _ s13 (j0.app (rp3.take k.toNat) (j0.cons rv (rp3.drop k.toNat)));exact f _ _ O R3 s4
   ·cases ed
      | _=>cases ed
  | _=>cases ed
 ·cases ed
def UG(i:Nat)(dj dh de:DE):DS:=fun Z=>match Z[i]? with
 | some (.lo ls)=>(de Z).bind fun d=>(dj Z).bind fun j=>(dh Z).bind fun h=>match j,h with
  | .int j,.int h=>(Yp ls.length j).bind fun n=>(ls[n]?).bind fun m=>(Yp m.length h).bind fun k=>some (.nx (Z.set i (.lo (ls.set n (m.set k d)))))
  | _,_=>none
 | _=>none
set_option tactic.hygienic true in
theorem cY(h:PS X st (Y5 (tE K de) (Kz (kH (KF K) (yx i) (tR K dj)) (tR K dh) Ki))):PS X st (tS K (UG i dj dh de)):=Jt h fun D U H xx=>by
 obtain⟨H0,O0,Z,O,r,R,ed,f⟩:=xx;unfold UG at ed;split at ed
 ·rename_i ls hi;obtain⟨d,e3,ed⟩:=j3 ed;obtain⟨j,e1,ed⟩:=j3 ed;obtain⟨k,e2,ed⟩:=j3 ed;cases j with
  | int j=>
   cases k with
   | int k=>
   obtain⟨n,e4,ed⟩:=j3 ed;obtain⟨m,e5,ed⟩:=j3 ed;obtain⟨h,e6,ed⟩:=j3 ed;cases ed;obtain⟨l,ps,p,vs,hs,hl,hlen,hp,hv,rp,fin⟩:=R.inner hi e5;refine⟨H0,O0,Z,O,d,R,e3,fun v H1 s1 rv=>⟨_,hs,H0,O0,Z,O,_,R.grow s1,e1,fun w H2 s2 r2=>?_⟩⟩;have s12:=s1.trans s2;refine⟨l,_,j,.ref p,rfl,r2.int,jG.of (s12 _ _ hl),wx hlen e4 hp,H0,O0,Z,O,_,R.grow s12,e2,fun w2 H3 s3 r3=>?_⟩;have s13:=s12.trans s3;obtain⟨R3,s4⟩:=fin H3 (m.set h d) _ s13 ((rp.same (jc s13)).set (rv.same (jc (s2.trans s3))) h);exact⟨p,vs,k,h,rfl,r3.int,s13 _ _ hv,by rw[rp.len];exact e6,f _ _ O R3 s4⟩
      | _=>cases ed
  | _=>cases ed
 ·cases ed
def vR(i:Nat)(dj:DE)(df:DO):DS:=fun Z=>match Z[i]? with
 | some (.lo ls)=>(df Z).bind fun o=>(dj Z).bind fun j=>match j,o with
  | .int j,.lst m=>(Yp ls.length j).bind fun n=>some (.nx (Z.set i (.lo (ls.set n m))))
  | _,_=>none
 | _=>none
theorem J4.put{Hd H:Hp}{q:Addr}{m:List D}(hq:∃vs,H q=some (.lst vs)/\j0 K Hd m vs):∀{as:List Addr} {ls:List (List D)} (n:Nat),J4 K Hd H as ls->J4 K Hd H (as.set n q) (ls.set n m)
 | [],[],_,h=>h
 | _::_,_::_,0,h=>⟨hq,h.2⟩
 | _::_,_::_,n+1,h=>⟨h.1,J4.put hq n h.2⟩
 | [],_::_,_,h=>h.elim
 | _::_,[],_,h=>h.elim
theorem kY{q:Addr}:∀{as:List Addr} (n:Nat),as.Nodup->q∉as->(as.set n q).Nodup
 | [],_,_,_=>List.nodup_nil
 | a::as,0,h,hq=>List.nodup_cons.mpr ⟨fun z=>hq (wMa _ z),(List.nodup_cons.mp h).2⟩
 | a::as,n+1,h,hq=>by
  obtain⟨h1,h2⟩:=List.nodup_cons.mp h;refine List.nodup_cons.mpr ⟨fun z=>?_,kY n h2 fun z=>hq (wMa _ z)⟩;rcases List.mem_or_eq_of_mem_set z with z | z
  ·exact h1 z
  ·exact hq (z▸wNa)
set_option tactic.hygienic true in
theorem cZ(h:PS X st (Y5 (tF K df) (Kz (yx i) (tR K dj) Ki))):PS X st (tS K (vR i dj df)):=Jt h fun D U H xx=>by
 obtain⟨H0,O0,Z,O,r,R,ed,f⟩:=xx;unfold vR at ed;split at ed
 ·rename_i ls hi;obtain⟨o,e2,ed⟩:=j3 ed;obtain⟨j,e1,ed⟩:=j3 ed;cases j with
  | int j=>
   cases o with
   | lst m=>
   obtain⟨n,e4,ed⟩:=j3 ed;cases ed;obtain⟨l,ps,hs,hl,el,nd,fin,_⟩:=R.outer hi;refine⟨H0,O0,Z,O,_,R,e2,fun q H1 s1 hq ow=>⟨_,hs,H0,O0,Z,O,_,R.grow s1,e1,fun w H2 s2 r2=>?_⟩⟩;obtain⟨vs,hv,rp⟩:=ow;have s12:=s1.trans s2;have hn:∀a∈[q],H a=none:=fun a h=>by rw[List.mem_singleton.mp h];exact hq
   have nq:q∉ps:=fun z=>by
    obtain⟨us,hu⟩:=el.at q z;rw[hq]at hu;cases hu
   obtain⟨R3,s4⟩:=fin H2 [q] (ps.set n q) (ls.set n m) s12 hn (fun a h=>by rw[List.mem_singleton.mp h,s2 _ _ hv];exact fun z=>nomatch z) (kY n nd nq) (fun a h=>(List.mem_or_eq_of_mem_set h).imp id fun z=>List.mem_singleton.mpr z)
    (J4.put ⟨vs,s2 _ _ hv,rp.same (jc s2)⟩ n (el.mono (Yb s12 hn) fun a _ u z=>s12 a u z))
   rw[List.map_set]at R3 s4;exact⟨l,_,j,n,rfl,r2.int,s12 _ _ hl,by rw[vYa,el.len];exact e4,f _ _ _ R3 s4⟩
      | _=>cases ed
  | _=>cases ed
 ·cases ed
noncomputable def UH(i:Nat)(dj:DE):DS:=fun Z=>match Z[i]? with
 | some (.lo ls)=>(dj Z).bind fun j=>match j with
  | .int j=>if 0<=j/\j < (ls.length:Int)/\ls.length < 1000000 then some (.nx (Z.set i (.lo (ls.eraseIdx j.toNat))))else none
  | _=>none
 | _=>none
theorem J4.erase{Hd H:Hp}:∀{as:List Addr} {ls:List (List D)} (n:Nat),J4 K Hd H as ls->J4 K Hd H (as.eraseIdx n) (ls.eraseIdx n)
 | [],[],_,h=>h
 | _::_,_::_,0,h=>h.2
 | _::_,_::_,n+1,h=>⟨h.1,J4.erase n h.2⟩
 | [],_::_,_,h=>h.elim
 | _::_,[],_,h=>h.elim
theorem zW{α β:Type}(f:α->β):∀(l:List α) (n:Nat),(l.map f).eraseIdx n=(l.eraseIdx n).map f
 | [],_=>rfl
 | _::_,0=>rfl
 | x::l,n+1=>congrArg (f x::·) (zW f l n)
set_option tactic.hygienic true in
theorem c_(h:PS X st (VG (Ge K "list" Q2 (yx i) (yH (tR K dj) ZU)))):PS X st (tS K (UH i dj)):=Jt h fun D U H xx=>by
 obtain⟨H0,O0,Z,O,r,R,ed,f⟩:=xx;unfold UH at ed;split at ed
 ·rename_i ls hi;obtain⟨j,e1,ed⟩:=j3 ed;cases j with
  | int j=>
   dsimp only at ed;split at ed
   ·rename_i hz;cases ed;obtain⟨l,ps,hs,hl,el,nd,fin,_⟩:=R.outer hi;refine⟨_,hs,.inl ⟨rfl,_,jG.of hl⟩,H0,O0,Z,O,_,R,e1,fun w H1 s1 r1=>?_⟩;have hlen:=el.len;have hp:j.toNat < ps.length:=by lia
    obtain⟨R3,s4⟩:=fin H1 [] (ps.eraseIdx j.toNat) (ls.eraseIdx j.toNat) s1 (fun a h=>by cases h) (fun a h=>by cases h) (nd.sublist (List.eraseIdx_sublist _ _)) (fun a h=>.inl (List.mem_of_mem_eraseIdx h)) ((el.mono (jc s1) fun a _ u z=>s1 a u z).erase _);refine⟨l,_,j,j.toNat,V.ref ps[j.toNat],rfl,by rw[r1.int],s1 _ _ hl,by lia,by lia,?_,by rw[uAa];simp[hp],?_⟩
    ·unfold seqIndex?;simp
     lia
    ·rw[zW];exact f _ _ _ R3 s4
   ·cases ed
  | _=>cases ed
 ·cases ed
end
section
variable {X:Cx} {K:Fr} {df:DO} {st:Stmt} {i:Nat}
def Qs(K:Fr)(i:Nat)(ds:DS):TS:=fun E U H=>tS K ds { E with nx:=fun U' H'=>∃v,U'[i]?=some (some v)/\E.rt v H' } U H
def C0{e:Expr}{pos:Pos}(h:PE X e (yx i)):Jn X [.Return (some e) pos] (Qs K i ju):=Vn (Wm (Ga h)) fun D U H xx=>by
 obtain⟨H0,O0,Z,O,r,R,ed,f⟩:=xx;cases ed;exact f U H O R (j5.refl _)
def AV{rest:List Stmt}{s1 s2:DS}(h1:PS X st (tS K s1))(h2:Jn X rest (Qs K i s2)):Jn X (st::rest) (Qs K i (j4 s1 s2)):=Vn (Ky h1 h2) fun D U H xx=>by
 obtain⟨H0,O0,Z,O,r,R,ed,f⟩:=xx;obtain⟨r1,e1,e2⟩:=j3 ed;refine⟨H0,O0,Z,O,r1,R,e1,?_⟩;cases r1 with
 | nx Z1=>exact fun U' H' O' R' t=>⟨H0,O0,Z1,O',r,R',e2,f.mono t⟩
 | bk Z1=>cases e2;exact f
 | ct Z1=>cases e2;exact f
 | rt d=>cases e2;exact f
 | rf o=>cases e2;exact f
def Qt(K:Fr)(F:List (List D)->List D->Option (List (List D))):Sp:=fun vs H Q _=>∃(O:List Addr) (l:Addr) (ps:List Addr) (ls:List (List D)) (d:D) (ds:List D) (v:V) (us:List V) (ms:List (List D)),vs=v::.ref l::us/\Zg K H (j6 H (l::ps++O)) l ps ls/\(l::ps).Nodup/\(∀a∈O,H a≠none/\a∉l::ps)/\j0 K (j6 H (l::ps++O)) (d::ds) (v::us)/\F ls (d::ds)=some ms/\
 ∀l' ps' H',j5 (j6 H (l::ps)) H'->(l'::ps').Nodup->(∀a∈l'::ps',a∈l::ps \/ H a=none)->Zg K H' (j6 H' (l'::ps'++O)) l' ps' ms->Q (.ref l') H'
noncomputable def C1(ls:List (List D))(ds:List D)(n:Nat):je:=match ds with
 | d::ds=>.cl d::.lo ls::(ds.map Sl.cl++List.replicate n .un)
 | []=>[]
def wy(m n:Nat)(body:DS):List (List D)->List D->Option (List (List D)):=fun ls ds=>if ds.length=m+1 then(body (C1 ls ds n)).bind fun r=>(match r with
 | .nx Z=>(match (Z[1]?:Option Sl)with
  | some (.lo ms)=>some ms
  | _=>none)
 | _=>none)else none
def FE{H:Hp}{O:List Addr}{l:Addr}{ps:List Addr}{ls:List (List D)}{d:D}{ds:List D}{v:V}{us:List V}{n:Nat}(h1:Zg K H (j6 H (l::ps++O)) l ps ls)(nd:(l::ps).Nodup)(al:∀a∈O,H a≠none/\a∉l::ps)(rp:j0 K (j6 H (l::ps++O)) (d::ds) (v::us)):
  Rel K (j6 H (l::ps)) O (C1 ls (d::ds) n) ((v::.ref l::us).map some++List.replicate n none) H (l::ps++O):=by
 rw[j0]at rp;obtain⟨v',us',e,r0,r1⟩:=rp;cases e;have no:∀(j:Nat) (t:Sl),(.cl d::.un::(ds.map Sl.cl++List.replicate n .un):je)[j]?=some t->(∃e,t=.cl e) \/ t=.un:=fun j t e=>by
  have:=wYa e;simp at this;rcases this with rfl | rfl | ⟨e,_,rfl⟩ | ⟨_,rfl⟩
  ·exact .inl ⟨_,rfl⟩
  ·exact .inr rfl
  ·exact .inl ⟨_,rfl⟩
  ·exact .inr rfl
 have R:Rel K (j6 H (l::ps)) O (.cl d::.un::(ds.map Sl.cl++List.replicate n .un)) ((v::.ref l::us).map some++List.replicate n none) H (l::ps++O):=by
  refine⟨?_,fun a h=>vJa _ h,fun a h=>(uWa h).elim (fun z=>.inr (ZN z)) .inl,fun a h=>?_,fun a h=>?_,Jj,fun j e hj=>?_,fun j e hj=>?_,fun j q o hj=>?_,fun j k q q' o o' a hj=>?_,fun j ms hj=>?_⟩
  ·have:=r1.len;simp
   lia
  ·rw[jR (al a h).2];exact(al a h).1
  ·rcases uWa h with h | h
   ·obtain⟨ws,hw⟩:=h1.at a h;rw[hw];exact fun z=>nomatch z
   ·exact(al a h).1
  ·match j,hj with
   | 0,hj=>cases hj;exact⟨v,rfl,r0⟩
   | 1,hj=>cases hj
   | j+2,hj=>
    have hj:(ds.map Sl.cl++List.replicate n .un)[j]?=some (.cl e):=hj;by_cases q:j < ds.length
    ·rw[uRa (by rw[vYa];exact q),uAa]at hj;obtain⟨e',e1,e2⟩:=Option.map_eq_some_iff.mp hj;cases e2;obtain⟨w,w1,w2⟩:=r1.get e1;refine⟨w,?_,w2⟩;show(us.map some++List.replicate n none)[j]?=_;rw[uRa (by rw[vYa];exact(List.getElem?_eq_some_iff.mp w1).1),uAa,w1];rfl
    ·rw[List.getElem?_append_right (by rw[vYa];lia)]at hj;have:=wYa hj;simp at this
  all_goals first
   | (rcases no j _ hj with⟨_,z⟩ | z <;> cases z)
 have R3:=R.loSet (i:=1) (l:=l) (ps:=ps) (ls:=ls) (fun j ms _ e=>by rcases no j _ e with⟨_,z⟩ | z <;> cases z) h1 nd fun a h=>⟨vIa _ h,ZN h,fun⟨j,q,o,e,_⟩=>by rcases no j _ e with⟨_,z⟩ | z <;> cases z⟩
 exact R3
variable {P:Program} {w:World} {mg:Str->Option Value} {base:Heap} {x qual:Str} {f:Addr} {fd:FuncData} {N ps:List Str} {k n:Nat} {body:DS}
set_option tactic.hygienic true in
theorem FF{m:Nat}(F:Fun K x qual st f fd)(S:FnScope N ps (defScope st))(hm:m+2=ps.length)(hn:N.length - ps.length=n)
  (hb:∀(cdv:Value) (A:Around) (outer:List Env) (s:Shared) (H:Hp) (E:XK),Room k (A.deeper (envOfC qual (defScope st) s.heap.objs.size f cdv))->Jn (Zc Y7 P w K mg base N qual (defScope st) f cdv A outer s H E).nox (defBody st) (Qs K 1 body)):
  FnOk P w K mg base Y7 (k+1) f fd ps (Qt K (wy m n body)):=by
 refine F.ok S (fun vs H Q E h=>?_) fun cdv A outer s H vs Q E hr h=>?_
 ·obtain⟨O,l,ps',ls,d,ds,v,us,ms,rfl,_,_,_,rp,e,_⟩:=h;have:=rp.len;unfold wy at e;split at e
  ·rename_i hl;simp at hl this⊢
   lia
  ·cases e
 ·obtain⟨O,l,ps',ls,d,ds,v,us,ms,rfl,h1,nd,al,rp,e,q⟩:=h;have hlen:=rp.len;unfold wy at e;split at e
  case isFalse=>cases e
  rename_i hl;refine⟨_,hb cdv A outer s H E hr,?_⟩;obtain⟨r,e1,e2⟩:=j3 e;have hl:N.length - (v::V.ref l::us).length=n:=by simp at hl hlen⊢;lia
  unfold L2.Yw;rw[hl];refine⟨_,O,_,_,r,FE h1 nd al rp,e1,?_⟩;cases r with
  | nx Z=>
   dsimp only at e2;split at e2
   ·rename_i ms' he;cases e2;intro U' H' O' R' _;obtain⟨l',ps'',hs,lat,nd',fp,_⟩:=R'.lo 1 _ he;refine⟨_,hs,q l' ps'' H' R'.keep nd' (fun a ha=>?_) ⟨lat.1,lat.2.mono (JE fun a h=>(uWa h).elim (fun z=>(fp a z).1) (R'.sub a)) fun _ _ _ z=>z⟩⟩;have:=(fp a ha).2.1;by_cases y:a∈l::ps'
    ·exact .inl y
    ·rw[jR y]at this;exact .inr this
   ·cases e2
  | _=>cases e2
end
section
variable {K:Fr} {H0 H H':Hp} {O0 O O':List Addr} {Z:je} {U:L2.St} {i:Nat} {ls:List (List D)}
def Rel.move(R:Rel K H0 O0 Z U H O)(nl:∀(j:Nat) (ms:List (List D)),Z[j]?≠some (.lo ms))(ss:j5 (j6 H O) (j6 H' O'))(kf:∀a,yd Z U a->a∈O'/\∀u,H a=some u->H' a=some u)(keep:j5 H0 H')(sub:∀a∈O0,a∈O')(fr:∀a∈O',a∈O0 \/ H0 a=none)(al:∀a∈O',H' a≠none):Rel K H0 O0 Z U H' O' where
 len:=R.len
 sub:=sub
 fr:=fr
 al0:=R.al0
 al:=al
 keep:=keep
 cl:=fun i d e=>by obtain⟨v,a,b⟩:=R.cl i d e;exact⟨v,a,b.same ss⟩
 bo:=R.bo
 ow:=fun i q o e=>by
  obtain⟨l,z,a,b,d,f⟩:=R.ow i q o e;have:=kf l ⟨i,q,o,e,a⟩;exact⟨l,z,a,b.same this.2 ss,this.1,f⟩
 dist:=R.dist
 lo:=fun j ms e=>vDa e (nl j ms)
def Rel.swap(R:Rel K H0 O0 Z U H O)(hi:Z[i]?=some (.lo ls)):∃(l:Addr) (ps:List Addr) (O1:List Addr),U[i]?=some (some (.ref l))/\Zg K H (j6 H (l::ps++O1)) l ps ls/\(l::ps).Nodup/\(∀a∈O1,H a≠none/\a∉l::ps)/\(∀a∈l::ps++O1,a∈O)/\
  ∀(H1 H':Hp) (l':Addr) (ps':List Addr) (ms:List (List D)),j5 H H1->j5 (j6 H1 (l::ps)) H'->(l'::ps').Nodup->(∀a∈l'::ps',a∈l::ps \/ H1 a=none)->Zg K H' (j6 H' (l'::ps'++O1)) l' ps' ms->Rel K H0 O0 (Z.set i (.lo ms)) (U.set i (some (.ref l'))) H' (l'::ps'++O1)/\j5 (j6 H O) (j6 H' (l'::ps'++O1)):=by
 obtain⟨l,ps,hs,lat,nd,fp,un⟩:=R.lo i ls hi;have inO:∀a∈l::ps++O.filter (fun a=>decide (a∉l::ps)),a∈O:=fun a h=>(uWa h).elim (fun z=>(fp a z).1) fun z=>(uUa z).1;refine⟨l,ps,O.filter fun a=>decide (a∉l::ps),hs,⟨lat.1,lat.2.mono (JE inO) fun _ _ _ z=>z⟩,nd,fun a h=>⟨R.al a (uUa h).1,of_decide_eq_true (uUa h).2⟩,inO,fun H1 H' l' ps' ms s1 s2 nd' hn at2=>?_⟩;have kp:∀a u,a∉l::ps->H a=some u->H' a=some u:=fun a u na z=>s2 a u (by rw[jR na];exact s1 _ _ z);have nn:∀a∈l'::ps',H0 a=none/\(a∈O \/ H a=none):=fun a h=>(hn a h).elim (fun z=>⟨(fp a z).2.1,.inl (fp a z).1⟩) fun z=>⟨R.keep.none (s1.none z),.inr (s1.none z)⟩
 have ss:j5 (j6 H O) (j6 H' (l'::ps'++O.filter fun a=>decide (a∉l::ps))):=fun b u h=>by
  obtain⟨b1,b2⟩:=Jg h;rw[jR fun z=>?_]
  ·exact kp b u (fun z=>b1 (fp b z).1) b2
  ·rcases uWa z with z | z
   ·rcases(nn b z).2 with y | y
    ·exact b1 y
    ·rw[y]at b2;cases b2
   ·exact b1 (uUa z).1
 have ft:∀a,yd (Z.set i .un) U a->a∈O/\a∉l::ps:=fun a z=>by
  have z':=zB z;refine⟨?_,fun y=>(fp a y).2.2 z'⟩;obtain⟨j,q,o,e,y⟩:=z';obtain⟨l2,_,h1,_,h3,_⟩:=R.ow j q o e;rw[y]at h1;cases h1;exact h3
 have R2:=(R.forget i).move (H':=H') (O':=l'::ps'++O.filter fun a=>decide (a∉l::ps)) (YC R hi) ss (fun a z=>⟨vJa _ (List.mem_filter.mpr ⟨(ft a z).1,vAa (ft a z).2⟩),fun u y=>kp a u (ft a z).2 y⟩)
  (fun b u h=>kp b u (fun z=>by rw[(fp b z).2.1]at h;cases h) (R.keep _ _ h)) (fun a h=>vJa _ (List.mem_filter.mpr ⟨R.sub a h,vAa fun z=>R.al0 a h (fp a z).2.1⟩))
  (fun a h=>(uWa h).elim (fun z=>.inr (nn a z).1) fun z=>R.fr a (uUa z).1) (fun a h=>by
   rcases uWa h with h | h
   ·obtain⟨ws,hw⟩:=at2.at a h;rw[hw];exact fun z=>nomatch z
   ·obtain⟨h1,h2⟩:=uUa h;cases hu:H a with
    | none=>exact vDa hu (R.al a h1)
    | some u=>rw[kp a u (of_decide_eq_true h2) hu];exact fun z=>nomatch z)
 have R3:=R2.loSet (i:=i) (l:=l') (ps:=ps') (ls:=ms) (fun j ls _=>YC R hi j ls) at2 nd' fun a h=>⟨vIa _ h,(nn a h).1,fun z=>by
  rcases hn a h with y | y
  ·exact(ft a z).2 y
  ·exact yd.there R (zB z) (s1.none y)⟩
 rw[uL]at R3;exact⟨R3,ss⟩
end
section
variable {X:Cx} {K:Fr} {st:Stmt} {i k:Nat} {x:Str} {ps:List Str} {p pos:Pos} {e0 e1 e2:Expr} {d0 d2:DE}
noncomputable def zX(i:Nat)(F:List (List D)->List D->Option (List (List D)))(d0 d2:DE):DS:=fun Z=>match Z[i]? with
 | some (.lo ls)=>(d0 Z).bind fun a=>(d2 Z).bind fun b=>(F ls [a,b]).bind fun ms=>some (.nx (Z.set i (.lo ms)))
 | _=>none
def Wq(K:Fr)(i:Nat)(F:List (List D)->List D->Option (List (List D)))(d0 d2:DE):TE:=qe (Qt K F) [] E0 (yH (tE K d0) (yH (yx i) (yH (tE K d2) ZU)))
set_option tactic.hygienic true in
theorem AW{F:List (List D)->List D->Option (List (List D))}(h:PS X st (Y5 (Wq K i F d0 d2) (Yv i))):PS X st (tS K (zX i F d0 d2)):=Jt h fun D U H xx=>by
 obtain⟨H0,O0,Z,O,r,R,ed,f⟩:=xx;unfold zX at ed;split at ed
 ·rename_i ls hi;obtain⟨a,q0,ed⟩:=j3 ed;obtain⟨b,q2,ed⟩:=j3 ed;obtain⟨ms,q4,ed⟩:=j3 ed;cases ed;obtain⟨l,_,_,hs,_⟩:=R.swap hi;refine⟨H0,O0,Z,O,a,R,q0,fun v0 H1 s1 r0=>⟨_,hs,H0,O0,Z,O,b,R.grow s1,q2,fun v2 H3 s23 r2=>?_⟩⟩;have s13:=s1.trans s23;obtain⟨l',ps,O1,hs',lat,nd,al,sub,fin⟩:=(R.grow s13).swap hi;rw[hs]at hs';cases hs';have sd:j5 (j6 H3 O) (j6 H3 (l::ps++O1)):=JE sub;refine⟨O1,l,ps,ls,a,[b],v0,[v2],ms,rfl,lat,nd,al,j0.cons ((r0.same (jc s23)).same sd) (j0.cons (r2.same sd) j0.nil),q4,fun l' ps' H' s4 nd' hn at2=>?_⟩;obtain⟨R3,s5⟩:=fin H3 H' l' ps' ms (j5.refl _) s4 nd' hn at2;exact f _ _ _ R3 ((jc s13).trans s5)
 ·cases ed
def AX{F:List (List D)->List D->Option (List (List D))}(G:FnI X.prog X.w X.K X.mg X.base k x ps (Qt X.K F))(hr:Room k X.A)(h0:PE X e0 (tE X.K d0))(h1:PE X e1 (yx i))(h2:PE X e2 (tE X.K d2))(n0:∀r:List Expr,starEach (e0::r) X.env=(false,eval e0 X.env)::starEach r X.env)(n1:∀r:List Expr,starEach (e1::r) X.env=(false,eval e1 X.env)::starEach r X.env)(n2:∀r:List Expr,starEach (e2::r) X.env=(false,eval e2 X.env)::starEach r X.env)
  (hg:Gl X x) (hdb:(x==("__debug__" : Str))=false):PE X (.Call (.Name x p) [e0,e1,e2] [] pos) (Wq X.K i F d0 d2):=
 (Kk G hr (Jc h0 (Jc h1 (Jc h2 yz (n2 _)) (n1 _)) (n0 _)) hg hdb (n0 _) (by rw[n1,n2];rfl))
end
end DS
namespace L2
open PySem PySem.Spec PyProof.Rows
section
variable {X:Cx}
def C2(bs:List Bool)(n:Nat)(hn:n=bs.length):((List.range n).any fun i=>(bs[i]?).getD true)=bs.any id:=by
 subst hn;rw[Bool.eq_iff_iff];simp only[List.any_eq_true,List.mem_range,id];constructor
 ·rintro⟨i,hi,e⟩;exact⟨bs[i],List.getElem_mem hi,by simpa[hi]using e⟩
 ·rintro⟨x,hx,e⟩;obtain⟨i,hi,rfl⟩:=List.mem_iff_getElem.mp hx;exact⟨i,hi,by simpa[hi]using e⟩
def X1(hc:X.calm=true):yZ X (.builtin "any") (fun xs H Q=>∃(p:Addr) (bs:List Bool),xs=[.ref p]/\jG X.K H p (bs.map V.bl)/\Q (.bl (bs.any id)) H):=by
 rintro pins s U H _ us Q I r ⟨p,bs,rfl,hq,q⟩;cases r with
 | cons r rr=>
  cases rr;cases r;obtain⟨its,rv,pl,hz⟩:=I.list hq;have hp:p < s.heap.objs.size:=by
   obtain⟨o,ho,_⟩:=pl.isList;exact wLa ho
  have hlen:its.length=bs.length:=by
   have:=rv.length;rw[vYa]at this
   lia
  have W:=Walks.list (prog:=X.prog) (w:=X.w) (A:=X.A.in1) (I.ok.hd hc) s.heap.objs.size p (wTa hp) its.toArray;refine call_any_walk (wpAny_pyIter_list pl.isList ⟨_,_,_,_,_,_,fun i=>(bs[i]?).getD true,rfl,W,?_,?_,?_⟩)
  ·exact⟨⟨_,wJa _ rfl,rfl,rfl⟩,pl.isList.at fun o e=>wIa _ e⟩
  ·intro i v s' Q' E' hv hq';have hv:its[i]?=some v:=by simpa using hv
   have hi:i < bs.length:=by
    rw[<-hlen];exact(uSa hv).1
   obtain⟨u,eu,ru⟩:=rv.get (i:=i) (x:=V.bl bs[i]) (by simp[hi]);cases hv.symm.trans eu;cases ru;refine wpAny_truthy_bool ?_;have hq':Q' ((bs[i]?).getD true) s':=hq';rwa [uCa hi]at hq'
  ·intro h' tk hk;rw[C2 bs _ (by rw[uLa,hlen])];have J:Inv X pins U H { s with heap:=h',toks:=tk }:=I.turnedL (t':=tk) (ch:=[s.heap.objs.size]) (fun b hb=>by
    rw[List.mem_singleton]at hb;subst hb;exact I.fpOk (wPa _) (I.hok.fresh (wPa _))) fun c o hc' e'=>hk c o hc' (wIa _ e')
   exact⟨.bl (bs.any id),H,J,rfl,q⟩
end
end L2
namespace DS
open PySem L2
section
variable {K:Fr}
@[simp] def uN:List D->Option D
 | [.lst l]=>(uF l).bind fun bs=>some (.bl (bs.any id))
 | _=>none
def Ec:Fn K (fun xs H Q=>∃(p:Addr) (bs:List Bool),xs=[.ref p]/\jG K H p (bs.map V.bl)/\Q (.bl (bs.any id)) H) uN:=by
 intro O H ks ds vs d Q h hn e q;unfold uN at e;split at e
 ·obtain⟨bs,e1,e2⟩:=j3 e;cases e2;obtain⟨v,rfl,r⟩:=zw h;obtain⟨p,xs,rfl,h1,h2⟩:=r.lst;rw[uG e1 h2]at h1;exact⟨p,bs,rfl,jG.of h1,q _ H (j5.refl H) (by rw[j9])⟩
 ·cases e
end
end DS
namespace L2
open PySem PySem.Spec PyProof.Rows
section
variable {X:Cx}
def C3:J0 X (compareOp .Is) (fun x y H Q=>∃a b,x=.bl a/\y=.bl b/\Q (.bl (a==b)) H):=by
 intro pins s U H x y v u Q I rx ry h;obtain⟨a,b,rfl,rfl,q⟩:=h;cases rx;cases ry;exact wpAny_is_plain rfl (jP I q (by cases a <;> cases b <;> rfl))
def AY:J0 X (compareOp .IsNot) (fun x y H Q=>∃a b,x=.bl a/\y=.bl b/\Q (.bl (!(a==b))) H):=by
 intro pins s U H x y v u Q I rx ry h;obtain⟨a,b,rfl,rfl,q⟩:=h;cases rx;cases ry;exact wpAny_isNot_plain rfl (jP I q (by cases a <;> cases b <;> rfl))
end
end L2
namespace DS
open PySem PySem.Spec PyProof.Rows L2
section
variable {K:Fr}
noncomputable def wz:D->D->Option D
 | .bl a,.bl b=>some (.bl (a==b))
 | _,_=>none
@[simp] theorem FZ(a b:Bool):wz (.bl a) (.bl b)=some (.bl (a==b)):=rfl
noncomputable def Ko:D->D->Option D
 | .bl a,.bl b=>some (.bl (!(a==b)))
 | _,_=>none
@[simp] theorem FG(a b:Bool):Ko (.bl a) (.bl b)=some (.bl (!(a==b))):=rfl
def Ed:Ju K (fun x y H Q=>∃a b,x=.bl a/\y=.bl b/\Q (.bl (a==b)) H) wz:=by
 intro O H a b d x y Q ha hb _ e q;unfold wz at e;split at e
 ·cases e;exact⟨_,_,ha.bl,hb.bl,q _ H (j5.refl H) (by rw[j9])⟩
 ·cases e
def C4:Ju K (fun x y H Q=>∃a b,x=.bl a/\y=.bl b/\Q (.bl (!(a==b))) H) Ko:=by
 intro O H a b d x y Q ha hb _ e q;unfold Ko at e;split at e
 ·cases e;exact⟨_,_,ha.bl,hb.bl,q _ H (j5.refl H) (by rw[j9])⟩
 ·cases e
end
end DS
namespace DS
open PySem PySem.Spec PyProof.Rows L2 PySem.SeqAt
end DS
namespace L2
open PySem PySem.Spec PyProof.Rows
def JM.keep{hf:KD->Int}{a:Addr}{kas:List (KD×Addr)}{h1 h2:Heap}(x:JM hf a kas h1)(k:∀o,h1.get? a=some o->h2.get? a=some o):JM hf a kas h2:=by
 obtain⟨o,es,ep,t,kas',e,r⟩:=x;exact⟨o,es,ep,t,kas',k o e,r⟩
def JM.ok{P:Program}{w:World}{H:Hp}{hf:KD->Int}{a:Addr}{kas:List (KD×Addr)}{h:Heap}(x:JM hf a kas h):yc P w H h a (.ext (JM hf a kas)):=by
 have y:=x;obtain⟨o,_,_,_,_,e,_⟩:=y;exact⟨x,⟨o,e⟩,fun _ _ y k=>JM.keep y k⟩
section
variable {prog:Program} {w:World} {E:Value->Shared->Prop} {s:Shared} {A:Around} {a ax:Addr} {k:KD} {kas:List (KD×Addr)}
def AZ{Q:Value->Shared->Prop}(hS:JM (jS w) a kas s.heap)(hK:∀p∈kas,p.1.dep<=8/\jy s.heap p.1 (.ref p.2))(hx:jy s.heap k (.ref ax))(hk:k.dep<=8)(hr:A.units+16 < cLine)(hl:kas.length < 8192)
  (h0:k∈kas.map (·.1)->Q .none { s with toks:=s.toks+k.drw }) (h1:k∉kas.map (·.1)->∀h',Heap.SameBut a s.heap h'->JM (jS w) a (kas++[(k,ax)]) h'->Q .none { s with heap:=h',toks:=s.toks+k.drw }):
  wpAny (model prog w) A (call (.builtin "set.add") [.ref a,.ref ax]) Q E s:=by
 have hT:s.TypeIs (.ref a) "set" := by
  obtain⟨o,_,_,_,_,e,x,_⟩:=hS;exact⟨o,e,x.1⟩
 refine wpAny_call_entry F.slot_set_add hT F.entry_set_add ?_ (F.args_set_add_2 _ _);unfold Builtin.«set.add» Builtin.Frozenset.oneOther Builtin.Frozenset.addrOf setAdd;simp only[List.isEmpty_nil,bind_assoc];refine wAa (wBa (wAa (wBa (wAa (wDa (wAa ?_))))));refine GR k _ A.in1 s _ hx (by rw[Around.in1_units];lia) ?_;refine bG (s:={ s with toks:=s.toks+k.drw }) hS hK hx hk (by rw[Around.in1_units];lia) hl (fun z=>?_) fun z h' sb q=>?_
 ·show wpAny _ _ (ret Value.none) _ _ _;exact wBa ⟨_,rfl,h0 z⟩
 ·show wpAny _ _ (ret Value.none) _ _ _;exact wBa ⟨_,rfl,h1 z h' sb q⟩
end
noncomputable def aA(elt:Expr)(D:Addr)(env:Env)(c:Sem Fin):Sem Fin:=do
 (do
  let v<-eval elt env
  standAt elt.pos
  let _<-call (.builtin "set.add") [.ref D,v])
 c
def X2(elt t1 i1:Expr)(scope:Scope)(pos:Pos)(it:Value)(D:Addr)(env:Env):
  compTurn (.SetComp elt [⟨t1,i1,[],0⟩] scope pos) 0 it (.ref D) env=(do
   standAt i1.pos
   match<-pyNext it with
   | none=>pure (.done .next)
   | some v=>
    letOwnedTupleGo t1 it v
    assign t1 env v
    aA elt D env (again (.compLoop (.SetComp elt [⟨t1,i1,[],0⟩] scope pos) 0 it (.ref D) env))):=by rfl
end L2
namespace DS
open PySem PySem.Spec PyProof.Rows L2
def C5(K:Fr)(hf:KD->Int)(D:Addr)(te:TE):TB:=fun U H N=>te U H fun v H1=>∃b kas dk kk,v=.ref b/\H1 D=some (.ext (JM hf D kas))/\j9 K H1 dk (.ref b)/\J3 dk=some kk/\(∀p∈kas,∃d,j9 K H1 d (.ref p.2)/\J3 d=some p.1)/\kas.length < 8192/\
 (kk∈kas.map (·.1)->N U H1)/\(kk∉kas.map (·.1)->N U (upd H1 D (.ext (JM hf D (kas++[(kk,b)])))))
section
variable {Y:Cx} {elt t1 i1:Expr} {scope:Scope} {pos:Pos} {D:Addr} {te:TE}
def Ee{n:Nat}(hx:Y.xe=fun _ _=>False)(hr:Room n Y.A)(he:PE Y elt te):Gv Y (aA elt D Y.env) (C5 Y.K (jS Y.w) D te):=by
 intro pins s U H N c Q E I h hN;refine wAa (wAa (wCa (he pins s U H _ I h) (fun v s1 h1=>?_) fun _ _ z=>(by rw[hx]at z;exact z.elim)));obtain⟨v,H1,I1,r1,b,kas,dk,kk,rfl,hD,rb,ek,hK,hl,n0,n1⟩:=h1;cases r1;have ku:=Yq I1 rb ek;have kk8:∀p∈kas,p.1.dep<=8/\jy s1.heap p.1 (.ref p.2):=fun p hp=>by
  obtain⟨d,r,e⟩:=hK p hp;have:=Yq I1 r e;exact⟨this.2,this.1⟩
 refine wAa (vOa (wAa (AZ (I1.hok D _ hD).1 kk8 ku.1 ku.2 (by have:=hr.un;lia) hl (fun z=>?_) fun z h' sb q=>?_)))
 ·exact wBa (hN _ U _ (I1.tok _) (n0 z))
 ·have y:=q;obtain⟨o,_,_,_,_,e,_⟩:=y;exact wBa (hN _ U _ (I1.write (x:=D) (e:=D) (t':=s1.toks+kk.drw) (by rw[hD];trivial) (.inl rfl) (fun c z hc e=>(sb.2 c hc).trans e) ⟨_,e⟩ (JM.ok q)) (n1 z))
end
section
variable {X:Cx} {elt t1 i1:Expr} {scope:Scope} {pos:Pos} {own:List Str} {caps:List (Str×Nat)} {g1:TG} {tb:Addr->TB} {pins:List (Addr×Obj)} {U:L2.St} {H:Hp} {s2:Shared} {J:It} {fp:List Addr} {it:Addr} {tn:Nat->Heap->Prop} {Qv:VK} {hf:KD->Int}
def A_{E:Value->Shared->Prop}{RR:Value->Addr->Result->Shared->Prop}(S:CScope X scope)(hcap:Caps X scope caps)(hc:X.calm=true)
  (hg:∀s3 H3 ex',PG (X.comp (L2.cN own caps) scope s3 H3 ex') t1 g1) (hB:∀s3 H3 ex' D,Gv (X.comp (L2.cN own caps) scope s3 H3 ex') (aA elt D (X.comp (L2.cN own caps) scope s3 H3 ex').env) (tb D))
  (I:Inv X pins U H s2) (T:Turn X.prog X.w X.K t1 J fp it tn) (st:tn 0 s2.heap) (hfp:∀b∈fp,Je X pins H b)
  (w:∀D,H D=none->∃W,(∃m,W 0 m (Yk own caps U) (upd H D (.ext (JM hf D []))))/\Vp J g1 (tb D) (fun _ H'=>Qv (.ref D) H') W)
  (hRR:∀D C s' H' m,Inv X pins U H' s'->s'.heap.Ns C m->Je X pins H' C->Qv (.ref D) H'->RR (.ref D) C (.ok .next) s'):
  wpAny (model X.prog X.w) X.A (newSet (.type "set")) (fun acc s3=>wpAny (model X.prog X.w) X.A (newFunctionEnv scope X.env.globals (yU X.env scope.names []) [] X.env.qual none .none (some X.env)) (fun cenv s4=>
   codeAny (model X.prog X.w) X.A (.compStart (.SetComp elt [⟨t1,i1,[],0⟩] scope pos) 0 (.ref it) acc { cenv with scope:=relabel scope X.env }) (RR acc cenv.locals) s4) E s3) E s2:=by
 obtain⟨W,⟨m0,w0⟩,turn⟩:=w s2.heap.objs.size (I.hok.fresh (wPa _));refine wpAny_newSet_of (knd:=Up X.prog X.w) fun led _=>wpAny_newFunctionEnv S.c (by intro y hy;simp at hy) (fun h1 hns hsb=>?_) S.kind;have hlt:∀b∈fp,b < s2.heap.objs.size:=fun b hb=>by
  obtain⟨o,e,_⟩:=T.obj _ _ st b hb;exact wLa e
 let s3:Shared:={ s2 with heap:=s2.heap.push { cls:=.type "set",dict:=none,data:=.set #[] 0 (.fresh 0 0 led) } }
 let UQ:HO:=.ext (JM hf s2.heap.objs.size [])
 have I3:Inv X pins U (upd H s2.heap.objs.size UQ) s3:=I.laid (a:=s2.heap.objs.size) (o:=UQ) (t':=s2.toks) (fun _ _ q=>wIa _ q) (wPa _)
  (JM.ok ⟨_,#[],0,_,[],wJa _ rfl,⟨rfl,rfl,rfl⟩,rfl,(by rw[Array.map_empty];exact ST.si_fresh 0 0 led),rfl,fun _=>Iff.rfl,rfl⟩)
 have hk:∀b o,s3.heap.get? b=some o->h1.get? b=some o:=fun b o e=>hsb.extBut b o (wTa (wLa e)) (wIa _ e);have e3:s3.heap.objs.size=s2.heap.objs.size+1:=Heap.size_push ..;have hl3:∀b∈fp,b < s3.heap.objs.size:=fun b hb=>by rw[e3];exact Nat.lt_succ_of_lt (hlt b hb)
 have hf3:∀b∈fp,Je X pins (upd H s2.heap.objs.size UQ) b:=fun b hb=>⟨by rw[jq (Nat.ne_of_lt (hlt b hb))];exact(hfp b hb).1,(hfp b hb).2⟩
 have I4:Inv (X.comp (L2.cN own caps) scope s3 (upd H s2.heap.objs.size UQ) fp) [] (Yk own caps U) (upd H s2.heap.objs.size UQ) { s3 with heap:=h1,toks:=s2.toks+([]:List (Str×Value)).length }:=
  VH S.c S.kind S.f hcap I3 (fun b hb=>⟨hl3 b hb,hf3 b hb⟩) hns hk
 have st4:tn 0 h1:=T.keep _ _ _ st fun b hb o e=>hk b o (wIa _ e);have f4:∀b∈fp,Je (X.comp (L2.cN own caps) scope s3 (upd H s2.heap.objs.size UQ) fp) [] (upd H s2.heap.objs.size UQ) b:=fun b hb=>
  ⟨(hf3 b hb).1,wTa (hl3 b hb),I4.ok.exfs b hb,.inl hb,(I4.ok.exf b hb).2,fun p hp=>vDa (show p∈([]:List (Addr×Obj)) from hp) (by simp)⟩
 have loop:=k8 (Y:=X.comp (L2.cN own caps) scope s3 (upd H s2.heap.objs.size UQ) fp) (d:=0) hc rfl rfl (X2 elt t1 i1 scope pos (.ref it) s2.heap.objs.size _) rfl (hg _ _ _) (hB _ _ _ _) T f4 turn (RR (.ref s2.heap.objs.size) s3.heap.objs.size) (fun s' xx=>by
  obtain⟨U',H',J',q⟩:=xx;have u:Un (vG X.stack) fp (upd H s2.heap.objs.size UQ) H' s3.heap s'.heap:=J'.base;have I5:Inv X pins U H' s':=I3.call' (ch:=fp) J'.os ⟨u.keep,u.slot,u.free,u.there,u.tups,u.frzs,u.tbls⟩ J'.hok J'.bare fun b hb=>by
   have F:=hf3 b hb;exact⟨F.2.2.2.1,F.2.1,F.2.2.2.2.1,F.2.2.2.2.2⟩
  obtain⟨m5,hm5,_⟩:=id J'.loc;exact hRR _ _ s' H' m5 I5 hm5 (I3.fpOk (wPa _) J'.free) q) m0
  { s3 with heap:=h1,toks:=s2.toks+([]:List (Str×Value)).length } ⟨0,_,_,I4,st4,fun b hb=>(hf3 b hb).1,w0⟩
 exact gb rfl rfl rfl rfl loop (T.self _ 0 _ _ _ st4 loop)
def EV(hf:KD->Int)(own:List Str)(caps:List (Str×Nat))(wi:TI)(g1:TG)(tb:Addr->TB):TE:=fun U H Q=>wi U H fun J H1=>∀D,H1 D=none->∃W,(∃m,W 0 m (Yk own caps U) (upd H1 D (.ext (JM hf D []))))/\Vp J g1 (tb D) (fun _ H'=>Q (.ref D) H') W
set_option tactic.hygienic true in
theorem X3{wi:TI}(own:List Str)(caps:List (Str×Nat)){i:Nat}{x:Str}{pos' spos:Pos}(hN:X.N.Nodup)(hix:X.N[i]?=some x)(hx:UV X.env.scope x)(S:CScope X scope)(hcap:Caps X scope caps)(hc:X.calm=true)(hi:PI X t1 i1 wi)
  (hg:∀s3 H3 ex',PG (X.comp (L2.cN own caps) scope s3 H3 ex') t1 g1) (hB:∀s3 H3 ex' D,Gv (X.comp (L2.cN own caps) scope s3 H3 ex') (aA elt D (X.comp (L2.cN own caps) scope s3 H3 ex').env) (tb D))
  (hs:∀x,foldedSetIterable i1 X.env x=pure x) (hsw:swapsWith (.SetComp elt [⟨t1,i1,[],0⟩] scope pos) (some (.Name x pos')) spos.line X.env=pure true) (hfn:X.fn x=true \/ X.env.scope.names.lookup x=some .local):
  PS X (.Assign [.Name x pos'] (.SetComp elt [⟨t1,i1,[],0⟩] scope pos) spos) (Y5 (EV hf own caps wi g1 tb) (Yv i)):=by
 intro pins s U H D I h;rw[exec_Assign_Name_used _ _ _ _ hsw];refine wAa (vOa (wAa ?_));show wpAny _ _ (do let _<-comprehension (.SetComp elt [⟨t1,i1,[],0⟩] scope pos) scope X.env _ (newSet (.type "set")) false (eval i1 X.env) (some (assign (.Name x pos') X.env))) _ _ s;refine wAa (wCa (wpAny_comprehension_free (use:=some (assign (.Name x pos') X.env)) (Q:=fun _ s'=>SP X pins D .next s') rfl hs (Ut fun y hy e=>I.ok.has y.1 (S.f y hy e)) S.kind S.l
  (jw (hi pins s U H _ I h) fun xv s1 h1=>jw h1 fun itv s2 h2=>?_)) (fun _ s' hq=>wBa (wBa hq)) fun _ _ e=>e)
 obtain⟨it,fp,tn,J,H2,e,I2,T,st,f2,w⟩:=h2;subst e;refine A_ (hf:=hf) (Qv:=fun v H'=>Yv i v U H' D.nx) (RR:=fun acc C=>compPost (model X.prog X.w) X.A X.xe (some (assign (.Name x pos') X.env)) (fun _ s'=>SP X pins D .next s') acc C) S hcap hc hg hB I2 T st f2 w ?_;intro A C s' H' m I' hn hf' q;obtain⟨f0,f1,f2,f3,f4,f5⟩:=hf';show wpAny _ _ (assign (.Name x pos') X.env (.ref A)) _ _ _;refine wpAny_assign_Name (uj (v:=.ref A) I' hN hix hx rfl (fun s'' I'' hsb=>?_) hfn);obtain⟨a,sb,ha⟩:=hsb;have aC:C≠a:=by
  rcases ha with z | z
  ·rw[z];exact f1
  ·exact fun e=>f4 x a z e.symm
 refine⟨m,hn.sameBut sb aC,fun h' sb'=>⟨_,H',?_,q⟩⟩;exact I''.turned (t':=s''.toks) (fun b o hb e=>(sb'.2 b hb).trans e) f0 f1 f3 f4 f5
end
def GA(g:DG)(de:DE):List D->je->List KD->Option (List KD)
 | [],_,ks=>some ks
 | d::ds,Z,ks=>(g d Z).bind fun Z1=>(de Z1).bind fun k=>(J3 k).bind fun x=>if ks.length < 8192/\Z1.all Ye=true then GA g de ds Z1 (if x∈ks then ks else ks++[x])else none
def Wx(k:Nat)(caps:List Nat)(di:DI)(g:DG)(de:DE):DO:=fun Z=>(di Z).bind fun items=>if (yV k caps Z).all Ye=true then(GA g de items (yV k caps Z) []).bind fun ks=>some (.sz ks.length)else none
structure ScI (K:Fr) (hf:KD->Int) (H0:Hp) (O0 O:List Addr) (A:Addr) (Z:je) (U:L2.St) (H:Hp) (ks:List KD):Prop where
 R:Rel K H0 O0 Z U H (A::O)
 o:∃kas,H A=some (.ext (JM hf A kas))/\kas.map (·.1)=ks/\∀p∈kas,∃d,j9 K (j6 H (A::O)) d (.ref p.2)/\J3 d=some p.1
 n:Z.all Ye=true
section
variable {K:Fr} {hf:KD->Int} {X:Cx} {own:List Str} {caps:List (Str×Nat)} {di:DI} {g:DG} {de:DE}
set_option tactic.hygienic true in
theorem C6(hnd:(caps.map (·.2)).Nodup):∀U H Q,tF K (Wx own.length (caps.map (·.2)) di g de) U H Q->EV hf own caps (zq K di) (tG K own.length g) (fun A=>C5 K hf A (tE K de)) U H Q:=fun U H Q xx=>by
 obtain⟨H0,O0,Z,O,o,R,ed,q⟩:=xx;obtain⟨items,e1,ed⟩:=j3 ed;split at ed
 case isFalse=>cases ed
 rename_i nw;obtain⟨ks,e2,ed⟩:=j3 ed;cases ed;refine⟨H0,O0,Z,O,items,R,e1,fun J H1 s1 hJ A hA=>?_⟩;have R1:=R.grow s1;have Rc:=gB own caps R1 hnd;have h0:H0 A=none:=R1.keep.none hA;have I0:ScI K hf H0 O0 O A (yV own.length (caps.map (·.2)) Z) (Yk own caps U) (upd H1 A (.ext (JM hf A []))) []:=
  ⟨Rc.lay (F:=[A]) (jC hA _) (fun a h=>by rw[List.mem_singleton.mp h];exact hA) (fun a h=>by rw[List.mem_singleton.mp h,jV];exact fun z=>nomatch z),⟨[],jV,rfl,fun _ h=>by cases h⟩,nw⟩
 refine⟨fun i m U' H'=>∃Z' ks',ScI K hf H0 O0 O A Z' U' H' ks'/\GA g de (items.drop i) Z' ks'=some ks/\j5 (j6 H1 O) (j6 H' (A::O))/\j5 H1 H'/\m=items.length - i/\i<=items.length,
  ⟨items.length,_,[],I0,by simpa using e2,yg (jC hA _) hA,jC hA _,rfl,Nat.zero_le _⟩,?_⟩
 rintro i m U5 H5 ⟨Z5,ks5,I5,d5,sd5,sH5,rfl,hj⟩;obtain⟨hgo,hstop⟩:=hJ i H5 (A::O) I5.R.keep I5.R.in0 sd5 I5.R.al;by_cases hlt:i < items.length
 ·right;have hx:items[i]?=some items[i]:=by simp[hlt]
  have hd:items.drop i=items[i]::items.drop (i+1):=(List.getElem_cons_drop hlt).symm;rw[hd,GA]at d5;obtain⟨u1,u2⟩:=hgo _ hx;obtain⟨Z6,w1,d5⟩:=j3 d5;obtain⟨k,w2,d5⟩:=j3 d5;obtain⟨kk,w4,d5⟩:=j3 d5;split at d5
  case isFalse=>cases d5
  rename_i hz;refine⟨u1,fun U7 H7=>∃Z' ks',ScI K hf H0 O0 O A Z' U7 H7 ks'/\GA g de (items.drop (i+1)) Z' ks'=some ks/\j5 (j6 H1 O) (j6 H7 (A::O))/\j5 H1 H7,?_,fun x6 H6 y6=>?_⟩
  ·rintro U7 H7 ⟨Z7,k7,a1,a2,a3,a4⟩;exact⟨items.length - (i+1),by lia,Z7,k7,a1,a2,a3,a4,rfl,hlt⟩
  obtain⟨sy6,rx6⟩:=u2 x6 H6 y6;refine⟨H0,O0,Z5,A::O,_,Z6,I5.R.grow sy6,rx6,w1,fun U7 R7 _=>⟨H0,O0,Z6,A::O,k,R7,w2,fun kv H8 s8 rk=>?_⟩⟩;have s58:=sy6.trans s8;obtain⟨kas,o1,o2,o3⟩:=I5.o;obtain⟨b,rfl,rb⟩:=ZX (O:=A::O) (.inl rk) w4;have o4:∀p∈kas,∃d,j9 K (j6 H8 (A::O)) d (.ref p.2)/\J3 d=some p.1:=fun p hp=>by
   obtain⟨d,r,e⟩:=o3 p hp;exact⟨d,r.same (jc s58),e⟩
  have hlen:kas.length=ks5.length:=by rw[<-o2,vYa]
  refine⟨b,kas,k,kk,rfl,s58 _ _ o1,rb,w4,fun p hp=>?_,by rw[hlen];exact hz.1,fun hin=>?_,fun hin=>?_⟩
  ·obtain⟨d,r,e⟩:=o4 p hp;exact⟨d,r.same Jj,e⟩
  ·rw[o2]at hin
   rw[if_pos hin]at d5;exact⟨Z6,ks5,⟨R7.grow s8,⟨kas,s58 _ _ o1,o2,o4⟩,hz.2⟩,d5,sd5.trans (jc s58),sH5.trans s58⟩
  ·rw[o2]at hin
   rw[if_neg hin]at d5;refine⟨Z6,ks5++[kk],⟨(R7.grow s8).poke (aw hz.2) wNa h0 (fun⟨_,_,_,y,_⟩=>av hz.2 y),⟨kas++[(kk,b)],jV,by rw[uDa,o2];rfl,fun p hp=>?_⟩,hz.2⟩,d5,?_,(sH5.trans s58).upd hA _⟩
   ·rw[Ja List.mem_cons_self];rcases uWa hp with hp | hp
    ·exact o4 p hp
    ·rw[List.mem_singleton.mp hp];exact⟨k,rk,w4⟩
   ·rw[Ja List.mem_cons_self];exact sd5.trans (jc s58)
 ·left;have ei:i=items.length:=by lia
  refine⟨hstop ei,?_⟩;have e0:items.drop i=[]:=List.drop_of_length_le (by lia);rw[e0,GA]at d5;cases d5;obtain⟨kas,o1,o2,_⟩:=I5.o;exact q A H5 (s1.trans sH5) (s1.none hA) ⟨hf,kas,o1,by rw[<-o2,vYa]⟩
noncomputable def UI:List D->Option D
 | [.sz n]=>if n < 2 ^ 24 then some (.int n)else none
 | _=>none
end
end DS
namespace PySem
open Sem (wp)
namespace F
def lk_list_keys:typeLookup (.type "list") "keys" = pure none:=by rw[typeLookup_type,builtinLookup_eq_fast];kernel_rfl
def sub_ae:isSubtype (.type "AttributeError") (.type "AttributeError")=pure true:=by rw[isSubtype_type];kernel_rfl
def lk_list_ga:typeLookup (.type "list") "__getattr__" = pure none:=by rw[typeLookup_type,builtinLookup_eq_fast];kernel_rfl
end F
section
variable {prog:Program} {w:World} {A:Around} {E:Value->Shared->Prop}
def ae_noted{α:Type}{s:Shared}{e:Addr}{t o:Value}{name:Str}{Q:α->Shared->Prop}(hh:A.handled=none)(g:s.heap.get? e=some { cls:=.type "AttributeError",data:=.fields #[t,.none,.none,.none,.bool false,.none,unsetMember,unsetMember] })
  (h:∀h' ob,(∀b o,b≠e->s.heap.get? b=some o->h'.get? b=some o)->h'.get? e=some ob->ob.cls=.type "AttributeError" ->E (.ref e) { s with heap:=h',toks:=s.toks+1 }):
  wpAny (model prog w) A (do noteAttr (.ref e) o (<-mkText name);raiseNew (.ref e):Sem α) Q E s:=by
 refine wAa (wpAny_mkText (wAa ?_));have ty:({ s with toks:=s.toks+1 }:Shared).TypeIs (.ref e) "AttributeError" := ⟨_,g,rfl⟩
 unfold noteAttr lacksNameAndObj;refine wAa (wAa (wpAny_isInstance ty F.sub_ae ?_));rw[if_neg (by decide)];refine wAa (wpAny_load g ?_);dsimp only;refine(show wpAny _ _ (pure true) _ _ _ from wBa ?_);rw[if_pos rfl];refine wAa (vQa (wAa (wpAny_typeOf ty ?_)));dsimp only;unfold layMembers;refine wAa (wpAny_load g ?_);dsimp only;refine wpAny_update g (wpAny_raiseNew_none hh (h _ _ (fun b o hb q=>?_) (vUa _ g rfl) rfl));rw[Heap.get?_update_other _ _ (Ne.symm hb)];exact q
def ae_raise{α:Type}{s:Shared}{o:Value}{name msg:Str}{Q:α->Shared->Prop}(hl:msg.length<=sizeLine)(hh:A.handled=none)
  (h:∀h' tk e ob,(∀b o,s.heap.get? b=some o->h'.get? b=some o)->h'.get? e=some ob->ob.cls=.type "AttributeError" ->E (.ref e) { s with heap:=h',toks:=tk }):
  wpAny (model prog w) A (raiseAttrError o name msg:Sem α) Q E s:=by
 unfold raiseAttrError newExc newTuple;refine wAa (wpAny_mkStr (wAa (wAa (vTa ?_ (by show(1:Nat)<=sizeLine;decide)))) hl);refine wAa (m:=firstArgMember _ _) (wEa (a:=Value.none) (by kernel_rfl) ?_);refine vTa ?_;have k1:∀b o,s.heap.get? b=some o->b < s.heap.objs.size:=fun b o q=>wLa q;refine ae_noted hh (wJa _ rfl) fun h' ob k g c=>h h' _ _ ob (fun b o q=>k b o ?_ (wIa _ (wIa _ q))) g c;intro z;have z2:=k1 b o q;rw[z,uPa]at z2;exact vDa z2 (Nat.not_lt.mpr (vMa _))
def no_keys{s:Shared}{a:Addr}{its:Array Value}{n:Nat}{tk:Tok}{Q:Fin->Shared->Prop}(hx:s.heap.get? a=some { cls:=.type "list",data:=.seq its n })(hh:A.handled=none)
  (hq:∀h' tk e ob,(∀b o,s.heap.get? b=some o->h'.get? b=some o)->h'.get? e=some ob->ob.cls=.type "AttributeError" ->E (.ref e) { s with heap:=h',toks:=tk }):
  wpAny (model prog w) A (Builtin.«object.__getattribute__» ⟨[.ref a,.str "keys" tk],[]⟩) Q E s:=by
 obtain⟨h,g,d,t,os⟩:=s;have hT:(⟨h,g,d,t,os⟩:Shared).TypeIs (.ref a) "list" := ⟨_,hx,rfl⟩
 have f4:=F.lk_list_keys
 repeat (any_goals (first | assumption | wp_step))
 exact ae_raise (by decide +kernel) hh hq
def keys_call{s:Shared}{a:Addr}{its:Array Value}{n:Nat}{tk:Tok}{R:Result->Shared->Prop}(hx:s.heap.get? a=some { cls:=.type "list",data:=.seq its n })(hh:A.handled=none)
  (hq:∀h' tk e ob,(∀b o,s.heap.get? b=some o->h'.get? b=some o)->h'.get? e=some ob->ob.cls=.type "AttributeError" ->R (.error (.ref e)) { s with heap:=h',toks:=tk }):
  codeAny (model prog w) A (.call (.builtin "list.__getattribute__") ⟨[.ref a,.str "keys" tk],[]⟩) R s:=
 codeAny_call_builtin F.slot_list_getattribute.plain F.entry_list_ga (F.slot_list_getattribute.check _ _ _ _ _ _ _ _ (show s.TypeIs (.ref a) "list" from⟨_,hx,rfl⟩) (F.args_list_getattribute_2 _ _) (no_keys hx hh hq))
def keys_none{s:Shared}{a:Addr}{its:Array Value}{n:Nat}{Q:Option Value->Shared->Prop}(hx:s.heap.get? a=some { cls:=.type "list",data:=.seq its n })(hh:A.handled=none)
  (hq:∀h' tk,(∀b o,s.heap.get? b=some o->h'.get? b=some o)->Q none { s with heap:=h',toks:=tk }):
  wpAny (model prog w) A (getAttr? (.ref a) "keys") Q E s:=by
 have hT:s.TypeIs (.ref a) "list" := ⟨_,hx,rfl⟩
 unfold getAttr? getAttrBy? getAttrBy;refine wAa (wpAny_mkText (wAa (wpAny_attempt (wDa ?_))));refine wAa (wpAny_typeOf hT ?_);have f2:=F.slot_list_getattribute.lookup;have f3:=F.slot_list_getattribute.bind (.ref a)
 repeat (any_goals (first | assumption | wp_step))
 refine keys_call (s:={ s with toks:=s.toks+1 }) hx hh fun h' tk e ob k g c=>?_;have ty:({ s with heap:=h',toks:=tk }:Shared).TypeIs (.ref e) "AttributeError" := ⟨_,g,c⟩
 dsimp only;unfold getattributeRaised;refine wAa (wpAny_isInstance ty F.sub_ae ?_);rw[if_pos rfl]
 repeat (any_goals (first | assumption | wp_step))
 refine wEa F.lk_list_ga ?_;unfold hookOrError attributeErrorLeaves
 repeat (any_goals (first | assumption | wp_step))
 refine wEa F.sub_ae ?_;exact wBa (hq _ _ k)
end
end PySem
namespace L2
open PySem PySem.Spec PyProof.Rows
def zJ:plainId "dict.update.loop" = true:=by decide +kernel
def gf:entryFor table "dict.update.loop" = some Builtin.«dict.update.loop»:=entryFor_of_tree (by kernel_rfl)
noncomputable def Kp(xs ps:List (KD×Addr×Value)):List (KD×Addr×Value):=ps.foldl (fun xs p=>storedH xs p.1 p.2.1 p.2.2) xs
def Wj(xs:List (KD×Addr×Value))(k:KD)(a:Addr)(v:Value):(storedH xs k a v).length<=xs.length+1:=by
 unfold storedH;split <;> simp
section
variable {prog:Program} {w:World} {A:Around}
def Vq(prog:Program)(w:World)(h:Heap)(v:Value)(p:KD×Addr×Value):Prop:=∃q ob n,v=.ref q/\h.get? q=some ob/\ob.cls=.type "tuple" /\ob.data=.seq #[.ref p.2.1,p.2.2] n/\(J7 prog w).is h p.1 p.2.1
def Vq.keep{h h':Heap}{v:Value}{p:KD×Addr×Value}{d it:Addr}(hd:∀o,h.get? d=some o->(∀xs n,o.data≠.seq xs n))(hi:∀o,h.get? it=some o->(∀xs n,o.data≠.seq xs n))(k:∀b o,b≠d->b≠it->h.get? b=some o->h'.get? b=some o)(x:Vq prog w h v p):Vq prog w h' v p:=by
 have ne:∀b o xs n,h.get? b=some o->o.data=.seq xs n->h'.get? b=some o:=fun b o xs n e q=>k b o (fun z=>hd o (z▸e) xs n q) (fun z=>hi o (z▸e) xs n q) e;obtain⟨q,ob,n,e,g,c,dt,kk⟩:=x;refine⟨q,ob,n,e,ne _ _ _ _ g dt,c,dt,kk.1.keep fun b its t=>?_,kk.2⟩;obtain⟨o2,g2,c2,m2,d2⟩:=t;exact⟨o2,ne _ _ _ _ g2 d2,c2,m2,d2⟩
def kZ{h h':Heap}{d it:Addr}{xs:List (KD×Addr×Value)}(hi:∀o,h.get? it=some o->∀ys n,o.data≠.seq ys n)(nd:d≠it)(k:∀b o,b≠it->h.get? b=some o->h'.get? b=some o)(dd:h.DictOfH (J7 prog w) d xs):h'.DictOfH (J7 prog w) d xs:=by
 obtain⟨o,es,ep,g,ex,dt,ee,ks,nd'⟩:=dd;refine⟨o,es,ep,k _ _ nd g,ex,dt,ee,fun x hx=>⟨(ks x hx).1.keep fun b its t=>?_,(ks x hx).2⟩,nd'⟩;obtain⟨o2,g2,c2,m2,d2⟩:=t;exact⟨o2,k _ _ (fun z=>hi o2 (z▸g2) _ _ d2) g2,c2,m2,d2⟩
theorem aB{R:Result->Shared->Prop}{d it l:Addr}{items:Array Value}(hh:A.handled=none)(hr:A.units+16 < cLine)(ndi:d≠it)(hsz:items.size<=sizeLine):∀(ps:List (KD×Addr×Value)) (i:Nat) (s:Shared) (xs:List (KD×Addr×Value)),items.size=i+ps.length->xs.length<=i->
  s.heap.IsListIter it l i->s.heap.IsList l items->s.heap.DictOfH (J7 prog w) d xs->(∀j p,ps[j]?=some p->∃v,items[i+j]?=some v/\Vq prog w s.heap v p)->
  (∀h' tk,(∀b o,b≠d->b≠it->s.heap.get? b=some o->h'.get? b=some o)->h'.DictOfH (J7 prog w) d (Kp xs ps)->R (.ok (.ret .none)) { s with heap:=h',toks:=tk })->
  codeAny (model prog w) A (.builtin "dict.update.loop" ⟨[.ref d,.ref it,rawInt i,.none],[]⟩) R s
 | [],i,s,xs,hn,hx,hit,hl,dd,hp,hR=>by
  refine codeAny_builtin gf ?_;rw[Around.under_plainId zJ _];show wpAny _ A.in1 (pyNext (.ref it) >>= _) _ _ s;refine wAa (wpAny_pyNext_list_end (A:=A.in1) hh hit hl (by simp at hn;simp[hn]) fun h' eb=>?_);have hni:∀o,s.heap.get? it=some o->∀ys n,o.data≠.seq ys n:=by
   obtain⟨o,g,_,dt⟩:=hit;intro o' e ys n z;rw[g]at e;cases e;rw[dt]at z;cases z
  show wpAny _ A.in1 (Builtin.Dict.addKeywords d [] >>= fun _=>ret .none) _ _ _;refine wAa (wBa (wBa ?_));have kp:∀b o,b≠d->b≠it->s.heap.get? b=some o->h'.get? b=some o:=fun b o _ hb e=>eb b o hb e;refine hR h' s.toks kp (kZ hni ndi (fun b o hb e=>eb b o hb e) dd)
 | p::ps,i,s,xs,hn,hx,hit,hl,dd,hp,hR=>by
  obtain⟨v,hv,q,ob,m,rfl,g,c,dt,kk⟩:=hp 0 p rfl;have hni:∀o,s.heap.get? it=some o->∀ys n,o.data≠.seq ys n:=by
   obtain⟨o,g,_,dt⟩:=hit;intro o' e ys n z;rw[g]at e;cases e;rw[dt]at z;cases z
  refine codeAny_builtin gf ?_;rw[Around.under_plainId zJ _];show wpAny _ A.in1 (pyNext (.ref it) >>= _) _ _ s;refine wAa (wpAny_pyNext_list_item (A:=A.in1) hit hl hv fun h1 hit1 sb1=>?_);have k1:∀b o,b≠it->s.heap.get? b=some o->h1.get? b=some o:=fun b o hb e=>(sb1.2 b hb).trans e;have dd1:=kZ (prog:=prog) (w:=w) hni ndi k1 dd;have nqi:q≠it:=fun z=>hni ob (z▸g) _ _ dt;have g1:=k1 _ _ nqi g;have ty:({ s with heap:=h1 }:Shared).TypeIs (.ref q) "tuple" := ⟨ob,g1,c⟩
  have kk1:(J7 prog w).is h1 p.1 p.2.1:=⟨kk.1.keep fun b its t=>by
   obtain⟨o2,g2,c2,m2,d2⟩:=t;exact⟨o2,k1 _ _ (fun z=>hni o2 (z▸g2) _ _ d2) g2,c2,m2,d2⟩,kk.2⟩
  dsimp only;refine wAa (wDa (wAa (wpAny_tryCatch ?_)));unfold Builtin.Dict.pairItems;refine wAa (wpAny_typeOf ty ?_);rw[if_pos (by decide)];refine wAa (wpAny_seqItems g1 dt (wBa ?_));show wpAny _ _ (holding [Value.ref p.2.1,p.2.2] (dictSet d (.ref p.2.1) p.2.2)) _ _ _;refine wDa (wpAny_dictSet_heap (knd:=J7 prog w) (s:={ s with heap:=h1 }) (by show A.in1.units+8 < cLine;rw[Around.in1_units];lia) kk1 dd1 (fun h2 dd2 sb2=>?_) (by lia));have e1:rawInt ((i:Int)+1)=rawInt ((i+1:Nat):Int):=rfl;rw[e1];have hdn:∀o,h1.get? d=some o->∀ys n,o.data≠.seq ys n:=by
   obtain⟨o,es,ep,gd,ex,dt,_⟩:=dd1;intro o' e ys n z;rw[gd]at e;cases e;rw[dt]at z;cases z
  have hni1:∀o,h1.get? it=some o->∀ys n,o.data≠.seq ys n:=by
   obtain⟨o,g,_,dt⟩:=hit1;intro o' e ys n z;rw[g]at e;cases e;rw[dt]at z;cases z
  have k2:∀b o,b≠d->h1.get? b=some o->h2.get? b=some o:=fun b o hb e=>(sb2.2 b hb).trans e;have k12:∀b o,b≠d->b≠it->s.heap.get? b=some o->h2.get? b=some o:=fun b o hb hb2 e=>k2 b o hb (k1 b o hb2 e);have hl2:h2.IsList l items:=by
   obtain⟨o,gl,cl,nl,dl⟩:=hl;exact⟨o,k12 _ _ (fun z=>hdn o (z▸k1 _ _ (fun y=>hni o (y▸gl) _ _ dl) gl) _ _ dl) (fun y=>hni o (y▸gl) _ _ dl) gl,cl,nl,dl⟩
  refine wBa ⟨plainId_quiet zJ _,aB hh hr ndi hsz ps (i+1) _ _ (by simp at hn;lia) (by have:=Wj xs p.1 p.2.1 p.2.2;lia) ?_ hl2 dd2 (fun j p' hj=>?_) fun h' tk k3 d3=>?_⟩
  ·obtain⟨o,g,r⟩:=hit1;exact⟨o,k2 _ _ (Ne.symm ndi) g,r⟩
  ·obtain⟨v,hv,pa⟩:=hp (j+1) p' (by simpa using hj);refine⟨v,by rw[<-hv];congr 1;lia,?_⟩;exact(pa.keep (d:=it) (it:=it) hni hni fun b o hb _ e=>k1 b o hb e).keep (d:=d) (it:=d) hdn hdn fun b o hb _ e=>k2 b o hb e
  ·exact hR h' tk (fun b o hb hb2 e=>k3 b o hb hb2 (k12 b o hb hb2 e)) d3
end
section
variable {prog:Program} {w:World} {A:Around} {E:Value->Shared->Prop} {s:Shared}
def b7{l:Addr}{its:Array Value}{n:Nat}{ps:List (KD×Addr×Value)}{Q:Value->Shared->Prop}(hx:s.heap.get? l=some { cls:=.type "list",data:=.seq its n })(hh:A.handled=none)(hr:A.units+32 < cLine)(hsz:its.size<=sizeLine)(hlen:its.size=ps.length)
  (hp:∀(j:Nat) p,ps[j]?=some p->∃v,its[j]?=some v/\Vq prog w s.heap v p)
  (h:∀h' tk,(∀b o,s.heap.get? b=some o->h'.get? b=some o)->h'.DictOfH (J7 prog w) s.heap.objs.size (Kp [] ps)->Q (.ref s.heap.objs.size) { s with heap:=h',toks:=tk }):
  wpAny (model prog w) A (call (.type "dict") [.ref l]) Q E s:=by
 refine callType_codes (Q₁:=fun obj s₁=>obj=.ref s.heap.objs.size/\s₁={ s with heap:=s.heap.push { cls:=.type "dict",data:=.dict #[] } }) F.kt_called_dict (F.kt_typeCall_dict_1 _) F.entry_dict_init (kt_code_dict_new _ ⟨rfl,rfl⟩) ?_;rintro obj s₁ ⟨rfl,rfl⟩;have hnew:(s.heap.push { cls:=.type "dict",data:=.dict #[] }).DictOfH (J7 prog w) s.heap.objs.size []:=Heap.DictOfH.new s.heap;have k0:∀b o,s.heap.get? b=some o->(s.heap.push { cls:=.type "dict",data:=.dict #[] }).get? b=some o:=fun b o e=>wIa _ e;have tyD:({ s with heap:=s.heap.push { cls:=.type "dict",data:=.dict #[] } }:Shared).TypeIs (.ref s.heap.objs.size) "dict" := hnew.typeIs;refine⟨tyD,F.args_dict_init_2 _ _,?_⟩;unfold Builtin.«dict.__init__» Builtin.Dict.selfAndRest;refine wAa (wAa (wpAny_notOrdered_dict tyD ?_));show wpAny _ _ (pure (s.heap.objs.size,[Value.ref l])) _ _ _;refine wBa ?_;show wpAny _ _ (Builtin.Dict.updateFrom "dict.__init__" s.heap.objs.size (.ref l) [] .none) _ _ _;unfold Builtin.Dict.updateFrom;refine wAa (wpAny_typeOf (T := "list") ⟨_,k0 _ _ hx,rfl⟩ ?_);rw[if_pos (by decide)];refine wAa (keys_none (s:={ s with heap:=s.heap.push { cls:=.type "dict",data:=.dict #[] } }) (k0 _ _ hx) hh fun h1 tk1 k1=>?_);rw[if_pos (by decide)];refine wAa (vQa (wAa (wpAny_pyIter_list (l:=l) (items:=its) ⟨_,k1 _ _ (k0 _ _ hx),rfl,n,rfl⟩ ?_)));have gd:h1.get? s.heap.objs.size=some { cls:=.type "dict",data:=.dict #[] }:=k1 _ _ (wJa _ rfl);have lt:=wLa gd;have k2:∀b o,s.heap.get? b=some o->(h1.push { cls:=.type "list_iterator",data:=.fields #[.ref l,.int 0 0] }).get? b=some o:=fun b o e=>wIa _ (k1 _ _ (k0 _ _ e));refine wBa ⟨plainId_quiet zJ _,aB (A:=A.in1) hh (by rw[Around.in1_units];lia) (wTa lt) hsz ps 0 _ [] (by lia) (Nat.zero_le _) ⟨_,wJa _ rfl,rfl,rfl⟩ ⟨_,k2 _ _ hx,rfl,n,rfl⟩
  ⟨_,#[],0,wIa _ gd,⟨rfl,rfl,rfl⟩,rfl,rfl,(fun _ h=>by cases h),List.nodup_nil⟩ (fun j p hj=>?_) fun h' tk k3 d3=>⟨rfl,h h' tk (fun b o e=>?_) d3⟩⟩
 ·obtain⟨v,hv,q,ob,m,e,g,c,dt,kk⟩:=hp j p hj;refine⟨v,by rw[Nat.zero_add];exact hv,q,ob,m,e,k2 _ _ g,c,dt,kk.1.keep fun b its t=>?_,kk.2⟩;obtain⟨o2,g2,c2,m2,d2⟩:=t;exact⟨o2,k2 _ _ g2,c2,m2,d2⟩
 ·have:=wLa e;exact k3 b o (wTa this) (wTa (Nat.lt_trans this lt)) (k2 _ _ e)
end
end L2
namespace DS
open PySem PySem.Spec PyProof.Rows L2
def zK(kvs ps:List (KD×Addr×V)):List (KD×Addr×V):=ps.foldl (fun kvs p=>yY kvs p.1 p.2.1 p.2.2) kvs
theorem yO.puts:∀{ps:List (KD×Addr×V)} {us:List (KD×Addr×Value)} {kvs:List (KD×Addr×V)} {xs:List (KD×Addr×Value)},yO ps us->yO kvs xs->yO (zK kvs ps) (Kp xs us)
 | _,_,_,_,.nil,h=>h
 | p::ps,u::us,kvs,xs,.cons r t,h=>by
  obtain⟨r1,r2,r3⟩:=r;show yO (zK (yY kvs p.1 p.2.1 p.2.2) ps) (Kp (storedH xs u.1 u.2.1 u.2.2) us);rw[<-r1,<-r2];exact yO.puts t (h.put r3)
theorem k_:∀(ps kvs:List (KD×Addr×V)),(zK kvs ps).length<=kvs.length+ps.length
 | [],kvs=>wPa _
 | p::ps,kvs=>by
  have h1:=k_ ps (yY kvs p.1 p.2.1 p.2.2);have h2:=gF kvs p.1 p.2.1 p.2.2;show(zK (yY kvs p.1 p.2.1 p.2.2) ps).length<=_;rw[vXa]
  lia
section
variable {X:Cx}
def ZZ(K:Fr)(H:Hp):List V->List (KD×Addr×V)->Prop
 | [],[]=>True
 | y::ys,p::ps=>(∃q dk,y=.ref q/\Jq K H q [.ref p.2.1,p.2.2]/\j9 K H dk (.ref p.2.1)/\J3 dk=some p.1)/\ZZ K H ys ps
 | _,_=>False
set_option tactic.hygienic true in
theorem ZZ.val{pins:List (Addr×Obj)}{U:L2.St}{H:Hp}{s:Shared}(I:Inv X pins U H s):∀{ys:List V} {ps:List (KD×Addr×V)} {its:List Value},ZZ X.K H ys ps->jj ys its->∃us,yO ps us/\its.length=us.length/\∀(j:Nat) u,us[j]?=some u->∃v,its[j]?=some v/\Vq X.prog X.w s.heap v u
 | [],[],_,_,.nil=>⟨[],.nil,rfl,fun j u h=>by simp at h⟩
 | y::ys,p::ps,_,h,.cons r t=>by
  obtain⟨⟨q,dk,rfl,sq,rk,ek⟩,h2⟩:=h;obtain⟨us,u1,u2,u3⟩:=ZZ.val I h2 t;cases r;obtain⟨its,rv,⟨ob,g,c,n,d⟩,_⟩:=I.tuple sq;have ku:=Yq I rk ek;cases rv with
  | cons r1 rv=>
  cases rv with
  | cons r2 rv=>
  cases rv;cases r1;rename_i u;refine⟨(p.1,p.2.1,u)::us,.cons ⟨rfl,rfl,r2⟩ u1,by simp[u2],fun j w hj=>?_⟩;cases j with
  | zero=>cases hj;exact⟨_,rfl,q,ob,n,rfl,g,c,d,ku⟩
  | succ j=>exact u3 j w hj
def qv{n:Nat}(hc:X.calm=true)(hr:Room n X.A):yZ X (.type "dict") (fun xs H Q=>∃a ys ps,xs=[.ref a]/\H a=some (.lst ys)/\ZZ X.K H ys ps/\∀d ep,H d=none->Q (.ref d) (upd H d (.dD (zK [] ps) ep))):=by
 intro pins s U H xs us Q I r h;obtain⟨a,ys,ps,rfl,e,pa,q⟩:=h;cases r with
 | cons r1 r2=>
 cases r2;cases r1;obtain⟨z,its,m,rv,g⟩:=I.hok a _ e;obtain⟨us,u1,u2,u3⟩:=pa.val I rv;have hl:=rv.length;refine b7 (ps:=us) g (I.ok.hd hc) (by have:=hr.un;lia) (by simp;lia) (by simpa using u2) (fun j p hj=>by obtain⟨v,e1,e2⟩:=u3 j p hj;exact⟨v,by simpa using e1,e2⟩) fun h' tk k dd=>?_;obtain⟨o,es,ep,g',ex,dt,ee,_,nd⟩:=dd;have pr:=yO.puts u1 (kvs:=[]) (xs:=[]) .nil;have pl:=k_ ps [];have e3:=Paired.length u1;refine⟨.ref s.heap.objs.size,_,I.laid (a:=s.heap.objs.size) (o:=.dD (zK [] ps) ep) (t':=tk) k (wPa _) ⟨?_,beq_eq_false_iff_ne.mpr (Ne.symm (wTa (Inv.big I))),?_,_,pr,o,es,g',ex,dt,ee⟩,rfl,q _ ep (I.hok.fresh (wPa _))⟩
 ·simp at pl;lia
 ·rw[<-pr.fst];exact nd
end
noncomputable def EW:D->Option (D×D)
 | .tup [k,v]=>some (k,v)
 | _=>none
def Yr:List D->List D->List D->Option (List D×List D)
 | [],ks,vs=>some (ks,vs)
 | d::r,ks,vs=>(EW d).bind fun p=>(J3 p.1).bind fun x=>(jK ks).bind fun qs=>Yr r (Yy qs ks x p.1) (YM qs vs x p.2)
def Z_:List D->Option OD
 | [.lst l]=>(Yr l [] []).bind fun p=>some (.dct p.1 p.2)
 | _=>none
section
variable {K:Fr} {H:Hp}
theorem wA:∀{l:List D} {ks vs ks' vs':List D} {ys:List V} {kvs:List (KD×Addr×V)},Yr l ks vs=some (ks',vs')->j0 K H l ys->jK ks=some (kvs.map (·.1))->j0 K H ks (kvs.map fun p=>V.ref p.2.1)->j0 K H vs (kvs.map (·.2.2))->
  ∃ps,ZZ K H ys ps/\jK ks'=some ((zK kvs ps).map (·.1))/\j0 K H ks' ((zK kvs ps).map fun p=>V.ref p.2.1)/\j0 K H vs' ((zK kvs ps).map (·.2.2))
 | [],ks,vs,ks',vs',ys,kvs,e,r,h1,h2,h3=>by
  rw[j0]at r;subst r;rw[Yr]at e;cases e;exact⟨[],trivial,h1,h2,h3⟩
 | d::l,ks,vs,ks',vs',ys,kvs,e,r,h1,h2,h3=>by
  rw[j0]at r;obtain⟨y,ys',rfl,rd,rl⟩:=r;rw[Yr]at e;obtain⟨⟨k,v⟩,e0,e5⟩:=j3 e;clear e;unfold EW at e0;split at e0
  ·cases e0;obtain⟨x,e1,e6⟩:=j3 e5;obtain⟨qs,e2,e⟩:=j3 e6;rw[h1]at e2;cases e2;rw[j9]at rd;obtain⟨q,zs,rfl,sq,rz⟩:=rd;rw[j0]at rz;obtain⟨a,zs,rfl,ra,rz⟩:=rz;rw[j0]at rz;obtain⟨c,zs,rfl,rc,rz⟩:=rz;rw[j0]at rz;subst rz;obtain⟨b,rfl,rb⟩:=ZX (O:=[]) (.inl (by rw[show j6 H []=H from by funext b;rfl];exact ra)) e1;obtain⟨p1,p2,p3⟩:=k6 (b:=b) (qs:=[]) e1 h1 h2 h3 rb rc;obtain⟨ps,q1,q2,q3,q4⟩:=wA e rl p1 p2 p3;exact⟨(x,b,c)::ps,⟨⟨q,k,rfl,sq,rb,e1⟩,q1⟩,q2,q3,q4⟩
  ·cases e0
theorem ZZ.same{H':Hp}(s:j5 H H'):∀{ys:List V} {ps:List (KD×Addr×V)},ZZ K H ys ps->ZZ K H' ys ps
 | [],[],_=>trivial
 | _::_,_::_,⟨⟨q,dk,e,sq,r,ek⟩,t⟩=>⟨⟨q,dk,e,s.tup sq,r.same s,ek⟩,ZZ.same s t⟩
def b8:a9 K (fun xs H Q=>∃a ys ps,xs=[.ref a]/\H a=some (.lst ys)/\ZZ K H ys ps/\∀d ep,H d=none->Q (.ref d) (upd H d (.dD (zK [] ps) ep))) Z_:=by
 intro O H ks ds vs d Q h e q;unfold Z_ at e;split at e
 ·obtain⟨p,e1,e⟩:=j3 e;cases e;obtain⟨v,rfl,r⟩:=zw h;obtain⟨a,ys,rfl,h1,h2⟩:=r.lst;obtain⟨ps,q1,q2,q3,q4⟩:=wA (kvs:=[]) e1 h2 (by rw[jK];rfl) j0.nil j0.nil;refine⟨a,ys,ps,rfl,h1,q1.same Jj,fun d ep hd=>q _ _ (jC hd _) hd ⟨_,ep,jV,q2,q3.same (yg (jC hd _) hd),q4.same (yg (jC hd _) hd)⟩⟩
 ·cases e
noncomputable def GB:List D->Option D
 | [.dct ks _]=>some (.int ks.length)
 | _=>none
@[simp] theorem F_(ks vs:List D):GB [.dct ks vs]=some (.int ks.length):=rfl
def C7:Fn K (fun xs H Q=>∃a kvs ep,xs=[.ref a]/\H a=some (.dD kvs ep)/\Q (.int kvs.length) H) GB:=by
 intro O H ks ds vs d Q h hn e q;unfold GB at e;split at e
 ·cases e;obtain⟨v,rfl,r⟩:=zw h;obtain⟨p,kvs,ep,rfl,h1,_,h3,_⟩:=r.dct;refine⟨p,kvs,ep,rfl,h1,q _ H (j5.refl H) ?_⟩;have:=h3.len;rw[vYa]at this;rw[j9,this]
 ·cases e
def Qu{X:Cx}:yZ X (.builtin "len") (fun xs H Q=>∃a hf kas,xs=[.ref a]/\H a=some (.ext (JM hf a kas))/\kas.length < 2 ^ 24/\Q (.int kas.length) H):=by
 intro pins s U H xs us Q I r h;obtain⟨a,hf,kas,rfl,e,hl,q⟩:=h;cases r with
 | cons r1 r2=>
 cases r2;cases r1;obtain⟨⟨o,es,ep,t,kas',g,ex,dt,si,l1,_,ee⟩,_⟩:=I.hok a _ e;have sz:es.size=kas.length:=by rw[<-l1,<-Array.length_toList,ee,vYa]
 exact call_len_set g ex dt (ZM si) (by lia) ⟨.int kas.length,H,I.tok _,⟨_,by rw[sz]⟩,q⟩
def C8:Fn K (fun xs H Q=>∃a hf kas,xs=[.ref a]/\H a=some (.ext (JM hf a kas))/\kas.length < 2 ^ 24/\Q (.int kas.length) H) UI:=by
 intro O H ks ds vs d Q h hn e q;unfold UI at e;split at e
 ·split at e
  ·cases e;obtain⟨v,rfl,r⟩:=zw h;obtain⟨p,hf,kas,rfl,h1,h2⟩:=r.sz;refine⟨p,hf,kas,rfl,h1,by lia,q _ H (j5.refl H) ?_⟩;rw[j9,h2]
  ·cases e
 ·cases e
end
section
variable {X:Cx} {K:Fr} {e:Expr} {da db dc:DE}
def aD(K:Fr):V->List V->Hp->VK->Prop:=fun x vs H Q=>∃a ks kvs ep b y dk k,x=.ref a/\vs=[.ref b,y]/\DAt K H a ks kvs ep/\j9 K H dk (.ref b)/\J3 dk=some k/\Q ((Zz kvs k).getD y) H
def b9{n:Nat}(hr:Room n X.A):EE X "dict.get" (aD X.K):=by
 intro pins s U H x vs v us Q I rx rv h;obtain⟨a,ks,kvs,ep,b,y,dk,k,rfl,rfl,da,rk,ek,q⟩:=h;cases rx;cases rv with
 | cons r1 rr=>
 cases rr with
 | cons r2 rr=>
 cases rr;cases r1;obtain⟨_,hS,xs,pr,dd⟩:=da.dict I;refine wpAny_call_entry F.slot_dict_get dd.typeIs F.entry_dict_get ?_ (F.args_dict_get_3 _ _ _);show wpAny _ _ (dictGet a (.ref b) >>= _) _ _ s;refine wAa (wpAny_dictGet_heap (knd:=J7 X.prog X.w) (by have:=hr.un;show X.A.in1.units+8 < cLine;rw[Around.in1_units];lia) (Yq I rk ek) dd ?_);rcases pr.at (k:=k)with⟨v,p,e1,e2,rv⟩ | ⟨e1,e2⟩
 ·rw[e2];rw[e1]at q;exact wBa ⟨_,rfl,v,H,I.tok _,rv,q⟩
 ·rw[e2];rw[e1]at q;show wpAny _ _ (Builtin.Dict.missed a (.ref b) >>= _) _ _ _;exact wAa (wpAny_missed_other hS (wBa ⟨_,rfl,y,H,I.tok _,r2,q⟩))
def qw:D->D->D->Option D
 | .dct ks vs,k,y=>(J3 k).bind fun q=>(jK ks).bind fun qs=>some ((yj qs vs q).getD y)
 | _,_,_=>none
@[simp] def qx(da db dc:DE)(Z:je):Option D:=(da Z).bind fun x=>(db Z).bind fun i=>(dc Z).bind fun d=>qw x i d
theorem K0{H:Hp}{k:KD}:∀{kvs:List (KD×Addr×V)} {vs:List D},j0 K H vs (kvs.map (·.2.2))->yj (kvs.map (·.1)) vs k=none->Zz kvs k=none
 | [],_,_,_=>rfl
 | p::kvs,[],r,e=>by rw[vWa,j0]at r;cases r
 | p::kvs,d::vs,r,e=>by
  rw[vWa,j0]at r;obtain⟨_,_,ee,r1,r2⟩:=r;cases ee;rw[vWa,yj]at e;unfold Zz;rw[List.find?_cons];by_cases h:p.1=k
  ·rw[if_pos h]at e;cases e
  ·rw[if_neg h]at e;rw[decide_eq_false h];exact K0 r2 e
def ba{H:Hp}{k:KD}{y:D}{v0:V}(r0:j9 K H y v0){kvs:List (KD×Addr×V)}{vs:List D}(r:j0 K H vs (kvs.map (·.2.2))):j9 K H ((yj (kvs.map (·.1)) vs k).getD y) ((Zz kvs k).getD v0):=by
 cases e:yj (kvs.map (·.1)) vs k with
 | some d=>obtain⟨v,e1,e2⟩:=k4 r e;rw[e1];exact e2
 | none=>rw[K0 r e];exact r0
def C9(h:PE X e (Ge K "dict" (aD K) (tR K da) (yH (tE K db) (yH (tE K dc) ZU)))):PE X e (tE K (qx da db dc)):=jz h fun U H Q xx=>by
 obtain⟨H0,O0,Z,O,r,R,ed,q⟩:=xx;obtain⟨x,e1,ed⟩:=j3 ed;obtain⟨i,e2,ed⟩:=j3 ed;obtain⟨d,e3,ed⟩:=j3 ed;unfold qw at ed;split at ed
 ·obtain⟨kk,e4,ed⟩:=j3 ed;obtain⟨qs,e5,ed⟩:=j3 ed;cases ed;refine⟨H0,O0,Z,O,_,R,e1,fun v H1 s1 rx=>?_⟩;obtain⟨a,kvs,ep,rfl,h1,h2,h3,h4⟩:=rx.dct;rw[h2]at e5;cases e5;refine⟨.inr (.inr (.inl ⟨rfl,.inr (.inr ⟨kvs,ep,h1⟩)⟩)),H0,O0,Z,O,_,R.grow s1,e2,fun k H2 s2 rk=>⟨H0,O0,Z,O,_,R.grow (s1.trans s2),e3,fun y H3 s3 ry=>?_⟩⟩;have s23:=s2.trans s3;obtain⟨b,rfl,rb⟩:=ZX (O:=O) (.inl (rk.same (jc s3))) e4;exact⟨a,_,kvs,ep,b,y,_,kk,rfl,rfl,⟨s23 _ _ h1,h2,(h3.same (jc s23)).same Jj⟩,rb,e4,q _ H3 (s1.trans s23) (ba ry (h4.same (jc s23)))⟩
 ·cases ed
end
end DS
namespace L2
open PySem PySem.Spec PyProof.Rows
theorem wB{α:Type}(xs:Array α):∀n,n<=xs.size->((List.range n).map fun(k:Nat)=>(((n:Int) - 1)+(-1) * (k:Int)).toNat).filterMap (xs[·]?)=(xs.toList.take n).reverse
 | 0,_=>rfl
 | n+1,h=>by
  rw[List.range_succ_eq_map,vWa,List.filterMap_cons];have e0:(((n+1:Nat):Int) - 1+(-1) * ((0:Nat):Int)).toNat=n:=by lia
  rw[e0,Array.getElem?_eq_getElem (show n < xs.size by lia)];dsimp only;rw[List.map_map];have e1:((fun(k:Nat)=>(((n+1:Nat):Int) - 1+(-1) * (k:Int)).toNat)∘Nat.succ)=fun(k:Nat)=>(((n:Int) - 1)+(-1) * (k:Int)).toNat:=by
   funext k;simp only[Function.comp]
   lia
  rw[e1,wB xs n (by lia),List.take_succ_eq_append_getElem (by simp;lia),List.reverse_append];simp
def Qw(xs:Array Value):slicePick xs none none (some (-1))=xs.toList.reverse.toArray:=by
 unfold slicePick;have eb:sliceBounds none none (some (-1)) xs.size=((xs.size:Int) - 1,-1,-1):=rfl;rw[eb];unfold sliceRange;dsimp only;have e:(if (-1:Int) > 0 then(if (xs.size:Int) - 1 < -1 then(-1 - ((xs.size:Int) - 1) + -1 - 1) / -1 else 0)else if (xs.size:Int) - 1 > -1 then((xs.size:Int) - 1 - -1 - -1 - 1) / - -1 else 0).toNat=xs.size:=by
  rw[if_neg (by decide)];by_cases h:xs.size=0
  ·rw[h];rfl
  ·rw[if_pos (by lia),show(- (-1:Int))=1 from rfl,Int.ediv_one]
   lia
 rw[e,wB xs xs.size (Nat.le_refl _)];congr 2;exact List.take_of_length_le (by simp)
section
variable {X:Cx} {e st:Expr} {te ts:TE} {p2 pos:Pos}
def Ef(K:uXa)(te ts:TE):TE:=fun U H Q=>te U H fun x H1=>ts U H1 fun n H2=>∃a xs,x=.ref a/\n=.int (-1)/\jG K H2 a xs/\∀p,H2 p=none->Q (.ref p) (upd H2 p (.lst xs.reverse))
def bb(he:PE X e te)(hs:PE X st ts):PE X (.Subscript e (.Slice none none (some st) p2) pos) (Ef X.K te ts):=by
 intro pins s U H Q I h;refine Subscript_ (jw (he pins s U H _ I h) fun v s1 xx=>?_);obtain⟨x,H1,I1,r1,q1⟩:=xx;refine wpAny_Slice ?_;rw[evalPart_none];refine wBa (wBa ?_);refine(show wpAny _ _ (eval st X.env) _ _ s1 from jw (hs pins s1 U H1 _ I1 q1) fun vs s3 xx=>?_);obtain⟨n,H3,I3,rn,a,xs,rfl,rfl,hx,q⟩:=xx;cases r1;obtain⟨t,rfl⟩:=rn;have I4:Inv X pins U H3 { s3 with heap:=s3.heap.push { cls:=.type "slice",data:=.fields #[.none,.none,.int (-1) t] } }:=I3.kept (t':=s3.toks) fun b ob q=>wIa _ q;obtain⟨its,r,ht,hz⟩:=I4.list hx;have hlen:=r.length;show wpAny (model X.prog X.w) X.A (subscriptTail e (.Slice none none (some st) p2) (.ref a) (.ref s3.heap.objs.size)) (EP X pins U Q) X.xe { s3 with heap:=s3.heap.push { cls:=.type "slice",data:=.fields #[.none,.none,.int (-1) t] } };refine tail_any (ops:=[.ref a,.ref s3.heap.objs.size]) ht.isList.typeIs slot_list_getitem.lookup ?_ (by with_unfolding_all rfl);refine wpAny_getItem_list_slice ht.isList (Heap.IsSliceOf.new ..) .none .none (.int (-1) t) (by simp) ?_ (by rw[List.size_toArray] <;> lia);rw[Qw];refine⟨.ref (s3.heap.push { cls:=.type "slice",data:=.fields #[.none,.none,.int (-1) t] }).objs.size,_,I4.laid (t':=s3.toks) (o:=.lst xs.reverse) (fun b ob q=>wIa _ q) (wPa _) ?_,rfl,q _ (I4.hok.fresh (wPa _))⟩;exact⟨by rw[List.length_reverse];exact hz,_,0,r.reverse,wJa _ rfl⟩
end
end L2
namespace DS
open PySem PySem.Spec PyProof.Rows L2
theorem j0.rev{K:Fr}{H:Hp}:∀{ds:List D} {vs:List V},j0 K H ds vs->j0 K H ds.reverse vs.reverse
 | [],_,h=>by rw[j0]at h;subst h;exact j0.nil
 | d::ds,_,h=>by
  rw[j0]at h;obtain⟨v,r,rfl,a,b⟩:=h;rw[List.reverse_cons,List.reverse_cons];exact(j0.rev b).snoc a
noncomputable def qy:D->D->Option OD
 | .lst l,.int n=>if n=-1 then some (.lst l.reverse)else none
 | _,_=>none
@[simp] def qz(de ds:DE)(Z:je):Option OD:=(de Z).bind fun x=>(ds Z).bind fun n=>qy x n
set_option tactic.hygienic true in
theorem Ca{X:Cx}{K:Fr}{e st:Expr}{de ds:DE}{p2 pos:Pos}(he:PE X e (tR K de))(hs:PE X st (tR K ds))(hK:X.K=K):PE X (.Subscript e (.Slice none none (some st) p2) pos) (tF K (qz de ds)):=jz (bb he hs) fun U H Q xx=>by
 obtain⟨H0,O0,Z,O,d,R,ed,qq⟩:=xx;subst hK;obtain⟨x,e1,ed⟩:=j3 ed;obtain⟨n,e2,ef⟩:=j3 ed;clear ed;refine⟨H0,O0,Z,O,x,R,e1,fun v H1 s1 r=>⟨H0,O0,Z,O,n,R.grow s1,e2,fun u H2 s2 r2=>?_⟩⟩;unfold qy at ef;split at ef
 ·split at ef
  ·rename_i hn;cases ef;obtain⟨p,xs,rfl,h1,h2⟩:=(r.same s2).lst;have s12:=s1.trans s2;exact⟨p,xs,rfl,by rw[r2.int,hn],jG.of h1,fun l hl=>qq l _ (s12.trans (jC hl _)) (s12.none hl) (yh hl h2.rev)⟩
  ·cases ef
 ·cases ef
end DS
namespace CP
open PySem PySem.Spec PyProof.Rows L2 DS
inductive GI where
 | con (i:Int)
 | fE (k:Nat) (ps:List Str) (ks:List Bool) (F:List D->Option D)
 | fF (k:Nat) (ps:List Str) (ks:List Bool) (F:List D->Option OD)
 | mk (k:Nat) (ps:List Str) (ks:List Bool) (F:Addr->List D->Option OD) (G:List D->Option OD)
 | fL (k:Nat) (ps:List Str) (F:List (List D)->List D->Option (List (List D)))
 | blt
structure Gm where
 N:List Str
 sc:Scope
 fn:Bool
 kF:Bool
 C:Addr
 gs:List (Str×GI)
 ms:List (Str×GI)
 fl:List Str
 hs:List ((Nat×Nat×Nat)×List Nat)
 sh:List (Nat×Nat)
 ow:List Nat
inductive Dn where
 | E (d:DE) | F (d:DO)
noncomputable def Dn.e:Dn->DE
 | .E d=>d
 | .F d=>dL d
noncomputable def ka(x:Str):List Str->Option Nat
 | []=>none
 | y::r=>if x=y then some 0 else(ka x r).map (· + 1)
noncomputable def kd(sc:Scope)(x:Str):Option NameKind:=sc.names.lookup x
noncomputable def qA(sc:Scope)(x:Str):Bool:=match kd sc x with
 | some .local=>true
 | some .cell=>true
 | some .free=>true
 | _=>false
noncomputable def wC(sc:Scope)(x:Str):Bool:=match kd sc x with
 | some .local=>true
 | some .cell=>true
 | _=>false
noncomputable def qB(sc:Scope)(x:Str):Bool:=match kd sc x with
 | some .local=>true
 | _=>false
noncomputable def wD(Γ:Gm)(x:Str):Bool:=(match kd Γ.sc x with
 | some .globalImplicit=>true
 | _=>false)&&!(x==("__debug__" : Str))
noncomputable def cG(c:Bool){α:Type}(o:Option α):Option α:=if c then o else none
def slot(Γ:Gm)(x:Str):Option Nat:=(ka x Γ.N).bind fun i=>if qA Γ.sc x&&(!(x==("__debug__" : Str))&&!(x==("__classdict__" : Str)))then some i else none
def nm(Γ:Gm):Expr->Option Nat
 | .Name x _=>slot Γ x
 | _=>none
def K3(Γ:Gm)(x:Str):Option Nat:=(ka x Γ.N).bind fun i=>if wC Γ.sc x&&(Γ.fn||qB Γ.sc x)then some i else none
noncomputable def JG:Expr->Bool
 | .Starred _ _=>false
 | _=>true
structure Rc where
 n:Gm->Expr->Option Dn
 t:Gm->Expr->Option DT
 g:Gm->Nat->Expr->Option DG
section
variable (r:Rc) (Γ:Gm)
noncomputable def cV(f:Nat->DE)(e:Expr):Option DE:=match nm Γ e with
 | some i=>some (f i)
 | none=>(r.n Γ e).map Dn.e
def cA:List Bool->List Expr->Option DA
 | [],[]=>some []
 | k::ks,e::es=>if JG e then(cV r Γ (if k then dC else dV) e).bind fun d=>(cA ks es).bind fun l=>some ((k,d)::l)else none
 | _,_=>none
def Cb:Operator->Option (D->D->Option D)
 | .Add=>some jv
 | .Sub=>some YB
 | .Mult=>some yJ
 | .Mod=>some jF
 | .FloorDiv=>some GW
 | .Pow=>some GX
 | _=>none
def VO:CmpOp->Option (D->D->Option D)
 | .Eq=>some jH
 | .NotEq=>some Jv
 | .Lt=>some Zy
 | .LtE=>some Jo
 | .Gt=>some JW
 | .GtE=>some Vm
 | .Is=>some KP
 | .IsNot=>some ZE
 | _=>none
noncomputable def cB(f:DE->DE->DE):List Expr->Option DE
 | []=>none
 | [a]=>cV r Γ dC a
 | a::b=>(cV r Γ dV a).bind fun d=>(cB f b).bind fun d'=>some (f d d')
noncomputable def cW(f:DT->DT->DT):List Expr->Option DT
 | []=>none
 | [a]=>r.t Γ a
 | a::b=>(r.t Γ a).bind fun d=>(cW f b).bind fun d'=>some (f d d')
def X4:Option Expr->Option KT
 | none=>some fun _=>some none
 | some e=>(cV r Γ dV e).map fun d=>fun Z=>(d Z).bind JC
noncomputable def uO(p:Pos):Option (List Nat):=Γ.hs.lookup (p.line,p.col,p.endCol)
noncomputable def wE:Expr->Bool
 | .Call _ _ _ _=>false
 | _=>true
noncomputable def uP:Expr->Bool
 | .Slice _ _ _ _=>false
 | _=>true
def FH:Option (List Nat)->List D->Option D
 | none=>Jy
 | some []=>GB
 | some (_::_)=>UI
def X5(x:Str)(n:Option (List Nat)):Option (List D->Option D):=if x = "len" then some (FH n)else if x = "tuple" then some JX else if x = "all" then some zx else if x = "max" then some uE else if x = "min" then some VM else if x = "any" then some uN else none
def X6(x:Str)(h:Bool):Option (List D->Option OD):=if x = "list" then some (if h then Vo else y_)else if x = "dict" then some Z_ else none
def Cd(x:Str):Bool:=wD Γ x&&(match Γ.gs.lookup x with | some .blt=>true | _=>false)
def Ce(e:Expr):Option DI:=(cV r Γ dP e).map jQ
def Cf(tup:Bool)(x:Str)(as:List Expr):Option DI:=
 if Cd Γ x then(match as with
  | [a]=>if x = "range" then cG (JG a) ((cV r Γ dV a).map yt)
   else if x = "enumerate" then cG (JG a&&tup) ((cV r Γ dP a).map vK)
   else if x = "reversed" then cG (JG a) ((cV r Γ dP a).map xZ)else none
  | [a,b]=>if x = "zip" then cG (JG a&&JG b&&tup) ((cV r Γ dP a).bind fun d=>(cV r Γ dP b).map fun d'=>qo d d')else none
  | _=>none)else none
noncomputable def UJ:Expr->Bool
 | .Tuple _ _ _=>true
 | _=>false
noncomputable def VP:Expr->Bool
 | .Set _ _ _=>false
 | _=>true
def Cg(tg e f:Expr)(as:List Expr)(ks:List Keyword)(p:Pos):Option DI:=match f with
 | .Name x _=>(match ks with
  | []=>(match Cf r Γ (UJ tg) x as with
   | some d=>some d
   | none=>Ce r Γ e)
  | _::_=>none)
 | _=>none
def cI(tg:Expr)(e:Expr):Option DI:=match e with
 | .Call f as ks p=>Cg r Γ tg e f as ks p
 | _=>cG (VP e) (Ce r Γ e)
noncomputable def Ch(scope sc:Scope):Scope:={ scope with names:=scope.names.map fun(n,k)=>if k==.free&&sc.kind==.function&&sc.names.lookup n==some .cell then(n,.cell)else(n,k) }
noncomputable def uQ:Nat->Expr->List Str
 | 0,_=>[]
 | _+1,.Name x _=>[x]
 | n+1,.Tuple es _ _=>(es.map (uQ n)).flatten
 | _,_=>[]
noncomputable def uR:List Str->Bool
 | []=>true
 | x::r=>!(r.contains x)&&uR r
noncomputable def wF:List Nat->Bool
 | []=>true
 | x::r=>!(r.contains x)&&wF r
noncomputable def qC(scope:Scope)(p:Str×Nat):Bool:=(match Γ.N[p.2]? with
  | some y=>y==p.1
  | none=>false)&&(match kd Γ.sc p.1 with
  | some .cell=>true
  | some .free=>true
  | _=>false)&&(match kd scope p.1 with
  | some .free=>true
  | _=>false)
noncomputable def aE(scope:Scope):Bool:=(match scope.kind with | .function=>true | _=>false)&&(scope.names.all fun y=>y.2 != .local||scope.names.lookup y.1==some .local)&&(scope.names.all fun y=>y.2 != .cell) &&
 (scope.names.all fun y=>y.2 != .free||Γ.sc.names.lookup y.1==some .cell||Γ.sc.names.lookup y.1==some .free)
def v4(p:Pos):List (Str×Nat):=((uO Γ p).getD []).map fun j=>(Γ.N.getD j "",j)
def inner(own:List Str)(caps:List (Str×Nat))(scope:Scope):Gm:={ Γ with N:=own++caps.map (·.1),sc:=Ch scope Γ.sc,fn:=false }
def Ci(elt tg iter:Expr)(ifs:List Expr)(scope:Scope)(p:Pos):Option DO:=
 let own:=uQ 5 tg
 let caps:=v4 Γ p
 let Δ:=inner Γ own caps scope
 cG (aE Γ scope&&caps.all (qC Γ scope)&&uR Δ.N&&wF (caps.map fun z:Str×Nat=>z.2)&&VP iter)
  ((cI r Γ tg iter).bind fun di=>(r.g Δ own.length tg).bind fun g=>(match ifs with
   | []=>some jA
   | [c]=>r.t Δ c
   | _=>none).bind fun dc=>(cV r Δ dC elt).bind fun de=>some (JU own.length (caps.map fun z:Str×Nat=>z.2) di g dc de))
def X7(es:List Expr):Option Dn:=match es with
 | [a,t]=>(match t with
  | .Name t _=>cG (JG a&&Cd Γ t&&t==("bool" : Str)) ((cV r Γ dV a).map fun d=>.E (d1 wc d))
  | _=>none)
 | _=>none
def aF(x:Str)(es:List Expr)(p:Pos):Option Dn:=cG (wD Γ x&&!es.isEmpty) (match Γ.gs.lookup x with
 | some (.fE _ _ ks F)=>(cA r Γ ks es).map fun l=>.E (jb F l)
 | some (.fF _ _ ks F)=>(cA r Γ ks es).map fun l=>.F (Jr F l)
 | some (.mk _ _ ks _ G)=>(cA r Γ ks es).map fun l=>.F (qp G l)
 | some .blt=>if x = "isinstance" then X7 r Γ es
  else(cA r Γ (es.map fun _=>false) es).bind fun l=>(match X5 x (uO Γ p)with
   | some f=>some (.E (jb f l))
   | none=>(X6 x (uO Γ p).isSome).map fun f=>.F (Jr f l))
 | _=>none)
noncomputable def Cj:Const->Option Dn
 | .int i=>some (.E (dK (.int i)))
 | .bool i=>some (.E (dK (.bl i)))
 | .none=>some (.E (dK .non))
 | .str i=>some (.E (dK (.str i)))
 | _=>none
def Cl(op:UnaryOp)(a:Expr):Option Dn:=match op with
 | .USub=>(cV r Γ dV a).map fun d=>.E (yB d)
 | .Not=>(cV r Γ dV a).map fun d=>.E (XZ d)
 | _=>none
def EX(a:Expr)(op:Operator)(b:Expr)(p:Pos):Option Dn:=(cV r Γ dV a).bind fun d=>(cV r Γ dV b).bind fun d'=>(match uO Γ p with
  | some _=>(match op with
   | .Add=>some (.F (Qb uA d d'))
   | _=>none)
  | none=>(Cb op).map fun f=>.E (d2 f d d'))
def FI:CmpOp->Option (D->D->Option D)
 | .In=>some (gG false)
 | .NotIn=>some (gG true)
 | .Is=>some wz
 | .IsNot=>some Ko
 | _=>none
def aG(p:Pos)(o:CmpOp):Option (D->D->Option D):=if (uO Γ p).isSome then FI o else VO o
def EY(a:Expr)(os:List CmpOp)(bs:List Expr)(p:Pos):Option DE:=match os,bs with
 | [o],[b]=>cG (!behindInMarks o b) ((cV r Γ dV a).bind fun d=>(cV r Γ dV b).bind fun d'=>(aG Γ p o).map fun f=>d2 f d d')
 | [o,o'],[b,c]=>cG (!lastMarks [o,o'] [b,c]) ((cV r Γ dV a).bind fun d=>(cV r Γ dV b).bind fun d'=>(cV r Γ dV c).bind fun d''=>(VO o).bind fun f=>(VO o').map fun f'=>Jl f f' d d' d'')
 | [o,o',o''],[b,c,e]=>cG (!lastMarks [o,o',o''] [b,c,e]) ((cV r Γ dV a).bind fun d=>(cV r Γ dV b).bind fun d'=>(cV r Γ dV c).bind fun d''=>(cV r Γ dV e).bind fun d3=>
   (VO o).bind fun f=>(VO o').bind fun f'=>(VO o'').map fun f''=>Uu f f' f'' d d' d'' d3)
 | _,_=>none
def Cm(a b:Expr)(p:Pos):Option Dn:=match b with
 | .Slice lo hi st _=>(match st with
  | none=>(cV r Γ dV a).bind fun d=>(X4 r Γ lo).bind fun x=>(X4 r Γ hi).map fun y=>(match uO Γ p with
   | some _=>.E (Uv d x y)
   | none=>.F (JT d x y))
  | some e=>cG (lo.isNone&&hi.isNone) ((cV r Γ dV a).bind fun d=>(cV r Γ dV e).map fun n=>.F (qz d n)))
 | b=>cG (uP b) ((cV r Γ dV a).bind fun d=>(cV r Γ dV b).map fun d'=>.E (d2 (if (uO Γ p).isSome then Zi else j8) d d'))
def aH(elt:Expr)(gs:List Comprehension)(scope:Scope)(p:Pos):Option DO:=match gs with
 | [⟨tg,iter,ifs,a⟩]=>cG (a==0) (Ci r Γ elt tg iter ifs scope p)
 | _=>none
def Cn(kx vx:Expr)(gs:List Comprehension)(scope:Scope)(p:Pos):Option DO:=match gs with
 | [⟨t1,i1,f1,a1⟩,⟨t2,i2,f2,a2⟩]=>
  let own:=uQ 5 t1++uQ 5 t2
  let caps:=v4 Γ p
  let Δ:=inner Γ own caps scope
  cG (aE Γ scope&&caps.all (qC Γ scope)&&uR Δ.N&&wF (caps.map fun z:Str×Nat=>z.2)&&VP i1&&VP i2&&f1.isEmpty&&f2.isEmpty&&a1==0&&a2==0)
   ((cI r Γ t1 i1).bind fun di=>(r.g Δ own.length t1).bind fun g1=>(cI r Δ t2 i2).bind fun di2=>(r.g Δ own.length t2).bind fun g2=>(cV r Δ dC kx).bind fun dk=>(cV r Δ dC vx).map fun dv=>Wv own.length (caps.map fun z:Str×Nat=>z.2) di g1 di2 g2 dk dv)
 | _=>none
def Co(elt:Expr)(gs:List Comprehension)(scope:Scope)(p:Pos):Option DO:=match gs with
 | [⟨t1,i1,f1,a1⟩]=>
  let own:=uQ 5 t1
  let caps:=v4 Γ p
  let Δ:=inner Γ own caps scope
  cG (aE Γ scope&&caps.all (qC Γ scope)&&uR Δ.N&&wF (caps.map fun z:Str×Nat=>z.2)&&VP i1&&f1.isEmpty&&a1==0)
   ((cI r Γ t1 i1).bind fun di=>(r.g Δ own.length t1).bind fun g1=>(cV r Δ dC elt).map fun de=>Wx own.length (caps.map fun z:Str×Nat=>z.2) di g1 de)
 | _=>none
noncomputable def X8(sc:Scope)(x:Str):Bool:=match kd sc x with
 | some .cell=>true
 | _=>false
def Cp(a:Expr)(m:Str)(ap:Pos)(es:List Expr)(p:Pos):Option Dn:=match a,es with
 | .Name x np,[]=>cG (ap.endLine==p.line) ((cV r Γ dV (.Name x np)).bind fun d=>match Γ.ms.lookup m with
  | some (.fE _ _ _ F)=>some (.E (d1 (vL Γ.C m F) d))
  | _=>none)
 | a,[e1,e2]=>cG (m==("get" : Str)&&wE a&&JG e1&&JG e2&&ap.endLine==p.line) ((cV r Γ dV a).bind fun da=>(cV r Γ dC e1).bind fun db=>(cV r Γ dC e2).map fun dc=>.E (qx da db dc))
 | _,_=>none
def EZ(f:Expr)(es:List Expr)(ks:List Keyword)(p:Pos):Option Dn:=match ks with
 | []=>(match f with
  | .Name x _=>aF r Γ x es p
  | .Attribute a m ap=>Cp r Γ a m ap es p
  | _=>none)
 | _::_=>none
def cN(e:Expr):Option Dn:=match e with
 | .Name x _=>cG (wD Γ x) (match Γ.gs.lookup x with
  | some (.con i)=>some (.E (dK (.int i)))
  | _=>none)
 | .Constant c _ _=>Cj c
 | .UnaryOp op a _=>Cl r Γ op a
 | .BinOp a op b p=>EX r Γ a op b p
 | .Compare a os bs p=>(EY r Γ a os bs p).map .E
 | .BoolOp op vs _=>(match op with
  | .And=>(cB r Γ JB vs).map .E
  | .Or=>(cB r Γ uC vs).map .E)
 | .IfExp c a b _=>(r.t Γ c).bind fun t=>(cV r Γ dC a).bind fun d=>(cV r Γ dC b).map fun d'=>.E (gA t d d')
 | .Tuple es _ _=>cG (Nat.ble es.length 1000) ((cA r Γ (es.map fun _=>true) es).map fun l=>.E (JS l))
 | .List es _=>cG (Nat.ble es.length 1000) ((cA r Γ (es.map fun _=>true) es).map fun l=>.F (J8 l))
 | .Dict ks vs _=>(match ks,vs with
  | [],[]=>some (.F UA)
  | _,_=>none)
 | .Attribute a f _=>cG (wE a&&Γ.fl.contains f) ((cV r Γ dV a).map fun d=>.E (d1 (Jk Γ.C f) d))
 | .Subscript a b p=>Cm r Γ a b p
 | .ListComp elt gs scope p=>(aH r Γ elt gs scope p).map .F
 | .Call f es ks p=>EZ r Γ f es ks p
 | _=>none
noncomputable def Cq:Expr->Bool
 | .UnaryOp .Not _ _=>false
 | .BoolOp _ _ _=>false
 | .IfExp _ _ _ _=>false
 | .Compare _ _ _ _=>false
 | _=>true
def E_(a:Expr)(os:List CmpOp)(bs:List Expr)(p:Pos):Option DT:=match os,bs with
 | [o],[b]=>cG (!behindInMarks o b) ((cV r Γ dV a).bind fun d=>(cV r Γ dV b).bind fun d'=>(aG Γ p o).map fun f=>jl (d2 f d d'))
 | [o,o'],[b,c]=>cG (!lastMarks [o,o'] [b,c]) ((cV r Γ dV a).bind fun d=>(cV r Γ dV b).bind fun d'=>(cV r Γ dV c).bind fun d''=>(VO o).bind fun f=>(VO o').map fun f'=>jl (Jl f f' d d' d''))
 | _,_=>none
def cT(e:Expr):Option DT:=match e with
 | .Compare a os bs p=>E_ r Γ a os bs p
 | .UnaryOp op a p=>(match op with
  | .Not=>(r.t Γ a).map JK
  | op=>cG (Cq (.UnaryOp op a p)) ((cV r Γ dV (.UnaryOp op a p)).map Jz))
 | .BoolOp op vs _=>(match op with
  | .And=>cW r Γ Jb vs
  | .Or=>cW r Γ Y8 vs)
 | e=>cG (Cq e) ((cV r Γ dV e).map Jz)
def aI(k:Nat):List Expr->Option KW
 | []=>some gZ
 | e::es=>cG (JG e) ((r.g Γ k e).bind fun g=>(aI k es).map fun gs=>gC g gs)
def Cr(k:Nat):Expr->Option DG
 | .Name x _=>(K3 Γ x).bind fun i=>cG (Nat.blt i k) (some (gN i))
 | .Tuple es _ _=>(aI r Γ k es).map fun gs=>gT es.length gs
 | _=>none
end
def rc:Nat->Rc
 | 0=>⟨fun _ _=>none,fun _ _=>none,fun _ _ _=>none⟩
 | n+1=>⟨cN (rc n),cT (rc n),Cr (rc n)⟩
noncomputable def wG:Stmt->Nat
 | .Return _ p=>p.line
 | .Assign _ _ p=>p.line
 | .AugAssign _ _ _ p=>p.line
 | .For _ _ _ _ p=>p.line
 | .While _ _ _ p=>p.line
 | .If _ _ _ p=>p.line
 | .Expr _ p=>p.line
 | _=>0
section
variable (r:Rc) (q:Gm->List Stmt->Option DS.DS) (Γ:Gm)
noncomputable def cF(e:Expr):Option DO:=match r.n Γ e with
 | some (.F d)=>some d
 | _=>none
noncomputable def v5:Expr->Bool
 | .ListComp _ _ _ _=>false
 | .SetComp _ _ _ _=>false
 | .DictComp _ _ _ _ _=>false
 | _=>true
def aJ(scope:Scope)(x:Str)(np vp:Pos):Bool:=(match Γ.sc.kind with | .function=>true | _=>false)&&qB Γ.sc x&&np.line==vp.line&&!(scope.names.any fun(n,k)=>n==x&&(k==.local||k==.cell))
def f9(x:Str)(np:Pos)(e:Expr):Option DS.DS:=(K3 Γ x).bind fun i=>match e with
 | .ListComp elt gs scope p=>(aH r Γ elt gs scope p).bind fun d=>cG (aJ Γ scope x np p) (some (if Γ.ow.contains i then yW i d else jk i (dL d)))
 | .SetComp elt gs scope p=>cG (aJ Γ scope x np p) ((Co r Γ elt gs scope p).map fun d=>jk i (dL d))
 | .DictComp kx vx gs scope p=>cG (X8 Γ.sc x) ((Cn r Γ kx vx gs scope p).map fun d=>jk i (dL d))
 | e=>cG (v5 e) (if Γ.ow.contains i then(cF r Γ e).map (yW i)else(cV r Γ dC e).map (jk i))
def Cs(t e:Expr):Option DS.DS:=match t with
 | .Name x np=>f9 r Γ x np e
 | .Attribute o f _=>(nm Γ o).bind fun i=>cG (v5 e&&Γ.fl.contains f) ((cV r Γ dC e).map fun d=>vO i Γ.C f d)
 | .Subscript o j p=>(nm Γ o).bind fun i=>cG (v5 e&&uP j) (if (uO Γ p).isSome then(cV r Γ dC j).bind fun dx=>(cV r Γ dC e).map fun d=>vZ i dx d
   else(cV r Γ dV j).bind fun dx=>(cV r Γ dC e).map fun d=>Ux i dx d)
 | .Tuple es n p=>cG (v5 e&&!UJ e) ((cV r Γ dC e).bind fun d=>(r.g Γ Γ.N.length (.Tuple es n p)).map fun g=>zy d g)
 | _=>none
def fb(f:Expr)(es:List Expr)(ks:List Keyword)(p:Pos):Option DS.DS:=match f,es,ks with
 | .Attribute o m ap,[e],[]=>(nm Γ o).bind fun i=>cG (m==("append" : Str)&&JG e&&ap.endLine==p.line) ((cV r Γ dC e).map fun d=>yi i d)
 | _,_,_=>none
def fc(e:Expr):Option DS.DS:=match e with
 | .Call f es ks p=>(match fb r Γ f es ks p with
  | some d=>some d
  | none=>(cV r Γ dV (.Call f es ks p)).map Uw)
 | e=>cG (v5 e) ((cV r Γ dV e).map Uw)
def cS(s:Stmt):Option DS.DS:=match s with
 | .Assign ts e _=>(match ts with
  | [t]=>Cs r Γ t e
  | _=>none)
 | .Expr e _=>fc r Γ e
 | .Return o _=>(match o with
  | none=>some (jh (dK .non))
  | some e=>(match nm Γ e with
   | some i=>if Γ.ow.contains i then some (VN i)else some (jh (dC i))
   | none=>if Γ.kF then(cF r Γ e).map Uy else(cV r Γ dC e).map jh))
 | .If c a b _=>(r.t Γ c).bind fun t=>(q Γ a).bind fun x=>(q Γ b).map fun y=>jg t x y
 | .While c b o _=>(match o with
  | []=>(r.t Γ c).bind fun t=>(q Γ b).map fun x=>uJ t x 20000
  | _::_=>none)
 | .For tg it b o _=>(match o with
  | []=>cG (VP it) ((cI r Γ tg it).bind fun di=>(r.g Γ Γ.N.length tg).bind fun g=>(q Γ b).map fun x=>jW di g x)
  | _::_=>none)
 | _=>none
def Wy(l:Nat):List (Nat×Nat)->DS.DS->DS.DS
 | [],d=>d
 | (m,i)::r,d=>if m=l then uI i (Wy l r d)else Wy l r d
noncomputable def FJ:Stmt->Bool
 | .Raise _ _ _=>true
 | _=>false
noncomputable def qD{α:Type}:List α->Option α
 | [x]=>some x
 | _=>none
def fe(i:Nat)(e:Expr):Option DS.DS:=match e with
 | .Call f es ks p=>(match f with
  | .Name g np=>(match Γ.gs.lookup g with
   | some (.fE _ _ kk F)=>cG (wD Γ g&&ks.isEmpty&&!es.isEmpty&&kk.length==es.length) ((cA r Γ (es.map fun _=>true) es).map fun l=>Gy i (Ww F l))
   | _=>none)
  | _=>none)
 | e=>cG (v5 e) ((cV r Γ dC e).map fun d=>jk i fun Z=>(d (frz Z)).bind JV)
def fg(e:Expr):Option DS.DS:=match e with
 | .Call f es ks p=>(match f with
  | .Attribute o m ap=>(match o with
   | .Subscript a j _=>(nm Γ a).bind fun i=>(qD es).bind fun x=>cG (m==("append" : Str)&&ks.isEmpty&&uP j&&JG x&&ap.endLine==p.line) ((cV r Γ dV j).bind fun dj=>(cV r Γ dC x).map fun de=>Gz i dj fun Z=>(de (frz Z)).bind JV)
   | o=>(nm Γ o).bind fun i=>(match es with
    | [k,x]=>cG (m==("insert" : Str)&&ks.isEmpty&&JG k&&JG x&&ap.endLine==p.line) ((cV r Γ dV k).bind fun dj=>(cF r Γ x).map fun de=>UE i dj de)
    | _=>none))
  | _=>none)
 | _=>none
def He(s:Stmt):Option DS.DS:=match s with
 | .If c a b _=>(r.t Γ c).bind fun t=>(q Γ a).bind fun x=>(q Γ b).map fun y=>jg (fun Z=>t (frz Z)) x y
 | .Assign ts e _=>(qD ts).bind fun t=>(match t with
  | .Name x _=>(K3 Γ x).bind fun i=>fe r Γ i e
  | .Tuple es n p=>cG (v5 e&&!UJ e) ((cV r Γ dC e).bind fun d=>(r.g Γ Γ.N.length (.Tuple es n p)).map fun g=>zy (fun Z=>(d (frz Z)).bind JV) g)
  | _=>none)
 | .Expr e _=>fg r Γ e
 | _=>none
def Ct(i:Nat)(g:Str)(es:List Expr)(ks:Bool):Option DS.DS:=match Γ.gs.lookup g with
 | some (.fL _ _ F)=>(match es with
  | [e0,e1,e2]=>(nm Γ e1).bind fun j=>cG (wD Γ g&&ks&&i==j&&JG e0&&JG e1&&JG e2) ((cV r Γ dC e0).bind fun a=>(cV r Γ dC e2).map fun b=>zX i F a b)
  | _=>none)
 | _=>none
def fh(a j e:Expr):Option DS.DS:=cG (v5 e&&uP j) (match a with
 | .Subscript a k _=>(nm Γ a).bind fun i=>cG (uP k) ((cV r Γ dV k).bind fun dj=>(cV r Γ dV j).bind fun dh=>(cV r Γ dC e).map fun d=>UG i dj dh fun Z=>(d (frz Z)).bind JV)
 | a=>(nm Γ a).bind fun i=>(cV r Γ dV j).bind fun dj=>(cF r Γ e).map fun d=>vR i dj fun Z=>(d (frz Z)).bind vQ)
def fj(o:Expr)(m:Str)(es:List Expr)(ok:Bool):Option DS.DS:=match o with
 | .Subscript a j _=>(match es with
  | [k,x]=>(nm Γ a).bind fun i=>cG (m==("insert" : Str)&&ok&&uP j&&JG k&&JG x) ((cV r Γ dV j).bind fun dj=>(cV r Γ dV k).bind fun dh=>(cV r Γ dC x).map fun de=>UF i dj dh de)
  | _=>none)
 | o=>(match es with
  | [k]=>(nm Γ o).bind fun i=>cG (m==("pop" : Str)&&ok&&JG k) ((cV r Γ dV k).map fun dj=>UH i dj)
  | _=>none)
def fk(s:Stmt):Option DS.DS:=match s with
 | .Assign ts e _=>(qD ts).bind fun t=>(match t with
  | .Name x _=>(K3 Γ x).bind fun i=>(match e with
   | .Call f es ks _=>(match f with
    | .Name g _=>Ct r Γ i g es ks.isEmpty
    | _=>none)
   | _=>none)
  | .Subscript a j _=>fh r Γ a j e
  | _=>none)
 | .Expr e _=>(match e with
  | .Call f es ks p=>(match f with
   | .Attribute o m ap=>fj r Γ o m es (ks.isEmpty&&ap.endLine==p.line)
   | _=>none)
  | _=>none)
 | _=>none
def cX(s:Stmt):Option DS.DS:=if (Γ.hs.lookup (wG s,0,11)).isSome then fk r Γ s else if (Γ.hs.lookup (wG s,0,10)).isSome then(cS r q Γ s).map fun d=>fun Z=>d (frz Z)else if (Γ.hs.lookup (wG s,0,9)).isSome then He r q Γ s else cS r q Γ s
def aK:List Stmt->Option DS.DS
 | []=>some ju
 | s::t=>if FJ s then some ZG else(cX r q Γ s).bind fun d=>(match t with
  | []=>some (Wy (wG s) Γ.sh d)
  | t=>(aK t).map fun d'=>Wy (wG s) Γ.sh (j4 d d'))
end
def Cu(r:Rc)(q:Gm->List Stmt->Option DS.DS)(Γ:Gm)(i:Nat):List Stmt->Option DS.DS
 | []=>none
 | s::t=>(match t with
  | []=>(match s with
   | .Return v _=>v.bind fun e=>(nm Γ e).bind fun j=>cG (i==j) (some ju)
   | _=>none)
  | t=>(cX r q Γ s).bind fun d=>(Cu r q Γ i t).map fun d'=>j4 d d')
def cQ(r:Rc):Nat->Gm->List Stmt->Option DS.DS
 | 0=>fun _ _=>none
 | n+1=>fun Γ=>aK r (cQ r n) Γ
section
variable (P:Program) (w:World) (K':Fr) (mg:Str->Option Value) (base:Heap) (C:Addr) (rm:Nat->Prop) (K:Fr) (x:Str)
def wH:GI->Prop
 | .con i=>∃t,mg x=some (.int i t)
 | .fE k ps ks F=>FnI P w K' mg base k x ps (kT K ks F)/\rm k
 | .fF k ps ks F=>FnI P w K' mg base k x ps (Qf K ks F)/\rm k
 | .mk k ps ks F G=>MkI P w K' mg base k C x ps (ae K C ks F)/\(∀p ds o,G ds=some o->F p ds=some o)/\rm (k+1)
 | .fL k ps F=>FnI P w K' mg base k x ps (Qt K F)/\rm k
 | .blt=>mg x=none
def Wz:GI->Prop
 | .fE k ps _ F=>MtI P w K' mg base k C x ps (kT K [false] F)/\rm k
 | .fF k ps _ F=>MtI P w K' mg base k C x ps (Qf K [false] F)/\rm k
 | _=>True
end
structure OkX (K:Fr) (Γ:Gm) (X:Cx):Prop where
 n:X.N=Γ.N
 sc:X.env.scope=Γ.sc
 nd:Γ.N.Nodup
 calm:X.calm=true
 k:X.K=K
 room:Room 0 X.A
 fn:Γ.fn=true->∀x,X.fn x=true
 gs:∀x g,Γ.gs.lookup x=some g->wH X.prog X.w X.K X.mg X.base Γ.C (fun k=>Room k X.A) K x g
 ms:∀x g,Γ.ms.lookup x=some g->Wz X.prog X.w X.K X.mg X.base Γ.C (fun k=>Room k X.A) K x g
 cl:Cls K Γ.C
 fl:∀f,Γ.fl.contains f=true->Yo K Γ.C f
def gg(X:Cx)(K:Fr)(e:Expr):Dn->Prop
 | .E d=>PE X e (tE K d)
 | .F d=>PE X e (tF K d)
structure RcOk (r:Rc):Prop where
 n:∀{K:Fr} {Γ:Gm} {X:Cx} {e:Expr} {d:Dn},OkX K Γ X->r.n Γ e=some d->gg X K e d
 t:∀{K:Fr} {Γ:Gm} {X:Cx} {e:Expr} {d:DT},OkX K Γ X->r.t Γ e=some d->PT X e (tT K d)
 g:∀{K:Fr} {Γ:Gm} {X:Cx} {k:Nat} {e:Expr} {d:DG},OkX K Γ X->r.g Γ k e=some d->PG X e (tG K k d)
def jf{c:Bool}{α:Type}{o:Option α}{y:α}(h:cG c o=some y):c=true/\o=some y:=by
 cases c with
 | true=>exact⟨rfl,h⟩
 | false=>cases h
def ja{α β:Type}{o:Option α}{f:α->β}{y:β}(h:o.map f=some y):∃x,o=some x/\f x=y:=by
 cases o with
 | none=>cases h
 | some x=>exact⟨x,rfl,vFa h⟩
def jd{a b:Bool}(h:(a&&b)=true):a=true/\b=true:=by simpa using h
def zL{a:Bool}(h:(!a)=true):a=false:=by simpa using h
set_option tactic.hygienic true in
theorem gH{x:Str}:∀{l:List Str} {i:Nat},ka x l=some i->l[i]?=some x
 | [],_,h=>by cases h
 | y::r,i,h=>by
  unfold ka at h;split at h
  ·cases h;rename_i e;rw[e];rfl
  ·obtain⟨j,h1,h2⟩:=ja h;rw[<-h2];simpa using gH h1
section
variable {r:Rc} {Γ:Gm} {X:Cx} {K:Fr} {x y:Str} {i:Nat} {e a b c tg:Expr} {es:List Expr} {pos:Pos} {d:DE}
def Cv{sc:Scope}(h:qA sc x=true):qQ sc x:=by
 unfold qA at h;split at h <;> first | cases h | skip
 ·exact .inl (by assumption)
 ·exact .inr (.inl (by assumption))
 ·exact .inr (.inr (by assumption))
def Qx{sc:Scope}(h:wC sc x=true):UV sc x:=by
 unfold wC at h;split at h <;> first | cases h | skip
 ·exact .inl (by assumption)
 ·exact .inr (by assumption)
def Qy{sc:Scope}(h:qB sc x=true):sc.names.lookup x=some .local:=by
 unfold qB at h;split at h
 ·assumption
 ·cases h
def GC(h:OkX K Γ X)(g:wD Γ x=true):Gl X x/\(x==("__debug__" : Str))=false:=by
 obtain⟨g1,g2⟩:=jd g;refine⟨?_,zL g2⟩;show X.env.scope.names.lookup x=_;rw[h.sc];split at g1
 ·assumption
 ·cases g1
def Qz(h:OkX K Γ X)(g:Cd Γ x=true):Gl X x/\X.mg x=none:=by
 obtain⟨g1,g2⟩:=jd g;refine⟨(GC h g1).1,?_⟩;split at g2
 ·exact h.gs x _ (by assumption)
 ·cases g2
set_option tactic.hygienic true in
theorem X9(e:slot Γ x=some i):ka x Γ.N=some i/\qA Γ.sc x=true/\(x==("__debug__" : Str))=false/\(x==("__classdict__" : Str))=false:=by
 obtain⟨j,e1,e2⟩:=j3 e;split at e2
 ·cases e2;rename_i hh;obtain⟨h1,h2⟩:=jd hh;obtain⟨h2,h3⟩:=jd h2;exact⟨e1,h1,zL h2,zL h3⟩
 ·cases e2
def Jw(h:OkX K Γ X)(e:slot Γ x=some i):PE X (.Name x pos) (yx i):=by
 obtain⟨h1,h2,h3,h4⟩:=X9 e;exact pv i (by rw[h.n];exact gH h1) (by rw[h.sc];exact Cv h2) h3 h4
def JH(h:nm Γ e=some i):∃x pos,e=.Name x pos/\slot Γ x=some i:=by
 unfold nm at h;split at h
 ·exact⟨_,_,rfl,h⟩
 ·cases h
set_option tactic.hygienic true in
theorem uS(h:OkX K Γ X)(e:K3 Γ x=some i):X.N.Nodup/\X.N[i]?=some x/\UV X.env.scope x/\(X.fn x=true \/ X.env.scope.names.lookup x=some .local):=by
 obtain⟨j,e1,e2⟩:=j3 e;split at e2
 ·cases e2;rename_i hh;obtain⟨h1,h2⟩:=jd hh;refine⟨by rw[h.n];exact h.nd,by rw[h.n];exact gH e1,by rw[h.sc];exact Qx h1,?_⟩;rw[Bool.or_eq_true]at h2;rcases h2 with h2 | h2
  ·exact .inl (h.fn h2 x)
  ·exact .inr (by rw[h.sc];exact Qy h2)
 ·cases e2
def jm{env:Env}(h:JG e=true):starEach (e::es) env=(false,eval e env)::starEach es env:=by
 cases e <;> first | rfl | cases h
theorem zC{env:Env}:∀{es:List Expr},(∀e∈es,JG e=true)->(backTo pos (starEach es env)).any (·.1)=false
 | [],_=>rfl
 | e::es,h=>by
  rw[jm (h e List.mem_cons_self)];show(false||(backTo pos (starEach es env)).any (·.1))=false;rw[zC fun x hx=>h x (List.mem_cons_of_mem _ hx)];rfl
def Uq{env:Env}{f:Str}(h:wE e=true):attributeBase e f env (eval e env)=eval e env:=by
 cases e <;> first | rfl | cases h
def YN(h:uP b=true):GU b:=by
 cases b <;> first | (intro _ _;rfl) | cases h
def Vr{env:Env}{e:Expr}(h:VP e=true):∀x,foldedSetIterable e env x=pure x:=by
 cases e <;> first | (intro _;rfl) | cases h
def YO{env:Env}{t:Option Expr}{l:Nat}(h:v5 e=true):swapsWith e t l env=pure false:=by
 cases e <;> first | rfl | cases h
def wI{f:Nat->DE}(h:cV r Γ f e=some d):(∃i,nm Γ e=some i/\d=f i) \/∃n,r.n Γ e=some n/\d=n.e:=by
 unfold cV at h;split at h
 ·exact .inl ⟨_,by assumption,(vFa h).symm⟩
 ·obtain⟨n,h1,h2⟩:=ja h;exact .inr ⟨n,h1,h2.symm⟩
def Xa{n:Dn}(h:gg X K e n):PE X e (tE K n.e):=by
 cases n with
 | E d=>exact h
 | F d=>exact BA h
variable (R:RcOk r) (h:OkX K Γ X)
include R h
theorem Jp(q:cV r Γ dC e=some d):PE X e (tE K d):=by
 rcases wI q with⟨i,q1,rfl⟩ | ⟨n,q1,rfl⟩
 ·obtain⟨x,p,rfl,q2⟩:=JH q1;exact XV i (Jw h q2)
 ·exact Xa (R.n h q1)
theorem jx(q:cV r Γ dV e=some d):PE X e (tR K d):=by
 rcases wI q with⟨i,q1,rfl⟩ | ⟨n,q1,rfl⟩
 ·obtain⟨x,p,rfl,q2⟩:=JH q1;exact DF i (Jw h q2)
 ·exact F2 (Xa (R.n h q1))
theorem GD(q:cV r Γ dP e=some d):PE X e (tP K d):=by
 rcases wI q with⟨i,q1,rfl⟩ | ⟨n,q1,rfl⟩
 ·obtain⟨x,p,rfl,q2⟩:=JH q1;exact eP i (Jw h q2)
 ·exact Fs (Xa (R.n h q1))
set_option tactic.hygienic true in
theorem vS:∀{ks:List Bool} {es:List Expr} {l:DA},cA r Γ ks es=some l->PA X es (zp K l)/\l.map (·.1)=ks/\(∀e∈es,JG e=true)/\l.length=es.length
 | [],[],l,q=>by cases q;exact⟨eF,rfl,(fun _ h=>by cases h),rfl⟩
 | k::ks,e::es,l,q=>by
  unfold cA at q;split at q
  ·rename_i hs;obtain⟨d,q1,q⟩:=j3 q;obtain⟨l',q2,q⟩:=j3 q;cases q;obtain⟨a1,a2,a3,a4⟩:=vS q2;refine⟨?_,by simp[a2],fun z hz=>?_,by simp[a4]⟩
   ·cases k with
    | true=>exact Fm (Jp R h q1) a1 (jm hs)
    | false=>exact Fo (jx R h q1) a1 (jm hs)
   ·rcases uTa hz with rfl | hz
    ·exact hs
    ·exact a3 z hz
  ·cases q
 | [],_::_,_,q=>by cases q
 | _::_,[],_,q=>by cases q
omit R in
theorem Cw{op:Operator}{f:D->D->Option D}(q:Cb op=some f):∃t,J0 X (binaryOp op) t/\Ju K t f:=by
 have:=h.k;subst this;cases op <;> cases q
 ·exact⟨_,AL,DY⟩
 ·exact⟨_,B7,DM⟩
 ·exact⟨_,AJ,ci⟩
 ·exact⟨_,B9,DP⟩
 ·exact⟨_,Ba,DR⟩
 ·exact⟨_,Ab,DQ⟩
omit R in
theorem zY{op:CmpOp}{f:D->D->Option D}(q:VO op=some f):∃t,J0 X (compareOp op) t/\Ju K t f:=by
 have:=h.k;subst this;cases op <;> cases q
 ·exact⟨_,cq h.room,Fx⟩
 ·exact⟨_,cr h.room,Fy⟩
 ·exact⟨_,Ds,Fa⟩
 ·exact⟨_,Dt,Fb⟩
 ·exact⟨_,Du,Fc⟩
 ·exact⟨_,Dv,Fd⟩
 ·exact⟨_,Bc,DU⟩
 ·exact⟨_,Ad,BG⟩
omit R in
theorem QA{p:Pos}{op:CmpOp}{f:D->D->Option D}(q:aG Γ p op=some f):∃t,J0 X (compareOp op) t/\Ju K t f:=by
 unfold aG at q;split at q
 ·have:=h.k;subst this;cases op <;> cases q
  ·exact⟨_,C3,Ed⟩
  ·exact⟨_,AY,C4⟩
  ·exact⟨_,Qk h.room,au⟩
  ·exact⟨_,wg h.room,au⟩
 ·exact zY h q
theorem QB:∀{vs:List Expr} {d:DE},cB r Γ JB vs=some d->PE X (.BoolOp .And vs pos) (tE K d)
 | [],_,q=>by cases q
 | [a],_,q=>X_ (Jp R h q)
 | a::b::c,d,q=>by
  unfold cB at q;obtain⟨d1,q1,q⟩:=j3 q;obtain⟨d2,q2,q⟩:=j3 q;cases q;exact eA (jx R h q1) (QB q2)
theorem aL:∀{vs:List Expr} {d:DE},cB r Γ uC vs=some d->PE X (.BoolOp .Or vs pos) (tE K d)
 | [],_,q=>by cases q
 | [a],_,q=>X_ (Jp R h q)
 | a::b::c,d,q=>by
  unfold cB at q;obtain⟨d1,q1,q⟩:=j3 q;obtain⟨d2,q2,q⟩:=j3 q;cases q;exact Fl (jx R h q1) (aL q2)
theorem QC:∀{vs:List Expr} {d:DT},cW r Γ Jb vs=some d->PW X (.BoolOp .And vs pos) (tT K d)
 | [],_,q=>by cases q
 | [a],_,q=>BJ (R.t h q)
 | a::b::c,d,q=>by
  unfold cW at q;obtain⟨d1,q1,q⟩:=j3 q;obtain⟨d2,q2,q⟩:=j3 q;cases q;exact et (R.t h q1) (QC q2)
theorem aM:∀{vs:List Expr} {d:DT},cW r Γ Y8 vs=some d->PW X (.BoolOp .Or vs pos) (tT K d)
 | [],_,q=>by cases q
 | [a],_,q=>eo (R.t h q)
 | a::b::c,d,q=>by
  unfold cW at q;obtain⟨d1,q1,q⟩:=j3 q;obtain⟨d2,q2,q⟩:=j3 q;cases q;exact Fk (R.t h q1) (aM q2)
theorem UK{o:Option Expr}{p:KT}(q:X4 r Γ o=some p):PO X o (KU K p):=by
 cases o with
 | none=>cases q;exact Fp
 | some e=>
  obtain⟨d,q1,rfl⟩:=ja q;exact Fq (jx R h q1)
theorem QD{di:DI}(q:Ce r Γ e=some di):PI X tg e (zq K di):=by
 obtain⟨d,q1,rfl⟩:=ja q;exact eQ (GD R h q1) h.k
omit R h in
theorem wJ(t:UJ e=true):∃es n p,e=.Tuple es n p:=by
 cases e <;> first | exact⟨_,_,_,rfl⟩ | cases t
set_option tactic.hygienic true in
theorem Cy{di:DI}{es:List Expr}{np:Pos}(q:Cf r Γ (UJ tg) x es=some di):PI X tg (.Call (.Name x np) es [] pos) (zq K di):=by
 unfold Cf at q;split at q
 ·rename_i hb;obtain⟨g1,g2⟩:=Qz h hb;split at q
  ·split at q
   ·rename_i ex;subst ex;obtain⟨s1,q⟩:=jf q;obtain⟨d,q1,rfl⟩:=ja q;exact BQ g1 g2 (jx R h q1) (jm s1)
   ·split at q
    ·rename_i ex;subst ex;obtain⟨s1,q⟩:=jf q;obtain⟨u1,u2⟩:=jd s1;obtain⟨d,q1,rfl⟩:=ja q;obtain⟨_,_,_,rfl⟩:=wJ u2;exact BS g1 g2 (GD R h q1) (jm u1) h.k
    ·split at q
     ·rename_i ex;subst ex;obtain⟨s1,q⟩:=jf q;obtain⟨d,q1,rfl⟩:=ja q;exact E5 g1 g2 (GD R h q1) (jm s1) h.k
     ·cases q
  ·split at q
   ·rename_i ex;subst ex;obtain⟨s1,q⟩:=jf q;obtain⟨u1,u3⟩:=jd s1;obtain⟨u1,u2⟩:=jd u1;obtain⟨d,q1,q⟩:=j3 q;obtain⟨d',q2,rfl⟩:=ja q;obtain⟨_,_,_,rfl⟩:=wJ u3;exact eU g1 g2 (GD R h q1) (GD R h q2) (by rw[jm u1,jm u2];rfl) (jm u2) h.k
   ·cases q
  ·cases q
 ·cases q
theorem Cz{di:DI}{f:Expr}{as:List Expr}{ks:List Keyword}{p:Pos}(q:Cg r Γ tg (.Call f as ks p) f as ks p=some di):PI X tg (.Call f as ks p) (zq K di):=by
 unfold Cg at q;split at q
 ·split at q
  ·split at q
   ·cases q;exact Cy R h (by assumption)
   ·exact QD R h q
  ·cases q
 ·cases q
theorem GE{di:DI}(q:cI r Γ tg e=some di):PI X tg e (zq K di):=by
 unfold cI at q;split at q
 ·exact Cz R h q
 ·exact QD R h (jf q).2
end
theorem UL:∀{l:List Str},uR l=true->l.Nodup
 | [],_=>List.nodup_nil
 | x::r,h=>by
  obtain⟨h1,h2⟩:=jd h;refine List.nodup_cons.mpr ⟨fun z=>?_,UL h2⟩;rw[List.contains_iff_mem.mpr z]at h1;cases h1
theorem UM:∀{l:List Nat},wF l=true->l.Nodup
 | [],_=>List.nodup_nil
 | x::r,h=>by
  obtain⟨h1,h2⟩:=jd h;refine List.nodup_cons.mpr ⟨fun z=>?_,UM h2⟩;rw[List.contains_iff_mem.mpr z]at h1;cases h1
structure LcP (X:Cx) (K:Fr) (elt tg iter:Expr) (ifs:List Expr) (scope:Scope) (own:List Str) (caps:List (Str×Nat)) (di:DI) (g:DG) (dc:DT) (de:DE):Prop where
 S:CScope X scope
 cp:Caps X scope caps
 i:PI X tg iter (zq K di)
 g:∀s3 H3 ex',PG (X.comp (L2.cN own caps) scope s3 H3 ex') tg (tG K own.length g)
 t:∀s3 H3 ex',Zf (X.comp (L2.cN own caps) scope s3 H3 ex') ifs (tT K dc)
 e:∀s3 H3 ex',PE (X.comp (L2.cN own caps) scope s3 H3 ex') elt (tE K de)
 nd:(caps.map (·.2)).Nodup
 fs:∀x,foldedSetIterable iter X.env x=pure x
section
variable {r:Rc} {Γ:Gm} {X:Cx} {K:Fr} {x y:Str} {i:Nat} {e a b c tg:Expr} {es:List Expr} {pos:Pos} {d:DE}
def yn{own:List Str}{caps:List (Str×Nat)}{scope:Scope}(h:OkX K Γ X)(hn:uR (inner Γ own caps scope).N=true){s3:Shared}{H3:Hp}{ex':List Addr}:OkX K (inner Γ own caps scope) (X.comp (L2.cN own caps) scope s3 H3 ex') where
 n:=rfl
 sc:=by
  show relabel scope X.env=Ch scope Γ.sc;rw[<-h.sc];rfl
 nd:=UL hn
 calm:=h.calm
 k:=h.k
 room:=h.room
 fn:=fun z=>by cases z
 gs:=h.gs
 ms:=h.ms
 cl:=h.cl
 fl:=h.fl
def qE{scope:Scope}(h:OkX K Γ X)(q:aE Γ scope=true):CScope X scope:=by
 obtain⟨q,q4⟩:=jd q;obtain⟨q,q3⟩:=jd q;obtain⟨q1,q2⟩:=jd q;refine⟨?_,q2,q3,by rw[h.sc];exact q4⟩;split at q1
 ·assumption
 ·cases q1
set_option tactic.hygienic true in
theorem UN{scope:Scope}(h:OkX K Γ X):∀{caps:List (Str×Nat)},caps.all (qC Γ scope)=true->Caps X scope caps
 | [],_=>.nil
 | (y,j)::r,q=>by
  rw[List.all_cons]at q;obtain⟨q1,q2⟩:=jd q;obtain⟨q1,q5⟩:=jd q1;obtain⟨q3,q4⟩:=jd q1;refine .cons ?_ ?_ ?_ (UN h q2)
  ·rw[h.n];dsimp only at q3;split at q3
   ·rename_i z hz;rw[hz,eq_of_beq q3]
   ·cases q3
  ·show X.env.scope.names.lookup y=_ \/ X.env.scope.names.lookup y=_;rw[h.sc];split at q4
   ·exact .inl (by assumption)
   ·exact .inr (by assumption)
   ·cases q4
  ·split at q5
   ·assumption
   ·cases q5
variable (R:RcOk r) (h:OkX K Γ X)
include R h
theorem CA{elt iter:Expr}{ifs:List Expr}{scope:Scope}{p:Pos}{d:DO}(q:Ci r Γ elt tg iter ifs scope p=some d):
  ∃own caps di g dc de,d=JU own.length (caps.map (·.2)) di g dc de/\LcP X K elt tg iter ifs scope own caps di g dc de:=by
 unfold Ci at q;dsimp only at q;obtain⟨z,q⟩:=jf q;obtain⟨z,z5⟩:=jd z;obtain⟨z,z4⟩:=jd z;obtain⟨z,z3⟩:=jd z;obtain⟨z1,z2⟩:=jd z;obtain⟨di,q1,q⟩:=j3 q;obtain⟨g,q2,q⟩:=j3 q;obtain⟨dc,q3,q⟩:=j3 q;obtain⟨de,q4,q⟩:=j3 q;refine⟨_,_,di,g,dc,de,(vFa q).symm,qE h z1,UN h z2,GE R h q1,fun _ _ _=>R.g (yn h z3) q2,fun _ _ _=>?_,fun _ _ _=>Jp R (yn h z3) q4,UM z4,Vr z5⟩;split at q3
 ·cases q3;exact Fu
 ·exact Fv (R.t (yn h z3) q3)
 ·cases q3
set_option tactic.hygienic true in
omit R in
theorem bc{n:Option (List Nat)}{l:DA}{f:List D->Option D}{np:Pos}(q:X5 x n=some f)(g1:Gl X x)(g2:X.mg x=none)(ha:PA X (e::es) (zp K l))(he:starEach (e::es) X.env=(false,eval e X.env)::starEach es X.env)(hpl:(backTo pos (starEach es X.env)).any (·.1)=false):
  PE X (.Call (.Name x np) (e::es) [] pos) (tE K (jb f l)):=by
 have:=h.k;subst this;unfold X5 at q;split at q
 ·rename_i ex;subst ex;cases q;rcases n with _ | ⟨_ | _⟩
  ·exact jz (Y6 KH g1 g2 PySem.boot_len ha (by decide) (by decide) he hpl) (zT eK)
  ·exact jz (Y6 Ql g1 g2 PySem.boot_len ha (by decide) (by decide) he hpl) (zT C7)
  ·exact jz (Y6 Qu g1 g2 PySem.boot_len ha (by decide) (by decide) he hpl) (zT C8)
 split at q
 ·rename_i ex;subst ex;cases q;exact jz (vH Ka g1 g2 PyProof.Rows.boot_tuple ha (by decide) (by decide) he hpl) (zT AA)
 split at q
 ·rename_i ex;subst ex;cases q;exact jz (Y6 (xK h.calm) g1 g2 PyProof.Rows.boot_all ha (by decide) (by decide) he hpl) (zT eN)
 split at q
 ·rename_i ex;subst ex;cases q;exact jz (Y6 (qV h.calm) g1 g2 PyProof.Rows.boot_max ha (by decide) (by decide) he hpl) (zT eL)
 split at q
 ·rename_i ex;subst ex;cases q;exact jz (Y6 (qW h.calm) g1 g2 PyProof.Rows.boot_min ha (by decide) (by decide) he hpl) (zT eM)
 split at q
 ·rename_i ex;subst ex;cases q;exact jz (Y6 (X1 h.calm) g1 g2 PyProof.Rows.boot_any ha (by decide) (by decide) he hpl) (zT Ec)
 ·cases q
set_option tactic.hygienic true in
omit R in
theorem be{l:DA}{b:Bool}{f:List D->Option OD}{np:Pos}(q:X6 x b=some f)(g1:Gl X x)(g2:X.mg x=none)(ha:PA X (e::es) (zp K l))(he:starEach (e::es) X.env=(false,eval e X.env)::starEach es X.env)(hpl:(backTo pos (starEach es X.env)).any (·.1)=false):
  PE X (.Call (.Name x np) (e::es) [] pos) (tF K (Jr f l)):=by
 have:=h.k;subst this;unfold X6 at q;split at q
 ·rename_i ex;subst ex;cases q;cases b
  ·exact jz (vH KI g1 g2 PyProof.Rows.boot_list ha (by decide) (by decide) he hpl) (GY BM)
  ·exact jz (vH (qt h.calm) g1 g2 PyProof.Rows.boot_list ha (by decide) (by decide) he hpl) (GY AS)
 split at q
 ·rename_i ex;subst ex;cases q;exact jz (vH (qv h.calm h.room) g1 g2 PyProof.Rows.boot_dict ha (by decide) (by decide) he hpl) (GY b8)
 ·cases q
theorem bf{n:Dn}{np:Pos}(g1:Gl X "isinstance")(g2:X.mg "isinstance" = none)(q:X7 r Γ es=some n):gg X K (.Call (.Name "isinstance" np) es [] pos) n:=by
 unfold X7 at q;split at q
 ·split at q
  ·obtain⟨z,q⟩:=jf q;obtain⟨z,z5⟩:=jd z;obtain⟨z3,z4⟩:=jd z;obtain⟨d,q2,rfl⟩:=ja q;have e1:=vLa z5;subst e1;obtain⟨k1,k2⟩:=Qz h z4;exact eY (Y6 xL g1 g2 PyProof.Rows.boot_isinstance (Jc (jx R h q2) (Jc (A4 (v:=.ty "bool") k1 k2 PyProof.Rows.boot_bool rfl (by decide) (by decide)) yz) (jm z3)) (by decide) (by decide) (jm z3))
  ·cases q
 ·cases q
set_option tactic.hygienic true in
theorem Xb{n:Dn}{np:Pos}(q0:aF r Γ x es pos=some n):gg X K (.Call (.Name x np) es [] pos) n:=by
 obtain⟨z,q⟩:=jf q0;clear q0;obtain⟨z1,z2⟩:=jd z;obtain⟨g1,g3⟩:=GC h z1;cases es with
 | nil=>cases z2
 | cons e es=>
 split at q
 ·rename_i hl;obtain⟨l,q1,rfl⟩:=ja q;obtain⟨a1,a2,a3,_⟩:=vS R h q1;obtain⟨G,hr⟩:=h.gs _ _ hl;exact BW G hr a1 a2 g1 g3 (jm (a3 _ wNa)) (zC fun z hz=>a3 z (wMa _ hz))
 ·rename_i hl;obtain⟨l,q1,rfl⟩:=ja q;obtain⟨a1,a2,a3,_⟩:=vS R h q1;obtain⟨G,hr⟩:=h.gs _ _ hl;exact BX G hr a1 a2 g1 g3 (jm (a3 _ wNa)) (zC fun z hz=>a3 z (wMa _ hz))
 ·rename_i hl;obtain⟨l,q1,rfl⟩:=ja q;obtain⟨a1,a2,a3,_⟩:=vS R h q1;obtain⟨G,hF,hr⟩:=h.gs _ _ hl;exact BZ G hF hr a1 a2 g1 g3 (jm (a3 _ wNa)) (zC fun z hz=>a3 z (wMa _ hz))
 ·rename_i hl;have g2:X.mg x=none:=h.gs _ _ hl;split at q
  ·rename_i ex;subst ex;exact bf R h g1 g2 q
  ·obtain⟨l,q1,q⟩:=j3 q;obtain⟨a1,a2,a3,_⟩:=vS R h q1;have s1:=jm (es:=es) (env:=X.env) (a3 _ wNa);have s2:=zC (pos:=pos) (env:=X.env) fun z hz=>a3 z (wMa _ hz);split at q
   ·rename_i hb;cases q;exact bc h hb g1 g2 a1 s1 s2
   ·obtain⟨f,q2,rfl⟩:=ja q;exact be h q2 g1 g2 a1 s1 s2
 ·cases q
omit R h in
theorem v6:∀{l:DA} {es:List Expr},l.map (·.1)=(es.map fun _=>true)->(l.map (·.1)).all id=true:=fun {l es} q=>by
 rw[q];simp
omit R h in
theorem bg{env:Env}{m:Str}{ap p cp:Pos}(hl:(ap.endLine==cp.line)=true):eval (.Call (.Attribute (.Name x p) m ap) [] [] cp) env=(do
   let ov<-eval (.Name x p) env
   standAt ap.atName
   let (f,first)<-holding [ov] (getMethod ov m (do return (<-importBound (.Name x p) env).getD true))
   callWith cp f first (backTo cp (starEach [] env)) (backToKw cp (keywordEach [] env))):=by
 have e:methodCallPos true (.Name x p) env ap cp=pure cp:=by unfold methodCallPos;rw[hl];rfl
 have f:methodCallForm 0 (backTo cp (starEach [] env)) (backToKw cp (keywordEach [] env))=true:=rfl;show(do
  let ov<-eval (.Name x p) env
  standAt ap.atName
  methodCall (.Name x p) m ap cp env ov 0 (backTo cp (starEach [] env)) (backToKw cp (keywordEach [] env)))=_
 unfold methodCall;rw[f,e];rfl
omit R h in
theorem CB{c:Const}{k:Nat}{n:Dn}(q:Cj c=some n):gg X K (.Constant c k pos) n:=by
 unfold Cj at q;split at q <;> cases q
 ·exact DH
 ·exact F5
 ·exact DJ
 ·exact DK
theorem CD{op:UnaryOp}{n:Dn}(q:Cl r Γ op a=some n):gg X K (.UnaryOp op a pos) n:=by
 unfold Cl at q;split at q
 ·obtain⟨d,q1,rfl⟩:=ja q;exact eD (jx R h q1)
 ·obtain⟨d,q1,rfl⟩:=ja q;exact eB (jx R h q1)
 ·cases q
theorem CF{op:Operator}{n:Dn}(q:EX r Γ a op b pos=some n):gg X K (.BinOp a op b pos) n:=by
 obtain⟨d,q1,q⟩:=j3 q;obtain⟨d',q2,q⟩:=j3 q;split at q
 ·split at q
  ·cases q;exact F8 Bv DX (jx R h q1) (jx R h q2)
  ·cases q
 ·obtain⟨f,q3,rfl⟩:=ja q;obtain⟨t,o1,o2⟩:=Cw h q3;exact F7 o1 o2 (jx R h q1) (jx R h q2)
theorem CG{os:List CmpOp}{bs:List Expr}{d:DE}(q:EY r Γ a os bs pos=some d):PE X (.Compare a os bs pos) (tE K d):=by
 rcases os with _ | ⟨o,_ | ⟨o',_ | ⟨o'',_ | ⟨_,_⟩⟩⟩⟩ <;> rcases bs with _ | ⟨b,_ | ⟨c,_ | ⟨e,_ | ⟨_,_⟩⟩⟩⟩ <;> try (cases q;done)
 ·obtain⟨z,q⟩:=jf q;obtain⟨d,q1,q⟩:=j3 q;obtain⟨d',q2,q⟩:=j3 q;obtain⟨f,q3,rfl⟩:=ja q;obtain⟨t,o1,o2⟩:=QA h q3;exact DL o1 o2 (jx R h q1) (jx R h q2) (zL z)
 ·obtain⟨z,q⟩:=jf q;obtain⟨d,q1,q⟩:=j3 q;obtain⟨d',q2,q⟩:=j3 q;obtain⟨d'',q3,q⟩:=j3 q;obtain⟨f,p1,q⟩:=j3 q;obtain⟨f',p2,rfl⟩:=ja q;obtain⟨t,o1,o2⟩:=zY h p1;obtain⟨t',o1',o2'⟩:=zY h p2;exact Ay o1 o1' o2 o2' (jx R h q1) (jx R h q2) (jx R h q3) (zL z)
 ·obtain⟨z,q⟩:=jf q;obtain⟨d,q1,q⟩:=j3 q;obtain⟨d',q2,q⟩:=j3 q;obtain⟨d'',q3,q⟩:=j3 q;obtain⟨d3,q4,q⟩:=j3 q;obtain⟨f,p1,q⟩:=j3 q;obtain⟨f',p2,q⟩:=j3 q;obtain⟨f'',p3,rfl⟩:=ja q;obtain⟨t,o1,o2⟩:=zY h p1;obtain⟨t',o1',o2'⟩:=zY h p2;obtain⟨t'',o1'',o2''⟩:=zY h p3;exact xN o1 o1' o1'' o2 o2' o2'' (jx R h q1) (jx R h q2) (jx R h q3) (jx R h q4) (zL z)
set_option tactic.hygienic true in
theorem CH{n:Dn}(q:Cm r Γ a b pos=some n):gg X K (.Subscript a b pos) n:=by
 have hK:=h.k;unfold Cm at q;split at q
 ·split at q
  ·obtain⟨d,q1,q⟩:=j3 q;obtain⟨u,q2,q⟩:=j3 q;obtain⟨v,q3,rfl⟩:=ja q;split
   ·exact eJ (jx R h q1) (UK R h q2) (UK R h q3) hK
   ·exact eI (jx R h q1) (UK R h q2) (UK R h q3) hK
  ·rename_i lo hi _ _ st;obtain⟨z,q⟩:=jf q;obtain⟨z1,z2⟩:=jd z;obtain⟨d,q1,q⟩:=j3 q;obtain⟨n,q2,rfl⟩:=ja q;cases lo <;> cases z1;cases hi <;> cases z2;exact Ca (jx R h q1) (jx R h q2) hK
 ·obtain⟨z,q⟩:=jf q;obtain⟨d,q1,q⟩:=j3 q;obtain⟨d',q2,rfl⟩:=ja q;subst hK;split
  ·exact BC (cv h.room) E3 (jx R h q1) (jx R h q2) (YN z)
  ·exact BC Br Ff (jx R h q1) (jx R h q2) (YN z)
theorem QE{elt:Expr}{gs:List Comprehension}{scope:Scope}{d:DO}(q:aH r Γ elt gs scope pos=some d):
  ∃tg iter ifs own caps di g dc de,gs=[⟨tg,iter,ifs,0⟩]/\d=JU own.length (caps.map (·.2)) di g dc de/\LcP X K elt tg iter ifs scope own caps di g dc de:=by
 unfold aH at q;split at q
 ·obtain⟨z,q⟩:=jf q;have z0:=vLa z;subst z0;obtain⟨own,caps,di,g,dc,de,rfl,L⟩:=CA R h q;exact⟨_,_,_,own,caps,di,g,dc,de,rfl,rfl,L⟩
 ·cases q
theorem CI{kx vx:Expr}{gs:List Comprehension}{scope:Scope}{d:DO}(q:Cn r Γ kx vx gs scope pos=some d):PE X (.DictComp kx vx gs scope pos) (tF K d):=by
 have hK:=h.k;subst hK;rcases gs with _ | ⟨⟨t1,i1,f1,a1⟩,_ | ⟨⟨t2,i2,f2,a2⟩,_ | ⟨_,_⟩⟩⟩ <;> try (cases q;done)
 unfold Cn at q;dsimp only at q;obtain⟨z,q⟩:=jf q;obtain⟨z,y4⟩:=jd z;obtain⟨z,y3⟩:=jd z;obtain⟨z,y2⟩:=jd z;obtain⟨z,y1⟩:=jd z;obtain⟨z,z6⟩:=jd z;obtain⟨z,z5⟩:=jd z;obtain⟨z,z4⟩:=jd z;obtain⟨z,z3⟩:=jd z;obtain⟨z1,z2⟩:=jd z;obtain⟨di,q1,q⟩:=j3 q;obtain⟨g1,q2,q⟩:=j3 q;obtain⟨di2,q3,q⟩:=j3 q;obtain⟨g2,q4,q⟩:=j3 q;obtain⟨dk,q5,q⟩:=j3 q;obtain⟨dv,q6,rfl⟩:=ja q;have e1:=List.isEmpty_iff.mp y1;have e2:=List.isEmpty_iff.mp y2;have e3:=vLa y3;have e4:=vLa y4;subst e1 e2 e3 e4;exact jz (E8 (uQ 5 t1++uQ 5 t2) (v4 Γ pos) (qE h z1) (UN h z2) h.calm (GE R h q1) (fun _ _ _=>R.g (yn h z3) q2) (fun s3 H3 x' A=>E7 h.calm rfl (GE R (yn h z3) q3) (R.g (yn h z3) q4) (Vr z6) (E6 (Y:=X.comp (L2.cN (uQ 5 t1++uQ 5 t2) (v4 Γ pos)) scope s3 H3 x') rfl h.room (Jp R (yn h z3) q5) (Jp R (yn h z3) q6))) (Vr z5)) (cH (UM z4))
set_option tactic.hygienic true in
theorem CJ{m:Str}{ap:Pos}{n:Dn}(q:Cp r Γ a m ap es pos=some n):gg X K (.Call (.Attribute a m ap) es [] pos) n:=by
 unfold Cp at q;split at q
 ·obtain⟨z,q⟩:=jf q;obtain⟨d,q1,q⟩:=j3 q;split at q
  ·rename_i hl;cases q;obtain⟨M,hr⟩:=h.ms _ _ hl;exact AD (jx R h q1) h.cl M hr (bg z) h.k
  ·cases q
 ·obtain⟨z,q⟩:=jf q;obtain⟨z,z5⟩:=jd z;obtain⟨z,z4⟩:=jd z;obtain⟨z,z3⟩:=jd z;obtain⟨z1,z2⟩:=jd z;obtain⟨da,q1,q⟩:=j3 q;obtain⟨db,q2,q⟩:=j3 q;obtain⟨dc,q3,rfl⟩:=ja q;have em:=vLa z1;have hK:=h.k;subst em hK;exact C9 (Kj PySem.F.plainAttrs_dict PySem.F.slot_dict_get PySem.F.type_dict_get (b9 h.room) (jx R h q1) (Jc (Jp R h q2) (Jc (Jp R h q3) yz (jm z4)) (jm z3)) (Uq z2) (by rw[jm z3,jm z4];rfl) z5 (jm z3) (by rw[jm z4];rfl))
 ·cases q
set_option tactic.hygienic true in
theorem Eg{n:Dn}(q:cN r Γ e=some n):gg X K e n:=by
 have hK:=h.k;unfold cN at q;cases e with
 | Name x p=>
  obtain⟨z,q⟩:=jf q;obtain⟨g1,g2⟩:=GC h z;split at q
  ·rename_i hl;cases q;exact BB (h_ (h.gs _ _ hl) g1 g2)
  ·cases q
 | Constant c k p=>
  exact CB q
 | UnaryOp op a p=>
  exact CD R h q
 | BinOp a op b p=>
  exact CF R h q
 | Compare a os bs p=>
  obtain⟨d,q1,rfl⟩:=ja q;exact CG R h q1
 | BoolOp op vs p=>
  dsimp only at q;cases op
  ·obtain⟨d,q1,rfl⟩:=ja q;exact QB R h q1
  ·obtain⟨d,q1,rfl⟩:=ja q;exact aL R h q1
 | IfExp c a b p=>
  obtain⟨t,q1,q⟩:=j3 q;obtain⟨d,q2,q⟩:=j3 q;obtain⟨d',q3,rfl⟩:=ja q;exact eE (R.t h q1) (Jp R h q2) (Jp R h q3)
 | Tuple es k p=>
  obtain⟨z,q⟩:=jf q;obtain⟨l,q1,rfl⟩:=ja q;obtain⟨a1,a2,_,a4⟩:=vS R h q1;exact eG a1 (v6 a2) (by rw[a4];rw[Nat.ble_eq]at z⊢;exact wSa z (by decide))
 | List es p=>
  obtain⟨z,q⟩:=jf q;obtain⟨l,q1,rfl⟩:=ja q;obtain⟨a1,a2,_,a4⟩:=vS R h q1;exact eH a1 (v6 a2) (by rw[a4];rw[Nat.ble_eq]at z⊢;exact wSa z (by decide))
 | Dict ks vs p=>
  cases ks <;> cases vs <;> cases q;exact cx
 | Attribute a f p=>
  obtain⟨z,q⟩:=jf q;obtain⟨z1,z2⟩:=jd z;obtain⟨d,q1,rfl⟩:=ja q;exact eO (jx R h q1) h.cl (h.fl _ z2) (Uq z1) hK
 | Subscript a b p=>
  exact CH R h q
 | ListComp elt gs sc p=>
  obtain⟨d,q1,rfl⟩:=ja q;obtain⟨_,_,_,own,caps,di,g,dc,de,rfl,rfl,L⟩:=QE R h q1;exact Fw own caps L.S L.cp h.calm L.i L.g L.t L.e L.nd L.fs
 | Call f es ks p=>
  dsimp only at q;unfold EZ at q;split at q
  ·split at q
   ·exact Xb R h q
   ·exact CJ R h q
   ·cases q
  ·cases q
 | _=>
  cases q
set_option tactic.hygienic true in
omit R h in
theorem aN{env:Env}(z:Cq e=true):∀whole,isTrue e env whole=(do let v<-whole;standAt e.pos;holding [v] (truthy v)):=by
 cases e <;> first | (intro _;rfl) | cases z | skip
 rename_i op _ _;cases op <;> first | (intro _;rfl) | cases z
theorem CK{os:List CmpOp}{bs:List Expr}{t:DT}(q:E_ r Γ a os bs pos=some t):PT X (.Compare a os bs pos) (tT K t):=by
 rcases os with _ | ⟨o,_ | ⟨o',_ | ⟨_,_⟩⟩⟩ <;> rcases bs with _ | ⟨b,_ | ⟨c,_ | ⟨_,_⟩⟩⟩ <;> try (cases q;done)
 ·obtain⟨z,q⟩:=jf q;obtain⟨d,q1,q⟩:=j3 q;obtain⟨d',q2,q⟩:=j3 q;obtain⟨f,q3,rfl⟩:=ja q;obtain⟨t,o1,o2⟩:=QA h q3;exact DZ o1 o2 (jx R h q1) (jx R h q2) (zL z)
 ·obtain⟨z,q⟩:=jf q;obtain⟨d,q1,q⟩:=j3 q;obtain⟨d',q2,q⟩:=j3 q;obtain⟨d'',q3,q⟩:=j3 q;obtain⟨f,p1,q⟩:=j3 q;obtain⟨f',p2,rfl⟩:=ja q;obtain⟨t,o1,o2⟩:=zY h p1;obtain⟨t',o1',o2'⟩:=zY h p2;exact Az o1 o1' o2 o2' (jx R h q1) (jx R h q2) (jx R h q3) (zL z)
theorem Eh{t:DT}(q:cT r Γ e=some t):PT X e (tT K t):=by
 unfold cT at q;split at q
 ·exact CK R h q
 ·split at q
  ·obtain⟨t,q1,rfl⟩:=ja q;exact D_ (R.t h q1)
  ·obtain⟨z,q⟩:=jf q;obtain⟨d,q1,rfl⟩:=ja q;exact XY (jx R h q1) h.k (aN z)
 ·split at q
  ·exact BK (QC R h q)
  ·exact BK (aM R h q)
 ·obtain⟨z,q⟩:=jf q;obtain⟨d,q1,rfl⟩:=ja q;exact XY (jx R h q1) h.k (aN z)
omit R h in
theorem wK{env:Env}(z:JG e=true):(assignEach (e::es) env)=(false,assign e env)::assignEach es env:=by
 cases e <;> first | rfl | cases z
theorem QF{k:Nat}:∀{es:List Expr} {gs:KW},aI r Γ k es=some gs->uk X es (Qd K k gs)/\(assignEach es X.env).length=es.length/\(assignEach es X.env).findIdx? (·.1)=none
 | [],_,q=>by cases q;exact⟨eV,rfl,rfl⟩
 | e::es,gs,q=>by
  unfold aI at q;obtain⟨z,q⟩:=jf q;obtain⟨g,q1,q⟩:=j3 q;obtain⟨gs',q2,rfl⟩:=ja q;obtain⟨a1,a2,a3⟩:=QF q2;refine⟨BV (R.g h q1) a1 (by rw[wK z];rfl),by rw[wK z];simp[a2],?_⟩;rw[wK z,List.findIdx?_cons,a3];rfl
theorem CL{k:Nat}{g:DG}(q:Cr r Γ k e=some g):PG X e (tG K k g):=by
 unfold Cr at q;cases e with
 | Name x p=>
  obtain⟨i,q1,q⟩:=j3 q;obtain⟨z,q⟩:=jf q;cases q;obtain⟨s1,s2,s3,s4⟩:=uS h q1;exact BU (A9 s1 s2 s3 s4) (Nat.blt_eq.mp z)
 | Tuple es k p=>
  obtain⟨gs,q1,rfl⟩:=ja q;obtain⟨a1,a2,a3⟩:=QF R h q1;exact eW _ h.calm a1 a2 a3 h.k
 | _=>
  cases q
end
theorem UO:∀n:Nat,RcOk (rc n)
 | 0=>⟨(fun _ q=>by cases q),(fun _ q=>by cases q),(fun _ q=>by cases q)⟩
 | n+1=>⟨fun h q=>Eg (UO n) h q,fun h q=>Eh (UO n) h q,fun h q=>CL (UO n) h q⟩
section
variable {r:Rc} {Γ:Gm} {X:Cx} {K:Fr} {x y:Str} {i:Nat} {e a b c tg:Expr} {es:List Expr} {pos:Pos} {d:DE}
def qF{elt iter:Expr}{ifs:List Expr}{scope:Scope}{np p:Pos}{l:Nat}{aa:Int}(h:OkX K Γ X)(z:aJ Γ scope x np p=true):swapsWith (.ListComp elt [⟨tg,iter,ifs,aa⟩] scope p) (some (.Name x np)) l X.env=pure true:=by
 obtain⟨z,z4⟩:=jd z;obtain⟨z,z3⟩:=jd z;obtain⟨z1,z2⟩:=jd z;have k1:Γ.sc.kind=.function:=by
  split at z1
  ·assumption
  ·cases z1
 have e1:X.env.blockKind=.function:=by
  unfold Env.blockKind;rw[h.sc,k1];rfl
 have e2:X.env.kindOf x=some .local:=by
  show X.env.scope.names.lookup x=_;rw[h.sc];exact Qy z2
 show(pure (X.env.blockKind==.function&&X.env.kindOf x==some .local&&np.line==p.line&&!(scope.names.any fun(n,k)=>n==x&&(k==.local||k==.cell))):Sem Bool)=pure true;rw[e1,e2,z3,z4];rfl
def GF{o j:Expr}{env:Env}(z:uP j=true):∀v,assign (.Subscript o j pos) env v=(do
   let ov<-holding [v] (eval o env)
   let iv<-holding [v,ov] (eval j env)
   standAt pos
   holding [v,ov,iv] (setItem ov iv v)
   release [v,ov,iv] []):=by
 cases j <;> first | (intro _;rfl) | cases z
def Vs{env:Env}{tg:Expr}{l:Nat}(h:v5 e=true):swapsWithSole [tg] e l env=pure false:=by
 unfold swapsWithSole;exact YO h
def GG{o j e:Expr}{env:Env}{p:Pos}:swappedStores [.Subscript o j p] e env=pure none:=by
 cases e <;> rfl
def QG{es:List Expr}{n:Nat}{e:Expr}{env:Env}{p:Pos}(z:(!UJ e)=true):swappedStores [.Tuple es n p] e env=pure none:=by
 cases e <;> first | rfl | cases z
def CM{kx vx:Expr}{gs:List Comprehension}{scope:Scope}{np p:Pos}{l:Nat}(h:OkX K Γ X)(z:X8 Γ.sc x=true):swapsWith (.DictComp kx vx gs scope p) (some (.Name x np)) l X.env=pure false:=by
 have e2:X.env.kindOf x=some .cell:=by
  show X.env.scope.names.lookup x=_;rw[h.sc];unfold X8 at z;split at z
  ·assumption
  ·cases z
 show(pure (X.env.blockKind==.function&&X.env.kindOf x==some .local&&np.line==p.line&&!(scope.names.any fun(n,k)=>n==x&&(k==.local||k==.cell))):Sem Bool)=pure false;rw[e2];cases X.env.blockKind==.function <;> rfl
variable (R:RcOk r) (h:OkX K Γ X)
include R h
set_option tactic.hygienic true in
theorem Kq{d:DO}(q:cF r Γ e=some d):PE X e (tF K d):=by
 unfold cF at q;split at q
 ·rename_i hn;cases q;exact R.n h hn
 ·cases q
theorem CN{elt:Expr}{gs:List Comprehension}{scope:Scope}{np p:Pos}{d:DO}{i:Nat}(s0:K3 Γ x=some i)(z:aJ Γ scope x np p=true)(q:Co r Γ elt gs scope p=some d):PS X (.Assign [.Name x np] (.SetComp elt gs scope p) pos) (tS K (jk i (dL d))):=by
 obtain⟨s1,s2,s3,s4⟩:=uS h s0;have hK:=h.k;subst hK;rcases gs with _ | ⟨⟨t1,i1,f1,a1⟩,_ | ⟨_,_⟩⟩ <;> try (cases q;done)
 have hz:=qF (tg:=t1) (elt:=elt) (iter:=i1) (ifs:=[]) (aa:=0) (l:=pos.line) h z;unfold Co at q;dsimp only at q;obtain⟨z,q⟩:=jf q;obtain⟨z,y3⟩:=jd z;obtain⟨z,y1⟩:=jd z;obtain⟨z,z5⟩:=jd z;obtain⟨z,z4⟩:=jd z;obtain⟨z,z3⟩:=jd z;obtain⟨z1,z2⟩:=jd z;obtain⟨di,q1,q⟩:=j3 q;obtain⟨g1,q2,q⟩:=j3 q;obtain⟨de,q5,rfl⟩:=ja q;have e1:=List.isEmpty_iff.mp y1;have e3:=vLa y3;subst e1 e3;exact Gp (ZV (ZV (X3 (hf:=jS X.w) (tb:=fun A=>C5 X.K (jS X.w) A (tE X.K de)) (uQ 5 t1) (v4 Γ p) s1 s2 s3 (qE h z1) (UN h z2) h.calm (GE R h q1) (fun _ _ _=>R.g (yn h z3) q2) (fun s3 H3 x' A=>Ee (Y:=X.comp (L2.cN (uQ 5 t1) (v4 Γ p)) scope s3 H3 x') rfl h.room (Jp R (yn h z3) q5)) (Vr z5) hz s4) (C6 (UM z4))) KZ)
theorem CO{np:Pos}{d:DS.DS}(q0:f9 r Γ x np e=some d):PS X (.Assign [.Name x np] e pos) (tS K d):=by
 obtain⟨i,s0,q0⟩:=j3 q0;obtain⟨s1,s2,s3,s4⟩:=uS h s0;split at q0
 ·obtain⟨d0,q1,q0⟩:=j3 q0;obtain⟨z2,q0⟩:=jf q0;cases q0;obtain⟨_,_,_,own,caps,di,g,dc,de,rfl,rfl,L⟩:=QE R h q1;split
  ·exact AG own caps s1 s2 s3 L.S L.cp h.calm L.i L.g L.t L.e L.nd L.fs (qF h z2) s4
  ·exact AH own caps s1 s2 s3 L.S L.cp h.calm L.i L.g L.t L.e L.nd L.fs (qF h z2) s4
 ·obtain⟨z,q0⟩:=jf q0;obtain⟨d0,q1,rfl⟩:=ja q0;exact CN R h s0 z q1
 ·obtain⟨z,q0⟩:=jf q0;obtain⟨d0,q1,rfl⟩:=ja q0;exact Gp (Vh s1 s2 s3 (BA (CI R h q1)) (CM h z) s4)
 ·obtain⟨z,q0⟩:=jf q0;split at q0
  ·obtain⟨d0,q1,rfl⟩:=ja q0;exact af (Vh s1 s2 s3 (Kq R h q1) (YO z) s4)
  ·obtain⟨d0,q1,rfl⟩:=ja q0;exact Gp (Vh s1 s2 s3 (Jp R h q1) (YO z) s4)
theorem CQ{t:Expr}{d:DS.DS}(q0:Cs r Γ t e=some d):PS X (.Assign [t] e pos) (tS K d):=by
 unfold Cs at q0;cases t with
 | Name x p=>
  exact CO R h q0
 | Attribute o f p=>
  obtain⟨i,s9,q9⟩:=j3 q0;clear q0;obtain⟨x,p,rfl,s0⟩:=JH s9;obtain⟨z,q0⟩:=jf q9;obtain⟨z1,z2⟩:=jd z;obtain⟨d0,q1,rfl⟩:=ja q0;exact cu (Bh (Jw h s0) (Jp R h q1) (YO z1)) h.cl (h.fl _ z2) h.k
 | Subscript o j p=>
  obtain⟨i,s9,q9⟩:=j3 q0;clear q0;obtain⟨x,p,rfl,s0⟩:=JH s9;obtain⟨z,q0⟩:=jf q9;obtain⟨z1,z2⟩:=jd z;have hK:=h.k;subst hK;split at q0
  ·obtain⟨dx,q1,q0⟩:=j3 q0;obtain⟨d0,q2,rfl⟩:=ja q0;exact E4 (Vg (Jp R h q2) (Gc (Jw h s0) (Jp R h q1) (AQ h.room) (GF z2)) (Vs z1) GG)
  ·obtain⟨dx,q1,q0⟩:=j3 q0;obtain⟨d0,q2,rfl⟩:=ja q0;exact cb (Vg (Jp R h q2) (Gc (Jw h s0) (jx R h q1) gx (GF z2)) (Vs z1) GG)
 | Tuple es k p=>
  obtain⟨z,q0⟩:=jf q0;obtain⟨z1,z2⟩:=jd z;obtain⟨d0,q1,q0⟩:=j3 q0;obtain⟨g,q2,rfl⟩:=ja q0;exact ah (Vg (Jp R h q1) (R.g h q2) (Vs z1) (QG z2))
 | _=>
  cases q0
theorem CS{f:Expr}{es:List Expr}{ks:List Keyword}{p:Pos}{d:DS.DS}(q0:fb r Γ f es ks p=some d):PS X (.Expr (.Call f es ks p) pos) (tS K d):=by
 cases f <;> try (cases q0;done)
 rcases es with _ | ⟨e,_ | ⟨_,_⟩⟩ <;> rcases ks with _ | ⟨_,_⟩ <;> try (cases q0;done)
 ·obtain⟨i,s9,q9⟩:=j3 q0;clear q0;obtain⟨x,np,rfl,s0⟩:=JH s9;obtain⟨z,q0⟩:=jf q9;obtain⟨z,z3⟩:=jd z;obtain⟨z1,z2⟩:=jd z;obtain⟨d0,q1,rfl⟩:=ja q0;have e1:=vLa z1;have hK:=h.k;subst e1 hK;exact xQ (zv (Bz (Jw h s0) (Jc (Jp R h q1) yz (jm z2)) rfl (by rw[jm z2];rfl) z3 (jm z2)))
set_option tactic.hygienic true in
theorem aO{q:Gm->List Stmt->Option DS.DS}{s:Stmt}{d:DS.DS}(Q:∀l d,q Γ l=some d->Jn X l (tS K d))(hp:PassesOwn (model X.prog X.w) X.A X.env X.xe)(q0:cS r q Γ s=some d):PS X s (tS K d):=by
 unfold cS at q0;cases s with
 | Assign ts e p=>
  dsimp only at q0;split at q0
  ·exact CQ R h q0
  ·cases q0
 | Expr e p=>
  dsimp only at q0;unfold fc at q0;split at q0
  ·split at q0
   ·cases q0;exact CS R h (by assumption)
   ·obtain⟨d0,q1,rfl⟩:=ja q0;exact Qg (zv (jx R h q1) (YO rfl))
  ·obtain⟨z,q0⟩:=jf q0;obtain⟨d0,q1,rfl⟩:=ja q0;exact Qg (zv (jx R h q1) (YO z))
 | Return o p=>
  dsimp only at q0;split at q0
  ·cases q0;exact cg
  ·split at q0
   ·rename_i hn;obtain⟨x,p,rfl,hs⟩:=JH hn;split at q0
    ·cases q0;exact cf (Jw h hs)
    ·cases q0;exact aj (XV _ (Jw h hs))
   ·split at q0
    ·obtain⟨d0,q1,rfl⟩:=ja q0;exact ce (Kq R h q1)
    ·obtain⟨d0,q1,rfl⟩:=ja q0;exact aj (Jp R h q1)
 | If c a b p=>
  obtain⟨t,q1,q0⟩:=j3 q0;obtain⟨u,q2,q0⟩:=j3 q0;obtain⟨v,q3,rfl⟩:=ja q0;exact c8 (R.t h q1) (Q _ _ q2) (Q _ _ q3)
 | While c b o p=>
  dsimp only at q0;split at q0
  ·obtain⟨t,q1,q0⟩:=j3 q0;obtain⟨u,q2,rfl⟩:=ja q0;exact AF _ hp (R.t h q1) (Q _ _ q2)
  ·cases q0
 | For tg it b o p=>
  dsimp only at q0;split at q0
  ·obtain⟨z,q0⟩:=jf q0;obtain⟨di,q1,q0⟩:=j3 q0;obtain⟨g,q2,q0⟩:=j3 q0;obtain⟨u,q3,rfl⟩:=ja q0;exact eX hp h.calm (GE R h q1) (R.g h q2) (Q _ _ q3) (Vr z)
  ·cases q0
 | _=>
  cases q0
set_option tactic.hygienic true in
theorem CT{i:Nat}{np:Pos}{d:DS.DS}(s0:K3 Γ x=some i)(q0:fe r Γ i e=some d):PS X (.Assign [.Name x np] e pos) (tS K d):=by
 obtain⟨s1,s2,s3,s4⟩:=uS h s0;have fin:∀{e:Expr},(cG (v5 e) ((cV r Γ dC e).map fun d=>jk i fun Z=>(d (frz Z)).bind JV))=some d->PS X (.Assign [.Name x np] e pos) (tS K d):=fun q=>by
  obtain⟨z,q⟩:=jf q;obtain⟨d0,q1,rfl⟩:=ja q;exact Gp (Vh s1 s2 s3 (Kn (Jp R h q1)) (YO z) s4)
 have hK:=h.k;cases e with
 | Call f es ks p=>
  cases f with
  | Name g gp=>
   have q0:(match Γ.gs.lookup g with
    | some (.fE _ _ kk F)=>cG (wD Γ g&&ks.isEmpty&&!es.isEmpty&&kk.length==es.length) ((cA r Γ (es.map fun _=>true) es).map fun l=>Gy i (Ww F l))
    | _=>none)=some d:=q0
   split at q0
   ·rename_i hl;obtain⟨z,q⟩:=jf q0;obtain⟨z,z4⟩:=jd z;obtain⟨z,z3⟩:=jd z;obtain⟨z1,z2⟩:=jd z;obtain⟨l,q1,rfl⟩:=ja q;have e2:=List.isEmpty_iff.mp z2;subst e2;obtain⟨a1,a2,a3,a4⟩:=vS R h q1;obtain⟨G,hr⟩:=h.gs _ _ hl;obtain⟨g1,g3⟩:=GC h z1;cases es with
    | nil=>cases z3
    | cons e es=>exact cM (Vh s1 s2 s3 (cL G hr a1 (v6 a2) (by rw[a4];exact vLa z4) g1 g3 (jm (a3 _ wNa)) (zC fun z hz=>a3 z (wMa _ hz)) hK) (YO rfl) s4)
   ·cases q0
  | _=>cases q0
 | _=>exact fin q0
theorem CU{d:DS.DS}(q0:fg r Γ e=some d):PS X (.Expr e pos) (tS K d):=by
 have hK:=h.k;subst hK;cases e with
 | Call f es ks p=>
  cases f with
  | Attribute o m ap=>
   have ins:((nm Γ o).bind fun i=>(match es with
    | [k,x]=>cG (m==("insert" : Str)&&ks.isEmpty&&JG k&&JG x&&ap.endLine==p.line) ((cV r Γ dV k).bind fun dj=>(cF r Γ x).map fun de=>UE i dj de)
    | _=>none))=some d->PS X (.Expr (.Call (.Attribute o m ap) es ks p) pos) (tS X.K d):=fun q9=>by
    obtain⟨i,e1,q⟩:=j3 q9;clear q9 q0;obtain⟨x',p',rfl,e2⟩:=JH e1;rcases es with _ | ⟨k,_ | ⟨x,_ | ⟨_,_⟩⟩⟩ <;> try (cases q;done)
    obtain⟨z,q⟩:=jf q;obtain⟨z,z5⟩:=jd z;obtain⟨z,z4⟩:=jd z;obtain⟨z,z3⟩:=jd z;obtain⟨z1,z2⟩:=jd z;obtain⟨dj,q1,q⟩:=j3 q;obtain⟨de,q2,rfl⟩:=ja q;have em:=vLa z1;have ek:=List.isEmpty_iff.mp z2;subst em ek;exact cR (zv (ay (Jw h e2) (Jc (jx R h q1) (Jc (Kq R h q2) yz (jm z4)) (by rw[jm z3])) (by rw[jm z3,jm z4];rfl) z5 (jm z3) (by rw[jm z4];rfl)))
   cases o with
   | Subscript a j ip=>
    obtain⟨i,e1,q⟩:=j3 q0;obtain⟨x',p',rfl,e2⟩:=JH e1;obtain⟨x,e3,q⟩:=j3 q;obtain⟨z,q⟩:=jf q;obtain⟨z,z5⟩:=jd z;obtain⟨z,z4⟩:=jd z;obtain⟨z,z3⟩:=jd z;obtain⟨z1,z2⟩:=jd z;obtain⟨dj,q1,q⟩:=j3 q;obtain⟨de,q2,rfl⟩:=ja q;have em:=vLa z1;have ek:=List.isEmpty_iff.mp z2;have ee:es=[x]:=by rcases es with _ | ⟨a,_ | ⟨_,_⟩⟩ <;> cases e3;rfl
    subst em ek ee;exact cP (zv (Bz (Kh Ur (Jw h e2) (jx R h q1) (YN z3)) (Jc (Kn (Jp R h q2)) yz (jm z4)) rfl (by rw[jm z4];rfl) z5 (jm z4)))
   | _=>exact ins q0
  | _=>cases q0
 | _=>cases q0
omit R h in
theorem CV{α:Type}{ts:List α}{t:α}(e:qD ts=some t):ts=[t]:=by rcases ts with _ | ⟨a,_ | ⟨_,_⟩⟩ <;> cases e;rfl
set_option tactic.hygienic true in
theorem CW{i:Nat}{g:Str}{es:List Expr}{ks:List Keyword}{np p gp:Pos}{d:DS.DS}(s0:K3 Γ x=some i)(q0:Ct r Γ i g es ks.isEmpty=some d):PS X (.Assign [.Name x np] (.Call (.Name g gp) es ks p) pos) (tS K d):=by
 obtain⟨s1,s2,s3,s4⟩:=uS h s0;have hK:=h.k;subst hK;unfold Ct at q0;split at q0
 ·rename_i hl;rcases es with _ | ⟨e0,_ | ⟨e1,_ | ⟨e2,_ | ⟨_,_⟩⟩⟩⟩ <;> try (cases q0;done)
  obtain⟨j,n1,q0⟩:=j3 q0;obtain⟨z,q0⟩:=jf q0;obtain⟨z,z5⟩:=jd z;obtain⟨z,z4⟩:=jd z;obtain⟨z,z3⟩:=jd z;obtain⟨z,zj⟩:=jd z;obtain⟨z1,z2⟩:=jd z;obtain⟨a,qa,q0⟩:=j3 q0;obtain⟨b,qb,rfl⟩:=ja q0;have e2:=List.isEmpty_iff.mp z2;have ej:=vLa zj;subst e2 ej;obtain⟨x',p',rfl,e2⟩:=JH n1;obtain⟨G,hr⟩:=h.gs _ _ hl;obtain⟨g1,g3⟩:=GC h z1;exact AW (Vh s1 s2 s3 (AX G hr (Jp R h qa) (Jw h e2) (Jp R h qb) (fun _=>jm z3) (fun _=>jm z4) (fun _=>jm z5) g1 g3) (YO rfl) s4)
 ·cases q0
theorem CY{a j:Expr}{sp:Pos}{d:DS.DS}(q0:fh r Γ a j e=some d):PS X (.Assign [.Subscript a j sp] e pos) (tS K d):=by
 have hK:=h.k;subst hK;obtain⟨z,q0⟩:=jf q0;obtain⟨z1,z2⟩:=jd z;have fin:((nm Γ a).bind fun i=>(cV r Γ dV j).bind fun dj=>(cF r Γ e).map fun d=>vR i dj fun Z=>(d (frz Z)).bind vQ)=some d->PS X (.Assign [.Subscript a j sp] e pos) (tS X.K d):=fun q=>by
  obtain⟨i,n1,q⟩:=j3 q;obtain⟨dj,q1,q⟩:=j3 q;obtain⟨df,q2,rfl⟩:=ja q;obtain⟨x',p',rfl,e2⟩:=JH n1;exact cZ (Vg (e_ (Kq R h q2)) (Gc (Jw h e2) (jx R h q1) gx (GF z2)) (Vs z1) GG)
 cases a with
 | Subscript a k kp=>
  obtain⟨i,n1,q⟩:=j3 q0;obtain⟨z3,q⟩:=jf q;obtain⟨dj,q1,q⟩:=j3 q;obtain⟨dh,q2,q⟩:=j3 q;obtain⟨de,q3,rfl⟩:=ja q;obtain⟨x',p',rfl,e2⟩:=JH n1;exact cY (Vg (Kn (Jp R h q3)) (Gc (Kh Ur (Jw h e2) (jx R h q1) (YN z3)) (jx R h q2) gx (GF z2)) (Vs z1) GG)
 | _=>exact fin q0
theorem CZ{o:Expr}{m:Str}{es:List Expr}{ks:List Keyword}{ap p:Pos}{d:DS.DS}(q0:fj r Γ o m es (ks.isEmpty&&ap.endLine==p.line)=some d):PS X (.Expr (.Call (.Attribute o m ap) es ks p) pos) (tS K d):=by
 have hK:=h.k;subst hK;have fin:(match (generalizing:=false) es with
  | [k]=>(nm Γ o).bind fun i=>cG (m==("pop" : Str)&&(ks.isEmpty&&ap.endLine==p.line)&&JG k) ((cV r Γ dV k).map fun dj=>UH i dj)
  | _=>none)=some d->PS X (.Expr (.Call (.Attribute o m ap) es ks p) pos) (tS X.K d):=fun q=>by
  clear q0;rcases es with _ | ⟨k,_ | ⟨_,_⟩⟩ <;> try (cases q;done)
  obtain⟨i,n1,q⟩:=j3 q;obtain⟨z,q⟩:=jf q;obtain⟨z,z3⟩:=jd z;obtain⟨z1,z⟩:=jd z;obtain⟨z2,z4⟩:=jd z;obtain⟨dj,q1,rfl⟩:=ja q;obtain⟨x',p',rfl,e2⟩:=JH n1;have em:=vLa z1;have ek:=List.isEmpty_iff.mp z2;subst em ek;exact c_ (zv (Kj PySem.F.plainAttrs_list PySem.F.slot_list_pop PySem.F.type_list_pop xD (Jw h e2) (Jc (jx R h q1) yz (jm z3)) rfl (by rw[jm z3];rfl) z4 (jm z3) rfl))
 cases o with
 | Subscript a j ip=>
  clear fin
  rcases es with _ | ⟨k,_ | ⟨x,_ | ⟨_,_⟩⟩⟩ <;> try (cases q0;done)
  obtain⟨i,n1,q⟩:=j3 q0;obtain⟨z,q⟩:=jf q;obtain⟨z,z5⟩:=jd z;obtain⟨z,z4⟩:=jd z;obtain⟨z,z3⟩:=jd z;obtain⟨z1,z⟩:=jd z;obtain⟨z2,z6⟩:=jd z;obtain⟨dj,q1,q⟩:=j3 q;obtain⟨dh,q2,q⟩:=j3 q;obtain⟨de,q3,rfl⟩:=ja q;obtain⟨x',p',rfl,e2⟩:=JH n1;have em:=vLa z1;have ek:=List.isEmpty_iff.mp z2;subst em ek;exact cU (zv (ay (Kh Ur (Jw h e2) (jx R h q1) (YN z3)) (Jc (jx R h q2) (Jc (Jp R h q3) yz (jm z5)) (by rw[jm z4])) (by rw[jm z4,jm z5];rfl) z6 (jm z4) (by rw[jm z5];rfl)))
 | _=>exact fin q0
theorem C_{s:Stmt}{d:DS.DS}(q0:fk r Γ s=some d):PS X s (tS K d):=by
 cases s with
 | Assign ts e p=>
  obtain⟨t,e1,q0⟩:=j3 q0;have ee:=CV e1;subst ee;cases t with
  | Name x np=>
   obtain⟨i,s0,q0⟩:=j3 q0;cases e with
   | Call f es ks cp=>
    cases f with
    | Name g gp=>exact CW R h s0 q0
    | _=>cases q0
   | _=>cases q0
  | Subscript a j sp=>exact CY R h q0
  | _=>cases q0
 | Expr e p=>
  cases e with
  | Call f es ks cp=>
   cases f with
   | Attribute o m ap=>exact CZ R h q0
   | _=>cases q0
  | _=>cases q0
 | _=>cases q0
theorem aP{q:Gm->List Stmt->Option DS.DS}{s:Stmt}{d:DS.DS}(Q:∀l d,q Γ l=some d->Jn X l (tS K d))(hp:PassesOwn (model X.prog X.w) X.A X.env X.xe)(q0:cX r q Γ s=some d):PS X s (tS K d):=by
 unfold cX at q0;split at q0
 ·exact C_ R h q0
 split at q0
 ·obtain⟨d0,q1,rfl⟩:=ja q0;exact E1 (aO R h Q hp q1)
 split at q0
 ·cases s with
  | If c a b p=>
   obtain⟨t,q1,q0⟩:=j3 q0;obtain⟨u,q2,q0⟩:=j3 q0;obtain⟨v,q3,rfl⟩:=ja q0;exact c8 (eZ (R.t h q1)) (Q _ _ q2) (Q _ _ q3)
  | Assign ts e p=>
   obtain⟨t,e1,q0⟩:=j3 q0;have ee:ts=[t]:=by rcases ts with _ | ⟨a,_ | ⟨_,_⟩⟩ <;> cases e1;rfl
   subst ee;cases t with
   | Name x np=>
    obtain⟨i,s0,q0⟩:=j3 q0;exact CT R h s0 q0
   | Tuple es k p=>
    obtain⟨z,q0⟩:=jf q0;obtain⟨z1,z2⟩:=jd z;obtain⟨d0,q1,q0⟩:=j3 q0;obtain⟨g,q2,rfl⟩:=ja q0;exact ah (Vg (Kn (Jp R h q1)) (R.g h q2) (Vs z1) (QG z2))
   | _=>cases q0
  | Expr e p=>exact CU R h q0
  | _=>cases q0
 ·exact aO R h Q hp q0
omit R h in
theorem GH{l:Nat}{st:List Stmt}:∀{sh:List (Nat×Nat)} {d:DS.DS},Jn X st (tS K d)->Jn X st (tS K (Wy l sh d))
 | [],_,h=>h
 | (m,i)::r,d,h=>by
  unfold Wy;split
  ·exact xP i (GH h)
  ·exact GH h
theorem QH{q:Gm->List Stmt->Option DS.DS}(Q:∀l d,q Γ l=some d->Jn X l (tS K d))(hp:PassesOwn (model X.prog X.w) X.A X.env X.xe):∀{l:List Stmt} {d:DS.DS},aK r q Γ l=some d->Jn X l (tS K d)
 | [],_,q0=>by cases q0;exact B_
 | s::t,d,q0=>by
  unfold aK at q0;split at q0
  ·cases q0;exact xO
  ·obtain⟨d1,q1,q0⟩:=j3 q0;have h1:=aP R h Q hp q1;split at q0
   ·cases q0;exact GH (c6 h1)
   ·obtain⟨d2,q2,rfl⟩:=ja q0;exact GH (AE h1 (QH Q hp q2))
theorem QI{q:Gm->List Stmt->Option DS.DS}{i:Nat}(Q:∀l d,q Γ l=some d->Jn X l (tS K d))(hp:PassesOwn (model X.prog X.w) X.A X.env X.xe):∀{l:List Stmt} {d:DS.DS},Cu r q Γ i l=some d->Jn X l (Qs K i d)
 | [],_,q0=>by cases q0
 | [s],d,q0=>by
  cases s with
  | Return v p=>
   obtain⟨e,e1,q0⟩:=j3 q0;obtain⟨j,n1,q0⟩:=j3 q0;obtain⟨z,q0⟩:=jf q0;cases q0;have ej:=vLa z;subst ej e1;obtain⟨x',p',rfl,e2⟩:=JH n1;exact C0 (Jw h e2)
  | _=>cases q0
 | s::s'::t,d,q0=>by
  obtain⟨d1,q1,q0⟩:=j3 q0;obtain⟨d2,q2,rfl⟩:=ja q0;exact AV (aP R h Q hp q1) (QI Q hp q2)
theorem qG(hp:PassesOwn (model X.prog X.w) X.A X.env X.xe):∀(n:Nat) {l:List Stmt} {d:DS.DS},cQ r n Γ l=some d->Jn X l (tS K d)
 | 0,_,_,q=>by cases q
 | n+1,_,_,q=>QH R h (fun l d q=>qG hp n q) hp q
end
structure De where
 x:Str
 q:Str
 st:Stmt
 ps:List Str
 lo:List Str
 ks:List Bool
 b:DS.DS
 hs:List ((Nat×Nat×Nat)×List Nat)
 sh:List (Nat×Nat)
 ow:List Nat
structure Tb where
 C:Addr
 gs:List (Str×GI)
 ms:List (Str×GI)
 fl:List Str
def gm(T:Tb)(d:De)(kF:Bool):Gm:={ N:=d.ps++d.lo,sc:=defScope d.st,fn:=true,kF:=kF,C:=T.C,gs:=T.gs,ms:=T.ms,fl:=T.fl,hs:=d.hs,sh:=d.sh,ow:=d.ow }
def d6(N ps:List Str)(sc:Scope):Bool:=(match sc.kind with | .function=>true | _=>false)&&!sc.isCoroutine&&!sc.isGenerator&&uR N&&ps.all (wC sc)&&sc.names.all fun y=>match y.2 with | .free=>false | _=>true
def VQ{ps lo:List Str}{sc:Scope}(h:d6 (ps++lo) ps sc=true):FnScope (ps++lo) ps sc:=by
 obtain⟨h,h6⟩:=jd h;obtain⟨h,h5⟩:=jd h;obtain⟨h,h4⟩:=jd h;obtain⟨h,h3⟩:=jd h;obtain⟨h1,h2⟩:=jd h;refine⟨?_,zL h2,zL h3,UL h4,by simp,fun x hx=>Qx (List.all_eq_true.mp h5 x hx),fun y hy e=>?_⟩
 ·split at h1
  ·assumption
  ·cases h1
 ·have:=List.all_eq_true.mp h6 y hy;rw[e]at this;cases this
def Bd(x q:Str)(st:Stmt)(ps:List Str):Prop:=∀(kV doc pm:Value) (an:Option Addr) (cdv ct:Value) (us:List Value),us.length=ps.length->bindArgs (PySem.W.fnOf x q (defArgs st) (defBody st) (defScope st) .none kV doc pm an cdv ct) ⟨us,[]⟩=pure (ps.zip us)
def GJ(T:Tb)(d:De)(kF:Bool):Option DS.DS:=cG (d6 (d.ps++d.lo) d.ps (defScope d.st)) (cQ (rc 30) 30 (gm T d kF) (defBody d.st))
def Xc(T:Tb)(d:De):Option DS.DS:=cG (d6 (d.ps++d.lo) d.ps (defScope d.st)) (Cu (rc 30) (cQ (rc 30) 30) (gm T d false) 1 (defBody d.st))
structure TOk (P:Program) (w:World) (K:Fr) (mg:Str->Option Value) (base:Heap) (n:Nat) (T:Tb):Prop where
 gs:∀p∈T.gs,wH P w K mg base T.C (·<=n) K p.1 p.2
 ms:∀p∈T.ms,Wz P w K mg base T.C (·<=n) K p.1 p.2
 cl:Cls K T.C
 fl:∀f∈T.fl,Yo K T.C f
section
variable {P:Program} {w:World} {K:Fr} {mg:Str->Option Value} {base:Heap} {f C:Addr} {fd:FuncData} {n:Nat} {T:Tb} {d:De} {g:GI} {x:Str}
def wH.mono{r r':Nat->Prop}(m:∀k,r k->r' k)(h:wH P w K mg base C r K x g):wH P w K mg base C r' K x g:=by
 cases g with
 | con i=>exact h
 | blt=>exact h
 | fE k ps ks F=>exact⟨h.1,m _ h.2⟩
 | fF k ps ks F=>exact⟨h.1,m _ h.2⟩
 | mk k ps ks F G=>exact⟨h.1,h.2.1,m _ h.2.2⟩
 | fL k ps F=>exact⟨h.1,m _ h.2⟩
def Wz.mono{r r':Nat->Prop}(m:∀k,r k->r' k)(h:Wz P w K mg base C r K x g):Wz P w K mg base C r' K x g:=by
 cases g with
 | con i=>exact h
 | blt=>exact h
 | fE k ps ks F=>exact⟨h.1,m _ h.2⟩
 | fF k ps ks F=>exact⟨h.1,m _ h.2⟩
 | mk k ps ks F G=>exact h
 | fL k ps F=>exact h
def TOk.mono{m:Nat}(h:TOk P w K mg base n T)(l:n<=m):TOk P w K mg base m T:=
 ⟨fun p hp=>(h.gs p hp).mono fun _ z=>wSa z l,fun p hp=>(h.ms p hp).mono fun _ z=>wSa z l,h.cl,h.fl⟩
set_option tactic.hygienic true in
theorem gJ{α:Type}{x:Str}{g:α}:∀{l:List (Str×α)},l.lookup x=some g->(x,g)∈l
 | [],h=>by cases h
 | (y,g')::r,h=>by
  rw[List.lookup_cons]at h;split at h
  ·rename_i e;cases h;rw[eq_of_beq e];exact wNa
  ·exact wMa _ (gJ h)
def d8{kF:Bool}{cdv:Value}{A:Around}{outer:List Env}{s:Shared}{H:Hp}{E:XK}(h:TOk P w K mg base n T)(S:FnScope (d.ps++d.lo) d.ps (defScope d.st))(hr:Room n (A.deeper (envOfC d.q (defScope d.st) s.heap.objs.size f cdv))):
  OkX K (gm T d kF) (Zc Y7 P w K mg base (d.ps++d.lo) d.q (defScope d.st) f cdv A outer s H E).nox where
 n:=rfl
 sc:=rfl
 nd:=S.nd
 calm:=rfl
 k:=rfl
 room:=hr.mono (Nat.zero_le _)
 fn:=fun _ _=>rfl
 gs:=fun x g e=>(h.gs _ (gJ e)).mono fun k z=>hr.mono z
 ms:=fun x g e=>(h.ms _ (gJ e)).mono fun k z=>hr.mono z
 cl:=h.cl
 fl:=fun f e=>h.fl f (List.contains_iff_mem.mp e)
def ke{kF:Bool}{b:DS.DS}{cdv:Value}{A:Around}{outer:List Env}{s:Shared}{H:Hp}{E:XK}(h:TOk P w K mg base n T)(c:GJ T d kF=some b)(hr:Room n (A.deeper (envOfC d.q (defScope d.st) s.heap.objs.size f cdv))):
  Jn (Zc Y7 P w K mg base (d.ps++d.lo) d.q (defScope d.st) f cdv A outer s H E).nox (defBody d.st) (tS K b):=by
 obtain⟨c1,c2⟩:=jf c;exact qG (UO 30) (d8 h (VQ c1) hr) PassesOwn.never 30 c2
def dg(h:TOk P w K mg base n T)(F:Fun K d.x d.q d.st f fd)(c:GJ T d false=some d.b)(hk:d.ks.length=d.ps.length):FnOk P w K mg base Y7 (n+1) f fd d.ps (kT K d.ks (Jh d.ks d.lo.length d.b)):=
 Fz F (VQ (jf c).1) hk (by simp) fun cdv A outer s H E hr=>ke h c hr
def fq(h:TOk P w K mg base n T)(F:Fun K d.x d.q d.st f fd)(c:GJ T d true=some d.b)(hk:d.ks.length=d.ps.length):FnOk P w K mg base Y7 (n+1) f fd d.ps (Qf K d.ks (Gu d.ks d.lo.length d.b)):=
 FA F (VQ (jf c).1) hk (by simp) fun cdv A outer s H E hr=>ke h c hr
def Hf(h:TOk P w K mg base n T)(F:Fun K d.x d.q d.st f fd)(c:GJ T d false=some d.b)(hk:d.ks.length+1=d.ps.length):FnOk P w K mg base Y7 (n+1) f fd d.ps (ae K C d.ks (Qh C d.ks d.lo.length d.b)):=
 FB F (VQ (jf c).1) hk (by simp) fun cdv A outer s H E hr=>ke h c hr
def Gw{m:Nat}(h:TOk P w K mg base n T)(F:Fun K d.x d.q d.st f fd)(c:Xc T d=some d.b)(hm:m+2=d.ps.length):FnOk P w K mg base Y7 (n+1) f fd d.ps (Qt K (wy m d.lo.length d.b)):=
 FF F (VQ (jf c).1) hm (by simp) fun cdv A outer s H E hr=>QI (UO 30) (d8 h (VQ (jf c).1) hr) (fun _ _ q=>qG (UO 30) (d8 h (VQ (jf c).1) hr) PassesOwn.never 30 q) PassesOwn.never (jf c).2
def At(K:Fr)(x q:Str)(st:Stmt):Prop:=∃f fd,W.nsIn K mainGlobals x=some (some (.ref f))/\Fun K x q st f fd
def QJ(K:Fr)(C:Addr)(x q:Str)(st:Stmt):Prop:=∃f fd,W.findIn K (.ref C) x=some (some (.ref f))/\W.isFn K (.ref f)=true/\Fun K x q st f fd
def Ei{q:Str}{st:Stmt}(a:W.nsIn K mainGlobals x=some (some (.ref f)))(F:Fun K x q st f fd):At K x q st:=⟨f,fd,a,F⟩
def dm{q:Str}{st:Stmt}(a:W.findIn K (.ref C) x=some (some (.ref f)))(i:W.isFn K (.ref f)=true)(F:Fun K x q st f fd):QJ K C x q st:=⟨f,fd,a,i,F⟩
def G0(K:Fr)(x:Str):GI->Prop
 | .con i=>∃t,W.nsIn K mainGlobals x=some (some (.int i t))
 | .blt=>W.nsIn K mainGlobals x=some none
 | _=>False
def Ej{rm:Nat->Prop}(XG:∀x v,W.nsIn K mainGlobals x=some (some v)->mg x=some v)(XN:∀x,W.nsIn K mainGlobals x=some none->mg x=none)(h:G0 K x g):wH P w K mg base C rm K x g:=by
 cases g with
 | con i=>obtain⟨t,h⟩:=h;exact⟨t,XG _ _ h⟩
 | blt=>exact XN _ h
 | _=>exact h.elim
noncomputable def Tb.ag(T:Tb)(x:Str)(i:GI):Tb:={ T with gs:=(x,i)::T.gs }
noncomputable def Tb.am(T:Tb)(x:Str)(i:GI):Tb:={ T with ms:=(x,i)::T.ms }
def TOk.ag{m:Nat}(h:TOk P w K mg base n T)(l:n<=m)(q:wH P w K mg base T.C (·<=m) K x g):TOk P w K mg base m (T.ag x g):=
 ⟨fun p hp=>by
  rcases uTa hp with rfl | hp
  ·exact q
  ·exact(h.mono l).gs p hp,(h.mono l).ms,h.cl,h.fl⟩
def TOk.am{m:Nat}(h:TOk P w K mg base n T)(l:n<=m)(q:Wz P w K mg base T.C (·<=m) K x g):TOk P w K mg base m (T.am x g):=
 ⟨(h.mono l).gs,fun p hp=>by
  rcases uTa hp with rfl | hp
  ·exact q
  ·exact(h.mono l).ms p hp,h.cl,h.fl⟩
def De.E(d:De)(n:Nat):GI:=.fE (n+1) d.ps d.ks (Jh d.ks d.lo.length d.b)
def De.F(d:De)(n:Nat):GI:=.fF (n+1) d.ps d.ks (Gu d.ks d.lo.length d.b)
structure Ck (T:Tb) (d:De) (kF:Bool):Prop where
 c:GJ T d kF=some d.b
 k:(d.ks.length==d.ps.length)=true
 b:Bd d.x d.q d.st d.ps
variable (XG:∀x v,W.nsIn K mainGlobals x=some (some v)->mg x=some v)
include XG
theorem TOk.E(h:TOk P w K mg base n T)(a:At K d.x d.q d.st)(c:Ck T d false):TOk P w K mg base (n+2) (T.ag d.x (d.E n)):=by
 obtain⟨f,fd,a1,F⟩:=a;exact h.ag (vKa _ _) ⟨⟨f,fd,dg h F c.c (vLa c.k),F.binds c.b,F.kp,XG _ _ a1⟩,vMa _⟩
theorem TOk.F(h:TOk P w K mg base n T)(a:At K d.x d.q d.st)(c:Ck T d true):TOk P w K mg base (n+2) (T.ag d.x (d.F n)):=by
 obtain⟨f,fd,a1,F⟩:=a;exact h.ag (vKa _ _) ⟨⟨f,fd,fq h F c.c (vLa c.k),F.binds c.b,F.kp,XG _ _ a1⟩,vMa _⟩
theorem TOk.L{m:Nat}(h:TOk P w K mg base n T)(a:At K d.x d.q d.st)(c:Xc T d=some d.b)(hm:m+2=d.ps.length)(b:Bd d.x d.q d.st d.ps):TOk P w K mg base (n+2) (T.ag d.x (.fL (n+1) d.ps (wy m d.lo.length d.b))):=by
 obtain⟨f,fd,a1,F⟩:=a;exact h.ag (vKa _ _) ⟨⟨f,fd,Gw h F c hm,F.binds b,F.kp,XG _ _ a1⟩,vMa _⟩
omit XG in
theorem TOk.mE(h:TOk P w K mg base n T)(a:QJ K T.C d.x d.q d.st)(c:Ck T d false)(k:d.ks=[false]):TOk P w K mg base (n+2) (T.am d.x (d.E n)):=by
 obtain⟨f,fd,a1,a2,F⟩:=a;exact h.am (vKa _ _) ⟨⟨f,fd,k▸dg h F c.c (vLa c.k),F.binds c.b,⟨a1,a2,F.kp⟩⟩,vMa _⟩
omit XG in
theorem TOk.mF(h:TOk P w K mg base n T)(a:QJ K T.C d.x d.q d.st)(c:Ck T d true)(k:d.ks=[false]):TOk P w K mg base (n+2) (T.am d.x (d.F n)):=by
 obtain⟨f,fd,a1,a2,F⟩:=a;exact h.am (vKa _ _) ⟨⟨f,fd,k▸fq h F c.c (vLa c.k),F.binds c.b,⟨a1,a2,F.kp⟩⟩,vMa _⟩
theorem TOk.I{x:Str}{G:List D->Option OD}(h:TOk P w K mg base n T)(a:QJ K T.C d.x d.q d.st)(hx:d.x = "__init__")(c:GJ T d false=some d.b)(k:(d.ks.length+1==d.ps.length)=true)(b:Bd d.x d.q d.st d.ps)(mk:W.makesIn K T.C=true)(kc:W.keepIn K (.ref T.C)=true)
  (aC:W.nsIn K mainGlobals x=some (some (.ref T.C))) (hG:∀p ds o,G ds=some o->Qh T.C d.ks d.lo.length d.b p ds=some o):TOk P w K mg base (n+2) (T.ag x (.mk (n+1) d.ps d.ks (Qh T.C d.ks d.lo.length d.b) G)):=by
 obtain⟨f,fd,a1,a2,F⟩:=a;refine h.ag (vKa _ _) ⟨⟨f,fd,Hf h F c (vLa k),F.binds b,⟨mk,?_,a2,kc⟩,XG _ _ aC⟩,hG,wPa _⟩;rw[hx]at a1;exact a1
end
noncomputable def sN(s:Stmt):Str:=match s with
 | .FunctionDef n _ _ _ _ _ _ _ _ _=>n
 | .ClassDef n _ _ _ _ _ _ _ _ _ _=>n
 | _ => ""
def kg(st:Stmt):List Str:=(defArgs st).args.map (·.arg)
def FK(st:Stmt):List Str:=((defScope st).names.filter fun y=>wC (defScope st) y.1&&!(kg st).contains y.1).map (·.1)
def dn(st:Stmt):Bool:=(defArgs st).posonlyargs.isEmpty&&(defArgs st).kwonlyargs.isEmpty&&(defArgs st).vararg.isNone&&(defArgs st).kwarg.isNone&&uR (kg st)
theorem QK:∀(l:List Str) (us:List Value) (pre:List (Str×Value)),us.length=l.length->l.Nodup->(∀n∈l,pre.lookup n=none)->(l.filterMap fun n=>((pre++l.zip us).lookup n).map (n,·))=l.zip us/\(∀n∈l,((pre++l.zip us).lookup n).isNone=false)
 | [],us,pre,_,_,_=>by simp
 | n::l,[],pre,h,_,_=>by cases h
 | n::l,u::us,pre,h,nd,hp=>by
  obtain⟨n1,n2⟩:=List.nodup_cons.mp nd;have e:pre++(n::l).zip (u::us)=(pre++[(n,u)])++l.zip us:=by simp
  have q:((pre++[(n,u)])++l.zip us).lookup n=some u:=by
   rw[List.lookup_append,List.lookup_append,hp n List.mem_cons_self];simp
  obtain⟨i1,i2⟩:=QK l us (pre++[(n,u)]) (by simpa using h) n2 fun m hm=>by
   rw[List.lookup_append,hp m (List.mem_cons_of_mem _ hm)];have:m≠n:=fun z=>n1 (z▸hm);have b:(m==n)=false:=beq_eq_false_iff_ne.mpr this;simp[List.lookup_cons,b]
  rw[e];refine⟨by rw[List.filterMap_cons,q,i1];rfl,fun m hm=>?_⟩;rcases uTa hm with rfl | hm
  ·rw[q];rfl
  ·exact i2 m hm
def UP{x q:Str}{st:Stmt}(h:dn st=true):Bd x q st (kg st):=by
 intro kV doc pm an cdv ct us hl;unfold dn at h;unfold kg at *;obtain⟨h,h5⟩:=jd h;obtain⟨h,h4⟩:=jd h;obtain⟨h,h3⟩:=jd h;obtain⟨h1,h2⟩:=jd h;generalize hA:defArgs st=A at *;obtain⟨a1,a2,a3,a4,a5,a6,a7⟩:=A;dsimp only at h1 h2 h3 h4 h5 hl⊢;rw[List.isEmpty_iff]at h1 h2;cases a3 with
 | some _=>cases h3
 | none=>?_
 cases a6 with
 | some _=>cases h4
 | none=>?_
 subst h1 h2;obtain⟨z1,z2⟩:=QK (a2.map (·.arg)) us [] hl (UL h5) fun _ _=>rfl;rw[List.nil_append]at z1 z2;unfold bindArgs W.fnOf;have e0:seqItems? .none=pure none:=rfl;simp only[List.map_nil,List.nil_append,List.append_nil,List.forIn_nil,pure_bind,e0,Option.getD_none,Option.isNone_none,Bool.and_true];generalize a2.map (·.arg)=l at *;have e1:l.filter (fun n=>((l.zip us).lookup n).isNone)=[]:=by
  rw[List.filter_eq_nil_iff];intro n hn;rw[z2 n hn]
  decide
 simp[e1,z1,hl]
structure Df where
 st:Stmt
 q:Str
 f:Addr
 m:Bool
 kF:Bool
 ks:List Bool
 b:DS.DS
 hs:List ((Nat×Nat×Nat)×List Nat):=[]
 sh:List (Nat×Nat):=[]
 ow:List Nat:=[]
def Df.de(d:Df):De:=⟨sN d.st,d.q,d.st,kg d.st,FK d.st,d.ks,d.b,d.hs,d.sh,d.ow⟩
def Tb.add(T:Tb)(n:Nat)(d:Df):Tb:=cond d.m (T.am (sN d.st) (cond d.kF (d.de.F n) (d.de.E n))) (T.ag (sN d.st) (cond d.kF (d.de.F n) (d.de.E n)))
def Tb.adds:Tb->Nat->List Df->Tb
 | T,_,[]=>T
 | T,n,d::l=>(T.add n d).adds (n+2) l
def Tb.chks:Tb->Nat->List Df->List (Option DS.DS×Bool)
 | _,_,[]=>[]
 | T,n,d::l=>(GJ T d.de d.kF,dn d.st&&(d.ks.length==(kg d.st).length&&(!d.m||d.ks==[false])))::(T.add n d).chks (n+2) l
noncomputable def qH(l:List Df):List (Option DS.DS×Bool):=l.map fun d=>(some d.b,true)
noncomputable def Hg(o:Option Obj):Value:=match o with
 | some ⟨_,_,.func fd,_⟩=>fd.pyModule
 | _=>.none
noncomputable def uT(K:Fr)(C:Addr)(d:Df):Option (Option Value)×Option Obj×Bool:=(cond d.m (W.findIn K (.ref C) (sN d.st)) (W.nsIn K mainGlobals (sN d.st)),K.lookup d.f,W.codeIn K (.ref (d.f - 1)) d.q&&(W.keepIn K (.ref d.f)&&W.isFn K (.ref d.f)))
def uU(K:Fr)(d:Df):Option (Option Value)×Option Obj×Bool:=(some (some (.ref d.f)),some ⟨.type "function",none,.func (W.fnOf (sN d.st) d.q (defArgs d.st) (defBody d.st) (defScope d.st) .none .none .none (Hg (K.lookup d.f)) none (.ref (d.f - 1)) .none),#[]⟩,true)
section
variable {P:Program} {w:World} {K:Fr} {mg:Str->Option Value} {base:Heap} {C:Addr} {d:Df}
def Kr(h:uT K C d=uU K d)(m:d.m=false):At K (sN d.st) d.q d.st:=by
 have h1:=congrArg (·.1) h;have h2:=congrArg (·.2.1) h;have h3:=congrArg (·.2.2) h;dsimp only[uT,uU]at h1 h2 h3;rw[m]at h1;obtain⟨h3,h4⟩:=jd h3;exact Ei h1 (Q3 h2 h3 (jd h4).1)
def wL(h:uT K C d=uU K d)(m:d.m=true):QJ K C (sN d.st) d.q d.st:=by
 have h1:=congrArg (·.1) h;have h2:=congrArg (·.2.1) h;have h3:=congrArg (·.2.2) h;dsimp only[uT,uU]at h1 h2 h3;rw[m]at h1;obtain⟨h3,h4⟩:=jd h3;exact dm h1 (jd h4).2 (Q3 h2 h3 (jd h4).1)
theorem TOk.adds(XG:∀x v,W.nsIn K mainGlobals x=some (some v)->mg x=some v):∀(l:List Df) {n:Nat} {T:Tb},TOk P w K mg base n T->T.chks n l=qH l->l.map (uT K T.C)=l.map (uU K)->TOk P w K mg base (n+2 * l.length) (T.adds n l)
 | [],n,T,h,_,_=>h
 | d::l,n,T,h,c,a=>by
  obtain⟨c1,c2⟩:=List.cons.inj c;obtain⟨a1,a2⟩:=List.cons.inj a;have c3:=congrArg (·.1) c1;obtain⟨b1,b2⟩:=jd (congrArg (·.2) c1);obtain⟨b2,b3⟩:=jd b2;dsimp only at c3;have e:n+2 * (d::l).length=n+2+2 * l.length:=by rw[vXa];lia
  have h':TOk P w K mg base (n+2) (T.add n d):=by
   unfold Tb.add;cases hm:d.m
   ·cases hk:d.kF <;> rw[hk]at c3
    ·exact TOk.E XG h (Kr a1 hm) ⟨c3,b2,UP b1⟩
    ·exact TOk.F XG h (Kr a1 hm) ⟨c3,b2,UP b1⟩
   ·rw[hm]at b3;have b3:d.ks=[false]:=by simpa using b3
    cases hk:d.kF <;> rw[hk]at c3
    ·exact TOk.mE (d:=d.de) h (wL a1 hm) ⟨c3,b2,UP b1⟩ b3
    ·exact TOk.mF (d:=d.de) h (wL a1 hm) ⟨c3,b2,UP b1⟩ b3
  have eC:(T.add n d).C=T.C:=by unfold Tb.add;cases d.m <;> rfl
  rw[e];exact TOk.adds XG l h' c2 (by rw[eC];exact a2)
noncomputable def WA(o:Option (Option Value)):Option (Option Int):=match o with
 | some (some (.int i _))=>some (some i)
 | some none=>some none
 | _=>none
noncomputable def aQ(g:GI):Option (Option Int):=match g with
 | .con i=>some (some i)
 | .blt=>some none
 | _=>none
theorem wM{α β:Type}{f g:α->β}:∀{l:List α},l.map f=l.map g->∀x∈l,f x=g x
 | [],_,_,h=>by cases h
 | a::l,e,x,h=>by
  obtain⟨e1,e2⟩:=List.cons.inj e;rcases uTa h with rfl | h
  ·exact e1
  ·exact wM e2 x h
def Ek{gs:List (Str×GI)}(h:gs.map (fun p=>(WA (W.nsIn K mainGlobals p.1),(aQ p.2).isSome))=gs.map fun p=>(aQ p.2,true)):∀p∈gs,G0 K p.1 p.2:=fun p hp=>by
 have e:=wM h p hp;have e1:=congrArg (·.1) e;have e2:=congrArg (·.2) e;dsimp only at e1 e2;obtain⟨x,g⟩:=p;dsimp only at e1 e2⊢;cases g with
 | con i=>
  have e1:WA (W.nsIn K mainGlobals x)=some (some i):=e1;unfold WA at e1;split at e1
  ·cases e1;exact⟨_,by assumption⟩
  ·cases e1
  ·cases e1
 | blt=>
  have e1:WA (W.nsIn K mainGlobals x)=some none:=e1;unfold WA at e1;split at e1
  ·cases e1
  ·assumption
  ·cases e1
 | _=>cases e2
end
end CP
namespace DS
open PySem L2
def JY{g:DG}{s:DS}{items:List D}(I:Nat->je->Prop)(h:∀i d Z,items[i]?=some d->I i Z->∃Z1 Z2,g d Z=some Z1/\s Z1=some (.nx Z2)/\I (i+1) Z2):∀{Z:je},I 0 Z->∃Z',J5 g s items Z=some (.nx Z')/\I items.length Z':=by
 induction items generalizing I with
 | nil=>intro Z h0;exact⟨Z,rfl,h0⟩
 | cons d ds ih=>
  intro Z h0;obtain⟨Z1,Z2,e1,e2,i2⟩:=h 0 d Z rfl h0;obtain⟨Z',e3,i3⟩:=ih (fun i=>I (i+1)) (fun i d' Z hd hi=>h (i+1) d' Z (by simpa using hd) hi) i2;exact⟨Z',by rw[J5,e1];show(s Z1).bind _=_;rw[e2];exact e3,i3⟩
theorem v8{g:DG}{s:DS}{items:List D}(I:je->Prop)(p:D->Bool)(r:Rs)(hr:(∃d,r=.rt d) \/∃o,r=.rf o)(h:∀d∈items,∀Z,I Z->∃Z1,g d Z=some Z1/\((p d=true/\s Z1=some r) \/ (p d=false/\∃Z2,s Z1=some (.nx Z2)/\I Z2))):∀{Z:je},I Z->
  (items.any p=true/\J5 g s items Z=some r) \/ (items.any p=false/\∃Z',I Z'/\J5 g s items Z=some (.nx Z')):=by
 induction items with
 | nil=>intro Z h0;exact .inr ⟨rfl,Z,h0,rfl⟩
 | cons d ds ih=>
  intro Z h0;obtain⟨Z1,e1,z⟩:=h d wNa Z h0;rcases z with⟨hp,e2⟩ | ⟨hp,Z2,e2,i2⟩
  ·refine .inl ⟨by rw[List.any_cons,hp];rfl,?_⟩;rw[J5,e1];show(s Z1).bind _=_;rw[e2];rcases hr with⟨d,rfl⟩ | ⟨o,rfl⟩ <;> rfl
  ·rcases ih (fun d' hd=>h d' (wMa _ hd)) i2 with⟨a1,a2⟩ | ⟨a1,Z',a2,a3⟩
   ·refine .inl ⟨by rw[List.any_cons,a1,Bool.or_true],?_⟩;rw[J5,e1];show(s Z1).bind _=_;rw[e2];exact a2
   ·refine .inr ⟨by rw[List.any_cons,hp,a1];rfl,Z',a2,?_⟩;rw[J5,e1];show(s Z1).bind _=_;rw[e2];exact a3
def wN{g:DG}{s:DS}{items:List D}{r:Rs}(I:Nat->je->Prop)(ZQ:Nat->Rs->Prop)(h:∀i d Z,items[i]?=some d->I i Z->∃Z1,g d Z=some Z1/\((∃Z2,s Z1=some (.nx Z2)/\I (i+1) Z2) \/∃d',s Z1=some (.rt d')/\ZQ i (.rt d'))):∀{Z:je},I 0 Z->(∃Z',J5 g s items Z=some (.nx Z')/\I items.length Z') \/∃i d',i < items.length/\J5 g s items Z=some (.rt d')/\ZQ i (.rt d'):=by
 induction items generalizing I ZQ with
 | nil=>intro Z h0;exact .inl ⟨Z,rfl,h0⟩
 | cons d ds ih=>
  intro Z h0;obtain⟨Z1,e1,z⟩:=h 0 d Z rfl h0;rcases z with⟨Z2,e2,i2⟩ | ⟨d',e2,z⟩
  ·rcases ih (fun i=>I (i+1)) (fun i=>ZQ (i+1)) (fun i d' Z hd hi=>h (i+1) d' Z (by simpa using hd) hi) i2 with⟨Z',e3,i3⟩ | ⟨i,d',hi,e3,z⟩
   ·exact .inl ⟨Z',by rw[J5,e1];show(s Z1).bind _=_;rw[e2];exact e3,i3⟩
   ·exact .inr ⟨i+1,d',by simpa using hi,by rw[J5,e1];show(s Z1).bind _=_;rw[e2];exact e3,z⟩
  ·exact .inr ⟨0,d',by simp,by simp[J5,e1,e2],z⟩
theorem J1{α:Type}{g:DG}{dc:DT}{de:DE}{Z:je}(em:α->D)(f:α->D):∀{xs:List α},(∀x∈xs,∃Z1,g (em x) Z=some Z1/\dc Z1=some true/\de Z1=some (f x))->Js g dc de (xs.map em) Z=some (xs.map f)
 | [],_=>rfl
 | x::xs,h=>by
  obtain⟨Z1,e1,e2,e3⟩:=h x wNa;have ih:=J1 em f (xs:=xs) fun y hy=>h y (wMa _ hy);simp[Js,e1,e2,e3,ih]
theorem wO{dt:DT}{s:DS}(I:je->Prop)(m:je->Nat)(h:∀Z,I Z->dt Z=some false \/ (dt Z=some true/\∃Z2,s Z=some (.nx Z2)/\I Z2/\m Z2 < m Z)):∀{n:Nat} {Z:je},I Z->m Z < n->∃Z',uJ dt s n Z=some (.nx Z')/\I Z'/\dt Z'=some false
 | 0,Z,_,hn=>vDa hn (Nat.not_lt_zero _)
 | n+1,Z,hi,hn=>by
  rcases h Z hi with e | ⟨e,Z2,e2,i2,hm⟩
  ·exact⟨Z,by simp[uJ,e],hi,e⟩
  ·obtain⟨Z',e3,i3,f3⟩:=wO I m h (n:=n) i2 (by omega);exact⟨Z',by simp[uJ,e,e2,e3],i3,f3⟩
noncomputable def t3(t:T3):D:=.tup [.int t.1,.int t.2.1,.int t.2.2]
structure Bk where
 size:Int
 kinds:List T3
 shuns:List T3
 bars:List T3
 dues:List T3
noncomputable def jo(b:Bk):D:=.tup [.int b.size,.lst (b.kinds.map t3),.lst (b.shuns.map t3),.lst (b.bars.map t3),.lst (b.dues.map t3)]
noncomputable def jU(C:Addr)(b:Bk):D:=.ins C ["size", "kind_rows", "shun_rows", "bar_rows", "due_rows"] [.int b.size,.tup (b.kinds.map t3),.tup (b.shuns.map t3),.tup (b.bars.map t3),.tup (b.dues.map t3)]
structure Sd where
 place:Int
 kind:Int
 len:Int
 before:Int
 waits:List Int
 met:List Bool
noncomputable def j7(s:Sd):D:=.tup [.int s.place,.int s.kind,.int s.len,.int s.before,.tup (s.waits.map .int),.tup (s.met.map .bl)]
noncomputable def gi(ks:List T3)(k:Int):T3:=ks.getD k.toNat (0,0,0)
def yD{α:Type}{xs:List α}{k:Int}{x:α}(h0:0<=k)(h:xs[k.toNat]?=some x):atI xs k=some x:=by
 have hk:=(uSa h).1;unfold atI Yp;rw[if_pos h0,if_pos (by omega)];exact h
def J9{α β:Type}{f:α->β}{xs:List α}{k:Int}{d:α}(h0:0<=k)(h1:k < (xs.length:Int)):atI (xs.map f) k=some (f (xs.getD k.toNat d)):=by
 have hk:k.toNat < xs.length:=by omega
 refine yD h0 ?_;rw[uAa,uBa,uCa hk];rfl
def zD{ks:List T3}{k:Int}(h0:0<=k)(h1:k < (ks.length:Int)):atI (ks.map t3) k=some (t3 (gi ks k)):=J9 h0 h1
def uV{n:Nat}{k:Int}(h0:0<=k)(h1:k < (n:Int)):Yp n k=some k.toNat:=by unfold Yp;rw[if_pos h0,if_pos h1]
def jp{n:Nat}(h:n<=10000):n < sizeLine:=wRa h (by decide)
noncomputable def fK(t:T3):Bool:=decide (1<=t.1)&&(decide (t.1<=t.2.1)&&(decide (t.2.1<=4)&&(decide (0<=t.2.2)&&decide (t.2.2<=4))))
noncomputable def fS(m:Int)(t:T3):Bool:=decide (0<=t.1)&&(decide (t.1 < m)&&(decide (0<=t.2.1)&&(decide (t.2.1 < m)&&(decide (1<=t.2.2)&&decide (t.2.2<=2)))))
noncomputable def fB(m s:Int)(t:T3):Bool:=decide (0<=t.1)&&(decide (t.1 < m)&&(decide (1<=t.2.1)&&(decide (t.2.1<=t.2.2)&&decide (t.2.2<=s))))
noncomputable def fC(s k h b d:Int):Bool:=decide (1<=s)&&(decide (s<=30)&&(decide (1<=k)&&(decide (k<=4)&&(decide (h<=20)&&(decide (b<=12)&&decide (d<=3))))))
def fR(s:Int)(k h b d:List T3):Bool:=k.all fK&&(h.all (fS k.length)&&(b++d).all (fB k.length s))
def wP(b:Bk):Bool:=fC b.size b.kinds.length b.shuns.length b.bars.length b.dues.length&&fR b.size b.kinds b.shuns b.bars b.dues
noncomputable def uW(C:Addr)(b:Bk):OD:=.ins C ["size", "kind_rows", "shun_rows", "bar_rows", "due_rows"] [.int b.size,.tup (b.kinds.map t3),.tup (b.shuns.map t3),.tup (b.bars.map t3),.tup (b.dues.map t3)]
noncomputable def aR:D->Option T3
 | .tup [.int x,.int y,.int z]=>some (x,y,z)
 | _=>none
def kh:List D->Option (List T3)
 | []=>some []
 | d::l=>(aR d).bind fun t=>(kh l).bind fun ts=>some (t::ts)
def dr(t:T3):aR (t3 t)=some t:=rfl
theorem wQ:∀ts:List T3,kh (ts.map t3)=some ts
 | []=>rfl
 | t::ts=>by rw[vWa,kh,dr,wQ ts];rfl
def dw{d:D}{t:T3}(h:aR d=some t):d=t3 t:=by
 cases d with
 | tup l=>
  rcases l with _ | ⟨a,_ | ⟨b,_ | ⟨c,_ | ⟨e,r⟩⟩⟩⟩ <;> try cases h
  all_goals (cases a <;> try cases h)
  all_goals (cases b <;> try cases h)
  all_goals (cases c <;> try cases h)
  rfl
 | _=>cases h
theorem WB:∀{l:List D} {ts:List T3},kh l=some ts->l=ts.map t3
 | [],_,h=>by cases h;rfl
 | d::l,ts,h=>by
  rw[kh]at h;obtain⟨t,e1,h⟩:=j3 h;obtain⟨r,e2,h⟩:=j3 h;cases h;rw[vWa,<-dw e1,<-WB e2]
noncomputable def gI:D->Option Int
 | .int s=>some s
 | _=>none
def gL:D->Option (List T3)
 | .lst l=>kh l
 | _=>none
def El{d:D}{s:Int}(h:gI d=some s):d=.int s:=by
 cases d <;> cases h;rfl
def Ks{d:D}{ts:List T3}(h:gL d=some ts):d=.lst (ts.map t3):=by
 cases d with
 | lst l=>rw[WB h]
 | _=>cases h
def ki(C:Addr):List D->Option OD
 | [s,k,h,b,d]=>(gI s).bind fun s=>(gL k).bind fun k'=>(gL h).bind fun h'=>(gL b).bind fun b'=>(gL d).bind fun d'=>if wP ⟨s,k',h',b',d'⟩=true then some (uW C ⟨s,k',h',b',d'⟩)else none
 | _=>none
def dz{C:Addr}{ds:List D}{o:OD}(h:ki C ds=some o):∃b:Bk,wP b=true/\ds=[.int b.size,.lst (b.kinds.map t3),.lst (b.shuns.map t3),.lst (b.bars.map t3),.lst (b.dues.map t3)]/\uW C b=o:=by
 rcases ds with _ | ⟨s,_ | ⟨k,_ | ⟨hh,_ | ⟨b,_ | ⟨d,_ | ⟨e,r⟩⟩⟩⟩⟩⟩ <;> try cases h
 have h:((gI s).bind fun s=>(gL k).bind fun k'=>(gL hh).bind fun h'=>(gL b).bind fun b'=>(gL d).bind fun d'=>if wP ⟨s,k',h',b',d'⟩=true then some (uW C ⟨s,k',h',b',d'⟩)else none)=some o:=h;obtain⟨s0,e0,h⟩:=j3 h;obtain⟨k',e1,h⟩:=j3 h;obtain⟨h',e2,h⟩:=j3 h;obtain⟨b',e3,h⟩:=j3 h;obtain⟨d',e4,h⟩:=j3 h;by_cases ok:wP ⟨s0,k',h',b',d'⟩=true
 ·rw[if_pos ok]at h;rw[El e0,Ks e1,Ks e2,Ks e3,Ks e4];exact⟨_,ok,rfl,vFa h⟩
 ·rw[if_neg ok]at h;cases h
@[simp] theorem Hh(s:Sd):j8 (j7 s) (.int 0)=some (.int s.place):=rfl
@[simp] theorem Hi(s:Sd):j8 (j7 s) (.int 1)=some (.int s.kind):=rfl
@[simp] theorem Hj(s:Sd):j8 (j7 s) (.int 2)=some (.int s.len):=rfl
@[simp] theorem Hk(s:Sd):j8 (j7 s) (.int 3)=some (.int s.before):=rfl
@[simp] theorem Hl(s:Sd):j8 (j7 s) (.int 4)=some (.tup (s.waits.map .int)):=rfl
@[simp] theorem Hm(s:Sd):j8 (j7 s) (.int 5)=some (.tup (s.met.map .bl)):=rfl
@[simp] theorem Hr(t:T3):j8 (t3 t) (.int 0)=some (.int t.1):=rfl
@[simp] theorem Hs(t:T3):j8 (t3 t) (.int 1)=some (.int t.2.1):=rfl
@[simp] theorem Ht(t:T3):j8 (t3 t) (.int 2)=some (.int t.2.2):=rfl
@[simp] theorem Hu(b:Bk):j8 (jo b) (.int 0)=some (.int b.size):=rfl
@[simp] theorem Hv(b:Bk):j8 (jo b) (.int 1)=some (.lst (b.kinds.map t3)):=rfl
@[simp] theorem Hw(b:Bk):j8 (jo b) (.int 2)=some (.lst (b.shuns.map t3)):=rfl
@[simp] theorem Hx(b:Bk):j8 (jo b) (.int 3)=some (.lst (b.bars.map t3)):=rfl
@[simp] theorem Hy(b:Bk):j8 (jo b) (.int 4)=some (.lst (b.dues.map t3)):=rfl
@[simp] theorem Hz(t:T3):vI (t3 t)=false:=rfl
@[simp] theorem Hn(s:Sd):vI (j7 s)=false:=rfl
end DS
namespace M
open DS
@[simp] noncomputable abbrev fV(n:Nat):Bool×DE:=(false,dV n)
@[simp] noncomputable abbrev tC(n:Nat):Bool×DE:=(true,dC n)
@[simp] noncomputable abbrev dN(i:Int):DE:=dK (.int i)
@[simp high] theorem HJ(a:Sl)(l:je):(a::l)[0]?=some a:=rfl
@[simp high] theorem HK(a x:Sl)(l:je):List.set (a::l) 0 x=x::l:=rfl
@[elab_as_elim] theorem HA{α:Type}{motive:List α->Prop}(us:List α)(hl:us.length=0)(h:motive []):motive us:=by
 cases us with
 | nil=>exact h 
 | cons y us=>simp at hl
@[elab_as_elim] theorem HB{α:Type}{motive:List α->Prop}(us:List α)(hl:us.length=1)(h:∀x0,motive [x0]):motive us:=by
 cases us with
 | nil=>simp at hl
 | cons x0 us=>
  cases us with
  | nil=>exact h x0
  | cons y us=>simp at hl
@[elab_as_elim] theorem HC{α:Type}{motive:List α->Prop}(us:List α)(hl:us.length=2)(h:∀x0 x1,motive [x0,x1]):motive us:=by
 cases us with
 | nil=>simp at hl
 | cons x0 us=>
  cases us with
  | nil=>simp at hl
  | cons x1 us=>
   cases us with
   | nil=>exact h x0 x1
   | cons y us=>simp at hl
@[elab_as_elim] theorem HD{α:Type}{motive:List α->Prop}(us:List α)(hl:us.length=3)(h:∀x0 x1 x2,motive [x0,x1,x2]):motive us:=by
 cases us with
 | nil=>simp at hl
 | cons x0 us=>
  cases us with
  | nil=>simp at hl
  | cons x1 us=>
   cases us with
   | nil=>simp at hl
   | cons x2 us=>
    cases us with
    | nil=>exact h x0 x1 x2
    | cons y us=>simp at hl
@[elab_as_elim] theorem HE{α:Type}{motive:List α->Prop}(us:List α)(hl:us.length=4)(h:∀x0 x1 x2 x3,motive [x0,x1,x2,x3]):motive us:=by
 cases us with
 | nil=>simp at hl
 | cons x0 us=>
  cases us with
  | nil=>simp at hl
  | cons x1 us=>
   cases us with
   | nil=>simp at hl
   | cons x2 us=>
    cases us with
    | nil=>simp at hl
    | cons x3 us=>
     cases us with
     | nil=>exact h x0 x1 x2 x3
     | cons y us=>simp at hl
@[elab_as_elim] theorem HF{α:Type}{motive:List α->Prop}(us:List α)(hl:us.length=5)(h:∀x0 x1 x2 x3 x4,motive [x0,x1,x2,x3,x4]):motive us:=by
 cases us with
 | nil=>simp at hl
 | cons x0 us=>
  cases us with
  | nil=>simp at hl
  | cons x1 us=>
   cases us with
   | nil=>simp at hl
   | cons x2 us=>
    cases us with
    | nil=>simp at hl
    | cons x3 us=>
     cases us with
     | nil=>simp at hl
     | cons x4 us=>
      cases us with
      | nil=>exact h x0 x1 x2 x3 x4
      | cons y us=>simp at hl
@[elab_as_elim] theorem HG{α:Type}{motive:List α->Prop}(us:List α)(hl:us.length=6)(h:∀x0 x1 x2 x3 x4 x5,motive [x0,x1,x2,x3,x4,x5]):motive us:=by
 cases us with
 | nil=>simp at hl
 | cons x0 us=>
  cases us with
  | nil=>simp at hl
  | cons x1 us=>
   cases us with
   | nil=>simp at hl
   | cons x2 us=>
    cases us with
    | nil=>simp at hl
    | cons x3 us=>
     cases us with
     | nil=>simp at hl
     | cons x4 us=>
      cases us with
      | nil=>simp at hl
      | cons x5 us=>
       cases us with
       | nil=>exact h x0 x1 x2 x3 x4 x5
       | cons y us=>simp at hl
@[elab_as_elim] theorem HH{α:Type}{motive:List α->Prop}(us:List α)(hl:us.length=7)(h:∀x0 x1 x2 x3 x4 x5 x6,motive [x0,x1,x2,x3,x4,x5,x6]):motive us:=by
 cases us with
 | nil=>simp at hl
 | cons x0 us=>
  cases us with
  | nil=>simp at hl
  | cons x1 us=>
   cases us with
   | nil=>simp at hl
   | cons x2 us=>
    cases us with
    | nil=>simp at hl
    | cons x3 us=>
     cases us with
     | nil=>simp at hl
     | cons x4 us=>
      cases us with
      | nil=>simp at hl
      | cons x5 us=>
       cases us with
       | nil=>simp at hl
       | cons x6 us=>
        cases us with
        | nil=>exact h x0 x1 x2 x3 x4 x5 x6
        | cons y us=>simp at hl
def sq{s1 s2:DS.DS}{Z Z1:je}{r:Option Rs}(h:s1 Z=some (.nx Z1))(k:s2 Z1=r):j4 s1 s2 Z=r:=by rw[j4,h];exact k
def Yl{s1 s2:DS.DS}{Z:je}{d:D}(h:s1 Z=some (.rt d)):j4 s1 s2 Z=some (.rt d):=by rw[j4,h];rfl
def zZ{t:DT}{s1 s2:DS.DS}{Z:je}{r:Option Rs}(h:t Z=some true)(k:s1 Z=r):jg t s1 s2 Z=r:=by rw[jg,h];exact k
def YQ{t:DT}{s1 s2:DS.DS}{Z:je}{r:Option Rs}(h:t Z=some false)(k:s2 Z=r):jg t s1 s2 Z=r:=by rw[jg,h];exact k
def fE{b:DS.DS}{ks:List Bool}{ds:List D}{n:Nat}{d:D}(h:b (ZW ks ds n)=some (.rt d)):Jh ks n b ds=some d:=by rw[Jh,h];rfl
end M
noncomputable section
namespace M
open PySem L2 DS
def YD:=(gN 6)
def JZ(C:Addr):=(jg (jl (d2 JW (dV 5) (dN 0))) (j4 (yi 2 (d2 jF (dV 5) (dN 1009)))
 (jk 5 (d2 GW (dV 5) (dN 1009)))) ju)
def yK:=(gN 4)
def yL(C:Addr):=(j4 (jk 3 (d2 jF (d2 jv (d2 jv (d2 yJ (dV 3) (dN 48271)) (d2 jF (dV 4) (dN 1000003))) (dN 11)) (dN 2147483647)))
 (j4 (jk 5 (d2 YB (dV 4) (d2 GX (dN 10) (dN 18))))
 (j4 (jg (jl (d2 Zy (dV 5) (dN 0))) (yi 2 (d2 jF (dV 4) (dN 9973))) ju)
 (jW (yt (dN 60)) YD (JZ C)))))
def J_(C:Addr):=(jl (d2 Zy (jb Jy [(fV 2)]) (dV 1)))
def YE(C:Addr):=(j4 (jk 3 (d2 jF (d2 jv (d2 jv (d2 jv (d2 yJ (dV 3) (dV 3)) (d2 yJ (dN 69621) (dV 3))) (d2 yJ (dN 7) (jb Jy [(fV 2)]))) (dN 5)) (dN 2147483629)))
 (yi 2 (d2 jF (d2 GW (dV 3) (dN 1013)) (dN 9973))))
def zE(C:Addr):=(j4 (yW 2 (J8 []))
 (j4 (jk 3 (dN 29))
 (j4 (jW (jQ (dL (JT (dV 0) (fun _=>some none) (fun Z=>((dN 63) Z).bind JC)))) yK (yL C))
 (j4 (uJ (J_ C) (YE C) 20000)
 (Uy (JT (dV 2) (fun _=>some none) (fun Z=>((dV 1) Z).bind JC)))))))
def zF(C:Addr):=Gu [false,false] 5 (zE C)
def vc:=(gN 5)
def YF(C:Addr):=(j4 (jk 6 (d2 jv (dN 1) (d2 jF (d2 j8 (dV 3) (d2 jv (d2 yJ (dN 3) (dV 5)) (dN 1))) (dV 1))))
 (yi 4 (JS [(true,(d2 jF (d2 j8 (dV 3) (d2 yJ (dN 3) (dV 5))) (dV 0))),(tC 6),(true,(d2 jv (dV 6) (d2 jF (d2 j8 (dV 3) (d2 jv (d2 yJ (dN 3) (dV 5)) (dN 2))) (d2 jv (d2 YB (dV 1) (dV 6)) (dN 1)))))])))
def zG(C:Addr):=(j4 (yW 4 (J8 []))
 (j4 (jW (yt (dV 2)) vc (YF C))
 (VN 4)))
def Yg(C:Addr):=Gu [false,false,false,false] 3 (zG C)
def u8:=(gN 5)
def Zj(C:Addr):=(j4 (jk 6 (d2 jv (dN 1) (d2 j8 (dL (J8 [(true,(dN 0)),(true,(dN 0)),(true,(dN 1)),(true,(dN 0)),(true,(dN 2)),(true,(dN 3)),(true,(dN 1))])) (d2 jF (d2 j8 (dV 0) (d2 jv (dN 2) (dV 5))) (dN 7)))))
 (j4 (jk 7 (d2 j8 (dL (J8 [(true,(dN 0)),(true,(dN 1)),(true,(dN 2)),(true,(dN 0)),(true,(dN 3)),(true,(dN 4)),(true,(dN 1))])) (d2 jF (d2 j8 (dV 0) (d2 jv (dN 10) (dV 5))) (dN 7))))
 (j4 (jg (Y8 (Jb (jl (d2 jH (dV 2) (dN 4))) (jl (d2 JW (dV 3) (dN 6)))) (jl (d2 JW (dV 3) (dN 12)))) (jk 7 (d2 jF (dV 7) (dN 3))) ju)
 (yi 4 (JS [(tC 6),(true,(d2 jv (dV 6) (d2 jF (d2 j8 (dV 0) (d2 jv (dN 6) (dV 5))) (d2 YB (dN 5) (dV 6))))),(tC 7)])))))
def u9:=(gN 5)
def Zl(C:Addr):=(j4 (jk 9 (d2 jv (d2 jv (dN 44) (d2 yJ (dN 3) (d2 jF (dV 5) (dN 5)))) (d2 GW (dV 5) (dN 5))))
 (yi 8 (JS [(true,(d2 jF (d2 j8 (dV 0) (dV 9)) (dV 2))),(true,(d2 jF (d2 j8 (dV 0) (d2 jv (dV 9) (dN 1))) (dV 2))),(true,(d2 jv (dN 1) (d2 jF (d2 j8 (dV 0) (d2 jv (dV 9) (dN 2))) (dN 2))))])))
def v_(C:Addr):=(j4 (jk 2 (d2 j8 (dL (J8 [(true,(dN 2)),(true,(dN 3)),(true,(dN 3)),(true,(dN 2)),(true,(dN 1)),(true,(dN 4)),(true,(dN 3))])) (d2 jF (d2 j8 (dV 0) (dN 0)) (dN 7))))
 (j4 (jk 3 (d2 jv (dN 1) (d2 jF (d2 j8 (dV 0) (dN 1)) (dV 1))))
 (j4 (yW 4 (J8 []))
 (j4 (jW (yt (dV 2)) u8 (Zj C))
 (j4 (yW 8 (J8 []))
 (j4 (jW (yt (d2 j8 (dL (J8 [(true,(dN 0)),(true,(dN 0)),(true,(dN 1)),(true,(dN 2)),(true,(dN 3)),(true,(dN 0)),(true,(dN 20))])) (d2 jF (d2 j8 (dV 0) (dN 14)) (dN 7)))) u9 (Zl C))
 (j4 (jk 10 (dL (JU 1 [0] (yt (dN 36)) (gN 0) jA (d2 jv (d2 j8 (dV 1) (d2 jv (dN 16) (d2 jF (d2 yJ (dN 5) (dV 0)) (dN 9)))) (d2 yJ (dN 7) (dV 0))))))
 (j4 (jk 11 (dL (Jr (Yg C) [(fV 2),(fV 3),(false,(d2 j8 (dL (J8 [(true,(dN 0)),(true,(dN 1)),(true,(dN 0)),(true,(dN 2)),(true,(dN 12)),(true,(dN 0))])) (d2 jF (d2 j8 (dV 0) (dN 15)) (dN 6)))),(fV 10)])))
 (j4 (jk 12 (d2 j8 (dL (J8 [(true,(dN 0)),(true,(dN 1)),(true,(dN 0)),(true,(dN 2)),(true,(dN 3)),(true,(dN 1))])) (d2 jF (d2 j8 (dV 0) (dN 25)) (dN 6))))
 (j4 (jg (Jb (jl (d2 JW (dV 3) (dN 5))) (jl (d2 JW (dV 2) (dN 2)))) (jk 12 (d2 jF (dV 12) (dN 3))) ju)
 (uI 4 (uI 8 (jh (JS [(tC 3),(tC 4),(tC 8),(tC 11),(true,(dL (Jr (Yg C) [(fV 2),(fV 3),(fV 12),(false,(dL (JT (dV 0) (fun Z=>((dN 26) Z).bind JC) (fun Z=>((dN 35) Z).bind JC))))])))]))))))))))))))
def V0(C:Addr):=Jh [false,false] 11 (v_ C)
def Zm(C:Addr):=(j4 (jg (Y8 (JK (jl (Jl Jo Jo (dN 1) (dV 0) (dN 30)))) (JK (jl (Jl Jo Jo (dN 1) (jb Jy [(fV 1)]) (dN 4))))) (jh (dK (.bl false))) ju)
 (jh (JB (d2 Jo (jb Jy [(fV 2)]) (dN 20)) (JB (d2 Jo (jb Jy [(fV 3)]) (dN 12)) (d2 Jo (jb Jy [(fV 4)]) (dN 3))))))
def Zn(C:Addr):=Jh [false,false,false,false,false] 0 (Zm C)
def V1(C:Addr):=(j4 (jg (jl (d2 Jv (jb Jy [(fV 0)]) (dN 3))) (jh (dK (.bl false))) ju)
 (j4 (zy (dC 0) (gT 3 (gC (gN 1) (gC (gN 2) (gC (gN 3) gZ)))))
 (jh (JB (Uu Jo Jo Jo (dN 1) (dV 1) (dV 2) (dN 4)) (Jl Jo Jo (dN 0) (dV 3) (dN 4))))))
def zM(C:Addr):=Jh [true] 3 (V1 C)
def V2(C:Addr):=(j4 (jg (jl (d2 Jv (jb Jy [(fV 0)]) (dN 3))) (jh (dK (.bl false))) ju)
 (j4 (zy (dC 0) (gT 3 (gC (gN 2) (gC (gN 3) (gC (gN 4) gZ)))))
 (jh (JB (Jl Jo Zy (dN 0) (dV 2) (dV 1)) (JB (Jl Jo Zy (dN 0) (dV 3) (dV 1)) (Jl Jo Jo (dN 1) (dV 4) (dN 2)))))))
def zN(C:Addr):=Jh [true,false] 3 (V2 C)
def V3(C:Addr):=(j4 (jg (jl (d2 Jv (jb Jy [(fV 0)]) (dN 3))) (jh (dK (.bl false))) ju)
 (j4 (zy (dC 0) (gT 3 (gC (gN 3) (gC (gN 4) (gC (gN 5) gZ)))))
 (jh (JB (Jl Jo Zy (dN 0) (dV 3) (dV 1)) (Uu Jo Jo Jo (dN 1) (dV 4) (dV 5) (dV 2))))))
def zO(C:Addr):=Jh [true,false,false] 3 (V3 C)
def V4(C:Addr):=(j4 (jk 5 (jb Jy [(fV 1)]))
 (j4 (jg (JK (Jz (jb zx [(false,(dL (JU 1 [] (jQ (dP 1)) (gN 0) jA (jb (zM C) [(tC 0)]))))]))) (jh (dK (.bl false))) ju)
 (j4 (jg (JK (Jz (jb zx [(false,(dL (JU 1 [5] (jQ (dP 2)) (gN 0) jA (jb (zN C) [(tC 0),(fV 1)]))))]))) (jh (dK (.bl false))) ju)
 (jh (jb zx [(false,(dL (JU 1 [5,0] (jQ (dL (Qb uA (dV 3) (dV 4)))) (gN 0) jA (jb (zO C) [(tC 0),(fV 1),(fV 2)]))))])))))
def V5(C:Addr):=Jh [false,false,false,false,false] 1 (V4 C)
def yM(C:Addr):=(j4 (jg (JK (Jz (jb (Zn C) [(fV 1),(fV 2),(fV 3),(fV 4),(fV 5)]))) ZG ju)
 (j4 (jg (JK (Jz (jb (V5 C) [(fV 1),(fV 2),(fV 3),(fV 4),(fV 5)]))) ZG ju)
 (j4 (vO 0 C "size" (dC 1))
 (j4 (vO 0 C "kind_rows" (jb JX [(fV 2)]))
 (j4 (vO 0 C "shun_rows" (jb JX [(fV 3)]))
 (j4 (vO 0 C "bar_rows" (jb JX [(fV 4)]))
 (vO 0 C "due_rows" (jb JX [(fV 5)]))))))))
def yu(C:Addr):=Qh C [true,false,false,false,false] 0 (yM C)
def ya(C:Addr):=DS.ki C
def V6(C:Addr):=(Uy (qp (ya C) [(true,(d2 j8 (dV 0) (dN 0))),(false,(dL (Jr y_ [(false,(d2 j8 (dV 0) (dN 1)))]))),(false,(dL (Jr y_ [(false,(d2 j8 (dV 0) (dN 2)))]))),(false,(dL (Jr y_ [(false,(d2 j8 (dV 0) (dN 3)))]))),(false,(dL (Jr y_ [(false,(d2 j8 (dV 0) (dN 4)))])))]))
def V7(C:Addr):=Gu [false] 0 (V6 C)
def ua:=(gN 3)
def Yz(C:Addr):=(j4 (yi 2 (d2 jF (d2 j8 (dV 1) (dV 3)) (jb Jy [(false,(d2 j8 (dV 0) (dN 1)))])))
 (jg (Jb (jl (d2 jH (d2 jF (d2 j8 (dV 1) (dN 40)) (dN 2)) (dN 1))) (Jb (jl (d2 JW (dV 3) (dN 0))) (jl (d2 JW (d2 jF (d2 GW (d2 j8 (dV 1) (dV 3)) (dN 7)) (dN 3)) (dN 0))))) (Ux 2 (dV 3) (d2 j8 (dV 2) (d2 YB (dV 3) (dN 1)))) ju))
def V8(C:Addr):=(j4 (yW 2 (J8 []))
 (j4 (jW (yt (d2 j8 (dV 0) (dN 0))) ua (Yz C))
 (VN 2)))
def V9(C:Addr):=Gu [false,false] 2 (V8 C)
def YR(C:Addr):=(j4 (jg (jl (d2 jH (d2 jF (d2 j8 (dV 1) (dN 40)) (dN 3)) (dN 0))) (Uy (JU 1 [] (yt (d2 j8 (dV 0) (dN 0))) (gN 0) jA (dN 1))) ju)
 (Uy (JU 1 [1] (yt (d2 j8 (dV 0) (dN 0))) (gN 0) jA (d2 jv (dN 1) (d2 jF (d2 j8 (dV 1) (dV 0)) (dN 9))))))
def YS(C:Addr):=Gu [false,false] 0 (YR C)
def YT:=(gT 3 (gC (gN 7) (gC (gN 8) (gC (gN 9) gZ))))
def YU(C:Addr):=(jg (Jb (jl (d2 jH (dV 8) (dV 2))) (jl (d2 jH (d2 j8 (dL (J8 [(tC 3),(tC 5)])) (d2 YB (dV 9) (dN 1))) (dV 7)))) (jh (dK (.bl true))) ju)
def z_(C:Addr):=(j4 (zy (Uv (dV 1) (fun Z=>((dN 1) Z).bind JC) (fun Z=>((dN 5) Z).bind JC)) (gT 4 (gC (gN 3) (gC (gN 4) (gC (gN 5) (gC (gN 6) gZ))))))
 (j4 (jg (Jb (jl (d2 jH (dV 2) (dV 3))) (jl (d2 Vm (dV 4) (d2 j8 (d2 j8 (d2 j8 (dV 0) (dN 1)) (dV 2)) (dN 1))))) (jh (dK (.bl true))) ju)
 (j4 (jg (Jb (jl (d2 Jv (dV 2) (dV 3))) (Y8 (Jb (jl (d2 Jv (dV 3) (yB (dN 1)))) (jl (d2 Zy (dV 4) (d2 j8 (d2 j8 (d2 j8 (dV 0) (dN 1)) (dV 3)) (dN 0))))) (jl (d2 JW (d2 j8 (dV 6) (dV 2)) (dN 0))))) (jh (dK (.bl true))) ju)
 (j4 (jW (jQ (d2 j8 (dV 0) (dN 2))) YT (YU C))
 (jh (dK (.bl false)))))))
def Z0(C:Addr):=Jh [false,false,false] 7 (z_ C)
def uX:=(gT 2 (gC (gN 5) (gC (gT 3 (gC (gN 6) (gC (gN 7) (gC (gN 8) gZ)))) gZ)))
def YV(C:Addr):=(j4 (yi 4 (uC (d2 j8 (dV 2) (dV 5)) (JB (d2 jH (dV 6) (dV 3)) (Jl Jo Jo (dV 7) (dV 1) (dV 8)))))
 (jg (Jb (jl (d2 jH (dV 8) (dV 1))) (JK (Jz (d2 j8 (dV 4) (dV 5))))) (jh (dK .non)) ju))
def VR(C:Addr):=(j4 (yW 4 (J8 []))
 (j4 (jW (vK (d2 j8 (dV 0) (dN 4))) uX (YV C))
 (VN 4)))
def VS(C:Addr):=Jh [false,false,false,false] 5 (VR C)
def ub:=(gT 3 (gC (gN 11) (gC (gN 12) (gC (gN 13) gZ))))
def Zo(C:Addr):=(jg (Jb (jl (d2 jH (dV 11) (dV 2))) (jl (Jl Jo Jo (dV 12) (dV 9) (dV 13)))) (jh (dK .non)) ju)
def uc:=(gT 2 (gC (gN 16) (gC (gT 3 (gC (gN 17) (gC (gN 18) (gC (gN 19) gZ)))) gZ)))
def ud(C:Addr):=(j4 (jk 20 (d2 j8 (dV 7) (dV 16)))
 (j4 (jg (jl (d2 jH (dV 16) (dV 4))) (jk 20 (dC 19)) ju)
 (yi 15 (gA (jl (d2 jH (dV 16) (dV 2))) (dN 0) (jb uE [(false,(dN 0)),(false,(d2 YB (dV 20) (dN 1)))])))))
def gj(C:Addr):=(j4 (zy (dC 1) (gT 6 (gC (gN 3) (gC (gN 4) (gC (gN 5) (gC (gN 6) (gC (gN 7) (gC (gN 8) gZ))))))))
 (j4 (jk 9 (d2 jv (dV 3) (dN 1)))
 (j4 (jk 10 (gA (jl (d2 jH (dV 2) (dV 4))) (d2 jv (dV 5) (dN 1)) (dN 1)))
 (j4 (jg (jl (d2 JW (dV 9) (d2 j8 (dV 0) (dN 0)))) (jh (dK .non)) ju)
 (j4 (jW (jQ (d2 j8 (dV 0) (dN 3))) ub (Zo C))
 (j4 (jg (Jz (jb (Z0 C) [(fV 0),(fV 1),(fV 2)])) (jh (dK .non)) ju)
 (j4 (jk 14 (jb (VS C) [(fV 0),(fV 9),(fV 8),(fV 2)]))
 (j4 (jg (jl (d2 KP (dV 14) (dK .non))) (jh (dK .non)) ju)
 (j4 (jg (Jb (jl (d2 jH (dV 9) (d2 j8 (dV 0) (dN 0)))) (jl (d2 Zy (dV 10) (d2 j8 (d2 j8 (d2 j8 (dV 0) (dN 1)) (dV 2)) (dN 0))))) (jh (dK .non)) ju)
 (j4 (yW 15 (J8 []))
 (j4 (jW (vK (d2 j8 (dV 0) (dN 1))) uc (ud C))
 (jh (JS [(tC 9),(tC 2),(tC 10),(tC 4),(true,(jb JX [(fV 15)])),(true,(jb JX [(fV 14)]))])))))))))))))
def zP(C:Addr):=Jh [false,true,true] 18 (gj C)
def YW:=(gN 5)
def JN(C:Addr):=(j4 (jk 6 (jb (zP C) [(fV 0),(tC 4),(tC 5)]))
 (jg (jl (d2 ZE (dV 6) (dK .non))) (vZ 3 (dC 6) (dK (.bl true))) ju))
def YX:=(gN 4)
def Y1(C:Addr):=(jW (yt (jb Jy [(false,(d2 j8 (dV 0) (dN 1)))])) YW (JN C))
def Y2(C:Addr):=(jl (d2 Jv (d2 j8 (dV 2) (yB (dN 1))) (dL (J8 []))))
def Y3(C:Addr):=(j4 (yW 3 UA)
 (j4 (jW (jQ (d2 j8 (dV 2) (yB (dN 1)))) YX (Y1 C))
 (yi 2 (dL (Jr Vo [(fV 3)])))))
def Zp(C:Addr):=(j4 (yW 2 (J8 [(true,(dL (J8 [(tC 1)])))]))
 (j4 (uJ (Y2 C) (Y3 C) 20000)
 (jh (dL (JT (dV 2) (fun _=>some none) (fun Z=>((yB (dN 1)) Z).bind JC))))))
def Zq(C:Addr):=Jh [false,true] 5 (Zp C)
def vd(C:Addr):=(jh (JS [(true,(dN 0)),(true,(yB (dN 1))),(true,(dN 0)),(true,(yB (dN 1))),(true,(jb JX [(false,(dL (JU 1 [] (jQ (d2 j8 (dV 0) (dN 1))) (gN 0) jA (dN 0))))])),(true,(jb JX [(false,(dL (JU 1 [] (jQ (d2 j8 (dV 0) (dN 4))) (gN 0) jA (dK (.bl false)))))]))]))
def YY(C:Addr):=Jh [false] 0 (vd C)
def Va(C:Addr):=(jh (gA (jl (d2 jH (d2 j8 (dV 0) (dV 2)) (dV 3))) (dN 0) (d2 j8 (dV 1) (dV 2))))
def zQ(C:Addr):=Jh [false,false,false,false] 0 (Va C)
def YZ:=(gN 8)
def yk(C:Addr):=(j4 (jk 9 (jb (zP C) [(fV 0),(tC 6),(tC 8)]))
 (jg (jl (d2 ZE (dV 9) (dK .non))) (jk 7 (jb VM [(fV 7),(false,(d2 jv (d2 Zi (dV 4) (dV 9)) (jb (zQ C) [(fV 1),(fV 2),(false,(d2 j8 (dV 6) (dN 0))),(fV 8)])))])) ju))
def Y_:=(gN 6)
def z9(C:Addr):=(j4 (jk 7 (dN 300))
 (j4 (jg (jl (d2 jH (d2 j8 (dV 6) (dN 0)) (d2 j8 (dV 0) (dN 0)))) (jk 7 (dN 0)) ju)
 (j4 (jW (yt (jb Jy [(false,(d2 j8 (dV 0) (dN 1)))])) YZ (yk C))
 (vZ 4 (dC 6) (dC 7)))))
def za:=(gN 5)
def zd(C:Addr):=(jW (jQ (dP 5)) Y_ (z9 C))
def ue(C:Addr):=(j4 (jk 3 (jb (Zq C) [(fV 0),(true,(jb (YY C) [(fV 0)]))]))
 (j4 (yW 4 UA)
 (j4 (jW (xZ (dP 3)) za (zd C))
 (jh (dL (JU 1 [4] (jQ (dP 3)) (gN 0) jA (dL (JU 1 [1] (jQ (dP 0)) (gN 0) jA (JS [(tC 0),(true,(d2 Zi (dV 1) (dV 0)))])))))))))
def Zr(C:Addr):=Jh [false,false,false] 7 (ue C)
def Vb(C:Addr):=(j4 (jk 2 (jb Jy [(false,(d2 j8 (dV 0) (dN 1)))]))
 (j4 (jk 3 (jb JX [(false,(dL (JU 1 [1] (yt (dV 2)) (gN 0) jA (d2 jF (d2 j8 (dV 1) (d2 jv (dN 4) (dV 0))) (dN 5)))))]))
 (j4 (jk 4 (jb JX [(false,(dL (JU 1 [1] (yt (jb Jy [(false,(d2 j8 (dV 0) (dN 4)))])) (gN 0) jA (d2 jH (d2 jF (d2 j8 (dV 1) (d2 jv (dN 8) (dV 0))) (dN 2)) (dN 1)))))]))
 (jh (JS [(true,(d2 jF (d2 j8 (dV 1) (dN 0)) (d2 jv (d2 j8 (dV 0) (dN 0)) (dN 1)))),(true,(d2 YB (d2 jF (d2 j8 (dV 1) (dN 1)) (d2 jv (dV 2) (dN 1))) (dN 1))),(true,(d2 jF (d2 j8 (dV 1) (dN 2)) (dN 5))),(true,(d2 YB (d2 jF (d2 j8 (dV 1) (dN 3)) (d2 jv (dV 2) (dN 1))) (dN 1))),(tC 3),(tC 4)])))))
def Ys(C:Addr):=Jh [false,false] 3 (Vb C)
def ye(C:Addr):=(j4 (jk 3 (fun Z=>((d2 jF (d2 j8 (dV 2) (dN 1)) (jb Jy [(fV 1)])) (frz Z)).bind DS.JV))
 (j4 (jk 4 (fun Z=>((d2 jF (d2 j8 (dV 2) (dN 2)) (jb uE [(false,(dN 1)),(false,(jb Jy [(false,(d2 j8 (dV 1) (dV 3)))]))])) (frz Z)).bind DS.JV))
 (j4 (jk 5 (d2 jF (d2 j8 (dV 2) (dN 0)) (dN 8)))
 (j4 (jg (fun Z=>(Jb (jl (d2 jH (dV 5) (dN 1))) (jl (d2 Jv (d2 j8 (dV 1) (dV 3)) (dL (J8 []))))) (frz Z)) (j4 (zy (fun Z=>((d2 j8 (d2 j8 (dV 1) (dV 3)) (dV 4)) (frz Z)).bind DS.JV) (gT 2 (gC (gN 6) (gC (gN 7) gZ))))
 (UG 1 (dV 3) (dV 4) (fun Z=>((JS [(tC 6),(true,(d2 jv (dV 7) (d2 j8 (dL (J8 [(true,(dN 1)),(true,(yB (dN 1))),(true,(dN 5)),(true,(yB (dN 9)))])) (d2 jF (d2 j8 (dV 2) (dN 3)) (dN 4)))))]) (frz Z)).bind DS.JV))) ju)
 (j4 (jg (jl (d2 jH (dV 5) (dN 2))) (vR 1 (dV 3) (fun Z=>((Qb uA (dL (JT (d2 j8 (dV 1) (dV 3)) (fun _=>some none) (fun Z=>((dV 4) Z).bind JC))) (dL (JT (d2 j8 (dV 1) (dV 3)) (fun Z=>((d2 jv (dV 4) (dN 1)) Z).bind JC) (fun _=>some none)))) (frz Z)).bind vQ)) ju)
 (j4 (jg (fun Z=>(Jb (jl (d2 jH (dV 5) (dN 3))) (jl (d2 Jv (d2 j8 (dV 1) (dV 3)) (dL (J8 []))))) (frz Z)) (Gz 1 (dV 3) (fun Z=>((d2 j8 (d2 j8 (dV 1) (dV 3)) (dV 4)) (frz Z)).bind DS.JV)) ju)
 (j4 (jg (jl (d2 jH (dV 5) (dN 4))) (j4 (jk 6 (d2 jv (JS [(true,(jb VM [(fV 3),(false,(d2 j8 (dV 0) (dN 0)))]))]) (Uv (jb (Ys C) [(fV 0),(false,(dL (JT (dV 2) (fun Z=>((dN 4) Z).bind JC) (fun _=>some none))))]) (fun Z=>((dN 1) Z).bind JC) (fun _=>some none))))
 (UF 1 (dV 3) (dV 4) (JS [(tC 6),(true,(d2 YB (d2 jF (d2 j8 (dV 2) (dN 3)) (dN 9)) (dN 2)))]))) ju)
 (j4 (jg (jl (d2 jH (dV 5) (dN 5))) (UH 1 (dV 3)) ju)
 (j4 (jg (jl (d2 jH (dV 5) (dN 6))) (UE 1 (dV 3) (J8 [])) ju)
 (j4 (jg (jl (d2 jH (dV 5) (dN 7))) (vR 1 (dV 3) (fun Z=>((J8 []) (frz Z)).bind vQ)) ju)
 ju))))))))))
def YA(C:Addr):List (List D)->List D->Option (List (List D)):=wy 1 5 (ye C)
def zu:=(gN 6)
def JD(C:Addr):=(j4 (jk 7 (jb (zP C) [(fV 0),(tC 3),(tC 6)]))
 (jg (jl (d2 ZE (dV 7) (dK .non))) (j4 (jg (jl (d2 (gG true) (dV 7) (dV 5))) (jh (dK (.bl false))) ju)
 (jg (jl (d2 JW (dV 4) (d2 jv (d2 Zi (dV 5) (dV 7)) (jb (zQ C) [(fV 1),(fV 2),(false,(d2 j8 (dV 3) (dN 0))),(fV 6)])))) (jh (dK (.bl false))) ju)) ju))
def ZA(C:Addr):=(j4 (jg (jl (d2 jH (d2 j8 (dV 3) (dN 0)) (d2 j8 (dV 0) (dN 0)))) (jh (d2 Jo (dV 4) (dN 0))) ju)
 (j4 (jW (yt (jb Jy [(false,(d2 j8 (dV 0) (dN 1)))])) zu (JD C))
 (jh (dK (.bl true)))))
def ZB(C:Addr):=Jh [false,false,false,true,false,false] 2 (ZA C)
def Yh:=(gT 2 (gC (gN 8) (gC (gN 9) gZ)))
def yE(C:Addr):=(j4 (jg (Y8 (jl (d2 Jv (d2 j8 (dV 8) (dN 0)) (dV 7))) (jl (d2 JW (dV 7) (d2 j8 (dV 0) (dN 0))))) (jh (dK (.bl false))) ju)
 (jg (JK (Jz (jb (ZB C) [(fV 0),(fV 1),(fV 2),(tC 8),(fV 9),(false,(d2 j8 (dV 6) (d2 jv (dV 7) (dN 1))))]))) (jh (dK (.bl false))) ju))
def Yi:=(gT 2 (gC (gN 7) (gC (gN 5) gZ)))
def yF(C:Addr):=(j4 (jg (jl (d2 Jv (jb GB [(false,(d2 j8 (dV 6) (dV 7)))]) (jb Jy [(fV 5)]))) (jh (dK (.bl false))) ju)
 (jW (jQ (dP 5)) Yh (yE C)))
def uY(C:Addr):=(j4 (jg (jl (d2 jH (dV 3) (dL (J8 [])))) (jh (dK (.bl false))) ju)
 (j4 (jk 6 (dL (Qb uA (dL (JU 1 [] (jQ (dP 3)) (gN 0) jA (dL (Jr Z_ [(fV 0)])))) (dL (J8 [(true,(dL UA))])))))
 (j4 (jW (vK (dP 3)) Yi (yF C))
 (jh (d2 Vm (qx (d2 j8 (dV 6) (dN 0)) (jb (YY C) [(fV 0)]) (d2 YB (dV 4) (dN 1))) (dV 4))))))
def ve(C:Addr):=Jh [false,false,false,false,false] 5 (uY C)
def vf(C:Addr):=(jh (jb Jy [(false,(d1 (Jk C "kind_rows") (dV 0)))]))
def yG(C:Addr):=Jh [false] 0 (vf C)
def uZ(C:Addr):=(jh (Jl Jo Zy (dN 0) (dV 1) (d1 (vL C "many" (yG C)) (dV 0))))
def vT(C:Addr):=Jh [false,false] 0 (uZ C)
def Ym(C:Addr):=(jh (jb zx [(false,(dL (JU 1 [0] (jQ (dP 1)) (gN 0) jA (jb (vT C) [(fV 1),(fV 0)]))))]))
def Yn(C:Addr):=Jh [false,false] 0 (Ym C)
def Vc(C:Addr):=(j4 (jg (JK (Jz (jb (Yn C) [(fV 0),(fV 1)]))) ZG ju)
 (jg (jl (d2 JW (jb Jy [(fV 1)]) (d1 (Jk C "size") (dV 0)))) ZG ju))
def Vd(C:Addr):=Jh [false,false] 0 (Vc C)
def vg(C:Addr):=(j4 (Uw (jb (Vd C) [(fV 0),(fV 1)]))
 (j4 (jg (jl (d2 Zy (jb Jy [(fV 1)]) (d1 (Jk C "size") (dV 0)))) ZG ju)
 (j4 (jg (jl (d2 Jv (jb Jy [(fV 2)]) (d1 (Jk C "size") (dV 0)))) ZG ju)
 (jg (JK (Jz (jb zx [(false,(dL (JU 1 [] (jQ (dP 2)) (gN 0) jA (Jl Jo Jo (dN 1) (dV 0) (dN 9)))))]))) ZG ju))))
def vh(C:Addr):=Jh [false,false,false] 0 (vg C)
def Zs(C:Addr):=(j4 (jk 1 (d2 yJ (JS [(true,(dN 0))]) (d1 (vL C "many" (yG C)) (dV 0))))
 (j4 (jk 2 (d2 yJ (JS [(true,(dK (.bl false)))]) (jb Jy [(false,(d1 (Jk C "due_rows") (dV 0)))])))
 (jh (JS [(true,(dN 0)),(true,(yB (dN 1))),(true,(dN 0)),(true,(yB (dN 1))),(tC 1),(tC 2)]))))
def Zt(C:Addr):=Jh [false] 2 (Zs C)
def gn(C:Addr):=(j4 (jk 2 (dL (Wx 2 [] (jQ (dP 0)) (gT 2 (gC (gN 0) (gC (gN 1) gZ))) (dC 0))))
 (jh (JB (d2 jH (jb UI [(fV 2)]) (jb Jy [(fV 0)])) (jb zx [(false,(dL (JU 2 [1] (jQ (dP 0)) (gT 2 (gC (gN 0) (gC (gN 1) gZ))) jA (d2 jH (d2 j8 (dV 0) (dN 0)) (dV 2)))))]))))
def gq(C:Addr):=Jh [false,false] 1 (gn C)
def uf:=(gT 3 (gC (gN 4) (gC (gN 5) (gC (gN 6) gZ))))
def ug(C:Addr):=(jg (Jb (jl (d2 jH (dV 4) (dV 2))) (jl (Jl Jo Jo (dV 5) (dV 3) (dV 6)))) (jh (dK (.bl true))) ju)
def gr(C:Addr):=(j4 (jk 3 (d2 jv (d2 j8 (dV 1) (dN 0)) (dN 1)))
 (j4 (jW (jQ (d1 (Jk C "bar_rows") (dV 0))) uf (ug C))
 (jh (dK (.bl false)))))
def gt(C:Addr):=Jh [false,false,false] 4 (gr C)
def u_(C:Addr):=(jh (JB (d2 jH (d2 j8 (dV 1) (dN 1)) (dV 2)) (d2 Vm (d2 j8 (dV 1) (dN 2)) (d2 j8 (d2 j8 (d1 (Jk C "kind_rows") (dV 0)) (dV 2)) (dN 1)))))
def U4(C:Addr):=Jh [false,false,false] 0 (u_ C)
def VT(C:Addr):=(j4 (jk 3 (d2 j8 (dV 1) (dN 1)))
 (j4 (jg (Y8 (jl (d2 jH (dV 3) (dV 2))) (jl (d2 jH (dV 3) (yB (dN 1))))) (jh (dK (.bl false))) ju)
 (jh (d2 Zy (d2 j8 (dV 1) (dN 2)) (d2 j8 (d2 j8 (d1 (Jk C "kind_rows") (dV 0)) (dV 3)) (dN 0))))))
def VU(C:Addr):=Jh [false,false,false] 1 (VT C)
def VV(C:Addr):=(jh (JB (d2 Jv (d2 j8 (dV 0) (dN 1)) (dV 1)) (d2 Jv (d2 j8 (d2 j8 (dV 0) (dN 4)) (dV 1)) (dN 0))))
def VW(C:Addr):=Jh [false,false] 0 (VV C)
def Vt:=(gT 3 (gC (gN 3) (gC (gN 4) (gC (gN 5) gZ))))
def zH(C:Addr):=(j4 (jk 6 (gA (jl (d2 jH (dV 5) (dN 1))) (d2 j8 (dV 1) (dN 1)) (d2 j8 (dV 1) (dN 3))))
 (jg (Jb (jl (d2 jH (dV 4) (dV 2))) (jl (d2 jH (dV 6) (dV 3)))) (jh (dK (.bl true))) ju))
def U9(C:Addr):=(j4 (jW (jQ (d1 (Jk C "shun_rows") (dV 0))) Vt (zH C))
 (jh (dK (.bl false))))
def Ua(C:Addr):=Jh [false,false,false] 4 (U9 C)
def Ub:=(gT 2 (gC (gN 5) (gC (gN 6) gZ)))
def vi(C:Addr):=(j4 (zy (dC 5) (gT 3 (gC (gN 7) (gC (gN 8) (gC (gN 9) gZ)))))
 (yi 4 (uC (dV 6) (JB (d2 jH (dV 7) (dV 2)) (Jl Jo Jo (dV 8) (dV 3) (dV 9))))))
def VX(C:Addr):=(j4 (jk 3 (d2 jv (d2 j8 (dV 1) (dN 0)) (dN 1)))
 (j4 (yW 4 (J8 []))
 (j4 (jW (qo (d1 (Jk C "due_rows") (dV 0)) (d2 j8 (dV 1) (dN 5))) Ub (vi C))
 (jh (jb JX [(fV 4)])))))
def ZH(C:Addr):=Jh [false,false,false] 7 (VX C)
def Vu:=(gT 2 (gC (gN 4) (gC (gN 5) gZ)))
def Vv(C:Addr):=(jg (Jb (jl (d2 jH (d2 j8 (dV 4) (dN 2)) (dV 3))) (JK (Jz (dV 5)))) (jh (dK (.bl true))) ju)
def Uc(C:Addr):=(j4 (jk 3 (d2 jv (d2 j8 (dV 1) (dN 0)) (dN 1)))
 (j4 (jW (qo (d1 (Jk C "due_rows") (dV 0)) (jb (ZH C) [(fV 0),(fV 1),(fV 2)])) Vu (Vv C))
 (jh (dK (.bl false)))))
def Ud(C:Addr):=Jh [false,false,false] 3 (Uc C)
def VY(C:Addr):=(j4 (jg (jl (d2 jH (d2 j8 (dV 0) (dN 1)) (dV 1))) (jh (d2 jv (d2 j8 (dV 0) (dN 2)) (dN 1))) ju)
 (jh (dN 1)))
def ZI(C:Addr):=Jh [false,false] 0 (VY C)
def gK(C:Addr):=(j4 (jg (jl (d2 Jv (d2 jv (d2 j8 (dV 1) (dN 0)) (dN 1)) (d1 (Jk C "size") (dV 0)))) (jh (dK (.bl false))) ju)
 (jh (d2 Zy (jb (ZI C) [(fV 1),(fV 2)]) (d2 j8 (d2 j8 (d1 (Jk C "kind_rows") (dV 0)) (dV 2)) (dN 0)))))
def gM(C:Addr):=Jh [false,false,false] 0 (gK C)
def gO(C:Addr):=(j4 (jg (Jz (jb (gt C) [(fV 0),(fV 1),(fV 2)])) (jh (dK (.str "barred"))) ju)
 (j4 (jg (Jz (jb (U4 C) [(fV 0),(fV 1),(fV 2)])) (jh (dK (.str "long"))) ju)
 (j4 (jg (Jz (jb (VU C) [(fV 0),(fV 1),(fV 2)])) (jh (dK (.str "short"))) ju)
 (j4 (jg (Jz (jb (VW C) [(fV 1),(fV 2)])) (jh (dK (.str "early"))) ju)
 (j4 (jg (Jz (jb (Ua C) [(fV 0),(fV 1),(fV 2)])) (jh (dK (.str "shun"))) ju)
 (j4 (jg (Jz (jb (Ud C) [(fV 0),(fV 1),(fV 2)])) (jh (dK (.str "due"))) ju)
 (j4 (jg (Jz (jb (gM C) [(fV 0),(fV 1),(fV 2)])) (jh (dK (.str "cut"))) ju)
 (jh (dK .non)))))))))
def wR(C:Addr):=Jh [false,false,false] 0 (gO C)
def vj(C:Addr):=(j4 (jk 3 (d2 j8 (dV 1) (dN 1)))
 (j4 (yW 4 (JU 1 [] (jQ (d2 j8 (dV 1) (dN 4))) (gN 0) jA (jb uE [(false,(d2 YB (dV 0) (dN 1))),(false,(dN 0))])))
 (j4 (jg (jl (d2 Jv (dV 3) (yB (dN 1)))) (Ux 4 (dV 3) (jb uE [(false,(d2 YB (d2 j8 (d2 j8 (d1 (Jk C "kind_rows") (dV 0)) (dV 3)) (dN 2)) (dN 1))),(false,(dN 0))])) ju)
 (j4 (Ux 4 (dV 2) (dN 0))
 (jh (jb JX [(fV 4)]))))))
def vk(C:Addr):=Jh [false,false,false] 2 (vj C)
def vm(C:Addr):=(j4 (jk 3 (jb (ZI C) [(fV 1),(fV 2)]))
 (j4 (jk 4 (jb (vk C) [(fV 0),(fV 1),(fV 2)]))
 (j4 (jk 5 (jb (ZH C) [(fV 0),(fV 1),(fV 2)]))
 (jh (JS [(true,(d2 jv (d2 j8 (dV 1) (dN 0)) (dN 1))),(tC 2),(tC 3),(true,(d2 j8 (dV 1) (dN 1))),(tC 4),(tC 5)])))))
def vn(C:Addr):=Jh [false,false,true] 3 (vm C)
def Ue(C:Addr):=(j4 (jg (Y8 (jl (d2 Vm (d2 j8 (dV 1) (dN 0)) (d1 (Jk C "size") (dV 0)))) (jl (d2 ZE (jb (wR C) [(fV 0),(fV 1),(fV 2)]) (dK .non)))) (jh (dK .non)) ju)
 (jh (jb (vn C) [(fV 0),(fV 1),(tC 2)])))
def Uf(C:Addr):=Jh [false,false,true] 0 (Ue C)
def Vw:=(gN 3)
def Yj(C:Addr):=(j4 (jk 4 (jb (Uf C) [(fV 0),(fV 1),(tC 3)]))
 (jg (jl (d2 ZE (dV 4) (dK .non))) (yi 2 (JS [(tC 3),(tC 4)])) ju))
def vo(C:Addr):=(j4 (yW 2 (J8 []))
 (j4 (jW (yt (d1 (vL C "many" (yG C)) (dV 0))) Vw (Yj C))
 (VN 2)))
def vq(C:Addr):=Gu [false,false] 3 (vo C)
def Zu(C:Addr):=(j4 (jk 4 (d2 j8 (dV 2) (dN 0)))
 (j4 (jg (jl (d2 jH (d2 j8 (dV 0) (dV 4)) (dV 3))) (jh (dN 0)) ju)
 (jh (d2 j8 (dV 1) (dV 4)))))
def Zv(C:Addr):=Jh [false,false,false,false] 1 (Zu C)
def Vx:=(gT 2 (gC (gN 7) (gC (gN 8) gZ)))
def Vy(C:Addr):=(jg (Y8 (jl (d2 (gG true) (dV 8) (dV 4))) (jl (d2 JW (dV 6) (d2 jv (d2 Zi (dV 4) (dV 8)) (jb (Zv C) [(fV 1),(fV 2),(fV 5),(fV 7)]))))) (jh (dK (.bl false))) ju)
def Ug(C:Addr):=(j4 (zy (dC 3) (gT 2 (gC (gN 5) (gC (gN 6) gZ))))
 (j4 (jg (Jb (jl (d2 jH (d2 j8 (dV 5) (dN 0)) (d1 (Jk C "size") (dV 0)))) (jl (d2 JW (dV 6) (dN 0)))) (jh (dK (.bl false))) ju)
 (j4 (jW (jQ (dL (Jr (vq C) [(fV 0),(fV 5)]))) Vx (Vy C))
 (jh (dK (.bl true))))))
def ze(C:Addr):=Jh [false,false,false,true,false] 4 (Ug C)
def Y4:=(gT 2 (gC (gN 6) (gC (gN 7) gZ)))
def JO(C:Addr):=(j4 (jg (JK (Jz (jb (gq C) [(fV 7),(fV 6)]))) (jh (dK (.bl false))) ju)
 (j4 (jk 8 (dL (Wv 3 [] (jQ (dL (JT (dV 3) (fun Z=>((d2 jv (dV 6) (dN 1)) Z).bind JC) (fun Z=>((d2 jv (dV 6) (dN 2)) Z).bind JC)))) (gN 0) (jQ (dP 0)) (gT 2 (gC (gN 1) (gC (gN 2) gZ))) (dC 1) (dC 2))))
 (jg (JK (Jz (jb zx [(false,(dL (JU 1 [0,1,2,8] (jQ (dP 7)) (gN 0) jA (jb (ze C) [(fV 1),(fV 2),(fV 3),(tC 0),(fV 4)]))))]))) (jh (dK (.bl false))) ju)))
def uh(C:Addr):=(j4 (Uw (jb (vh C) [(fV 0),(fV 1),(fV 2)]))
 (j4 (jk 5 (jb (Zt C) [(fV 0)]))
 (j4 (jg (Y8 (JK (Jz (dV 3))) (JK (Jz (jb uN [(false,(dL (JU 2 [5,4] (jQ (d2 j8 (dV 3) (dN 0))) (gT 2 (gC (gN 0) (gC (gN 1) gZ))) jA (JB (d2 jH (dV 0) (dV 2)) (d2 Vm (dV 1) (dV 3))))))])))) (jh (dK (.bl false))) ju)
 (j4 (jW (vK (dP 3)) Y4 (JO C))
 (jh (dK (.bl true)))))))
def yP(C:Addr):=Jh [false,false,false,false,false] 4 (uh C)
def qI(C:Addr):=(j4 (jk 1 (dL (Jr (zF C) [(fV 0),(false,(dN 230))])))
 (j4 (jk 2 (jb (V0 C) [(fV 1),(false,(dN 6))]))
 (j4 (jk 3 (dL (Jr (V7 C) [(fV 2)])))
 (j4 (jk 4 (dL (Jr (V9 C) [(fV 2),(false,(dL (JT (dV 1) (fun Z=>((dN 60) Z).bind JC) (fun _=>some none))))])))
 (j4 (jk 5 (dL (Jr (YS C) [(fV 2),(false,(dL (JT (dV 1) (fun Z=>((dN 110) Z).bind JC) (fun _=>some none))))])))
 (j4 (Gy 6 (Ww (Zr C) [(tC 2),(tC 4),(tC 5)]))
 (j4 (jk 7 (fun Z=>((d2 jv (d2 j8 (d2 j8 (d2 j8 (dV 6) (dN 0)) (dN 0)) (dN 1)) (d2 j8 (dL (J8 [(true,(dN 0)),(true,(dN 0)),(true,(dN 1)),(true,(yB (dN 1))),(true,(yB (dN 20)))])) (d2 jF (d2 j8 (dV 1) (dN 160)) (dN 5)))) (frz Z)).bind DS.JV))
 (j4 (jg (jl (d2 jH (d2 jF (d2 j8 (dV 1) (dN 161)) (dN 6)) (dN 1))) (jk 7 (d2 j8 (dL (J8 [(true,(dN 0)),(true,(yB (dN 1))),(true,(d2 GX (dN 10) (dN 20)))])) (d2 jF (d2 j8 (dV 1) (dN 162)) (dN 3)))) ju)
 (j4 (zX 6 (YA C) (dC 2) (dL (JT (dV 1) (fun Z=>((dN 163) Z).bind JC) (fun _=>some none))))
 (j4 (jg (fun Z=>(Jb (jl (d2 jH (d2 jF (d2 j8 (dV 1) (dN 190)) (dN 3)) (dN 1))) (jl (d2 Jv (dV 6) (dL (J8 []))))) (frz Z)) (zX 6 (YA C) (dC 2) (dL (JT (dV 1) (fun Z=>((dN 191) Z).bind JC) (fun _=>some none)))) ju)
 (j4 (fun Z=>(jk 8 (jb (ve C) [(fV 2),(fV 4),(fV 5),(fV 6),(fV 7)])) (frz Z))
 (j4 (jk 9 (dL (JU 1 [] (jQ (dP 6)) (gN 0) jA (dL (Jr y_ [(fV 0)])))))
 (j4 (jk 10 (dL (J8 [(true,(dL (Jr y_ [(fV 4)]))),(true,(dL (Jr y_ [(fV 5)])))])))
 (j4 (jk 11 (jb (yP C) [(fV 3),(false,(d2 j8 (dV 10) (dN 0))),(false,(d2 j8 (dV 10) (dN 1))),(fV 6),(fV 7)]))
 (j4 (jg (Y8 (JK (Jz (d1 wc (dV 11)))) (Y8 (jl (d2 Jv (dV 11) (dV 8))) (Y8 (jl (d2 Jv (dV 6) (dV 9))) (jl (d2 Jv (dV 10) (dL (J8 [(tC 4),(tC 5)]))))))) (jh (dK (.bl false))) ju)
 (j4 (jk 12 (dL (qz (dV 5) (yB (dN 1)))))
 (j4 (jk 11 (jb (yP C) [(fV 3),(fV 4),(fV 12),(fV 6),(fV 7)]))
 (j4 (jg (Y8 (JK (Jz (d1 wc (dV 11)))) (jl (d2 Jv (dV 11) (jb (ve C) [(fV 2),(fV 4),(fV 12),(fV 6),(fV 7)])))) (jh (dK (.bl false))) ju)
 (jh (d2 wz (jb (yP C) [(fV 3),(fV 4),(fV 5),(false,(dL (J8 []))),(fV 7)]) (dK (.bl false))))))))))))))))))))))
def qJ(C:Addr):=Jh [false] 12 (qI C)
def wS(C:Addr)(t:T3):zM C [t3 t]=some (.bl (fK t)):=by
 obtain⟨x,y,z⟩:=t;unfold fK;simp only[zM,V1,t3];by_cases h1:1<=x
 ·by_cases h2:x<=y
  ·by_cases h3:y<=4
   ·by_cases h4:0<=z <;> simp[h1,h2,h3,h4]
   ·simp[h1,h2,h3]
  ·simp[h1,h2]
 ·simp[h1]
def wT(C:Addr)(t:T3)(m:Int):zN C [t3 t,.int m]=some (.bl (fS m t)):=by
 obtain⟨x,y,z⟩:=t;unfold fS;simp only[zN,V2,t3];by_cases h1:0<=x
 ·by_cases h2:x < m
  ·by_cases h3:0<=y
   ·by_cases h4:y < m
    ·by_cases h5:1<=z <;> simp[h1,h2,h3,h4,h5]
    ·simp[h1,h2,h3,h4]
   ·simp[h1,h2,h3]
  ·simp[h1,h2]
 ·simp[h1]
def wU(C:Addr)(t:T3)(m s:Int):zO C [t3 t,.int m,.int s]=some (.bl (fB m s t)):=by
 obtain⟨x,y,z⟩:=t;unfold fB;simp only[zO,V3,t3];by_cases h1:0<=x
 ·by_cases h2:x < m
  ·by_cases h3:1<=y
   ·by_cases h4:y<=z <;> simp[h1,h2,h3,h4]
   ·simp[h1,h2,h3]
  ·simp[h1,h2]
 ·simp[h1]
def kj(C:Addr)(s:Int)(k h b d:List D):Zn C [.int s,.lst k,.lst h,.lst b,.lst d]=some (.bl (fC s k.length h.length b.length d.length)):=by
 unfold fC;simp only[Zn,Zm];by_cases h1:1<=s
 ·by_cases h2:s<=30
  ·by_cases h3:(1:Int)<=k.length
   ·by_cases h4:(k.length:Int)<=4
    ·by_cases h5:(h.length:Int)<=20
     ·by_cases h6:(b.length:Int)<=12 <;> simp[h1,h2,h3,h4,h5,h6]
     ·simp[h1,h2,h3,h4,h5]
    ·simp[h1,h2,h3,h4]
   ·simp[h1,h2,h3]
  ·simp[h1,h2]
 ·simp[h1]
theorem yo{α:Type}(f:α->Bool):∀l:List α,uF (l.map fun x=>D.bl (f x))=some (l.map f)
 | []=>rfl
 | x::l=>by simp[yo f l]
def QL{α:Type}(f:α->Bool)(l m:List α):uF (l.map (fun x=>D.bl (f x))++m.map fun x=>D.bl (f x))=some (l.map f++m.map f):=by rw[<-uDa,yo,uDa]
def YG{α:Type}(f:α->Bool)(l:List α):((l.map f).all id)=l.all f:=by
 induction l with
 | nil=>rfl
 | cons t ts ih=>simp only[List.map_cons,List.all_cons,ih,id]
def wV(C:Addr)(s:Int)(k h b d:List T3)(hk:k.length<=100)(hh:h.length<=100)(hb:b.length<=100)(hd:d.length<=100):V5 C [.int s,.lst (k.map t3),.lst (h.map t3),.lst (b.map t3),.lst (d.map t3)]=some (.bl (fR s k h b d)):=by
 have sz:∀n,n<=200->n<=sizeLine:=fun n hn=>wQa (jp (by lia));have c1:∀Z:je,Js (gN 0) jA (jb (zM C) [(true,dC 0)]) (k.map t3) (.un::Z)=some (k.map fun t=>D.bl (fK t)):=fun Z=>J1 t3 _ fun t _=>⟨_,rfl,rfl,by simp[wS]⟩
 have c2:∀Z:je,Js (gN 0) jA (jb (zN C) [(true,dC 0),(false,dV 1)]) (h.map t3) (.un::.cl (.int k.length)::Z)=some (h.map fun t=>D.bl (fS k.length t)):=fun Z=>J1 t3 _ fun t _=>⟨_,rfl,rfl,by simp[wT]⟩
 have c3:∀Z:je,Js (gN 0) jA (jb (zO C) [(true,dC 0),(false,dV 1),(false,dV 2)]) ((b++d).map t3) (.un::.cl (.int k.length)::.bo (.int s)::Z)=some ((b++d).map fun t=>D.bl (fB k.length s t)):=fun Z=>J1 t3 _ fun t _=>⟨_,rfl,rfl,by simp[wU]⟩
 rw[uDa]at c3;unfold fR;have e3:b.length+d.length<=sizeLine:=sz _ (by lia);simp only[V5,V4];by_cases h1:k.all fK=true
 ·by_cases h2:h.all (fS k.length)=true
  ·simp[c1,c2,c3,yo,QL,YG,List.all_append,sz _ (Nat.le_trans hk (by decide:100<=200)),sz _ (Nat.le_trans hh (by decide:100<=200)),e3,h1,h2]
  ·simp[c1,c2,yo,YG,sz _ (Nat.le_trans hk (by decide:100<=200)),sz _ (Nat.le_trans hh (by decide:100<=200)),h1,h2]
 ·simp[c1,yo,YG,sz _ (Nat.le_trans hk (by decide:100<=200)),h1]
structure OkB (b:Bk):Prop where
 s1:1<=b.size
 s2:b.size<=30
 k1:1<=b.kinds.length
 k2:b.kinds.length<=4
 h2:b.shuns.length<=20
 b2:b.bars.length<=12
 d2:b.dues.length<=3
 ks:∀t∈b.kinds,fK t=true
 hs:∀t∈b.shuns,fS b.kinds.length t=true
 bs:∀t∈b.bars,fB b.kinds.length b.size t=true
 ds:∀t∈b.dues,fB b.kinds.length b.size t=true
def km{b:Bk}:wP b=true↔OkB b:=by
 unfold wP fC fR;simp only[Bool.and_eq_true,decide_eq_true_eq,List.all_eq_true,List.mem_append];constructor
 ·rintro⟨⟨a1,a2,a3,a4,a5,a6,a7⟩,b1,b2,b3⟩;exact⟨a1,a2,by lia,by lia,by lia,by lia,by lia,b1,b2,fun t h=>b3 t (.inl h),fun t h=>b3 t (.inr h)⟩
 ·intro h;exact⟨⟨h.s1,h.s2,by have:=h.k1;lia,by have:=h.k2;lia,by have:=h.h2;lia,by have:=h.b2;lia,by have:=h.d2;lia⟩,h.ks,h.hs,fun t ht=>ht.elim (h.bs t) (h.ds t)⟩
def bh(C p:Addr)(b:Bk)(h:OkB b):yu C p [.int b.size,.lst (b.kinds.map t3),.lst (b.shuns.map t3),.lst (b.bars.map t3),.lst (b.dues.map t3)]=some (uW C b):=by
 have hb:=km.mpr h;unfold wP at hb;rw[Bool.and_eq_true]at hb;have e1:=kj C b.size (b.kinds.map t3) (b.shuns.map t3) (b.bars.map t3) (b.dues.map t3);simp only[List.length_map]at e1;rw[hb.1]at e1;have e2:=wV C b.size b.kinds b.shuns b.bars b.dues (by have:=h.k2;lia) (by have:=h.h2;lia) (by have:=h.b2;lia) (by have:=h.d2;lia);rw[hb.2]at e2;have n1:("size" : Str)≠ "kind_rows" := by decide
 have n2:("size" : Str)≠ "shun_rows" := by decide
 have n3:("size" : Str)≠ "bar_rows" := by decide
 have n4:("size" : Str)≠ "due_rows" := by decide
 have n5:("kind_rows" : Str)≠ "shun_rows" := by decide
 have n6:("kind_rows" : Str)≠ "bar_rows" := by decide
 have n7:("kind_rows" : Str)≠ "due_rows" := by decide
 have n8:("shun_rows" : Str)≠ "bar_rows" := by decide
 have n9:("shun_rows" : Str)≠ "due_rows" := by decide
 have n0:("bar_rows" : Str)≠ "due_rows" := by decide
 simp only[yu,yM,uW];simp[e1,e2,n1,n2,n3,n4,n5,n6,n7,n8,n9,n0]
def UU(C p:Addr)(ds:List D)(o:OD)(h:ya C ds=some o):yu C p ds=some o:=by
 obtain⟨b,ok,rfl,rfl⟩:=dz h;exact bh C p b (km.mp ok)
def bi(C:Addr)(b:Bk)(h:OkB b):ya C [.int b.size,.lst (b.kinds.map t3),.lst (b.shuns.map t3),.lst (b.bars.map t3),.lst (b.dues.map t3)]=some (uW C b):=by
 unfold ya ki;simp[gI,gL,wQ,km.mpr h]
def bj(C:Addr)(b:Bk)(h:OkB b):V7 C [jo b]=some (uW C b):=by
 have e:=bi C b h;simp only[V7,V6];simp[e]
def Xd(C:Addr)(b:Bk):(uW C b).toD=jU C b:=rfl
def bm(C:Addr)(b:Bk):yG C [jU C b]=some (.int b.kinds.length):=by
 have n1:(("kind_rows" : Str) == "size")=false:=by decide
 simp only[yG,vf,jU];simp[Jk,List.lookup,n1]
@[simp] theorem K4(C:Addr)(b:Bk):vL C "many" (yG C) (jU C b)=some (.int b.kinds.length):=by
 have e:=bm C b;unfold vL jU at *;have n:("many" : Str)∉(["size", "kind_rows", "shun_rows", "bar_rows", "due_rows"]:List Str):=by decide
 simp only[n,not_false_eq_true,and_self,if_true];exact e
@[simp] theorem Xe(C:Addr)(b:Bk):Jk C "size" (jU C b)=some (.int b.size):=by unfold Jk jU;simp[List.lookup]
@[simp] theorem QM(C:Addr)(b:Bk):Jk C "kind_rows" (jU C b)=some (.tup (b.kinds.map t3)):=by
 have n1:(("kind_rows" : Str) == "size")=false:=by decide
 unfold Jk jU;simp[List.lookup,n1]
@[simp] theorem QN(C:Addr)(b:Bk):Jk C "shun_rows" (jU C b)=some (.tup (b.shuns.map t3)):=by
 have n1:(("shun_rows" : Str) == "size")=false:=by decide
 have n2:(("shun_rows" : Str) == "kind_rows")=false:=by decide
 unfold Jk jU;simp[List.lookup,n1,n2]
@[simp] theorem Xf(C:Addr)(b:Bk):Jk C "bar_rows" (jU C b)=some (.tup (b.bars.map t3)):=by
 have n1:(("bar_rows" : Str) == "size")=false:=by decide
 have n2:(("bar_rows" : Str) == "kind_rows")=false:=by decide
 have n3:(("bar_rows" : Str) == "shun_rows")=false:=by decide
 unfold Jk jU;simp[List.lookup,n1,n2,n3]
@[simp] theorem gP(C:Addr)(b:Bk):Jk C "due_rows" (jU C b)=some (.tup (b.dues.map t3)):=by
 have n1:(("due_rows" : Str) == "size")=false:=by decide
 have n2:(("due_rows" : Str) == "kind_rows")=false:=by decide
 have n3:(("due_rows" : Str) == "shun_rows")=false:=by decide
 have n4:(("due_rows" : Str) == "bar_rows")=false:=by decide
 unfold Jk jU;simp[List.lookup,n1,n2,n3,n4]
def qK(C:Addr)(b:Bk)(n:Int):vT C [jU C b,.int n]=some (.bl (decide (0<=n)&&decide (n < (b.kinds.length:Int)))):=by
 have e:=K4 C b;simp only[vT,uZ];by_cases h:0<=n <;> simp[e,h]
def kn(C:Addr)(b:Bk)(row:List Int)(hl:row.length<=1000):Yn C [jU C b,.lst (row.map .int)]=some (.bl (row.all fun n=>decide (0<=n)&&decide (n < (b.kinds.length:Int)))):=by
 have c1:∀Z:je,Js (gN 0) jA (jb (vT C) [(false,dV 1),(false,dV 0)]) (row.map D.int) (.un::.bo (jU C b)::Z)=some (row.map fun n=>D.bl (decide (0<=n)&&decide (n < (b.kinds.length:Int)))):=fun Z=>J1 D.int _ fun t _=>⟨_,rfl,rfl,by simp[qK]⟩
 have sz:row.length<=sizeLine:=wQa (jp (by lia));have e:=yo (fun n:Int=>decide (0<=n)&&decide (n < (b.kinds.length:Int))) row;simp only[Yn,Ym];simp only[Jh,ZW,jh,jb,YK,dL,JU,jQ,dP,yV];simp[c1,sz,e,YG]
def Em(b:Bk)(row:List Int):Prop:=(∀n∈row,0<=n/\n < (b.kinds.length:Int))/\(row.length:Int)<=b.size
def wW(C:Addr)(b:Bk)(row:List Int)(ok:OkB b)(h:Em b row):Vd C [jU C b,.lst (row.map .int)]=some .non:=by
 have h2:=ok.s2;have hl:=h.2;have e:=kn C b row (by lia);have e2:(row.all fun n=>decide (0<=n)&&decide (n < (b.kinds.length:Int)))=true:=by
  rw[List.all_eq_true];intro n hn;have:=h.1 n hn;simp[this.1,this.2]
 rw[e2]at e;have e3:=Xe C b;have e4:¬(b.size < (row.length:Int)):=by lia
 simp only[Vd,Vc];simp[e,e3,e4]
noncomputable def ji(b:Bk):Sd:=⟨0,-1,0,-1,List.replicate b.kinds.length 0,List.replicate b.dues.length false⟩
def Xg(C:Addr)(b:Bk)(ok:OkB b):Zt C [jU C b]=some (j7 (ji b)):=by
 have e:=K4 C b;have e3:=gP C b;have h1:=ok.k2;have h2:=ok.d2;have c1:(b.kinds.length:Int)<=1000:=by lia
 have c2:(b.dues.length:Int)<=1000:=by lia
 simp only[Zt,Zs];simp[e,e3,c1,c2,j7,ji]
noncomputable def mx(i j:Int):Int:=if j > i then j else i
noncomputable def Ve(s:Sd)(k:Int):Int:=if s.kind=k then s.len+1 else 1
def yl(b:Bk)(s:Sd)(k:Int):List Int:=(if s.kind=-1 then s.waits.map (fun x=>mx (x - 1) 0)else(s.waits.map (fun x=>mx (x - 1) 0)).set s.kind.toNat (mx ((gi b.kinds s.kind).2.2 - 1) 0)).set k.toNat 0
noncomputable def zf(k pl:Int)(t:T3):Bool:=decide (t.1=k)&&(decide (t.2.1<=pl)&&decide (pl<=t.2.2))
def JA(b:Bk)(s:Sd)(k:Int):List Bool:=List.zipWith (fun t m=>m||zf k (s.place+1) t) b.dues s.met
def Vz(b:Bk)(s:Sd)(k:Int):Sd:=⟨s.place+1,k,Ve s k,s.kind,yl b s k,JA b s k⟩
def ZR(b:Bk)(s:Sd)(k:Int):Bool:=b.bars.any (zf k (s.place+1))
def ZJ(b:Bk)(s:Sd)(k:Int):Bool:=decide (s.kind=k)&&decide (s.len>=(gi b.kinds k).2.1)
def zg(b:Bk)(s:Sd)(k:Int):Bool:=!(decide (s.kind=k)||decide (s.kind=-1))&&decide (s.len < (gi b.kinds s.kind).1)
noncomputable def Yt(s:Sd)(k:Int):Bool:=!decide (s.kind=k)&&!decide (s.waits.getD k.toNat 0=0)
noncomputable def Z4(s:Sd)(k:Int)(t:T3):Bool:=decide (t.2.1=k)&&decide ((if t.2.2=1 then s.kind else s.before)=t.1)
def VZ(b:Bk)(s:Sd)(k:Int):Bool:=b.shuns.any (Z4 s k)
def vt(b:Bk)(s:Sd)(k:Int):Bool:=(List.zip b.dues (JA b s k)).any fun p=>decide (p.1.2.2=s.place+1)&&!p.2
def Uh(b:Bk)(s:Sd)(k:Int):Bool:=decide (s.place+1=b.size)&&decide (Ve s k < (gi b.kinds k).1)
def YI(b:Bk)(s:Sd)(k:Int):Option Str:=
 if ZR b s k=true then some "barred" else if ZJ b s k=true then some "long" else if zg b s k=true then some "short" else if Yt s k=true then some "early" else if VZ b s k=true then some "shun" else if vt b s k=true then some "due" else if Uh b s k=true then some "cut" else none
noncomputable def oS:Option Str->D
 | none=>.non
 | some x=>.str x
structure Fit (b:Bk) (s:Sd):Prop where
 c0:-1<=s.kind
 c1:s.kind < (b.kinds.length:Int)
 w:s.waits.length=b.kinds.length
 m:s.met.length=b.dues.length
def Z8(b:Bk)(k:Int):Prop:=0<=k/\k < (b.kinds.length:Int)
def gu(C:Addr)(s:Sd)(k:Int):ZI C [j7 s,.int k]=some (.int (Ve s k)):=by
 unfold Ve;simp only[ZI,VY];by_cases e:s.kind=k <;> simp[e]
def any_map{α:Type}(em:α->D)(p:D->Bool)(q:α->Bool)(h:∀x,p (em x)=q x)(l:List α):(l.map em).any p=l.any q:=by
 induction l with
 | nil=>rfl
 | cons x l ih=>rw[vWa,List.any_cons,List.any_cons,h,ih]
def WC(q:T3->Bool)(d:D):Bool:=match aR d with
 | some t=>q t
 | none=>false
def zh(q:T3->Bool)(t:T3):WC q (t3 t)=q t:=rfl
def Ui{t:DT}{s1:DS.DS}{Z:je}{r:Rs}{I:je->Prop}{k:Bool}(h:t Z=some k)(hr:s1 Z=some r)(hI:I Z):(k=true/\jg t s1 ju Z=some r) \/ (k=false/\∃Z2,jg t s1 ju Z=some (.nx Z2)/\I Z2):=by
 cases k
 ·exact .inr ⟨rfl,Z,YQ h rfl,hI⟩
 ·exact .inl ⟨rfl,zZ h hr⟩
def QO(C:Addr)(b:Bk)(s:Sd)(k:Int):gt C [jU C b,j7 s,.int k]=some (.bl (ZR b s k)):=by
 have L:=v8 (g:=uf) (s:=ug C) (items:=b.bars.map t3) (fun Z=>∃x y z,Z=[.bo (jU C b),.bo (j7 s),.bo (.int k),.cl (.int (s.place+1)),x,y,z]) (WC (zf k (s.place+1))) (.rt (.bl true)) (.inl ⟨_,rfl⟩) ?_ ⟨.un,.un,.un,rfl⟩
 ·rw[any_map t3 _ (zf k (s.place+1)) (zh _)]at L;unfold ZR;have e:=Xf C b;rcases L with⟨L1,L2⟩ | ⟨L1,Z',_,L2⟩ <;> rw[L1]
  ·exact fE (sq (by simp <;> rfl) (Yl (by rw[jW];simp[L2])))
  ·exact fE (sq (by simp <;> rfl) (sq (by rw[jW];simp[L2] <;> rfl) rfl))
 ·rintro d hd Z ⟨x,y,z,rfl⟩;obtain⟨t,_,rfl⟩:=uVa hd;obtain⟨u,v,w⟩:=t;refine⟨_,rfl,?_⟩;rw[zh];unfold zf;exact Ui (by by_cases h1:u=k <;> by_cases h2:v<=s.place+1 <;> simp[h1,h2]) rfl ⟨_,_,_,rfl⟩
def bn(C:Addr)(b:Bk)(s:Sd)(k:Int)(h:Z8 b k):U4 C [jU C b,j7 s,.int k]=some (.bl (ZJ b s k)):=by
 unfold ZJ;simp only[U4,u_];by_cases h1:s.kind=k <;> simp[h1,zD h.1 h.2]
def Xh(C:Addr)(b:Bk)(s:Sd)(k:Int)(X:Fit b s):VU C [jU C b,j7 s,.int k]=some (.bl (zg b s k)):=by
 unfold zg;simp only[VU,VT];by_cases h1:s.kind=k
 ·simp[h1]
 ·by_cases h2:s.kind=-1
  ·rw[h2]at h1;simp[h1,h2]
  ·simp[h1,h2,zD (ks:=b.kinds) (k:=s.kind) (by have:=X.c0;lia) X.c1]
def Xi(C:Addr)(s:Sd)(k:Int)(h0:0<=k)(h1:k < (s.waits.length:Int)):VW C [j7 s,.int k]=some (.bl (Yt s k)):=by
 unfold Yt;have e2:=J9 (f:=D.int) (xs:=s.waits) (d:=0) h0 h1;simp only[VW,VV];by_cases h1:s.kind=k <;> simp[h1,e2]
def bp(C:Addr)(b:Bk)(s:Sd)(k:Int):Ua C [jU C b,j7 s,.int k]=some (.bl (VZ b s k)):=by
 have L:=v8 (g:=Vt) (s:=zH C) (items:=b.shuns.map t3) (fun Z=>∃x y z u,Z=[.bo (jU C b),.bo (j7 s),.bo (.int k),x,y,z,u]) (WC (Z4 s k)) (.rt (.bl true)) (.inl ⟨_,rfl⟩) ?_ ⟨.un,.un,.un,.un,rfl⟩
 ·rw[any_map t3 _ (Z4 s k) (zh _)]at L;unfold VZ;have e:=QN C b;rcases L with⟨L1,L2⟩ | ⟨L1,Z',_,L2⟩ <;> rw[L1]
  ·exact fE (Yl (by rw[jW];simp[L2]))
  ·exact fE (sq (by rw[jW];simp[L2] <;> rfl) rfl)
 ·rintro d hd Z ⟨x,y,z,u0,rfl⟩;obtain⟨t,_,rfl⟩:=uVa hd;obtain⟨u,v,w⟩:=t;refine⟨_,rfl,?_⟩;rw[zh];unfold Z4;unfold zH;rw[sq (s2:=jg _ _ _) (Z1:=[.bo (jU C b),.bo (j7 s),.bo (.int k),.cl (.int u),.cl (.int v),.cl (.int w),.cl (.int (if w=1 then s.kind else s.before))]) (by by_cases h1:w=1 <;> simp[h1]) rfl];exact Ui (by by_cases h2:v=k <;> simp[h2]) rfl ⟨_,_,_,_,rfl⟩
def gQ{b:Bk}{s:Sd}{k:Int}(X:Fit b s):(JA b s k).length=b.dues.length:=by
 unfold JA;rw[List.length_zipWith,X.m]
 lia
def bq{b:Bk}{s:Sd}{i:Nat}{d:D}(h:(List.zipWith (fun p q=>D.tup [p,q]) (b.dues.map t3) (s.met.map D.bl))[i]?=some d):∃t m,b.dues[i]?=some t/\s.met[i]?=some m/\d=.tup [t3 t,.bl m]:=by
 rw[List.getElem?_zipWith,uAa,uAa]at h;cases h1:b.dues[i]? with
 | none=>rw[h1]at h;cases h
 | some t=>
  cases h2:s.met[i]? with
  | none=>rw[h1,h2]at h;cases h
  | some m=>rw[h1,h2]at h;cases h;exact⟨t,m,rfl,rfl,rfl⟩
def Uj{α:Type}{xs:List α}{i:Nat}{t:α}(h:xs[i]?=some t):xs.take (i+1)=xs.take i++[t]:=by
 rw[List.take_add_one,h];rfl
def QP(C:Addr)(b:Bk)(s:Sd)(k:Int)(ok:OkB b)(X:Fit b s):ZH C [jU C b,j7 s,.int k]=some (.tup ((JA b s k).map .bl)):=by
 have hl:=gQ (k:=k) X;have hd2:=ok.d2;have L:=JY (g:=Ub) (s:=vi C) (items:=List.zipWith (fun p q=>D.tup [p,q]) (b.dues.map t3) (s.met.map D.bl)) (fun i Z=>∃x y z u v,Z=[.bo (jU C b),.bo (j7 s),.bo (.int k),.cl (.int (s.place+1)),.ow none (.lst (((JA b s k).take i).map .bl)),x,y,z,u,v]) ?_ ⟨.un,.un,.un,.un,.un,rfl⟩
 ·obtain⟨Z',L1,x,y,z,u,v,rfl⟩:=L;have e:=gP C b;have hx:(List.zipWith (fun p q=>D.tup [p,q]) (b.dues.map t3) (s.met.map D.bl)).length=(JA b s k).length:=by
   rw[List.length_zipWith,vYa,vYa,X.m,hl];lia
  rw[hx,List.take_length,List.take_zero,uJa]at L1;simp only[ZH,VX];simp[-List.zipWith_map,L1]
 ·rintro i d Z hi ⟨x,y,z,u,v,rfl⟩;obtain⟨t,m,h1,h2,rfl⟩:=bq hi;have hg:(JA b s k)[i]?=some (m||zf k (s.place+1) t):=by
   unfold JA;rw[List.getElem?_zipWith,h1,h2]
  have hlt:i < b.dues.length:=(uSa h1).1;have hz:((JA b s k).take i).length < sizeLine:=jp (by rw[uOa];lia);have hz':min i (JA b s k).length < sizeLine:=jp (by lia);obtain⟨p,q,r⟩:=t;rw[Uj hg];unfold zf;refine⟨_,_,rfl,?_,.cl (t3 (p,q,r)),.cl (.bl m),.cl (.int p),.cl (.int q),.cl (.int r),rfl⟩;simp only[vi];cases m with
  | true=>simp[t3,hz']
  | false=>
   by_cases e1:p=k
   ·by_cases e2:q<=s.place+1 <;> simp[t3,hz',e1,e2]
   ·simp[t3,hz',e1]
def dA(C:Addr)(b:Bk)(s:Sd)(k:Int)(ok:OkB b)(X:Fit b s):Ud C [jU C b,j7 s,.int k]=some (.bl (vt b s k)):=by
 have e1:=QP C b s k ok X;have L:=v8 (g:=Vu) (s:=Vv C) (items:=(List.zip b.dues (JA b s k)).map fun p=>D.tup [t3 p.1,.bl p.2]) (fun Z=>∃x y,Z=[.bo (jU C b),.bo (j7 s),.bo (.int k),.cl (.int (s.place+1)),x,y]) (fun d=>match d with | .tup [t,.bl m]=>WC (fun t=>decide (t.2.2=s.place+1)&&!m) t | _=>false) (.rt (.bl true)) (.inl ⟨_,rfl⟩) ?_ ⟨.un,.un,rfl⟩
 ·rw[any_map (fun p:T3×Bool=>D.tup [t3 p.1,.bl p.2]) _ (fun p=>decide (p.1.2.2=s.place+1)&&!p.2) (fun p=>rfl)]at L;have ez:(List.zip b.dues (JA b s k)).map (fun p=>D.tup [t3 p.1,.bl p.2])=List.zipWith (fun p q=>D.tup [p,q]) (b.dues.map t3) ((JA b s k).map D.bl):=by
   rw[List.zipWith_map,List.zip,List.map_zipWith]
  rw[ez]at L;unfold vt;have e:=gP C b;rcases L with⟨L1,L2⟩ | ⟨L1,Z',_,L2⟩ <;> rw[L1]
  ·exact fE (sq (by simp <;> rfl) (Yl (by rw[jW];simp[-List.zipWith_map,L2,e1])))
  ·exact fE (sq (by simp <;> rfl) (sq (by rw[jW];simp[-List.zipWith_map,L2,e1] <;> rfl) rfl))
 ·rintro d hd Z ⟨x,y,rfl⟩;obtain⟨⟨t,m⟩,_,rfl⟩:=uVa hd;obtain⟨u,v,w⟩:=t;refine⟨_,rfl,?_⟩;simp only[zh];exact Ui (by by_cases h1:w=s.place+1 <;> simp[h1]) rfl ⟨_,_,rfl⟩
def dB(C:Addr)(b:Bk)(s:Sd)(k:Int)(h:Z8 b k):gM C [jU C b,j7 s,.int k]=some (.bl (Uh b s k)):=by
 unfold Uh;simp only[gM,gK];by_cases h1:s.place+1=b.size <;> simp[h1,gu,zD h.1 h.2]
def QQ(C:Addr)(b:Bk)(s:Sd)(k:Int)(ok:OkB b)(X:Fit b s)(h:Z8 b k):wR C [jU C b,j7 s,.int k]=some (oS (YI b s k)):=by
 have e1:=QO C b s k;have e2:=bn C b s k h;have e3:=Xh C b s k X;have e4:=Xi C s k h.1 (by rw[X.w];exact h.2);have e5:=bp C b s k;have e6:=dA C b s k ok X;have e7:=dB C b s k h;unfold YI;refine fE ?_;unfold gO;have go:∀{t:DT} {s2:DS.DS} {Z:je} {k:Bool} {w:Str} {o:Option Str},t Z=some k->s2 Z=some (.rt (oS o))->j4 (jg t (jh (dK (.str w))) ju) s2 Z=some (.rt (oS (if k=true then some w else o))):=fun {t s2 Z k w o} h1 h2=>by
  cases k
  ·exact sq (YQ h1 rfl) h2
  ·exact Yl (zZ h1 rfl)
 exact go (by simp[e1]) (go (by simp[e2]) (go (by simp[e3]) (go (by simp[e4]) (go (by simp[e5]) (go (by simp[e6]) (go (by simp[e7]) rfl))))))
def Xj(C:Addr)(b:Bk)(s:Sd)(k:Int)(ok:OkB b)(X:Fit b s)(h:Z8 b k):vk C [jU C b,j7 s,.int k]=some (.tup ((yl b s k).map .int)):=by
 have e:=QM C b;have c1:Js (gN 0) jA (jb uE [(false,d2 YB (dV 0) (dK (D.int 1))),(false,dK (D.int 0))]) (s.waits.map D.int) [.un]=some (s.waits.map fun x=>D.int (mx (x - 1) 0)):=J1 D.int _ fun t _=>⟨_,rfl,rfl,by simp[mx]⟩
 have hk2:=ok.k2;have hw:=X.w;have sz:s.waits.length<=sizeLine:=wQa (jp (by lia));have i1:∀n:Nat,n=s.waits.length->Yp n k=some k.toNat:=fun n hn=>uV h.1 (by have:=h.2;lia);simp only[vk,vj,yl];by_cases h1:s.kind=-1
 ·simp[c1,sz,h1,i1,List.map_set];rfl
 ·have i2:Yp s.waits.length s.kind=some s.kind.toNat:=uV (by have:=X.c0;lia) (by have:=X.c1;lia);simp[c1,sz,h1,i1,i2,List.map_set,zD (ks:=b.kinds) (k:=s.kind) (by have:=X.c0;lia) X.c1];rfl
def Xk(C:Addr)(b:Bk)(s:Sd)(k:Int)(ok:OkB b)(X:Fit b s)(h:Z8 b k):vn C [jU C b,j7 s,.int k]=some (j7 (Vz b s k)):=by
 simp only[vn,vm];simp[gu,Xj C b s k ok X h,QP C b s k ok X];rfl
def GK(b:Bk)(s:Sd)(k:Int):(yl b s k).length=s.waits.length:=by
 unfold yl;split <;> simp
set_option tactic.hygienic true in
theorem Fit.next{b:Bk}{s:Sd}(X:Fit b s){k:Int}(h:Z8 b k):Fit b (Vz b s k):=⟨by have:=h.1;show -1<=k;lia,h.2,by show(yl b s k).length=_;rw[GK,X.w],gQ X⟩
def Fit.empty(b:Bk):Fit b (ji b):=⟨by show -1<=(-1:Int);decide,by show(-1:Int) < _;lia,by simp[ji],by simp[ji]⟩
def jY{a b:Int}(h:0 < b):0<=a % b/\a % b < b:=⟨Int.emod_nonneg _ (by lia),Int.emod_lt_of_pos _ h⟩
def YH{α β:Type}(f:α->β)(xs:List α)(lo hi:Option Int):J6 (xs.map f) lo hi=(J6 xs lo hi).map f:=by
 unfold J6;rw[vYa,List.map_take,List.map_drop]
def wX{α:Type}(xs:List α)(lo hi:Option Int):(J6 xs lo hi).length<=xs.length:=by
 unfold J6;rw[uOa,uNa]
 lia
def wY{α:Type}(xs:List α)(n:Nat):J6 xs (some (n:Int)) none=xs.drop n:=by
 unfold J6;have e:HT.sIx xs.length xs.length none=xs.length:=rfl;rw[HT.sIx_nat,e];by_cases h:n<=xs.length
 ·rw[Nat.min_eq_left h,List.take_of_length_le (by rw[uNa];lia)]
 ·rw[Nat.min_eq_right (by lia),List.drop_of_length_le (by lia),List.drop_of_length_le (by lia)];simp
def QR{α:Type}(xs:List α)(n:Nat):J6 xs none (some (n:Int))=xs.take n:=by
 unfold J6;have e:HT.sIx xs.length 0 none=0:=rfl;rw[HT.sIx_nat,e,List.drop_zero,Nat.sub_zero];by_cases h:n<=xs.length
 ·rw[Nat.min_eq_left h]
 ·rw[Nat.min_eq_right (by lia),List.take_of_length_le (by lia),List.take_of_length_le (by lia)]
def Xl{α:Type}(xs:List α)(n m:Nat)(h1:n<=xs.length)(h2:m<=xs.length):J6 xs (some (n:Int)) (some (m:Int))=(xs.drop n).take (m - n):=by
 unfold J6;rw[HT.sIx_nat,HT.sIx_nat,Nat.min_eq_left h1,Nat.min_eq_left h2]
def ZK{i j:Int}(h1:-(2 ^ 64) < i)(h2:i < 2 ^ 64):uz i j=true:=by
 have e:(2:Int) ^ 64=18446744073709551616:=by decide
 rw[e]at h1 h2;unfold uz;rw[Bool.or_eq_true,Nat.blt_eq];exact .inl (by lia)
def qL(C:Addr)(ns:List Int)(m:Int)(h63:ns.length<=63)(m0:0<=m)(m1:m<=1000):∃ms:List Int,zF C [.scr ns,.int m]=some (.lst (ms.map .int))/\(ms.length:Int)=m:=by
 have inner:∀(v x seed:Int) (ms:List Int) (x6:Sl) (c:Nat),ms.length<=c->c<=5000->∃(ms':List Int) (v':Int) (x6':Sl),J5 YD (JZ C) (jX 0 60) [.bo (.scr ns),.bo (.int m),.ow none (.lst (ms.map .int)),.cl (.int seed),.cl (.int x),.cl (.int v),x6]=some (.nx [.bo (.scr ns),.bo (.int m),.ow none (.lst (ms'.map .int)),.cl (.int seed),.cl (.int x),.cl (.int v'),x6'])/\ms'.length<=c+60:=by
  intro v x seed ms x6 c hc hc2;have L:=JY (g:=YD) (s:=JZ C) (items:=jX 0 60) (fun i Z=>∃(ms':List Int) (v':Int) (x6':Sl),Z=[.bo (.scr ns),.bo (.int m),.ow none (.lst (ms'.map .int)),.cl (.int seed),.cl (.int x),.cl (.int v'),x6']/\ms'.length<=c+i) ?_ ⟨ms,v,x6,rfl,hc⟩
  ·obtain⟨Z',L1,ms',v',x6',rfl,hl⟩:=L;exact⟨ms',v',x6',L1,hl⟩
  ·rintro i d Z hi ⟨ms',v',x6',rfl,hl⟩;have hi60:i < 60:=by have:=(uSa hi).1;simpa[jX]using this
   have hz:ms'.length < sizeLine:=jp (by lia);by_cases h0:0 < v'
   ·refine⟨_,[.bo (.scr ns),.bo (.int m),.ow none (.lst ((ms'++[v' % 1009]).map .int)),.cl (.int seed),.cl (.int x),.cl (.int (v' / 1009)),.cl d],rfl,?_,ms'++[v' % 1009],v' / 1009,.cl d,rfl,by simp;lia⟩;simp[JZ,h0,hz]
   ·refine⟨_,[.bo (.scr ns),.bo (.int m),.ow none (.lst (ms'.map .int)),.cl (.int seed),.cl (.int x),.cl (.int v'),.cl d],rfl,?_,ms',v',.cl d,rfl,by lia⟩;simp[JZ,h0]
 have L:=JY (g:=yK) (s:=yL C) (items:=(J6 ns none (some 63)).map D.int) (fun i Z=>∃(ms:List Int) (seed:Int) (x4 x5 x6:Sl),Z=[.bo (.scr ns),.bo (.int m),.ow none (.lst (ms.map .int)),.cl (.int seed),x4,x5,x6]/\0<=seed/\seed < 2147483648/\ms.length<=i * 61) ?_ ⟨[],29,.un,.un,.un,rfl,by decide,by decide,by simp⟩
 ·obtain⟨Z',L1,ms,seed,x4,x5,x6,rfl,s0,s1,hl⟩:=L;have hc:=wX ns none (some 63);rw[vYa]at hl;have hl:ms.length<=4000:=by lia
  obtain⟨Z2,W1,⟨ms2,seed2,rfl,t0,t1,hl2⟩,W2⟩:=wO (dt:=J_ C) (s:=YE C) (fun Z=>∃(ms:List Int) (seed:Int),Z=[.bo (.scr ns),.bo (.int m),.ow none (.lst (ms.map .int)),.cl (.int seed),x4,x5,x6]/\0<=seed/\seed < 2147483648/\ms.length<=4000) (fun Z=>match Z with | [_,_,.ow _ (.lst l),_,_,_,_]=>6000 - l.length | _=>0) (fun Z=>by
    rintro⟨ms,seed,rfl,s0,s1,hl⟩;by_cases h:(ms.length:Int) < m
    ·right;refine⟨by simp[J_,h],?_⟩;have b1:=jY (a:=seed * seed+69621 * seed+7 * (ms.length:Int)+5) (b:=2147483629) (by decide);have hz:ms.length < sizeLine:=jp (by lia);refine⟨[.bo (.scr ns),.bo (.int m),.ow none (.lst ((ms++[(seed * seed+69621 * seed+7 * (ms.length:Int)+5) % 2147483629 / 1013 % 9973]).map .int)),.cl (.int ((seed * seed+69621 * seed+7 * (ms.length:Int)+5) % 2147483629)),x4,x5,x6],?_,⟨_,_,rfl,b1.1,by lia,by simp;lia⟩,by simp;lia⟩;simp[YE,ZK (i:=seed) (j:=seed) (by lia) (by lia),ZK (i:=69621) (j:=seed) (by decide) (by decide),ZK (i:=7) (j:=(ms.length:Int)) (by decide) (by decide),hz]
    ·left;simp[J_,h]) (n:=20000) ⟨ms,seed,rfl,s0,s1,hl⟩ (by simp;lia)
  have hm:m<=(ms2.length:Int):=by
   simp[J_]at W2
   lia
  refine⟨ms2.take m.toNat,?_,by rw[uOa];lia⟩;simp only[zF,zE];have em:m=((m.toNat:Nat):Int):=by lia
  have ec:J6 (ms2.map D.int) none (some m)=(ms2.take m.toNat).map D.int:=by
   have z:=QR ms2 m.toNat
   rw[<-em]at z;rw[YH,z]
  rw[uJa]at L1;have s60:Jd 60=true:=by decide
  simp[YH,L1,W1]at ec⊢;simp[ec]
 ·rintro i d Z hi ⟨ms,seed,x4,x5,x6,rfl,s0,s1,hl⟩;have hlt:i < 63:=by
   have h1:=(uSa hi).1;have h2:=wX ns none (some 63);rw[vYa]at h1
   lia
  obtain⟨x,rfl⟩:∃x,d=D.int x:=by
   rw[uAa]at hi;cases q:(J6 ns none (some 63))[i]? with
   | none=>rw[q]at hi;cases hi
   | some z=>rw[q]at hi;exact⟨z,(vFa hi).symm⟩
  have b1:=jY (a:=seed * 48271+x % 1000003+11) (b:=2147483647) (by decide);have s60:Jd 60=true:=by decide
  have hz:ms.length < sizeLine:=jp (by lia);by_cases h0:x - 10 ^ 18 < 0
  ·obtain⟨ms',v',x6',e,hl'⟩:=inner (x - 10 ^ 18) x ((seed * 48271+x % 1000003+11) % 2147483647) (ms++[x % 9973]) x6 (i * 61+1) (by simp;lia) (by lia);refine⟨_,[.bo (.scr ns),.bo (.int m),.ow none (.lst (ms'.map .int)),.cl (.int ((seed * 48271+x % 1000003+11) % 2147483647)),.cl (.int x),.cl (.int v'),x6'],rfl,?_,ms',_,_,_,_,rfl,b1.1,by lia,by lia⟩;rw[uDa]at e;simp only[yL,yK];simp at e h0;simp[ZK (i:=seed) (j:=48271) (by lia) (by lia),h0,hz,e,s60]
  ·obtain⟨ms',v',x6',e,hl'⟩:=inner (x - 10 ^ 18) x ((seed * 48271+x % 1000003+11) % 2147483647) ms x6 (i * 61+1) (by lia) (by lia);refine⟨_,[.bo (.scr ns),.bo (.int m),.ow none (.lst (ms'.map .int)),.cl (.int ((seed * 48271+x % 1000003+11) % 2147483647)),.cl (.int x),.cl (.int v'),x6'],rfl,?_,ms',_,_,_,_,rfl,b1.1,by lia,by lia⟩;simp only[yL,yK];simp at e h0;have h0':¬(x - 1000000000000000000 < 0):=by lia
   simp[ZK (i:=seed) (j:=48271) (by lia) (by lia),h0',hz,e,s60]
def yQ{ds:List Int}{k:Int}(h0:0<=k)(h1:k < (ds.length:Int)):∃v:Int,atI (ds.map D.int) k=some (.int v):=⟨_,J9 (d:=0) h0 h1⟩
def vz{α:Type}{p:α->Prop}{ts:List α}{t:α}(h:∀x∈ts,p x)(ht:p t):∀x∈ts++[t],p x:=fun x hx=>by
 rcases uWa hx with z | z
 ·exact h x z
 ·have e:x=t:=by simpa using z
  rw[e];exact ht
def ko{lo:Int}{n i:Nat}{d:D}(h:(jX lo n)[i]?=some d):i < n/\d=.int (lo+i):=by
 unfold jX at h;rw[uAa]at h;cases q:(List.range n)[i]? with
 | none=>rw[q]at h;cases h
 | some j=>
  rw[q]at h;obtain⟨h1,h2⟩:=uSa q;rw[List.getElem_range]at h2;rw[List.length_range]at h1;exact⟨h1,by rw[<-Option.some.inj h,h2]⟩
def GL(C:Addr)(m s n:Int)(ds:List Int)(m1:1<=m)(s1:1<=s)(s2:s<=1000)(n0:0<=n)(n1:n<=20)(hn:3 * n<=(ds.length:Int)):∃ts:List T3,Yg C [.int m,.int s,.int n,.lst (ds.map .int)]=some (.lst (ts.map t3))/\(ts.length:Int)=n/\∀t∈ts,fB m s t=true:=by
 have L:=JY (g:=vc) (s:=YF C) (items:=jX 0 n.toNat) (fun i Z=>∃(ts:List T3) (x y:Sl),Z=[.bo (.int m),.bo (.int s),.bo (.int n),.bo (.lst (ds.map .int)),.ow none (.lst (ts.map t3)),x,y]/\ts.length=i/\∀t∈ts,fB m s t=true) ?_ ⟨[],.un,.un,rfl,rfl,fun _ h=>by cases h⟩
 ·obtain⟨Z',L1,ts,x,y,rfl,hl,ht⟩:=L;have hr:(jX 0 n.toNat).length=n.toNat:=by simp[jX]
  rw[hr]at hl;refine⟨ts,?_,by lia,ht⟩;simp only[Yg,zG];rw[uJa]at L1;have e1:Jd n=true:=JL (by lia) (by lia);simp[e1,L1]
 ·rintro i d Z hi ⟨ts,x,y,rfl,hl,ht⟩;obtain⟨hi1,rfl⟩:=ko hi;have c3:uz 3 (0+(i:Int))=true:=ZK (by decide) (by decide);obtain⟨v1,a1⟩:=yQ (ds:=ds) (k:=3 * (0+(i:Int))+1) (by lia) (by lia);obtain⟨v0,a0⟩:=yQ (ds:=ds) (k:=3 * (0+(i:Int))) (by lia) (by lia);obtain⟨v2,a2⟩:=yQ (ds:=ds) (k:=3 * (0+(i:Int))+2) (by lia) (by lia);have f1:=jY (a:=v1) (b:=s) (by lia);have f3:=jY (a:=v2) (b:=s - (1+v1 % s)+1) (by lia);have f0:=jY (a:=v0) (b:=m) (by lia);have hz:ts.length < sizeLine:=jp (by lia);have q1:0 < s:=by lia
  have q2:0 < m:=by lia
  have q3:0 < s - (1+v1 % s)+1:=by lia
  refine⟨_,[.bo (.int m),.bo (.int s),.bo (.int n),.bo (.lst (ds.map .int)),.ow none (.lst ((ts++[(v0 % m,1+v1 % s,1+v1 % s+v2 % (s - (1+v1 % s)+1))]).map t3)),.cl (.int (0+(i:Int))),.cl (.int (1+v1 % s))],rfl,?_,_,_,_,rfl,by simp[hl],vz ht ?_⟩
  ·simp only[YF];simp at a0 a1 a2 c3;simp[c3,a0,a1,a2,q1,q2,q3,hz,t3]
  ·unfold fB;simp only[Bool.and_eq_true,decide_eq_true_eq]
   lia
def ZL{ns:List Int}{k lo hi:Int}(h0:0<=k)(h1:k < (ns.length:Int))(hb:∀v∈ns,lo<=v/\v<=hi):∃v,atI (ns.map D.int) k=some (.int v)/\lo<=v/\v<=hi:=by
 have hk:k.toNat < ns.length:=by lia
 refine⟨ns.getD k.toNat 0,J9 h0 h1,?_⟩;rw[uBa,uCa hk];exact hb _ (List.getElem_mem hk)
def dE{i c:Nat}{m:Int}(h:i < m.toNat)(h4:m<=c):i < c:=by lia
def En{le:Int}(h:le<=3):0 < 5 - (1+le)/\1+le < 5:=by lia
def Eo{x mo:Int}(h:x < mo)(h9:mo<=9):¬12 < 1+x:=by lia
def Ep{le x r:Int}(l0:0<=le)(l3:le<=3)(hx:0<=x/\x < 5 - (1+le))(r0:0<=r)(r4:r<=4):fK (1+le,1+le+x,r)=true:=by
 unfold fK;simp only[Bool.and_eq_true,decide_eq_true_eq]
 lia
def Er{m a b c:Int}(ha:0<=a/\a < m)(hb:0<=b/\b < m)(hc:0<=c/\c < 2):fS m (a,b,1+c)=true:=by
 unfold fS;simp only[Bool.and_eq_true,decide_eq_true_eq]
 lia
def FL{x mo:Int}(h:0<=x/\x < mo)(h9:mo<=9):1<=1+x/\1+x<=1000/\1+x<=30:=by lia
def FM{k:Nat}{m:Int}(h:k=m.toNat)(h1:1<=m)(h4:m<=4):1<=k/\k<=4/\(k:Int)=m:=by lia
def FN{k c:Nat}{n:Int}(h:k=n.toNat)(h1:n<=c):k<=c:=by lia
def aS{k c:Nat}{n:Int}(h:(k:Int)=n)(h1:n<=c):k<=c:=by lia
def dG{n a b:Int}(h:n<=a)(e:3 * a<=b):3 * n<=b:=by lia
def aU{n:Int}(h0:0<=n)(h1:n<=20):Jd n=true:=JL (by lia) (by lia)
def br(C:Addr)(ds:List Int)(mo:Int)(hn:62<=ds.length)(hn2:ds.length<=1000)(mo1:1<=mo)(mo2:mo<=9):∃b:Bk,V0 C [.lst (ds.map .int),.int mo]=some (jo b)/\OkB b/\b.size=1+ds.getD 1 0 % mo/\(b.kinds.length:Int)=([2,3,3,2,1,4,3]:List Int).getD (ds.getD 0 0 % 7).toNat 0:=by
 have at0:∀k:Int,0<=k->k < 62->∃v:Int,atI (ds.map D.int) k=some (.int v):=fun k h0 h1=>yQ h0 (by lia);have at1:∀(i:Nat) (k:Int),i < 4->0<=k->k<=10->∃v:Int,atI (ds.map D.int) (k+(0+(i:Int)))=some (.int v):=fun i k h h0 h1=>at0 _ (by lia) (by lia);have at2:∀i:Nat,i < 20->0<=44+3 * ((0+(i:Int)) % 5)+(0+(i:Int)) / 5/\44+3 * ((0+(i:Int)) % 5)+(0+(i:Int)) / 5+2 < 62:=fun i h=>by lia
 have gi:∀x:Int,0<=x/\x+2 < 62->(∃v:Int,atI (ds.map D.int) x=some (.int v))/\(∃v:Int,atI (ds.map D.int) (x+1)=some (.int v))/\∃v:Int,atI (ds.map D.int) (x+2)=some (.int v):=fun x h=>⟨at0 _ h.1 (by lia),at0 _ (by lia) (by lia),at0 _ (by lia) h.2⟩
 have lc:(J6 ds (some 26) (some 35)).length=9:=by
  have:=Xl ds 26 35 (by lia) (by lia);rw[show((26:Nat):Int)=26 from rfl,show((35:Nat):Int)=35 from rfl]at this;rw[this,uOa,uNa]
  lia
 obtain⟨u0,a0⟩:=at0 0 (by decide) (by decide);obtain⟨u1,a1⟩:=at0 1 (by decide) (by decide);have eu:u0=ds.getD 0 0/\u1=ds.getD 1 0:=by
  have b0:=J9 (f:=D.int) (xs:=ds) (d:=0) (k:=0) (by decide) (by lia);have b1:=J9 (f:=D.int) (xs:=ds) (d:=0) (k:=1) (by decide) (by lia);rw[a0]at b0;rw[a1]at b1;injection b0 with b0;injection b1 with b1;injection b0 with b0;injection b1 with b1;exact⟨b0,b1⟩
 obtain⟨u14,a14⟩:=at0 14 (by decide) (by decide);obtain⟨u15,a15⟩:=at0 15 (by decide) (by decide);obtain⟨u25,a25⟩:=at0 25 (by decide) (by decide);have g0:=jY (a:=u0) (b:=7) (by decide);have g1:=jY (a:=u1) (b:=mo) mo1;have gs:=FL g1 mo2;have g14:=jY (a:=u14) (b:=7) (by decide);have g15:=jY (a:=u15) (b:=6) (by decide);have g25:=jY (a:=u25) (b:=6) (by decide);obtain⟨m,pm,m1,m4⟩:=ZL (ns:=[2,3,3,2,1,4,3]) (k:=u0 % 7) (lo:=1) (hi:=4) g0.1 g0.2 (by decide);have em:m=([2,3,3,2,1,4,3]:List Int).getD (ds.getD 0 0 % 7).toNat 0:=by
  have b0:=J9 (f:=D.int) (xs:=[2,3,3,2,1,4,3]) (d:=0) (k:=u0 % 7) g0.1 g0.2;rw[pm]at b0;injection b0 with b0;injection b0 with b0;rw[b0,eu.1]
 obtain⟨nh,ph,nh0,nh1⟩:=ZL (ns:=[0,0,1,2,3,0,20]) (k:=u14 % 7) (lo:=0) (hi:=20) g14.1 g14.2 (by decide);obtain⟨nb,pb,nb0,nb1⟩:=ZL (ns:=[0,1,0,2,12,0]) (k:=u15 % 6) (lo:=0) (hi:=12) g15.1 g15.2 (by decide);obtain⟨nd,pd,nd0,nd1⟩:=ZL (ns:=[0,1,0,2,3,1]) (k:=u25 % 6) (lo:=0) (hi:=3) g25.1 g25.2 (by decide);clear g0 g14 g15 g25;have K1:=JY (g:=u8) (s:=Zj C) (items:=jX 0 m.toNat) (fun i Z=>∃(ts:List T3) (x5 x6 x7:Sl),Z=[.bo (.lst (ds.map .int)),.bo (.int mo),.cl (.int m),.cl (.int (1+u1 % mo)),.ow none (.lst (ts.map t3)),x5,x6,x7,.un,.un,.un,.un,.un]/\ts.length=i/\∀t∈ts,fK t=true) ?_ ⟨[],.un,.un,.un,rfl,rfl,fun _ h=>by cases h⟩
 rotate_left
 ·rintro i d Z hi ⟨ts,x5,x6,x7,rfl,hl,ht⟩;obtain⟨hi1,rfl⟩:=ko hi;have i4:=dE (c:=4) hi1 m4;obtain⟨w2,b2⟩:=at1 i 2 i4 (by decide) (by decide);obtain⟨w6,b6⟩:=at1 i 6 i4 (by decide) (by decide);obtain⟨w10,b10⟩:=at1 i 10 i4 (by decide) (by decide);have e2:=jY (a:=w2) (b:=7) (by decide);have e10:=jY (a:=w10) (b:=7) (by decide);obtain⟨le,pl,le0,le3⟩:=ZL (ns:=[0,0,1,0,2,3,1]) (k:=w2 % 7) (lo:=0) (hi:=3) e2.1 e2.2 (by decide);obtain⟨re,pr,re0,re4⟩:=ZL (ns:=[0,1,2,0,3,4,1]) (k:=w10 % 7) (lo:=0) (hi:=4) e10.1 e10.2 (by decide);clear e2 e10;obtain⟨q5,q5'⟩:=En le3;have e6:=jY (a:=w6) (b:=5 - (1+le)) q5;have e3:=jY (a:=re) (b:=3) (by decide);have hz:ts.length < sizeLine:=jp (by rw[hl];exact wSa (wQa i4) (by decide));have h3:=Eo g1.2 mo2;have fin:=fun r=>Ep (r:=r) le0 le3 e6;simp at b2 b6 b10 pl pr;unfold Zj;by_cases h2:m=4/\6 < 1+u1 % mo
  ·exact⟨_,_,rfl,sq (by simp[b2,pl] <;> rfl) (sq (by simp[b10,pr] <;> rfl) (sq (zZ (by simp[h2.1,h2.2]) (by simp <;> rfl)) (by simp[b6,q5,q5',hz] <;> rfl))),ts++[(1+le,1+le+w6 % (5 - (1+le)),re % 3)],.cl (.int (0+(i:Int))),.cl (.int (1+le)),.cl (.int (re % 3)),by simp[t3],by simp[hl],vz ht (fin _ e3.1 (Int.le_trans (Int.le_of_lt e3.2) (by decide)))⟩
  ·have h2':m=4->¬6 < 1+u1 % mo:=fun z y=>h2 ⟨z,y⟩;exact⟨_,_,rfl,sq (by simp[b2,pl] <;> rfl) (sq (by simp[b10,pr] <;> rfl) (sq (YQ (by by_cases z:m=4 <;> simp[z,h3,h2']) rfl) (by simp[b6,q5,q5',hz] <;> rfl))),ts++[(1+le,1+le+w6 % (5 - (1+le)),re)],.cl (.int (0+(i:Int))),.cl (.int (1+le)),.cl (.int re),by simp[t3],by simp[hl],vz ht (fin _ re0 re4)⟩
 obtain⟨Zk,K2,ks,x5,x6,x7,rfl,lk,hk⟩:=K1;have hrk:(jX 0 m.toNat).length=m.toNat:=by simp[jX]
 rw[hrk]at lk;have S1:=JY (g:=u9) (s:=Zl C) (items:=jX 0 nh.toNat) (fun i Z=>∃(ts:List T3) (x5 x9:Sl),Z=[.bo (.lst (ds.map .int)),.bo (.int mo),.cl (.int m),.cl (.int (1+u1 % mo)),.ow none (.lst (ks.map t3)),x5,x6,x7,.ow none (.lst (ts.map t3)),x9,.un,.un,.un]/\ts.length=i/\∀t∈ts,fS m t=true) ?_ ⟨[],x5,.un,rfl,rfl,fun _ h=>by cases h⟩
 rotate_left
 ·rintro i d Z hi ⟨ts,x5,x9,rfl,hl,ht⟩;obtain⟨hi1,rfl⟩:=ko hi;have i20:=dE (c:=20) hi1 nh1;obtain⟨⟨w0,b0⟩,⟨w1,b1⟩,w2,b2⟩:=gi _ (at2 i i20);have qm:0 < m:=m1;have e0:=jY (a:=w0) qm;have e1:=jY (a:=w1) qm;have e2:=jY (a:=w2) (b:=2) (by decide);have hz:ts.length < sizeLine:=jp (by rw[hl];exact wSa (wQa i20) (by decide));have c3:uz 3 ((0+(i:Int)) % 5)=true:=ZK (by decide) (by decide);refine⟨_,[.bo (.lst (ds.map .int)),.bo (.int mo),.cl (.int m),.cl (.int (1+u1 % mo)),.ow none (.lst (ks.map t3)),.cl (.int (0+(i:Int))),x6,x7,.ow none (.lst ((ts++[(w0 % m,w1 % m,1+w2 % 2)]).map t3)),.cl (.int (44+3 * ((0+(i:Int)) % 5)+(0+(i:Int)) / 5)),.un,.un,.un],rfl,?_,_,_,_,rfl,by simp[hl],vz ht (Er e0 e1 e2)⟩;simp only[Zl];simp at b0 b1 b2 c3;simp[c3,b0,b1,b2,qm,hz,t3]
 obtain⟨Zh,S2,hs,x5',x9,rfl,lh,hh⟩:=S1;have hrh:(jX 0 nh.toNat).length=nh.toNat:=by simp[jX]
 rw[hrh]at lh;obtain⟨ws,W1,W2⟩:∃ws:List Int,Js (gN 0) jA (d2 jv (d2 j8 (dV 1) (d2 jv (dK (.int 16)) (d2 jF (d2 yJ (dK (.int 5)) (dV 0)) (dK (.int 9))))) (d2 yJ (dK (.int 7)) (dV 0))) (jX 0 36) [.un,.bo (.lst (ds.map .int))]=some (ws.map D.int)/\ws.length=36:=by
  have:=J1 (g:=gN 0) (dc:=jA) (de:=d2 jv (d2 j8 (dV 1) (d2 jv (dK (.int 16)) (d2 jF (d2 yJ (dK (.int 5)) (dV 0)) (dK (.int 9))))) (d2 yJ (dK (.int 7)) (dV 0))) (Z:=[.un,.bo (.lst (ds.map .int))]) (fun i:Nat=>D.int (0+(i:Int))) (fun i:Nat=>D.int (ds.getD (16+5 * (0+(i:Int)) % 9).toNat 0+7 * (0+(i:Int)))) (xs:=List.range 36) fun i hi=>by
   have hi:=List.mem_range.mp hi;have d9:=jY (a:=5 * (0+(i:Int))) (b:=9) (by decide);have a:=J9 (f:=D.int) (xs:=ds) (d:=0) (k:=16+5 * (0+(i:Int)) % 9) (by lia) (by lia);have c5:uz 5 (0+(i:Int))=true:=ZK (by decide) (by decide);have c7:uz 7 (0+(i:Int))=true:=ZK (by decide) (by decide);refine⟨_,rfl,rfl,?_⟩;simp at a c5 c7;simp[c5,c7,a]
  refine⟨(List.range 36).map fun(i:Nat)=>ds.getD (16+5 * (0+(i:Int)) % 9).toNat 0+7 * (0+(i:Int)),?_,by simp⟩;rw[List.map_map];exact this
 obtain⟨bs,B1,B2,B3⟩:=GL C m (1+u1 % mo) nb ws m1 gs.1 gs.2.1 nb0 (Int.le_trans nb1 (by decide)) (by rw[W2];exact dG nb1 (by decide));have ec:J6 (ds.map D.int) (some 26) (some 35)=(J6 ds (some 26) (some 35)).map D.int:=YH _ _ _ _;have e3:=jY (a:=nd) (b:=3) (by decide);obtain⟨ek1,ek4,ek⟩:=FM lk m1 m4;have fin:∀n:Int,0<=n->n<=3->∀dd:List T3,(dd.length:Int)=n->(∀t∈dd,fB m (1+u1 % mo) t=true)->OkB ⟨1+u1 % mo,ks,hs,bs,dd⟩:=fun n n0 n3 dd hd hd2=>by
  refine⟨gs.1,gs.2.2,ek1,ek4,FN lh nh1,aS B2 nb1,aS hd n3,hk,?_,?_,?_⟩
  ·show∀t∈hs,fS (ks.length:Int) t=true;rw[ek];exact hh
  ·show∀t∈bs,fB (ks.length:Int) _ t=true;rw[ek];exact B3
  ·show∀t∈dd,fB (ks.length:Int) _ t=true;rw[ek];exact hd2
 have s1:Jd m=true:=aU (Int.le_trans (by decide) m1) (Int.le_trans m4 (by decide));have s2:Jd nh=true:=aU nh0 nh1;have z36:(36:Nat)<=sizeLine:=by decide
 have s3:Jd 36=true:=by decide
 have hrw:(jX 0 36).length=36:=by simp[jX]
 have qmo:0 < mo:=mo1;rw[uJa]at K2 S2;simp only[V0,v_];simp only[List.map_cons,List.map_nil]at pm ph pb pd;obtain⟨n,n0,n3,hn⟩:∃n:Int,0<=n/\n<=3/\jg (Jb (jl (d2 JW (dV 3) (dK (.int 5)))) (jl (d2 JW (dV 2) (dK (.int 2))))) (jk 12 (d2 jF (dV 12) (dK (.int 3)))) ju [.bo (.lst (ds.map .int)),.bo (.int mo),.cl (.int m),.cl (.int (1+u1 % mo)),.ow none (.lst (ks.map t3)),x5',x6,x7,.ow none (.lst (hs.map t3)),x9,.cl (.lst (ws.map .int)),.cl (.lst (bs.map t3)),.cl (.int nd)]=some (.nx [.bo (.lst (ds.map .int)),.bo (.int mo),.cl (.int m),.cl (.int (1+u1 % mo)),.ow none (.lst (ks.map t3)),x5',x6,x7,.ow none (.lst (hs.map t3)),x9,.cl (.lst (ws.map .int)),.cl (.lst (bs.map t3)),.cl (.int n)]):=by
  by_cases c1:5 < 1+u1 % mo/\2 < m
  ·exact⟨nd % 3,e3.1,Int.le_of_lt e3.2,zZ (by simp[c1.1,c1.2]) (by simp <;> rfl)⟩
  ·refine⟨nd,nd0,nd1,YQ ?_ rfl⟩;by_cases z:5 < 1+u1 % mo
   ·have y:¬2 < m:=fun y=>c1 ⟨z,y⟩;simp[z,y]
   ·simp[z]
 obtain⟨dd,D1,D2,D3⟩:=GL C m (1+u1 % mo) n (J6 ds (some 26) (some 35)) m1 gs.1 gs.2.1 n0 (Int.le_trans n3 (by decide)) (by rw[lc];exact dG n3 (by decide));refine⟨⟨1+u1 % mo,ks,hs,bs,dd⟩,fE ?_,fin n n0 n3 dd D2 D3,by show 1+u1 % mo=_;rw[eu.2],by show(ks.length:Int)=_;rw[ek,em]⟩;exact sq (by simp[a0,pm] <;> rfl) (sq (by simp[a1,qmo] <;> rfl) (sq (by simp <;> rfl) (sq (by simp[s1,K2] <;> rfl) (sq (by simp <;> rfl) (sq (by simp[a14,ph,s2,S2] <;> rfl) (sq (by simp[s3,W1,z36,hrw] <;> rfl) (sq (by simp[a15,pb,B1] <;> rfl) (sq (by simp[a25,pd] <;> rfl) (sq hn (by simp[ec,D1,jo] <;> rfl))))))))))
def v6{α:Type}(l:List α):uF (l.map fun _=>D.bl true)=some (l.map fun _=>true):=yo (fun _=>true) l
def wZ(C:Addr)(b:Bk)(ok:OkB b):YY C [jo b]=some (j7 (ji b)):=by
 have c1:Js (gN 0) jA (dK (.int 0)) (b.kinds.map t3) [.un]=some (b.kinds.map fun _=>D.int 0):=J1 t3 _ fun t _=>⟨_,rfl,rfl,rfl⟩
 have c2:Js (gN 0) jA (dK (.bl false)) (b.dues.map t3) [.un]=some (b.dues.map fun _=>D.bl false):=J1 t3 _ fun t _=>⟨_,rfl,rfl,rfl⟩
 have h1:b.kinds.length<=sizeLine:=wQa (jp (by have:=ok.k2;lia));have h2:b.dues.length<=sizeLine:=wQa (jp (by have:=ok.d2;lia));simp only[YY,vd];simp[c1,c2,h1,h2,ji,j7];exact⟨List.map_const' ..,List.map_const' ..⟩
structure Form (b:Bk) (s:Sd):Prop extends Fit b s where
 wn:∀x∈s.waits,0<=x
def UR(b:Bk)(s:Sd)(k:Int):Bool:=ZJ b s k||(zg b s k||(Yt s k||VZ b s k))
def w_{xs:List Int}{k:Int}(h0:0<=k)(h1:k < (xs.length:Int)):xs.getD k.toNat 0∈xs:=by
 have hk:k.toNat < xs.length:=by lia
 rw[uBa,uCa hk];exact List.getElem_mem hk
def dH(s:Sd):VL (j7 s) (some 1) (some 5)=some (.tup [.int s.kind,.int s.len,.int s.before,.tup (s.waits.map .int)]):=by
 have sh:HT.sIx 6 0 (some 1)=1:=by decide
 have sh2:HT.sIx 6 6 (some 5)=5:=by decide
 simp[VL,j7,J6,sh,sh2]
def QS(C:Addr)(b:Bk)(s:Sd)(k:Int)(ok:OkB b)(X:Form b s)(h:Z8 b k):Z0 C [jo b,j7 s,.int k]=some (.bl (UR b s k)):=by
 have hw:k < (s.waits.length:Int):=by rw[X.w];exact h.2
 have hx:=X.wn _ (w_ h.1 hw);have ew:=J9 (f:=D.int) (xs:=s.waits) (d:=0) h.1 hw;have ea:Yt s k=(!decide (s.kind=k)&&decide (0 < s.waits.getD k.toNat 0)):=by
  unfold Yt;by_cases z:s.waits.getD k.toNat 0=0
  ·rw[z];rfl
  ·rw[decide_eq_false z,decide_eq_true (show 0 < s.waits.getD k.toNat 0 by lia)];rfl
 have ek:=zD h.1 h.2;revert hx ew ea;generalize s.waits.getD k.toNat 0=wv;intro hx ew ea
 let R:Sl->Sl->Sl->je:=fun x y z=>[.bo (jo b),.bo (j7 s),.bo (.int k),.cl (.int s.kind),.cl (.int s.len),.cl (.int s.before),.cl (.tup (s.waits.map .int)),x,y,z]
 have L:=v8 (g:=YT) (s:=YU C) (items:=b.shuns.map t3) (fun Z=>∃x y z,Z=R x y z) (WC (Z4 s k)) (.rt (.bl true)) (.inl ⟨_,rfl⟩) ?_ ⟨.un,.un,.un,rfl⟩
 ·rw[any_map t3 _ (Z4 s k) (zh _)]at L;have t1:(Jb (jl (d2 jH (dV 2) (dV 3))) (jl (d2 Vm (dV 4) (d2 j8 (d2 j8 (d2 j8 (dV 0) (dN 1)) (dV 2)) (dN 1))))) (R .un .un .un)=some (ZJ b s k):=by
   unfold ZJ;by_cases e:s.kind=k
   ·simp[R,e,ek]
   ·have e':¬k=s.kind:=fun z=>e z.symm;simp[R,e,e']
  have t2:(Jb (jl (d2 Jv (dV 2) (dV 3))) (Y8 (Jb (jl (d2 Jv (dV 3) (yB (dN 1)))) (jl (d2 Zy (dV 4) (d2 j8 (d2 j8 (d2 j8 (dV 0) (dN 1)) (dV 3)) (dN 0))))) (jl (d2 JW (d2 j8 (dV 6) (dV 2)) (dN 0))))) (R .un .un .un)=some (zg b s k||Yt s k):=by
   rw[ea];unfold zg;by_cases e:s.kind=k
   ·simp[R,e]
   ·have e':¬k=s.kind:=fun z=>e z.symm;by_cases e2:s.kind=-1
    ·have e3:¬k=-1:=fun z=>e (e2.trans z.symm);have e5:¬-1=k:=fun z=>e (e2.trans z);simp[R,e2,ew,e3,e5]
    ·have ek2:=zD (ks:=b.kinds) (k:=s.kind) (by have:=X.c0;lia) X.c1;by_cases e4:s.len < (gi b.kinds s.kind).1
     ·simp[R,e,e',e2,ek2,e4]
     ·simp[R,e,e',e2,ek2,e4,ew]
  have eT:UR b s k=(ZJ b s k||((zg b s k||Yt s k)||VZ b s k)):=by unfold UR;rw[Bool.or_assoc]
  rw[eT];refine fE (sq (Z1:=R .un .un .un) (by simp[R,dH s,JC]) ?_);cases hl:ZJ b s k with
  | true=>rw[hl]at t1;exact Yl (zZ t1 rfl)
  | false=>
   rw[hl]at t1;refine sq (YQ t1 rfl) ?_;cases hs:(zg b s k||Yt s k)with
   | true=>rw[hs]at t2;exact Yl (zZ t2 rfl)
   | false=>
    rw[hs]at t2;refine sq (YQ t2 rfl) ?_;have hS:VZ b s k=b.shuns.any (Z4 s k):=rfl;rcases L with⟨L1,L2⟩ | ⟨L1,Z',_,L2⟩
    ·rw[hS,L1];exact Yl (by rw[jW];simp[R]at L2⊢;exact L2)
    ·rw[hS,L1];exact sq (Z1:=Z') (by rw[jW];simp[R]at L2⊢;exact L2) rfl
 ·rintro d hd Z ⟨x,y,z,rfl⟩;obtain⟨t,ht,rfl⟩:=uVa hd;have hf:=ok.hs t ht;obtain⟨u,v,w⟩:=t;unfold fS at hf;simp only[Bool.and_eq_true,decide_eq_true_eq]at hf;refine⟨R (.cl (.int u)) (.cl (.int v)) (.cl (.int w)),rfl,?_⟩;rw[zh];have ev:atI [D.int s.kind,D.int s.before] (w - 1)=some (.int (if w=1 then s.kind else s.before)):=by
   have:w=1 \/ w=2:=by lia
   rcases this with rfl | rfl <;> rfl
  unfold Z4;exact Ui (I:=fun Z=>∃x y z,Z=R x y z) (by by_cases h2:v=k <;> simp[R,h2,ev]) rfl ⟨_,_,_,rfl⟩
def Xm{b:Bk}{s:Sd}{k:Int}{i:Nat}{t:T3}{m:Bool}(ht:b.dues[i]?=some t)(hm:s.met[i]?=some m):(JA b s k)[i]?=some (m||zf k (s.place+1) t):=by
 unfold JA;rw[List.getElem?_zipWith,ht,hm]
def W0{l:List T3}{i:Nat}{d:D}(h:(Y0 0 (l.map t3))[i]?=some d):∃t,l[i]?=some t/\d=.tup [.int (i:Int),t3 t]:=by
 obtain⟨d',h1,h2⟩:=uH 0 _ i d h;rw[uAa]at h1;cases q:l[i]? with
 | none=>rw[q]at h1;cases h1
 | some t=>
  rw[q]at h1;cases h1;exact⟨t,rfl,by rw[h2,Nat.zero_add]⟩
def bt(C:Addr)(b:Bk)(s:Sd)(k:Int)(ok:OkB b)(X:Fit b s):VS C [jo b,.int (s.place+1),.tup (s.met.map .bl),.int k]=some (if vt b s k=true then .non else .lst ((JA b s k).map .bl)):=by
 have hl:=gQ (k:=k) X;have hd2:=ok.d2;have L:=wN (r:=.nx []) (g:=uX) (s:=YV C) (items:=Y0 0 (b.dues.map t3)) (fun i Z=>(∃x5 x6 x7 x8,Z=[.bo (jo b),.bo (.int (s.place+1)),.bo (.tup (s.met.map .bl)),.bo (.int k),.ow none (.lst (((JA b s k).take i).map .bl)),x5,x6,x7,x8])/\∀j,j < i->∀t m,b.dues[j]?=some t->(JA b s k)[j]?=some m->(decide (t.2.2=s.place+1)&&!m)=false)
  (fun i r=>r=.rt .non/\∃t m,b.dues[i]?=some t/\(JA b s k)[i]?=some m/\(decide (t.2.2=s.place+1)&&!m)=true) ?_ ⟨⟨.un,.un,.un,.un,rfl⟩,fun j hj=>by lia⟩
 ·have hz:∀i t m,b.dues[i]?=some t->(JA b s k)[i]?=some m->(t,m)∈List.zip b.dues (JA b s k):=fun i t m h1 h2=>wYa (i:=i) (by rw[List.getElem?_zip_eq_some];exact⟨h1,h2⟩);simp only[VS,VR];rcases L with⟨Z',L1,⟨x5,x6,x7,x8,rfl⟩,L2⟩ | ⟨i,d',hi,L1,L2,t,m,h1,h2,h3⟩
  ·rw[zU,vYa,<-hl,List.take_length]at L1;have hd:vt b s k=false:=by
    unfold vt;rw[List.any_eq_false];rintro⟨t,m⟩ hm;obtain⟨i,hi⟩:=List.mem_iff_getElem?.mp hm;rw[List.getElem?_zip_eq_some]at hi;have hi':i < b.dues.length:=(uSa hi.1).1;have:=L2 i (by rw[zU,vYa];exact hi') t m hi.1 hi.2;rw[this];exact vNa
   rw[hd];rw[List.take_zero,uJa]at L1;simp[L1]
  ·cases L2;have hd:vt b s k=true:=by
    unfold vt;rw[List.any_eq_true];exact⟨(t,m),hz i t m h1 h2,h3⟩
   rw[hd];rw[List.take_zero,uJa]at L1;simp[L1]
 ·rintro i d Z hi ⟨⟨x5,x6,x7,x8,rfl⟩,hj⟩;obtain⟨t,ht,rfl⟩:=W0 hi;have hlt:i < b.dues.length:=(uSa ht).1;have hm:s.met[i]?=some (s.met[i]'(by have:=X.m;lia)):=by simp
  revert hm;generalize s.met[i]'(by have:=X.m;lia)=m;intro hm;have hg:=Xm (k:=k) ht hm;have ea:atI (s.met.map D.bl) (i:Int)=some (.bl m):=yD (by lia) (by rw[uAa];simp[hm]);have lenT:((JA b s k).take i).length=i:=by rw[uOa];lia
  revert lenT;generalize hT:(JA b s k).take i=L;intro lenT;have hz':L.length < sizeLine:=jp (by lia);have eb:∀c:Bool,atI (L.map D.bl++[.bl c]) (i:Int)=some (.bl c):=fun c=>yD (by lia) (by
   rw[List.getElem?_append_right (by rw[vYa];lia),vYa];have:(i:Int).toNat - L.length=0:=by lia
   rw[this];rfl)
  obtain⟨p,q,r⟩:=t
  let R:List Bool->je:=fun l=>[.bo (jo b),.bo (.int (s.place+1)),.bo (.tup (s.met.map .bl)),.bo (.int k),.ow none (.lst (l.map .bl)),.cl (.int (i:Int)),.cl (.int p),.cl (.int q),.cl (.int r)]
  have key:∀c:Bool,(m||zf k (s.place+1) (p,q,r))=c->(((r=s.place+1/\c=false)/\YV C (R L)=some (.rt .non)) \/ (¬(r=s.place+1/\c=false)/\YV C (R L)=some (.nx (R (L++[c]))))):=by
   intro c hc;have ev:(uC (d2 j8 (dV 2) (dV 5)) (JB (d2 jH (dV 6) (dV 3)) (Jl Jo Jo (dV 7) (dV 1) (dV 8)))) (R L)=some (.bl c):=by
    rw[<-hc];unfold zf;cases m with
    | true=>simp[R,ea]
    | false=>
     by_cases e1:p=k
     ·by_cases e2:q<=s.place+1 <;> simp[R,ea,e1,e2]
     ·simp[R,ea,e1]
   have e4:yi 4 (uC (d2 j8 (dV 2) (dV 5)) (JB (d2 jH (dV 6) (dV 3)) (Jl Jo Jo (dV 7) (dV 1) (dV 8)))) (R L)=some (.nx (R (L++[c]))):=by
    generalize (uC (d2 j8 (dV 2) (dV 5)) (JB (d2 jH (dV 6) (dV 3)) (Jl Jo Jo (dV 7) (dV 1) (dV 8))))=dd at ev⊢;simp[R]at ev;simp[R,ev,hz']
   by_cases e0:r=s.place+1/\c=false
   ·exact .inl ⟨e0,sq e4 (zZ (by simp[R,eb,e0.1,e0.2]) rfl)⟩
   ·refine .inr ⟨e0,sq e4 (YQ ?_ rfl)⟩;by_cases e1:r=s.place+1
    ·have:c=true:=by cases c <;> simp_all
     simp[R,eb,e1,this]
    ·simp[R,e1]
  refine⟨_,rfl,?_⟩;rcases key _ rfl with⟨⟨e1,e2⟩,e3⟩ | ⟨e1,e3⟩
  ·exact .inr ⟨_,e3,rfl,_,_,ht,hg,by rw[e2];simp[e1]⟩
  ·refine .inl ⟨_,e3,⟨_,_,_,_,by rw[Uj hg,hT]⟩,fun j hj' t m h1 h2=>?_⟩;by_cases ej:j < i
   ·exact hj j ej t m h1 h2
   ·have ej:j=i:=by lia
    subst ej;rw[ht]at h1;rw[hg]at h2;cases h1;cases h2;rw[Bool.eq_false_iff];intro z;simp only[Bool.and_eq_true,decide_eq_true_eq,Bool.not_eq_true']at z;exact e1 z
def yN(b:Bk)(s:Sd)(k:Int):Option Sd:=if s.place>=b.size then none else if (YI b s k).isSome=true then none else some (Vz b s k)
def Z9:Option Sd->D
 | none=>.non
 | some s=>j7 s
noncomputable def GM(b:Bk)(s:Sd)(k:Int)(i:Nat)(t:T3)(x:Int):Int:=if (i:Int)=k then 0 else mx ((if (i:Int)=s.kind then t.2.2 else x) - 1) 0
def bu{b:Bk}{s:Sd}{k:Int}{i:Nat}{t:T3}{x:Int}(X:Fit b s)(h:Z8 b k)(ht:b.kinds[i]?=some t)(hx:s.waits[i]?=some x):(yl b s k)[i]?=some (GM b s k i t x):=by
 have hi:i < s.waits.length:=(uSa hx).1;have k0:=h.1;have e3:∀j:Int,0<=j->j.toNat=i->gi b.kinds j=t:=fun j h0 h1=>by
  unfold gi;rw[h1,uBa,ht];rfl
 unfold yl GM;by_cases e1:(i:Int)=k
 ·have e1':k.toNat=i:=by lia
  rw[if_pos e1,e1',List.getElem?_set];rw[if_pos rfl,if_pos (by split <;> simp <;> lia)]
 ·have e1':k.toNat≠i:=by lia
  rw[if_neg e1,List.getElem?_set,if_neg e1'];by_cases e2:s.kind=-1
  ·rw[if_pos e2,if_neg (by lia),uAa,hx];rfl
  ·have c0:=X.c0;rw[if_neg e2,List.getElem?_set];by_cases e4:(i:Int)=s.kind
   ·have e4':s.kind.toNat=i:=by lia
    rw[if_pos e4',if_pos e4,if_pos (by rw[vYa];lia),e3 s.kind (by lia) e4']
   ·have e4':¬s.kind.toNat=i:=by lia
    rw[if_neg e4',if_neg e4,uAa,hx];rfl
def dI(w:Int):(if w - 1 > 0 then w - 1 else 0)=mx (w - 1) 0:=by
 unfold mx;split <;> split <;> lia
def Wk(b:Bk)(s:Sd)(k:Int):(YI b s k).isSome=(ZR b s k||(UR b s k||(vt b s k||Uh b s k))):=by
 unfold YI UR;cases ZR b s k <;> cases ZJ b s k <;> cases zg b s k <;> cases Yt s k <;> cases VZ b s k <;> cases vt b s k <;> cases Uh b s k <;> rfl
def gR(C:Addr)(b:Bk)(s:Sd)(k:Int)(ok:OkB b)(X:Form b s)(h:Z8 b k):zP C [jo b,j7 s,.int k]=some (Z9 (yN b s k)):=by
 have ek:=zD h.1 h.2;have e1:=QS C b s k ok X h;have e2:=bt C b s k ok X.toFit;have hk2:=ok.k2;have er:∀Z:je,(gA (jl (d2 jH (dV 2) (dV 4))) (d2 jv (dV 5) (dK (.int 1))) (dK (.int 1))) (.bo (jo b)::.cl (j7 s)::.cl (.int k)::.cl (.int s.place)::.cl (.int s.kind)::.cl (.int s.len)::Z)=some (.int (Ve s k)):=fun Z=>by
  unfold Ve;by_cases z:s.kind=k
  ·simp[z]
  ·have z':¬k=s.kind:=fun y=>z y.symm;simp[z,z']
 have L:=v8 (g:=ub) (s:=Zo C) (items:=b.bars.map t3) (fun Z=>∃x y z,Z=[.bo (jo b),.cl (j7 s),.cl (.int k),.cl (.int s.place),.cl (.int s.kind),.cl (.int s.len),.cl (.int s.before),.cl (.tup (s.waits.map .int)),.cl (.tup (s.met.map .bl)),.cl (.int (s.place+1)),.cl (.int (Ve s k)),x,y,z,.un,.un,.un,.un,.un,.un,.un]) (WC (zf k (s.place+1))) (.rt .non) (.inl ⟨_,rfl⟩) ?_ ⟨.un,.un,.un,rfl⟩
 ·rw[any_map t3 _ (zf k (s.place+1)) (zh _)]at L;have L2:=fun(x y z:Sl)=>JY (g:=uc) (s:=ud C) (items:=Y0 0 (b.kinds.map t3)) (fun i Z=>∃x16 x17 x18 x19 x20,Z=[.bo (jo b),.cl (j7 s),.cl (.int k),.cl (.int s.place),.cl (.int s.kind),.cl (.int s.len),.cl (.int s.before),.cl (.tup (s.waits.map .int)),.cl (.tup (s.met.map .bl)),.cl (.int (s.place+1)),.cl (.int (Ve s k)),x,y,z,.cl (.lst ((JA b s k).map .bl)),.ow none (.lst (((yl b s k).take i).map .int)),x16,x17,x18,x19,x20]) (by
   rintro i d Z hi ⟨x16,x17,x18,x19,x20,rfl⟩;obtain⟨t,ht,rfl⟩:=W0 hi;have hlt:i < b.kinds.length:=(uSa ht).1;have hw:s.waits[i]?=some (s.waits[i]'(by have:=X.w;lia)):=by simp
   revert hw;generalize s.waits[i]'(by have:=X.w;lia)=w;intro hw;have hg:=bu X.toFit h ht hw;have ea:atI (s.waits.map D.int) (i:Int)=some (.int w):=yD (by lia) (by rw[uAa];simp[hw]);have lenT:((yl b s k).take i).length<=i:=by rw[uOa];lia
   rw[Uj hg];revert lenT;generalize (yl b s k).take i=T;intro lenT;have hz':T.length < sizeLine:=jp (by lia);obtain⟨p,q,r⟩:=t
   let Q:List Int->Sl->je:=fun l e=>[.bo (jo b),.cl (j7 s),.cl (.int k),.cl (.int s.place),.cl (.int s.kind),.cl (.int s.len),.cl (.int s.before),.cl (.tup (s.waits.map .int)),.cl (.tup (s.met.map .bl)),.cl (.int (s.place+1)),.cl (.int (Ve s k)),x,y,z,.cl (.lst ((JA b s k).map .bl)),.ow none (.lst (l.map .int)),.cl (.int (i:Int)),.cl (.int p),.cl (.int q),.cl (.int r),e]
   refine⟨Q T x20,Q (T++[GM b s k i (p,q,r) w]) (.cl (.int (if (i:Int)=s.kind then r else w))),rfl,sq (Z1:=Q T (.cl (.int w))) (by simp[Q,ea]) (sq (Z1:=Q T (.cl (.int (if (i:Int)=s.kind then r else w)))) (by by_cases c1:(i:Int)=s.kind <;> simp[Q,c1]) ?_),_,_,_,_,_,rfl⟩;unfold GM;show yi 15 _ (Q T (.cl (.int (if (i:Int)=s.kind then r else w))))=some (.nx (Q (T++[if (i:Int)=k then 0 else mx ((if (i:Int)=s.kind then r else w) - 1) 0]) (.cl (.int (if (i:Int)=s.kind then r else w)))));generalize (if (i:Int)=s.kind then r else w)=v;by_cases c2:(i:Int)=k
   ·simp[Q,c2,hz']
   ·have em:=dI v;simp at em;simp[Q,c2,hz',em]) ⟨.un,.un,.un,.un,.un,rfl⟩
  have hwl:(Y0 0 (b.kinds.map t3)).length=(yl b s k).length:=by rw[zU,vYa,GK,X.w]
  unfold yN;rw[Wk];have hb0:ZR b s k=b.bars.any (zf k (s.place+1)):=rfl
  let R:Sl->Sl->Sl->Sl->Sl->Sl->Sl->Sl->Sl->Sl->je:=fun x y z m l x16 x17 x18 x19 x20=>[.bo (jo b),.cl (j7 s),.cl (.int k),.cl (.int s.place),.cl (.int s.kind),.cl (.int s.len),.cl (.int s.before),.cl (.tup (s.waits.map .int)),.cl (.tup (s.met.map .bl)),.cl (.int (s.place+1)),.cl (.int (Ve s k)),x,y,z,m,l,x16,x17,x18,x19,x20]
  refine fE (sq rfl (sq rfl (sq (Z1:=R .un .un .un .un .un .un .un .un .un .un) (by
   show jk 10 _ (.bo (jo b)::.cl (j7 s)::.cl (.int k)::.cl (.int s.place)::.cl (.int s.kind)::.cl (.int s.len)::[.cl (.int s.before),.cl (.tup (s.waits.map .int)),.cl (.tup (s.met.map .bl)),.cl (.int (s.place+1)),.un,.un,.un,.un,.un,.un,.un,.un,.un,.un,.un])=_;rw[jk,er];rfl) ?_)))
  by_cases c0:s.place>=b.size
  ·rw[if_pos c0];have c0':b.size < s.place+1:=by lia
   exact Yl (zZ (by simp[R,c0']) rfl)
  ·rw[if_neg c0];have c0':¬b.size < s.place+1:=by lia
   refine sq (YQ (by simp[R,c0']) rfl) ?_;rcases L with⟨L1,Lb⟩ | ⟨L1,Z',⟨x,y,z,rfl⟩,Lb⟩
   ·rw[hb0,L1];exact Yl (by rw[jW];exact Lb)
   ·rw[hb0,L1];refine sq (Z1:=R x y z .un .un .un .un .un .un .un) (by rw[jW];exact Lb) ?_;cases ht:UR b s k with
    | true=>
     rw[ht]at e1;exact Yl (zZ (by simp[R,e1]) rfl)
    | false=>
     rw[ht]at e1;refine sq (YQ (by simp[R,e1]) rfl) ?_;cases hd:vt b s k with
     | true=>
      rw[hd]at e2;exact sq (Z1:=R x y z (.cl .non) .un .un .un .un .un .un) (by simp[R]at e2⊢;simp[e2]) (Yl (zZ (by simp[R]) rfl))
     | false=>
      rw[hd]at e2;refine sq (Z1:=R x y z (.cl (.lst ((JA b s k).map .bl))) .un .un .un .un .un .un) (by simp[R]at e2⊢;simp[e2]) (sq (YQ (by simp[R]) rfl) ?_);obtain⟨Z2,M1,x16,x17,x18,x19,x20,rfl⟩:=L2 x y z;rw[hwl,List.take_length,List.take_zero,uJa]at M1;have tc:(Jb (jl (d2 jH (dV 9) (d2 j8 (dV 0) (dN 0)))) (jl (d2 Zy (dV 10) (d2 j8 (d2 j8 (d2 j8 (dV 0) (dN 1)) (dV 2)) (dN 0))))) (R x y z (.cl (.lst ((JA b s k).map .bl))) .un .un .un .un .un .un)=some (Uh b s k):=by
       unfold Uh;by_cases c5:s.place+1=b.size
       ·simp[R,c5,ek]
       ·simp[R,c5]
      cases hc:Uh b s k with
      | true=>rw[hc]at tc;exact Yl (zZ tc rfl)
      | false=>
       rw[hc]at tc;refine sq (YQ tc rfl) (sq rfl (sq (by rw[jW];exact M1) ?_));simp[Z9,j7,Vz]
 ·rintro d hd Z ⟨x,y,z,rfl⟩;obtain⟨t,_,rfl⟩:=uVa hd;obtain⟨u,v,w⟩:=t;refine⟨_,rfl,?_⟩;rw[zh];unfold zf;simp only[Zo];by_cases h1:u=k
  ·by_cases h2:v<=s.place+1
   ·by_cases h3:s.place+1<=w <;> simp[h1,h2,h3]
   ·simp[h1,h2]
  ·simp[h1]
theorem vU:∀l:List Int,ym (l.map D.int)=0
 | []=>rfl
 | x::l=>by rw[vWa,ym,vU l];rfl
theorem vV:∀l m:List Int,l.length=m.length->JF (l.map D.int) (m.map D.int)=some (decide (l=m))
 | [],[],_=>rfl
 | [],_::_,h=>by simp at h
 | _::_,[],h=>by simp at h
 | x::l,y::m,h=>by
  rw[vWa,vWa,JF,vV l m (by simpa using h),yC];simp only[Option.bind_some,Option.some.injEq];by_cases h1:x=y <;> by_cases h2:l=m <;> simp[h1,h2]
def W3{l:List D}{d:D}:atI (l++[d]) (-1)=some d:=by
 unfold atI Yp;rw[if_neg (by decide),if_pos (by simp;lia),vZa,uIa];have:(-1+((l.length+1:Nat):Int)).toNat=l.length:=by lia
 simp only[Option.bind_some];rw[this];simp[getElem?_pos]
def aV(x:Int):0<=mx x 0:=by unfold mx;split <;> lia
def W4{xs:List Int}{i:Nat}{x y:Int}(h:y∈xs.set i x):y∈xs \/ y=x:=List.mem_or_eq_of_mem_set h
set_option tactic.hygienic true in
theorem Form.next{b:Bk}{s:Sd}(X:Form b s){k:Int}(h:Z8 b k):Form b (Vz b s k):=by
 refine⟨X.toFit.next h,fun x hx=>?_⟩;have hx:x∈yl b s k:=hx;unfold yl at hx;have hm:∀x∈s.waits.map (fun x=>mx (x - 1) 0),0<=x:=fun x hx=>by
  obtain⟨y,_,rfl⟩:=uVa hx;exact aV _
 rcases W4 hx with hx | rfl
 ·split at hx
  ·exact hm x hx
  ·rcases W4 hx with hx | rfl
   ·exact hm x hx
   ·exact aV _
 ·lia
def Form.empty(b:Bk):Form b (ji b):=⟨Fit.empty b,fun x hx=>by
 have:=List.eq_of_mem_replicate hx
 lia⟩
set_option tactic.hygienic true in
theorem zk{b:Bk}{s s':Sd}{k:Int}(h:yN b s k=some s'):YI b s k=none/\s'=Vz b s k/\s.place < b.size:=by
 unfold yN at h;split at h
 ·cases h
 ·split at h
  ·cases h
  ·rename_i h1 h2;cases h;refine⟨?_,rfl,by lia⟩;cases q:YI b s k with
   | none=>rfl
   | some w=>rw[q]at h2;exact vDa rfl h2
def vA{n i:Nat}{d:D}(h:(jX 0 n)[i]?=some d):i < n/\d=.int (i:Int):=by
 unfold jX at h;rw[uAa]at h;by_cases z:i < n
 ·rw[List.getElem?_range z]at h;refine⟨z,?_⟩;have:=vFa h;rw[<-this];simp
 ·rw[List.getElem?_eq_none (by simp;lia)]at h;cases h
theorem gU:∀l:List Bool,ym (l.map D.bl)=0
 | []=>rfl
 | x::l=>by rw[vWa,ym,gU l];rfl
theorem W5:∀l m:List Bool,l.length=m.length->JF (l.map D.bl) (m.map D.bl)=some (decide (l=m))
 | [],[],_=>rfl
 | [],_::_,h=>by simp at h
 | _::_,[],h=>by simp at h
 | x::l,y::m,h=>by
  rw[vWa,vWa,JF,W5 l m (by simpa using h),yC];simp only[Option.bind_some,Option.some.injEq];by_cases h1:x=y <;> by_cases h2:l=m <;> simp[h1,h2]
noncomputable def Yc(s t:Sd):Bool:=(s.place==t.place)&&((s.kind==t.kind)&&((s.len==t.len)&&((s.before==t.before)&&(decide (s.waits=t.waits)&&decide (s.met=t.met)))))
def V_{s t:Sd}:Yc s t=true↔s=t:=by
 unfold Yc;simp only[Bool.and_eq_true,beq_iff_eq,decide_eq_true_eq];constructor
 ·rintro⟨h1,h2,h3,h4,h5,h6⟩;obtain⟨a1,a2,a3,a4,a5,a6⟩:=s;obtain⟨b1,b2,b3,b4,b5,b6⟩:=t;simp only at h1 h2 h3 h4 h5 h6;subst h1 h2 h3 h4 h5 h6;rfl
 ·rintro rfl;exact⟨rfl,rfl,rfl,rfl,rfl,rfl⟩
def QT{s t:Sd}(hw:s.waits.length=t.waits.length)(hm:s.met.length=t.met.length):yC (j7 s) (j7 t)=some (Yc s t):=by
 unfold j7 Yc;simp only[yC,JF,vV _ _ hw,W5 _ _ hm,Option.bind_some,List.length_cons,List.length_nil,List.length_map,hw,hm,beq_self_eq_true,Bool.and_true]
def dJ(s:Sd):dep (j7 s)<=20:=by
 simp[j7,dep,ym,vU,gU]
def Es{s t:Sd}(hw:s.waits.length=t.waits.length)(hm:s.met.length=t.met.length):jH (j7 s) (j7 t)=some (.bl (Yc s t)):=by
 have q:vY (j7 s) (j7 t)=true:=rfl;unfold jH uK;rw[if_pos q,if_pos ⟨q,dJ s⟩,QT hw hm];rfl
def qM(C:Addr)(b:Bk)(s:Sd)(k:Int)(ok:OkB b)(X:Fit b s)(h:Z8 b k):Uf C [jU C b,j7 s,.int k]=some (Z9 (yN b s k)):=by
 have e1:=QQ C b s k ok X h;have e2:=Xk C b s k ok X h;unfold yN;simp only[Uf,Ue];by_cases c:s.place>=b.size
 ·have c':b.size<=s.place:=c;rw[if_pos c];simp[c',Z9]
 ·have c':¬b.size<=s.place:=c;rw[if_neg c];cases hb:YI b s k with
  | none=>rw[hb]at e1;simp[c',e1,e2,oS,Z9]
  | some w=>rw[hb]at e1;simp[c',e1,oS,Z9]
noncomputable instance:DecidableEq Sd:=fun _ _=>Classical.propDecidable _
noncomputable def kB(b:Bool):KD:=.i (if b then 1 else 0)
noncomputable def kS(s:Sd):KD:=.t [.i s.place,.i s.kind,.i s.len,.i s.before,.t (s.waits.map .i),.t (s.met.map kB)]
theorem W6:∀l:List Int,Yx (l.map D.int)=some (l.map KD.i)
 | []=>by rw[uJa,Yx];rfl
 | x::l=>by rw[vWa,Yx,yI,W6 l];rfl
theorem WD:∀l:List Bool,Yx (l.map D.bl)=some (l.map kB)
 | []=>by rw[uJa,Yx];rfl
 | x::l=>by rw[vWa,Yx,yI,WD l];rfl
theorem WE:∀l:List Int,yf (l.map KD.i)=0
 | []=>rfl
 | x::l=>by rw[vWa,yf,WE l];rfl
theorem WF:∀l:List Bool,yf (l.map kB)=0
 | []=>rfl
 | x::l=>by rw[vWa,yf,WF l];rfl
def zm(s:Sd):J3 (j7 s)=some (kS s):=by
 have e:yI (j7 s)=some (kS s):=by
  unfold j7 kS;simp[yI,Yx,W6,WD]
 have d:(kS s).dep<=8:=by
  unfold kS;simp[KD.dep,yf,WE,WF]
 show(yI (j7 s)).bind _=_;rw[e];simp[d]
theorem gV{α β:Type}{f:α->β}(h:∀a b,f a=f b->a=b):∀{l m:List α},l.map f=m.map f->l=m
 | [],[],_=>rfl
 | [],_::_,e=>by cases e
 | _::_,[],e=>by cases e
 | a::l,b::m,e=>by
  rw[vWa,vWa]at e;injection e with e1 e2;rw[h _ _ e1,gV h e2]
def GN{s t:Sd}(h:kS s=kS t):s=t:=by
 unfold kS at h;simp only[KD.t.injEq,List.cons.injEq,KD.i.injEq]at h;obtain⟨h1,h2,h3,h4,h5,h6,_⟩:=h;have e5:=gV (fun a b e=>by injection e) h5;have e6:=gV (fun a b e=>by cases a <;> cases b <;> first | rfl | (unfold kB at e;simp at e)) h6;obtain⟨a1,a2,a3,a4,a5,a6⟩:=s;obtain⟨b1,b2,b3,b4,b5,b6⟩:=t;simp only at h1 h2 h3 h4 e5 e6;subst h1 h2 h3 h4 e5 e6;rfl
theorem kq:∀l:List Sd,jK (l.map j7)=some (l.map kS)
 | []=>rfl
 | s::l=>by rw[vWa,jK,zm,kq l];rfl
def yR{l:List Sd}{s:Sd}:kS s∈l.map kS↔s∈l:=by
 rw[List.mem_map];constructor
 ·rintro⟨t,h,e⟩;rw[<-GN e];exact h
 ·exact fun h=>⟨s,h,rfl⟩
theorem W7{f:Sd->D}{s:Sd}:∀l:List Sd,zA (l.map kS) (l.map f) (kS s) (f s)=l.map f
 | []=>by rw[uJa,uJa,zA];all_goals (intros;contradiction)
 | t::l=>by
  rw[vWa,vWa,zA,W7 l];by_cases e:t=s
  ·rw[if_pos (by rw[e]),e]
  ·rw[if_neg (fun z=>e (GN z))]
noncomputable def jL(l:List Sd)(s:Sd):List Sd:=if s∈l then l else l++[s]
def dQ{i:Nat}{q:Option Addr}{l:List Sd}{f:Sd->D}{s:Sd}{dk de:DE}{Z:je}(h:Z[i]?=some (.ow q (.dct (l.map j7) (l.map f))))(hd:de Z=some (f s))(hk:dk Z=some (j7 s))(hl:l.length < sizeLine):
  vZ i dk de Z=some (.nx (Z.set i (.ow q (.dct ((jL l s).map j7) ((jL l s).map f))))):=by
 rw[vZ,h];simp only[hd,hk,Option.bind_some,zm,kq,List.length_map,hl,if_true];unfold Yy YM jL;by_cases e:s∈l
 ·rw[if_pos (yR.mpr e),if_pos (yR.mpr e),if_pos e,W7]
 ·rw[if_neg (fun z=>e (yR.mp z)),if_neg (fun z=>e (yR.mp z)),if_neg e,uDa,uDa];rfl
def W8{l:List Sd}{s t:Sd}:t∈jL l s↔t∈l \/ t=s:=by
 unfold jL;split
 ·constructor
  ·exact .inl
  ·rintro(h | rfl)
   ·exact h
   ·assumption
 ·simp
def u4(l:List Sd)(s:Sd):l.length<=(jL l s).length/\(jL l s).length<=l.length+1:=by
 unfold jL;split <;> simp
theorem W9{t:Sd}:∀{xs l:List Sd},t∈xs.foldl jL l↔t∈l \/ t∈xs
 | [],l=>by simp
 | x::xs,l=>by
  rw[List.foldl_cons,W9,W8,List.mem_cons];constructor
  ·rintro((h | h) | h)
   ·exact .inl h
   ·exact .inr (.inl h)
   ·exact .inr (.inr h)
  ·rintro(h | h | h)
   ·exact .inl (.inl h)
   ·exact .inl (.inr h)
   ·exact .inr h
theorem zI:∀(xs l:List Sd),l.length<=(xs.foldl jL l).length/\(xs.foldl jL l).length<=l.length+xs.length
 | [],l=>by simp
 | x::xs,l=>by
  have h1:=zI xs (jL l x);have h2:=u4 l x;rw[List.foldl_cons,vXa]
  lia
theorem K5:∀{xs l:List Sd},(l++xs).Nodup->xs.foldl jL l=l++xs
 | [],l,_=>by simp
 | x::xs,l,h=>by
  have e:jL l x=l++[x]:=by
   unfold jL;rw[if_neg];intro z;rw[List.nodup_append]at h;exact h.2.2 x z x wNa rfl
  rw[List.foldl_cons,e,K5 (by simpa using h)];simp
def Yu(b:Bk)(s:Sd)(n:Nat):List (Int×Sd):=(List.range n).filterMap fun(c:Nat)=>(yN b s (c:Int)).map fun t=>((c:Int),t)
def jM(b:Bk)(s:Sd):List (Int×Sd):=Yu b s b.kinds.length
def pD(p:Int×Sd):D:=.tup [.int p.1,j7 p.2]
def vB(b:Bk)(s:Sd)(n:Nat):Yu b s (n+1)=Yu b s n++(match yN b s (n:Int)with | some t=>[((n:Int),t)] | none=>[]):=by
 unfold Yu;rw[List.range_succ,List.filterMap_append];cases e:yN b s (n:Int) <;> simp[e]
def kr(b:Bk)(s:Sd)(n:Nat):(Yu b s n).length<=n:=by
 unfold Yu;exact wSa (List.length_filterMap_le _ _) (by simp)
def kt{b:Bk}{s:Sd}{n:Nat}{p:Int×Sd}(h:p∈Yu b s n):∃c:Nat,c < n/\p.1=(c:Int)/\yN b s (c:Int)=some p.2:=by
 unfold Yu at h;obtain⟨c,hc,e⟩:=List.mem_filterMap.mp h;obtain⟨t,e1,rfl⟩:=Option.map_eq_some_iff.mp e;exact⟨c,List.mem_range.mp hc,rfl,e1⟩
def Xn(C:Addr)(b:Bk)(s:Sd)(ok:OkB b)(X:Fit b s):vq C [jU C b,j7 s]=some (.lst ((jM b s).map pD)):=by
 have k2:=ok.k2;have z1:Jd (b.kinds.length:Int)=true:=JL (by lia) (by lia);obtain⟨Z1,L1,y3,y4,rfl⟩:=JY (g:=Vw) (s:=Yj C) (items:=jX 0 b.kinds.length) (fun i Z=>∃y3 y4:Sl,Z=[.bo (jU C b),.bo (j7 s),.ow none (.lst ((Yu b s i).map pD)),y3,y4]) (by
  rintro i d Z hd ⟨y3,y4,rfl⟩;obtain⟨hi,rfl⟩:=vA hd;have e1:=qM C b s (i:Int) ok X ⟨by lia,by lia⟩;have hl:=kr b s i;have z3:(Yu b s i).length < sizeLine:=jp (by lia);cases hs:yN b s (i:Int)with
  | none=>
   rw[hs]at e1;refine⟨_,_,rfl,?_,.cl (.int (i:Int)),.cl .non,rfl⟩;rw[vB,hs,uFa];simp only[Yj];simp[e1,Z9]
  | some t=>
   rw[hs]at e1;refine⟨_,_,rfl,?_,.cl (.int (i:Int)),.cl (j7 t),rfl⟩;rw[vB,hs,uDa];have en:vI (j7 t)=false:=rfl;simp only[Yj];simp[e1,Z9,en,z3,pD]) (Z:=[.bo (jU C b),.bo (j7 s),.ow none (.lst ((Yu b s 0).map pD)),.un,.un]) ⟨.un,.un,rfl⟩
 rw[show(jX 0 b.kinds.length).length=b.kinds.length by simp[jX]]at L1;simp only[vq,vo];have e0:(Yu b s 0).map pD=[]:=rfl;rw[e0]at L1;simp[z1,L1];rfl
def zR(b:Bk)(ss:List Sd):List Sd:=(ss.flatMap fun s=>(jM b s).map (·.2)).foldl jL []
def jD(b:Bk)(s:Sd):Nat->List Sd
 | 0=>[s]
 | n+1=>zR b (jD b s n)
noncomputable def vC:Sd->D:=fun _=>.bl true
set_option tactic.hygienic true in
theorem Xo{b:Bk}{s t:Sd}{c:Nat}(X:Fit b s)(hc:c < b.kinds.length)(h:yN b s (c:Int)=some t):Fit b t/\t.place=s.place+1/\s.place < b.size:=by
 obtain⟨_,rfl,h3⟩:=zk h;exact⟨X.next ⟨by lia,by lia⟩,rfl,h3⟩
def gW{b:Bk}{ss:List Sd}{t:Sd}:t∈zR b ss↔∃s∈ss,∃p∈jM b s,p.2=t:=by
 unfold zR;rw[W9];simp[List.mem_flatMap]
theorem VA{b:Bk}{s:Sd}(X:Fit b s):∀n,∀t∈jD b s n,Fit b t/\t.place=s.place+n/\(0 < n->t.place<=b.size)
 | 0,t,h=>by
  simp[jD]at h;subst h;exact⟨X,by simp,fun z=>vDa z (by lia)⟩
 | n+1,t,h=>by
  obtain⟨u,hu,p,hp,rfl⟩:=gW.mp h;obtain⟨c,hc,e1,e2⟩:=kt hp;obtain⟨f1,f2,f3⟩:=VA X n u hu;obtain⟨g1,g2,g3⟩:=Xo f1 hc e2;exact⟨g1,by rw[g2,f2];lia,fun _=>by rw[g2];lia⟩
def bv{b:Bk}{s:Sd}(X:Fit b s){n:Nat}(h:b.size < s.place+n):jD b s (n+1)=[]:=by
 rw[List.eq_nil_iff_forall_not_mem];intro t ht;have:=(VA X (n+1) t ht).2;have h1:=this.1;have h2:=this.2 (by lia)
 lia
def Xp(xs ys l:List Sd):(xs.foldl jL l).length<=((xs++ys).foldl jL l).length:=by
 rw[List.foldl_append];exact(zI ys _).1
def Xq{b:Bk}(ok:OkB b)(ss:List Sd):(zR b ss).length<=4 * ss.length:=by
 have h1:=(zI (ss.flatMap fun s=>(jM b s).map (·.2)) []).2;have h2:∀ss:List Sd,(ss.flatMap fun s=>(jM b s).map (·.2)).length<=4 * ss.length:=fun ss=>by
  induction ss with
  | nil=>simp
  | cons s ss ih=>
   have:=kr b s b.kinds.length;have:=ok.k2;have e:(jM b s).length=(Yu b s b.kinds.length).length:=rfl;rw[List.flatMap_cons,vZa,vYa,vXa]
   lia
 have:=h2 ss;rw[List.length_nil,Nat.zero_add]at h1;exact wSa h1 this
theorem WG{b:Bk}(ok:OkB b)(s:Sd):∀n,(jD b s n).length<=4 ^ n
 | 0=>by simp[jD]
 | n+1=>by
  have h1:=WG ok s n;have h2:=Xq ok (jD b s n);rw[jD,uMa]
  lia
def JP(b:Bk)(s:Sd)(n:Nat):List D:=(List.range n).map fun j=>D.lst ((jD b s j).map j7)
def u5(b:Bk)(s:Sd)(n:Nat):JP b s (n+1)=JP b s n++[.lst ((jD b s n).map j7)]:=by
 unfold JP;rw[List.range_succ,uDa];rfl
def ZS(b:Bk)(s:Sd)(n:Nat):(JP b s n).length=n:=by simp[JP]
theorem ky:∀l:List Sd,ym (l.map j7)<=5
 | []=>by simp
 | s::l=>by
  have:=ky l;have e:dep (j7 s)<=5:=by simp[j7,dep,ym,vU,gU]
  rw[vWa,ym]
  lia
def QU(l:List Sd):Jv (.lst (l.map j7)) (.lst [])=some (.bl (!decide (l=[]))):=by
 have e:dep (.lst (l.map j7))<=20:=by rw[dep];have:=ky l;lia
 have e0:vY (D.lst (l.map j7)) (D.lst [])=true:=rfl;unfold Jv;rw[if_pos e0];unfold uK;rw[if_pos ⟨e0,e⟩,yC];cases l with
 | nil=>rfl
 | cons s l=>rw[if_neg (by simp),decide_eq_false (by simp)];rfl
set_option tactic.hygienic true in
theorem gX{b:Bk}{s:Sd}(X:Form b s):∀n,∀t∈jD b s n,Form b t
 | 0,t,h=>by
  simp[jD]at h;subst h;exact X
 | n+1,t,h=>by
  obtain⟨u,hu,p,hp,rfl⟩:=gW.mp h;obtain⟨c,hc,e1,e2⟩:=kt hp;obtain⟨_,e,_⟩:=zk e2;rw[e];exact(gX X n u hu).next ⟨by lia,by lia⟩
structure Lim (b:Bk) (s:Sd):Prop where
 fit:Fit b s
 p0:0<=s.place
 len:∀n,(jD b s n).length<=4096
def dR{b:Bk}(ok:OkB b)(h6:b.size<=6):Lim b (ji b):=by
 refine⟨Fit.empty b,Int.le_refl _,fun n=>?_⟩;by_cases h:n<=6
 ·exact wSa (WG ok _ n) (Nat.pow_le_pow_right (by decide) h)
 ·cases e:jD b (ji b) n with
  | nil=>simp
  | cons t l=>
   have:=VA (Fit.empty b) n t (by rw[e];exact wNa);have h2:=this.2.2 (by lia);have h1:t.place=0+n:=this.2.1
   lia
def Et(C:Addr)(b:Bk)(ok:OkB b)(r1 r2:Sl)(t:Sd)(X:Form b t)(l:List Sd)(hl:l.length < 10000000)(x5 x6:Sl):∃y5 y6:Sl,
  J5 YW (JN C) (jX 0 b.kinds.length) [.bo (jo b),r1,r2,.ow none (.dct (l.map j7) (l.map vC)),.cl (j7 t),x5,x6]=
  some (.nx [.bo (jo b),r1,r2,.ow none (.dct ((((jM b t).map (·.2)).foldl jL l).map j7) ((((jM b t).map (·.2)).foldl jL l).map vC)),.cl (j7 t),y5,y6]):=by
 have k2:=ok.k2;obtain⟨Z1,L1,y5,y6,rfl⟩:=JY (g:=YW) (s:=JN C) (items:=jX 0 b.kinds.length) (fun i Z=>∃y5 y6:Sl,Z=[.bo (jo b),r1,r2,.ow none (.dct ((((Yu b t i).map (·.2)).foldl jL l).map j7) ((((Yu b t i).map (·.2)).foldl jL l).map vC)),.cl (j7 t),y5,y6]) (by
  rintro i d Z hd ⟨y5,y6,rfl⟩;obtain⟨hi,rfl⟩:=vA hd;have e1:=gR C b t (i:Int) ok X ⟨by lia,by lia⟩;have h1:=kr b t i;have h2:=zI ((Yu b t i).map (·.2)) l;rw[vYa]at h2;have z:(10001000:Nat) < sizeLine:=by decide
  rw[vB];revert h2;generalize ef:((Yu b t i).map (·.2)).foldl jL l=m;intro h2;cases hs:yN b t (i:Int)with
  | none=>
   rw[hs]at e1;refine⟨_,_,rfl,?_,.cl (.int (i:Int)),.cl .non,rfl⟩;rw[uFa,ef];simp only[JN];simp[e1,Z9]
  | some u=>
   rw[hs]at e1;have e2:JN C [.bo (jo b),r1,r2,.ow none (.dct (m.map j7) (m.map vC)),.cl (j7 t),.cl (.int (i:Int)),y6]=some (.nx [.bo (jo b),r1,r2,.ow none (.dct ((jL m u).map j7) ((jL m u).map vC)),.cl (j7 t),.cl (.int (i:Int)),.cl (j7 u)]):=by
    have p:=dQ (i:=3) (q:=none) (l:=m) (f:=vC) (s:=u) (dk:=dC 6) (de:=dK (.bl true)) (Z:=[.bo (jo b),r1,r2,.ow none (.dct (m.map j7) (m.map vC)),.cl (j7 t),.cl (.int (i:Int)),.cl (j7 u)]) rfl rfl rfl (by lia);simp only[JN];simp[e1,Z9,-vZ,p]
   refine⟨_,_,rfl,e2,.cl (.int (i:Int)),.cl (j7 u),?_⟩;rw[uDa,List.foldl_append,ef];rfl) (Z:=[.bo (jo b),r1,r2,.ow none (.dct (l.map j7) (l.map vC)),.cl (j7 t),x5,x6]) ⟨x5,x6,rfl⟩
 rw[show(jX 0 b.kinds.length).length=b.kinds.length by simp[jX]]at L1;exact⟨y5,y6,L1⟩
theorem Eu(C:Addr)(b:Bk)(ok:OkB b)(r1 r2:Sl)(all:List Sd)(hf:∀t∈all,Form b t)(hb:(zR b all).length < 10000000):∀(ss pre:List Sd),pre++ss=all->∀x4 x5 x6:Sl,∃y4 y5 y6:Sl,
  J5 YX (Y1 C) (ss.map j7) [.bo (jo b),r1,r2,.ow none (.dct (((pre.flatMap fun s=>(jM b s).map (·.2)).foldl jL []).map j7) (((pre.flatMap fun s=>(jM b s).map (·.2)).foldl jL []).map vC)),x4,x5,x6]=
  some (.nx [.bo (jo b),r1,r2,.ow none (.dct ((zR b all).map j7) ((zR b all).map vC)),y4,y5,y6]):=by
 have k2:=ok.k2;have z1:Jd (b.kinds.length:Int)=true:=JL (by lia) (by lia);intro ss;induction ss with
 | nil=>
  intro pre e x4 x5 x6;rw[uFa]at e;subst e;exact⟨x4,x5,x6,rfl⟩
 | cons s ss ih=>
  intro pre e x4 x5 x6;have hs:s∈all:=by rw[<-e];simp
  have hfo:(((jM b s).map (·.2)).foldl jL ((pre.flatMap fun s=>(jM b s).map (·.2)).foldl jL []))=(((pre++[s]).flatMap fun s=>(jM b s).map (·.2)).foldl jL []):=by
   rw[List.flatMap_append,List.foldl_append];simp
  have hle:((pre.flatMap fun s=>(jM b s).map (·.2)).foldl jL []).length < 10000000:=by
   refine wRa ?_ hb;unfold zR;rw[<-e,List.flatMap_append];exact Xp _ _ _
  obtain⟨y5,y6,e2⟩:=Et C b ok r1 r2 s (hf s hs) _ hle x5 x6;rw[hfo]at e2;obtain⟨z4,z5,z6,e3⟩:=ih (pre++[s]) (by rw[<-e];simp) (.cl (j7 s)) y5 y6;refine⟨z4,z5,z6,?_⟩;rw[vWa,J5];generalize (pre.flatMap fun s=>(jM b s).map (·.2)).foldl jL []=m at e2⊢;have e5:YX (j7 s) [.bo (jo b),r1,r2,.ow none (.dct (m.map j7) (m.map vC)),x4,x5,x6]=some [.bo (jo b),r1,r2,.ow none (.dct (m.map j7) (m.map vC)),.cl (j7 s),x5,x6]:=rfl;rw[e5,uEa];have e4:Y1 C [.bo (jo b),r1,r2,.ow none (.dct (m.map j7) (m.map vC)),.cl (j7 s),x5,x6]=some (.nx [.bo (jo b),r1,r2,.ow none (.dct ((((pre++[s]).flatMap fun s=>(jM b s).map (·.2)).foldl jL []).map j7) ((((pre++[s]).flatMap fun s=>(jM b s).map (·.2)).foldl jL []).map vC)),.cl (j7 s),y5,y6]):=by
   rw[<-e2];simp only[Y1];simp[z1]
  rw[e4];exact e3
def Ev(C:Addr)(b:Bk)(ok:OkB b)(s:Sd)(X:Form b s)(L:Lim b s)(n:Nat)(hn:n<=1000)(x3 x4 x5 x6:Sl):∃y3 y4 y5 y6:Sl,Y3 C [.bo (jo b),.cl (j7 s),.ow none (.lst (JP b s (n+1))),x3,x4,x5,x6]=
  some (.nx [.bo (jo b),.cl (j7 s),.ow none (.lst (JP b s (n+1+1))),y3,y4,y5,y6]):=by
 obtain⟨y4,y5,y6,e⟩:=Eu C b ok (.cl (j7 s)) (.ow none (.lst (JP b s (n+1)))) (jD b s n) (gX X n) (wRa (L.len (n+1)) (by decide)) (jD b s n) [] rfl x4 x5 x6;have z:(JP b s (n+1)).length < sizeLine:=by rw[ZS];exact jp (by lia)
 have el:atI (JP b s (n+1)) (-1)=some (.lst ((jD b s n).map j7)):=by rw[u5];exact W3
 simp only[List.map_nil,List.flatMap_nil,List.foldl_nil]at e;refine⟨.ow none (.dct ((zR b (jD b s n)).map j7) ((zR b (jD b s n)).map vC)),y4,y5,y6,?_⟩;rw[u5 b s (n+1)];simp only[Y3];simp[e,z,el,Vo,jD]
noncomputable def FO(Z:je):Nat:=match Z[2]? with
 | some (Sl.ow _ (OD.lst l))=>100 - l.length
 | _=>0
def QV(C:Addr)(b:Bk)(ok:OkB b)(s:Sd)(X:Form b s)(L:Lim b s):∃n,Zq C [jo b,j7 s]=some (.lst (JP b s n))/\n<=32/\jD b s n=[]/\∀j,j < n->jD b s j≠[]:=by
 have s2:=ok.s2;have hQ:∀(n:Nat) (x3 x4 x5 x6:Sl),Y2 C [.bo (jo b),.cl (j7 s),.ow none (.lst (JP b s (n+1))),x3,x4,x5,x6]=some (!decide (jD b s n=[])):=fun n x3 x4 x5 x6=>by
  have el:atI (JP b s (n+1)) (-1)=some (.lst ((jD b s n).map j7)):=by rw[u5];exact W3
  have ne:=QU (jD b s n);simp only[Y2];simp[el,-Jv,ne]
 obtain⟨Z1,W1,⟨n,hn,hne,y3,y4,y5,y6,rfl⟩,hq⟩:=wO (dt:=Y2 C) (s:=Y3 C)
  (fun Z=>∃n,n<=32/\(∀j,j < n->jD b s j≠[])/\∃y3 y4 y5 y6:Sl,Z=[.bo (jo b),.cl (j7 s),.ow none (.lst (JP b s (n+1))),y3,y4,y5,y6])
  (fun Z=>FO Z) (by
   rintro Z ⟨n,hn,hne,y3,y4,y5,y6,rfl⟩;rw[hQ];by_cases h:jD b s n=[]
   ·left;simp[h]
   ·right;have hn':n < 32:=by
     have h1:=L.p0;by_cases q:n < 32
     ·exact q
     ·have e:n=31+1:=by lia
      subst e;exact vDa (bv L.fit (by lia)) h
    obtain⟨z3,z4,z5,z6,e⟩:=Ev C b ok s X L n (by lia) y3 y4 y5 y6;refine⟨by simp[h],_,e,⟨n+1,by lia,(fun j hj=>by
     by_cases q:j < n
     ·exact hne j q
     ·rw[show j=n by lia];exact h),z3,z4,z5,z6,rfl⟩,?_⟩
    show 100 - (JP b s (n+1+1)).length < 100 - (JP b s (n+1)).length;rw[ZS,ZS]
    lia) (n:=20000) (Z:=[.bo (jo b),.cl (j7 s),.ow none (.lst (JP b s (0+1))),.un,.un,.un,.un]) ⟨0,by lia,(fun j hj=>vDa hj (Nat.not_lt_zero _)),.un,.un,.un,.un,rfl⟩ (by show 100 - (JP b s (0+1)).length < 20000;lia)
 rw[hQ]at hq;have e:jD b s n=[]:=by simpa using hq
 refine⟨n,?_,hn,e,hne⟩;have e0:JP b s (0+1)=[.lst [j7 s]]:=rfl;rw[e0]at W1;have ec:J6 (JP b s (n+1)) none (some (-1))=JP b s n:=by
  rw[cJ,ZS,u5];simp[ZS]
 simp only[Zq,Zp];simp[W1,ec]
variable {b:Bk} {row costs:List Int}
section
variable (C:Addr) (ok:OkB b) (hr:(row.length:Int)=b.size) (hk:∀n∈row,Z8 b n) (hc:(costs.length:Int)=b.size) (hcc:∀c∈costs,1<=c/\c<=9)
include ok hr hk hc hcc
theorem bw:vh C [jU C b,.lst (row.map .int),.lst (costs.map .int)]=some .non:=by
 have s2:=ok.s2;have e1:=wW C b row ok ⟨hk,by lia⟩;have ef:Jk C "size" (jU C b)=some (.int b.size):=by simp[Jk,jU]
 have e2:Js (gN 0) jA (Jl Jo Jo (dK (.int 1)) (dV 0) (dK (.int 9))) (costs.map D.int) [.un]=some (costs.map fun _=>.bl true):=J1 D.int _ fun c hx=>⟨[.cl (.int c)],rfl,rfl,by
  have h:=hcc c hx;simp[Jo,h.1,h.2]⟩
 have e3:zx [.lst (costs.map fun _=>D.bl true)]=some (.bl true):=by
  show(uF _).bind _=_;rw[v6];simp
 have z:costs.length<=sizeLine:=wQa (jp (by lia));have n1:¬(row.length:Int) < b.size:=by lia
 simp only[vh,vg];simp[-zx,e1,ef,hc,hr,n1,e2,e3,z,Zy]
end
noncomputable def yv(row costs:List Int)(i k:Int):Int:=if row.getD i.toNat 0=k then 0 else costs.getD i.toNat 0
def bx(C:Addr)(s:Sd)(k:Int)(h0:0<=s.place)(h1:s.place < (row.length:Int))(h2:s.place < (costs.length:Int)):Zv C [.lst (row.map .int),.lst (costs.map .int),j7 s,.int k]=some (.int (yv row costs s.place k)):=by
 have e1:=J9 (f:=D.int) (xs:=row) (d:=0) h0 h1;have e2:=J9 (f:=D.int) (xs:=costs) (d:=0) h0 h2;simp only[Zv,Zu];by_cases c:row.getD s.place.toNat 0=k
 ·simp[-List.getD_eq_getElem?_getD,e1,c,yv]
 ·simp[-List.getD_eq_getElem?_getD,e1,e2,c,yv]
def Xr(C:Addr)(b:Bk)(ok:OkB b)(ds:List Int)(hd:41<=ds.length):∃row:List Int,V9 C [jo b,.lst (ds.map .int)]=some (.lst (row.map .int))/\(row.length:Int)=b.size/\∀n∈row,Z8 b n:=by
 have s1:=ok.s1;have s2:=ok.s2;have k1:=ok.k1;have z62:Jd b.size=true:=JL (by lia) (by lia);have a40:=J9 (f:=D.int) (xs:=ds) (d:=0) (k:=40) (by decide) (by lia);generalize ds.getD (40:Int).toNat 0=v40 at a40;obtain⟨Z1,L1,r,x3,rfl,hr,hk⟩:=JY (g:=ua) (s:=Yz C) (items:=jX 0 b.size.toNat)
  (fun i Z=>∃(r:List Int) (x3:Sl),Z=[.bo (jo b),.bo (.lst (ds.map .int)),.ow none (.lst (r.map .int)),x3]/\r.length=i/\∀n∈r,Z8 b n) (by
  rintro i d Z hd' ⟨r,x3,rfl,hr,hk⟩;obtain⟨hi,rfl⟩:=vA hd';have hi2:(i:Int) < (ds.length:Int):=by lia
  have ai:=J9 (f:=D.int) (xs:=ds) (d:=0) (k:=(i:Int)) (by lia) hi2;generalize ds.getD (i:Int).toNat 0=v at ai;have pk:0 < b.kinds.length:=by lia
  have m1:=jY (a:=v) (b:=(b.kinds.length:Int)) (by lia);have zr:r.length < sizeLine:=jp (by lia);have hk1:∀n∈r++[v % (b.kinds.length:Int)],Z8 b n:=vz hk ⟨m1.1,by lia⟩;generalize ez:v % (b.kinds.length:Int)=z at hk1;have em:r.map D.int++[D.int z]=(r++[z]).map D.int:=by rw[uDa];rfl
  by_cases c:(v40 % 2=1/\0 < (i:Int))/\0 < v / 7 % 3
  ·obtain⟨⟨c1,c2⟩,c3⟩:=c;have hl1:(i:Int) - 1 < ((r++[z]).length:Int):=by rw[vZa,hr];simp;lia
   have ap:=J9 (f:=D.int) (xs:=r++[z]) (d:=0) (k:=(i:Int) - 1) (by lia) hl1;have hy:Z8 b ((r++[z]).getD ((i:Int) - 1).toNat 0):=hk1 _ (w_ (by lia) hl1);generalize (r++[z]).getD ((i:Int) - 1).toNat 0=y at ap hy;have ix:∀n:Nat,n=i+1->Yp n (i:Int)=some i:=fun n hn=>by
    have:=uV (n:=n) (k:=(i:Int)) (by lia) (by lia);rwa [Int.toNat_natCast]at this
   refine⟨_,_,rfl,?_,(r++[z]).set i y,.cl (.int (i:Int)),rfl,by rw[List.length_set,vZa,hr];rfl,fun n hn=>?_⟩
   ·simp only[Yz];have c2':0 < i:=by lia
    have zi:i < sizeLine:=hr▸zr;have es:((r++[z]).map D.int).set i (D.int y)=((r++[z]).set i y).map D.int:=by rw[List.map_set]
    simp[-List.map_append,-List.map_set,ai,a40,pk,ez,zi,em,c1,c2',c3,ap,ix,hr,JW,es]
   ·rcases List.mem_or_eq_of_mem_set hn with hn | rfl
    ·exact hk1 n hn
    ·exact hy
  ·refine⟨_,_,rfl,?_,r++[z],.cl (.int (i:Int)),rfl,by rw[vZa,hr];rfl,hk1⟩;simp only[Yz];by_cases c1:v40 % 2=1
   ·by_cases c2:0 < i
    ·have c3:¬0 < v / 7 % 3:=fun z=>c ⟨⟨c1,by lia⟩,z⟩;simp[ai,a40,pk,ez,zr,c1,c2,c3,JW]
    ·simp[ai,a40,pk,ez,zr,c1,c2,JW]
   ·simp[ai,a40,pk,ez,zr,c1,JW]) (Z:=[.bo (jo b),.bo (.lst (ds.map .int)),.ow none (.lst []),.un]) ⟨[],.un,rfl,rfl,fun n hn=>vDa hn (by simp)⟩
 rw[show(jX 0 b.size.toNat).length=b.size.toNat by simp[jX]]at hr;refine⟨r,?_,by lia,hk⟩;simp only[V9,V8];simp[z62,L1]
def Xs(C:Addr)(b:Bk)(ok:OkB b)(ds:List Int)(hd:41<=ds.length):∃costs:List Int,YS C [jo b,.lst (ds.map .int)]=some (.lst (costs.map .int))/\(costs.length:Int)=b.size/\∀c∈costs,1<=c/\c<=9:=by
 have s1:=ok.s1;have s2:=ok.s2;have z62:Jd b.size=true:=JL (by lia) (by lia);have zz:(jX 0 b.size.toNat).length<=sizeLine:=by rw[jX,vYa,List.length_range];exact wQa (jp (by lia))
 have a40:=J9 (f:=D.int) (xs:=ds) (d:=0) (k:=40) (by decide) (by lia);generalize ds.getD (40:Int).toNat 0=v40 at a40;by_cases c:v40 % 3=0
 ·have e1:Js (gN 0) jA (dK (.int 1)) (jX 0 b.size.toNat) [.un]=some ((List.range b.size.toNat).map fun _=>.int 1):=J1 _ _ fun i hi=>⟨_,rfl,rfl,rfl⟩
  refine⟨(List.range b.size.toNat).map fun _=>1,?_,by simp;lia,fun c hc=>?_⟩
  ·have em:((List.range b.size.toNat).map fun _=>(1:Int)).map D.int=(List.range b.size.toNat).map fun _=>D.int 1:=by rw[List.map_map];rfl
   rw[em];simp only[YS,YR];simp[a40,c,z62,e1,zz,yV]
  ·obtain⟨_,_,rfl⟩:=uVa hc
   decide
 ·have e1:Js (gN 0) jA (d2 jv (dK (.int 1)) (d2 jF (d2 j8 (dV 1) (dV 0)) (dK (.int 9)))) (jX 0 b.size.toNat) [.un,.bo (.lst (ds.map .int))]=some ((List.range b.size.toNat).map fun(i:Nat)=>.int (1+ds.getD i 0 % 9)):=J1 _ _ fun i hi=>⟨[.cl (.int (0+(i:Int))),.bo (.lst (ds.map .int))],rfl,rfl,by
   rw[List.mem_range]at hi;have ai:=J9 (f:=D.int) (xs:=ds) (d:=0) (k:=(i:Int)) (by lia) (by lia);rw[Int.toNat_natCast]at ai;simp[-List.getD_eq_getElem?_getD,ai]⟩
  refine⟨(List.range b.size.toNat).map fun(i:Nat)=>1+ds.getD i 0 % 9,?_,by simp;lia,fun c hc=>?_⟩
  ·have em:((List.range b.size.toNat).map fun(i:Nat)=>1+ds.getD i 0 % 9).map D.int=(List.range b.size.toNat).map fun(i:Nat)=>D.int (1+ds.getD i 0 % 9):=by rw[List.map_map];rfl
   rw[em];simp only[YS,YR];generalize (d2 jv (dK (.int 1)) (d2 jF (d2 j8 (dV 1) (dV 0)) (dK (.int 9))))=dd at e1⊢;simp[-List.getD_eq_getElem?_getD,a40,c,z62,e1,zz,yV]
  ·obtain⟨i,_,rfl⟩:=uVa hc;have:=jY (a:=ds.getD i 0) (b:=9) (by decide)
   lia
def WH(C:Addr)(row costs:List Int)(k x:Int)(h0:0<=k)(h1:k < (row.length:Int))(h2:k < (costs.length:Int)):zQ C [.lst (row.map .int),.lst (costs.map .int),.int k,.int x]=some (.int (yv row costs k x)):=by
 have e1:=J9 (f:=D.int) (xs:=row) (d:=0) h0 h1;have e2:=J9 (f:=D.int) (xs:=costs) (d:=0) h0 h2;simp only[zQ,Va];by_cases c:row.getD k.toNat 0=x
 ·simp[-List.getD_eq_getElem?_getD,e1,c,yv]
 ·simp[-List.getD_eq_getElem?_getD,e1,e2,c,yv]
end M
namespace M
open PySem L2 DS
noncomputable abbrev Pr:=Sd×Int
def jt(p:Pr):D:=.tup [j7 p.1,.int p.2]
noncomputable def st(m:List Pr):List Sd:=m.map (·.1)
def jI(m:List Pr):List D:=m.map fun p=>j7 p.1
noncomputable def jN(m:List Pr):List D:=m.map fun p=>.int p.2
def GO(m:List Pr):jI m=(st m).map j7:=by unfold jI st;rw[List.map_map];rfl
def VB(m:List Pr):jK (jI m)=some ((st m).map kS):=by rw[GO,kq]
noncomputable def lk:List Pr->Sd->Option Int
 | [],_=>none
 | p::m,s=>if p.1=s then some p.2 else lk m s
theorem kz(s:Sd):∀m:List Pr,yj ((st m).map kS) (jN m) (kS s)=(lk m s).map D.int
 | []=>by rw[st,jN,lk];rfl
 | p::m=>by
  have ih:=kz s m;show yj (kS p.1::(st m).map kS) (D.int p.2::jN m) (kS s)=_;rw[yj,lk,ih];by_cases e:p.1=s
  ·rw[if_pos (by rw[e]),if_pos e];rfl
  ·rw[if_neg fun z=>e (GN z),if_neg e]
theorem Uk{s:Sd}:∀{m:List Pr},(lk m s).isSome=true↔s∈st m
 | []=>by simp[lk,st]
 | p::m=>by
  have ih:=Uk (s:=s) (m:=m);show(lk (p::m) s).isSome=true↔s∈p.1::st m;rw[lk,List.mem_cons];by_cases e:p.1=s
  ·rw[if_pos e];simp[e]
  ·rw[if_neg e,ih];exact⟨.inr,fun z=>z.resolve_left fun y=>e y.symm⟩
def Kt{m:List Pr}{s:Sd}{v:Int}(h:lk m s=some v):Zi (.dct (jI m) (jN m)) (j7 s)=some (.int v):=by
 show(J3 (j7 s)).bind _=_;rw[zm];show(jK (jI m)).bind _=_;rw[VB];show yj ((st m).map kS) (jN m) (kS s)=_;rw[kz,h];rfl
def dS(m:List Pr)(s:Sd)(y:Int):qw (.dct (jI m) (jN m)) (j7 s) (.int y)=some (.int ((lk m s).getD y)):=by
 show((J3 (j7 s)).bind fun q=>(jK (jI m)).bind fun qs=>some ((yj qs (jN m) q).getD (.int y)))=_;rw[zm,VB];show some ((yj ((st m).map kS) (jN m) (kS s)).getD (.int y))=_;rw[kz];cases lk m s <;> rfl
def aW(m:List Pr)(s:Sd):gG true (j7 s) (.dct (jI m) (jN m))=some (.bl (!(lk m s).isSome)):=by
 show((J3 (j7 s)).bind fun q=>(jK (jI m)).bind fun qs=>some (D.bl (xor true (decide (q∈qs)))))=_;rw[zm,VB];show some (D.bl (xor true (decide (kS s∈(st m).map kS))))=_;by_cases h:s∈st m
 ·rw[decide_eq_true (yR.mpr h),Uk.mpr h];rfl
 ·rw[decide_eq_false fun z=>h (yR.mp z),Bool.eq_false_iff.mpr fun z=>h (Uk.mp z)];rfl
noncomputable def yb(m:List Pr)(p:Pr):List Pr:=if p.1∈st m then m.map fun q=>if q.1=p.1 then(q.1,p.2)else q else m++[p]
def Ul(m:List Pr)(p:Pr):st (yb m p)=jL (st m) p.1:=by
 unfold yb jL;split
 ·unfold st;rw[List.map_map];refine List.map_congr_left fun q _=>?_;show(if q.1=p.1 then(q.1,p.2)else q).1=q.1;split <;> rfl
 ·unfold st;rw[uDa];rfl
theorem QW(s:Sd)(v:Int):∀m:List Pr,zA ((st m).map kS) (jN m) (kS s) (.int v)=jN (m.map fun q=>if q.1=s then(q.1,v)else q)
 | []=>by
  show zA [] [] _ _=[]
  rw[zA];all_goals (intros;contradiction)
 | p::m=>by
  show zA (kS p.1::(st m).map kS) (D.int p.2::jN m) _ _=_;rw[zA,QW s v m];show _=D.int (if p.1=s then(p.1,v)else p).2::_;by_cases e:p.1=s
  ·rw[if_pos (by rw[e]),if_pos e];rfl
  ·rw[if_neg fun z=>e (GN z),if_neg e];rfl
def Wa(m:List Pr)(p:Pr):Yy ((st m).map kS) (jI m) (kS p.1) (j7 p.1)=jI (yb m p):=by
 rw[GO (yb m p),Ul];unfold Yy jL;by_cases e:p.1∈st m
 ·rw[if_pos (yR.mpr e),if_pos e,GO]
 ·rw[if_neg fun z=>e (yR.mp z),if_neg e,GO,uDa];rfl
def Wb(m:List Pr)(p:Pr):YM ((st m).map kS) (jN m) (kS p.1) (.int p.2)=jN (yb m p):=by
 unfold YM yb;by_cases e:p.1∈st m
 ·rw[if_pos (yR.mpr e),if_pos e,QW]
 ·rw[if_neg fun z=>e (yR.mp z),if_neg e];unfold jN;rw[uDa];rfl
theorem WI:∀(l m:List Pr),st (l.foldl yb m)=(st l).foldl jL (st m)
 | [],m=>rfl
 | p::l,m=>by
  rw[List.foldl_cons,WI l,Ul];rfl
def Za(m:List Pr):(st m).length=m.length:=List.length_map _
def yp(l:List Pr):List Pr:=l.foldl yb []
def QX(l:List Pr):(yp l).length=((st l).foldl jL []).length:=by
 rw[<-Za,yp,WI];rfl
theorem WJ:∀(xs l:List Sd),(xs.foldl jL l).length=l.length+xs.length->xs.Nodup/\∀x∈xs,x∉l
 | [],l,_=>⟨List.nodup_nil,fun _ h=>by cases h⟩
 | x::xs,l,h=>by
  rw[List.foldl_cons,vXa]at h;have h1:=(zI xs (jL l x)).2;have hx:x∉l:=fun z=>by
   rw[show jL l x=l from if_pos z]at h1 h
   lia
  have e:jL l x=l++[x]:=if_neg hx;rw[e]at h;obtain⟨n,o⟩:=WJ xs (l++[x]) (by rw[h,vZa,uIa];lia);refine⟨List.nodup_cons.mpr ⟨fun z=>o x z (by simp),n⟩,fun y hy=>?_⟩;rcases uTa hy with rfl | hy
  ·exact hx
  ·exact fun z=>o y hy (vIa _ z)
def aX(l:List Pr):(yp l).length=l.length↔(st l).Nodup:=by
 rw[QX];constructor
 ·intro h;exact(WJ (st l) [] (by rw[h,Za];simp)).1
 ·intro h;rw[K5 (l:=[]) (by simpa using h)];simp[Za]
theorem WK:∀(l m:List Pr),(st (m++l)).Nodup->l.foldl yb m=m++l
 | [],m,_=>by simp
 | p::l,m,h=>by
  have e:yb m p=m++[p]:=by
   refine if_neg fun z=>?_;unfold st at h z;rw[uDa,List.nodup_append]at h;exact h.2.2 p.1 z p.1 wNa rfl
  rw[List.foldl_cons,e,WK l _ (by simpa using h)];simp
theorem Wc:∀l m:List Pr,Yr (l.map jt) (jI m) (jN m)=some (jI (l.foldl yb m),jN (l.foldl yb m))
 | [],m=>rfl
 | p::l,m=>by
  rw[vWa,Yr];show((J3 (j7 p.1)).bind fun x=>(jK (jI m)).bind fun qs=>Yr (l.map jt) (Yy qs (jI m) x (j7 p.1)) (YM qs (jN m) x (.int p.2)))=_;rw[zm,VB];show Yr _ (Yy ((st m).map kS) (jI m) (kS p.1) (j7 p.1)) (YM ((st m).map kS) (jN m) (kS p.1) (.int p.2))=_;rw[Wa,Wb,Wc l];rfl
def dU(l:List Pr):Z_ [.lst (l.map jt)]=some (.dct (jI (yp l)) (jN (yp l))):=by
 show(Yr (l.map jt) [] []).bind _=_;have:=Wc l [];rw[show jI []=[] from rfl,show jN []=[] from rfl]at this;rw[this];rfl
def Ew{i:Nat}{q:Option Addr}{m:List Pr}{p:Pr}{dk de:DE}{Z:je}(h:Z[i]?=some (.ow q (.dct (jI m) (jN m))))(hd:de Z=some (.int p.2))(hk:dk Z=some (j7 p.1))(hl:m.length < sizeLine):
  vZ i dk de Z=some (.nx (Z.set i (.ow q (.dct (jI (yb m p)) (jN (yb m p)))))):=by
 rw[vZ,h];have hl':(jI m).length < sizeLine:=by unfold jI;rw[vYa];exact hl
 simp only[hd,hk,Option.bind_some,zm,VB,hl',if_true];rw[Wa,Wb]
abbrev g2:DG:=gT 2 (gC (gN 0) (gC (gN 1) gZ))
def Ex(p:Pr)(x y:Sl):g2 (jt p) [x,y]=some [.cl (j7 p.1),.cl (.int p.2)]:=rfl
theorem aY:∀(l:List Pr) (a:List Sd) (x y:Sl),a.length+l.length<=8192->GA g2 (dC 0) (l.map jt) [x,y] (a.map kS)=some (((st l).foldl jL a).map kS)
 | [],a,x,y,_=>rfl
 | p::l,a,x,y,h=>by
  have h1:=u4 a p.1;rw[vXa]at h;rw[vWa,GA,Ex,uEa];show((J3 (j7 p.1)).bind _)=_;rw[zm,uEa,if_pos ⟨by rw[vYa];lia,rfl⟩];have e:(if kS p.1∈a.map kS then a.map kS else a.map kS++[kS p.1])=(jL a p.1).map kS:=by
   unfold jL;by_cases q:p.1∈a
   ·rw[if_pos (yR.mpr q),if_pos q]
   ·rw[if_neg fun z=>q (yR.mp z),if_neg q,uDa];rfl
  rw[e,aY l _ _ _ (by lia)];rfl
noncomputable def US(l:List Pr)(k:Int):Bool:=decide ((st l).Nodup)&&l.all fun p=>decide (p.1.place=k)
def bz(C:Addr)(l:List Pr)(k:Int)(hl:l.length<=8000):gq C [.lst (l.map jt),.int k]=some (.bl (US l k)):=by
 have e1:=aY l [] .un .un (by simp;lia);have n1:=(zI (st l) []).2;rw[Za]at n1;have n2:((st l).foldl jL []).length < 2 ^ 24:=by simp at n1;lia
 have e2:Js g2 jA (d2 jH (d2 j8 (dV 0) (dN 0)) (dV 2)) (l.map jt) [.un,.un,.bo (.int k)]=some (l.map fun p=>.bl (decide (p.1.place=k))):=J1 jt _ fun p _=>⟨[.cl (j7 p.1),.cl (.int p.2),.bo (.int k)],rfl,rfl,by simp⟩
 have e3:=yo (fun p:Pr=>decide (p.1.place=k)) l;have z:l.length<=sizeLine:=wQa (jp (by lia));have e5:UI [.sz ((st l).foldl jL []).length]=some (.int ((st l).foldl jL []).length):=if_pos n2;have e4:Wx 2 [] (jQ (dP 0)) g2 (dC 0) [.bo (.lst (l.map jt)),.bo (.int k),.un]=some (.sz ((st l).foldl jL []).length):=by
  unfold Wx;show((GA g2 (dC 0) (l.map jt) [.un,.un] ([].map kS)).bind _)=_;rw[e1];simp
 unfold US;have hN:((((st l).foldl jL []).length:Int)=(l.length:Int))↔(st l).Nodup:=by
  rw[<-aX,QX]
  lia
 refine fE (sq (Z1:=[.bo (.lst (l.map jt)),.bo (.int k),.cl (.sz ((st l).foldl jL []).length)]) ?_ ?_)
 ·show jk 2 (dL (Wx 2 [] (jQ (dP 0)) g2 (dC 0))) [.bo (.lst (l.map jt)),.bo (.int k),.un]=_;simp[e4]
 ·show jh (JB (d2 jH (jb UI [(fV 2)]) (jb Jy [(fV 0)])) (jb zx [(false,(dL (JU 2 [1] (jQ (dP 0)) g2 jA (d2 jH (d2 j8 (dV 0) (dN 0)) (dV 2)))))])) [.bo (.lst (l.map jt)),.bo (.int k),.cl (.sz ((st l).foldl jL []).length)]=_;generalize (d2 jH (d2 j8 (dV 0) (dN 0)) (dV 2))=dd at e2⊢;by_cases c:(st l).Nodup
  ·simp[e5,hN,c,e2,e3,z,YG]
  ·simp[e5,hN,c]
theorem GP{α:Type}{g:DG}{s:DS.DS}(em:α->D)(q:α->Bool)(I:je->Prop)(v:D):∀{xs:List α},(∀x∈xs,∀Z,I Z->∃Z1,g (em x) Z=some Z1/\((q x=true/\s Z1=some (.rt v)) \/ (q x=false/\∃Z2,s Z1=some (.nx Z2)/\I Z2)))->∀{Z:je},I Z->
  (xs.any q=true/\J5 g s (xs.map em) Z=some (.rt v)) \/ (xs.any q=false/\∃Z',I Z'/\J5 g s (xs.map em) Z=some (.nx Z'))
 | [],_,Z,h0=>.inr ⟨rfl,Z,h0,rfl⟩
 | x::xs,h,Z,h0=>by
  obtain⟨Z1,e1,z⟩:=h x wNa Z h0;rw[vWa,J5,e1,uEa,List.any_cons];rcases z with⟨hp,e2⟩ | ⟨hp,Z2,e2,i2⟩
  ·rw[e2,hp];exact .inl ⟨rfl,rfl⟩
  ·rw[e2,hp,Bool.false_or];exact GP em q I v (fun d' hd=>h d' (wMa _ hd)) i2
section
variable (row costs:List Int) (m:List Pr)
def Zb(s:Sd)(n:Int)(p:Int×Sd):Bool:=match lk m p.2 with
 | some v=>decide (n<=v+yv row costs s.place p.1)
 | none=>false
def zo(b:Bk)(p:Pr):Bool:=!(decide (p.1.place=b.size)&&decide (p.2 > 0))&&(jM b p.1).all (Zb row costs m p.1 p.2)
end
structure Gs (b:Bk) (s:Sd):Prop extends Form b s where
 p0:0<=s.place
 p1:s.place<=b.size
def Wd{b:Bk}{s:Sd}{p:Int×Sd}(h:p∈jM b s):s.place < b.size:=by
 obtain⟨c,_,_,e⟩:=kt h;exact(zk e).2.2
def UT{α:Type}(q:α->Bool)(l:List α):(l.any fun x=>!q x)=!l.all q:=by
 induction l with
 | nil=>rfl
 | cons x l ih=>rw[List.any_cons,List.all_cons,ih,Bool.not_and]
section
variable {b:Bk} {row costs:List Int} (C:Addr) (ok:OkB b) (hr:(row.length:Int)=b.size) (hc:(costs.length:Int)=b.size)
include ok hr hc
theorem bA(m:List Pr)(p:Pr)(X:Gs b p.1):ze C [jU C b,.lst (row.map .int),.lst (costs.map .int),jt p,.dct (jI m) (jN m)]=some (.bl (zo row costs m b p)):=by
 obtain⟨s,n⟩:=p;have e1:=Xn C b s ok X.toFit;have ef:Jk C "size" (jU C b)=some (.int b.size):=by simp[Jk,jU]
 have L:=GP (g:=Vx) (s:=Vy C) pD (fun p=>!Zb row costs m s n p) (fun Z=>∃x y,Z=[.bo (jU C b),.bo (.lst (row.map .int)),.bo (.lst (costs.map .int)),.cl (jt (s,n)),.bo (.dct (jI m) (jN m)),.cl (j7 s),.cl (.int n),x,y]) (.bl false) (xs:=jM b s) (by
  rintro⟨k,t⟩ hp Z ⟨x,y,rfl⟩;have lt:=Wd hp;have p0:=X.p0;have p0:0<=s.place:=p0;have lt:s.place < b.size:=lt;have e2:=bx (row:=row) (costs:=costs) C s k p0 (by lia) (by lia);have e3:=aW m t;refine⟨_,rfl,?_⟩;refine Ui (I:=fun Z=>∃x y,Z=[.bo (jU C b),.bo (.lst (row.map .int)),.bo (.lst (costs.map .int)),.cl (jt (s,n)),.bo (.dct (jI m) (jN m)),.cl (j7 s),.cl (.int n),x,y]) ?_ rfl ⟨_,_,rfl⟩;unfold Zb;cases hl:lk m t with
  | none=>
   rw[hl]at e3;simp[e3]
  | some v=>
   rw[hl]at e3;have e4:=Kt hl;by_cases q:n<=v+yv row costs s.place k
   ·have q':¬v+yv row costs s.place k < n:=by lia
    simp[e3,e4,e2,JW,q,q']
   ·have q':v+yv row costs s.place k < n:=by lia
    simp[e3,e4,e2,JW,q,q']) ⟨.un,.un,rfl⟩
 rw[UT]at L;unfold zo;refine fE (sq (Z1:=[.bo (jU C b),.bo (.lst (row.map .int)),.bo (.lst (costs.map .int)),.cl (jt (s,n)),.bo (.dct (jI m) (jN m)),.cl (j7 s),.cl (.int n),.un,.un]) rfl ?_);by_cases q:s.place=b.size/\n > 0
 ·obtain⟨q1,q2⟩:=q;refine Yl (zZ ?_ rfl) |>.trans ?_
  ·simp[ef,q1,q2,JW]
  ·simp[q1,q2]
 ·refine sq (YQ ?_ rfl) ?_
  ·by_cases q1:s.place=b.size
   ·have q2:¬0 < n:=fun z=>q ⟨q1,z⟩;simp[ef,q1,q2,JW]
   ·simp[ef,q1]
  ·have qq:(!(decide (s.place=b.size)&&decide (n > 0)))=true:=by
    by_cases q1:s.place=b.size
    ·have q2:¬n > 0:=fun z=>q ⟨q1,z⟩;simp[q2]
    ·simp[q1]
   show _=some (Rs.rt (D.bl ((!(decide (s.place=b.size)&&decide (n > 0)))&&(jM b s).all (Zb row costs m s n))));rw[qq,Bool.true_and];rcases L with⟨L1,L2⟩ | ⟨L1,Z',_,L2⟩
   ·have L1:(jM b s).all (Zb row costs m s n)=false:=by simpa using L1
    rw[L1];exact Yl (by rw[jW];simp[e1,L2])
   ·have L1:(jM b s).all (Zb row costs m s n)=true:=by simpa using L1
    rw[L1];exact sq (by rw[jW];simp[e1,L2] <;> rfl) rfl
theorem Xu(m:List Pr)(p:Pr)(X:Gs b p.1):ZB C [jo b,.lst (row.map .int),.lst (costs.map .int),j7 p.1,.int p.2,.dct (jI m) (jN m)]=some (.bl (zo row costs m b p)):=by
 obtain⟨s,n⟩:=p;have p0:0<=s.place:=X.p0;have k2:=ok.k2;have z1:Jd (b.kinds.length:Int)=true:=JL (by lia) (by lia);unfold zo;by_cases q:s.place=b.size
 ·have e:jM b s=[]:=by
   cases h:jM b s with
   | nil=>rfl
   | cons p r=>exact vDa (Wd (h▸wNa:p∈jM b s)) (by lia)
  refine fE (Yl (d:=.bl (decide (n<=0))) (zZ (by simp[q]) ?_)) |>.trans ?_
  ·simp[Jo]
  ·by_cases c:n<=0
   ·have c':¬0 < n:=by lia
    simp[e,q,c,c']
   ·have c':0 < n:=by lia
    simp[e,q,c,c']
 ·have L:=wN (g:=zu) (s:=JD C) (items:=jX 0 b.kinds.length) (r:=.rt (.bl false)) (fun i Z=>(Yu b s i).all (Zb row costs m s n)=true/\∃x y,Z=[.bo (jo b),.bo (.lst (row.map .int)),.bo (.lst (costs.map .int)),.cl (j7 s),.bo (.int n),.bo (.dct (jI m) (jN m)),x,y])
   (fun _ r=>r=.rt (.bl false)/\(jM b s).all (Zb row costs m s n)=false) (by
   rintro i d Z hd ⟨hi2,x,y,rfl⟩;obtain⟨hi,rfl⟩:=vA hd;have e1:=gR C b s (i:Int) ok X.toForm ⟨by lia,by lia⟩;refine⟨_,rfl,?_⟩;cases hs:yN b s (i:Int)with
   | none=>
    rw[hs]at e1;refine .inl ⟨[.bo (jo b),.bo (.lst (row.map .int)),.bo (.lst (costs.map .int)),.cl (j7 s),.bo (.int n),.bo (.dct (jI m) (jN m)),.cl (.int (i:Int)),.cl .non],?_,?_,_,_,rfl⟩
    ·simp only[JD];simp[e1,Z9]
    ·rw[vB,hs,uFa];exact hi2
   | some u=>
    rw[hs]at e1;have lt:=(zk hs).2.2;have e2:=WH C row costs s.place (i:Int) p0 (by lia) (by lia);have e3:=aW m u;have hm:((i:Int),u)∈jM b s:=by
     unfold jM Yu;exact List.mem_filterMap.mpr ⟨i,List.mem_range.mpr hi,by rw[hs];rfl⟩
    have no:Zb row costs m s n ((i:Int),u)=false->(jM b s).all (Zb row costs m s n)=false:=fun z=>by
     rw[Bool.eq_false_iff];intro y;rw[List.all_eq_true.mp y _ hm]at z;cases z
    have sd:Zb row costs m s n ((i:Int),u)=true->(Yu b s (i+1)).all (Zb row costs m s n)=true:=fun z=>by
     rw[vB,hs,List.all_append,hi2];simp[z]
    have eS:JD C [.bo (jo b),.bo (.lst (row.map .int)),.bo (.lst (costs.map .int)),.cl (j7 s),.bo (.int n),.bo (.dct (jI m) (jN m)),.cl (.int (i:Int)),y]=(if Zb row costs m s n ((i:Int),u)=true then some (.nx [.bo (jo b),.bo (.lst (row.map .int)),.bo (.lst (costs.map .int)),.cl (j7 s),.bo (.int n),.bo (.dct (jI m) (jN m)),.cl (.int (i:Int)),.cl (j7 u)])else some (.rt (.bl false))):=by
     unfold Zb;simp only[JD];cases hl:lk m u with
     | none=>
      rw[hl]at e3;simp[e1,Z9,e3]
     | some v=>
      rw[hl]at e3;have e4:=Kt hl;by_cases c:n<=v+yv row costs s.place (i:Int)
      ·have c':¬v+yv row costs s.place (i:Int) < n:=by lia
       simp[e1,Z9,e3,e4,e2,JW,c,c']
      ·have c':v+yv row costs s.place (i:Int) < n:=by lia
       simp[e1,Z9,e3,e4,e2,JW,c,c']
    by_cases c:Zb row costs m s n ((i:Int),u)=true
    ·exact .inl ⟨_,eS.trans (if_pos c),sd c,_,_,rfl⟩
    ·exact .inr ⟨_,eS.trans (if_neg c),rfl,no (by simpa using c)⟩) (Z:=[.bo (jo b),.bo (.lst (row.map .int)),.bo (.lst (costs.map .int)),.cl (j7 s),.bo (.int n),.bo (.dct (jI m) (jN m)),.un,.un]) ⟨rfl,_,_,rfl⟩
  have qq:(!(decide (s.place=b.size)&&decide (n > 0)))=true:=by simp[q]
  show _=some (D.bl ((!(decide (s.place=b.size)&&decide (n > 0)))&&(jM b s).all (Zb row costs m s n)));rw[qq,Bool.true_and];refine fE (sq (YQ (by simp[q]) rfl) ?_);rcases L with⟨Z',L1,L2,_⟩ | ⟨i,d',_,L1,L2,L3⟩
  ·rw[show(jX 0 b.kinds.length).length=b.kinds.length by simp[jX]]at L2;rw[show(jM b s).all (Zb row costs m s n)=true from L2];exact sq (by rw[jW];simp[L1,z1] <;> rfl) rfl
  ·cases L2;rw[L3];exact Yl (by rw[jW];simp[L1,z1])
end
def bB{α:Type}(xs:List α)(n:Nat):J6 xs (some ((n:Int)+1)) (some ((n:Int)+2))=(xs.drop (n+1)).take 1:=by
 unfold J6;rw[show(n:Int)+1=((n+1:Nat):Int) by lia,show(n:Int)+2=((n+2:Nat):Int) by lia,HT.sIx_nat,HT.sIx_nat];by_cases h:n+1<=xs.length
 ·rw[Nat.min_eq_left h];by_cases h2:n+2<=xs.length
  ·rw[Nat.min_eq_left h2];congr 1
   lia
  ·rw[Nat.min_eq_right (by lia),List.drop_of_length_le (by lia)];simp
 ·rw[Nat.min_eq_right (by lia),Nat.min_eq_right (by lia),List.drop_of_length_le (by lia),List.drop_of_length_le (by lia)];simp
def tD(tb:List (List Pr)):List D:=tb.map fun l=>D.lst (l.map jt)
abbrev g3:DG:=gT 2 (gC (gN 1) (gC (gN 2) gZ))
theorem dW:∀(l m:List Pr) (d:D) (x y:Sl),Ye x=true->Ye y=true->m.length+l.length<=9000->∃Z,gc g3 (dC 1) (dC 2) (l.map jt) [.cl d,x,y] (jI m) (jN m)=some (Z,jI (l.foldl yb m),jN (l.foldl yb m))
 | [],m,d,x,y,_,_,_=>⟨_,rfl⟩
 | p::l,m,d,x,y,hx,hy,h=>by
  rw[vXa]at h;have h1:=u4 (st m) p.1;have hl:(yb m p).length<=m.length+1:=by rw[<-Za,Ul,<-Za m];exact h1.2
  obtain⟨Z,e⟩:=dW l (yb m p) d (.cl (j7 p.1)) (.cl (.int p.2)) rfl rfl (by lia);refine⟨Z,?_⟩;rw[List.foldl_cons,<-e,vWa,gc];have g:g3 (jt p) [.cl d,x,y]=some [.cl d,.cl (j7 p.1),.cl (.int p.2)]:=rfl;have z:(jI m).length < sizeLine:=by unfold jI;rw[vYa];exact jp (by lia)
  rw[g,uEa];show((J3 (j7 p.1)).bind fun x=>(jK (jI m)).bind fun qs=>if (jI m).length < sizeLine/\([.cl d,.cl (j7 p.1),.cl (.int p.2)]:je).all Ye=true then gc g3 (dC 1) (dC 2) (l.map jt) [.cl d,.cl (j7 p.1),.cl (.int p.2)] (Yy qs (jI m) x (j7 p.1)) (YM qs (jN m) x (.int p.2))else none)=_;rw[zm,VB,uEa,uEa,if_pos ⟨z,rfl⟩,Wa,Wb]
def yq(tb:List (List Pr))(i:Nat):List Pr:=yp (tb.getD (i+1) [])
def Ey(tb:List (List Pr))(i:Nat)(hs:∀l∈tb,l.length<=8000)(r0 r1 r2 r4 r5 r7 r8:Sl):Wv 3 [] (jQ (dL (JT (dV 3) (fun Z=>((d2 jv (dV 6) (dN 1)) Z).bind JC) (fun Z=>((d2 jv (dV 6) (dN 2)) Z).bind JC)))) (gN 0) (jQ (dP 0)) g3 (dC 1) (dC 2) [r0,r1,r2,.bo (.lst (tD tb)),r4,r5,.cl (.int (i:Int)),r7,r8]=some (.dct (jI (yq tb i)) (jN (yq tb i))):=by
 have e0:jQ (dL (JT (dV 3) (fun Z=>((d2 jv (dV 6) (dN 1)) Z).bind JC) (fun Z=>((d2 jv (dV 6) (dN 2)) Z).bind JC))) [r0,r1,r2,.bo (.lst (tD tb)),r4,r5,.cl (.int (i:Int)),r7,r8]=some (((tb.drop (i+1)).take 1).map fun l=>D.lst (l.map jt)):=by
  have:=bB (tD tb) i;unfold tD at this⊢;rw[<-List.map_drop,<-List.map_take]at this;simp[this,JC]
 unfold Wv;rw[e0,uEa,if_pos (show(yV 3 [] _).all Ye=true from rfl)];show(kX (gN 0) (jQ (dP 0)) g3 (dC 1) (dC 2) _ [.un,.un,.un] [] []).bind _=_;unfold yq;rw[uBa];cases h:tb[i+1]? with
 | none=>rw[List.drop_of_length_le (List.getElem?_eq_none_iff.mp h)];rfl
 | some l=>
  obtain⟨hl,he⟩:=uSa h;rw[List.drop_eq_getElem_cons hl,he,List.take_succ_cons,List.take_zero];obtain⟨Z,e⟩:=dW l [] (.lst (l.map jt)) .un .un rfl rfl (by have:=hs l (wYa h);simp;lia);rw[vWa,uJa,kX];show((gc g3 (dC 1) (dC 2) (l.map jt) [.cl (.lst (l.map jt)),.un,.un] (jI []) (jN [])).bind _).bind _=_;rw[e];rfl
def QY(x:List Pr×Nat):D:=.tup [.int (x.2:Int),.lst (x.1.map jt)]
theorem We:∀(tb:List (List Pr)) (n:Nat),Y0 n (tD tb)=(tb.zipIdx n).map QY
 | [],n=>rfl
 | l::tb,n=>by
  show D.tup [.int n,.lst (l.map jt)]::Y0 (n+1) (tD tb)=_;rw[We tb (n+1)];rfl
def WL{tb:List (List Pr)}{f:List Pr}{i:Nat}(h:(f,i)∈tb.zipIdx):tb[i]?=some f:=by
 have:=List.mem_zipIdx_iff_getElem?.mp h;simpa using this
structure Tt (b:Bk) (tb:List (List Pr)):Prop where
 len:∀l∈tb,l.length<=8000
 gs:∀l∈tb,∀p∈l,Gs b p.1
 few:tb.length<=100
section
variable (row costs:List Int) (b:Bk) (tb:List (List Pr)) (cost:Int)
def ZC(x:List Pr×Nat):Bool:=US x.1 x.2&&x.1.all (zo row costs (yq tb x.2) b)
def vF:Bool:=(tb.getD 0 []).any fun p=>Yc p.1 (ji b)&&decide (cost<=p.2)
def VC:Bool:=vF b tb cost&&tb.zipIdx.all (ZC row costs b tb)
end
section
variable {b:Bk} {row costs:List Int} {tb:List (List Pr)} (C:Addr) (ok:OkB b) (hr:(row.length:Int)=b.size) (hc:(costs.length:Int)=b.size)
include ok hr hc
theorem dX(T:Tt b tb)(cost:Int)(r5 x8:Sl)(f:List Pr)(i:Nat)(hf:tb[i]?=some f):∃y8,JO C [.bo (jU C b),.bo (.lst (row.map .int)),.bo (.lst (costs.map .int)),.bo (.lst (tD tb)),.bo (.int cost),r5,.cl (.int (i:Int)),.cl (.lst (f.map jt)),x8]=
  if ZC row costs b tb (f,i)=true then some (.nx [.bo (jU C b),.bo (.lst (row.map .int)),.bo (.lst (costs.map .int)),.bo (.lst (tD tb)),.bo (.int cost),r5,.cl (.int (i:Int)),.cl (.lst (f.map jt)),y8])else some (.rt (.bl false)):=by
 have hm:=wYa hf;have e1:=bz C f (i:Int) (T.len f hm);have e2:=Ey tb i T.len (.bo (jU C b)) (.bo (.lst (row.map .int))) (.bo (.lst (costs.map .int))) (.bo (.int cost)) r5 (.cl (.lst (f.map jt))) x8;have e3:Js (gN 0) jA (jb (ze C) [(fV 1),(fV 2),(fV 3),(tC 0),(fV 4)]) (f.map jt) [.un,.bo (jU C b),.bo (.lst (row.map .int)),.bo (.lst (costs.map .int)),.cl (.dct (jI (yq tb i)) (jN (yq tb i)))]=some (f.map fun p=>.bl (zo row costs (yq tb i) b p)):=J1 jt _ fun p hp=>⟨[.cl (jt p),.bo (jU C b),.bo (.lst (row.map .int)),.bo (.lst (costs.map .int)),.cl (.dct (jI (yq tb i)) (jN (yq tb i)))],rfl,rfl,by
  have:=bA C ok hr hc (yq tb i) p (T.gs f hm p hp);simp[this]⟩
 have e4:=yo (fun p:Pr=>zo row costs (yq tb i) b p) f;have z:f.length<=sizeLine:=wQa (jp (by have:=T.len f hm;lia));refine⟨.cl (.dct (jI (yq tb i)) (jN (yq tb i))),?_⟩;unfold ZC;simp only[JO];generalize (jb (ze C) [(fV 1),(fV 2),(fV 3),(tC 0),(fV 4)])=dd at e3⊢;generalize (Wv 3 [] _ _ _ _ _ _)=dq at e2⊢;by_cases c1:US f (i:Int)=true
 ·by_cases c2:(f.all (zo row costs (yq tb i) b))=true
  ·simp[e1,c1,e2,e3,e4,z,YG,c2]
  ·simp[e1,c1,e2,e3,e4,z,YG,c2]
 ·simp[e1,c1]
theorem gY(hk:∀n∈row,Z8 b n)(hcc:∀c∈costs,1<=c/\c<=9)(T:Tt b tb)(cost:Int):yP C [jU C b,.lst (row.map .int),.lst (costs.map .int),.lst (tD tb),.int cost]=some (.bl (VC row costs b tb cost)):=by
 have e1:=bw C ok hr hk hc hcc;have e2:=Xg C b ok;have L:=GP (g:=Y4) (s:=JO C) QY (fun x=>!ZC row costs b tb x) (fun Z=>∃x y z,Z=[.bo (jU C b),.bo (.lst (row.map .int)),.bo (.lst (costs.map .int)),.bo (.lst (tD tb)),.bo (.int cost),.cl (j7 (ji b)),x,y,z]) (.bl false) (xs:=tb.zipIdx) (by
  rintro⟨f,i⟩ hx Z ⟨x,y,z,rfl⟩;obtain⟨y8,e⟩:=dX C ok hr hc T cost (.cl (j7 (ji b))) z f i (WL hx);refine⟨_,rfl,?_⟩;by_cases c:ZC row costs b tb (f,i)=true
  ·rw[if_pos c]at e;exact .inr ⟨by simp[c],_,e,_,_,_,rfl⟩
  ·rw[if_neg c]at e;exact .inl ⟨by simp[c],e⟩) ⟨.un,.un,.un,rfl⟩
 rw[UT]at L;have zt:(tD tb).length<=sizeLine:=by unfold tD;rw[vYa];exact wQa (jp (by have:=T.few;lia))
 have hfor:(jW (vK (dP 3)) Y4 (JO C)) [.bo (jU C b),.bo (.lst (row.map .int)),.bo (.lst (costs.map .int)),.bo (.lst (tD tb)),.bo (.int cost),.cl (j7 (ji b)),.un,.un,.un]=J5 Y4 (JO C) (tb.zipIdx.map QY) [.bo (jU C b),.bo (.lst (row.map .int)),.bo (.lst (costs.map .int)),.bo (.lst (tD tb)),.bo (.int cost),.cl (j7 (ji b)),.un,.un,.un]:=by
  rw[jW,<-We];simp[zt]
 have e3:∀l∈tb,Js g2 jA (JB (d2 jH (dV 0) (dV 2)) (d2 Vm (dV 1) (dV 3))) (l.map jt) [.un,.un,.cl (j7 (ji b)),.bo (.int cost)]=some (l.map fun p=>.bl (Yc p.1 (ji b)&&decide (cost<=p.2))):=fun l hl=>J1 jt _ fun p hp=>⟨[.cl (j7 p.1),.cl (.int p.2),.cl (j7 (ji b)),.bo (.int cost)],rfl,rfl,by
  have X:=T.gs l hl p hp;have F:=Fit.empty b;have:=Es (s:=p.1) (t:=ji b) (by rw[X.w,F.w]) (by rw[X.m,F.m]);cases hq:Yc p.1 (ji b) <;> rw[hq]at this <;> simp[-jH,this,Vm]⟩
 unfold VC;refine fE (sq (Z1:=[.bo (jU C b),.bo (.lst (row.map .int)),.bo (.lst (costs.map .int)),.bo (.lst (tD tb)),.bo (.int cost),.un,.un,.un,.un]) (by simp[Uw,e1] <;> rfl) (sq (Z1:=[.bo (jU C b),.bo (.lst (row.map .int)),.bo (.lst (costs.map .int)),.bo (.lst (tD tb)),.bo (.int cost),.cl (j7 (ji b)),.un,.un,.un]) (by simp[e2]) ?_));cases htb:tb with
 | nil=>exact Yl (zZ (by simp[tD]) rfl)
 | cons l r=>
  have hl:l∈tb:=by rw[htb];exact wNa
  have e3:=e3 l hl;have e4:=yo (fun p:Pr=>Yc p.1 (ji b)&&decide (cost<=p.2)) l;have z:l.length<=sizeLine:=wQa (jp (by have:=T.len l hl;lia));have ht:(Y8 (JK (Jz (dV 3))) (JK (Jz (jb uN [(false,(dL (JU 2 [5,4] (jQ (d2 j8 (dV 3) (dN 0))) g2 jA (JB (d2 jH (dV 0) (dV 2)) (d2 Vm (dV 1) (dV 3))))))])))) [.bo (jU C b),.bo (.lst (row.map .int)),.bo (.lst (costs.map .int)),.bo (.lst (tD tb)),.bo (.int cost),.cl (j7 (ji b)),.un,.un,.un]=some (!vF b tb cost):=by
   have a0:atI (tD tb) 0=some (.lst (l.map jt)):=yD (by decide) (by rw[htb];rfl);have n0:(tD tb).isEmpty=false:=by rw[htb];rfl
   have f0:vF b tb cost=l.any fun p=>Yc p.1 (ji b)&&decide (cost<=p.2):=by rw[htb];rfl
   have f1:(l.map fun p:Pr=>Yc p.1 (ji b)&&decide (cost<=p.2)).any id=vF b tb cost:=by rw[f0,List.any_map];rfl
   generalize (JB (d2 jH (dV 0) (dV 2)) (d2 Vm (dV 1) (dV 3)))=dd at e3⊢;have ea:uN [.lst (l.map fun p:Pr=>.bl (Yc p.1 (ji b)&&decide (cost<=p.2)))]=some (.bl (vF b tb cost)):=by
    rw[uN,e4,uEa,f1]
   simp[-uN,n0,a0,e3,ea,z]
  rw[<-htb];cases hq:vF b tb cost with
  | false=>
   rw[hq]at ht;exact Yl (zZ ht rfl)
  | true=>
   rw[hq]at ht;refine sq (YQ ht rfl) ?_;rw[Bool.true_and];rcases L with⟨L1,L2⟩ | ⟨L1,Z',_,L2⟩
   ·have L1:tb.zipIdx.all (ZC row costs b tb)=false:=by simpa using L1
    rw[L1];exact Yl (hfor.trans L2)
   ·have L1:tb.zipIdx.all (ZC row costs b tb)=true:=by simpa using L1
    rw[L1];exact sq (hfor.trans L2) rfl
end
theorem kC:∀l:List Pr,ym (l.map jt)<=6
 | []=>by simp
 | p::l=>by
  have h1:=kC l;have h2:ym [j7 p.1]<=5:=ky [p.1];have e:dep (jt p)<=6:=by
   have h3:dep (j7 p.1)<=5:=by rw[ym]at h2;lia
   show max (dep (j7 p.1)) (max 0 0)+1<=6
   lia
  rw[vWa,ym]
  lia
theorem WM:∀tb:List (List Pr),ym (tD tb)<=7
 | []=>by simp[tD]
 | l::tb=>by
  have h1:=WM tb;have h2:=kC l;show max (ym (l.map jt)+1) (ym (tD tb))<=7
  lia
def Wf(tb:List (List Pr)):dep (.lst (tD tb))<=20:=by rw[dep];have:=WM tb;lia
def dY(l:List Pr):dep (.lst (l.map jt))<=20:=by rw[dep];have:=kC l;lia
def Wg{l:List D}(h:dep (.lst l)<=20):jH (.lst l) (.lst [])=some (.bl l.isEmpty)/\Jv (.lst l) (.lst [])=some (.bl (!l.isEmpty)):=by
 have e0:vY (D.lst l) (D.lst [])=true:=rfl;have h1:yC (D.lst l) (D.lst [])=some l.isEmpty:=by
  rw[yC];cases l with
  | nil=>rfl
  | cons s l=>rw[if_neg (by simp)];rfl
 unfold jH Jv uK;refine⟨?_,?_⟩;all_goals rw[if_pos e0,if_pos ⟨e0,h⟩,h1];rfl
def Xv{α:Type}(f g:α->Bool)(l:List α):(l.all f&&l.all g)=l.all fun x=>f x&&g x:=by
 induction l with
 | nil=>rfl
 | cons x l ih=>
  rw[List.all_cons,List.all_cons,List.all_cons,<-ih];cases f x <;> cases g x <;> simp
theorem QZ(e:Sd)(c:Int):∀f:List Pr,(st f).Nodup->decide (c<=(lk f e).getD (c - 1))=f.any fun p=>Yc p.1 e&&decide (c<=p.2)
 | [],_=>by rw[lk];simp;lia
 | p::f,h=>by
  have h:(p.1::st f).Nodup:=h;obtain⟨h1,h2⟩:=List.nodup_cons.mp h;rw[lk,List.any_cons];by_cases q:p.1=e
  ·have no:(f.any fun p=>Yc p.1 e&&decide (c<=p.2))=false:=by
    rw[Bool.eq_false_iff];intro z;obtain⟨y,hy,hz⟩:=List.any_eq_true.mp z;have:=V_.mp ((Bool.and_eq_true _ _).mp hz).1;exact h1 (by rw[q,<-this];exact List.mem_map.mpr ⟨y,hy,rfl⟩)
   rw[if_pos q,no,V_.mpr q];simp
  ·have ne:Yc p.1 e=false:=Bool.eq_false_iff.mpr fun z=>q (V_.mp z);rw[if_neg q,ne,QZ e c f h2];simp
def tbl(tb:List (List Pr)):List D:=(tb.map fun l=>D.dct (jI (yp l)) (jN (yp l)))++[.dct [] []]
section
variable {tb:List (List Pr)} {f:List Pr} {i:Nat}
def Q_(hf:tb[i]?=some f):atI (tbl tb) (i:Int)=some (.dct (jI (yp f)) (jN (yp f))):=by
 refine yD (by lia) ?_;unfold tbl;have hi:=(uSa hf).1;rw[Int.toNat_natCast,uRa (by rw[vYa];exact hi),uAa,hf];rfl
def dZ(hf:tb[i]?=some f):atI (tbl tb) ((i:Int)+1)=some (.dct (jI (yq tb i)) (jN (yq tb i))):=by
 have hi:=(uSa hf).1;refine yD (by lia) ?_;rw[show((i:Int)+1).toNat=i+1 by lia];unfold tbl yq;rw[uBa];by_cases h:i+1 < tb.length
 ·rw[uRa (by rw[vYa];exact h),uAa];simp[h]
 ·rw[List.getElem?_append_right (by rw[vYa];lia),vYa,List.getElem?_eq_none_iff.mpr (by lia:tb.length<=i+1),show i+1 - tb.length=0 by lia];rfl
end
section
variable {b:Bk} {row costs:List Int} {tb:List (List Pr)} (C:Addr) (ok:OkB b) (hr:(row.length:Int)=b.size) (hc:(costs.length:Int)=b.size)
include ok hr hc
theorem d_(T:Tt b tb)(cost:Int)(x8 x9:Sl)(f:List Pr)(i:Nat)(hf:tb[i]?=some f):∃y8 y9,yF C [.bo (jo b),.bo (.lst (row.map .int)),.bo (.lst (costs.map .int)),.bo (.lst (tD tb)),.bo (.int cost),.cl (.lst (f.map jt)),.cl (.lst (tbl tb)),.cl (.int (i:Int)),x8,x9]=
  if ZC row costs b tb (f,i)=true then some (.nx [.bo (jo b),.bo (.lst (row.map .int)),.bo (.lst (costs.map .int)),.bo (.lst (tD tb)),.bo (.int cost),.cl (.lst (f.map jt)),.cl (.lst (tbl tb)),.cl (.int (i:Int)),y8,y9])else some (.rt (.bl false)):=by
 have hm:=wYa hf;have a1:=Q_ hf;have a2:=dZ hf;have L:=GP (g:=Yh) (s:=yE C) jt (fun p=>!(decide (p.1.place=(i:Int))&&zo row costs (yq tb i) b p)) (fun Z=>∃y8 y9,Z=[.bo (jo b),.bo (.lst (row.map .int)),.bo (.lst (costs.map .int)),.bo (.lst (tD tb)),.bo (.int cost),.cl (.lst (f.map jt)),.cl (.lst (tbl tb)),.cl (.int (i:Int)),y8,y9]) (.bl false) (xs:=f) (by
  rintro p hp Z ⟨x,y,rfl⟩;have X:=T.gs f hm p hp;have p1:=X.p1;have e1:=Xu C ok hr hc (yq tb i) p X;refine⟨[.bo (jo b),.bo (.lst (row.map .int)),.bo (.lst (costs.map .int)),.bo (.lst (tD tb)),.bo (.int cost),.cl (.lst (f.map jt)),.cl (.lst (tbl tb)),.cl (.int (i:Int)),.cl (j7 p.1),.cl (.int p.2)],rfl,?_⟩;simp only[yE];by_cases c1:p.1.place=(i:Int)
  ·have c2:¬b.size < (i:Int):=by lia
   by_cases c3:zo row costs (yq tb i) b p=true
   ·refine .inr ⟨by simp[c1,c3],[.bo (jo b),.bo (.lst (row.map .int)),.bo (.lst (costs.map .int)),.bo (.lst (tD tb)),.bo (.int cost),.cl (.lst (f.map jt)),.cl (.lst (tbl tb)),.cl (.int (i:Int)),.cl (j7 p.1),.cl (.int p.2)],?_,_,_,rfl⟩;simp[c1,c2,a2,e1,c3,JW]
   ·refine .inl ⟨by simp[c3],?_⟩;simp[c1,c2,a2,e1,c3,JW]
  ·refine .inl ⟨by simp[c1],?_⟩;simp[c1]) (Z:=[.bo (jo b),.bo (.lst (row.map .int)),.bo (.lst (costs.map .int)),.bo (.lst (tD tb)),.bo (.int cost),.cl (.lst (f.map jt)),.cl (.lst (tbl tb)),.cl (.int (i:Int)),x8,x9]) ⟨x8,x9,rfl⟩
 rw[UT]at L;have kl:(jI (yp f)).length=(yp f).length:=List.length_map _;have hN:((yp f).length=f.length)↔(st f).Nodup:=aX f;have hO:ZC row costs b tb (f,i)=(decide ((st f).Nodup)&&f.all fun p=>decide (p.1.place=(i:Int))&&zo row costs (yq tb i) b p):=by
  unfold ZC US;rw[Bool.and_assoc,Xv]
 rw[hO];have hfor:(jW (jQ (dP 5)) Yh (yE C)) [.bo (jo b),.bo (.lst (row.map .int)),.bo (.lst (costs.map .int)),.bo (.lst (tD tb)),.bo (.int cost),.cl (.lst (f.map jt)),.cl (.lst (tbl tb)),.cl (.int (i:Int)),x8,x9]=J5 Yh (yE C) (f.map jt) [.bo (jo b),.bo (.lst (row.map .int)),.bo (.lst (costs.map .int)),.bo (.lst (tD tb)),.bo (.int cost),.cl (.lst (f.map jt)),.cl (.lst (tbl tb)),.cl (.int (i:Int)),x8,x9]:=rfl;by_cases c:(st f).Nodup
 ·have c':=hN.mpr c;rw[decide_eq_true c,Bool.true_and];rcases L with⟨L1,L2⟩ | ⟨L1,Z',⟨y8,y9,rfl⟩,L2⟩
  ·refine⟨x8,x9,?_⟩;rw[if_neg (by simpa using L1)];exact sq (YQ (by simp[a1,kl,c']) rfl) (hfor.trans L2)
  ·refine⟨y8,y9,?_⟩;rw[if_pos (by simpa using L1)];exact sq (YQ (by simp[a1,kl,c']) rfl) (hfor.trans L2)
 ·refine⟨x8,x9,?_⟩;have c':¬(yp f).length=f.length:=fun z=>c (hN.mp z);have c2:¬((yp f).length:Int)=(f.length:Int):=by lia
  rw[decide_eq_false c,Bool.false_and,if_neg (by simp)];exact Yl (zZ (by simp[a1,kl,c',c2]) rfl)
theorem K6(T:Tt b tb)(cost:Int):ve C [jo b,.lst (row.map .int),.lst (costs.map .int),.lst (tD tb),.int cost]=some (.bl (VC row costs b tb cost)):=by
 have e2:=wZ C b ok;have hn:=(Wg (Wf tb)).1;unfold VC;cases htb:tb with
 | nil=>
  rw[htb]at hn;have hn:jH (.lst []) (.lst [])=some (.bl true):=hn;exact fE (Yl (zZ (by simp[-jH,hn,tD]) rfl))
 | cons l r=>
 have hn:jH (.lst (tD tb)) (.lst [])=some (.bl false):=by rw[hn,htb];rfl
 have h0:tb[0]?=some l:=by rw[htb];rfl
 rw[<-htb];have e1:Js (gN 0) jA (dL (Jr Z_ [(fV 0)])) (tD tb) [.un]=some (tb.map fun l=>D.dct (jI (yp l)) (jN (yp l))):=J1 (fun l:List Pr=>D.lst (l.map jt)) _ fun l _=>⟨[.cl (.lst (l.map jt))],rfl,rfl,by simp[dU]⟩
 have zt:(tD tb).length<=sizeLine:=by unfold tD;rw[vYa];exact wQa (jp (by have:=T.few;lia))
 have zb:tb.length+1<=sizeLine:=wQa (jp (by have:=T.few;lia));have L:=GP (g:=Yi) (s:=yF C) QY (fun x=>!ZC row costs b tb x) (fun Z=>∃x5 x7 x8 x9,Z=[.bo (jo b),.bo (.lst (row.map .int)),.bo (.lst (costs.map .int)),.bo (.lst (tD tb)),.bo (.int cost),x5,.cl (.lst (tbl tb)),x7,x8,x9]) (.bl false) (xs:=tb.zipIdx) (by
  rintro⟨f,i⟩ hx Z ⟨x5,x7,x8,x9,rfl⟩;obtain⟨y8,y9,e⟩:=d_ C ok hr hc T cost x8 x9 f i (WL hx);refine⟨_,rfl,?_⟩;by_cases c:ZC row costs b tb (f,i)=true
  ·rw[if_pos c]at e;exact .inr ⟨by simp[c],_,e,_,_,_,_,rfl⟩
  ·rw[if_neg c]at e;exact .inl ⟨by simp[c],e⟩) ⟨.un,.un,.un,.un,rfl⟩
 rw[UT]at L;have hfor:(jW (vK (dP 3)) Yi (yF C)) [.bo (jo b),.bo (.lst (row.map .int)),.bo (.lst (costs.map .int)),.bo (.lst (tD tb)),.bo (.int cost),.un,.cl (.lst (tbl tb)),.un,.un,.un]=J5 Yi (yF C) (tb.zipIdx.map QY) [.bo (jo b),.bo (.lst (row.map .int)),.bo (.lst (costs.map .int)),.bo (.lst (tD tb)),.bo (.int cost),.un,.cl (.lst (tbl tb)),.un,.un,.un]:=by
  rw[jW,<-We];simp[zt]
 refine fE (sq (YQ (by simp[-jH,hn]) rfl) (sq (Z1:=[.bo (jo b),.bo (.lst (row.map .int)),.bo (.lst (costs.map .int)),.bo (.lst (tD tb)),.bo (.int cost),.un,.cl (.lst (tbl tb)),.un,.un,.un]) ?_ ?_))
 ·generalize (dL (Jr Z_ [(fV 0)]))=dd at e1⊢;simp[e1,zt,zb,UA,uA,tbl]
 ·rcases L with⟨L1,L2⟩ | ⟨L1,Z',⟨x5,x7,x8,x9,rfl⟩,L2⟩
  ·have L1:tb.zipIdx.all (ZC row costs b tb)=false:=by simpa using L1
   rw[L1,Bool.and_false];exact Yl (hfor.trans L2)
  ·have L1:tb.zipIdx.all (ZC row costs b tb)=true:=by simpa using L1
   rw[L1,Bool.and_true];refine sq (hfor.trans L2) ?_;have a0:=Q_ h0;have a0:atI (tbl tb) 0=some (.dct (jI (yp l)) (jN (yp l))):=a0;have k0:ZC row costs b tb (l,0)=true:=List.all_eq_true.mp L1 _ (List.mem_zipIdx_iff_getElem?.mpr h0);have nd:(st l).Nodup:=by
    unfold ZC US at k0;simp only[Bool.and_eq_true,decide_eq_true_eq]at k0;exact k0.1.1
   have eg:=dS (yp l) (ji b) (cost - 1);have es:yp l=l:=WK l [] (by simpa using nd);have f0:vF b tb cost=l.any fun p=>Yc p.1 (ji b)&&decide (cost<=p.2):=by rw[htb];rfl
   rw[f0,<-QZ _ _ _ nd];rw[es]at eg a0;simp[a0,e2,eg,Vm]
end
section
variable {b:Bk} {row costs:List Int} (C:Addr) (ok:OkB b) (hr:(row.length:Int)=b.size) (hc:(costs.length:Int)=b.size)
include ok hr hc
theorem FP(m:List Pr)(s:Sd)(X:Gs b s)(hm:∀p∈jM b s,p.2∈st m)(r3 r5 x8 x9:Sl)(v:Int):∃v' y8 y9,J5 YZ (yk C) (jX 0 b.kinds.length) [.bo (jo b),.bo (.lst (row.map .int)),.bo (.lst (costs.map .int)),r3,.ow none (.dct (jI m) (jN m)),r5,.cl (j7 s),.cl (.int v),x8,x9]=
  some (.nx [.bo (jo b),.bo (.lst (row.map .int)),.bo (.lst (costs.map .int)),r3,.ow none (.dct (jI m) (jN m)),r5,.cl (j7 s),.cl (.int v'),y8,y9]):=by
 have p0:=X.p0;obtain⟨Z1,L1,v',y8,y9,rfl⟩:=JY (g:=YZ) (s:=yk C) (items:=jX 0 b.kinds.length) (fun i Z=>∃v' y8 y9,Z=[.bo (jo b),.bo (.lst (row.map .int)),.bo (.lst (costs.map .int)),r3,.ow none (.dct (jI m) (jN m)),r5,.cl (j7 s),.cl (.int v'),y8,y9]) (by
  rintro i d Z hd ⟨w,y8,y9,rfl⟩;obtain⟨hi,rfl⟩:=vA hd;have e1:=gR C b s (i:Int) ok X.toForm ⟨by lia,by lia⟩;cases hs:yN b s (i:Int)with
  | none=>
   rw[hs]at e1;refine⟨_,_,rfl,?_,w,.cl (.int (i:Int)),.cl .non,rfl⟩;simp only[yk];simp[e1,Z9]
  | some u=>
   rw[hs]at e1;have lt:=(zk hs).2.2;have e2:=WH C row costs s.place (i:Int) p0 (by lia) (by lia);have hu:u∈st m:=hm ((i:Int),u) (by
    unfold jM Yu;exact List.mem_filterMap.mpr ⟨i,List.mem_range.mpr hi,by rw[hs];rfl⟩)
   obtain⟨x,hx⟩:=Option.isSome_iff_exists.mp (Uk.mpr hu);have e3:=Kt hx;refine⟨_,_,rfl,?_,(if x+yv row costs s.place (i:Int) < w then x+yv row costs s.place (i:Int)else w),.cl (.int (i:Int)),.cl (j7 u),rfl⟩;simp only[yk];by_cases c:x+yv row costs s.place (i:Int) < w
   ·simp[e1,Z9,e2,e3,VM,c]
   ·simp[e1,Z9,e2,e3,VM,c]) (Z:=[.bo (jo b),.bo (.lst (row.map .int)),.bo (.lst (costs.map .int)),r3,.ow none (.dct (jI m) (jN m)),r5,.cl (j7 s),.cl (.int v),x8,x9]) ⟨v,x8,x9,rfl⟩
 exact⟨v',y8,y9,L1⟩
theorem D0(r3 r5:Sl):∀(f:List Sd) (m:List Pr),(∀s∈f,Gs b s/\∀p∈jM b s,p.2∈st m)->m.length+f.length<=200000->∀x6 x7 x8 x9,∃m' y6 y7 y8 y9,J5 Y_ (z9 C) (f.map j7) [.bo (jo b),.bo (.lst (row.map .int)),.bo (.lst (costs.map .int)),r3,.ow none (.dct (jI m) (jN m)),r5,x6,x7,x8,x9]=
  some (.nx [.bo (jo b),.bo (.lst (row.map .int)),.bo (.lst (costs.map .int)),r3,.ow none (.dct (jI m') (jN m')),r5,y6,y7,y8,y9])/\(∀t,t∈st m \/ t∈f->t∈st m')/\m'.length<=m.length+f.length
 | [],m,_,_,x6,x7,x8,x9=>⟨m,x6,x7,x8,x9,rfl,fun t h=>h.elim id fun z=>(by cases z),wPa _⟩
 | s::f,m,h,hl,x6,x7,x8,x9=>by
  obtain⟨X,hm⟩:=h s wNa;rw[vXa]at hl;have k2:=ok.k2;have z1:Jd (b.kinds.length:Int)=true:=JL (by lia) (by lia);obtain⟨v',y8,y9,e1⟩:=FP C ok hr hc m s X hm r3 r5 x8 x9 (if s.place=b.size then 0 else 300);have z:m.length < sizeLine:=wRa (by lia:m.length<=200000) (by decide);have e2:=Ew (i:=4) (q:=none) (m:=m) (p:=(s,v')) (dk:=dC 6) (de:=dC 7) (Z:=[.bo (jo b),.bo (.lst (row.map .int)),.bo (.lst (costs.map .int)),r3,.ow none (.dct (jI m) (jN m)),r5,.cl (j7 s),.cl (.int v'),y8,y9]) rfl rfl rfl z;have hi:(yb m (s,v')).length<=m.length+1:=by rw[<-Za,Ul,<-Za m];exact(u4 (st m) s).2
  have hk:∀t,t∈st m \/ t=s->t∈st (yb m (s,v')):=fun t h=>by rw[Ul];exact W8.mpr h
  obtain⟨m',w6,w7,w8,w9,e3,k3,l3⟩:=D0 r3 r5 f (yb m (s,v')) (fun t ht=>⟨(h t (wMa _ ht)).1,fun p hp=>hk _ (.inl ((h t (wMa _ ht)).2 p hp))⟩) (by lia) (.cl (j7 s)) (.cl (.int v')) y8 y9;refine⟨m',w6,w7,w8,w9,?_,fun t ht=>?_,by rw[vXa];lia⟩
  ·rw[vWa,J5];have g:Y_ (j7 s) [.bo (jo b),.bo (.lst (row.map .int)),.bo (.lst (costs.map .int)),r3,.ow none (.dct (jI m) (jN m)),r5,x6,x7,x8,x9]=some [.bo (jo b),.bo (.lst (row.map .int)),.bo (.lst (costs.map .int)),r3,.ow none (.dct (jI m) (jN m)),r5,.cl (j7 s),x7,x8,x9]:=rfl;have e4:z9 C [.bo (jo b),.bo (.lst (row.map .int)),.bo (.lst (costs.map .int)),r3,.ow none (.dct (jI m) (jN m)),r5,.cl (j7 s),x7,x8,x9]=some (.nx [.bo (jo b),.bo (.lst (row.map .int)),.bo (.lst (costs.map .int)),r3,.ow none (.dct (jI (yb m (s,v'))) (jN (yb m (s,v')))),r5,.cl (j7 s),.cl (.int v'),y8,y9]):=by
    refine sq (Z1:=[.bo (jo b),.bo (.lst (row.map .int)),.bo (.lst (costs.map .int)),r3,.ow none (.dct (jI m) (jN m)),r5,.cl (j7 s),.cl (.int 300),x8,x9]) rfl (sq (Z1:=[.bo (jo b),.bo (.lst (row.map .int)),.bo (.lst (costs.map .int)),r3,.ow none (.dct (jI m) (jN m)),r5,.cl (j7 s),.cl (.int (if s.place=b.size then 0 else 300)),x8,x9]) ?_ (sq (by rw[jW];simp[z1];exact e1) e2));by_cases c:s.place=b.size
    ·simp[c]
    ·simp[c]
   rw[g,uEa,e4];exact e3
  ·refine k3 t ?_;rcases ht with ht | ht
   ·exact .inl (hk t (.inl ht))
   ·rcases uTa ht with rfl | ht
    ·exact .inl (hk _ (.inr rfl))
    ·exact .inr ht
abbrev Um(b:Bk)(j:Nat):D:=.lst ((jD b (ji b) j).map j7)
theorem xa(j:Nat):∀t∈jD b (ji b) j,Gs b t:=fun t ht=>by
 have F:=VA (Fit.empty b) j t ht;have h1:t.place=0+j:=F.2.1;refine⟨gX (Form.empty b) j t ht,by lia,?_⟩;by_cases h:0 < j
 ·exact F.2.2 h
 ·have:=ok.s1
  lia
theorem D4(L:Lim b (ji b))(r3:Sl):∀(k:Nat) (m:List Pr),k<=32->(∀t∈jD b (ji b) k,t∈st m)->m.length+k * 4096<=200000->∀x5 x6 x7 x8 x9,∃m' y5 y6 y7 y8 y9,J5 za (zd C) ((List.range k).reverse.map (Um b)) [.bo (jo b),.bo (.lst (row.map .int)),.bo (.lst (costs.map .int)),r3,.ow none (.dct (jI m) (jN m)),x5,x6,x7,x8,x9]=
  some (.nx [.bo (jo b),.bo (.lst (row.map .int)),.bo (.lst (costs.map .int)),r3,.ow none (.dct (jI m') (jN m')),y5,y6,y7,y8,y9])/\(∀t,t∈st m \/ (∃j,j < k/\t∈jD b (ji b) j)->t∈st m')
 | 0,m,_,_,_,x5,x6,x7,x8,x9=>⟨m,x5,x6,x7,x8,x9,rfl,fun t h=>h.elim id fun⟨j,z,_⟩=>vDa z (Nat.not_lt_zero _)⟩
 | k+1,m,hk,hm,hl,x5,x6,x7,x8,x9=>by
  have hL:=L.len k;obtain⟨m1,y6,y7,y8,y9,e1,k1,l1⟩:=D0 C ok hr hc r3 (.cl (Um b k)) (jD b (ji b) k) m (fun s hs=>⟨xa ok hr hc k s hs,fun p hp=>hm _ (gW.mpr ⟨s,hs,p,hp,rfl⟩)⟩) (by lia) x6 x7 x8 x9;obtain⟨m',w5,w6,w7,w8,w9,e2,k2⟩:=D4 L r3 k m1 (by lia) (fun t ht=>k1 t (.inr ht)) (by lia) (.cl (Um b k)) y6 y7 y8 y9;refine⟨m',w5,w6,w7,w8,w9,?_,fun t ht=>k2 t ?_⟩
  ·rw[List.range_succ,List.reverse_append,List.reverse_singleton,List.singleton_append,vWa,J5];have g:za (Um b k) [.bo (jo b),.bo (.lst (row.map .int)),.bo (.lst (costs.map .int)),r3,.ow none (.dct (jI m) (jN m)),x5,x6,x7,x8,x9]=some [.bo (jo b),.bo (.lst (row.map .int)),.bo (.lst (costs.map .int)),r3,.ow none (.dct (jI m) (jN m)),.cl (Um b k),x6,x7,x8,x9]:=rfl;have e4:zd C [.bo (jo b),.bo (.lst (row.map .int)),.bo (.lst (costs.map .int)),r3,.ow none (.dct (jI m) (jN m)),.cl (Um b k),x6,x7,x8,x9]=some (.nx [.bo (jo b),.bo (.lst (row.map .int)),.bo (.lst (costs.map .int)),r3,.ow none (.dct (jI m1) (jN m1)),.cl (Um b k),y6,y7,y8,y9]):=e1;rw[g,uEa,e4];exact e2
  ·rcases ht with ht | ⟨j,hj,ht⟩
   ·exact .inl (k1 t (.inl ht))
   ·by_cases q:j=k
    ·subst q;exact .inl (k1 t (.inr ht))
    ·exact .inr ⟨j,by lia,ht⟩
omit hr hc in
def ZD(b:Bk)(n:Nat)(val:Sd->Int):List (List Pr):=(List.range n).map fun j=>(jD b (ji b) j).map fun s=>(s,val s)
theorem xb(L:Lim b (ji b)):∃n val,Zr C [jo b,.lst (row.map .int),.lst (costs.map .int)]=some (.lst (tD (ZD b n val)))/\1<=n/\n<=32/\∀j,j < n->jD b (ji b) j≠[]:=by
 have e0:=wZ C b ok;obtain⟨n,e1,hn,hz,hne⟩:=QV C b ok (ji b) (Form.empty b) L;obtain⟨m,y5,y6,y7,y8,y9,e2,k2⟩:=D4 C ok hr hc L (.cl (.lst (JP b (ji b) n))) n [] hn (fun t ht=>by rw[hz]at ht;cases ht) (by simp;lia) .un .un .un .un .un;have ef:JP b (ji b) n=(List.range n).map (Um b):=rfl;have zn:n<=sizeLine:=wQa (jp (by lia));refine⟨n,fun s=>(lk m s).getD 0,?_,?_,hn,hne⟩
 ·have e3:Js (gN 0) jA (dL (JU 1 [1] (jQ (dP 0)) (gN 0) jA (JS [(tC 0),(true,(d2 Zi (dV 1) (dV 0)))]))) ((List.range n).map (Um b)) [.un,.ow none (.dct (jI m) (jN m))]=some ((List.range n).map fun j=>D.lst (((jD b (ji b) j).map fun s=>(s,(lk m s).getD 0)).map jt)):=J1 (Um b) _ fun j hj=>⟨[.cl (Um b j),.ow none (.dct (jI m) (jN m))],rfl,rfl,by
   have e4:Js (gN 0) jA (JS [(tC 0),(true,(d2 Zi (dV 1) (dV 0)))]) ((jD b (ji b) j).map j7) [.un,.ow none (.dct (jI m) (jN m))]=some ((jD b (ji b) j).map fun s=>jt (s,(lk m s).getD 0)):=J1 j7 _ fun s hs=>⟨[.cl (j7 s),.ow none (.dct (jI m) (jN m))],rfl,rfl,by
    obtain⟨x,hx⟩:=Option.isSome_iff_exists.mp (Uk.mpr (k2 s (.inr ⟨j,List.mem_range.mp hj,hs⟩)));simp[Kt hx,hx,jt]⟩
   have zl:(jD b (ji b) j).length<=sizeLine:=wQa (jp (by have:=L.len j;lia));generalize (JS [(tC 0),(true,(d2 Zi (dV 1) (dV 0)))])=dd at e4⊢;simp[e4,zl]⟩
  refine fE (sq (Z1:=[.bo (jo b),.bo (.lst (row.map .int)),.bo (.lst (costs.map .int)),.cl (.lst (JP b (ji b) n)),.un,.un,.un,.un,.un,.un]) (by simp[e0,e1]) (sq rfl (sq (Z1:=[.bo (jo b),.bo (.lst (row.map .int)),.bo (.lst (costs.map .int)),.cl (.lst (JP b (ji b) n)),.ow none (.dct (jI m) (jN m)),y5,y6,y7,y8,y9]) ?_ ?_)))
  ·rw[jW,<-e2,List.map_reverse,<-ef];rfl
  ·rw[<-ef]at e3;generalize (dL (JU 1 [1] (jQ (dP 0)) (gN 0) jA (JS [(tC 0),(true,(d2 Zi (dV 1) (dV 0)))])))=dd at e3⊢;simp[e3,ZS,zn,tD,ZD]
 ·by_cases h:1<=n
  ·exact h
  ·rw[show n=0 by lia]at hz;simp[jD]at hz
end
def bC(C:Addr)(b:Bk)(ds:List Int)(ok:OkB b)(hn:16<=ds.length)(hn2:ds.length<=1000):∃s:Sd,Ys C [jo b,.lst (ds.map .int)]=some (j7 s)/\Form b s:=by
 have s1:=ok.s1;have k1:=ok.k1;have k2:=ok.k2;have hd2:=ok.d2;obtain⟨v0,a0⟩:=yQ (ds:=ds) (k:=0) (by decide) (by lia);obtain⟨v1,a1⟩:=yQ (ds:=ds) (k:=1) (by decide) (by lia);obtain⟨v2,a2⟩:=yQ (ds:=ds) (k:=2) (by decide) (by lia);obtain⟨v3,a3⟩:=yQ (ds:=ds) (k:=3) (by decide) (by lia);have z1:Jd (b.kinds.length:Int)=true:=JL (by lia) (by lia);have z2:Jd (b.dues.length:Int)=true:=JL (by lia) (by lia);have z3:(jX 0 b.kinds.length).length<=sizeLine:=wQa (jp (by simp[jX];lia));have z4:(jX 0 b.dues.length).length<=sizeLine:=wQa (jp (by simp[jX];lia));have h1:=J1 (g:=gN 0) (dc:=jA) (de:=d2 jF (d2 j8 (dV 1) (d2 jv (dK (.int 4)) (dV 0))) (dK (.int 5))) (Z:=[.un,.bo (.lst (ds.map .int))]) (fun i:Nat=>D.int (0+(i:Int))) (fun i:Nat=>D.int (ds.getD (4+(i:Int)).toNat 0 % 5)) (xs:=List.range b.kinds.length) (fun i hi=>by
  have hi:=List.mem_range.mp hi;have a:=J9 (f:=D.int) (xs:=ds) (d:=0) (k:=4+(i:Int)) (by lia) (by lia);refine⟨_,rfl,rfl,?_⟩;simp[a])
 have h2:=J1 (g:=gN 0) (dc:=jA) (de:=d2 jH (d2 jF (d2 j8 (dV 1) (d2 jv (dK (.int 8)) (dV 0))) (dK (.int 2))) (dK (.int 1))) (Z:=[.un,.bo (.lst (ds.map .int))]) (fun i:Nat=>D.int (0+(i:Int))) (fun i:Nat=>D.bl (decide (ds.getD (8+(i:Int)).toNat 0 % 2=1))) (xs:=List.range b.dues.length) (fun i hi=>by
  have hi:=List.mem_range.mp hi;have a:=J9 (f:=D.int) (xs:=ds) (d:=0) (k:=8+(i:Int)) (by lia) (by lia);refine⟨_,rfl,rfl,?_⟩;simp[a])
 have r1:(List.range b.kinds.length).map (fun i:Nat=>D.int (0+(i:Int)))=jX 0 b.kinds.length:=rfl;have r2:(List.range b.dues.length).map (fun i:Nat=>D.int (0+(i:Int)))=jX 0 b.dues.length:=rfl;rw[r1]at h1;rw[r2]at h2;have q1:(List.range b.kinds.length).map (fun i:Nat=>D.int (ds.getD (4+(i:Int)).toNat 0 % 5))=((List.range b.kinds.length).map fun i:Nat=>ds.getD (4+(i:Int)).toNat 0 % 5).map D.int:=by rw[List.map_map];rfl
 have q2:(List.range b.dues.length).map (fun i:Nat=>D.bl (decide (ds.getD (8+(i:Int)).toNat 0 % 2=1)))=((List.range b.dues.length).map fun i:Nat=>decide (ds.getD (8+(i:Int)).toNat 0 % 2=1)).map D.bl:=by rw[List.map_map];rfl
 rw[q1]at h1;rw[q2]at h2;have w1:((List.range b.kinds.length).map fun i:Nat=>ds.getD (4+(i:Int)).toNat 0 % 5).length=b.kinds.length:=by simp
 have w2:((List.range b.dues.length).map fun i:Nat=>decide (ds.getD (8+(i:Int)).toNat 0 % 2=1)).length=b.dues.length:=by simp
 have wn:∀x∈((List.range b.kinds.length).map fun i:Nat=>ds.getD (4+(i:Int)).toNat 0 % 5),0<=x:=fun x hx=>by
  obtain⟨i,_,rfl⟩:=uVa hx;exact(jY (by decide)).1
 revert h1 h2 w1 w2 wn;generalize ((List.range b.kinds.length).map fun i:Nat=>ds.getD (4+(i:Int)).toNat 0 % 5)=ws;generalize ((List.range b.dues.length).map fun i:Nat=>decide (ds.getD (8+(i:Int)).toNat 0 % 2=1))=ms;intro h1 h2 w1 w2 wn;have m1:0 < b.size+1:=by lia
 have m2:0 < (b.kinds.length:Int)+1:=by lia
 have t1:=jY (a:=v1) (b:=(b.kinds.length:Int)+1) m2;refine⟨⟨v0 % (b.size+1),v1 % ((b.kinds.length:Int)+1) - 1,v2 % 5,v3 % ((b.kinds.length:Int)+1) - 1,ws,ms⟩,?_,⟨by show -1<=v1 % ((b.kinds.length:Int)+1) - 1;lia,by show v1 % ((b.kinds.length:Int)+1) - 1 < _;lia,w1,w2⟩,wn⟩;simp only[Ys,Vb];simp[z1,z2,z3,z4,yV,h1,h2,a0,a1,a2,a3,m1,m2,j7]
theorem WN:∀l:List T3,ZY (l.map t3)=true
 | []=>rfl
 | t::l=>by rw[vWa,ZY,WN l];simp[t3]
theorem D5:∀l:List T3,Gw (l.map t3)=true
 | []=>rfl
 | t::l=>rfl
theorem K7:∀l:List Int,ZY (l.map D.int)=true
 | []=>rfl
 | t::l=>by rw[vWa,ZY,K7 l];simp
theorem Uo:∀l:List Int,YL (l.map D.int)=true
 | []=>rfl
 | t::l=>by rw[vWa,YL,Uo l];simp
theorem g_:∀l:List Bool,YL (l.map D.bl)=true
 | []=>rfl
 | t::l=>by rw[vWa,YL,g_ l];simp
def D6(t:Sd)(k:Int):(VL (j7 t) (some 1) none).bind (fun y=>jv (.tup [.int k]) y)=some (j7 { t with place:=k }):=by
 have:VL (j7 t) (some 1) none=some (.tup [.int t.kind,.int t.len,.int t.before,.tup (t.waits.map .int),.tup (t.met.map .bl)]):=rfl;rw[this];rfl
def Wh{a c:DS.DS}{Z Z':je}(h:a Z=some (.nx Z')):j4 a c Z=c Z':=sq h rfl
theorem zW{α β:Type}(f:α->β):∀(l:List α) (n:Nat),(l.map f).eraseIdx n=(l.eraseIdx n).map f
 | [],n=>by simp
 | a::l,0=>rfl
 | a::l,n+1=>by
  show f a::(l.map f).eraseIdx n=_;rw[zW f l n];rfl
def Jm(tb:List (List Pr)):List (List D):=tb.map fun l=>l.map jt
def zS(tb:List (List Pr)):(Jm tb).map D.lst=tD tb:=by
 unfold Jm tD;rw[List.map_map];rfl
def vW(tb:List (List Pr)):(Jm tb).length=tb.length:=by simp[Jm]
def VD(tb:List (List Pr))(j:Nat)(f:List Pr):(Jm tb).set j (f.map jt)=Jm (tb.set j f):=by
 unfold Jm;rw[List.map_set]
def Wi(p:Pr):Ws (jt p)=true:=by simp[jt,j7,Uo,g_]
theorem kD:∀l:List Pr,YL (l.map jt)=true
 | []=>rfl
 | t::l=>by rw[vWa,YL,kD l,Wi];rfl
structure Tq (b:Bk) (N:Nat) (tb:List (List Pr)):Prop where
 gs:∀l∈tb,∀p∈l,Gs b p.1
 len:∀l∈tb,l.length<=4096+N
 few:tb.length<=40+N
section
variable {b:Bk} {N:Nat} {tb:List (List Pr)} (T:Tq b N tb)
include T
theorem Tq.tt(h:N<=10):Tt b tb:=⟨fun l hl=>by have:=T.len l hl;lia,T.gs,by have:=T.few;lia⟩
theorem Tq.put(j:Nat){f:List Pr}(h1:∀p∈f,Gs b p.1)(h2:f.length<=4096+N+1):Tq b (N+1) (tb.set j f):=by
 refine⟨fun l hl t ht=>?_,fun l hl=>?_,by rw[List.length_set];have:=T.few;lia⟩
 ·rcases List.mem_or_eq_of_mem_set hl with hl | rfl
  ·exact T.gs l hl t ht
  ·exact h1 t ht
 ·rcases List.mem_or_eq_of_mem_set hl with hl | rfl
  ·have:=T.len l hl;lia
  ·lia
theorem Tq.ins(j:Nat):Tq b (N+1) (tb.take j++[]::tb.drop j):=by
 have hm:∀l∈tb.take j++[]::tb.drop j,l∈tb \/ l=[]:=fun l hl=>by
  rcases uWa hl with h | h
  ·exact .inl (vVa h)
  ·rcases uTa h with h | h
   ·exact .inr h
   ·exact .inl (List.mem_of_mem_drop h)
 refine⟨fun l hl u hu=>?_,fun l hl=>?_,?_⟩
 ·rcases hm l hl with hl | rfl
  ·exact T.gs l hl u hu
  ·cases hu
 ·rcases hm l hl with hl | rfl
  ·have:=T.len l hl;lia
  ·simp
 ·have:=T.few;simp
  lia
theorem Tq.pop(j:Nat):Tq b (N+1) (tb.eraseIdx j):=by
 refine⟨fun l hl=>T.gs l (List.mem_of_mem_eraseIdx hl),fun l hl=>by have:=T.len l (List.mem_of_mem_eraseIdx hl);lia,?_⟩;have:=T.few;have:=(List.eraseIdx_sublist tb j).length_le
 lia
theorem Tq.up:Tq b (N+1) tb:=⟨T.gs,fun l hl=>by have:=T.len l hl;lia,by have:=T.few;lia⟩
end
def jZ{w j k:Int}(h:w=j)(d:(j==k)=false:=by rfl):w≠k:=fun e=>by
 rw[<-h,e,beq_self_eq_true]at d;cases d
def Ez(n:Nat):0 < (if (n:Int) > 1 then(n:Int)else 1)/\(if (n:Int) > 1 then(n:Int)else 1)<=(n:Int)+1/\(n≠0->(if (n:Int) > 1 then(n:Int)else 1)<=(n:Int)):=by
 split <;> lia
def EA{s a:Int}(h:1<=s)(ha:0<=a):0<=(if s < a then s else a)/\(if s < a then s else a)<=s:=by
 split <;> lia
def Ho{w:Int}(h0:0<=w)(h1:w < 8):w=0 \/ w=1 \/ w=2 \/ w=3 \/ w=4 \/ w=5 \/ w=6 \/ w=7:=by
 have:∀n:Nat,n < 8->(n:Int)=0 \/ (n:Int)=1 \/ (n:Int)=2 \/ (n:Int)=3 \/ (n:Int)=4 \/ (n:Int)=5 \/ (n:Int)=6 \/ (n:Int)=7:=by decide
 rw[<-Int.toNat_of_nonneg h0];exact this _ ((Int.toNat_lt h0).mpr h1)
def D7{α:Type}(f:List α)(n:Nat):(f.take n).length+(f.drop (n+1)).length<=f.length:=by
 rw[uOa,uNa]
 lia
def D8{α:Type}(f:List α)(n:Nat)(q:α):(f.take n++q::f.drop n).length<=f.length+1:=by
 rw[vZa,vXa,uOa,uNa]
 lia
def Hq{n N:Nat}(h:n<=4096+N)(hN:N<=2):n < 1000000/\n < sizeLine:=by
 have:(10001000:Nat) < sizeLine:=by decide
 lia
def xc{a:Int}{n:Nat}(h:a < n)(h0:0<=a):a.toNat < n:=by lia
set_option tactic.hygienic true in
theorem K8(C:Addr)(b:Bk)(ok:OkB b)(ds:List Int)(hd:25<=ds.length)(hd2:ds.length<=1000)(tb:List (List Pr))(h0:tb≠[])(N:Nat)(hN:N<=2)(T:Tq b N tb):∃tb',YA C (Jm tb) [jo b,.lst (ds.map .int)]=some (Jm tb')/\Tq b (N+1) tb':=by
 have hl0:0 < tb.length:=List.length_pos_iff.mpr h0;have hfew:=T.few;have hz:tb.length < 1000000:=by lia
 have s1:=ok.s1;obtain⟨v0,a0⟩:=yQ (ds:=ds) (k:=0) (by decide) (by lia);obtain⟨v1,a1⟩:=yQ (ds:=ds) (k:=1) (by decide) (by lia);obtain⟨v2,a2⟩:=yQ (ds:=ds) (k:=2) (by decide) (by lia);obtain⟨v3,a3⟩:=yQ (ds:=ds) (k:=3) (by decide) (by lia);have ec4:J6 (ds.map D.int) (some 4) none=(ds.drop 4).map D.int:=by
  have:=wY ds 4;rw[YH,<-this];rfl
 obtain⟨fr,ef,F⟩:=bC C b (ds.drop 4) ok (by rw[uNa];lia) (by rw[uNa];lia);revert ec4 ef;generalize ds.drop 4=d4;intro ec4 ef;have m1:(0:Int) < (tb.length:Int):=by lia
 have mi:=jY (a:=v1) m1;revert mi;generalize ea:v1 % (tb.length:Int)=ax;intro mi;have hj:ax.toNat < tb.length:=xc mi.2 mi.1;have hf:tb[ax.toNat]?=some tb[ax.toNat]:=by simp[hj]
 revert hf;generalize tb[ax.toNat]=f;intro hf;have hm:=wYa hf;have hl:(Jm tb)[ax.toNat]?=some (f.map jt):=by unfold Jm;rw[uAa,hf];rfl
 have hx:Yp tb.length ax=some ax.toNat:=uV mi.1 mi.2;have eat:atI (tD tb) ax=some (.lst (f.map jt)):=by
  refine yD mi.1 ?_;unfold tD;rw[uAa,hf];rfl
 have fl:=T.len f hm;have fF:=T.gs f hm;have fm:=Hq fl hN;obtain⟨mxp,hmx,hmx2⟩:=Ez f.length;have mh:=jY (a:=v2) mxp;have mxp':0 < (if (1:Int) < (f.length:Int)then(f.length:Int)else 1):=mxp;revert mh;generalize eh:v2 % (if (f.length:Int) > 1 then(f.length:Int)else 1)=hh;intro mh;have eh':v2 % (if (1:Int) < (f.length:Int)then(f.length:Int)else 1)=hh:=eh;generalize ew:v0 % 8=w;have mw:=jY (a:=v0) (b:=8) (by decide);rw[ew]at mw;have cs:=Ho mw.1 mw.2
 let R:Sl->Sl->List (List Pr)->je:=fun x y tb=>[.cl (jo b),.lo (Jm tb),.cl (.lst (ds.map .int)),.cl (.int ax),.cl (.int hh),.cl (.int w),x,y]
 suffices h:∃X x y,Tq b (N+1) X/\ye C [.cl (jo b),.lo (Jm tb),.cl (.lst (ds.map .int)),.un,.un,.un,.un,.un]=some (.nx (R x y X)) by
  obtain⟨X,x,y,TX,e⟩:=h;refine⟨X,?_,TX⟩;show(ye C [.cl (jo b),.lo (Jm tb),.cl (.lst (ds.map .int)),.un,.un,.un,.un,.un]).bind _=_;rw[e];rfl
 unfold ye;rw[Wh (Z':=[.cl (jo b),.lo (Jm tb),.cl (.lst (ds.map .int)),.cl (.int ax),.un,.un,.un,.un]) ?p1,Wh (Z':=[.cl (jo b),.lo (Jm tb),.cl (.lst (ds.map .int)),.cl (.int ax),.cl (.int hh),.un,.un,.un]) ?p2,Wh (Z':=R .un .un tb) ?p3]
 case p1=>simp[frz,fz,zS,vW,tD,a1,hl0,ea,DS.JV]
 case p2=>simp[frz,fz,zS,eat,a2,mxp',eh',DS.JV]
 case p3=>simp[R,a0,ew]
 have no:∀(k:Int) (S:DS.DS) (x y:Sl) (tb:List (List Pr)),w≠k->jg (jl (d2 jH (dV 5) (dN k))) S ju (R x y tb)=some (.nx (R x y tb)):=fun k S x y tb h=>by
  simp[R,h]
 have yes:∀(k:Int) (S:DS.DS) (x y:Sl) (tb:List (List Pr)),w=k->jg (jl (d2 jH (dV 5) (dN k))) S ju (R x y tb)=S (R x y tb):=fun k S x y tb h=>by
  simp[R,h]
 have noF:∀(k:Int) (S:DS.DS) (x y:Sl) (tb:List (List Pr)),w≠k->jg (fun Z=>(Jb (jl (d2 jH (dV 5) (dN k))) (jl (d2 Jv (d2 j8 (dV 1) (dV 3)) (dL (J8 []))))) (frz Z)) S ju (R x y tb)=some (.nx (R x y tb)):=fun k S x y tb h=>by
  simp[R,frz,fz,h]
 have ne:=(Wg (dY f)).2;have yesF:∀(k:Int) (S:DS.DS) (x y:Sl),w=k->jg (fun Z=>(Jb (jl (d2 jH (dV 5) (dN k))) (jl (d2 Jv (d2 j8 (dV 1) (dV 3)) (dL (J8 []))))) (frz Z)) S ju (R x y tb)=if f.isEmpty=true then some (.nx (R x y tb))else S (R x y tb):=fun k S x y h=>by
  rw[List.isEmpty_map]at ne;cases hq:f.isEmpty <;> rw[hq]at ne <;> simp[-Jv,R,frz,fz,zS,eat,h,ne]
 have at2:f.isEmpty=false->∃p,f[hh.toNat]?=some p/\atI (f.map jt) hh=some (jt p)/\Yp f.length hh=some hh.toNat:=fun hq=>by
  have hf0:f≠[]:=fun z=>by rw[z]at hq;cases hq
  have hlt:=Int.lt_of_lt_of_le mh.2 (hmx2 fun z=>hf0 (List.length_eq_zero_iff.mp z));have hk:hh.toNat < f.length:=xc hlt mh.1;have hft:f[hh.toNat]?=some f[hh.toNat]:=by simp[hk]
  exact⟨f[hh.toNat],hft,yD mh.1 (by rw[uAa,hft];rfl),uV mh.1 hlt⟩
 rcases cs with h | h | h | h | h | h | h | h
 ·exact⟨tb,_,_,T.up,sq (noF _ _ _ _ _ (jZ h)) (sq (no _ _ _ _ _ (jZ h)) (sq (noF _ _ _ _ _ (jZ h)) (sq (no _ _ _ _ _ (jZ h)) (sq (no _ _ _ _ _ (jZ h)) (sq (no _ _ _ _ _ (jZ h)) (sq (no _ _ _ _ _ (jZ h)) rfl))))))⟩
 ·cases hq:f.isEmpty with
  | true=>exact⟨tb,_,_,T.up,sq ((yesF _ _ _ _ h).trans (if_pos hq)) (sq (no _ _ _ _ _ (jZ h)) (sq (noF _ _ _ _ _ (jZ h)) (sq (no _ _ _ _ _ (jZ h)) (sq (no _ _ _ _ _ (jZ h)) (sq (no _ _ _ _ _ (jZ h)) (sq (no _ _ _ _ _ (jZ h)) rfl))))))⟩
  | false=>
   obtain⟨p,hp,eap,hi2⟩:=at2 hq;have pk:∃δ,atI [D.int 1,D.int (-1),D.int 5,D.int (-9)] (v3 % 4)=some (.int δ):=by
    have:=jY (a:=v3) (b:=4) (by decide);obtain⟨v,e,_⟩:=ZL (ns:=[1,-1,5,-9]) (k:=v3 % 4) (lo:=-9) (hi:=5) this.1 this.2 (by decide);exact⟨v,e⟩
   obtain⟨δ,hδ⟩:=pk;have es:=VD tb ax.toNat (f.set hh.toNat (p.1,p.2+δ))
   rw[List.map_set]at es;have tp:=Wi p;refine⟨tb.set ax.toNat (f.set hh.toNat (p.1,p.2+δ)),.cl (j7 p.1),.cl (.int p.2),T.put _ (fun u hu=>?_) (by rw[List.length_set];exact Nat.le_succ_of_le fl),sq ((yesF _ _ _ _ h).trans ((if_neg (by rw[hq];simp)).trans (sq (Z1:=R (.cl (j7 p.1)) (.cl (.int p.2)) tb) ?_ ?_))) (sq (no _ _ _ _ _ (jZ h)) (sq (noF _ _ _ _ _ (jZ h)) (sq (no _ _ _ _ _ (jZ h)) (sq (no _ _ _ _ _ (jZ h)) (sq (no _ _ _ _ _ (jZ h)) (sq (no _ _ _ _ _ (jZ h)) rfl))))))⟩
   ·rcases List.mem_or_eq_of_mem_set hu with hu | rfl
    ·exact fF u hu
    ·exact fF p (wYa hp)
   ·have e9:(d2 j8 (d2 j8 (dV 1) (dV 3)) (dV 4) (frz (R .un .un tb))).bind DS.JV=some (jt p):=by
     simp[R,frz,fz,zS,eat,eap,DS.JV,tp]
    show zy _ _ _=_;rw[zy,e9];rfl
   ·have key:∀(E:DE),E (R (.cl (j7 p.1)) (.cl (.int p.2)) tb)=some (jt (p.1,p.2+δ))->UG 1 (dV 3) (dV 4) E (R (.cl (j7 p.1)) (.cl (.int p.2)) tb)=some (.nx (R (.cl (j7 p.1)) (.cl (.int p.2)) (tb.set ax.toNat (f.set hh.toNat (p.1,p.2+δ))))):=fun E hE=>by
     have hE:E [.cl (jo b),.lo (Jm tb),.cl (.lst (ds.map .int)),.cl (.int ax),.cl (.int hh),.cl (.int w),.cl (j7 p.1),.cl (.int p.2)]=some (jt (p.1,p.2+δ)):=hE;show _=some (Rs.nx [.cl (jo b),.lo (Jm _),_,_,_,_,_,_]);rw[<-es];simp[R,UG,hE,hx,hl,vW,hi2]
    refine key _ ?_;have ts:Ws (j7 p.1)=true:=by simp[j7,Uo,g_]
    simp[R,frz,fz,a3,hδ,DS.JV,ts,jt]
 ·have c1:J6 (f.map jt) none (some hh)=(f.take hh.toNat).map jt:=by
   have:=QR f hh.toNat
   rw[YH,<-this,Int.toNat_of_nonneg mh.1]
  have c2:J6 (f.map jt) (some (hh+1)) none=(f.drop (hh.toNat+1)).map jt:=by
   have:=wY f (hh.toNat+1);rw[YH,<-this];congr 3
   lia
  have g1:=D7 f hh.toNat
  have g4:∀t∈f.take hh.toNat++f.drop (hh.toNat+1),Gs b t.1:=fun t ht=>fF t ((uWa ht).elim vVa List.mem_of_mem_drop);revert c1 c2 g1 g4;generalize f.take hh.toNat=l1;generalize f.drop (hh.toNat+1)=l2;intro c1 c2 g1 g4;have tl:YL (l1.map jt++l2.map jt)=true:=by rw[<-uDa];exact kD _
  have es:=VD tb ax.toNat (l1++l2)
  rw[uDa]at es;have zl:l1.length+l2.length<=sizeLine:=wSa g1 (wQa fm.2);refine⟨tb.set ax.toNat (l1++l2),.un,.un,T.put _ g4 (by rw[vZa];exact Nat.le_succ_of_le (wSa g1 fl)),sq (noF _ _ _ _ _ (jZ h)) (sq ((yes _ _ _ _ _ h).trans ?_) (sq (noF _ _ _ _ _ (jZ h)) (sq (no _ _ _ _ _ (jZ h)) (sq (no _ _ _ _ _ (jZ h)) (sq (no _ _ _ _ _ (jZ h)) (sq (no _ _ _ _ _ (jZ h)) rfl))))))⟩;show _=some (Rs.nx [.cl (jo b),.lo (Jm _),_,_,_,_,_,_]);rw[<-es];simp[R,vR,frz,fz,zS,eat,uA,c1,c2,vQ,tl,hx,vW,zl,JC]
 ·cases hq:f.isEmpty with
  | true=>exact⟨tb,_,_,T.up,sq (noF _ _ _ _ _ (jZ h)) (sq (no _ _ _ _ _ (jZ h)) (sq ((yesF _ _ _ _ h).trans (if_pos hq)) (sq (no _ _ _ _ _ (jZ h)) (sq (no _ _ _ _ _ (jZ h)) (sq (no _ _ _ _ _ (jZ h)) (sq (no _ _ _ _ _ (jZ h)) rfl))))))⟩
  | false=>
   obtain⟨p,hp,eap,hi2⟩:=at2 hq;have tp:=Wi p;have es:=VD tb ax.toNat (f++[p])
   rw[uDa,List.map_singleton]at es;have zl:f.length < sizeLine:=fm.2;refine⟨tb.set ax.toNat (f++[p]),.un,.un,T.put _ (fun u hu=>?_) (by rw[vZa,uIa];exact Nat.succ_le_succ fl),sq (noF _ _ _ _ _ (jZ h)) (sq (no _ _ _ _ _ (jZ h)) (sq ((yesF _ _ _ _ h).trans ((if_neg (by rw[hq];simp)).trans ?_)) (sq (no _ _ _ _ _ (jZ h)) (sq (no _ _ _ _ _ (jZ h)) (sq (no _ _ _ _ _ (jZ h)) (sq (no _ _ _ _ _ (jZ h)) rfl))))))⟩
   ·rcases uWa hu with hu | hu
    ·exact fF u hu
    ·rw[List.mem_singleton.mp hu];exact fF p (wYa hp)
   ·show _=some (Rs.nx [.cl (jo b),.lo (Jm _),_,_,_,_,_,_]);rw[<-es];simp[R,Gz,frz,fz,zS,eat,eap,DS.JV,tp,hx,hl,vW,zl]
 ·have hz:hh<=(f.length:Int)/\f.length < 1000000:=⟨Int.le_of_lt_add_one (Int.lt_of_lt_of_le mh.2 hmx),fm.1⟩
  let k:Int:=if b.size < ax then b.size else ax
  have hk:0<=k/\k<=b.size:=EA s1 mi.1;have ep:=D6 fr k
  let q:Pr:=({ fr with place:=k },v3 % 9 - 2)
  have es:=VD tb ax.toNat (f.take hh.toNat++q::f.drop hh.toNat)
  rw[uDa,vWa,List.map_take,List.map_drop]at es;have hi1:=mh.1;refine⟨tb.set ax.toNat (f.take hh.toNat++q::f.drop hh.toNat),.cl (j7 q.1),.un,T.put _ (fun u hu=>?_) (wSa (D8 f _ q) (Nat.succ_le_succ fl)),sq (noF _ _ _ _ _ (jZ h)) (sq (no _ _ _ _ _ (jZ h)) (sq (noF _ _ _ _ _ (jZ h)) (sq ((yes _ _ _ _ _ h).trans (sq (Z1:=R (.cl (j7 q.1)) .un tb) ?_ ?_)) (sq (no _ _ _ _ _ (jZ h)) (sq (no _ _ _ _ _ (jZ h)) (sq (no _ _ _ _ _ (jZ h)) rfl))))))⟩
  ·rcases uWa hu with hu | hu
   ·exact fF u (vVa hu)
   ·rcases uTa hu with rfl | hu
    ·exact⟨⟨⟨F.toFit.1,F.toFit.2,F.toFit.3,F.toFit.4⟩,F.2⟩,hk.1,hk.2⟩
    ·exact fF u (List.mem_of_mem_drop hu)
  ·have e9:((d2 jv (JS [(true,(jb VM [(fV 3),(false,(d2 j8 (dV 0) (dN 0)))]))]) (Uv (jb (Ys C) [(fV 0),(false,(dL (JT (dV 2) (fun Z=>((dN 4) Z).bind JC) (fun _=>some none))))]) (fun Z=>((dN 1) Z).bind JC) (fun _=>some none)))) (R .un .un tb)=some (j7 q.1):=by
    have e8:(Uv (jb (Ys C) [(fV 0),(false,(dL (JT (dV 2) (fun Z=>((dN 4) Z).bind JC) (fun _=>some none))))]) (fun Z=>((dN 1) Z).bind JC) (fun _=>some none)) (R .un .un tb)=VL (j7 fr) (some 1) none:=by
     simp[R,ec4,ef,JC]
    have e7:(JS [(true,(jb VM [(fV 3),(false,(d2 j8 (dV 0) (dN 0)))]))]) (R .un .un tb)=some (.tup [.int k]):=by
     simp[R,k]
    rw[d2,e7,uEa,e8];exact ep
   show jk 6 _ _=_;rw[jk,e9];rfl
  ·have hz1:=hz.1;have hz2:=hz.2;have key:∀(E:DE),E (R (.cl (j7 q.1)) .un tb)=some (jt q)->UF 1 (dV 3) (dV 4) E (R (.cl (j7 q.1)) .un tb)=some (.nx (R (.cl (j7 q.1)) .un (tb.set ax.toNat (f.take hh.toNat++q::f.drop hh.toNat)))):=fun E hE=>by
    have hE:E [.cl (jo b),.lo (Jm tb),.cl (.lst (ds.map .int)),.cl (.int ax),.cl (.int hh),.cl (.int w),.cl (j7 q.1),.un]=some (jt q):=hE;show _=some (Rs.nx [.cl (jo b),.lo (Jm _),_,_,_,_,_,_]);rw[<-es];simp[R,UF,hE,hx,hl,vW,hi1,hz1,hz2]
   refine key _ ?_;simp[R,a3,q,jt]
 ·have es:(Jm tb).eraseIdx ax.toNat=Jm (tb.eraseIdx ax.toNat):=by unfold Jm;exact zW _ _ _
  have hz2:=mi.2;refine⟨tb.eraseIdx ax.toNat,.un,.un,T.pop _,sq (noF _ _ _ _ _ (jZ h)) (sq (no _ _ _ _ _ (jZ h)) (sq (noF _ _ _ _ _ (jZ h)) (sq (no _ _ _ _ _ (jZ h)) (sq ((yes _ _ _ _ _ h).trans ?_) (sq (no _ _ _ _ _ (jZ h)) (sq (no _ _ _ _ _ (jZ h)) rfl))))))⟩;simp[R,UH,vW,mi.1,hz,hz2,es]
 ·have es:(Jm tb).take ax.toNat++[]::(Jm tb).drop ax.toNat=Jm (tb.take ax.toNat++[]::tb.drop ax.toNat):=by
   unfold Jm;rw[uDa,vWa,List.map_take,List.map_drop];rfl
  have hz2:ax<=(tb.length:Int):=Int.le_of_lt mi.2;refine⟨tb.take ax.toNat++[]::tb.drop ax.toNat,.un,.un,T.ins _,sq (noF _ _ _ _ _ (jZ h)) (sq (no _ _ _ _ _ (jZ h)) (sq (noF _ _ _ _ _ (jZ h)) (sq (no _ _ _ _ _ (jZ h)) (sq (no _ _ _ _ _ (jZ h)) (sq ((yes _ _ _ _ _ h).trans ?_) (sq (no _ _ _ _ _ (jZ h)) rfl))))))⟩;show _=some (Rs.nx [.cl (jo b),.lo (Jm _),_,_,_,_,_,_]);rw[<-es];simp[R,UE,vW,mi.1,hz,hz2]
 ·have es:=VD tb ax.toNat []
  refine⟨tb.set ax.toNat [],.un,.un,T.put _ (fun u hu=>by cases hu) (by simp),sq (noF _ _ _ _ _ (jZ h)) (sq (no _ _ _ _ _ (jZ h)) (sq (noF _ _ _ _ _ (jZ h)) (sq (no _ _ _ _ _ (jZ h)) (sq (no _ _ _ _ _ (jZ h)) (sq (no _ _ _ _ _ (jZ h)) (sq ((yes _ _ _ _ _ h).trans ?_) rfl))))))⟩;show _=some (Rs.nx [.cl (jo b),.lo (Jm _),_,_,_,_,_,_]);rw[<-es];simp[R,vR,vQ,hx,vW]
theorem WO:∀l:List Pr,JF (l.map jt) (l.map jt)=some true
 | []=>rfl
 | p::l=>by
  have e:Yc p.1 p.1=true:=V_.mpr rfl;have e2:yC (jt p) (jt p)=some true:=by
   show yC (.tup [j7 p.1,.int p.2]) (.tup [j7 p.1,.int p.2])=_;rw[yC,JF,QT rfl rfl,e];simp[JF,yC]
  rw[vWa,JF,e2,WO l];rfl
theorem WP:∀tb:List (List Pr),JF (tD tb) (tD tb)=some true
 | []=>rfl
 | l::tb=>by
  have e:=WP tb;show JF (D.lst (l.map jt)::tD tb) (D.lst (l.map jt)::tD tb)=_;rw[JF,yC,if_pos rfl,WO,e];rfl
def WQ{l:List D}(h:dep (.lst l)<=20)(e:JF l l=some true):Jv (.lst l) (.lst l)=some (.bl false):=by
 have e0:vY (D.lst l) (D.lst l)=true:=rfl;unfold Jv uK;rw[if_pos e0,if_pos ⟨e0,h⟩,yC,if_pos rfl,e];rfl
theorem xf:∀tb:List (List Pr),wu (tD tb)=some (Jm tb)
 | []=>rfl
 | l::tb=>by
  have e:=xf tb;show(wu (tD tb)).map (fun ls=>l.map jt::ls)=_;rw[e];rfl
theorem WR(b:Bk)(val:Sd->Int):∀l:List Nat,(∀j∈l,jD b (ji b) j≠[])->UD (Jm (l.map fun j=>(jD b (ji b) j).map fun s=>(s,val s)))=some (l.map fun j:Nat=>(j:Int))
 | [],_=>rfl
 | j::l,h=>by
  have e:=WR b val l fun i hi=>h i (wMa _ hi);have h1:=h j wNa;show(k9 (((jD b (ji b) j).map fun s=>(s,val s)).map jt)).bind (fun a=>(UD (Jm (l.map fun j=>(jD b (ji b) j).map fun s=>(s,val s)))).map fun as=>a::as)=_;rw[e];cases hl:jD b (ji b) j with
  | nil=>exact vDa hl h1
  | cons t r=>
   have:=(VA (Fit.empty b) j t (by rw[hl];exact wNa)).2.1;have h3:t.place=(j:Int):=by rw[this];show(0:Int)+j=_;lia
   have h4:k9 (((t::r).map fun s=>(s,val s)).map jt)=some t.place:=rfl;rw[h4,h3];rfl
def Xw(C:Addr)(ns:List Int)(h:ns.length<=63):qJ C [.scr ns]=some (.bl true):=by
 obtain⟨ms,e1,hm⟩:=qL C ns 230 h (by decide) (by decide);have hml:ms.length=230:=by lia
 obtain⟨b,eb,ok,hbs,_⟩:=br C ms 6 (by lia) (by lia) (by decide) (by decide);have h6:b.size<=6:=by have:=jY (a:=ms.getD 1 0) (b:=6) (by decide);lia
 have s1:=ok.s1;have em:=bj C b ok;have tl:∀l:List D,(OD.lst l).toD=.lst l:=fun _=>rfl;have cl:∀n:Nat,J6 (ms.map D.int) (some (n:Int)) none=(ms.drop n).map D.int:=fun n=>by rw[YH,wY]
 have atm:∀k:Int,0<=k->k < 230->∃v:Int,atI (ms.map D.int) k=some (.int v):=fun k h0 h1=>⟨_,J9 (f:=D.int) (xs:=ms) (d:=0) h0 (by lia)⟩
 obtain⟨v160,a160⟩:=atm 160 (by decide) (by decide);obtain⟨v161,a161⟩:=atm 161 (by decide) (by decide);obtain⟨v162,a162⟩:=atm 162 (by decide) (by decide);obtain⟨v190,a190⟩:=atm 190 (by decide) (by decide);obtain⟨row,er,hr,hk⟩:=Xr C b ok (ms.drop 60) (by rw[uNa];lia);obtain⟨costs,ec,hc,hcc⟩:=Xs C b ok (ms.drop 110) (by rw[uNa];lia);have L:=dR ok h6;obtain⟨n,val,ep,hn1,hn2,hne⟩:=xb C ok hr hc L;have T0:Tq b 0 (ZD b n val):=⟨fun l hl p hp=>by
  obtain⟨j,_,rfl⟩:=uVa hl;obtain⟨s,hs,rfl⟩:=uVa hp;exact xa ok hr hc j s hs,fun l hl=>by
  obtain⟨j,_,rfl⟩:=uVa hl;rw[vYa];exact L.len j,by unfold ZD;rw[vYa,List.length_range];lia⟩
 obtain⟨k,rfl⟩:∃k,n=k+1:=⟨n - 1,by lia⟩
 have tne:ZD b (k+1) val≠[]:=fun z=>by have:=congrArg List.length z;simp[ZD]at this
 have p0:atI (tD (ZD b (k+1) val)) 0=some (.lst [jt (ji b,val (ji b))]):=yD (by decide) (by
  unfold tD ZD;rw[List.range_succ_eq_map];rfl)
 have p1:∀d:D,atI [d] 0=some d:=fun d=>yD (by decide) rfl;have p2:∀p:Pr,j8 (jt p) (.int 1)=some (.int p.2):=fun p=>rfl;have elc:Ww (Zr C) [(tC 2),(tC 4),(tC 5)] [.bo (.scr ns),.cl (.lst (ms.map .int)),.cl (jo b),.cl (jU C b),.cl (.lst (row.map .int)),.cl (.lst (costs.map .int)),.un,.un,.un,.un,.un,.un,.un]=some (Jm (ZD b (k+1) val)):=by
  unfold Ww;have ea:YK [(tC 2),(tC 4),(tC 5)] [.bo (.scr ns),.cl (.lst (ms.map .int)),.cl (jo b),.cl (jU C b),.cl (.lst (row.map .int)),.cl (.lst (costs.map .int)),.un,.un,.un,.un,.un,.un,.un]=some [jo b,.lst (row.map .int),.lst (costs.map .int)]:=rfl;have okl:∀l:List Int,Gw (l.map D.int)=true:=fun l=>by cases l <;> rfl
  rw[ea,uEa,ep,uEa];show(wu (tD (ZD b (k+1) val))).bind _=_;rw[xf,uEa];have ek:=WR b val (List.range (k+1)) fun j hj=>hne j (List.mem_range.mp hj);rw[show UD (Jm (ZD b (k+1) val))=_ from ek,uEa];refine if_pos ⟨?_,?_,?_,?_⟩
  ·simp[jo,WN,D5,K7,okl]
  ·rw[<-Bool.not_eq_true,List.isEmpty_iff];intro z;have:=congrArg List.length z;simp[Jm,ZD]at this
  ·refine List.Pairwise.map _ (fun a c hac=>?_) List.nodup_range;have:a≠c:=hac
   lia
  ·unfold Jm;rw[List.all_map,List.all_eq_true];intro l _;exact kD l
 have m5:=jY (a:=v160) (b:=5) (by decide);have m3:=jY (a:=v162) (b:=3) (by decide);obtain⟨δ,hδ,_⟩:=ZL (ns:=[0,0,1,-1,-20]) (k:=v160 % 5) (lo:=-20) (hi:=1) m5.1 m5.2 (by decide);obtain⟨c2,hc2,_⟩:=ZL (ns:=[0,-1,10 ^ 20]) (k:=v162 % 3) (lo:=-1) (hi:=10 ^ 20) m3.1 m3.2 (by decide);have hδ:atI [D.int 0,D.int 0,D.int 1,D.int (-1),D.int (-20)] (v160 % 5)=some (.int δ):=hδ;have hc2:atI [D.int 0,D.int (-1),D.int 100000000000000000000] (v162 % 3)=some (.int c2):=hc2;have epw:GX (.int 10) (.int 20)=some (.int (10 ^ 20)):=by rfl
 obtain⟨tb1,sp1,T1⟩:=K8 C b ok (ms.drop 163) (by rw[uNa];lia) (by rw[uNa];lia) _ tne 0 (by lia) T0;have sp2:=fun h0=>K8 C b ok (ms.drop 191) (by rw[uNa];lia) (by rw[uNa];lia) tb1 h0 1 (by lia) T1;have cl60:=cl 60;have cl110:=cl 110;have cl163:=cl 163;have cl191:=cl 191;clear cl;revert cl60 cl110 cl163 cl191 sp1 sp2 er ec;generalize ms.drop 60=m60;generalize ms.drop 110=m110;generalize ms.drop 163=m163;generalize ms.drop 191=m191;intro er ec sp1 sp2 cl60 cl110 cl163 cl191;have cl60:J6 (ms.map D.int) (some 60) none=m60.map D.int:=cl60;have cl110:J6 (ms.map D.int) (some 110) none=m110.map D.int:=cl110;have cl163:J6 (ms.map D.int) (some 163) none=m163.map D.int:=cl163;have cl191:J6 (ms.map D.int) (some 191) none=m191.map D.int:=cl191;have nn:=(Wg (Wf tb1)).2
 let R:Sl->Sl->Sl->Sl->Sl->Sl->Sl->je:=fun x6 x7 x8 x9 x10 x11 x12=>[.bo (.scr ns),.cl (.lst (ms.map .int)),.cl (jo b),.cl (jU C b),.cl (.lst (row.map .int)),.cl (.lst (costs.map .int)),x6,x7,x8,x9,x10,x11,x12]
 refine fE (sq (Z1:=[.bo (.scr ns),.cl (.lst (ms.map .int)),.un,.un,.un,.un,.un,.un,.un,.un,.un,.un,.un]) (by simp[-OD.toD,tl,e1])
  (sq (Z1:=[.bo (.scr ns),.cl (.lst (ms.map .int)),.cl (jo b),.un,.un,.un,.un,.un,.un,.un,.un,.un,.un]) (by simp[eb])
  (sq (Z1:=[.bo (.scr ns),.cl (.lst (ms.map .int)),.cl (jo b),.cl (jU C b),.un,.un,.un,.un,.un,.un,.un,.un,.un]) (by simp[-OD.toD,em,Xd])
  (sq (Z1:=[.bo (.scr ns),.cl (.lst (ms.map .int)),.cl (jo b),.cl (jU C b),.cl (.lst (row.map .int)),.un,.un,.un,.un,.un,.un,.un,.un]) (by simp[-OD.toD,tl,cl60,er,JC])
  (sq (Z1:=R .un .un .un .un .un .un .un) (by simp[-OD.toD,tl,cl110,ec,JC,R])
  (sq (Z1:=R (.lo (Jm (ZD b (k+1) val))) .un .un .un .un .un .un) ?_
  (sq (Z1:=R (.lo (Jm (ZD b (k+1) val))) (.cl (.int (val (ji b)+δ))) .un .un .un .un .un) ?_ ?_)))))))
 ·unfold Gy;rw[elc];rfl
 ·simp[R,frz,fz,zS,p0,p1,p2,a160,hδ,DS.JV]
 obtain⟨cost,e7⟩:∃cost,(jg (jl (d2 jH (d2 jF (d2 j8 (dV 1) (dN 161)) (dN 6)) (dN 1))) (jk 7 (d2 j8 (dL (J8 [(true,(dN 0)),(true,(yB (dN 1))),(true,(d2 GX (dN 10) (dN 20)))])) (d2 jF (d2 j8 (dV 1) (dN 162)) (dN 3)))) ju) (R (.lo (Jm (ZD b (k+1) val))) (.cl (.int (val (ji b)+δ))) .un .un .un .un .un)=some (.nx (R (.lo (Jm (ZD b (k+1) val))) (.cl (.int cost)) .un .un .un .un .un)):=by
  by_cases q:v161 % 6=1
  ·refine⟨c2,?_⟩;simp[R,a161,q,a162,epw,hc2]
  ·refine⟨val (ji b)+δ,?_⟩;simp[R,a161,q]
 refine sq e7 (sq (Z1:=R (.lo (Jm tb1)) (.cl (.int cost)) .un .un .un .un .un) (by simp[R,zX,cl163,sp1,JC]) ?_);obtain⟨tb,T2,e8⟩:∃tb,Tq b 2 tb/\(jg (fun Z=>(Jb (jl (d2 jH (d2 jF (d2 j8 (dV 1) (dN 190)) (dN 3)) (dN 1))) (jl (d2 Jv (dV 6) (dL (J8 []))))) (frz Z)) (zX 6 (YA C) (dC 2) (dL (JT (dV 1) (fun Z=>((dN 191) Z).bind JC) (fun _=>some none)))) ju) (R (.lo (Jm tb1)) (.cl (.int cost)) .un .un .un .un .un)=some (.nx (R (.lo (Jm tb)) (.cl (.int cost)) .un .un .un .un .un)):=by
  by_cases q1:v190 % 3=1
  ·cases hq:(tD tb1).isEmpty with
   | true=>
    rw[hq]at nn;refine⟨tb1,T1.up,?_⟩;simp[-Jv,R,frz,fz,zS,q1,a190,nn]
   | false=>
    rw[hq]at nn;obtain⟨tb2,sp,T2⟩:=sp2 (fun z=>by rw[z]at hq;cases hq);refine⟨tb2,T2,?_⟩;simp[-Jv,R,frz,fz,zS,q1,a190,nn,zX,cl191,sp,JC]
  ·refine⟨tb1,T1.up,?_⟩;simp[R,frz,fz,q1,a190]
 have Tt2:=T2.tt (by lia);have eh:=gY C ok hr hc hk hcc Tt2 cost;have es:=K6 C ok hr hc Tt2 cost;have hrc:((costs.reverse).length:Int)=b.size:=by rw[List.length_reverse];exact hc
 have eh2:=gY C ok hr hrc hk (fun c hx=>hcc c (List.mem_reverse.mp hx)) Tt2 cost;have es2:=K6 C ok hr hrc Tt2 cost;have eh3:=gY (tb:=[]) C ok hr hc hk hcc ⟨fun l hl=>(by cases hl),fun l hl=>(by cases hl),by simp⟩ cost;have eh3:yP C [jU C b,.lst (row.map .int),.lst (costs.map .int),.lst [],.int cost]=some (.bl false):=eh3;generalize VC row costs b tb cost=x at eh es;generalize VC row costs.reverse b tb cost=y at eh2 es2;have nb:∀x:Bool,Jv (.bl x) (.bl x)=some (.bl false):=fun x=>by cases x <;> rfl
 have zt:(tD tb).length<=sizeLine:=by unfold tD;rw[vYa];exact wQa (jp (by have:=Tt2.few;lia))
 have zr:row.length<=sizeLine:=wQa (jp (by lia));have zc:costs.length<=sizeLine:=wQa (jp (by lia));have hcp:Js (gN 0) jA (dL (Jr y_ [(fV 0)])) (tD tb) [.un]=some (tD tb):=J1 (fun l:List Pr=>D.lst (l.map jt)) (fun l:List Pr=>D.lst (l.map jt)) (xs:=tb) fun l hl=>⟨_,rfl,rfl,by
  have:l.length<=sizeLine:=wQa (jp (by have:=Tt2.len l hl;lia));simp[y_,this]⟩
 have net:=WQ (Wf tb) (WP tb);have neh:Jv (.lst [.lst (row.map .int),.lst (costs.map .int)]) (.lst [.lst (row.map .int),.lst (costs.map .int)])=some (.bl false):=WQ (by simp[dep,ym,vU]) (by
  rw[JF,yC,if_pos rfl,vV _ _ rfl,JF,yC,if_pos rfl,vV _ _ rfl];simp[JF])
 have q0:∀d e:D,atI [d,e] 0=some d:=fun d e=>yD (by decide) rfl;have q1:∀d e:D,atI [d,e] 1=some e:=fun d e=>yD (by decide) rfl;have rv:qy (.lst (costs.map .int)) (.int (-1))=some (.lst (costs.reverse.map .int)):=by rw[List.map_reverse];rfl
 refine sq e8 (sq (Z1:=R (.cl (.lst (tD tb))) (.cl (.int cost)) (.cl (.bl x)) .un .un .un .un) (by simp[R,frz,fz,zS,es])
  (sq (Z1:=R (.cl (.lst (tD tb))) (.cl (.int cost)) (.cl (.bl x)) (.cl (.lst (tD tb))) .un .un .un) ?_
  (sq (Z1:=R (.cl (.lst (tD tb))) (.cl (.int cost)) (.cl (.bl x)) (.cl (.lst (tD tb))) (.cl (.lst [.lst (row.map .int),.lst (costs.map .int)])) .un .un) (by simp[R,y_,zr,zc])
  (sq (Z1:=R (.cl (.lst (tD tb))) (.cl (.int cost)) (.cl (.bl x)) (.cl (.lst (tD tb))) (.cl (.lst [.lst (row.map .int),.lst (costs.map .int)])) (.cl (.bl x)) .un) (by simp[R,q0,q1,eh])
  (sq (YQ (by simp[-Jv,R,nb,net,neh]) rfl)
  (sq (Z1:=R (.cl (.lst (tD tb))) (.cl (.int cost)) (.cl (.bl x)) (.cl (.lst (tD tb))) (.cl (.lst [.lst (row.map .int),.lst (costs.map .int)])) (.cl (.bl x)) (.cl (.lst (costs.reverse.map .int)))) (by simp[R,rv])
  (sq (Z1:=R (.cl (.lst (tD tb))) (.cl (.int cost)) (.cl (.bl x)) (.cl (.lst (tD tb))) (.cl (.lst [.lst (row.map .int),.lst (costs.map .int)])) (.cl (.bl y)) (.cl (.lst (costs.reverse.map .int)))) (by rw[List.map_reverse]at eh2;simp[R,eh2])
  (sq (YQ (by rw[List.map_reverse]at es2;simp[-Jv,R,nb,es2]) rfl) ?_))))))))
 ·generalize (dL (Jr y_ [(fV 0)]))=dd at hcp⊢;simp[R,hcp,zt]
 ·simp[R,eh3]
end M
noncomputable section
namespace M
open PySem L2 DS CP
noncomputable def top(i:Nat):Stmt:=PySem.Challenge.pw_moonseat_k19_prices_judged.main.body.getD i (.Pass ⟨0,0,0,0⟩)
def dF(i f k:Nat)(ks:List Nat)(b:DS.DS)(hs:List ((Nat×Nat×Nat)×List Nat):=[])(sh:List (Nat×Nat):=[])(ow:List Nat:=[]):Df:=⟨top i,sN (top i),f,false,k==1,ks.map (Nat.beq 1),b,hs,sh,ow⟩
def dM(i j:Nat)(q:Str)(f k:Nat)(ks:List Nat)(b:DS.DS)(hs:List ((Nat×Nat×Nat)×List Nat):=[])(sh:List (Nat×Nat):=[])(ow:List Nat:=[]):Df:=⟨inClass (top i) j,q,f,true,k==1,ks.map (Nat.beq 1),b,hs,sh,ow⟩
noncomputable def T0(C:Addr):Tb:=⟨C,[("LEAST_COST",.con 1),("MOST_COST",.con 9),("MOST_SIZE",.con 30),("MOST_KINDS",.con 4),("MOST_SHUNS",.con 20),("MOST_BARS",.con 12),("MOST_DUES",.con 3),("MOST_RUN",.con 4),("MOST_REST",.con 4),("MOST_FAR",.con 2),("all",.blt),("any",.blt),("bool",.blt),("dict",.blt),("enumerate",.blt),("isinstance",.blt),("len",.blt),("list",.blt),("max",.blt),("min",.blt),("range",.blt),("reversed",.blt),("tuple",.blt),("zip",.blt)],[],["size", "kind_rows", "shun_rows", "bar_rows", "due_rows"]⟩
def l1(C:Addr):List Df:=[dF 51 334 1 [0,0] (zE C) [] [] [2],
 dF 52 341 1 [0,0,0,0] (zG C) [] [] [4],
 dF 53 346 0 [0,0] (v_ C) [((248,16,82),[0])] [(253,4),(253,8)] [4,8],
 dF 47 266 0 [0,0,0,0,0] (Zm C),
 dF 44 245 0 [1] (V1 C),
 dF 45 252 0 [1,0] (V2 C),
 dF 46 259 0 [1,0,0] (V3 C),
 dF 48 271 0 [0,0,0,0,0] (V4 C) [((181,15,54),[5]),((183,54,65),[]),((183,15,66),[5,0])]]
def k1(C:Addr):(T0 C).chks 0 (l1 C)=qH (l1 C):=by kernel_rfl
def T1(C:Addr):Tb:=(T0 C).adds 0 (l1 C)
def JI(C:Addr):Df:=dM 49 0 "Rules.__init__" 285 0 [1,0,0,0,0] (yM C) [] [] [0]
def G1(C:Addr):GJ (T1 C) (JI C).de false=some (yM C):=by kernel_rfl
def T2(C:Addr):Tb:=(T1 C).ag "Rules" (.mk 17 (JI C).de.ps (JI C).de.ks (yu C) (ya C))
def l3(C:Addr):List Df:=[dF 54 353 1 [0] (V6 C),
 dF 60 393 1 [0,0] (V8 C) [] [] [2],
 dF 61 398 1 [0,0] (YR C) [((319,11,74),[1])],
 dF 56 365 0 [0,0,0] (z_ C) [((259,54,69),[])],
 dF 57 372 0 [0,0,0,0] (VR C) [] [] [4],
 dF 58 379 0 [0,1,1] (gj C) [] [] [15],
 dF 59 386 0 [0,1] (Zp C) [((306,20,43),[]),((307,27,43),[])] [] [2,3],
 dF 55 358 0 [0] (vd C),
 dF 63 410 0 [0,0,0,0] (Va C),
 dF 66 427 0 [0,0,0] (ue C) [((362,47,70),[]),((363,12,34),[]),((364,26,48),[]),((364,12,80),[1]),((364,11,112),[4])] [] [4],
 dF 62 403 0 [0,0] (Vb C) [((322,23,78),[1]),((323,26,99),[1])]]
def k3(C:Addr):(T2 C).chks 18 (l3 C)=qH (l3 C):=by kernel_rfl
def T3(C:Addr):Tb:=(T2 C).adds 18 (l3 C)
def JQ(C:Addr):Df:=dF 67 434 0 [0,1,0] (ye C) [((366,0,9),[]),((367,0,9),[]),((369,0,9),[]),((370,0,9),[]),((371,0,11),[]),((373,0,11),[]),((373,31,102),[]),((374,0,9),[]),((375,0,9),[]),((377,58,99),[]),((378,0,11),[]),((380,0,11),[]),((382,0,9),[]),((384,0,11),[])]
def Kf(C:Addr):Xc (T3 C) (JQ C).de=some (ye C):=by kernel_rfl
def T4(C:Addr):Tb:=(T3 C).ag "_law_spoilt" (.fL 41 (JQ C).de.ps (wy 1 (JQ C).de.lo.length (JQ C).de.b))
def l5(C:Addr):List Df:=[dF 64 417 0 [0,0,0,1,0,0] (ZA C) [((333,15,44),[]),((335,28,51),[])],
 dF 65 422 0 [0,0,0,0,0] (uY C) [((341,18,73),[]),((343,11,36),[])],
 dM 49 5 "Rules.many" 320 0 [0] (vf C),
 dF 24 197 0 [0,0] (uZ C),
 dF 25 202 0 [0,0] (Ym C) [((104,15,57),[0])],
 dF 26 209 0 [0,0] (Vc C),
 dF 30 214 0 [0,0,0] (vg C),
 dF 8 94 0 [0] (Zs C),
 dF 32 226 0 [0,0] (gn C) [((128,45,91),[1]),((128,11,22),[1])],
 dF 13 127 0 [0,0,0] (gr C),
 dF 14 134 0 [0,0,0] (u_ C),
 dF 15 141 0 [0,0,0] (VT C),
 dF 16 148 0 [0,0] (VV C),
 dF 17 155 0 [0,0,0] (U9 C),
 dF 11 113 0 [0,0,0] (VX C) [] [] [4],
 dF 18 162 0 [0,0,0] (Uc C),
 dF 9 101 0 [0,0] (VY C),
 dF 19 169 0 [0,0,0] (gK C),
 dF 20 176 0 [0,0,0] (gO C),
 dF 10 106 0 [0,0,0] (vj C) [] [] [4],
 dF 12 120 0 [0,0,1] (vm C),
 dF 21 183 0 [0,0,1] (Ue C),
 dF 22 190 1 [0,0] (vo C) [] [] [2],
 dF 31 221 0 [0,0,0,0] (Zu C),
 dF 33 233 0 [0,0,0,1,0] (Ug C) [((134,43,56),[]),((134,11,30),[])],
 dF 34 238 0 [0,0,0,0,0] (uh C) [((140,29,95),[5,4]),((146,19,82),[0,1,2,8])]]
def k5(C:Addr):(T4 C).chks 42 (l5 C)=qH (l5 C):=by kernel_rfl
def T5(C:Addr):Tb:=(T4 C).adds 42 (l5 C)
def u6(C:Addr):Df:=dF 68 439 0 [0] (qI C) [((392,0,9),[]),((393,0,9),[]),((396,0,11),[]),((397,0,9),[]),((398,0,11),[]),((399,0,10),[]),((409,11,85),[])]
def EB(C:Addr):GJ (T5 C) (u6 C).de false=some (qI C):=by kernel_rfl
end M
set_option maxHeartbeats 0
noncomputable def PySem.W.Fast.tw8691611510371716277:PySem.Program:=PySem.Challenge.pw_moonseat_k19_prices_judged
theorem PySem.W.Fast.te8691611510371716277:PySem.Challenge.pw_moonseat_k19_prices_judged=PySem.W.Fast.tw8691611510371716277:=rfl
namespace Hd
noncomputable section
open PySem PySem.W PyProof.Rows L2 M CP
noncomputable abbrev pw:=PySem.Challenge.pw_moonseat_k19_prices_judged
theorem prm:((fun(_:Params->Obj)=>true) boot_o_0)=true:=by first | k_qdec | rfl
noncomputable def de(P:Params)(x:Str)(t:Nat)(v:Value):DictEntry:=⟨PyData.keyHash P x,.str x t,v⟩
noncomputable def f3(a b:Int)(r:Nat)(l:List Value):List Value:=.int a 0::.int b 0::.ref r::l
noncomputable def fC(n q:Str)(a b c:Nat)(l x1 x2 x3 x4:Int)(r1:Nat)(z:Bool)(k:Int)(r2:Nat)(m:Int)(e:Nat):Data:=.fields #[.str n a,.str q b,.str "/claim/cut.py" c,.int l 0,.int x1 0,.int x2 0,.int x3 0,.int x4 0,.ref r1,.bool z,.int k 0,.ref r2,.none,.none,.none,.none,.int m 0,.int l 0,.str "/claim/cut.py" e]
noncomputable def oU(l:List Value):Obj:=⟨.type "tuple",none,.seq (List.toArray l) 0,#[]⟩
def oF(n q:Str)(s:Stmt)(m:Str)(t cd:Nat):Obj:=⟨.type "function",none,.func (fnOf n q (defArgs s) (defBody s) (defScope s) .none .none .none (.str m t) none (.ref cd) .none),#[]⟩
def oT(n q:Str)(s:Stmt):Obj:=⟨.none,none,.func { name:=n,qualname:=q,params:=defArgs s,body:=.stmts (defBody s),scope:=defScope s,globals:=0,closure:=[],defaults:=.none,kwdefaults:=.none,doc:=.none,pyModule:=.none,annotations:=none,code:=.none,closureTuple:=.none,builtins:=0 },#[]⟩
noncomputable def ins2:BT->Nat->Obj->BT
 | .nil,_,o=>.node o .nil .nil
 | .node v l r,i,o=>match Nat.beq i 0 with
  | true=>.node o l r
  | false=>match Nat.beq (i % 2) 1 with
   | true=>.node v (ins2 l (i / 2) o) r
   | false=>.node v l (ins2 r (i / 2 - 1) o)
def putAll(t:BT)(l:List (Nat×Obj)):BT:=l.foldl (fun t q=>ins2 t q.1 q.2) t
noncomputable def env:Env:={ scope:=pw.main.scope,locals:=mainNs,globals:=mainNs,cells:=[],code:=.ref 13,frame:=some 14 }
noncomputable def bd:List Stmt:=behindTheImports pw
def cE:Code:=.body bd env
noncomputable def oD(l:List DictEntry)(k:Nat):Obj:=⟨.type "dict",none,.dict (List.toArray l) k,#[]⟩
noncomputable def oX(c d:Nat)(m:Str)(t:Nat):Obj:=⟨.type "frame",none,.plain,#[some (.ref c),some (.ref 3),some (.ref d),none,some (.str m t),none,some (.ref 0)]⟩
noncomputable def oS(a:Nat):Obj:=⟨.type "super",none,.fields #[.ref a,.ref a,.ref a],#[]⟩
noncomputable def oB(a:Nat):Obj:=⟨.type "builtin_function_or_method",none,.fields #[.builtin "object.__init_subclass__",.ref a],#[]⟩
noncomputable def oP:Obj:=⟨.type "builtin_function_or_method",none,.fields #[.builtin "type.__prepare__",.type "type"],#[]⟩
noncomputable def oE(d:Data):Obj:=⟨.type "code",none,d,#[]⟩
noncomputable def oK(n:Str)(b o:List Value)(s:Nat)(u:List Value)(f:Option Value)(t t':Nat)(w:String):Obj:=⟨.type "type",none,.cls { name:=n,bases:=b,mro:=o,ns:=s,qualname:=n,hasDict:=true,slotNames:=[],subclasses:=u,abstract:=false,collection:=none,hasDel:=false },#[f,none,some (.str n t),some (.str n t'),some (.builtin w),some (.bool true)]⟩
noncomputable def oW(t:Nat):List Str->List Value
 | []=>[]
 | x::l=>.str x t::oW (t+1) l
def oV(t:Nat)(l:List Str):Obj:=oU (oW t l)
def o0:Obj:=oU []
noncomputable def o1:Obj:=⟨.none,none,.fields #[],#[]⟩
noncomputable def nz:Nat->List Obj->List (Nat×Obj)
 | _,[]=>[]
 | n,o::l=>(n,o)::nz (n+1) l
def vN(s:Stmt):List Str:=((defScope s).names.filter fun y=>y.2==.local).map (·.1)
def oC(n q:Str)(s:Stmt)(a r:Nat)(l:List Value)(m:Nat):Obj:=oE (.fields (List.toArray (.str n a::.str q (a+1)::.str "/claim/cut.py" (a+2)::.int s.pos.line 0::.int (defArgs s).args.length 0::.int 0 0::.int 0 0::.int 3 0::.ref r::.bool true::.int 181 0::.ref (r+1)::.none::List.append l [.int m 0,.int s.pos.line 0,.str "/claim/cut.py" (m+1)])))
def fO(q:Str)(m:Str)(u:Nat)(s:Stmt)(v:Bool)(a t:Nat):List Obj:=match v with
 | true=>[o0,o1,oV (t+3) (vN s),o0,oT (sN s) q s,oC (sN s) q s t a [.ref (a+2),.ref (a+3),.ref (a+4)] (t+3+(vN s).length),oF (sN s) q s m u (a+5)]
 | false=>[o0,o1,oT (sN s) q s,oC (sN s) q s t a [.none,.none,.ref (a+2)] (t+3),oF (sN s) q s m u (a+3)]
def cO(P:Params)(m:Str)(u:Nat)(s:Stmt)(a t:Nat):List Obj:=
 [oU [.ref 24],oP,oD [de P "__module__" (t+7) (.str m u),de P "__qualname__" (t+9) (.str (sN s) (t+8)),de P "__firstlineno__" (t+11) (.int s.pos.line (t+10)),de P "__static_attributes__" (t+12) (.ref (a+7))] 4,o0,o1,
  oE (fC (sN s) (sN s) (t+2) (t+3) (t+4) s.pos.line 0 0 0 0 (a+3) false 181 (a+4) ↑(t+5) (t+6)),oX (a+5) (a+2) m u,o0,
  oD [de P "__module__" (t+7) (.str m u),de P "__firstlineno__" (t+11) (.int s.pos.line (t+10)),de P "__static_attributes__" (t+12) (.ref (a+7)),de P "__doc__" (t+13) .none] 2,
  oK (sN s) [.ref 24] [.ref (a+9),.ref 24,.type "ValueError",.type "Exception",.type "BaseException",.type "object"] (a+8) [] (some (.ref a)) t (t+8) "ValueError.__new__",oS (a+9),oB (a+9)]
noncomputable abbrev It:=Nat×Bool×Nat×Nat
def iO(m:Str)(u:Nat)(y:It):List Obj:=fO (sN (top y.1)) m u (top y.1) y.2.1 y.2.2.1 y.2.2.2
noncomputable def iF(y:It):Nat:=y.2.2.1+cond y.2.1 6 4
def iE(P:Params)(y:It):DictEntry:=de P (sN (top y.1)) (y.2.2.2+5+cond y.2.1 (vN (top y.1)).length 0) (.ref (iF y))
noncomputable def kI(y:It):List Nat:=cond y.2.1 [y.2.2.1,y.2.2.1+2,y.2.2.1+3,y.2.2.1+5,y.2.2.1+6] [y.2.2.1,y.2.2.1+3,y.2.2.1+4]
def iT(y:It)(l:List Value):List Value:=f3 (top y.1).pos.line 0 (iF y - 1) l
def jO(P:Params)(m:Str)(u:Nat)(y:Nat×Nat×Nat):List Obj:=cO P m u (top y.1) y.2.1 y.2.2
def jE(P:Params)(y:Nat×Nat×Nat):DictEntry:=de P (sN (top y.1)) (y.2.2+15) (.ref (y.2.1+9))
def jT(y:Nat×Nat×Nat)(l:List Value):List Value:=f3 (top y.1).pos.line 0 (y.2.1+5) l
noncomputable def kJ(y:Nat×Nat×Nat):List Nat:=[y.2.1,y.2.1+7,y.2.1+8,y.2.1+9]
noncomputable def vE(u:List Value):Obj:=oK "VerseError" [.type "ValueError"] [.ref 24,.type "ValueError",.type "Exception",.type "BaseException",.type "object"] 23 u (some (.ref 15)) 189 197 "ValueError.__new__"
noncomputable def i1:List (Nat×Nat×Nat):=[(2,28,207),(3,40,223),(4,52,239)]
noncomputable def i2:List (Nat×Nat×Nat):=[(5,64,255),(6,76,271)]
noncomputable def i3:List It:=[(8,true,88,289),(9,true,95,298),(10,false,102,306),(11,true,107,312),(12,true,114,328),(13,true,121,340),(14,true,128,353),(15,true,135,362),(16,true,142,372),(17,true,149,380),(18,true,156,393),(19,true,163,405),(20,true,170,414),(21,true,177,423),(22,true,184,432)]
noncomputable def i4:List It:=[(24,true,191,445),(25,false,198,453)]
noncomputable def i5:List It:=[(26,true,203,459)]
noncomputable def i6:List It:=[(30,false,210,473),(31,true,215,479),(32,false,222,490),(33,true,227,496),(34,false,234,511)]
noncomputable def i7:List It:=[(44,true,239,535),(45,true,246,545),(46,true,253,556),(47,true,260,568),(48,false,267,579)]
noncomputable def i8:List It:=[(51,true,328,659),(52,true,335,672),(53,false,342,685),(54,true,347,691),(55,false,354,698)]
noncomputable def i9:List It:=[(56,true,359,704),(57,true,366,720),(58,true,373,735),(59,true,380,762),(60,true,387,775),(61,false,394,785),(62,false,399,791),(63,true,404,797),(64,true,411,807),(65,false,418,821),(66,false,423,827),(67,true,428,833),(68,false,435,847)]
def n0(P:Params)(u:List Value):List Obj:=(List.append [oU [.type "ValueError"],oP,oD [de P "__module__" 196 (.str "moonseat.errors" 187),de P "__qualname__" 198 (.str "VerseError" 197),de P "__firstlineno__" 200 (.int 2 199),de P "__static_attributes__" 201 (.ref 22)] 4,o0,o1,oE (fC "VerseError" "VerseError" 191 192 193 2 0 0 0 0 18 false 181 19 194 195),oX 20 17 "moonseat.errors" 187,o0,oD [de P "__module__" 196 (.str "moonseat.errors" 187),de P "__firstlineno__" 200 (.int 2 199),de P "__static_attributes__" 201 (.ref 22),de P "__weakref__" 203 (.ref 25),de P "__doc__" 204 .none] 3,vE u,⟨.type "getset_descriptor",none,(.fields #[.str "__weakref__" 202,.ref 24,.builtin "ExceptionGroup.__weakref__",.none]),#[]⟩,oS 24,oB 24] (i1.flatMap (jO P "moonseat.errors" 187)))
noncomputable def n1(P:Params)(u:List Value):List Obj:=(List.append (i2.flatMap (jO P "moonseat.errors" 187)) (List.append (i3.flatMap (iO "moonseat.stands" 287)) (i4.flatMap (iO "moonseat.sheets" 443))))
def n2(P:Params)(u:List Value):List Obj:=(List.append (i5.flatMap (iO "moonseat.sheets" 443)) (List.append (i6.flatMap (iO "moonseat.mends" 467)) (List.append (i7.flatMap (iO "moonseat.rules" 517)) (List.append [o0,oP,oD [de P "__module__" 592 (.str "moonseat.rules" 517),de P "__qualname__" 594 (.str "Rules" 593),de P "__firstlineno__" 596 (.int 184 595),de P "__init__" 608 (.ref 285),de P "kinds" 615 (.ref 292),de P "shuns" 622 (.ref 299),de P "bars" 629 (.ref 306),de P "dues" 636 (.ref 313),de P "many" 643 (.ref 320),de P "__static_attributes__" 649 (.ref 321)] 10,o0,⟨.none,none,(.fields (List.toArray (f3 186 4 284 (f3 197 4 291 (f3 200 4 298 (f3 203 4 305 (f3 206 4 312 (f3 209 4 319 ([]))))))))),#[]⟩,oE (fC "Rules" "Rules" 587 588 589 184 0 0 0 0 275 false 181 276 590 591),oX 277 274 "moonseat.rules" 517] (List.append (fO "Rules.__init__" "moonseat.rules" 517 (inClass (top 49) 0) true 279 597) (List.append (fO "Rules.kinds" "moonseat.rules" 517 (inClass (top 49) 1) true 286 609) (List.append (fO "Rules.shuns" "moonseat.rules" 517 (inClass (top 49) 2) true 293 616) (List.append (fO "Rules.bars" "moonseat.rules" 517 (inClass (top 49) 3) true 300 623) (List.append (fO "Rules.dues" "moonseat.rules" 517 (inClass (top 49) 4) true 307 630) (List.append (fO "Rules.many" "moonseat.rules" 517 (inClass (top 49) 5) true 314 637) (List.append [oV 644 ["bar_rows", "due_rows", "kind_rows", "shun_rows", "size"],oD [de P "__module__" 592 (.str "moonseat.rules" 517),de P "__firstlineno__" 596 (.int 184 595),de P "__init__" 608 (.ref 285),de P "kinds" 615 (.ref 292),de P "shuns" 622 (.ref 299),de P "bars" 629 (.ref 306),de P "dues" 636 (.ref 313),de P "many" 643 (.ref 320),de P "__static_attributes__" 649 (.ref 321),de P "__dict__" 651 (.ref 324),de P "__weakref__" 653 (.ref 325),de P "__doc__" 654 .none] 4,oK "Rules" [.type "object"] [.ref 323,.type "object"] 322 [] (none) 585 593 "object.__new__",⟨.type "getset_descriptor",none,(.fields #[.str "__dict__" 650,.ref 323,.builtin "function.__dict__",.builtin "function.__dict__#set"]),#[]⟩,⟨.type "getset_descriptor",none,(.fields #[.str "__weakref__" 652,.ref 323,.builtin "ExceptionGroup.__weakref__",.none]),#[]⟩,oS 323,oB 323] (i8.flatMap (iO "law_moonseat_k19_prices_judged" 657)))))))))))))
noncomputable def n3(P:Params)(u:List Value):List Obj:=(i9.flatMap (iO "law_moonseat_k19_prices_judged" 657))
def E(P:Params):List DictEntry:=(List.append [de P "__doc__" 166 .none,de P "__package__" 167 .none,de P "__loader__" 168 (.builtin "__main__.__loader__#opaque"),de P "__spec__" 169 .none,de P "__annotations__" 170 (.ref 6),de P "__builtins__" 171 (.ref 4),de P "__file__" 173 (.str "/claim/cut.py" 172),de P "__cached__" 174 .none,de P "VerseError" 206 (.ref 24)] (List.append (i1.map (jE P)) (List.append (i2.map (jE P)) (List.append (i3.map (iE P)) (List.append (i4.map (iE P)) (List.append (i5.map (iE P)) (List.append [de P "LEAST_COST" 470 (.int 1 469),de P "MOST_COST" 472 (.int 9 471)] (List.append (i6.map (iE P)) (List.append [de P "MOST_SIZE" 520 (.int 30 519),de P "MOST_KINDS" 522 (.int 4 521),de P "MOST_SHUNS" 524 (.int 20 523),de P "MOST_BARS" 526 (.int 12 525),de P "MOST_DUES" 528 (.int 3 527),de P "MOST_RUN" 530 (.int 4 529),de P "MOST_REST" 532 (.int 4 531),de P "MOST_FAR" 534 (.int 2 533)] (List.append (i7.map (iE P)) (List.append [de P "Rules" 656 (.ref 323)] (List.append (i8.map (iE P)) (i9.map (iE P))))))))))))))
noncomputable def mT(k:Nat):Obj:=⟨.none,none,.fields (List.toArray (List.take (3 * k) (f3 2 0 20 (i1.foldr jT (i2.foldr jT (i3.foldr iT (i4.foldr iT (i5.foldr iT (i6.foldr iT (i7.foldr iT (f3 184 0 277 (i8.foldr iT (i9.foldr iT []))))))))))))),#[]⟩
def mD(P:Params)(x:Str)(t k:Nat):Obj:=oD (de P "__name__" 165 (.str x t)::(E P).take k) (k+1)
def lA(P:Params):List Obj:=[boot_o_0 P,boot_o_1 P,boot_o_2 P,boot_o_3 P,boot_o_4 P,boot_o_5 P,boot_o_6 P,boot_o_7 P,boot_o_8 P,boot_o_9 P,boot_o_10 P,o0,o1,oE (fC "<module>" "<module>" 182 183 184 1 0 0 0 0 11 false 181 12 185 186),oX 13 3 "__main__" 164]
noncomputable def hA(P:Params):Heap:=⟨⟨lA P⟩,{}⟩
def t0(P:Params):BT:=putAll .nil (nz 0 (lA P))
def t1(P:Params):BT:=putAll (t0 P) ((3,mD P "moonseat.errors" 187 12)::(12,mT 4)::nz 15 (n0 P [.ref 37,.ref 49,.ref 61]))
def t2(P:Params):BT:=putAll (t1 P) ((3,mD P "moonseat.sheets" 443 31)::(12,mT 23)::(24,vE [.ref 37,.ref 49,.ref 61,.ref 73,.ref 85])::nz 64 (n1 P [.ref 37,.ref 49,.ref 61,.ref 73,.ref 85]))
def t3(P:Params):BT:=putAll (t2 P) ((3,mD P "law_moonseat_k19_prices_judged" 657 58)::(12,mT 40)::nz 203 (n2 P []))
def t4(P:Params):BT:=putAll (t3 P) ((3,mD P "law_moonseat_k19_prices_judged" 657 71)::(12,mT 53)::nz 359 (n3 P []))
def lF(P:Params):List Obj:=(List.append [boot_o_0 P,boot_o_1 P,boot_o_2 P,mD P "law_moonseat_k19_prices_judged" 657 71,boot_o_4 P,boot_o_5 P,boot_o_6 P,boot_o_7 P,boot_o_8 P,boot_o_9 P,boot_o_10 P,o0,mT 53,oE (fC "<module>" "<module>" 182 183 184 1 0 0 0 0 11 false 181 12 185 186),oX 13 3 "__main__" 164] (List.append (n0 P [.ref 37,.ref 49,.ref 61,.ref 73,.ref 85]) (List.append (n1 P [.ref 37,.ref 49,.ref 61,.ref 73,.ref 85]) (List.append (n2 P [.ref 37,.ref 49,.ref 61,.ref 73,.ref 85]) (n3 P [.ref 37,.ref 49,.ref 61,.ref 73,.ref 85])))))
noncomputable def hF(P:Params):Heap:=⟨⟨lF P⟩,{}⟩
noncomputable def kA:List Addr:=(List.append [2,3,15,22,23,24,25] (List.append (i1.flatMap kJ) (List.append (i2.flatMap kJ) (List.append (i3.flatMap kI) (List.append (i4.flatMap kI) (List.append (i5.flatMap kI) (List.append (i6.flatMap kI) (List.append (i7.flatMap kI) (List.append [279,281,282,284,285,286,288,289,291,292,293,295,296,298,299,300,302,303,305,306,307,309,310,312,313,314,316,317,319,320,321,322,323,324,325] (List.append (i8.flatMap kI) (i9.flatMap kI)))))))))))
def K(P:Params):Frag:=kA.map fun a=>(a,(lF P).getD a o0)
def kOk:∀P,kA=(K P).map (·.1):=fun _=>by kernel_rfl
def sts0:List Stmt:=(List.range' 0 5).map top
def sts1:List Stmt:=(List.range' 5 21).map top
def sts2:List Stmt:=(List.range' 26 30).map top
def sts3:List Stmt:=(List.range' 56 13).map top
def q:Program:={ pw with main:={ pw.main with body:=((List.append (List.range' 1 6) (List.append (List.range' 8 15) (List.append (List.range' 24 3) (List.append (List.range' 28 7) (List.append (List.range' 36 14) (List.range' 51 18))))))).map top } }
noncomputable abbrev Xt:Shared->Bool:=fun s=>xlAt q [] s&&recOk (RowW.records (OpenRow.toRowW (OpenLaw.row PySem.Challenge.rw_moonseat_k19_prices_judged))) s
noncomputable def G2(p:Program)(w:World)(m:Nat)(an:Option Value)(n:Nat)(s:Shared)(t:Thread):=segRun treeTable p w m an 1 n s t
lay_quick G2
def g2{p:Program}{w:World}{m:Nat}{an:Option Value}{n:Nat}{s:Shared}{t:Thread}{r}(e:PySem.W.Fast.tw10880070632800087129 p w m an n s t=r):segRun treeTable p w m an 1 n s t=r:=by rw[<-PySem.W.Fast.te10880070632800087129]at e;exact e
noncomputable def G3(p:Program)(w:World)(m:Nat)(an:Option Value)(n:Nat)(s:SharedT)(t:Thread):=segRunT treeTable p w m an 1 n s t
lay_quick G3
def g3{p:Program}{w:World}{m:Nat}{an:Option Value}{n:Nat}{s:SharedT}{t:Thread}{r}(e:PySem.W.Fast.tw4145583888436359099 p w m an n s t=r):segRunT treeTable p w m an 1 n s t=r:=by rw[<-PySem.W.Fast.te4145583888436359099]at e;exact e
noncomputable def G4(p:Program)(w:World)(m:Nat)(an:Option Value)(n:Nat)(s:Shared)(t:Thread):=topRun treeTable p w m an n s t
lay_quick G4
def g4{p:Program}{w:World}{m:Nat}{an:Option Value}{n:Nat}{s:Shared}{t:Thread}{r}(e:PySem.W.Fast.tw6531939937263253831 p w m an n s t=r):topRun treeTable p w m an n s t=r:=by rw[<-PySem.W.Fast.te6531939937263253831]at e;exact e
noncomputable def G7(p:Program)(g h:Heap)(s:Shared):=(staticsOk (importedModules p.main.body) g h&&namesBound p h&&gensDone s&&laidKept g h)
lay_quick G7
def g7{p:Program}{g h:Heap}{s:Shared}{r}(e:PySem.W.Fast.tw9566738594451217396 p g h s=r):(staticsOk (importedModules p.main.body) g h&&namesBound p h&&gensDone s&&laidKept g h)=r:=by rw[<-PySem.W.Fast.te9566738594451217396]at e;exact e
noncomputable def G9(h:Heap):=(h.isNs mainGlobals&&(Array.mk []:Array GenState).size==0,h.objs.size,h.nsMap mainGlobals "__annotations__")
lay_quick G9
def g9{h:Heap}{r}(e:PySem.W.Fast.tw14578262778655688011 h=r):(h.isNs mainGlobals&&(Array.mk []:Array GenState).size==0,h.objs.size,h.nsMap mainGlobals "__annotations__")=r:=by rw[<-PySem.W.Fast.te14578262778655688011]at e;exact e
noncomputable def G5(q:Program)(R:WRecords)(md:List Str)(s:Shared):=(openSeen q [] md (fun s=>xlAt q [] s&&recOk R s) true s)
noncomputable def G6(q:Program):=openGood q []
lay_quick G5 G6
def g5{q:Program}{R:WRecords}{md:List Str}{s:Shared}{α:Type}(f:_->α)(e:f (PySem.W.Fast.tw5989712690265804088 q R md s)=f (PySem.W.Fast.tw12956129408465502666 q)):f (openSeen q [] md (fun s=>xlAt q [] s&&recOk R s) true s)=f (openGood q []):=by rw[<-PySem.W.Fast.te5989712690265804088,<-PySem.W.Fast.te12956129408465502666]at e;exact e
noncomputable def Lpre(w:World)(os:OsState):=topGo treeTable pw w 11 (some (.ref 6)) 12 (⟨boot_heap w.params,Array.mk [],boot_drawn,boot_toks,os⟩:Shared) (topStub pw)
def Rpre(w:World)(os:OsState):=some ((⟨hA w.params,Array.mk [],{},187,os⟩:Shared),(⟨denote treeTable cE,cE,(⟨0,0,0,0⟩:Pos),[topFrame (⟨0,0,0,0⟩:Pos)]⟩:Thread))
lay_quick Lpre Rpre
def Qpre:Lpre=Rpre:=PySem.W.Fast.te10476676399240795362.trans ((by kernel_rfl:PySem.W.Fast.tw10476676399240795362=PySem.W.Fast.tw9996742816549557572).trans PySem.W.Fast.te9996742816549557572.symm)
def Ppre(w:World)(os:OsState):topGo treeTable pw w 11 (some (.ref 6)) 12 (⟨boot_heap w.params,Array.mk [],boot_drawn,boot_toks,os⟩:Shared) (topStub pw)=some ((⟨hA w.params,Array.mk [],{},187,os⟩:Shared),(⟨denote treeTable cE,cE,(⟨0,0,0,0⟩:Pos),[topFrame (⟨0,0,0,0⟩:Pos)]⟩:Thread)):=congrFun (congrFun Qpre w) os
def Pblk(w:World)(os:OsState):segRun treeTable pw w 11 (some (.ref 6)) 1 1 (⟨hA w.params,Array.mk [],{},187,os⟩:Shared) (blockOf bd env cE (⟨0,0,0,0⟩:Pos) [topFrame (⟨0,0,0,0⟩:Pos)])=some (Flow.next,SharedT.abs (⟨t0 w.params,15,{},Array.mk [],{},187,os⟩:SharedT),cE,(⟨0,0,0,0⟩:Pos)):=g2 (by kernel_rfl)
def P0(w:World)(os:OsState):segRunT treeTable pw w 11 (some (.ref 6)) 1 835 (⟨t0 w.params,15,{},Array.mk [],{},187,os⟩:SharedT) (piecesOf sts0 env cE (⟨0,0,0,0⟩:Pos) [topFrame (⟨0,0,0,0⟩:Pos)])=some (Flow.next,(⟨t1 w.params,64,{},Array.mk [],{},255,os⟩:SharedT),cE,(⟨8,0,9,8⟩:Pos)):=g3 (by kernel_rfl)
def P1(w:World)(os:OsState):segRunT treeTable pw w 11 (some (.ref 6)) 1 983 (⟨t1 w.params,64,{},Array.mk [],{},255,os⟩:SharedT) (piecesOf sts1 env cE (⟨8,0,9,8⟩:Pos) [topFrame (⟨0,0,0,0⟩:Pos)])=some (Flow.next,(⟨t2 w.params,203,{},Array.mk [],{},459,os⟩:SharedT),cE,(⟨103,0,104,58⟩:Pos)):=g3 (by kernel_rfl)
def P2(w:World)(os:OsState):segRunT treeTable pw w 11 (some (.ref 6)) 1 990 (⟨t2 w.params,203,{},Array.mk [],{},459,os⟩:SharedT) (piecesOf sts2 env cE (⟨103,0,104,58⟩:Pos) [topFrame (⟨0,0,0,0⟩:Pos)])=some (Flow.next,(⟨t3 w.params,359,{},Array.mk [],{},704,os⟩:SharedT),cE,(⟨256,0,257,122⟩:Pos)):=g3 (by kernel_rfl)
def P3(w:World)(os:OsState):segRunT treeTable pw w 11 (some (.ref 6)) 1 426 (⟨t3 w.params,359,{},Array.mk [],{},704,os⟩:SharedT) (piecesOf sts3 env cE (⟨256,0,257,122⟩:Pos) [topFrame (⟨0,0,0,0⟩:Pos)])=some (Flow.next,(⟨t4 w.params,440,{},Array.mk [],{},853,os⟩:SharedT),cE,(⟨386,0,409,85⟩:Pos)):=g3 (by kernel_rfl)
def Pfin(w:World)(os:OsState):topRun treeTable pw w 11 (some (.ref 6)) 2 (SharedT.abs (⟨t4 w.params,440,{},Array.mk [],{},853,os⟩:SharedT)) (⟨doneF .next,cE,(⟨386,0,409,85⟩:Pos),[topFrame (⟨0,0,0,0⟩:Pos)]⟩:Thread)=some (⟨hF w.params,Array.mk [],{},853,os⟩:Shared):=g4 (by kernel_rfl)
def Pc0(w:World)(os:OsState):(openSeen q [] (importedModules pw.main.body) Xt true (⟨hF w.params,Array.mk [],{},853,os⟩:Shared)).1=(openGood q []).1:=g5 (·.1) (by kernel_rfl)
def Pc1(w:World)(os:OsState):(openSeen q [] (importedModules pw.main.body) Xt true (⟨hF w.params,Array.mk [],{},853,os⟩:Shared)).2.1=(openGood q []).2.1:=g5 (·.2.1) (by kernel_rfl)
def Pc2(w:World)(os:OsState):(openSeen q [] (importedModules pw.main.body) Xt true (⟨hF w.params,Array.mk [],{},853,os⟩:Shared)).2.2.1=(openGood q []).2.2.1:=g5 (·.2.2.1) (by kernel_rfl)
def Pc3(w:World)(os:OsState):(openSeen q [] (importedModules pw.main.body) Xt true (⟨hF w.params,Array.mk [],{},853,os⟩:Shared)).2.2.2.1=(openGood q []).2.2.2.1:=g5 (·.2.2.2.1) (by kernel_rfl)
def Pc4(w:World)(os:OsState):(openSeen q [] (importedModules pw.main.body) Xt true (⟨hF w.params,Array.mk [],{},853,os⟩:Shared)).2.2.2.2.1=(openGood q []).2.2.2.2.1:=g5 (·.2.2.2.2.1) (by kernel_rfl)
def Pc5(w:World)(os:OsState):(openSeen q [] (importedModules pw.main.body) Xt true (⟨hF w.params,Array.mk [],{},853,os⟩:Shared)).2.2.2.2.2.1=(openGood q []).2.2.2.2.2.1:=g5 (·.2.2.2.2.2.1) (by kernel_rfl)
def Pc6(w:World)(os:OsState):(openSeen q [] (importedModules pw.main.body) Xt true (⟨hF w.params,Array.mk [],{},853,os⟩:Shared)).2.2.2.2.2.2.1=(openGood q []).2.2.2.2.2.2.1:=g5 (·.2.2.2.2.2.2.1) (by kernel_rfl)
def Pc7(w:World)(os:OsState):(openSeen q [] (importedModules pw.main.body) Xt true (⟨hF w.params,Array.mk [],{},853,os⟩:Shared)).2.2.2.2.2.2.2.1=(openGood q []).2.2.2.2.2.2.2.1:=g5 (·.2.2.2.2.2.2.2.1) (by kernel_rfl)
def Pc8(w:World)(os:OsState):(openSeen q [] (importedModules pw.main.body) Xt true (⟨hF w.params,Array.mk [],{},853,os⟩:Shared)).2.2.2.2.2.2.2.2=(openGood q []).2.2.2.2.2.2.2.2:=g5 (·.2.2.2.2.2.2.2.2) (by kernel_rfl)
def Pa(w:World)(os:OsState):(staticsOk (importedModules pw.main.body) (boot_heap w.params) (hF w.params)&&namesBound pw (hF w.params)&&gensDone (⟨hF w.params,Array.mk [],{},853,os⟩:Shared)&&laidKept (boot_heap w.params) (hF w.params))=true:=g7 (by kernel_rfl)
def Py(w:World)(os:OsState):kA.map ((⟨hF w.params,Array.mk [],{},853,os⟩:Shared)).heap.get?=(K w.params).map fun p=>some p.2:=by kernel_rfl
def Pz(w:World):((boot_heap w.params).isNs mainGlobals&&(Array.mk []:Array GenState).size==0,(boot_heap w.params).objs.size,(boot_heap w.params).nsMap mainGlobals "__annotations__")=(true,11,(some (.ref 6))):=g9 (by kernel_rfl)
def run(w:World)(os:OsState):topRun treeTable pw w 11 (some (.ref 6)) (12+(1+(835+(983+(990+(426+2)))))) (⟨boot_heap w.params,Array.mk [],boot_drawn,boot_toks,os⟩:Shared) (topStub pw)=some (⟨hF w.params,Array.mk [],{},853,os⟩:Shared):=
 go_top (Ppre w os) (piece_block (Pblk w os) (piece_app (l:=sts0) (segRun_of (P0 w os)) (piece_app (l:=sts1) (segRun_of (P1 w os)) (piece_app (l:=sts2) (segRun_of (P2 w os)) (piece_app (l:=sts3) (segRun_of (P3 w os)) (piece_nil (Pfin w os)))))))
def opn:opening pw=plainProg pw.main.scope.names:=by kernel_rfl
def fen(s:Shared):fenceModules? pw s=some s:=by kernel_rfl
def left:LeftO pw q [] Xt (Hook.obs (kHook K kA kOk)) (Hook.val (kHook K kA kOk)) 6586:=
 LeftO.of_pieces (H₀:=boot_heap) (H₁:=hF) (boot_open opn (by decide) fen) Pz run (by decide) fun w=>funext fun os=>Prod.ext (Pa w os) (Prod.ext (Prod.ext (Pc0 w os) (Prod.ext (Pc1 w os) (Prod.ext (Pc2 w os) (Prod.ext (Pc3 w os) (Prod.ext (Pc4 w os) (Prod.ext (Pc5 w os) (Prod.ext (Pc6 w os) (Prod.ext (Pc7 w os) (Pc8 w os))))))))) (Py w os))
end
end Hd
namespace M
open PySem L2 DS CP
def GQ(K:W.Frag):Sp:=fun vs H Q _=>∃(a:Addr) (ns:List Int),vs=[.ref a]/\jG K H a (ns.map V.int)/\ns.length<=63/\∀H',Q (.bl true) H'
def bD{K:W.Frag}{C:Addr}(vs:List V)(H:Hp)(Q:VK)(E:XK)(h:GQ K vs H Q E):kT K [false] (qJ C) vs H Q E:=by
 obtain⟨a,ns,rfl,hS,hl,q⟩:=h;have e:j6 H []=H:=by funext b;rfl
 exact⟨[],[.scr ns],.bl true,(fun a h=>by cases h),⟨.inl (by rw[e];show DS.j9 K H (.scr ns) _;rw[DS.j9];exact⟨a,rfl,hS⟩),trivial⟩,Xw C ns hl,fun v H' _ r=>by rw[DS.j9]at r;rw[r];exact q H'⟩
def D9{l:W.OpenLaw}{w:World}{K:W.Frag}{h:Heap}{mg:Str->Option Value}{fa:Addr}(C:Addr)(X:K.In h)(G:h.Ns mainGlobals mg)(hfa:mg "law" = some (.ref fa))
 (aC:W.nsIn K mainGlobals "Rules" = some (some (.ref C)))
 (pg:W.plainGet K C Str.empty=true)
 (hd:W.hasDictIn K C=true)
 (po:W.plainOver K C=true)
 (sa:W.findIn K (.ref C) "__setattr__" = some (some (.builtin "object.__setattr__")))
 (mk:W.makesIn K C=true)
 (kc:W.keepIn K (.ref C)=true)
 (A1:(l1 C).map (uT K (T0 C).C)=(l1 C).map (uU K))
 (A_Rules___init__:uT K (T1 C).C (JI C)=uU K (JI C))
 (A3:(l3 C).map (uT K (T2 C).C)=(l3 C).map (uU K))
 (A__law_spoilt:uT K (T3 C).C (JQ C)=uU K (JQ C))
 (A5:(l5 C).map (uT K (T4 C).C)=(l5 C).map (uU K))
 (Al:uT K C (u6 C)=uU K (u6 C))
 (hF:(T0 C).fl.map (W.findIn K (.ref C))=(T0 C).fl.map fun _=>some none)
 (hG:(T0 C).gs.map (fun p=>(WA (W.nsIn K mainGlobals p.1),(aQ p.2).isSome))=(T0 C).gs.map fun p=>(aQ p.2,true)):
  ∃fd:FuncData,(∀(s:Shared) (v:Value),BindsTo s fd ⟨[v],[]⟩ [("_law_script",v)])/\∀base:Heap,K.In base->base.Ns mainGlobals mg->FnOk l.prog w K mg base Y7 95 fa fd ["_law_script"] (GQ K):=by
 have XG:∀x v,W.nsIn K mainGlobals x=some (some v)->mg x=some v:=fun x v a=>W.mg_of X G a;obtain⟨f_law,qJ,a_law,F_law⟩:=Kr Al rfl;have e:=hfa.symm.trans (XG _ _ a_law);cases e;obtain⟨_,_,kV,dc,pm,an,cd,ct,_,rfl,_,_⟩:=F_law.ex;refine⟨W.fnOf "law" "law" (defArgs (u6 C).st) (defBody (u6 C).st) (defScope (u6 C).st) .none kV dc pm an cd ct,fun s v=>.of_eq rfl,fun base _ _=>?_⟩;have h:TOk l.prog w K mg base 0 (T0 C):=⟨fun p hp=>Ej XG (fun x a=>W.mg_none_of X G a) (Ek hG p hp),(fun _ h=>by cases h),⟨pg,hd,po,sa⟩,wM hF⟩
 have h:=TOk.adds XG (l1 C) h (k1 C) A1;have h:TOk l.prog w K mg base 18 (T2 C):=TOk.I XG (d:=(JI C).de) h (wL A_Rules___init__ rfl) (by kernel_rfl) (G1 C) (by kernel_rfl) (UP (by kernel_rfl)) mk kc aC (UU C);have h:=TOk.adds XG (l3 C) h (k3 C) A3;have h:TOk l.prog w K mg base 42 (T4 C):=TOk.L XG (d:=(JQ C).de) (m:=1) h (Kr A__law_spoilt rfl) (Kf C) (by kernel_rfl) (UP (by kernel_rfl));have h:=TOk.adds XG (l5 C) h (k5 C) A5;exact(dg (d:=(u6 C).de) h F_law (EB C) rfl).imp bD
def FQ{l:W.OpenLaw}{q:Program}{loose:List Str}{XP:(Str->Option Value)->Heap->Prop}{YP:World->Heap->Prop}{d:DefRec}{K:Params->W.Frag}(hn:l.most=some 63)(hdf:d.params.defaults=[])
  (hY:∀(w:World) (h:Heap),YP w h->(K w.params).In h)
  (F:∀(w:World) (mg:Str->Option Value) (fa:Addr) (h:Heap),(K w.params).In h->h.Ns mainGlobals mg->mg d.name=some (.ref fa)->
   ∃fd:FuncData,(∀(s:Shared) (u:Value),BindsTo s fd ⟨[u],[]⟩ [("_law_script",u)])/\∀base:Heap,(K w.params).In base->base.Ns mainGlobals mg->FnOk l.prog w (K w.params) mg base Y7 95 fa fd ["_law_script"] (GQ (K w.params))):
  W.WalkO q loose XP YP l.row.toRowW d [] (fun f vs=>PySem.call f vs):=
 L2.Aq (n:=63) (k:=95) (x := "_law_script") (CX:=fun _=>Y7) (sp:=fun w=>GQ (K w.params)) hn (by decide) hdf ⟨rfl,by decide,by decide⟩ hY F (fun _ _ a ns hl _ hS=>⟨a,ns,rfl,hS,hl,fun _=>rfl⟩) fun _ _ _ _ _ z=>z
end M
open PySem PySem.W PyProof.Rows
set_option tactic.hygienic true in
set_option maxRecDepth 100000 in
set_option maxHeartbeats 0 in
theorem PySem.Challenge.cw_moonseat_k19_prices_judged_holds : PySem.Challenge.rw_moonseat_k19_prices_judged.Holds := by
 w_on;o_law
 refine holds_open (q:=Hd.q) (loose:=[]) (Xt:=Hd.Xt) (XP:=XL Hd.q []) (Yf:=Hook.obs (kHook Hd.K Hd.kA Hd.kOk)) (Ya:=Hook.val (kHook Hd.K Hd.kA Hd.kOk)) (YP:=Hook.says (kHook Hd.K Hd.kA Hd.kOk)) (N:=6586) Hd.left (Hook.of _) (Hook.keeps _) (fun s e=>xl_of s (Bool.and_eq_true_iff.mp e).1) XL.keeps (by rfl) (by rfl) (by rfl) (fun s e=>recFacts_of (Bool.and_eq_true_iff.mp e).2) (by rfl) (by assumption) (by decide +kernel) ⟨rfl,rfl,rfl,rfl,rfl,by decide +kernel⟩ ?hw ?hc
 case hw=>w_witness2
 exact M.FQ (l:=PySem.Challenge.rw_moonseat_k19_prices_judged) rfl rfl (fun w h Y=>kIn_of Y) fun w mg fa h KX G hmg=>M.D9 323 KX G hmg (by kernel_rfl) (by kernel_rfl) (by kernel_rfl) (by kernel_rfl) (by kernel_rfl) (by kernel_rfl) (by kernel_rfl) (by kernel_rfl) (by kernel_rfl) (by kernel_rfl) (by kernel_rfl) (by kernel_rfl) (by kernel_rfl) (by kernel_rfl) (by kernel_rfl)
