import PyProof.Rows.All
import Wide.All
import OpenK.AllK
import Wide.FinOn
import Lean
import PyProof.EqAt
import PyProof.EqKinds
import PyProof.TupleCall
import PyProof.NeKinds
import PyProof.IsiTupleOf
import PyProof.IsiPairs
import PyProof.IsiHeapPairs
import PyProof.ConsumeWalk
import PyProof.EnumFor
import PyProof.EnumMake
import PyProof.AutoSeq1
import KE.KDictOf
import KE.KMinBuiltin
import KE.KRevIter
import PyProof.AutoListH
import PyProof.CollectWalk
import PyProof.FactsAll.list_3
import PyProof.IsiH_list
import PyProof.ListRange
import PyProof.MeetsDict
import PyProof.MinMaxWalk
import PyProof.RaisesAny
import PyProof.Rows.CallKwBuiltin
import PyProof.RulesTry
import PyProof.SetKind
import PyProof.SetRoads
import PyProof.SumWalkG
import PySem.SetTable
import PyProof.FactsAll.list_2
import PySem.Challenge.RW_moonseat_k18_whole_mending_and_prices
noncomputable section
set_option tactic.hygienic false
set_option bootstrap.genMatcherCode false
set_option genSizeOf false
set_option linter.all false
set_option Elab.async false
set_option maxRecDepth 100000
set_option maxHeartbeats 4000000
set_option compiler.extract_closed false
section
open PySem PySem.Spec PyProof.Rows
abbrev Tq:=List (Addr×Obj)
abbrev Tz:=Value->Shared->Prop
abbrev Tx:=Str->Option Value
abbrev Tj:=List (Str×Nat)
def wAa:=@wpAny_bind
def wBa:=@wpAny_pure
def wCa:=@wpAny_mono
def wDa:=@wpAny_holding
def wEa:=@wpAny_of_eq
def wFa:=@wpAny_letGo
def wIa:=@Heap.get?_push_of_some
def wJa:=@Heap.get?_push_size
def wKa:=@Heap.get?_update_other
def wLa:=@Heap.lt_size
def wMa:=@List.mem_cons_of_mem
def wNa:=@List.mem_cons_self
def wPa:=@Nat.le_refl
def wQa:=@Nat.le_of_lt
def wRa:=@Nat.lt_of_le_of_lt
def wSa:=@Nat.le_trans
def wTa:=@Nat.ne_of_lt
def wUa:=@Nat.lt_irrefl
def wYa:=@List.mem_of_getElem?
def vBa:=@decide_eq_false
def vCa:=@of_decide_eq_true
def vDa:=@absurd
def vEa:=@Int.le_refl
def vFa:=@Option.some.inj
def vIa:=@List.mem_append_left
def vJa:=@List.mem_append_right
def vKa:=@Nat.le_add_right
def vLa:=@eq_of_beq
def vMa:=@Nat.le_succ
def vNa:=@Bool.false_ne_true
def vOa:=@wpAny_standAt
def vPa:=@wpAny_tryCatch
def vQa:=@wpAny_rule
def vRa:=@plainId_quiet
def vSa:=@codeAny_builtin
def vTa:=@wpAny_newObj_type
def vUa:=@Heap.get?_update_self
def vWa:=@List.map_cons
def vXa:=@List.length_cons
def vYa:=@List.length_map
def vZa:=@List.length_append
def uAa:=@List.getElem?_map
def uBa:=@List.getD_eq_getElem?_getD
def uCa:=@List.getElem?_eq_getElem
def uDa:=@List.map_append
def uEa:=@Option.bind_some
def uFa:=@List.append_nil
def uIa:=@List.length_singleton
def uJa:=@List.map_nil
def uLa:=@List.size_toArray
def uMa:=@Nat.pow_succ
def uNa:=@List.length_drop
def uOa:=@List.length_take
def uPa:=@Heap.size_push
def uQa:=@List.nil_append
def uRa:=@List.getElem?_append_left
def uSa{α:Type _}{l:List α}{i:Nat}{a:α}(h:l[i]?=some a):∃h:i<l.length,l[i]=a:=List.getElem?_eq_some_iff.mp h
def uTa{α:Type _}{a b:α}{l:List α}(h:a∈b::l):a=b∨a∈l:=List.mem_cons.mp h
def uUa{α:Type _}{p:α->Bool}{a:α}{l:List α}(h:a∈l.filter p):a∈l/\p a=true:=List.mem_filter.mp h
def uVa{α β:Type _}{f:α->β}{b:β}{l:List α}(h:b∈l.map f):∃a,a∈l/\f a=b:=List.mem_map.mp h
def uWa{α:Type _}{a:α}{s t:List α}(h:a∈s++t):a∈s∨a∈t:=List.mem_append.mp h
abbrev uXa:=PySem.W.Frag
namespace ST
noncomputable def F:Nat->Nat->Nat
 | 0,i=>i
 | n+1,i=>F n (5 * i+1)
theorem F_add:∀(n m i:Nat),F (n+m) i=F m (F n i)
 | 0,m,i=>by rw[Nat.zero_add,F]
 | n+1,m,i=>by rw[show n+1+m=(n+m)+1 by lia,F,F_add n m,F]
theorem F_pow:∀k:Nat,∃e:Nat,∀i,F (2 ^ k) i=i+2 ^ k * ((2 * e+1) * (4 * i+1))
 | 0=>⟨0,fun i=>by show 5 * i+1=_;lia⟩
 | k+1=>by
  obtain⟨e,h⟩:=F_pow k;refine⟨e+2 ^ k * (2 * e+1) * (2 * e+1),fun i=>?_⟩;rw[show 2 ^ (k+1)=2 ^ k+2 ^ k by rw[uMa];lia,F_add,h,h];generalize 2 ^ k=p
  grind
theorem cover:∀(k i t:Nat),∃n,n < 2 ^ k/\∃a b,F n i+2 ^ k * a=t+2 ^ k * b
 | 0,i,t=>⟨0,by decide,t,i,by show i+1 * t=t+1 * i;lia⟩
 | k+1,i,t=>by
  obtain⟨n,hn,a,b,e⟩:=cover k i t;obtain⟨d,hd⟩:=F_pow k;have p2:2 ^ (k+1)=2 * 2 ^ k:=by rw[uMa];lia
  have fin:∀(x a b:Nat),x+2 ^ k * a=t+2 ^ k * b->a % 2=b % 2->∃a' b',x+2 ^ (k+1) * a'=t+2 ^ (k+1) * b':=fun x a b h hp=>by
   rw[p2];refine⟨a / 2,b / 2,?_⟩;have ea:a=2 * (a / 2)+a % 2:=by lia
   have eb:b=2 * (b / 2)+a % 2:=by lia
   rw[ea,eb]at h;generalize a / 2=u at *;generalize b / 2=v at *;generalize a % 2=w at *
   grind
  by_cases hp:a % 2=b % 2
  ·exact⟨n,by lia,fin _ a b e hp⟩
  ·refine⟨n+2 ^ k,by lia,?_⟩;rw[F_add,hd];refine fin _ a (b+(2 * d+1) * (4 * F n i+1)) ?_ ?_
   ·generalize F n i=y at *;generalize (2 * d+1) * (4 * y+1)=z
    grind
   ·have:((2 * d+1) * (4 * F n i+1)) % 2=1:=by rw[Nat.mul_mod,show(2 * d+1) % 2=1 by lia,show(4 * F n i+1) % 2=1 by lia]
    lia
theorem F_mod:∀(n i:Nat),F n (i % m) % m=F n i % m
 | 0,i=>by rw[F,F,Nat.mod_mod]
 | n+1,i=>by
  rw[F,F,<-F_mod n (5 * (i % m)+1),<-F_mod n (5 * i+1)];congr 2;rw[Nat.add_mod,Nat.mul_mod,Nat.mod_mod,<-Nat.mul_mod,<-Nat.add_mod]
def meets(k i:Nat)(ht:t < 2 ^ k):∃n,n < 2 ^ k/\F n i % 2 ^ k=t:=by
 obtain⟨n,hn,a,b,e⟩:=cover k i t;refine⟨n,hn,?_⟩;have:=congrArg (· % 2 ^ k) e;simp only[Nat.add_mul_mod_self_left]at this;rw[this,Nat.mod_eq_of_lt ht]
end ST
namespace ST
open PySem.SetTable
noncomputable def advN(t:SetTable):Nat->Probe->Probe
 | 0,p=>p
 | n+1,p=>advN t n (t.advance p)
theorem advN_add(t:SetTable):∀(n m:Nat) (p:Probe),advN t (n+m) p=advN t m (advN t n p)
 | 0,m,p=>by rw[Nat.zero_add,advN]
 | n+1,m,p=>by rw[show n+1+m=(n+m)+1 by lia,advN,advN_add t n m,advN]
noncomputable def nextRun(t:SetTable)(p:Probe):Probe:={ p with j:=(leap t.mask p.i p.perturb).1,more:=runEnd t.mask (leap t.mask p.i p.perturb).1 - (leap t.mask p.i p.perturb).1,i:=(leap t.mask p.i p.perturb).1,perturb:=(leap t.mask p.i p.perturb).2 }
theorem adv_run(t:SetTable):∀(m:Nat) (p:Probe),p.more=m->advN t (m+1) p=nextRun t p
 | 0,p,h=>by
  rw[advN,advN,advance,if_neg (by lia)];rfl
 | m+1,p,h=>by
  rw[advN,adv_run t m _ (by rw[advance,if_pos (by lia)];show p.more - 1=m;lia),advance,if_pos (by lia)];rfl
def runN(t:SetTable):Nat->Probe->Probe
 | 0,p=>p
 | n+1,p=>runN t n (nextRun t p)
def run_le(mask i:Nat):runEnd mask i - i<=9:=by unfold runEnd;split <;> lia
theorem adv_runs(t:SetTable):∀(n:Nat) (p:Probe),p.more<=9->∃m,m<=10 * n/\advN t m p=runN t n p
 | 0,p,_=>⟨0,by lia,rfl⟩
 | n+1,p,h=>by
  obtain⟨m,hm,e⟩:=adv_runs t n (nextRun t p) (run_le _ _);exact⟨p.more+1+m,by lia,by rw[advN_add,adv_run t _ p rfl,e,runN]⟩
theorem runN_add(t:SetTable):∀(n m:Nat) (p:Probe),runN t (n+m) p=runN t m (runN t n p)
 | 0,m,p=>by rw[Nat.zero_add,runN]
 | n+1,m,p=>by rw[show n+1+m=(n+m)+1 by lia,runN,runN_add t n m,runN]
theorem run_pert(t:SetTable):∀(n:Nat) (p:Probe),(runN t n p).perturb=p.perturb / 32 ^ n
 | 0,p=>by simp[runN]
 | n+1,p=>by
  rw[runN,run_pert t n];show p.perturb / 32 / 32 ^ n=_;rw[Nat.div_div_eq_div_mul,uMa,Nat.mul_comm]
theorem run_zero(t:SetTable):∀(n:Nat) (p:Probe),p.perturb=0->(runN t n p).i % (t.mask+1)=F n p.i % (t.mask+1)
 | 0,p,_=>rfl
 | n+1,p,h=>by
  rw[runN,run_zero t n (nextRun t p) (by show p.perturb / 32=0;rw[h]),F];show F n ((p.i * 5+1+p.perturb / 32) % (t.mask+1)) % (t.mask+1)=_;rw[h,F_mod,show p.i * 5+1+0 / 32=5 * p.i+1 by lia]
theorem run_j(t:SetTable):∀(n:Nat) (p:Probe),0 < n->(runN t n p).j=(runN t n p).i/\(runN t n p).i < t.mask+1
 | n+1,p,_=>by
  rw[runN];by_cases h:0 < n
  ·exact run_j t n _ h
  ·have e:n=0:=by lia
   subst e;exact⟨rfl,Nat.mod_lt _ (by lia)⟩
def pert0(t:SetTable)(h:Int):(runN t 13 (t.probeStart h)).perturb=0:=by
 rw[run_pert];have hb:bits h < 2 ^ 64:=by
  unfold bits;have:=Int.emod_lt_of_pos h (show(0:Int) < 2 ^ 64 by decide)
  lia
 exact Nat.div_eq_of_lt (Nat.lt_of_lt_of_le hb (by decide))
def run_at(t:SetTable)(hm:t.mask+1=2 ^ k)(h:Int)(n:Nat):(runN t (13+n) (t.probeStart h)).i=F n (runN t 13 (t.probeStart h)).i % 2 ^ k:=by
 have z:=run_zero t n _ (pert0 t h);rw[<-runN_add,Nat.mod_eq_of_lt (run_j t (13+n) (t.probeStart h) (by lia)).2,hm]at z;exact z
theorem F_per(h:F d x % m=x % m):∀(q n:Nat),F (d * q+n) x % m=F n x % m
 | 0,n=>by rw[Nat.mul_zero,Nat.zero_add]
 | q+1,n=>by
  rw[show d * (q+1)+n=d+(d * q+n) by rw[Nat.mul_add];lia,F_add,<-F_mod,h,F_mod,F_per h q n]
def F_inj(hb:b < 2 ^ k)(hab:a < b):F a i % 2 ^ k≠F b i % 2 ^ k:=by
 intro e;have h:F (b - a) (F a i) % 2 ^ k=F a i % 2 ^ k:=by rw[<-F_add,show a+(b - a)=b by lia,e]
 have sub:List.range (2 ^ k)⊆(List.range (b - a)).map fun n=>F n (F a i) % 2 ^ k:=fun t ht=>by
  obtain⟨n,hn,en⟩:=meets k (F a i) (List.mem_range.mp ht);refine List.mem_map.mpr ⟨n % (b - a),List.mem_range.mpr (Nat.mod_lt _ (by lia)),?_⟩;have:=F_per h (n / (b - a)) (n % (b - a));rw[Nat.div_add_mod]at this;rw[<-this,en]
 have:=(List.nodup_range).length_le_of_subset sub;simp at this
 lia
structure SI (t:SetTable) (n:Nat):Prop where
 pw:∃k,t.mask+1=2 ^ k
 du:t.dummies=#[]
 sz:t.place.size=n
 room:n * 5 < t.mask * 3
def slot_or{t:SetTable}(hd:t.dummies=#[])(j:Nat):(∃i:Nat,t.place[i]?=some j/\t.slot j=.live i) \/ t.slot j=.empty:=by
 unfold slot;dsimp only;by_cases c:t.place[below t.place j]?=some j
 ·rw[if_pos (by simpa using c)];exact .inl ⟨_,c,rfl⟩
 ·rw[if_neg (by simpa using c),hd];exact .inr rfl
def pj(t:SetTable)(h:Int)(n:Nat):Nat:=(advN t n (t.probeStart h)).j
def first(I:SI t n)(h:Int):∃N,N<=10 * (n+13)/\t.slot (pj t h N)=.empty:=by
 refine Classical.byContradiction fun hn=>?_;obtain⟨k,hk⟩:=I.pw;have sub:((List.range (n+1)).map fun j=>F j (runN t 13 (t.probeStart h)).i % 2 ^ k)⊆t.place.toList:=fun v hv=>by
  obtain⟨j,hj,rfl⟩:=uVa hv;have hj:=List.mem_range.mp hj;obtain⟨m,hm,em⟩:=adv_runs t (13+j) (t.probeStart h) (run_le _ _);have e:pj t h m=F j (runN t 13 (t.probeStart h)).i % 2 ^ k:=by
   unfold pj;rw[em,(run_j t (13+j) (t.probeStart h) (by lia)).1,run_at t hk]
  rw[<-e];rcases slot_or I.du (pj t h m)with⟨i',e,_⟩ | e
  ·exact wYa (i:=i') (by simpa using e)
  ·exact(hn ⟨m,by lia,e⟩).elim
 have rm:=I.room;have nd:((List.range (n+1)).map fun j=>F j (runN t 13 (t.probeStart h)).i % 2 ^ k).Nodup:=by
  refine List.pairwise_map.mpr (List.Pairwise.imp_of_mem (fun {a b} _ hb hab=>?_) List.pairwise_lt_range);exact F_inj (by have:=List.mem_range.mp hb;lia) hab
 have:=nd.length_le_of_subset sub;simp[I.sz]at this
 lia
def adv_dummy(t:SetTable)(p:Probe):(t.advance p).dummy=p.dummy:=by
 unfold advance;split <;> rfl
theorem advN_dummy(t:SetTable):∀(n:Nat) (p:Probe),(advN t n p).dummy=p.dummy
 | 0,p=>rfl
 | n+1,p=>by rw[advN,advN_dummy t n,adv_dummy]
def advN_succ(t:SetTable)(n:Nat)(p:Probe):advN t (n+1) p=t.advance (advN t n p):=by rw[advN_add];rfl
theorem go_ok{t:SetTable}(hd:t.dummies=#[])(em:t.slot (pj t h N)=.empty):∀(f c:Nat),c<=N->N - c < f->
  (∃m i,c<=m/\m < N/\i < t.place.size/\t.slot (pj t h m)=.live i/\probe.go t hashAt h f (advN t c (t.probeStart h))=some (.candidate (pj t h m) i (advN t (m+1) (t.probeStart h)))) \/
  ∃j,probe.go t hashAt h f (advN t c (t.probeStart h))=some (.empty j none)
 | f+1,c,hc,hf=>by
  rw[probe.go];rcases slot_or hd (pj t h c)with⟨i,e,hi⟩ | hi
  ·have ne:c≠N:=fun z=>by subst z;rw[em]at hi;cases hi
   have hi':=hi;unfold pj at hi';rw[hi'];dsimp only;by_cases q:hashAt i=h
   ·refine .inl ⟨c,i,wPa _,by lia,(Array.getElem?_eq_some_iff.mp e).1,hi,?_⟩;rw[if_pos (by simpa using q),advN_succ];rfl
   ·rw[if_neg (by simpa using q),<-advN_succ];rcases go_ok hd em f (c+1) (by lia) (by lia)with⟨m,i2,q1,q2⟩ | q2
    ·exact .inl ⟨m,i2,by lia,q2⟩
    ·exact .inr q2
  ·unfold pj at hi;rw[hi];dsimp only;rw[advN_dummy];exact .inr ⟨_,rfl⟩
theorem free_ok(t:SetTable)(owner:Array (Option Nat)):∀(fuel:Nat) (p:Probe),(∃r,r < fuel/\(owner.getD (runN t r p).i (some 0)).isNone=true)->∃j,layClean.free t.mask owner fuel p.i p.perturb=some j/\(owner.getD j (some 0)).isNone=true
 | 0,p,h=>by obtain⟨r,hr,_⟩:=h;lia
 | fuel+1,p,h=>by
  rw[layClean.free];cases hf:(List.range (runEnd t.mask p.i+1 - p.i)).find? fun k=>(owner.getD (p.i+k) (some 0)).isNone with
  | some k=>exact⟨_,rfl,(List.find?_some hf :)⟩
  | none=>
   obtain⟨r,hr,hz⟩:=h;cases r with
   | zero=>
    have ge:p.i<=runEnd t.mask p.i:=by unfold runEnd;split <;> lia
    have:=List.find?_eq_none.mp hf 0 (List.mem_range.mpr (by lia));have hz:(owner.getD p.i (some 0)).isNone=true:=hz;exact vDa hz (by simpa using this)
   | succ r=>exact free_ok t owner fuel (nextRun t p) ⟨r,by lia,hz⟩
noncomputable def stepL(mask:Nat)(acc:Option (Array (Option Nat)×Nat))(h:Int):Option (Array (Option Nat)×Nat):=do
 let (owner,k)<-acc
 let j<-layClean.free mask owner (turns mask) (bits h % (mask+1)) (bits h)
 pure (owner.setIfInBounds j (some k),k+1)
theorem gap:∀L:List (Option Nat),(L.filterMap id).length < L.length->∃s:Nat,L[s]?=some none
 | none::L,_=>⟨0,rfl⟩
 | some q::L,h=>by
  obtain⟨s,e⟩:=gap L (by simpa using h);exact⟨s+1,e⟩
structure LI (m:Nat) (owner:Array (Option Nat)) (n:Nat):Prop where
 sz:owner.size=m+1
 ln:(owner.toList.filterMap id).length=n
 lt:∀q∈owner.toList.filterMap id,q < n
theorem li_all(t:SetTable)(hm:t.mask+1=2 ^ k):∀(r:List Int) (n:Nat) (owner:Array (Option Nat)),LI t.mask owner n->n+r.length<=t.mask+1->∃owner',r.foldl (stepL t.mask) (some (owner,n))=some (owner',n+r.length)/\LI t.mask owner' (n+r.length)
 | [],n,owner,I,_=>⟨owner,rfl,I⟩
 | h::r,n,owner,I,hl=>by
  rw[vXa]at hl;obtain⟨s,hs⟩:=gap owner.toList (by rw[I.ln,Array.length_toList,I.sz];lia);have h2:s < owner.size:=by simpa using (uSa hs).1
  obtain⟨v,hv,e⟩:=meets k (runN t 13 (t.probeStart h)).i (t:=s) (by rw[<-hm,<-I.sz];exact h2);obtain⟨j,ej,q2⟩:=free_ok t owner (turns t.mask) (t.probeStart h) ⟨13+v,by unfold turns;lia,by
   rw[run_at t hm,e,Array.getD_eq_getD_getElem?,<-Array.getElem?_toList,hs];rfl⟩
  have ej:layClean.free t.mask owner (turns t.mask) (bits h % (t.mask+1)) (bits h)=some j:=ej;rw[Array.getD_eq_getD_getElem?,<-Array.getElem?_toList]at q2;have hn:owner.toList[j]?=some none:=by
   cases ho:owner.toList[j]? with
   | none=>rw[ho]at q2;cases q2
   | some x=>
    rw[ho]at q2;cases x with
    | none=>rfl
    | some x=>cases q2
  obtain⟨hj,en⟩:=uSa hn;have d1:=List.take_append_drop j owner.toList;rw[List.drop_eq_getElem_cons hj,en]at d1;have d2:(owner.setIfInBounds j (some n)).toList=owner.toList.take j++some n::owner.toList.drop (j+1):=by
   rw[Array.toList_setIfInBounds,List.set_eq_take_append_cons_drop,if_pos hj]
  have i1:=I.ln;have i2:=I.lt;rw[<-d1]at i1 i2;have I1:LI t.mask (owner.setIfInBounds j (some n)) (n+1):=by
   refine⟨by simp[I.sz],?_,?_⟩
   ·rw[d2];simp at i1⊢
    lia
   ·rw[d2];intro q hq;simp only[List.filterMap_append,List.filterMap_cons,id,List.mem_append,List.mem_cons]at hq i2;rcases hq with y | y | y
    ·have:=i2 q (.inl y);lia
    ·lia
    ·have:=i2 q (.inr y);lia
  obtain⟨o2,e2,I2⟩:=li_all t hm r (n+1) _ I1 (by lia);rw[vXa,<-Nat.add_assoc,Nat.add_right_comm];exact⟨o2,by rw[List.foldl_cons,<-e2,stepL];simp[ej],I2⟩
theorem snd_live(f:Nat->Option Nat):∀l:List Nat,(l.filterMap fun j=>(f j).map (j,·)).map (·.2)=(l.map f).filterMap id
 | []=>rfl
 | j::l=>by
  rw[List.filterMap_cons,vWa,List.filterMap_cons];cases hf:f j with
  | none=>simpa[hf]using snd_live f l
  | some q=>simpa[hf]using snd_live f l
def laid_ok{mask:Nat}(hm:mask+1=2 ^ k)(hs:Array Int)(hl:hs.size<=mask)(finger moves:Nat)(led plain:Bool):∃t' order,laid mask finger moves led plain hs=some (t',order)/\t'.mask=mask/\t'.dummies=#[]/\t'.place.size=hs.size/\order.size=hs.size/\∀q∈order.toList,q < hs.size:=by
 obtain⟨owner,e,I⟩:=li_all { fresh 0 0 false with mask:=mask } hm hs.toList 0 (Array.replicate (mask+1) none) ⟨by simp,by simp[List.filterMap_replicate],by simp[List.filterMap_replicate]⟩ (by simp;lia);have e:hs.toList.foldl (stepL mask) (some (Array.replicate (mask+1) none,0))=some (owner,0+hs.toList.length):=e;have el:layClean mask hs=some owner:=by
  unfold layClean;rw[<-Array.foldl_toList];show(hs.toList.foldl (stepL mask) (some (Array.replicate (mask+1) none,0))).map (·.1)=_;rw[e];rfl
 have sz:owner.size=mask+1:=I.sz;have sn:=snd_live (fun j=>owner.getD j none) (List.range (mask+1));have eo:(List.range (mask+1)).map (fun j=>owner.getD j none)=owner.toList:=by
  refine List.ext_getElem (by simp[sz]) fun i h1 h2=>?_;simp at h2;simp[h2]
 rw[eo]at sn;have i1:=I.ln;have i2:=I.lt;rw[<-sn]at i1 i2;simp only[Nat.zero_add,Array.length_toList]at i1 i2;refine⟨_,_,by unfold laid;rw[el];rfl,rfl,rfl,?_,?_,i2⟩
 ·simpa using i1
 ·simpa using i1
theorem above_go(n:Nat):∀(fuel k:Nat),n < 2 ^ (k+fuel)->∃m,sizeAbove.go n fuel (2 ^ k)=2 ^ m/\n < 2 ^ m/\k<=m/\(2 ^ m<=2 * n \/ m=k)
 | 0,k,h=>⟨k,rfl,by simpa using h,wPa _,.inr rfl⟩
 | fuel+1,k,h=>by
  rw[sizeAbove.go];by_cases c:2 ^ k<=n
  ·rw[if_pos c,show 2 ^ k * 2=2 ^ (k+1) by rw[uMa]];obtain⟨m,h1,h2,h3,h4⟩:=above_go n fuel (k+1) (by rw[show k+1+fuel=k+(fuel+1) by lia];exact h);refine⟨m,h1,h2,by lia,.inl ?_⟩;rcases h4 with h4 | rfl
   ·exact h4
   ·rw[uMa]
    lia
  ·rw[if_neg c];exact⟨k,rfl,by lia,wPa _,.inr rfl⟩
def relaid_ok{t:SetTable}{hs:Array Int}(hl:hs.size < 2 ^ 16)(h0:0 < hs.size):∃t' order,t.relaid hs (grown hs.size)=some (t',order)/\sizeAbove (grown hs.size)<=2 ^ 24/\order.size=hs.size/\(∀q∈order.toList,q < hs.size)/\SI t' hs.size:=by
 have g:2 * hs.size<=grown hs.size/\grown hs.size<=4 * hs.size:=by
  unfold grown;split <;> lia
 obtain⟨m,a1,a2,a3,a4⟩:=above_go (grown hs.size) 64 3 (by lia);have a1:sizeAbove (grown hs.size)=2 ^ m:=a1;have a5:2 ^ 3<=2 ^ m:=Nat.pow_le_pow_right (by decide) a3;have hm:sizeAbove (grown hs.size) - 1+1=2 ^ m:=by rw[a1];lia
 obtain⟨t',order,e1,e2,e3,e4,e5,e6⟩:=laid_ok (mask:=sizeAbove (grown hs.size) - 1) hm hs (by lia) t.finger (t.movedTo (sizeAbove (grown hs.size) - 1)) t.led t.plain
 refine⟨t',order,e1,?_,e5,e6,⟨m,by rw[e2,hm]⟩,e3,e4,?_⟩
 ·rw[a1];rcases a4 with a4 | a4
  ·exact wSa a4 (by lia)
  ·rw[a4];decide
 ·lia
end ST
namespace L2
inductive KD where
 | i (n:Int) | s (x:Str) | t (l:List KD)
noncomputable instance:DecidableEq KD:=fun _ _=>Classical.propDecidable _
mutual
noncomputable def jA(h:Heap):KD->Value->Prop
 | .i n,v=>(∃t,v=.int n t) \/∃b:Bool,v=.bool b/\n=(if b then 1 else 0)
 | .s x,v=>∃t,v=.str x t
 | .t l,v=>∃a its,v=.ref a/\h.IsTuple a its/\J4 h l its.toList
noncomputable def J4(h:Heap):List KD->List Value->Prop
 | [],vs=>vs=[]
 | k::ks,vs=>∃v r,vs=v::r/\jA h k v/\J4 h ks r
end
mutual
noncomputable def KD.dep:KD->Nat
 | .i _=>0
 | .s _=>0
 | .t l=>yq l+1
noncomputable def yq:List KD->Nat
 | []=>0
 | k::ks=>max k.dep (yq ks)
end
mutual
noncomputable def KD.drw:KD->Nat
 | .i _=>1
 | .s _=>1
 | .t l=>kN l+1
noncomputable def kN:List KD->Nat
 | []=>0
 | k::ks=>k.drw+kN ks
end
mutual
noncomputable def gU(w:World):KD->Int
 | .i n=>hashInt n
 | .s x=>hashStr w x
 | .t l=>reduceHash (Builtin.Tuple.tupleHashOf (Uz w l))
noncomputable def Uz(w:World):List KD->List Int
 | []=>[]
 | k::ks=>gU w k::Uz w ks
end
mutual
theorem jA.inj{h:Heap}:∀{x y:KD} {v:Value},jA h x v->jA h y v->x=y
 | .i n,.i m,v,p,q=>by
  rw[jA]at p;rw[jA]at q;rcases p with⟨t,rfl⟩ | ⟨b,rfl,rfl⟩
  ·rcases q with⟨t,e⟩ | ⟨b,e,_⟩ <;> cases e
   rfl
  ·rcases q with⟨t,e⟩ | ⟨b,e,rfl⟩ <;> cases e
   rfl
 | .s n,.s m,v,p,q=>by
  rw[jA]at p;rw[jA]at q;obtain⟨t,rfl⟩:=p;obtain⟨t,e⟩:=q;cases e;rfl
 | .t n,.t m,v,p,q=>by
  rw[jA]at p;rw[jA]at q;obtain⟨a,its,rfl,o1,p⟩:=p;obtain⟨a',its',e,o2,q⟩:=q;cases e;obtain⟨o,g,_,_,d⟩:=o1;obtain⟨o',g',_,_,d'⟩:=o2;rw[g]at g';cases g';rw[d]at d';cases d';rw[J4.inj p q]
 | .i n,.s m,v,p,q=>by
  rw[jA]at p;rw[jA]at q;obtain⟨t,rfl⟩:=q;rcases p with⟨t,e⟩ | ⟨b,e,_⟩ <;> cases e
 | .i n,.t m,v,p,q=>by
  rw[jA]at p;rw[jA]at q;obtain⟨_,_,rfl,_⟩:=q;rcases p with⟨t,e⟩ | ⟨b,e,_⟩ <;> cases e
 | .s n,.i m,v,p,q=>by
  rw[jA]at p;rw[jA]at q;obtain⟨t,rfl⟩:=p;rcases q with⟨t,e⟩ | ⟨b,e,_⟩ <;> cases e
 | .s n,.t m,v,p,q=>by
  rw[jA]at p;rw[jA]at q;obtain⟨t,rfl⟩:=p;obtain⟨_,_,e,_⟩:=q;cases e
 | .t n,.i m,v,p,q=>by
  rw[jA]at p;rw[jA]at q;obtain⟨_,_,rfl,_⟩:=p;rcases q with⟨t,e⟩ | ⟨b,e,_⟩ <;> cases e
 | .t n,.s m,v,p,q=>by
  rw[jA]at p;rw[jA]at q;obtain⟨_,_,rfl,_⟩:=p;obtain⟨t,e⟩:=q;cases e
theorem J4.inj{h:Heap}:∀{x y:List KD} {v:List Value},J4 h x v->J4 h y v->x=y
 | [],[],_,_,_=>rfl
 | [],_::_,_,p,q=>by
  rw[J4]at p;rw[J4]at q;subst p;obtain⟨_,_,e,_⟩:=q;cases e
 | _::_,[],_,p,q=>by
  rw[J4]at p;rw[J4]at q;subst q;obtain⟨_,_,e,_⟩:=p;cases e
 | x::xs,y::ys,_,p,q=>by
  rw[J4]at p;rw[J4]at q;obtain⟨v,r,rfl,p1,p2⟩:=p;obtain⟨v',r',e,q1,q2⟩:=q;cases e;rw[jA.inj p1 q1,J4.inj p2 q2]
end
mutual
theorem jA.keep{h h':Heap}(m:∀a its,h.IsTuple a its->h'.IsTuple a its):∀{k:KD} {v:Value},jA h k v->jA h' k v
 | .i _,_,p=>by rw[jA]at p⊢;exact p
 | .s _,_,p=>by rw[jA]at p⊢;exact p
 | .t l,_,p=>by
  rw[jA]at p⊢;obtain⟨a,its,rfl,o,p⟩:=p;exact⟨a,its,rfl,m a its o,J4.keep m p⟩
theorem J4.keep{h h':Heap}(m:∀a its,h.IsTuple a its->h'.IsTuple a its):∀{k:List KD} {v:List Value},J4 h k v->J4 h' k v
 | [],_,p=>by rw[J4]at p⊢;exact p
 | k::ks,_,p=>by
  rw[J4]at p⊢;obtain⟨v,r,rfl,p1,p2⟩:=p;exact⟨v,r,rfl,jA.keep m p1,J4.keep m p2⟩
end
def xW(hu:A.units < cLine)(h:Q (hashInt (if b then 1 else 0)) { s with toks:=s.toks+1 }):wpAny (model prog w) A (pyHash (.bool b)) Q E s:=by
 refine PySem.W.pyHash_slot (v:=.bool b) (T := "bool") rfl F.slot_bool_hash entry_int_hash (args_int_hash _) (beq_builtin_none _) (.inr hu) ?_;cases b
 ·exact(show wpAny _ _ (do ret (<-mkInt 0)) _ _ s from wAa (wpAny_mkInt (wBa ⟨_,_,rfl,by
    have e:reduceHash 0=hashInt 0:=by decide
    rw[e];exact h⟩)))
 ·exact(show wpAny _ _ (do ret (<-mkInt 1)) _ _ s from wAa (wpAny_mkInt (wBa ⟨_,_,rfl,by
    have e:reduceHash 1=hashInt 1:=by decide
    rw[e];exact h⟩)))
mutual
theorem Kt:∀(k:KD) (v:Value) (A:Around) (s:Shared) (Q:Int->Shared->Prop),jA s.heap k v->A.units+k.dep < cLine->Q (gU w k) { s with toks:=s.toks+k.drw }->wpAny (model prog w) A (pyHash v) Q E s
 | .i n,v,A,s,Q,p,hu,h=>by
  rw[jA]at p;rw[gU,KD.drw]at h;rcases p with⟨t,rfl⟩ | ⟨b,rfl,rfl⟩
  ·exact wpAny_pyHash_int h
  ·exact xW (by rw[KD.dep]at hu;exact hu) h
 | .s x,v,A,s,Q,p,hu,h=>by
  rw[jA]at p;rw[gU,KD.drw]at h;obtain⟨t,rfl⟩:=p;exact wpAny_pyHash_str h
 | .t l,v,A,s,Q,p,hu,h=>by
  rw[jA]at p;rw[gU,KD.drw]at h;rw[KD.dep]at hu;obtain⟨a,its,rfl,o,p⟩:=p;obtain⟨ob,g,c,n,dt⟩:=o;refine PySem.W.pyHash_slot (v:=.ref a) (T := "tuple") ⟨_,g,c⟩ F.slot_tuple_hash F.entry_tuple_hash (F.args_tuple_hash_1 _) (beq_builtin_none _) (.inr (by lia)) ?_;refine(show wpAny _ _ (Builtin.Tuple.tupleItemsOf (.ref a) >>= _) _ _ s from wAa (wpAny_tupleItemsOf g dt (wAa ?_)));rw[<-Array.forIn_toList];refine Wd l its.toList A.in1 s #[] _ p (by rw[Around.in1_units];lia) fun b' hb=>?_;show wpAny _ _ (retInt (Builtin.Tuple.tupleHashOf b'.toList)) _ _ _;rw[hb];exact wAa (wpAny_mkInt (wBa ⟨_,_,rfl,by simpa[Nat.add_assoc]using h⟩))
theorem Wd:∀(ks:List KD) (vs:List Value) (A:Around) (s:Shared) (b:Array Int) (Q:Array Int->Shared->Prop),J4 s.heap ks vs->A.units+yq ks < cLine->(∀b':Array Int,b'.toList=b.toList++Uz w ks->Q b' { s with toks:=s.toks+kN ks })->
  wpAny (model prog w) A (forIn vs b fun x r=>do let h<-pyHash x;pure (ForInStep.yield (r.push h))) Q E s
 | [],vs,A,s,b,Q,p,hu,h=>by
  rw[J4]at p;subst p;rw[List.forIn_nil];exact wBa (by simpa[kN,Uz]using h b)
 | k::ks,vs,A,s,b,Q,p,hu,h=>by
  rw[J4]at p;rw[yq]at hu;obtain⟨v,r,rfl,p1,p2⟩:=p;rw[List.forIn_cons];refine wAa (wAa (Kt k v A s _ p1 (by lia) (wBa ?_)));refine Wd ks r A _ _ Q p2 (by lia) fun b' hb=>?_;have:=h b' (by rw[hb,Uz];simp);rw[kN]at this;simpa[Nat.add_assoc]using this
end
section
open SeqAt
variable {s:Shared}
def VV{α:Type}[DecidableEq α]{a b:α}{c:Bool}(h:c=true↔a=b):decide (a=b)=c:=by
 cases c with
 | true=>exact decide_eq_true (h.mp rfl)
 | false=>exact vBa fun z=>by have:=h.mpr z;cases this
theorem J4.len:∀{ks:List KD} {vs:List Value},J4 h ks vs->vs.length=ks.length
 | [],_,p=>by rw[J4]at p;subst p;rfl
 | k::ks,_,p=>by
  rw[J4]at p;obtain⟨v,r,rfl,_,p2⟩:=p;simp[p2.len]
theorem J4.get:∀{ks:List KD} {vs:List Value} {j:Nat} {v:Value},J4 h ks vs->vs[j]?=some v->∃k,ks[j]?=some k/\jA h k v
 | [],_,_,_,p,e=>by rw[J4]at p;subst p;simp at e
 | k::ks,_,j,v',p,e=>by
  rw[J4]at p;obtain⟨v,r,rfl,p1,p2⟩:=p;cases j with
  | zero=>cases e;exact⟨k,rfl,p1⟩
  | succ j=>exact p2.get (j:=j) e
theorem wu:∀{ks:List KD} {k:KD},k∈ks->k.dep<=yq ks
 | [],_,h=>by cases h
 | x::xs,k,h=>by
  rw[yq];rcases uTa h with rfl | h
  ·lia
  ·have:=wu h
   lia
theorem bN:∀(n:Nat) (x y:KD) (u v:Value) (A:Around),x.dep<=n->jA s.heap x u->jA s.heap y v->A.units+n < cLine->EqAt A s u v (decide (x=y))
 | n,.i a,.i b,u,v,A,hn,p,q,hu=>by
  rw[jA]at p;rw[jA]at q;rcases p with⟨t,rfl⟩ | ⟨c,rfl,rfl⟩
  ·rcases q with⟨t',rfl⟩ | ⟨c',rfl,rfl⟩
   ·rw[VV (c:=(a==b)) (by simp)];exact .int_int a t b t'
   ·rw[VV (c:=(a==if c' then 1 else 0)) (by simp)];exact .int_bool a t c'
  ·rcases q with⟨t',rfl⟩ | ⟨c',rfl,rfl⟩
   ·rw[VV (c:=((if c then 1 else 0)==b)) (by simp)];exact .bool_int c b t'
   ·rw[VV (c:=(c==c')) (by cases c <;> cases c' <;> simp)];exact .bool_bool c c'
 | n,.s a,.s b,u,v,A,hn,p,q,hu=>by
  rw[jA]at p;rw[jA]at q;obtain⟨t,rfl⟩:=p;obtain⟨t',rfl⟩:=q;rw[VV (c:=(a==b)) (by simp)];exact .str_str a t b t'
 | n,.i a,.s b,u,v,A,hn,p,q,hu=>by
  rw[jA]at p;rw[jA]at q;obtain⟨t',rfl⟩:=q;rw[decide_eq_false (by intro z;cases z)];rcases p with⟨t,rfl⟩ | ⟨c,rfl,rfl⟩
  ·exact .int_str a t b t'
  ·exact .bool_str c b t'
 | n,.s a,.i b,u,v,A,hn,p,q,hu=>by
  rw[jA]at p;rw[jA]at q;obtain⟨t',rfl⟩:=p;rw[decide_eq_false (by intro z;cases z)];rcases q with⟨t,rfl⟩ | ⟨c,rfl,rfl⟩
  ·exact .str_int a t' b t
  ·exact .str_bool a t' c
 | n,.i a,.t b,u,v,A,hn,p,q,hu=>by
  rw[jA]at p;rw[jA]at q;obtain⟨e,its,rfl,o,_⟩:=q;rw[decide_eq_false (by intro z;cases z)];rcases p with⟨t,rfl⟩ | ⟨c,rfl,rfl⟩
  ·exact .int_tuple a t o (by lia)
  ·exact .bool_tuple c o (by lia)
 | n,.t a,.i b,u,v,A,hn,p,q,hu=>by
  rw[jA]at p;rw[jA]at q;obtain⟨e,its,rfl,o,_⟩:=p;rw[decide_eq_false (by intro z;cases z)];rcases q with⟨t,rfl⟩ | ⟨c,rfl,rfl⟩
  ·exact .tuple_int b t o (by lia)
  ·exact .tuple_bool c o (by lia)
 | n,.s a,.t b,u,v,A,hn,p,q,hu=>by
  rw[jA]at p;rw[jA]at q;obtain⟨e,its,rfl,o,_⟩:=q;obtain⟨t,rfl⟩:=p;rw[decide_eq_false (by intro z;cases z)];exact .str_tuple a t o (by lia)
 | n,.t a,.s b,u,v,A,hn,p,q,hu=>by
  rw[jA]at p;rw[jA]at q;obtain⟨e,its,rfl,o,_⟩:=p;obtain⟨t,rfl⟩:=q;rw[decide_eq_false (by intro z;cases z)];exact .tuple_str b t o (by lia)
 | 0,.t a,.t b,u,v,A,hn,p,q,hu=>by rw[KD.dep]at hn;lia
 | n+1,.t a,.t b,u,v,A,hn,p,q,hu=>by
  rw[KD.dep]at hn;rw[jA]at p;rw[jA]at q;obtain⟨l,its,rfl,o,p⟩:=p;obtain⟨l',its',rfl,o',q⟩:=q;by_cases hl:l=l'
  ·subst hl;obtain⟨z,g,_,_,d⟩:=o;obtain⟨z',g',_,_,d'⟩:=o';rw[g]at g';cases g';rw[d]at d';cases d';rw[J4.inj p q,decide_eq_true rfl];exact .same _
  ·have l1:=p.len;have l2:=q.len;have ev:=RcAt.tuples (A:=A) (e:=fun j=>decide (a[j]?=b[j]?)) o o' (by lia) fun j h1 h2=>by
    have g1:its.toList[j]?=some its[j]:=by simp[h1]
    have g2:its'.toList[j]?=some its'[j]:=by simp[h2]
    obtain⟨k1,e1,r1⟩:=p.get g1;obtain⟨k2,e2,r2⟩:=q.get g2;have:=bN n k1 k2 _ _ A.in1 (wSa (wu (wYa e1)) (by lia)) r1 r2 (by rw[Around.in1_units];lia);rw[e1,e2];have ee:decide (some k1=some k2)=decide (k1=k2):=by
     by_cases z:k1=k2
     ·rw[decide_eq_true z,decide_eq_true (by rw[z])]
     ·rw[decide_eq_false z,decide_eq_false (fun y=>z (Option.some.inj y))]
    rw[ee];exact this
   refine .of_refs hl ?_;rw[VV (c:=((List.range (min its.size its'.size)).all (fun j=>decide (a[j]?=b[j]?))&&its.size==its'.size))]
   ·exact ev
   ·rw[Bool.and_eq_true,beq_iff_eq,List.all_eq_true];have z1:its.size=a.length:=by rw[<-l1];simp
    have z2:its'.size=b.length:=by rw[<-l2];simp
    rw[z1,z2];constructor
    ·rintro⟨h1,h2⟩;congr 1;refine List.ext_getElem? fun j=>?_;by_cases hj:j < a.length
     ·exact vCa (h1 j (by simp;lia))
     ·rw[List.getElem?_eq_none (by lia),List.getElem?_eq_none (by lia)]
    ·intro h;cases h;exact⟨fun j _=>by simp,rfl⟩
end
theorem uz:∀(n:Nat) (k:KD) (v:Value) (A:Around) (Q:Bool->Shared->Prop),k.dep<=n->jA s.heap k v->Q true s->wpAny (model prog w) A (eqIsQuiet n v) Q E s
 | n,.i _,v,A,Q,_,p,h=>by
  rw[jA]at p;rcases p with⟨t,rfl⟩ | ⟨b,rfl,_⟩
  ·rw[eqIsQuiet_byValue n (v:=.int _ t) rfl];exact wBa h
  ·rw[eqIsQuiet_byValue n (v:=.bool b) rfl];exact wBa h
 | n,.s x,v,A,Q,_,p,h=>by
  rw[jA]at p;obtain⟨t,rfl⟩:=p;rw[eqIsQuiet_byValue n (v:=.str x t) rfl];exact wBa h
 | 0,.t l,v,A,Q,hn,p,h=>by rw[KD.dep]at hn;lia
 | n+1,.t l,v,A,Q,hn,p,h=>by
  rw[KD.dep]at hn;rw[jA]at p;obtain⟨a,its,rfl,o,p⟩:=p;obtain⟨ob,g,c,m,dt⟩:=o;have ty:s.TypeIs (.ref a) "tuple" := ⟨ob,g,c⟩
  unfold eqIsQuiet;refine wAa (wpAny_specialOf ty F.slot_tuple_eq.lookup ?_);refine(show wpAny _ _ (isInstance (.ref a) (.type "tuple") >>= _) _ _ s from wAa (wpAny_isInstance ty isSubtype_tuple_tuple ?_));rw[if_neg (by decide)];refine wAa (wpAny_seqItems g dt (wAa ?_));rw[Option.getD_some,<-Array.forIn_toList];have ql:∀(rest:List Value),(∃ks,J4 s.heap ks rest/\yq ks<=n)->wpAny (model prog w) A (forIn rest ((none:Option Bool),PUnit.unit) fun y r=>do
    if (!(<-eqIsQuiet n y))=true then pure (ForInStep.done (some false,PUnit.unit))else do pure PUnit.unit;pure (ForInStep.yield (none,PUnit.unit))) (fun r s'=>r=(none,PUnit.unit)/\s'=s) E s:=by
   intro rest;induction rest with
   | nil=>intro _;rw[List.forIn_nil];exact wBa ⟨rfl,rfl⟩
   | cons y rest ih=>
    rintro⟨ks,hk,hd⟩;cases ks with
    | nil=>rw[J4]at hk;cases hk
    | cons k ks=>
     rw[J4]at hk;obtain⟨_,_,e,k1,k2⟩:=hk;cases e;rw[yq]at hd;rw[List.forIn_cons];refine wAa (wAa (uz n k y A _ (by lia) k1 ?_));rw[if_neg (by decide)];exact wBa (ih ⟨ks,k2,by lia⟩)
  refine wCa (ql its.toList ⟨l,p,by lia⟩) ?_ fun _ _ x=>x;rintro r s' ⟨rfl,rfl⟩;exact wBa h
def J9(prog:Program)(w:World):HeapKind prog w KD where
 is:=fun h k a=>jA h k (.ref a)/\k.dep<=8
 hash:=gU w
 draws:=KD.drw
 room:=fun A=>A.units+8 < cLine
 inj:=fun p q=>p.1.inj q.1
 keeps:=fun p ho hd hs=>by
  refine⟨p.1.keep fun b its t=>?_,p.2⟩;obtain⟨ob,g,c,m,dt⟩:=t;refine⟨ob,(hs.2 b ?_).trans g,c,m,dt⟩;rintro rfl;rw[ho]at g;cases g;rw[hd]at dt;cases dt
 pyHash:=fun hu p h=>Kt _ _ _ _ _ p.1 (by have:=p.2;lia) h
 eqBool:=fun hu p q h=>bN 8 _ _ _ _ _ p.2 p.1 q.1 hu _ _ _ _ h
 quiet:=fun p h=>uz 8 _ _ _ _ p.2 p.1 h
def VW{t:SetTable}(I:ST.SI t n):t.fits n=true:=by
 have:=I.room;simp[SetTable.fits,SetTable.fill,I.du,I.sz]
 lia
def dA(I:ST.SI t n):t.gaveWay=false:=by
 obtain⟨k,hk⟩:=I.pw;have h1:=I.room;unfold SetTable.gaveWay;cases k with
 | zero=>simp at hk;lia
 | succ k=>
  rw[uMa]at hk;have:t.mask % 2=1:=by lia
  rw[this];rfl
theorem We:∀(n:Nat) (k:KD) (v:Value) (A:Around) (Q:Bool->Shared->Prop),k.dep<=n->jA s.heap k v->Q false s->wpAny (model prog w) A (ofAClassStatement n v) Q E s
 | n,.i _,v,A,Q,_,p,h=>by
  rw[jA]at p;rcases p with⟨t,rfl⟩ | ⟨b,rfl,_⟩ <;> unfold ofAClassStatement <;> exact wBa h
 | n,.s x,v,A,Q,_,p,h=>by
  rw[jA]at p;obtain⟨t,rfl⟩:=p;unfold ofAClassStatement;exact wBa h
 | 0,.t l,v,A,Q,hn,p,h=>by rw[KD.dep]at hn;lia
 | n+1,.t l,v,A,Q,hn,p,h=>by
  rw[KD.dep]at hn;rw[jA]at p;obtain⟨a,its,rfl,o,p⟩:=p;obtain⟨ob,g,c,m,dt⟩:=o;have ty:s.TypeIs (.ref a) "tuple" := ⟨ob,g,c⟩
  unfold ofAClassStatement;refine wAa (wpAny_typeOf ty ?_);dsimp only;rw[if_pos (by rfl)];refine wAa (wBa ?_);rw[if_neg (by decide)];refine wAa (wpAny_seqItems g dt ?_);dsimp only;refine wAa ?_;rw[<-Array.forIn_toList];have ql:∀(rest:List Value),(∃ks,J4 s.heap ks rest/\yq ks<=n)->wpAny (model prog w) A (forIn rest ((none:Option Bool),()) fun y r=>do
    if (<-ofAClassStatement n y)=true then pure (ForInStep.done (some true,()))else pure (ForInStep.yield (none,()))) (fun r s'=>r=(none,())/\s'=s) E s:=by
   intro rest;induction rest with
   | nil=>intro _;rw[List.forIn_nil];exact wBa ⟨rfl,rfl⟩
   | cons y rest ih=>
    rintro⟨ks,hk,hd⟩;cases ks with
    | nil=>rw[J4]at hk;cases hk
    | cons k ks=>
     rw[J4]at hk;obtain⟨_,_,e,k1,k2⟩:=hk;cases e;rw[yq]at hd;rw[List.forIn_cons];refine wAa (wAa (We n k y A _ (by lia) k1 ?_));rw[if_neg (by decide)];exact wBa (ih ⟨ks,k2,by lia⟩)
  refine wCa (ql its.toList ⟨l,p,by lia⟩) ?_ fun _ _ x=>x;rintro r s' ⟨rfl,rfl⟩;exact wBa h
theorem xX:∀(n:Nat) (k:KD) (v:Value) (A:Around) (Q:Bool->Shared->Prop),k.dep<=n->jA s.heap k v->(∀b,Q b s)->wpAny (model prog w) A (hashByValue n v) Q E s
 | n,.i _,v,A,Q,_,p,h=>by
  rw[jA]at p;rcases p with⟨t,rfl⟩ | ⟨b,rfl,_⟩ <;> unfold hashByValue <;> exact wBa (h _)
 | n,.s x,v,A,Q,_,p,h=>by
  rw[jA]at p;obtain⟨t,rfl⟩:=p;unfold hashByValue;exact wBa (h _)
 | 0,.t l,v,A,Q,hn,p,h=>by rw[KD.dep]at hn;lia
 | n+1,.t l,v,A,Q,hn,p,h=>by
  rw[KD.dep]at hn;rw[jA]at p;obtain⟨a,its,rfl,o,p⟩:=p;obtain⟨ob,g,c,m,dt⟩:=o;have ty:s.TypeIs (.ref a) "tuple" := ⟨ob,g,c⟩
  unfold hashByValue;refine wAa (wpAny_specialOf ty F.slot_tuple_hash.lookup ?_);dsimp only;refine wAa (wpAny_seqItems g dt (wAa ?_));rw[Option.getD_some,<-Array.forIn_toList];have ql:∀(rest:List Value),(∃ks,J4 s.heap ks rest/\yq ks<=n)->wpAny (model prog w) A (forIn rest ((none:Option Bool),PUnit.unit) fun y r=>do
    if (!(<-hashByValue n y))=true then pure (ForInStep.done (some false,PUnit.unit))else do pure PUnit.unit;pure (ForInStep.yield (none,PUnit.unit))) (fun r s'=>s'=s) E s:=by
   intro rest;induction rest with
   | nil=>intro _;rw[List.forIn_nil];exact wBa rfl
   | cons y rest ih=>
    rintro⟨ks,hk,hd⟩;cases ks with
    | nil=>rw[J4]at hk;cases hk
    | cons k ks=>
     rw[J4]at hk;obtain⟨_,_,e,k1,k2⟩:=hk;cases e;rw[yq]at hd;rw[List.forIn_cons];refine wAa (wAa (xX n k y A _ (by lia) k1 fun b=>?_));cases b
     ·rw[if_pos (by decide)];exact wBa (wBa rfl)
     ·rw[if_neg (by decide)];exact wBa (ih ⟨ks,k2,by lia⟩)
  refine wCa (ql its.toList ⟨l,p,by lia⟩) ?_ fun _ _ x=>x;rintro⟨r,_⟩ s' rfl;cases r with
  | none=>exact wBa (h _)
  | some b=>exact wBa (h _)
set_option tactic.hygienic true in
theorem cg(hx:jA s.heap k (.ref ax))(hk:k.dep<=8)(h:Q false s):∀(l:List Value),(∀v∈l,∃k' b,v=.ref b/\k'.dep<=8/\jA s.heap k' v)->wpAny (model prog w) A (searchCouldBeSeen (.ref ax) l) Q E s:=by
 intro l hl;unfold searchCouldBeSeen;refine wAa (wCa (?q:wpAny _ _ _ (fun r s'=>r=(none,())/\s'=s) _ _) ?_ fun _ _ x=>x)
 case q=>
  induction l with
  | nil=>rw[List.forIn_nil];exact wBa ⟨rfl,rfl⟩
  | cons y rest ih=>
   have ih:=ih fun v hv=>hl v (wMa _ hv);obtain⟨k',b,rfl,hk',hy⟩:=hl y wNa;rw[List.forIn_cons];refine wAa ?_;dsimp only;split
   ·exact wBa ih
   ·refine wAa (uz 8 k _ _ _ hk hx ?_);rw[if_neg (by decide)];refine wAa (uz 8 k' _ _ _ hk' hy ?_);rw[if_neg (by decide)];refine wAa (We 8 k _ _ _ hk hx ?_);rw[if_neg (by decide)];refine wAa (We 8 k' _ _ _ hk' hy ?_);rw[if_neg (by decide)];exact wBa ih
 rintro r s' ⟨rfl,rfl⟩;exact wBa h
def dB{X:Sem Bool}{Y C:Sem α}{c:Bool}(hC:wpAny (model prog w) A C Q E s)(hX:∀Q:Bool->Shared->Prop,Q false s->wpAny (model prog w) A X Q E s):wpAny (model prog w) A (if c=true then(do let b<-X;if b=true then Y else C)else C) Q E s:=by
 split
 ·exact wAa (hX _ hC)
 ·exact hC
theorem ww{kas:List (KD×Addr)}(ho:s.heap.get? a=some o)(hd:o.data=.set es ep t)(I:ST.SI t es.size)(hE:∀e∈es.toList,∃p∈kas,e.2=.ref p.2)(hK:∀p∈kas,p.1.dep<=8/\jA s.heap p.1 (.ref p.2))(hx:jA s.heap k (.ref ax))(hk:k.dep<=8)(hr:A.units+8 < cLine)(ne:k∉kas.map (·.1))(em:t.slot (ST.pj t x N)=.empty)(hN:N < 10 * SetTable.turns t.mask)(hF:∀j,Q (.free j false) s):
  ∀(fuel c:Nat) (st:Option SetTable.Probe),c<=N->N - c < fuel->st.getD (t.probeStart x)=ST.advN t c (t.probeStart x)->wpAny (model prog w) A (setSearchFrom a (.ref ax) x true fuel st) Q E s
 | 0,c,st,_,hf,_=>vDa hf (Nat.not_lt_zero _)
 | fuel+1,c,st,hc,hf,hst=>by
  unfold setSearchFrom;refine wAa (wpAny_setState_of ho hd (VW I) ?_);dsimp only;rw[dA I,if_neg (by decide),hst];generalize hm:SetTable.probe t _ x _=om;rcases ST.go_ok (hashAt:=fun i=>(es[i]?.map (·.1)).getD 0) I.du em (10 * SetTable.turns t.mask) c hc (by lia)with⟨m,i,m1,m2,hi,sl,q⟩ | ⟨j,q⟩
  ·have e:om=_:=hm.symm.trans q;subst e;dsimp only;rw[I.sz]at hi;have ee:es[i]?=some es[i]:=by simp[hi]
   obtain⟨p,hp,pe⟩:=hE es[i] (by simp);obtain⟨dk,kb⟩:=hK p hp;have hs2:t.sameMemory t.moves t.mask=some true:=by simp[SetTable.sameMemory]
   refine dB ?_ fun _ h=>cg hx hk h _ fun v hv=>?_
   ·rw[ee];dsimp only;rw[pe];refine wAa (wDa ((J9 prog w).eqBool hr ⟨kb,dk⟩ ⟨hx,hk⟩ ?_));refine wAa (wpAny_setState_of ho hd (VW I) ?_);dsimp only;rw[decide_eq_false (fun z:p.1=k=>ne (z▸List.mem_map_of_mem hp)),if_neg (by decide),hs2];dsimp only;rw[if_pos rfl,sl];dsimp only;rw[ee];dsimp only;rw[pe];refine wAa (m:=isSame (.ref p.2) (.ref p.2)) ?_;unfold isSame;dsimp only;rw[if_pos (beq_self_eq_true p.2)];exact wBa (wAa (wBa (ww ho hd I hE hK hx hk hr ne em hN hF fuel (m+1) _ m2 (by lia) rfl)))
   ·obtain⟨e,he,rfl⟩:=uVa hv;rw[Array.toList_filter]at he;obtain⟨p,hp,e2⟩:=hE e (uUa he).1;rw[e2];exact⟨_,_,rfl,hK p hp⟩
  ·have e:om=_:=hm.symm.trans q;subst e;exact wBa (hF j)
def yj(a:Addr)(kas:List (KD×Addr))(h:Heap):Prop:=∃(o:Obj) (es:Array (Int×Value)) (ep:Nat) (t:SetTable),h.get? a=some o/\o.ExactSet/\o.data=.set es ep t/\ST.SI t es.size/\es.size=kas.length/\∀e∈es.toList,∃p∈kas,e.2=.ref p.2
def Q2{h:Heap}{o:Obj}(ho:h.get? a=some o)(hd:o.data=.set es ep t):(h.update a (Obj.putSet es' t')).get? a=some { o with data:=.set es' (ep+1) t' }:=by
 have:=vUa (Obj.putSet es' t') ho (by rw[putSet_of es' t' hd];rfl);rw[putSet_of es' t' hd]at this;exact this
def Wf(xs:Array α)(p:Nat)(x:α):(SetTable.insertAt xs p x).size=xs.size+1:=by
 unfold SetTable.insertAt;simp
 lia
theorem xY{es:Array α}:∀l:List Nat,(∀q∈l,q < es.size)->(l.filterMap fun q=>es[q]?).length=l.length
 | [],_=>rfl
 | q::l,h=>by
  rw[List.filterMap_cons,Array.getElem?_eq_getElem (h q List.mem_cons_self)];simp[xY l fun q hq=>h q (List.mem_cons_of_mem _ hq)]
def aU{o:Obj}{es1:Array (Int×Value)}{t2:SetTable}(ho:s.heap.get? a=some o)(hex:o.ExactSet)(hd:o.data=.set es ep t)
  (pw:∃k,t2.mask+1=2 ^ k) (du:t2.dummies=#[]) (sz:t2.place.size=es1.size) (fu:es1.size<=t2.mask) (hn:n=es1.size) (hl:es1.size<=8192) (h0:0 < es1.size) (l1:es1.size=kas.length) (ee:∀e∈es1.toList,∃p∈kas,e.2=.ref p.2)
  (hQ:∀h',Heap.SameBut a s.heap h'->yj a kas h'->Q true { s with heap:=h' }):
  wpAny (model prog w) A (do
   storeSet a es1 t2
   if (!false&&t2.tooFull)=true then do
    setRelay a (SetTable.grown n)
    pure true
   else pure true) Q E s:=by
 subst hn;have zl:(8192:Nat)<=sizeLine:=by decide
 refine wAa (wpAny_storeSet_of ho hd ?_ (by lia));have g1:=Q2 (es':=es1) (t':=t2) ho hd;have sb1:=Heap.SameBut.update s.heap a (Obj.putSet es1 t2);have fl:t2.fill=es1.size:=by simp[SetTable.fill,du,sz]
 have ff:t2.fits es1.size=true:=by
  simp[SetTable.fits,fl,sz];exact fu
 by_cases hf2:t2.tooFull=true
 ·rw[hf2,if_pos (by decide)];unfold setRelay;refine wAa (wAa (wpAny_setState_of g1 rfl ff ?_));dsimp only;obtain⟨t',order,e1,e2,e5,e7,e8⟩:=ST.relaid_ok (t:=t2) (hs:=es1.map (·.1)) (by simp;lia) (by simpa using h0);rw[Array.size_map]at e1 e2 e5 e7 e8;have c1:¬SetTable.sizeAbove (SetTable.grown es1.size) > sizeLine:=by have:sizeLine=2 ^ 24:=rfl;lia
  rw[if_neg c1,e1];have fm:(order.filterMap fun q=>es1[q]?).toList=order.toList.filterMap fun q=>es1[q]?:=Array.toList_filterMap;have sz:(order.filterMap fun q=>es1[q]?).size=es1.size:=by
   rw[<-Array.length_toList,fm,xY _ e7,Array.length_toList,e5]
  refine wAa (show wpAny _ _ (ite _ _ _) _ _ _ from ?_);rw[if_neg (by rw[sz];simp)];refine wBa (wpAny_storeSet_of g1 rfl (wBa (hQ _ (sb1.trans (Heap.SameBut.update _ a _)) ?_)) (by rw[sz];lia));refine⟨_,_,_,t',Q2 g1 rfl,hex,rfl,by rw[sz];exact e8,by rw[sz,l1],fun e he=>?_⟩;rw[fm]at he;obtain⟨q,_,e⟩:=List.mem_filterMap.mp he;exact ee _ (by simpa using Array.mem_of_getElem? e)
 ·have hf3:t2.tooFull=false:=by simpa using hf2
  rw[hf3,if_neg (by decide)];refine wBa (hQ _ sb1 ⟨_,es1,_,t2,g1,hex,rfl,⟨pw,du,sz,?_⟩,l1,ee⟩);unfold SetTable.tooFull at hf3;rw[fl]at hf3;simpa using hf3
def dE(hS:yj a kas s.heap)(hK:∀p∈kas,p.1.dep<=8/\jA s.heap p.1 (.ref p.2))(hx:jA s.heap k (.ref ax))(hk:k.dep<=8)(hr:A.units+8 < cLine)(hl:kas.length < 8192)(ne:k∉kas.map (·.1))
  (h1:∀h',Heap.SameBut a s.heap h'->yj a (kas++[(k,ax)]) h'->Q true { s with heap:=h' }):wpAny (model prog w) A (setAddHashed a (.ref ax) x) Q E s:=by
 obtain⟨o,es,ep,t,ho,hex,hd,I,l1,ee⟩:=hS;obtain⟨N,hN,em⟩:=ST.first I x;have rm:=I.room;unfold setAddHashed setAddHashedIn;refine wDa (wAa (wpAny_setState_of ho hd (VW I) ?_));dsimp only;rw[show byScan (.ref ax) es=false from rfl,if_neg (by decide)];unfold setSearch;refine wAa (ww ho hd I ee hK hx hk hr ne em (by unfold SetTable.turns;lia) (fun j=>?_) 100000 0 none (Nat.zero_le _) (by lia) rfl);dsimp only;refine wAa (wpAny_setState_of ho hd (VW I) ?_);dsimp only;have s1:=Wf es (t.put j).2 (x,Value.ref ax);have tail:∀b:Bool,wpAny (model prog w) A (do
   storeSet a (SetTable.insertAt es (t.put j).2 (x,Value.ref ax)) (if b=true then(t.put j).1 else { (t.put j).1 with plain:=false })
   if (!false&&(if b=true then(t.put j).1 else { (t.put j).1 with plain:=false }).tooFull)=true then do
    setRelay a (SetTable.grown (es.size+1))
    pure true
   else pure true) Q E s:=fun b=>by
  have ez:∀{β:Type} (f:SetTable->β),f (t.put j).1=f { (t.put j).1 with plain:=false }->f (if b=true then(t.put j).1 else { (t.put j).1 with plain:=false })=f (t.put j).1:=fun f h=>by cases b;exact h.symm;rfl
  have em:=ez (·.mask) rfl;have du:(t.put j).1.dummies=#[]:=by
   show(if SetTable.has t.dummies j then _ else t.dummies)=#[];rw[I.du];rfl
  refine aU ho hex hd (by rw[em];exact I.pw) ((ez (·.dummies) rfl).trans du) ((ez (·.place.size) rfl).trans ((Wf ..).trans (by rw[s1,I.sz]))) (by rw[em,s1];show es.size+1<=t.mask;lia) s1.symm (by lia) (by lia) (by simp[s1,l1]) (fun e he=>?_) h1;rw[SetTable.toList_insertAt]at he;rcases uWa he with h | h
  ·obtain⟨p,hp,q⟩:=ee e (List.mem_of_mem_take h);exact⟨p,vIa _ hp,q⟩
  ·rcases uTa h with rfl | h
   ·exact⟨(k,ax),by simp,rfl⟩
   ·obtain⟨p,hp,q⟩:=ee e (List.mem_of_mem_drop h);exact⟨p,vIa _ hp,q⟩
 split
 ·exact wAa (xX 8 k _ _ _ hk hx tail)
 ·exact wAa (wBa (tail true))
noncomputable abbrev vi:=Sum Int Str
noncomputable def bO:vi->Value->Bool
 | .inl k,v=>Value.isInt k v
 | .inr x,v=>Value.isStrOf x v
noncomputable def II(w:World):vi->Int
 | .inl k=>hashInt k
 | .inr x=>hashStr w x
theorem JK:∀{k:vi} {v:Value},bO k v=true->(∃i t,k=Sum.inl i/\v=Value.int i t) \/ (∃x t,k=Sum.inr x/\v=Value.str x t)
 | .inl i,v,h=>by
  obtain⟨t,e⟩:=Value.isInt_shape (k:=i) (v:=v) h;exact .inl ⟨i,t,rfl,e⟩
 | .inr x,v,h=>by
  obtain⟨t,e⟩:=Value.isStrOf_shape (x:=x) (v:=v) h;exact .inr ⟨x,t,rfl,e⟩
def dG(a b:Int):decide ((Sum.inl a:vi)=Sum.inl b)=(a==b):=by
 by_cases e:a=b
 ·subst e;simp
 ·have h:¬(Sum.inl a:vi)=Sum.inl b:=fun q=>e (Sum.inl.inj q);rw[decide_eq_false h];exact(beq_eq_false_iff_ne.mpr e).symm
def dH(a b:Str):decide ((Sum.inr a:vi)=Sum.inr b)=decide (a=b):=by
 by_cases e:a=b
 ·subst e;simp
 ·have h:¬(Sum.inr a:vi)=Sum.inr b:=fun q=>e (Sum.inr.inj q);rw[decide_eq_false h,decide_eq_false e]
def dI(a:Int)(b:Str):decide ((Sum.inl a:vi)=Sum.inr b)=false:=vBa (fun q=>nomatch q)
def dJ(a:Str)(b:Int):decide ((Sum.inr a:vi)=Sum.inl b)=false:=vBa (fun q=>nomatch q)
def gW(prog:Program)(w:World):PySem.KeyKind prog w vi where
 is:=bO
 hash:=II w
 inj:=fun v a b ha hb=>by
  rcases JK ha with⟨i,t,rfl,rfl⟩ | ⟨x,t,rfl,rfl⟩
  ·rcases JK hb with⟨j,u,rfl,e⟩ | ⟨y,u,rfl,e⟩
   ·injection e with e1 _;rw[e1]
   ·exact nomatch e
  ·rcases JK hb with⟨j,u,rfl,e⟩ | ⟨y,u,rfl,e⟩
   ·exact nomatch e
   ·injection e with e1 _;rw[e1]
 byValue:=fun k v h=>by
  rcases JK h with⟨i,t,rfl,rfl⟩ | ⟨x,t,rfl,rfl⟩ <;> rfl
 pyHash:=fun hv h=>by
  rcases JK hv with⟨i,t,rfl,rfl⟩ | ⟨x,t,rfl,rfl⟩
  ·exact wpAny_pyHash_int h
  ·exact wpAny_pyHash_str h
 eqBool:=fun hu hv h=>by
  rcases JK hu with⟨i,t,rfl,rfl⟩ | ⟨x,t,rfl,rfl⟩
  ·rcases JK hv with⟨j,u,rfl,rfl⟩ | ⟨y,u,rfl,rfl⟩
   ·rw[dG]at h;exact wpAny_eqBool_int h
   ·rw[dI]at h;exact SeqAt.EqAt.int_str i t y u _ _ _ _ h
  ·rcases JK hv with⟨j,u,rfl,rfl⟩ | ⟨y,u,rfl,rfl⟩
   ·rw[dJ]at h;exact SeqAt.EqAt.str_int x t j u _ _ _ _ h
   ·rw[dH]at h;exact wpAny_eqBool_str h
 «strs»:=fun k x t v h=>by
  rcases JK h with⟨i,u,rfl,e⟩ | ⟨y,u,rfl,e⟩
  ·exact nomatch e
  ·injection e with e1 _;subst e1;cases v <;> rfl
inductive V where
 | non | bl (b:Bool) | int (i:Int) | str (x:Str) | ref (a:Addr) | ty (n:String)
 deriving DecidableEq
def jw:V->Value->Prop
 | .non,u=>u=Value.none
 | .bl b,u=>u=Value.bool b
 | .int i,u=>∃t,u=Value.int i t
 | .str x,u=>∃t,u=Value.str x t
 | .ref a,u=>u=Value.ref a
 | .ty n,u=>u=Value.type n
abbrev jq:List V->List Value->Prop:=Paired jw
def jq.length{xs:List V}{us:List Value}(r:jq xs us):xs.length=us.length:=Paired.length r
theorem jq.get:∀{xs:List V} {us:List Value} {i:Nat} {x:V},jq xs us->xs[i]?=some x->∃u,us[i]?=some u/\jw x u
 | _,_,_,_,.nil,e=>by simp at e
 | _,_,0,_,.cons r _,e=>by simp at e;subst e;exact⟨_,rfl,r⟩
 | _,_,i+1,x,.cons _ t,e=>by
  obtain⟨u,h1,h2⟩:=jq.get (i:=i) (x:=x) t (by simpa using e);exact⟨u,by simpa using h1,h2⟩
theorem jq.set(r:jw x u):∀{xs:List V} {us:List Value} (i:Nat),jq xs us->jq (xs.set i x) (us.set i u)
 | _,_,_,.nil=>.nil
 | _,_,0,.cons _ t=>.cons r t
 | _,_,i+1,.cons q t=>.cons q (jq.set r i t)
theorem jq.append:∀{xs ys:List V} {us ws:List Value},jq xs us->jq ys ws->jq (xs++ys) (us++ws)
 | _,_,_,_,.nil,s=>s
 | _,_,_,_,.cons r t,s=>.cons r (jq.append t s)
theorem jq.take:∀{xs:List V} {us:List Value} (n:Nat),jq xs us->jq (xs.take n) (us.take n)
 | _,_,0,_=>.nil
 | _,_,_+1,.nil=>.nil
 | _,_,n+1,.cons r t=>.cons r (jq.take n t)
theorem jq.drop:∀{xs:List V} {us:List Value} (n:Nat),jq xs us->jq (xs.drop n) (us.drop n)
 | _,_,0,r=>r
 | _,_,_+1,.nil=>.nil
 | _,_,n+1,.cons _ t=>jq.drop n t
def VD:Option V->Option Value->Prop
 | some v,some u=>jw v u
 | none,none=>True
 | _,_=>False
def KV:List (κ×V)->List (κ×Value)->Prop:=Paired fun(p:κ×V) (q:κ×Value)=>p.1=q.1/\jw p.2 q.2
noncomputable def kV:vi->V
 | .inl i=>.int i
 | .inr x=>.str x
inductive HO where
 | lst (xs:List V)
 | tup (xs:List V)
 | dD (kvs:List (KD×Addr×V)) (ep:Nat)
 | ins (C dx:Addr) (fs:List (Str×V))
 | own (x:Addr)
 | met (f x:Addr)
 | rng (lo hi:Int)
 | frz (o:Obj) (u:HO)
 | tbl (ps:Array Value)
 | ext (φ:Heap->Prop)
noncomputable abbrev Hp:=Addr->Option HO
noncomputable def upd(H:Hp)(a:Addr)(o:HO):Hp:=fun b=>if b=a then some o else H b
def jS:upd H a o a=some o:=by unfold upd;rw[if_pos rfl]
def jr{H:Hp}{a b:Addr}{o:HO}(h:b≠a):upd H a o b=H b:=by unfold upd;rw[if_neg h]
def jJ{H:Hp}{a b:Addr}{o:HO}(h:H a=some o)(h':H b=none):a≠b:=by
 intro e;subst e;rw[h]at h';cases h'
section
variable (P:Program) (w:World)
def yf(H:Hp)(h:Heap)(a:Addr):HO->Prop
 | .lst xs=>xs.length<=sizeLine/\∃(its:List Value) (n:Nat),jq xs its/\h.get? a=some { cls:=.type "list",data:=.seq its.toArray n }
 | .tup xs=>xs.length<=sizeLine/\∃its:List Value,jq xs its/\IsTup h a its.toArray
 | .dD kvs ep=>kvs.length<=sizeLine/\(a==sysModules)=false/\(kvs.map (·.1)).Nodup/\∃xs:List (KD×Addr×Value),
   Paired (fun(p:KD×Addr×V) (q:KD×Addr×Value)=>p.1=q.1/\p.2.1=q.2.1/\jw p.2.2 q.2.2) kvs xs/\
   ∃o es,h.get? a=some o/\o.ExactDict/\o.data=.dict es ep/\es.toList=xs.map (entryOfKey (J9 P w))
 | .ins C dx fs=>H dx=some (.own a)/\fs.length<=1000/\dx≠a/\h.get? a=some (PySem.W.instObj C dx)/\
   ∃mA,h.Ns1 dx mA/\(∀f,VD (fs.lookup f) (mA f))/\PySem.Within mA (fs.map (·.1))
 | .own _=>∃o,h.get? a=some o
 | .rng lo hi=>∃t u v,h.get? a=some { cls:=.type "range",data:=.fields #[.int lo t,.int hi u,.int 1 v] }
 | .frz o u=>h.get? a=some o/\yf H h a u
 | .tbl ps=>h.get? a=some { cls:=.none,data:=.fields ps }
 | .met f x=>h.get? a=some (PySem.W.methodObj (.ref f) (.ref x))
 | .ext φ=>φ h/\(∃o,h.get? a=some o)/\∀h1 h2:Heap,φ h1->(∀o,h1.get? a=some o->h2.get? a=some o)->φ h2
def yJ(H:Hp)(h:Heap):Prop:=∀a o,H a=some o->yf P w H h a o
end
section
variable {P:Program} {w:World} {H H':Hp} {h h':Heap} {a:Addr} {o:HO}
def yf.lt(x:yf P w H h a o):a < h.objs.size:=by
 cases o with
 | lst xs=>obtain⟨_,_,_,_,e⟩:=x;exact wLa e
 | tup xs=>obtain⟨_,_,_,p⟩:=x;exact p.lt
 | dD kvs ep=>obtain⟨_,_,_,_,_,o,_,e,_⟩:=x;exact wLa e
 | ins C dx fs=>obtain⟨_,_,_,e,_⟩:=x;exact wLa e
 | own y=>obtain⟨_,e⟩:=x;exact wLa e
 | rng lo hi=>obtain⟨_,_,_,e⟩:=x;exact wLa e
 | frz ob u=>obtain⟨e,_⟩:=x;exact wLa e
 | tbl ps=>exact wLa (show h.get? a=some _ from x)
 | met f y=>exact wLa (show h.get? a=some _ from x)
 | ext φ=>obtain⟨_,⟨_,e⟩,_⟩:=x;exact wLa e
theorem Paired.mapP:∀{l₁:List α} {l₂:List β},Paired F l₁ l₂->(∀a b,F a b->G a b)->Paired G l₁ l₂
 | _,_,.nil,_=>.nil
 | _,_,.cons r t,f=>.cons (f _ _ r) (Paired.mapP t f)
theorem yf.stay(x:yf P w H h a o)(k:∀b u,(b=a \/ H b=some (.own a))->h.get? b=some u->h'.get? b=some u)
  (ho:∀b,H b=some (.own a)->H' b=some (.own a)) (ht:∀b xs,H b=some (.tup xs)->H' b=some (.tup xs)):yf P w H' h' a o:=by
 induction o with
 | lst xs=>obtain⟨z,its,n,r,e⟩:=x;exact⟨z,its,n,r,k _ _ (.inl rfl) e⟩
 | tup xs=>obtain⟨z,its,r,ob,e,c⟩:=x;exact⟨z,its,r,ob,k _ _ (.inl rfl) e,c⟩
 | dD kvs ep=>obtain⟨z,y,nd,xs,r,ob,es,e,c⟩:=x;exact⟨z,y,nd,xs,r,ob,es,k _ _ (.inl rfl) e,c⟩
 | ins C dx fs=>
  obtain⟨d,z,ne,e,mA,⟨od,es,ep,e2,c⟩,r⟩:=x;exact⟨ho _ d,z,ne,k _ _ (.inl rfl) e,mA,⟨od,es,ep,k _ _ (.inr d) e2,c⟩,r⟩
 | own y=>obtain⟨ob,e⟩:=x;exact⟨ob,k _ _ (.inl rfl) e⟩
 | rng lo hi=>obtain⟨t,u,v,e⟩:=x;exact⟨t,u,v,k _ _ (.inl rfl) e⟩
 | frz ob u ih=>obtain⟨e,q⟩:=x;exact⟨k _ _ (.inl rfl) e,ih q⟩
 | tbl ps=>
  have e:h.get? a=some { cls:=.none,data:=.fields ps }:=x;show h'.get? a=some { cls:=.none,data:=.fields ps };exact k a _ (.inl rfl) e
 | met f y=>
  have e:h.get? a=some (PySem.W.methodObj (.ref f) (.ref y)):=x;show h'.get? a=some (PySem.W.methodObj (.ref f) (.ref y));exact k a _ (.inl rfl) e
 | ext φ=>obtain⟨p,⟨o,e⟩,st⟩:=x;exact⟨st _ _ p fun o q=>k _ _ (.inl rfl) q,⟨o,k _ _ (.inl rfl) e⟩,st⟩
def yJ.lt(x:yJ P w H h)(e:H a=some o):a < h.objs.size:=(x a o e).lt
def yJ.fresh(x:yJ P w H h)(e:h.objs.size<=a):H a=none:=by
 cases q:H a with
 | none=>rfl
 | some u=>exact vDa (Nat.lt_of_lt_of_le (x.lt q) e) (wUa _)
def yJ.kept(x:yJ P w H h)(k:∀b u,h.get? b=some u->h'.get? b=some u):yJ P w H h':=fun a o e=>
 (x a o e).stay (fun b u _ q=>k b u q) (fun _ q=>q) fun _ _ q=>q
def yJ.laid(x:yJ P w H h)(k:∀b u,h.get? b=some u->h'.get? b=some u)(hp:h.objs.size<=a)(new:yf P w (upd H a o) h' a o):yJ P w (upd H a o) h':=fun b u e=>by
 have hn:=x.fresh hp;by_cases hb:b=a
 ·subst hb;rw[jS]at e;cases e;exact new
 ·rw[jr hb]at e;exact(x b u e).stay (fun c v _ q=>k c v q) (fun c q=>by rw[jr (jJ q hn)];exact q) fun c xs q=>by rw[jr (jJ q hn)];exact q
end
def Rd(H:Hp)(a:Addr)(u:HO):Prop:=H a=some u \/∃o,H a=some (.frz o u)
def Rd.ok{P:Program}{w:World}{H:Hp}{h:Heap}{a:Addr}{u:HO}(r:Rd H a u)(x:yJ P w H h):yf P w H h a u:=by
 rcases r with r | ⟨o,r⟩
 ·exact x a u r
 ·obtain⟨_,q⟩:=x a _ r;exact q
def bP:Option HO->Prop
 | some (.lst _)=>True
 | some (.dD _ _)=>True
 | some (.ins _ _ _)=>True
 | some (.ext _)=>True
 | _=>False
section
variable {P:Program} {w:World} {H:Hp} {h h':Heap} {x e:Addr} {o':HO}
def yJ.write(ok:yJ P w H h)(mu:bP (H x))(he:e=x \/ H e=some (.own x))(k:∀b u,b≠e->h.get? b=some u->h'.get? b=some u)(heo:∃u,h'.get? e=some u)
  (new:yf P w (upd H x o') h' x o'):yJ P w (upd H x o') h':=fun b u q=>by
 have nown:∀c y,H c=some (.own y)->c≠x:=fun c y r z=>by subst z;rw[r]at mu;exact mu
 have ntup:∀c xs,H c=some (.tup xs)->c≠x:=fun c xs r z=>by subst z;rw[r]at mu;exact mu
 by_cases hb:b=x
 ·subst hb;rw[jS]at q;cases q;exact new
 ·rw[jr hb]at q;by_cases hbe:b=e
  ·have q':H b=some (.own x):=by
    rcases he with z | z
    ·exact vDa (hbe.trans z) hb
    ·rw[hbe];exact z
   rw[q]at q';cases q';obtain⟨v,hv⟩:=heo;exact⟨v,by rw[hbe];exact hv⟩
  ·refine(ok b u q).stay (fun c v hc r=>k c v ?_ r) (fun c r=>by rw[jr (nown c b r)];exact r) fun c xs r=>by rw[jr (ntup c xs r)];exact r
   rcases hc with rfl | hc
   ·exact hbe
   ·rintro rfl;rcases he with z | z
    ·exact nown c b hc z
    ·rw[hc]at z;cases z;exact hb rfl
end
structure Un (fs ex:List Addr) (H H':Hp) (h h':Heap):Prop where
 keep:∀b o,h.get? b=some o->H b=none->b∉fs->b∉ex->h'.get? b=some o
 slot:∀b o,h.get? b=some o->H b=none->b∈fs->b∉ex->∃sl,h'.get? b=some { o with slots:=sl }
 free:∀b o,h.get? b=some o->H b=none->b∉ex->H' b=none
 there:∀b o,h.get? b=some o->b∉ex->∃o',h'.get? b=some o'
 tups:∀b xs,H b=some (.tup xs)->H' b=some (.tup xs)
 frzs:∀b o u,H b=some (.frz o u)->H' b=some (.frz o u)
 tbls:∀b ps,H b=some (.tbl ps)->∃more,H' b=some (.tbl (ps++more))
section
variable {fs fs' ex ex':List Addr} {H H1 H2:Hp} {h h1 h2 h':Heap} {a x e:Addr} {o:HO}
def Un.any(u:Un fs ex H H1 h h1){b:Addr}{ob:Obj}(q:h.get? b=some ob)(n:H b=none)(hx:b∉ex):∃sl,h1.get? b=some { ob with slots:=sl }:=by
 by_cases hb:b∈fs
 ·exact u.slot b ob q n hb hx
 ·exact⟨ob.slots,u.keep b ob q n hb hx⟩
def Un.kept(k:∀b u,h.get? b=some u->h'.get? b=some u):Un fs ex H H h h':=
 ⟨fun b ob q _ _ _=>k b ob q,fun b ob q _ _ _=>⟨ob.slots,k b ob q⟩,fun _ _ _ n _=>n,fun b ob q _=>⟨ob,k b ob q⟩,fun _ _ q=>q,fun _ _ _ q=>q,fun _ ps q=>⟨#[],by rw[q];simp⟩⟩
def Un.refl:Un fs ex H H h h:=Un.kept fun _ _ q=>q
def Un.laid(k:∀b u,h.get? b=some u->h'.get? b=some u)(hp:h.objs.size<=a)(hn:H a=none):Un fs ex H (upd H a o) h h' where
 keep:=fun b u q _ _ _=>k b u q
 slot:=fun b u q _ _ _=>⟨u.slots,k b u q⟩
 free:=fun b u q n _=>by rw[jr (Nat.ne_of_lt (Nat.lt_of_lt_of_le (Heap.lt_size q) hp))];exact n
 there:=fun b u q _=>⟨u,k b u q⟩
 tups:=fun b xs q=>by rw[jr (jJ q hn)];exact q
 frzs:=fun b u xs q=>by rw[jr (jJ q hn)];exact q
 tbls:=fun b ps q=>⟨#[],by rw[jr (jJ q hn),q];simp⟩
def Un.write(mu:bP (H x))(he:e=x \/ H e=some (.own x))(k:∀b u,b≠e->h.get? b=some u->h'.get? b=some u)(heo:∃u,h'.get? e=some u):Un fs ex H (upd H x o) h h':=by
 have hx:∀b,H b=none->b≠x:=fun b n z=>by subst z;rw[n]at mu;exact mu
 have hb:∀b,H b=none->b≠e:=fun b n z=>by
  subst z;rcases he with r | r
  ·exact hx b n r
  ·rw[n]at r;cases r
 have hm:∀b u,H b=some u->¬bP (some u)->b≠x:=fun b u q nm z=>by subst z;rw[q]at mu;exact nm mu
 refine⟨fun b u q n _ _=>k b u (hb b n) q,fun b u q n _ _=>⟨u.slots,k b u (hb b n) q⟩,fun b u q n _=>by rw[jr (hx b n)];exact n,fun b u q _=>?_,
  fun b xs q=>by rw[jr (hm b _ q fun z=>z)];exact q,fun b u xs q=>by rw[jr (hm b _ q fun z=>z)];exact q,fun b ps q=>⟨#[],by rw[jr (hm b _ q fun z=>z),q];simp⟩⟩
 by_cases hbe:b=e
 ·subst hbe;exact heo
 ·exact⟨u,k b u hbe q⟩
end
noncomputable def bQ(h:Heap)(H:Hp):List Addr:=(List.range h.objs.size).filter fun a=>(H a).isSome
def uA(h:Heap)(H:Hp):Heap:=PySem.W.hideAll h (bQ h H)
def xZ(h:Heap)(H:Hp):(uA h H).objs.size=h.objs.size:=PySem.W.hideAll_size _ _
def aV(e:h.get? b=some o)(n:H b=none):(uA h H).get? b=some o:=
 PySem.W.hideAll_get _ e fun hm=>by
  have q:(H b).isSome=true:=(uUa hm).2;rw[n]at q;simp at q
def cj(e:(uA h H).get? b=some o):h.get? b=some o/\H b=none:=by
 have e':h.get? b=some o:=PySem.W.of_hideAll (bQ h H) e;refine⟨e',?_⟩;cases q:H b with
 | none=>rfl
 | some x=>
  have hm:b∈bQ h H:=List.mem_filter.mpr ⟨List.mem_range.mpr (wLa e'),by simp[q]⟩;have z:(uA h H).get? b=none:=PySem.W.hideAll_none (bQ h H) hm;rw[z]at e;cases e
structure Mod (K:uXa) (mg:Tx) (base:Heap):Prop where
 kin:K.In base
 glob:base.Ns mainGlobals mg
 blt:∃mb,base.Ns builtinsNs mb/\∀x:Str,x≠ "__name__" ->mb x=bootBuiltins x
 nolimit:base.NoLimit
structure Cx where
 prog:Program
 w:World
 K:uXa
 mg:Str->Option Value
 base:Heap
 A:Around
 N:List Str
 s₀:Shared
 H₀:Hp
 env:Env
 outer:List Env
 stack:List Env
 ex:List Addr
 fn:Str->Bool
 calm:Bool
 pn:List (Addr×Obj)
 xe:Value->Shared->Prop
noncomputable def Vi(l:List Env):List Addr:=l.filterMap (·.frame)
abbrev Cx.fs(X:Cx):List Addr:=Vi X.outer
def Q3(sc:Scope)(x:Str):Prop:=sc.names.lookup x=some .local \/ sc.names.lookup x=some .cell \/ sc.names.lookup x=some .free
def UA(sc:Scope)(x:Str):Prop:=sc.names.lookup x=some .local \/ sc.names.lookup x=some .cell
def IJ(env:Env)(h:Heap)(m:Tx)(x:Str)(u:Value):Prop:=
 (env.kindOf x=some .local/\m x=some u) \/ ((env.kindOf x=some .cell \/ env.kindOf x=some .free)/\∃c,env.cells.lookup x=some c/\h.IsCell c (some u))
structure Cx.Ok (X:Cx):Prop where
 mod:Mod X.K X.mg X.base
 kind:X.env.scope.kind=.function
 glob:X.env.globals=mainGlobals
 blt:X.env.builtins=builtinsNs
 above:X.s₀.heap.objs.size<=X.env.locals
 inj:∀x y c,X.env.cells.lookup x=some c->X.env.cells.lookup y=some c->x=y
 has:∀x,(X.env.kindOf x=some .cell \/ X.env.kindOf x=some .free)->∃c,X.env.cells.lookup x=some c
 cab:∀x c,X.fn x=true->X.env.cells.lookup x=some c->X.s₀.heap.objs.size<=c
 hd:X.calm=true->X.A.handled=none
 frames:X.A.frames=some X.stack
 stk:X.stack=X.outer \/ (X.stack=X.env::X.outer/\X.env.frame=some X.env.locals)
 exf:∀b∈X.ex,b≠X.env.locals/\∀x c,X.env.cells.lookup x=some c->c≠b
 bs:∀b o,X.base.get? b=some o->X.s₀.heap.get? b=some o/\X.H₀ b=none
 bsz:X.base.objs.size<=X.s₀.heap.objs.size
 noex:∀b o,X.base.get? b=some o->b∉X.ex
 exfs:∀b∈X.ex,b∉X.fs
 funs:X.s₀.heap.FunFrames X.base X.outer
 frf:∀b∈X.fs,X.H₀ b=none
structure Inv (X:Cx) (pins:Tq) (U:List (Option V)) (H:Hp) (s:Shared):Prop where
 ok:X.Ok
 os:s.os=X.s₀.os
 bare:AllBare s.gens
 base:Un X.fs X.ex X.H₀ H X.s₀.heap s.heap
 loc:∃m,s.heap.Ns X.env.locals m/\∀(i:Nat) (x:Str) (v:V),X.N[i]?=some x->U[i]?=some (some v)->Q3 X.env.scope x->∃u,jw v u/\IJ X.env s.heap m x u
 cell:∀x c,X.env.cells.lookup x=some c->∃v,s.heap.IsCell c v
 free:H X.env.locals=none
 freeC:∀x c,X.env.cells.lookup x=some c->H c=none
 pin:∀p∈X.pn++pins,s.heap.get? p.1=some p.2/\H p.1=none/\p.1≠X.env.locals/\p.1∉X.fs/\∀v,p.2.data≠.cell v
 hok:yJ X.prog X.w H s.heap
 len:U.length=X.N.length
section
variable {X:Cx} {pins:Tq} {U:List (Option V)} {H H':Hp} {s:Shared} {h':Heap}
def Cx.Ok.nofr(ok:X.Ok){b:Addr}{o:Obj}(e:X.base.get? b=some o):b∉X.fs:=fun hb=>by
 have:=(ok.funs.mem hb).1;rw[e]at this;cases this
def Inv.bs(I:Inv X pins U H s):∀b o,X.base.get? b=some o->s.heap.get? b=some o/\H b=none:=fun b o e=>
 ⟨I.base.keep b o (I.ok.bs b o e).1 (I.ok.bs b o e).2 (I.ok.nofr e) (I.ok.noex b o e),I.base.free b o (I.ok.bs b o e).1 (I.ok.bs b o e).2 (I.ok.noex b o e)⟩
def Inv.bk(I:Inv X pins U H s):∀b o,X.base.get? b=some o->s.heap.get? b=some o:=fun b o e=>(I.bs b o e).1
def Inv.mod(I:Inv X pins U H s):Mod X.K X.mg X.base:=I.ok.mod
def Inv.kIn(I:Inv X pins U H s):X.K.In s.heap:=I.ok.mod.kin.keeps I.bk
def Inv.lt(I:Inv X pins U H s):X.env.locals < s.heap.objs.size:=let ⟨_,hn,_⟩:=I.loc;hn.lt
def Inv.sz(I:Inv X pins U H s):X.s₀.heap.objs.size<=s.heap.objs.size:=wSa I.ok.above (wQa I.lt)
def Inv.nofs(I:Inv X pins U H s)(h:s.heap.objs.size<=a):a∉X.fs:=fun hb=>by
 obtain⟨_,o,ho,_⟩:=I.ok.funs.mem hb;exact vDa (Nat.lt_of_lt_of_le (wLa ho) (wSa I.sz h)) (wUa _)
def Inv.cne(I:Inv X pins U H s):∀x c,X.env.cells.lookup x=some c->c≠X.env.locals:=fun x c e z=>by
 obtain⟨v,o,ho,hd⟩:=I.cell x c e;obtain⟨m,⟨o',es,ep,ho',hd',_⟩,_⟩:=I.loc;rw[z,ho']at ho;cases ho;rw[hd']at hd;cases hd
def Inv.funs(I:Inv X pins U H s):s.heap.FunFrames X.base X.outer:=by
 have all:∀(l:List Env),(∀b∈Vi l,b∈X.fs)->X.s₀.heap.FunFrames X.base l->s.heap.FunFrames X.base l:=by
  intro l;induction l with
  | nil=>intro _ _;trivial
  | cons env r ih=>
   intro hs hl;obtain⟨hk,⟨L,o,hf,hn,ho,hd⟩,hr⟩:=hl;have hL:L∈X.fs:=hs L (by unfold Vi;rw[List.filterMap_cons,hf];exact wNa);obtain⟨sl,e⟩:=I.base.slot L o ho (I.ok.frf L hL) hL fun z=>I.ok.exfs L z hL;exact⟨hk,⟨L,_,hf,hn,e,hd⟩,ih (fun b hb=>hs b (by unfold Vi;rw[List.filterMap_cons,hf];exact wMa _ hb)) hr⟩
 exact all X.outer (fun _ hb=>hb) I.ok.funs
def Inv.stack(I:Inv X pins U H s):s.heap.FunFrames X.base X.stack:=by
 rcases I.ok.stk with e | ⟨e,hf⟩
 ·rw[e];exact I.funs
 ·rw[e];obtain⟨m,hn,_⟩:=I.loc;refine .cons (by rw[I.ok.kind];decide) hf hn ?_ I.funs;exact Heap.get?_none_of_le (wSa I.ok.bsz I.ok.above)
def Inv.stkSub(I:Inv X pins U H s):∀b∈Vi X.stack,b∈X.env.locals::X.fs:=fun b hb=>by
 rcases I.ok.stk with e | ⟨e,hf⟩
 ·rw[e]at hb;exact wMa _ hb
 ·rw[e]at hb;unfold Vi at hb;rw[List.filterMap_cons,hf]at hb;exact hb
def Inv.stkFree(I:Inv X pins U H s):∀b∈Vi X.stack,H b=none:=fun b hb=>by
 rcases uTa (I.stkSub b hb)with e | hb
 ·rw[e];exact I.free
 ·obtain⟨_,o,ho,_⟩:=I.ok.funs.mem hb;exact I.base.free b o ho (I.ok.frf b hb) fun z=>I.ok.exfs b z hb
def Inv.step{g':Array GenState}{t':Nat}{d':Drawn}{ch:List Addr}(I:Inv X pins U H s)
  (hch:∀b∈ch,(b∈X.ex \/ X.s₀.heap.objs.size<=b)/\b≠X.env.locals/\(∀x c,X.env.cells.lookup x=some c->c≠b)/\∀p∈X.pn++pins,p.1≠b)
  (keep:∀b o,b≠X.env.locals->b∉X.fs->b∉ch->s.heap.get? b=some o->H b=none->h'.get? b=some o)
  (slot:∀b o,b≠X.env.locals->b∈X.fs->b∉ch->s.heap.get? b=some o->H b=none->∃sl,h'.get? b=some { o with slots:=sl }) (free:∀b o,b∉ch->s.heap.get? b=some o->H b=none->H' b=none)
  (there:∀b o,b∉ch->s.heap.get? b=some o->∃o',h'.get? b=some o')
  (tups:∀b xs,H b=some (.tup xs)->H' b=some (.tup xs)) (frzs:∀b o u,H b=some (.frz o u)->H' b=some (.frz o u)) (tbls:∀b ps,H b=some (.tbl ps)->∃more,H' b=some (.tbl (ps++more)))
  (ns:∀m,s.heap.Ns X.env.locals m->h'.Ns X.env.locals m) (hok:yJ X.prog X.w H' h') (hg:AllBare g'):
  Inv X pins U H' { s with heap:=h',gens:=g',drawn:=d',toks:=t' }:=by
 have neL:∀b o,X.s₀.heap.get? b=some o->b≠X.env.locals:=fun b o e=>wTa (Nat.lt_of_lt_of_le (wLa e) I.ok.above);have neC:∀b o,X.s₀.heap.get? b=some o->b∉X.ex->b∉ch:=fun b o e hx hb=>by
  rcases(hch b hb).1 with z | z
  ·exact hx z
  ·exact vDa (Nat.lt_of_lt_of_le (wLa e) z) (wUa _)
 have cellK:∀x c,X.env.cells.lookup x=some c->∀v,s.heap.IsCell c v->h'.IsCell c v:=fun x c e v xx=>by
  obtain⟨o,ho,hd⟩:=xx;have nch:c∉ch:=fun z=>(hch c z).2.2.1 x c e rfl;by_cases hc:c∈X.fs
  ·obtain⟨sl,q⟩:=slot c o (I.cne x c e) hc nch ho (I.freeC x c e);exact⟨_,q,hd⟩
  ·exact⟨o,keep c o (I.cne x c e) hc nch ho (I.freeC x c e),hd⟩
 refine⟨I.ok,I.os,hg,⟨fun b o e n hb hx=>?_,fun b o e n hb hx=>?_,fun b o e n hx=>?_,fun b o e hx=>?_,fun b xs e=>tups b xs (I.base.tups b xs e),fun b o xs e=>frzs b o xs (I.base.frzs b o xs e),fun b ps e=>?_⟩,?_,fun x c e=>?_,?_,fun x c e=>?_,fun p hp=>?_,hok,I.len⟩
 ·exact keep b o (neL b o e) hb (neC b o e hx) (I.base.keep b o e n hb hx) (I.base.free b o e n hx)
 ·obtain⟨sl,e1⟩:=I.base.slot b o e n hb hx;obtain⟨sl',e2⟩:=slot b _ (neL b o e) hb (neC b o e hx) e1 (I.base.free b o e n hx);exact⟨sl',e2⟩
 ·obtain⟨o',e1⟩:=I.base.there b o e hx;exact free b o' (neC b o e hx) e1 (I.base.free b o e n hx)
 ·obtain⟨o',e1⟩:=I.base.there b o e hx;exact there b o' (neC b o e hx) e1
 ·obtain⟨m1,e1⟩:=I.base.tbls b ps e;obtain⟨m2,e2⟩:=tbls b _ e1;exact⟨m1++m2,by rw[e2,Array.append_assoc]⟩
 ·obtain⟨m,hn,hl⟩:=I.loc;refine⟨m,ns m hn,fun i x v e1 e2 e3=>?_⟩;obtain⟨u,r,l⟩:=hl i x v e1 e2 e3;refine⟨u,r,?_⟩;rcases l with l | ⟨k,c,e,z⟩
  ·exact .inl l
  ·exact .inr ⟨k,c,e,cellK x c e _ z⟩
 ·obtain⟨v,z⟩:=I.cell x c e;exact⟨v,cellK x c e v z⟩
 ·obtain⟨m,⟨o,_,_,ho,_⟩,_⟩:=I.loc;exact free _ o (fun z=>(hch _ z).2.1 rfl) ho I.free
 ·obtain⟨v,o,ho,hd⟩:=I.cell x c e;exact free c o (fun z=>(hch c z).2.2.1 x c e rfl) ho (I.freeC x c e)
 ·obtain⟨e,n,ne,nf,d⟩:=I.pin p hp;have nch:p.1∉ch:=fun z=>(hch p.1 z).2.2.2 p hp rfl;exact⟨keep p.1 p.2 ne nf nch e n,free p.1 p.2 nch e n,ne,nf,d⟩
def Inv.un{t':Nat}(I:Inv X pins U H s)(u:Un X.fs [] H H' s.heap h')(hok:yJ X.prog X.w H' h'):Inv X pins U H' { s with heap:=h',toks:=t' }:=by
 obtain⟨m,⟨o,es,ep,ho,r⟩,_⟩:=id I.loc;obtain⟨sl,hL⟩:=u.any ho I.free (by simp);exact I.step (g':=s.gens) (d':=s.drawn) (ch:=[]) (fun _ z=>nomatch z) (fun b o _ hb _ e n=>u.keep b o e n hb (by simp)) (fun b o _ hb _ e n=>u.slot b o e n hb (by simp)) (fun b o _ e n=>u.free b o e n (by simp)) (fun b o _ e=>u.there b o e (by simp)) u.tups u.frzs u.tbls (fun m' hm=>by
  obtain⟨o',es',ep',ho',r'⟩:=hm;rw[ho]at ho';cases ho';exact⟨_,es',ep',hL,r'⟩) hok I.bare
def Inv.call{g':Array GenState}{t':Nat}{d':Drawn}{ch:List Addr}(I:Inv X pins U H s)(u:Un (Vi X.stack) ch H H' s.heap h')(hok:yJ X.prog X.w H' h')(hg:AllBare g')
  (hch:∀b∈ch,(b∈X.ex \/ X.s₀.heap.objs.size<=b)/\b≠X.env.locals/\(∀x c,X.env.cells.lookup x=some c->c≠b)/\∀p∈X.pn++pins,p.1≠b):
  Inv X pins U H' { s with heap:=h',gens:=g',drawn:=d',toks:=t' }:=by
 obtain⟨m,⟨o,es,ep,ho,r⟩,_⟩:=id I.loc;obtain⟨sl,hL⟩:=u.any ho I.free fun z=>(hch _ z).2.1 rfl;exact I.step (ch:=ch) hch (fun b o hL hb hc e n=>u.keep b o e n (fun z=>(uTa (I.stkSub b z)).elim hL hb) hc) (fun b o _ _ hc e n=>u.any e n hc) (fun b o hc e n=>u.free b o e n hc) (fun b o hc e=>u.there b o e hc) u.tups u.frzs u.tbls (fun m' hm=>by
  obtain⟨o',es',ep',ho',r'⟩:=hm;rw[ho]at ho';cases ho';exact⟨_,es',ep',hL,r'⟩) hok hg
def Inv.turned{t':Nat}{it:Addr}(I:Inv X pins U H s)(k:∀b o,b≠it->s.heap.get? b=some o->h'.get? b=some o)(hn:H it=none)(hL:it≠X.env.locals)
  (h1:it∈X.ex \/ X.s₀.heap.objs.size<=it) (h2:∀x c,X.env.cells.lookup x=some c->c≠it) (h3:∀p∈X.pn++pins,p.1≠it):Inv X pins U H { s with heap:=h',toks:=t' }:=by
 have nit:∀b u,H b=some u->b≠it:=fun b u e z=>by rw[z,hn]at e;cases e
 refine I.step (g':=s.gens) (d':=s.drawn) (ch:=[it]) (fun b hb=>?_) (fun b o _ _ hc e _=>k b o (fun z=>hc (by simp[z])) e) (fun b o _ _ hc e _=>⟨o.slots,k b o (fun z=>hc (by simp[z])) e⟩) (fun _ _ _ _ n=>n)
  (fun b o hc e=>⟨o,k b o (fun z=>hc (by simp[z])) e⟩) (fun _ _ e=>e) (fun _ _ _ e=>e) (fun b ps e=>⟨#[],by rw[e];simp⟩) (fun m hm=>?_) (fun b u e=>?_) I.bare
 ·have e:b=it:=by simpa using hb
  subst e;exact⟨h1,hL,h2,h3⟩
 ·obtain⟨o,es,ep,ho,r⟩:=hm;exact⟨o,es,ep,k _ o (Ne.symm hL) ho,r⟩
 ·refine(I.hok b u e).stay (fun c v hc q=>k c v ?_ q) (fun _ q=>q) fun _ _ q=>q;rcases hc with z | z
  ·rw[z];exact nit b u e
  ·exact nit c _ z
def Inv.tok(I:Inv X pins U H s)(t:Nat):Inv X pins U H { s with toks:=t }:=I.un (h':=s.heap) (t':=t) Un.refl I.hok
def Inv.kept(I:Inv X pins U H s)(k:∀b u,s.heap.get? b=some u->h'.get? b=some u):Inv X pins U H { s with heap:=h',toks:=t' }:=I.un (Un.kept k) (I.hok.kept k)
def Inv.laid(I:Inv X pins U H s)(k:∀b u,s.heap.get? b=some u->h'.get? b=some u)(hp:s.heap.objs.size<=a)(new:yf X.prog X.w (upd H a o) h' a o):
  Inv X pins U (upd H a o) { s with heap:=h',toks:=t' }:=I.un (Un.laid k hp (I.hok.fresh hp)) (I.hok.laid k hp new)
def Inv.write(I:Inv X pins U H s)(mu:bP (H x))(he:e=x \/ H e=some (.own x))(k:∀b u,b≠e->s.heap.get? b=some u->h'.get? b=some u)(heo:∃u,h'.get? e=some u)
  (new:yf X.prog X.w (upd H x o) h' x o):Inv X pins U (upd H x o) { s with heap:=h',toks:=t' }:=I.un (Un.write mu he k heo) (I.hok.write mu he k heo new)
def Inv.weak(I:Inv X pins U H s)(hl:U'.length=U.length)(w:∀(i:Nat) v,U'[i]?=some (some v)->U[i]?=some (some v)):Inv X pins U' H s:=
 ⟨I.ok,I.os,I.bare,I.base,let ⟨m,hn,hl'⟩:=I.loc;⟨m,hn,fun i x v e1 e2 e3=>hl' i x v e1 (w i v e2) e3⟩,I.cell,I.free,I.freeC,I.pin,I.hok,hl.trans I.len⟩
def Inv.pins_of(I:Inv X pins U H s)(h:∀p∈pins',s.heap.get? p.1=some p.2/\H p.1=none/\p.1≠X.env.locals/\p.1∉X.fs/\∀v,p.2.data≠.cell v):Inv X pins' U H s:=
 ⟨I.ok,I.os,I.bare,I.base,I.loc,I.cell,I.free,I.freeC,fun p hp=>(uWa hp).elim (fun z=>I.pin p (vIa _ z)) (h p),I.hok,I.len⟩
def Wg{N:List Str}(hN:N.Nodup){i j:Nat}{x:Str}(a:N[i]?=some x)(b:N[j]?=some x):i=j:=by
 obtain⟨h1,e1⟩:=uSa a;obtain⟨h2,e2⟩:=uSa b;exact(List.getElem_inj hN).mp (e1.trans e2.symm)
def UB{M:Model}{A:Around}{E:Tz}{i:Nat}{x:Str}{v:V}{u:Value}{Q:Unit->Shared->Prop}(I:Inv X pins U H s)(hN:X.N.Nodup)(hi:X.N[i]?=some x)(hx:UA X.env.scope x)(r:jw v u)
  (h:∀s',Inv X pins (U.set i (some v)) H s'->(∃a,Heap.SameBut a s.heap s'.heap/\(a=X.env.locals \/ X.env.cells.lookup x=some a))->Q () s') (hf:X.fn x=true \/ X.env.scope.names.lookup x=some .local:=by first | exact .inl rfl | exact .inr rfl | assumption):wpAny M A (storeName X.env x u) Q E s:=by
 obtain⟨m,hn,hl⟩:=id I.loc;have hcls:(X.env.scope.kind==.class||(X.env.scope.kind==.module&&X.env.locals != X.env.globals))=false:=by rw[I.ok.kind];rfl
 have hiU:i < U.length:=by rw[I.len];exact(uSa hi).1
 have cne:=I.cne;have tracked:∀{a:Addr} {h':Heap},(∃o,s.heap.get? a=some o/\H a=none)->Heap.SameBut a s.heap h'->yJ X.prog X.w H h':=fun {a h'} ha hs b ob e=>by
  obtain⟨_,_,hfree⟩:=ha;refine(I.hok b ob e).stay (fun c w' hc q=>(hs.2 c ?_).trans q) (fun _ q=>q) fun _ _ q=>q;rintro rfl;rcases hc with rfl | hc
  ·rw[hfree]at e;cases e
  ·rw[hfree]at hc;cases hc
 rcases hx with hk | hk
 ·refine wpAny_storeName_local hk hn (fun h' hn' hs=>?_) hcls;obtain⟨oL,_,_,hoL,_⟩:=id hn;refine h _ ⟨I.ok,I.os,I.bare,⟨fun b o e n hb hx=>?_,fun b o e n hb hx=>?_,I.base.free,fun b o e hx=>?_,I.base.tups,I.base.frzs,I.base.tbls⟩,⟨_,hn',fun j y v' e1 e2 e3=>?_⟩,fun y c e=>?_,I.free,I.freeC,fun p hp=>?_,tracked ⟨oL,hoL,I.free⟩ hs,by simpa using I.len⟩ ⟨_,hs,.inl rfl⟩
  ·exact(hs.2 b (wTa (Nat.lt_of_lt_of_le (wLa e) I.ok.above))).trans (I.base.keep b o e n hb hx)
  ·obtain⟨sl,e1⟩:=I.base.slot b o e n hb hx;exact⟨sl,(hs.2 b (wTa (Nat.lt_of_lt_of_le (wLa e) I.ok.above))).trans e1⟩
  ·obtain⟨o',e1⟩:=I.base.there b o e hx;exact⟨o',(hs.2 b (wTa (Nat.lt_of_lt_of_le (wLa e) I.ok.above))).trans e1⟩
  ·by_cases hj:j=i
   ·subst hj;rw[hi]at e1;cases e1;rw[List.getElem?_set_self hiU]at e2;cases e2;exact⟨u,r,.inl ⟨hk,by simp⟩⟩
   ·rw[List.getElem?_set_ne (Ne.symm hj)]at e2;obtain⟨u',r',q⟩:=hl j y v' e1 e2 e3;refine⟨u',r',?_⟩;rcases q with⟨k,e⟩ | ⟨k,c,e,z⟩
    ·refine .inl ⟨k,?_⟩;have:y≠x:=fun e=>hj (Wg hN e1 (e▸hi));simp[this,e]
    ·exact .inr ⟨k,c,e,z.sameBut hs (cne y c e)⟩
  ·obtain⟨w',z⟩:=I.cell y c e;exact⟨w',z.sameBut hs (cne y c e)⟩
  ·obtain⟨e,n,ne,nf,d⟩:=I.pin p hp;exact⟨(hs.2 p.1 ne).trans e,n,ne,nf,d⟩
 ·have hfn:X.fn x=true:=by
   rcases hf with z | z
   ·exact z
   ·rw[z]at hk;cases hk
  obtain⟨c,hc⟩:=I.ok.has x (.inl hk);obtain⟨w',z⟩:=I.cell x c hc;refine wpAny_storeName_cell I.ok.kind hk hc z (fun h' hc' hs=>?_);obtain⟨oc,hoc,hocd⟩:=id z;refine h { s with heap:=h' } ⟨I.ok,I.os,I.bare,⟨fun b o e n hb hx=>?_,fun b o e n hb hx=>?_,I.base.free,fun b o e hx=>?_,I.base.tups,I.base.frzs,I.base.tbls⟩,⟨m,hn.sameBut hs (Ne.symm (cne x c hc)),fun j y v' e1 e2 e3=>?_⟩,fun y c' e=>?_,I.free,I.freeC,fun p hp=>?_,tracked ⟨oc,hoc,I.freeC x c hc⟩ hs,by simpa using I.len⟩ ⟨c,hs,.inr hc⟩
  ·exact(hs.2 b (wTa (Nat.lt_of_lt_of_le (wLa e) (I.ok.cab x c hfn hc)))).trans (I.base.keep b o e n hb hx)
  ·obtain⟨sl,e1⟩:=I.base.slot b o e n hb hx;exact⟨sl,(hs.2 b (wTa (Nat.lt_of_lt_of_le (wLa e) (I.ok.cab x c hfn hc)))).trans e1⟩
  ·obtain⟨o',e1⟩:=I.base.there b o e hx;exact⟨o',(hs.2 b (wTa (Nat.lt_of_lt_of_le (wLa e) (I.ok.cab x c hfn hc)))).trans e1⟩
  ·by_cases hj:j=i
   ·subst hj;rw[hi]at e1;cases e1;rw[List.getElem?_set_self hiU]at e2;cases e2;exact⟨u,r,.inr ⟨.inl hk,c,hc,hc'⟩⟩
   ·rw[List.getElem?_set_ne (Ne.symm hj)]at e2;obtain⟨u',r',q⟩:=hl j y v' e1 e2 e3;refine⟨u',r',?_⟩;rcases q with q | ⟨k,c',e,z'⟩
    ·exact .inl q
    ·refine .inr ⟨k,c',e,z'.sameBut hs ?_⟩;rintro rfl;exact hj (Wg hN e1 (I.ok.inj _ _ _ e hc▸hi))
  ·by_cases hcc:c'=c
   ·subst hcc;exact⟨_,hc'⟩
   ·obtain⟨w2,z2⟩:=I.cell y c' e;exact⟨w2,z2.sameBut hs hcc⟩
  ·obtain⟨e,n,ne,nf,d⟩:=I.pin p hp;refine⟨(hs.2 p.1 ?_).trans e,n,ne,nf,d⟩;intro q;rw[q,hoc]at e;have q':oc=p.2:=vFa e;exact d w' (by rw[<-q'];exact hocd)
def GQ(I:Inv X pins U H s)(hN:X.N.Nodup)(hi:X.N[i]?=some x)(hx:UA X.env.scope x)(r:jw v u)
  (h:∀s',Inv X pins (U.set i (some v)) H s'->Q () s') (hf:X.fn x=true \/ X.env.scope.names.lookup x=some .local:=by first | exact .inl rfl | exact .inr rfl | assumption):wpAny M A (storeName X.env x u) Q E s:=
 UB I hN hi hx r (fun s' I' _=>h s' I') hf
def Inv.call'(I:Inv X pins U H s)(ho:s'.os=s.os)(u:Un (Vi X.stack) ch H H' s.heap s'.heap)(hok:yJ X.prog X.w H' s'.heap)(hg:AllBare s'.gens)
  (hch:∀b∈ch,(b∈X.ex \/ X.s₀.heap.objs.size<=b)/\b≠X.env.locals/\(∀x c,X.env.cells.lookup x=some c->c≠b)/\∀p∈X.pn++pins,p.1≠b):Inv X pins U H' s':=by
 obtain⟨h',g',d',t',o'⟩:=s';have e:o'=s.os:=ho;subst e;exact I.call (g':=g') (t':=t') (d':=d') u hok hg hch
end
noncomputable abbrev XK:=Value->Option Addr->Hp->Prop
noncomputable abbrev St:=List (Option V)
noncomputable abbrev VK:=V->Hp->Prop
noncomputable abbrev TE:=St->Hp->VK->Prop
noncomputable abbrev TT:=St->Hp->(Bool->Hp->Prop)->Prop
noncomputable abbrev TA:=St->Hp->(List V->Hp->Prop)->Prop
structure Ends where
 nx:St->Hp->Prop
 rt:VK
 bk:St->Hp->Prop:=fun _ _=>False
 ct:St->Hp->Prop:=fun _ _=>False
noncomputable abbrev TS:=Ends->St->Hp->Prop
def EP(X:Cx)(pins:Tq)(U:St)(Q:VK)(u:Value)(s':Shared):Prop:=∃v H',Inv X pins U H' s'/\jw v u/\Q v H'
def TP(X:Cx)(pins:Tq)(U:St)(Q:Bool->Hp->Prop)(b:Bool)(s':Shared):Prop:=∃H',Inv X pins U H' s'/\Q b H'
def AP(X:Cx)(pins:Tq)(U:St)(Q:List V->Hp->Prop)(us:List Value)(s':Shared):Prop:=∃vs H',Inv X pins U H' s'/\jq vs us/\Q vs H'
def SP(X:Cx)(pins:Tq)(D:Ends)(f:Flow)(s':Shared):Prop:=
 match f with
 | .next=>∃U' H',Inv X pins U' H' s'/\D.nx U' H'
 | .brk=>∃U' H',Inv X pins U' H' s'/\D.bk U' H'
 | .cont=>∃U' H',Inv X pins U' H' s'/\D.ct U' H'
 | .ret u=>∃v U' H',Inv X pins U' H' s'/\jw v u/\D.rt v H'
def PE(X:Cx)(e:Expr)(t:TE):Prop:=
 ∀(pins:Tq) (s:Shared) (U:St) (H:Hp) (Q:VK),Inv X pins U H s->t U H Q->wpAny (model X.prog X.w) X.A (eval e X.env) (EP X pins U Q) X.xe s
def PT(X:Cx)(e:Expr)(t:TT):Prop:=
 ∀(pins:Tq) (s:Shared) (U:St) (H:Hp) (Q:Bool->Hp->Prop),Inv X pins U H s->t U H Q->wpAny (model X.prog X.w) X.A (isTrue e X.env (eval e X.env)) (TP X pins U Q) X.xe s
def PW(X:Cx)(e:Expr)(t:TT):Prop:=
 ∀(whole:Sem Value) (pins:Tq) (s:Shared) (U:St) (H:Hp) (Q:Bool->Hp->Prop),Inv X pins U H s->t U H Q->wpAny (model X.prog X.w) X.A (isTrue e X.env whole) (TP X pins U Q) X.xe s
def PW.pt(h:PW X e t):PT X e t:=h _
def PA(X:Cx)(es:List Expr)(t:TA):Prop:=
 ∀(pos:Pos) (pins:Tq) (s:Shared) (U:St) (H:Hp) (Q:List V->Hp->Prop),Inv X pins U H s->t U H Q->wpAny (model X.prog X.w) X.A (spliced (backTo pos (starEach es X.env))) (AP X pins U Q) X.xe s
def PS(X:Cx)(st:Stmt)(t:TS):Prop:=
 ∀(pins:Tq) (s:Shared) (U:St) (H:Hp) (D:Ends),Inv X pins U H s->t D U H->wpAny (model X.prog X.w) X.A (exec st X.env) (SP X pins D) X.xe s
def jP(X:Cx)(st:List Stmt)(t:TS):Prop:=
 ∀(pins:Tq) (s:Shared) (U:St) (H:Hp) (D:Ends),Inv X pins U H s->t D U H->wpAny (model X.prog X.w) X.A (execs st X.env) (SP X pins D) X.xe s
def ju{α:Type}{t:Sem α}{Q Q':α->Shared->Prop}{M:Model}{A:Around}{E:Tz}{s:Shared}(h:wpAny M A t Q E s)(hQ:∀a s,Q a s->Q' a s):wpAny M A t Q' E s:=wCa h hQ fun _ _ x=>x
section
variable {X:Cx}
def zo(i:Nat):TE:=fun U H Q=>∃v,U[i]?=some (some v)/\Q v H
def tC(v:V):TE:=fun _ H Q=>Q v H
def dQ(hN:X.N[i]?=some x)(hv:Q3 X.env.scope x)(hd:(x==("__debug__" : Str))=false:=by decide)(hcd:(x==("__classdict__" : Str))=false:=by decide):PE X (.Name x pos) (zo i):=by
 intro pins s U H Q I h;obtain⟨v,e,h⟩:=h;obtain⟨m,hn,hl⟩:=I.loc;obtain⟨u,r,l⟩:=hl i x v hN e hv;have fin:EP X pins U Q u s:=⟨v,H,I,r,h⟩
 rcases l with⟨hk,hm⟩ | ⟨hk,c,hc,hcell⟩
 ·exact wpAny_Name (wpAny_loadName_local I.ok.kind hk hn hm fin) hd
 ·rcases hk with hk | hk
  ·exact wpAny_Name (wpAny_loadName_cell I.ok.kind hk hc hcell fin) hd
  ·exact wpAny_Name (wpAny_loadName_free I.ok.kind hk hc hcell fin hcd) hd
def Wh{i j pos}:PE X (.Constant (.int i) j pos) (tC (.int i)):=fun _ _ _ H _ I h=>wpAny_Constant_int ⟨.int i,H,I.tok _,⟨_,rfl⟩,h⟩
def FD{b j pos}:PE X (.Constant (.bool b) j pos) (tC (.bl b)):=fun _ _ _ H _ I h=>Constant_bool ⟨.bl b,H,I,rfl,h⟩
def dR{j pos}:PE X (.Constant .none j pos) (tC .non):=fun _ _ _ H _ I h=>Constant_none ⟨.non,H,I,rfl,h⟩
def dS{x j pos}:PE X (.Constant (.str x) j pos) (tC (.str x)):=fun _ _ _ H _ I h=>Calls.Constant_str ⟨.str x,H,I.tok _,⟨_,rfl⟩,h⟩
def Gl(X:Cx)(x:Str):Prop:=X.env.kindOf x=some .globalImplicit
def Ku(I:Inv X pins U H s)(hg:Gl X x)(hm:X.mg x=some u)(h:Q u s)
  (hd:(x==("__debug__" : Str))=false:=by decide):wpAny (model X.prog X.w) X.A (eval (.Name x pos) X.env) Q E s:=
 Calls.Name_function_global I.ok.kind hg (Calls.loadGlobal_global (by rw[I.ok.glob];exact I.mod.glob.keeps I.bk) hm h) hd
def ZH(I:Inv X pins U H s)(hg:Gl X x)(hm:X.mg x=none)(hv:bootBuiltins x=some u)(h:Q u s)
  (hn:x≠ "__name__" := by decide) (hd:(x==("__debug__" : Str))=false:=by decide):wpAny (model X.prog X.w) X.A (eval (.Name x pos) X.env) Q E s:=by
 obtain⟨mb,h1,h2⟩:=I.mod.blt;exact Calls.Name_function_global I.ok.kind hg (Calls.loadGlobal_builtin (by rw[I.ok.glob];exact I.mod.glob.keeps I.bk) hm (by rw[I.ok.blt];exact h1.keeps I.bk) ((h2 x hn).trans hv) h) hd
def ck(hg:Gl X x)(hm:X.mg x=some u)(r:jw v u)(hd:(x==("__debug__" : Str))=false:=by decide):PE X (.Name x pos) (tC v):=
 fun _ _ _ H _ I h=>Ku I hg hm ⟨v,H,I,r,h⟩ hd
def cm(hg:Gl X x)(hm:X.mg x=none)(hv:bootBuiltins x=some u)(r:jw v u)(hn:x≠ "__name__" := by decide)(hd:(x==("__debug__" : Str))=false:=by decide):PE X (.Name x pos) (tC v):=
 fun _ _ _ H _ I h=>ZH I hg hm hv ⟨v,H,I,r,h⟩ hn hd
variable {a b:Expr} {ta tb:TE} {pos:Pos}
variable {tA tB':TT} {rest:List Expr}
def IK(t u:TT):TT:=fun U H Q=>t U H fun c H1=>if c=true then u U H1 Q else Q false H1
def Lk(t u:TT):TT:=fun U H Q=>t U H fun c H1=>if c=true then Q true H1 else u U H1 Q
def IL(t:TT):TT:=fun U H Q=>t U H fun c H1=>Q (!c) H1
def cn(ha:PT X a tA):PW X (.BoolOp .And [a] pos) tA:=by
 intro wh pins s U H Q I h;refine isTrue_and (ju (ha pins s U H Q I h) fun c s1 e=>?_);cases c with
 | true=>exact isTrue_and_nil e
 | false=>exact e
def dU(ha:PT X a tA):PW X (.BoolOp .Or [a] pos) tA:=by
 intro wh pins s U H Q I h;refine isTrue_or (ju (ha pins s U H Q I h) fun c s1 e=>?_);cases c with
 | false=>exact isTrue_or_nil e
 | true=>exact e
def dW(ha:PT X a tA)(hb:PW X (.BoolOp .And (b::rest) pos) tB'):PW X (.BoolOp .And (a::b::rest) pos) (IK tA tB'):=by
 intro wh pins s U H Q I h;refine isTrue_and (ju (ha pins s U H _ I h) fun c s1 xx=>?_);obtain⟨H1,I1,q1⟩:=xx;cases c with
 | true=>exact hb wh pins s1 U H1 Q I1 q1
 | false=>exact⟨H1,I1,q1⟩
def FE(ha:PT X a tA)(hb:PW X (.BoolOp .Or (b::rest) pos) tB'):PW X (.BoolOp .Or (a::b::rest) pos) (Lk tA tB'):=by
 intro wh pins s U H Q I h;refine isTrue_or (ju (ha pins s U H _ I h) fun c s1 xx=>?_);obtain⟨H1,I1,q1⟩:=xx;cases c with
 | true=>exact⟨H1,I1,q1⟩
 | false=>exact hb wh pins s1 U H1 Q I1 q1
def dX(ha:PT X a tA):PT X (.UnaryOp .Not a pos) (IL tA):=by
 intro pins s U H Q I h;exact isTrue_not (ha pins s U H (fun c H1=>Q (!c) H1) I h)
def FF(ta tb:TE):TE:=fun U H Q=>ta U H fun x H1=>∃c,x=.bl c/\if c=true then tb U H1 Q else Q (.bl false) H1
def IM(ta tb:TE):TE:=fun U H Q=>ta U H fun x H1=>∃c,x=.bl c/\if c=true then Q (.bl true) H1 else tb U H1 Q
def FG(ta:TE):TE:=fun U H Q=>ta U H fun x H1=>∃c,x=.bl c/\Q (.bl (!c)) H1
def dY{op}(h:PE X a t):PE X (.BoolOp op [a] pos) t:=fun pins s U H Q I hw=>BoolOp_one (h pins s U H Q I hw)
def dZ(ha:PE X a ta)(hb:PE X (.BoolOp .And (b::rest) pos) tb):PE X (.BoolOp .And (a::b::rest) pos) (FF ta tb):=by
 intro pins s U H Q I h;refine BoolOp_and (ju (ha pins s U H _ I h) fun v s1 xx=>?_);obtain⟨x,H1,I1,r1,q1⟩:=xx;obtain⟨c,rfl,q1⟩:=q1;cases r1;refine wpAny_truthy_bool ?_;cases c with
 | true=>exact hb pins s1 U H1 Q I1 q1
 | false=>exact⟨.bl false,H1,I1,rfl,q1⟩
def FH(ha:PE X a ta)(hb:PE X (.BoolOp .Or (b::rest) pos) tb):PE X (.BoolOp .Or (a::b::rest) pos) (IM ta tb):=by
 intro pins s U H Q I h;refine BoolOp_or (ju (ha pins s U H _ I h) fun v s1 xx=>?_);obtain⟨x,H1,I1,r1,q1⟩:=xx;obtain⟨c,rfl,q1⟩:=q1;cases r1;refine wpAny_truthy_bool ?_;cases c with
 | false=>exact hb pins s1 U H1 Q I1 q1
 | true=>exact⟨.bl true,H1,I1,rfl,q1⟩
def d_(ha:PE X a ta):PE X (.UnaryOp .Not a pos) (FG ta):=by
 intro pins s U H Q I h;refine UnaryOp_ (ju (ha pins s U H _ I h) fun v s1 xx=>?_);obtain⟨x,H1,I1,r1,q1⟩:=xx;obtain⟨c,rfl,q1⟩:=q1;cases r1;exact not_of (wpAny_truthy_bool ⟨.bl (!c),H1,I1,rfl,q1⟩)
def Ll(t:TT)(ta tb:TE):TE:=fun U H Q=>t U H fun c H1=>if c=true then ta U H1 Q else tb U H1 Q
def aW(hc:PT X c tA)(ha:PE X a ta)(hb:PE X b tb):PE X (.IfExp c a b pos) (Ll tA ta tb):=by
 intro pins s U H Q I h;refine wpAny_IfExp (ju (hc pins s U H _ I h) fun d s1 xx=>?_);obtain⟨H1,I1,q1⟩:=xx;cases d with
 | true=>exact ha pins s1 U H1 Q I1 q1
 | false=>exact hb pins s1 U H1 Q I1 q1
end
def jC(K:uXa)(H:Hp)(a:Addr)(xs:List V):Prop:=
 Rd H a (.lst xs) \/
  ∃(o:Obj) (its:Array Value) (n:Nat),K.lookup a=some o/\o.cls=.type "list" /\o.dict=none/\o.data=.seq its n/\its.size<=sizeLine/\jq xs its.toList
def Jr(K:uXa)(H:Hp)(a:Addr)(xs:List V):Prop:=
 Rd H a (.tup xs) \/
  ∃(o:Obj) (its:Array Value) (n:Nat),K.lookup a=some o/\o.cls=.type "tuple" /\o.data=.seq its n/\its.size<=sizeLine/\jq xs its.toList
noncomputable def IO:Value->Option V
 | .none=>some .non
 | .bool b=>some (.bl b)
 | .int i _=>some (.int i)
 | .str x _=>some (.str x)
 | .ref a=>some (.ref a)
 | .type n=>some (.ty n)
 | _=>none
def jw.abs(r:jw x u):IO u=some x:=by
 cases x with
 | non=>cases r;rfl
 | bl _=>cases r;rfl
 | int _=>obtain⟨t,rfl⟩:=r;rfl
 | str _=>obtain⟨t,rfl⟩:=r;rfl
 | ref _=>cases r;rfl
 | ty _=>cases r;rfl
def jw.inj(r:jw x u)(q:jw y u):x=y:=vFa (r.abs.symm.trans q.abs)
theorem jq.inj:∀{xs ys:List V} {us:List Value},jq xs us->jq ys us->xs=ys
 | _,_,_,.nil,.nil=>rfl
 | _,_,_,.cons r t,.cons r' t'=>by rw[r.inj r',jq.inj t t']
section
variable {X:Cx} {pins:Tq} {U:St} {H:Hp} {s:Shared} {a:Addr} {xs ys:List V}
def jC.of{K:uXa}(h:H a=some (.lst xs)):jC K H a xs:=.inl (.inl h)
def Jr.of{K:uXa}(h:H a=some (.tup xs)):Jr K H a xs:=.inl (.inl h)
def Inv.list(I:Inv X pins U H s)(h:jC X.K H a xs):∃its:List Value,jq xs its/\PlainL s.heap a its.toArray/\xs.length<=sizeLine:=by
 rcases h with h | ⟨o,its,n,hk,hc,hd,hs,hz,r⟩
 ·obtain⟨z,its,n,r,e⟩:=h.ok I.hok;exact⟨its,r,⟨_,n,e,rfl,rfl,rfl⟩,z⟩
 ·refine⟨its.toList,r,⟨o,n,I.kIn a o hk,hc,hd,by simpa using hs⟩,?_⟩;have e:=r.length;simp only[Array.length_toList]at e
  lia
def Inv.tuple(I:Inv X pins U H s)(h:Jr X.K H a xs):∃its:List Value,jq xs its/\IsTup s.heap a its.toArray/\xs.length<=sizeLine:=by
 rcases h with h | ⟨o,its,n,hk,hc,hs,hz,r⟩
 ·obtain⟨z,its,r,p⟩:=h.ok I.hok;exact⟨its,r,p,z⟩
 ·refine⟨its.toList,r,⟨o,I.kIn a o hk,hc,n,by simpa using hs⟩,?_⟩;have e:=r.length;simp only[Array.length_toList]at e
  lia
def Inv.list_inj(I:Inv X pins U H s)(h:jC X.K H a xs)(h':jC X.K H a ys):xs=ys:=by
 obtain⟨its,r,⟨o,n,e,_,_,d⟩,_⟩:=I.list h;obtain⟨its',r',⟨o',n',e',_,_,d'⟩,_⟩:=I.list h';rw[e]at e';cases e';rw[d]at d';injection d' with d1 _;have:its=its':=by simpa using congrArg Array.toList d1
 subst this;exact r.inj r'
def Inv.tuple_inj(I:Inv X pins U H s)(h:Jr X.K H a xs)(h':Jr X.K H a ys):xs=ys:=by
 obtain⟨its,r,⟨o,e,_,n,d⟩,_⟩:=I.tuple h;obtain⟨its',r',⟨o',e',_,n',d'⟩,_⟩:=I.tuple h';rw[e]at e';cases e';rw[d]at d';injection d' with d1 _;have:its=its':=by simpa using congrArg Array.toList d1
 subst this;exact r.inj r'
end
noncomputable abbrev Cx.wish(X:Cx)(E:Tz):Cx:={ X with xe:=E }
abbrev Cx.nox(X:Cx):Cx:=X.wish fun _ _=>False
def Cx.Ok.wish{X:Cx}(ok:X.Ok)(E:Tz):(X.wish E).Ok:=
 ⟨ok.mod,ok.kind,ok.glob,ok.blt,ok.above,ok.inj,ok.has,ok.cab,ok.hd,ok.frames,ok.stk,ok.exf,ok.bs,ok.bsz,ok.noex,ok.exfs,ok.funs,ok.frf⟩
def Cx.Ok.unwish{X:Cx}{E:Tz}(ok:(X.wish E).Ok):X.Ok:=
 ⟨ok.mod,ok.kind,ok.glob,ok.blt,ok.above,ok.inj,ok.has,ok.cab,ok.hd,ok.frames,ok.stk,ok.exf,ok.bs,ok.bsz,ok.noex,ok.exfs,ok.funs,ok.frf⟩
section
variable {X:Cx} {pins:Tq} {U:St} {H:Hp} {s:Shared} {E:Tz}
def Inv.wish(I:Inv X pins U H s)(E:Tz):Inv (X.wish E) pins U H s:=⟨I.ok.wish E,I.os,I.bare,I.base,I.loc,I.cell,I.free,I.freeC,I.pin,I.hok,I.len⟩
def Inv.unwish(I:Inv (X.wish E) pins U H s):Inv X pins U H s:=⟨I.ok.unwish,I.os,I.bare,I.base,I.loc,I.cell,I.free,I.freeC,I.pin,I.hok,I.len⟩
def SP.unwish(h:SP (X.wish E) pins D f s'):SP X pins D f s':=by
 cases f with
 | next=>obtain⟨U',H',I,q⟩:=h;exact⟨U',H',I.unwish,q⟩
 | brk=>obtain⟨U',H',I,q⟩:=h;exact⟨U',H',I.unwish,q⟩
 | cont=>obtain⟨U',H',I,q⟩:=h;exact⟨U',H',I.unwish,q⟩
 | ret u=>obtain⟨v,U',H',I,r,q⟩:=h;exact⟨v,U',H',I.unwish,r,q⟩
def jP.nox{st:List Stmt}{t:TS}(h:jP X.nox st t):jP X st t:=fun pins s U H D I hw=>
 wCa (h pins s U H D (I.wish _) hw) (fun _ _ q=>q.unwish) fun _ _ z=>False.elim z
end
section
variable {X:Cx} {st:Stmt} {rest:List Stmt} {t u:TS} {e:Expr} {te:TE} {pos:Pos}
def FI:TS:=fun D U H=>D.nx U H
def IP(t u:TS):TS:=fun D U H=>t { D with nx:=u D } U H
def Kv:jP X [] FI:=fun _ _ U H _ I h=>wpAny_execs_nil ⟨U,H,I,h⟩
def Yq(h1:PS X st t)(h2:jP X rest u):jP X (st::rest) (IP t u):=by
 intro pins s U H D I h;refine wpAny_execs_cons (ju (h1 pins s U H { D with nx:=u D } I h) fun f s1 q=>?_);cases f with
 | next=>
  obtain⟨U',H',I',q⟩:=q;exact h2 pins s1 U' H' D I' q
 | ret v=>exact q
 | brk=>exact q
 | cont=>exact q
def Kw(h1:PS X st t):jP X [st] t:=by
 intro pins s U H D I h;refine wpAny_execs_cons (ju (h1 pins s U H D I h) fun f s1 q=>?_);cases f with
 | next=>exact wpAny_execs_nil q
 | ret v=>exact q
 | brk=>exact q
 | cont=>exact q
def Inv.quiet(I:Inv X pins U H s):interactive X.env=false:=by simp[interactive,I.ok.kind]
def kO(te:TE):TS:=fun D U H=>te U H fun _ H1=>D.nx U H1
def VX(he:PE X e te)(hs:swapsWith e none pos.line X.env=pure false:=by rfl):PS X (.Expr e pos) (kO te):=by
 intro pins s U H D I h;exact wpAny_Expr_any (ju (he pins s U H _ I h) fun v s1 ⟨x,H1,I1,r1,q1⟩=>⟨U,H1,I1,q1⟩) I.quiet hs
def IQ(te:TE):TS:=fun D U H=>te U H D.rt
def UC(he:PE X e te):PS X (.Return (some e) pos) (IQ te):=by
 intro pins s U H D I h;exact wpAny_Return_some (ju (he pins s U H _ I h) fun v s1 ⟨x,H1,I1,r1,q1⟩=>⟨x,U,H1,I1,r1,q1⟩)
def FJ:TS:=fun D _ H=>D.rt .non H
def cq:PS X (.Return none pos) FJ:=fun _ _ U H _ I h=>wpAny_Return_none ⟨.non,U,H,I,rfl,h⟩
def IR(c:TT)(t u:TS):TS:=fun D U H=>c U H fun b H1=>if b=true then t D U H1 else u D U H1
def QV(hc:PT X c tc)(ha:jP X a t)(hb:jP X b u):PS X (.If c a b pos) (IR tc t u):=by
 intro pins s U H D I h;refine wpAny_If (ju (hc pins s U H _ I h) fun d s1 xx=>?_);obtain⟨H1,I1,q1⟩:=xx;cases d with
 | true=>exact ha pins s1 U H1 D I1 q1
 | false=>exact hb pins s1 U H1 D I1 q1
def D0:TS:=fun _ _ _=>False
def x_:jP X sts D0:=fun _ _ _ _ _ _ h=>h.elim
end
noncomputable abbrev TG:=V->St->Hp->(St->Hp->Prop)->Prop
noncomputable abbrev Q4:=List V->St->Hp->(St->Hp->Prop)->Prop
def PG(X:Cx)(target:Expr)(t:TG):Prop:=
 ∀(pins:Tq) (s:Shared) (U:St) (H:Hp) (v:V) (u:Value) (Q:St->Hp->Prop),Inv X pins U H s->jw v u->t v U H Q->
  wpAny (model X.prog X.w) X.A (assign target X.env u) (fun _ s'=>∃U' H',Inv X pins U' H' s'/\Q U' H') X.xe s
def UD(X:Cx)(ts:List Expr)(t:Q4):Prop:=
 ∀(pins:Tq) (s:Shared) (U:St) (H:Hp) (vs:List V) (us:List Value) (Q:St->Hp->Prop),Inv X pins U H s->jq vs us->t vs U H Q->
  wpAny (model X.prog X.w) X.A (assignInOrder ((assignEach ts X.env).map (·.2)) us) (fun _ s'=>∃U' H',Inv X pins U' H' s'/\Q U' H') X.xe s
noncomputable abbrev D4:=V->V->V->Hp->(Hp->Prop)->Prop
def aX(X:Cx)(t:D4):Prop:=
 ∀(pins:Tq) (s:Shared) (U:St) (H:Hp) (o i v:V) (ov iv u:Value) (Q:Hp->Prop),Inv X pins U H s->jw o ov->jw i iv->jw v u->t o i v H Q->
  wpAny (model X.prog X.w) X.A (setItem ov iv u) (fun _ s'=>∃H',Inv X pins U H' s'/\Q H') X.xe s
noncomputable abbrev D5:=V->V->Hp->VK->Prop
def D6(X:Cx)(op:Operator)(t:D5):Prop:=
 ∀(pins:Tq) (s:Shared) (U:St) (H:Hp) (x y:V) (v u:Value) (Q:VK),Inv X pins U H s->jw x v->jw y u->t x y H Q->
  wpAny (model X.prog X.w) X.A (inplaceOp op v u) (EP X pins U Q) X.xe s
section
variable {X:Cx} {pos:Pos}
def Yh(i:Nat):TG:=fun v U H Q=>Q (U.set i (some v)) H
def gX(hN:X.N.Nodup)(hi:X.N[i]?=some x)(hx:UA X.env.scope x)(hf:X.fn x=true \/ X.env.scope.names.lookup x=some .local:=by first | exact .inl rfl | exact .inr rfl | assumption):PG X (.Name x pos) (Yh i):=by
 intro pins s U H v u Q I r h;exact wpAny_assign_Name (GQ I hN hi hx r (fun s' I'=>⟨_,H,I',h⟩) hf)
def D7:Q4:=fun vs U H Q=>vs=[]/\Q U H
def W0(t:TG)(u:Q4):Q4:=fun vs U H Q=>∃v r,vs=v::r/\t v U H fun U' H'=>u r U' H' Q
def Q5:UD X [] D7:=by
 intro pins s U H vs us Q I r h;obtain⟨e,h⟩:=h;subst e;cases r;exact assignInOrder_nil ⟨U,H,I,h⟩
theorem uB(h1:PG X e t)(h2:UD X es u)
  (hs:(assignEach (e::es) X.env).map (·.2)=assign e X.env::(assignEach es X.env).map (·.2):=by rfl):UD X (e::es) (W0 t u):=by
 intro pins s U H vs us Q I r h;obtain⟨v,vr,e1,h⟩:=h;subst e1;cases r with
 | cons r rr=>
  rw[hs];refine assignInOrder_cons (ju (h1 pins s U H _ _ _ I r h) fun _ s1 xx=>?_);obtain⟨U1,H1,I1,q1⟩:=xx;exact h2 pins s1 U1 H1 _ _ Q I1 rr q1
def D8(K:uXa)(n:Nat)(t:Q4):TG:=fun v U H Q=>∃a xs,v=.ref a/\Jr K H a xs/\xs.length=n/\t xs U H Q
def X0(hc:X.calm=true)(h:UD X es t)
  (hn:(assignEach es X.env).length=n:=by rfl) (hst:(assignEach es X.env).findIdx? (·.1)=none:=by rfl):PG X (.Tuple es k pos) (D8 X.K n t):=by
 intro pins s U H v u Q I r hw;obtain⟨a,xs,e1,hq,hl,hw⟩:=hw;subst e1;cases r;obtain⟨its,rv,ht,hz⟩:=I.tuple hq;refine assign_Tuple_tuple (I.ok.hd hc) ht (by simp[hn,<-hl,rv.length]) hst fun h' hx=>?_;have I1:Inv X pins U H { s with heap:=h' }:=I.kept (t':=s.toks) fun b o e=>hx b o (wTa (wLa e)) e;exact h pins _ U H xs _ Q I1 (by simpa using rv) hw
def aY(to ti:TE)(t:D4):TG:=fun v U H Q=>to U H fun o H1=>ti U H1 fun i H2=>t o i v H2 fun H3=>Q U H3
def X1(ho:PE X o to)(hi:PE X i ti)(hs:aX X t)
  (ha:∀v,assign (.Subscript o i pos) X.env v=(do
   let ov<-holding [v] (eval o X.env)
   let iv<-holding [v,ov] (eval i X.env)
   standAt pos
   holding [v,ov,iv] (setItem ov iv v)
   release [v,ov,iv] []):=by intro _;rfl):PG X (.Subscript o i pos) (aY to ti t):=by
 intro pins s U H v u Q I r h;rw[ha];refine wAa (wDa (ju (ho pins s U H _ I h) fun ov s1 xx=>?_));obtain⟨x,H1,I1,r1,q1⟩:=xx;refine wAa (wDa (ju (hi pins s1 U H1 _ I1 q1) fun iv s2 xx=>?_));obtain⟨y,H2,I2,r2,q2⟩:=xx;refine wAa (vOa (wAa (wDa (ju (hs pins s2 U H2 x y v ov iv u _ I2 r1 r2 r q2) fun _ s3 xx=>?_))));obtain⟨H3,I3,q3⟩:=xx;exact wpAny_release ⟨U,H3,I3,q3⟩
def zq(te:TE)(g:TG):TS:=fun D U H=>te U H fun x H1=>g x U H1 D.nx
def kP(he:PE X e te)(hg:PG X tg g)(hs:swapsWithSole [tg] e pos.line X.env=pure false:=by rfl)(hw:swappedStores [tg] e X.env=pure none:=by rfl)
  (h1:(assignEach [tg] X.env).map (·.2)=[assign tg X.env]:=by rfl):PS X (.Assign [tg] e pos) (zq te g):=by
 intro pins s U H D I h;refine wpAny_Assign_stores (ju (he pins s U H _ I h) fun v s1 xx=>?_) hs hw;obtain⟨x,H1,I1,r1,q1⟩:=xx;rw[h1];exact ju (hg pins s1 U H1 x v _ I1 r1 q1) fun _ s2 q=>q
def kQ(hN:X.N.Nodup)(hi:X.N[i]?=some x)(hx:UA X.env.scope x)(he:PE X e te)(hs:swapsWith e (some (.Name x pos')) pos.line X.env=pure false:=by rfl)(hf:X.fn x=true \/ X.env.scope.names.lookup x=some .local:=by first | exact .inl rfl | exact .inr rfl | assumption):
  PS X (.Assign [.Name x pos'] e pos) (zq te (Yh i)):=by
 intro pins s U H D I h;refine wpAny_Assign_Name (ju (he pins s U H _ I h) fun v s1 xx=>?_) hs;obtain⟨y,H1,I1,r1,q1⟩:=xx;exact GQ I1 hN hi hx r1 (fun s2 I2=>⟨_,H1,I2,q1⟩) hf
def D9(i:Nat)(te:TE)(ti:D5):TS:=fun D U H=>∃x,U[i]?=some (some x)/\te U H fun y H1=>ti x y H1 fun z H2=>D.nx (U.set i (some z)) H2
def X3(hN:X.N.Nodup)(hi:X.N[i]?=some x)(hx:UA X.env.scope x)(he:PE X e te)(ho:D6 X op ti)(hf:X.fn x=true \/ X.env.scope.names.lookup x=some .local:=by first | exact .inl rfl | exact .inr rfl | assumption):
  PS X (.AugAssign (.Name x pos') op e pos) (D9 i te ti):=by
 intro pins s U H D I h;obtain⟨v,e1,h⟩:=h;obtain⟨m,hn,hl⟩:=I.loc;have vis:Q3 X.env.scope x:=by rcases hx with k | k;exact .inl k;exact .inr (.inl k)
 obtain⟨u,r,l⟩:=hl i x v hi e1 vis;refine wpAny_AugAssign_Name ?_;have go:wpAny (model X.prog X.w) X.A (eval e X.env) (fun w s₂=>wpAny (model X.prog X.w) X.A (inplaceOp op u w) (fun r s₃=>wpAny (model X.prog X.w) X.A (storeName X.env x r) (fun _=>SP X pins D .next) X.xe s₃) X.xe s₂) X.xe s:=by
  refine ju (he pins s U H _ I h) fun w s1 xx=>?_;obtain⟨y,H1,I1,r1,q1⟩:=xx;refine ju (ho pins s1 U H1 v y u w _ I1 r r1 q1) fun z s2 xx=>?_;obtain⟨zv,H2,I2,r2,q2⟩:=xx;exact GQ I2 hN hi hx r2 (fun s3 I3=>⟨_,H2,I3,q2⟩) hf
 rcases l with⟨hk,hm⟩ | ⟨hk,c,hc,hcell⟩
 ·exact wpAny_loadName_local I.ok.kind hk hn hm go
 ·rcases hk with hk | hk
  ·exact wpAny_loadName_cell I.ok.kind hk hc hcell go
  ·rcases hx with k | k
   ·have:X.env.scope.names.lookup x=some .free:=hk;rw[k]at this;cases this
   ·have:X.env.scope.names.lookup x=some .free:=hk;rw[k]at this;cases this
noncomputable def Da(f:Int->Int->Int):D5:=fun x y H Q=>∃i j,x=.int i/\y=.int j/\Q (.int (f i j)) H
def Db:D6 X .Add (Da fun i j=>i+j):=by
 intro pins s U H x y v u Q I r1 r2 h;obtain⟨i,j,e1,e2,q⟩:=h;subst e1;subst e2;obtain⟨t,rfl⟩:=r1;obtain⟨t',rfl⟩:=r2;exact iadd_int ⟨.int _,H,I.tok _,⟨_,rfl⟩,q⟩
def Dc:D6 X .Sub (Da fun i j=>i - j):=by
 intro pins s U H x y v u Q I r1 r2 h;obtain⟨i,j,e1,e2,q⟩:=h;subst e1;subst e2;obtain⟨t,rfl⟩:=r1;obtain⟨t',rfl⟩:=r2;exact isub_int ⟨.int _,H,I.tok _,⟨_,rfl⟩,q⟩
end
section
variable {X:Cx} {pos:Pos}
def Dg(c:TT)(tb:TS):TS:=fun D U H=>∃W:Nat->St->Hp->Prop,(∃m,W m U H)/\∀m U H,W m U H->
 c U H fun b H1=>if b=true then∃N:St->Hp->Prop,(∀U' H',N U' H'->∃m',m' < m/\W m' U' H')/\tb { D with nx:=N,ct:=N,bk:=D.nx } U H1 else D.nx U H1
def aZ(hp:PassesOwn (model X.prog X.w) X.A X.env X.xe)(hc:PT X c tc)(hb:jP X body tb):PS X (.While c body [] pos) (Dg tc tb):=by
 intro pins s U H D I h;obtain⟨W,⟨m0,w0⟩,turn⟩:=h;refine wpAny_While (codeAny_whileLoop (fun n s'=>∃U' H',Inv X pins U' H' s'/\W n U' H') ?_ m0 ⟨U,H,I,w0⟩);rintro n s1 ⟨U1,H1,I1,w1⟩;refine wpAny_passesOwn hp (ju (hc pins s1 U1 H1 _ I1 (turn n U1 H1 w1)) fun b s2 xx=>?_);obtain⟨H2,I2,q2⟩:=xx;cases b with
 | true=>
  obtain⟨N,hN,q2⟩:=q2;rw[if_pos rfl];refine wpAny_passesOwn hp (ju (hb pins s2 U1 H2 _ I2 q2) fun f s3 q3=>?_);cases f with
  | next=>
   obtain⟨U3,H3,I3,n3⟩:=q3;obtain⟨m',hm,w3⟩:=hN U3 H3 n3;exact⟨m',hm,U3,H3,I3,w3⟩
  | cont=>
   obtain⟨U3,H3,I3,n3⟩:=q3;obtain⟨m',hm,w3⟩:=hN U3 H3 n3;exact⟨m',hm,U3,H3,I3,w3⟩
  | brk=>exact q3
  | ret v=>exact q3
 | false=>
  rw[if_neg Bool.false_ne_true];exact wpAny_execs_nil ⟨U1,H2,I2,q2⟩
end
structure It where
 go:Nat->Hp->Prop
 yld:Nat->Hp->V->Hp->Prop
 stop:Nat->Hp->Prop
def Jj(X:Cx)(pins:Tq)(H:Hp)(b:Addr):Prop:=
 H b=none/\b≠X.env.locals/\b∉X.fs/\(b∈X.ex \/ X.s₀.heap.objs.size<=b)/\(∀x c,X.env.cells.lookup x=some c->c≠b)/\∀p∈X.pn++pins,p.1≠b
def Inv.fpOk(I:Inv X pins U H s)(hb:s.heap.objs.size<=b)(hn:H' b=none):Jj X pins H' b:=by
 refine⟨hn,Nat.ne_of_gt (Nat.lt_of_lt_of_le I.lt hb),I.nofs hb,.inr (wSa I.sz hb),fun x c e z=>?_,fun p hp z=>?_⟩
 ·obtain⟨v,q⟩:=I.cell x c e;exact vDa (Nat.lt_of_lt_of_le q.lt (by rw[z];exact hb)) (wUa _)
 ·exact vDa (Nat.lt_of_lt_of_le (wLa (I.pin p hp).1) (by rw[z];exact hb)) (wUa _)
structure Turn (P:Program) (w:World) (K:uXa) (tg:Expr) (J:It) (fp:List Addr) (it:Addr) (tn:Nat->Heap->Prop):Prop where
 mem:it∈fp
 obj:∀i h,tn i h->∀b∈fp,∃o,h.get? b=some o/\∀v,o.data≠.cell v
 keep:∀i h h',tn i h->(∀b∈fp,∀o,h.get? b=some o->h'.get? b=some o)->tn i h'
 item:∀(X:Cx),X.prog=P->X.w=w->X.K=K->X.calm=true->∀(i:Nat) (pins:Tq) (s:Shared) (U:St) (H:Hp) (E:Tz),Inv X pins U H s->(∀b∈fp,Jj X pins H b)->tn i s.heap->J.go i H->
  wpAny (model P w) X.A (pyNext (.ref it)) (fun r s1=>∃u,r=some u/\
   wpAny (model P w) X.A (letOwnedTupleGo tg (.ref it) u) (fun _ s2=>∃x H',Inv X pins U H' s2/\jw x u/\J.yld i H x H'/\tn (i+1) s2.heap/\∀b∈fp,H' b=none) E s1) E s
 done:∀(X:Cx),X.prog=P->X.w=w->X.K=K->X.calm=true->∀(i:Nat) (pins:Tq) (s:Shared) (U:St) (H:Hp) (E:Tz),Inv X pins U H s->(∀b∈fp,Jj X pins H b)->tn i s.heap->J.stop i H->
  wpAny (model P w) X.A (pyNext (.ref it)) (fun r s1=>r=none/\Inv X pins U H s1) E s
 self:∀(A:Around) (i:Nat) (s:Shared) (Q:Tz) (E:Tz),tn i s.heap->Q (.ref it) s->wpAny (model P w) A (pyIter (.ref it)) Q E s
noncomputable abbrev TI:=St->Hp->(It->Hp->Prop)->Prop
def iQ(X:Cx)(pins:Tq)(U:St)(tg:Expr)(R:It->Hp->Prop)(itv:Value)(s2:Shared):Prop:=
 ∃(it:Addr) (fp:List Addr) (tn:Nat->Heap->Prop) (J:It) (H':Hp),itv=.ref it/\Inv X pins U H' s2/\Turn X.prog X.w X.K tg J fp it tn/\tn 0 s2.heap/\(∀b∈fp,Jj X pins H' b)/\R J H'
def PI(X:Cx)(tg iter:Expr)(wi:TI):Prop:=
 ∀(pins:Tq) (s:Shared) (U:St) (H:Hp) (R:It->Hp->Prop),Inv X pins U H s->wi U H R->
  wpAny (model X.prog X.w) X.A (eval iter X.env) (fun v s1=>wpAny (model X.prog X.w) X.A (pyIter v) (iQ X pins U tg R) X.xe s1) X.xe s
def kR(ho:s.heap.get? it=some o)(hc:o.cls=.type n)(hd:o.data=.fields vs)
  (hn:["enumerate", "zip", "dict_itemiterator", "dict_reverseitemiterator", "odict_iterator", "itertools.zip_longest", "itertools.pairwise"].contains n=false) (hQ:Q () s):wpAny M A (letOwnedTupleGo tg (.ref it) u) Q E s:=by
 unfold letOwnedTupleGo;cases tg <;> first
  | exact wBa hQ
  | (cases u <;> first
    | exact wBa hQ
    | (refine wAa (wpAny_load ho ?_)
       rw[hc,hd];show wpAny M A (if (["enumerate", "zip", "dict_itemiterator", "dict_reverseitemiterator", "odict_iterator", "itertools.zip_longest", "itertools.pairwise"].contains n&&vs[0]?==some (rawInt _))=true then _ else _) Q E s;rw[if_neg (by intro h;rw[hn,Bool.false_and]at h;cases h)];exact wBa hQ))
def Dh(K:uXa)(a:Addr):It:=
 ⟨fun i H=>∃xs x,jC K H a xs/\xs[i]?=some x,fun i H x H'=>H'=H/\∀xs,jC K H a xs->xs[i]?=some x,fun i H=>∃xs,jC K H a xs/\xs.length<=i⟩
def Di(K:uXa)(a:Addr):It:=
 ⟨fun i H=>∃xs x,Jr K H a xs/\xs[i]?=some x,fun i H x H'=>H'=H/\∀xs,Jr K H a xs->xs[i]?=some x,fun i H=>∃xs,Jr K H a xs/\xs.length<=i⟩
def bR(lo:Int)(n:Nat):It:=⟨fun i _=>i < n,fun i H x H'=>H'=H/\x=.int (lo+i),fun i _=>n<=i⟩
def X4{P:Program}{w:World}{K:uXa}{tg:Expr}(a it:Addr):Turn P w K tg (Dh K a) [it] it (fun i h=>h.IsListIter it a i) where
 mem:=by simp
 obj:=fun i h st b hb=>by
  have e:b=it:=by simpa using hb
  subst e;obtain⟨o,e,c,d⟩:=st;exact⟨o,e,fun v z=>by rw[d]at z;cases z⟩
 keep:=fun i h h' st k=>st.at fun o e=>k it (by simp) o e
 item:=by
  intro X hP hw hK hc i pins s U H E I hf st hg;subst hP hw hK;obtain⟨xs,x,hq,hx⟩:=hg;obtain⟨its,rv,p,hz⟩:=I.list hq;obtain⟨u,hu,ru⟩:=rv.get hx;obtain⟨f0,f1,f2,f3,f4,f5⟩:=hf it (by simp);refine wpAny_pyNext_list_item st p.isList (x:=u) (by simpa using hu) fun h' st' sb=>?_;have I1:Inv X pins U H { s with heap:=h' }:=I.turned (t':=s.toks) (fun b o hb e=>(sb.2 b hb).trans e) f0 f1 f3 f4 f5;obtain⟨o,e,c,d⟩:=id st';exact⟨u,rfl,kR (s:={ s with heap:=h' }) e c d (by decide) ⟨x,H,I1,ru,⟨rfl,fun ys hy=>by rw[I.list_inj hy hq];exact hx⟩,st',fun b hb=>(hf b hb).1⟩⟩
 done:=by
  intro X hP hw hK hc i pins s U H E I hf st hg;subst hP hw hK;obtain⟨xs,hq,hx⟩:=hg;obtain⟨its,rv,p,hz⟩:=I.list hq;obtain⟨f0,f1,f2,f3,f4,f5⟩:=hf it (by simp);have hl:=rv.length;exact wpAny_pyNext_list_end (I.ok.hd hc) st p.isList (by simp;lia) fun h' eb=>⟨rfl,I.turned (t':=s.toks) (fun b o hb e=>eb b o hb e) f0 f1 f3 f4 f5⟩
 self:=fun _ _ _ _ _ st h=>wpAny_pyIter_listiter st h
def QW{P:Program}{w:World}{K:uXa}{tg:Expr}(a it:Addr):Turn P w K tg (Di K a) [it] it (fun i h=>h.IsTupleIter it a i) where
 mem:=by simp
 obj:=fun i h st b hb=>by
  have e:b=it:=by simpa using hb
  subst e;obtain⟨o,e,c,d⟩:=st;exact⟨o,e,fun v z=>by rw[d]at z;cases z⟩
 keep:=fun i h h' st k=>st.at fun o e=>k it (by simp) o e
 item:=by
  intro X hP hw hK hc i pins s U H E I hf st hg;subst hP hw hK;obtain⟨xs,x,hq,hx⟩:=hg;obtain⟨its,rv,p,hz⟩:=I.tuple hq;obtain⟨u,hu,ru⟩:=rv.get hx;obtain⟨f0,f1,f2,f3,f4,f5⟩:=hf it (by simp);refine wpAny_pyNext_tuple_item st (show s.heap.IsTuple a its.toArray from p) (x:=u) (by simpa using hu) fun h' st' sb=>?_;have I1:Inv X pins U H { s with heap:=h' }:=I.turned (t':=s.toks) (fun b o hb e=>(sb.2 b hb).trans e) f0 f1 f3 f4 f5;obtain⟨o,e,c,d⟩:=id st';exact⟨u,rfl,kR (s:={ s with heap:=h' }) e c d (by decide) ⟨x,H,I1,ru,⟨rfl,fun ys hy=>by rw[I.tuple_inj hy hq];exact hx⟩,st',fun b hb=>(hf b hb).1⟩⟩
 done:=by
  intro X hP hw hK hc i pins s U H E I hf st hg;subst hP hw hK;obtain⟨xs,hq,hx⟩:=hg;obtain⟨its,rv,p,hz⟩:=I.tuple hq;obtain⟨f0,f1,f2,f3,f4,f5⟩:=hf it (by simp);have hl:=rv.length;exact wpAny_pyNext_tuple_end (I.ok.hd hc) st (show s.heap.IsTuple a its.toArray from p) (by simp;lia) fun h' eb=>⟨rfl,I.turned (t':=s.toks) (fun b o hb e=>eb b o hb e) f0 f1 f3 f4 f5⟩
 self:=fun _ _ _ _ _ st h=>wpAny_pyIter_tupleiter st h
def QX{P:Program}{w:World}{K:uXa}{tg:Expr}(it:Addr)(lo:Int)(n:Nat):Turn P w K tg (bR lo n) [it] it (fun i h=>IsRangeIter h it (lo+(i:Nat) * 1) ((n:Int) - (i:Nat)) 1) where
 mem:=by simp
 obj:=fun i h st b hb=>by
  have e:b=it:=by simpa using hb
  subst e;exact⟨_,st,fun v z=>by
   have z':Data.fields _=Data.cell v:=z;cases z'⟩
 keep:=fun i h h' st k=>k it (by simp) _ st
 item:=by
  intro X hP hw hK hc i pins s U H E I hf st hg;subst hP hw hK;obtain⟨f0,f1,f2,f3,f4,f5⟩:=hf it (by simp);have W:=Walks.range (prog:=X.prog) (w:=X.w) (I.ok.hd hc) it lo 1 n;refine W.item i s _ _ hg st fun v h' tk hv st' kk=>?_;obtain⟨t,rfl⟩:=hv;have I1:Inv X pins U H { s with heap:=h',toks:=tk }:=I.turned (fun b o hb e=>kk b o (by simpa using hb) e) f0 f1 f3 f4 f5;refine⟨_,rfl,kR (s:={ s with heap:=h',toks:=tk }) (n := "range_iterator") st' rfl rfl (by decide) ⟨.int (lo+i),H,I1,⟨t,?_⟩,⟨rfl,rfl⟩,st',fun b hb=>(hf b hb).1⟩⟩;rw[Int.mul_one]
 done:=by
  intro X hP hw hK hc i pins s U H E I hf st hg;subst hP hw hK;obtain⟨f0,f1,f2,f3,f4,f5⟩:=hf it (by simp);exact wpAny_pyNext_range_end (I.ok.hd hc) st (by have:n<=i:=hg;lia) fun h' eb=>⟨rfl,I.turned (t':=s.toks) (fun b o hb e=>eb b o hb e) f0 f1 f3 f4 f5⟩
 self:=fun _ _ _ _ _ st h=>wpAny_pyIter_rangeiter st h
section
variable {X:Cx} {tg:Expr}
def a_{pins:Tq}{U:St}{H:Hp}{s:Shared}{R:It->Hp->Prop}{E:Tz}{lo hi:Int}{t u v:Tok}{tk:Nat}(I:Inv X pins U H s)(h1:-(2 ^ 62)<=lo)(h2:lo < 2 ^ 62)(h3:-(2 ^ 62)<=hi)(h4:hi < 2 ^ 62)
  (q:R (bR lo (hi - lo).toNat) H):wpAny (model X.prog X.w) X.A (pyIter (.ref s.heap.objs.size)) (iQ X pins U tg R) E { s with heap:=s.heap.push { cls:=.type "range",data:=.fields #[.int lo t,.int hi u,.int 1 v] },toks:=tk }:=by
 refine wpAny_pyIter_range (IsRange.new ..) (small_one h1 h2 h3 h4) ?_;have I1:Inv X pins U H { s with heap:=s.heap.push { cls:=.type "range",data:=.fields #[.int lo t,.int hi u,.int 1 v] },toks:=tk }:=I.kept fun b o e=>wIa _ e;refine⟨(s.heap.push { cls:=.type "range",data:=.fields #[.int lo t,.int hi u,.int 1 v] }).objs.size,[(s.heap.push { cls:=.type "range",data:=.fields #[.int lo t,.int hi u,.int 1 v] }).objs.size],_,_,H,rfl,
  I1.kept (t':=tk) fun b o e=>wIa _ e,QX _ lo (hi - lo).toNat,?_,fun b hb=>?_,q⟩
 ·have e1:lo+((0:Nat):Int) * 1=lo:=by simp
  have e2:(((hi - lo).toNat:Nat):Int) - ((0:Nat):Int)=Builtin.Range.rangeSize lo hi 1:=by rw[rangeSize_one];split <;> lia
  show IsRangeIter _ _ (lo+((0:Nat):Int) * 1) ((((hi - lo).toNat:Nat):Int) - ((0:Nat):Int)) 1;rw[e1,e2];exact wJa _ rfl
 ·have e:b=(s.heap.push { cls:=.type "range",data:=.fields #[.int lo t,.int hi u,.int 1 v] }).objs.size:=by simpa using hb
  subst e;exact I1.fpOk (wPa _) (I1.hok.fresh (wPa _))
def FK(ta:TA):TI:=fun U H R=>ta U H fun vs H1=>∃j:Int,vs=[.int j]/\-(2 ^ 62)<=j/\j < 2 ^ 62/\R (bR 0 j.toNat) H1
def X5(hg:Gl X "range")(hm:X.mg "range" = none)(ha:PA X [a] ta)(hs:starEach [a] X.env=[(false,eval a X.env)]:=by rfl):PI X tg (.Call (.Name "range" p) [a] [] pos) (FK ta):=by
 intro pins s U H R I h;refine Call_ (ZH I hg hm boot_range (PyProof.Rows.callWith_type1 (ju (ha pos pins s U H _ I h) fun us s1 xx=>?_) hs rfl));obtain⟨vs,H1,I1,r1,q1⟩:=xx;obtain⟨j,e,q1,q2,q⟩:=q1;subst e;cases r1 with
 | cons r rr=>
  cases rr;obtain⟨t,rfl⟩:=r;exact call_range_1 (a_ I1 (by lia) (by lia) q1 q2 (by simpa using q))
def IS(wi:TI)(g:TG)(tb:TS):TS:=fun D U H=>wi U H fun J H1=>∃W:Nat->Nat->St->Hp->Prop,(∃m,W 0 m U H1)/\∀i m U H,W i m U H->
 (J.stop i H/\D.nx U H) \/ (J.go i H/\∃N:St->Hp->Prop,(∀U' H',N U' H'->∃m',m' < m/\W (i+1) m' U' H')/\∀x H',J.yld i H x H'->g x U H' fun U2 H2=>tb { D with nx:=N,ct:=N,bk:=D.nx } U2 H2)
noncomputable def UE(fp:List Addr)(h:Heap):List (Addr×Obj):=fp.filterMap fun b=>(h.get? b).map fun o=>(b,o)
def YI(hb:b∈fp)(e:h.get? b=some o):(b,o)∈UE fp h:=List.mem_filterMap.mpr ⟨b,hb,by rw[e];rfl⟩
def X6(hp:p∈UE fp h):p.1∈fp/\h.get? p.1=some p.2:=by
 obtain⟨b,hb,e⟩:=List.mem_filterMap.mp hp;cases q:h.get? b with
 | none=>rw[q]at e;cases e
 | some o=>
  rw[q]at e;have e':(b,o)=p:=vFa e;subst e';exact⟨hb,q⟩
def Inv.pinned(I:Inv X pins U H s)(hf:∀b∈fp,Jj X pins H b)(ho:∀b∈fp,∃o,s.heap.get? b=some o/\∀v,o.data≠.cell v):Inv X (pins++UE fp s.heap) U H s:=
 I.pins_of fun p hp=>(uWa hp).elim (fun z=>I.pin p (vJa _ z)) fun z=>by
  obtain⟨hb,e⟩:=X6 z;obtain⟨f0,f1,f2,_⟩:=hf p.1 hb;obtain⟨o,e',d⟩:=ho p.1 hb;rw[e]at e';cases e';exact⟨e,f0,f1,f2,d⟩
def Inv.unpinned(I:Inv X (pins++pl) U H s):Inv X pins U H s:=I.pins_of fun p hp=>I.pin p (vJa _ (vIa _ hp))
def Dj(hp:PassesOwn (model X.prog X.w) X.A X.env X.xe)(hc:X.calm=true)(hi:PI X tg iter wi)(hg:PG X tg g)(hb:jP X body tb)
  (hs:∀x,foldedSetIterable iter X.env x=pure x:=by intro _;rfl):PS X (.For tg iter body [] pos) (IS wi g tb):=by
 intro pins s U H D I h;refine wpAny_For (ju (hi pins s U H _ I h) fun v s1 h1=>ju h1 fun itv s2 h2=>?_) hs;obtain⟨it,fp,tn,J,H2,e,I2,T,st2,f2,W,⟨m0,w0⟩,turn⟩:=h2;subst e;have stat:∀{H':Hp},(∀b∈fp,H' b=none)->∀b∈fp,Jj X pins H' b:=fun hn b hb=>⟨hn b hb,(f2 b hb).2⟩
 refine codeAny_forLoop_any (fun n s'=>∃i U' H',Inv X pins U' H' s'/\tn i s'.heap/\(∀b∈fp,H' b=none)/\W i n U' H') ?_ m0 ⟨0,U,H2,I2,st2,fun b hb=>(f2 b hb).1,w0⟩;rintro n s3 ⟨i,U3,H3,I3,st3,fr3,w3⟩;rcases turn i n U3 H3 w3 with⟨stop,qn⟩ | ⟨go,N,hN,step⟩
 ·refine wpAny_passesOwn hp (ju (T.done X rfl rfl rfl hc i pins s3 U3 H3 X.xe I3 (stat fr3) st3 stop) fun r s4 xx=>?_);obtain⟨hr,I4⟩:=xx;subst hr;exact wpAny_execs_nil ⟨U3,H3,I4,qn⟩
 ·refine wpAny_passesOwn hp (ju (T.item X rfl rfl rfl hc i pins s3 U3 H3 X.xe I3 (stat fr3) st3 go) fun r s4 xx=>?_);obtain⟨u,hr,h4⟩:=xx;subst hr;refine wpAny_passesOwn hp (ju h4 fun _ s5 xx=>?_);obtain⟨x,H5,I5,r5,y5,st5,fr5⟩:=xx;have I5':=I5.pinned (stat fr5) (T.obj _ _ st5);refine wpAny_passesOwn hp (ju (hg _ s5 U3 H5 x u _ I5' r5 (step x H5 y5)) fun _ s6 xx=>?_);obtain⟨U6,H6,I6,q6⟩:=xx;refine wpAny_passesOwn hp (ju (hb _ s6 U6 H6 _ I6 q6) fun f s7 q7=>?_);have again:∀{U7:St} {H7:Hp},Inv X (pins++UE fp s5.heap) U7 H7 s7->N U7 H7->∃m,m < n/\∃i U' H',Inv X pins U' H' s7/\tn i s7.heap/\(∀b∈fp,H' b=none)/\W i m U' H':=fun {U7 H7} I7 n7=>by
   obtain⟨m',hm,w7⟩:=hN U7 H7 n7;refine⟨m',hm,i+1,U7,H7,I7.unpinned,T.keep _ _ _ st5 fun b hb o e=>(I7.pin (b,o) (vJa _ (vJa _ (YI hb e)))).1,fun b hb=>?_,w7⟩;obtain⟨o,e,d⟩:=T.obj _ _ st5 b hb;exact(I7.pin (b,o) (vJa _ (vJa _ (YI hb e)))).2.1
  cases f with
  | next=>obtain⟨U7,H7,I7,n7⟩:=q7;exact again I7 n7
  | cont=>obtain⟨U7,H7,I7,n7⟩:=q7;exact again I7 n7
  | brk=>obtain⟨U7,H7,I7,q7⟩:=q7;exact⟨U7,H7,I7.unpinned,q7⟩
  | ret v=>obtain⟨x7,U7,H7,I7,r7,q7⟩:=q7;exact⟨x7,U7,H7,I7.unpinned,r7,q7⟩
end
noncomputable abbrev R2:=V->V->Hp->VK->Prop
def j_(X:Cx)(f:Value->Value->Sem Value)(r:R2):Prop:=
 ∀(pins:Tq) (s:Shared) (U:St) (H:Hp) (x y:V) (v u:Value) (Q:VK),Inv X pins U H s->jw x v->jw y u->r x y H Q->
  wpAny (model X.prog X.w) X.A (f v u) (EP X pins U Q) X.xe s
def Dk(X:Cx)(f:Value->Sem Value)(r:V->Hp->VK->Prop):Prop:=
 ∀(pins:Tq) (s:Shared) (U:St) (H:Hp) (x:V) (v:Value) (Q:VK),Inv X pins U H s->jw x v->r x H Q->
  wpAny (model X.prog X.w) X.A (f v) (EP X pins U Q) X.xe s
def Yi(X:Cx)(f:Value)(r:List V->Hp->VK->Prop):Prop:=
 ∀(pins:Tq) (s:Shared) (U:St) (H:Hp) (xs:List V) (us:List Value) (Q:VK),Inv X pins U H s->jq xs us->r xs H Q->
  wpAny (model X.prog X.w) X.A (call f us) (EP X pins U Q) X.xe s
def IT(X:Cx)(r:V->Hp->(Bool->Hp->Prop)->Prop):Prop:=
 ∀(pins:Tq) (s:Shared) (U:St) (H:Hp) (x:V) (v:Value) (Q:Bool->Hp->Prop),Inv X pins U H s->jw x v->r x H Q->
  wpAny (model X.prog X.w) X.A (truthy v) (TP X pins U Q) X.xe s
def Q6(r:R2)(ta tb:TE):TE:=fun U H Q=>ta U H fun x H1=>tb U H1 fun y H2=>r x y H2 Q
def Lm(r:V->Hp->VK->Prop)(ta:TE):TE:=fun U H Q=>ta U H fun x H1=>r x H1 Q
def rI(C:Int->Int->Prop)(g:Int->Int->V):R2:=fun x y H Q=>∃i j,x=.int i/\y=.int j/\C i j/\Q (g i j) H
def vj(g:Int->Int->V):R2:=fun x y H Q=>∃i j,x=.int i/\y=.int j/\Q (g i j) H
def rU(g:Int->V):V->Hp->VK->Prop:=fun x H Q=>∃i,x=.int i/\Q (g i) H
section
variable {X:Cx} {a b c:Expr} {ta tb tc:TE} {pos:Pos}
def A0(ha:PE X a ta)(hb:PE X b tb){pins:Tq}{s:Shared}{U:St}{H:Hp}{R:V->V->Hp->Prop}(I:Inv X pins U H s)
  (h:ta U H fun x H1=>tb U H1 fun y H2=>R x y H2) {Q:Tz} {f:Value->Value->Sem Value}
  (hf:∀v u s2 x y H2,Inv X pins U H2 s2->jw x v->jw y u->R x y H2->wpAny (model X.prog X.w) X.A (f v u) Q X.xe s2):
  wpAny (model X.prog X.w) X.A (eval a X.env) (fun v s₁=>wpAny (model X.prog X.w) X.A (eval b X.env) (fun u s₂=>wpAny (model X.prog X.w) X.A (f v u) Q X.xe s₂) X.xe s₁) X.xe s:=by
 refine ju (ha pins s U H _ I h) fun v s1 xx=>?_;obtain⟨x,H1,I1,r1,q1⟩:=xx;refine ju (hb pins s1 U H1 _ I1 q1) fun u s2 xx=>?_;obtain⟨y,H2,I2,r2,q2⟩:=xx;exact hf v u s2 x y H2 I2 r1 r2 q2
def bS{op:Operator}{r:R2}(ho:j_ X (binaryOp op) r)(ha:PE X a ta)(hb:PE X b tb):PE X (.BinOp a op b pos) (Q6 r ta tb):=by
 intro pins s U H Q I h;exact wpAny_BinOp (A0 ha hb I h fun v u s2 x y H2 I2 rx ry q=>ho pins s2 U H2 x y v u Q I2 rx ry q)
def FL(ho:Dk X (unaryOp op) r)(ha:PE X a ta):PE X (.UnaryOp op a pos) (Lm r ta):=by
 intro pins s U H Q I h;exact UnaryOp_ (ju (ha pins s U H _ I h) fun v s1 ⟨x,H1,I1,r1,q1⟩=>ho pins s1 U H1 x v Q I1 r1 q1)
def bT{f:Value->Value->Sem Value}{C:Int->Int->Prop}{g:Int->Int->Int}
  (rule:∀(i j:Int) (t u:Tok) (s:Shared) (Q:Tz) (E:Tz),C i j->Q (.int (g i j) s.toks) { s with toks:=s.toks+1 }->wpAny (model X.prog X.w) X.A (f (.int i t) (.int j u)) Q E s):
  j_ X f (rI C fun i j=>.int (g i j)):=by
 intro pins s U H x y v u Q I rx ry h;obtain⟨i,j,rfl,rfl,hc,q⟩:=h;obtain⟨t,rfl⟩:=rx;obtain⟨t',rfl⟩:=ry;exact rule i j t t' s _ _ hc ⟨.int (g i j),H,I.tok _,⟨_,rfl⟩,q⟩
def Dl{f:Value->Value->Sem Value}{g:Int->Int->Int}
  (rule:∀(i j:Int) (t u:Tok) (s:Shared) (Q:Tz) (E:Tz),Q (.int (g i j) s.toks) { s with toks:=s.toks+1 }->wpAny (model X.prog X.w) X.A (f (.int i t) (.int j u)) Q E s):
  j_ X f (vj fun i j=>.int (g i j)):=by
 intro pins s U H x y v u Q I rx ry h;obtain⟨i,j,rfl,rfl,q⟩:=h;obtain⟨t,rfl⟩:=rx;obtain⟨t',rfl⟩:=ry;exact rule i j t t' s _ _ ⟨.int (g i j),H,I.tok _,⟨_,rfl⟩,q⟩
def QY{f:Value->Value->Sem Value}{g:Int->Int->Bool}
  (rule:∀(i j:Int) (t u:Tok) (s:Shared) (Q:Tz) (E:Tz),Q (.bool (g i j)) s->wpAny (model X.prog X.w) X.A (f (.int i t) (.int j u)) Q E s):
  j_ X f (vj fun i j=>.bl (g i j)):=by
 intro pins s U H x y v u Q I rx ry h;obtain⟨i,j,rfl,rfl,q⟩:=h;obtain⟨t,rfl⟩:=rx;obtain⟨t',rfl⟩:=ry;exact rule i j t t' s _ _ ⟨.bl (g i j),H,I,rfl,q⟩
def A2(i j:Int):Prop:=0 < j/\j < 1073741824
def A4(i j:Int):Prop:=0<=j/\j<=1000000/\i.natAbs < 2 ^ 64
def GR(i j:Int):Prop:=(-(2 ^ 64) < i/\i < 2 ^ 64) \/ (-(2 ^ 64) < j/\j < 2 ^ 64)
def GR.ok{i j:Int}(h:GR i j):IntMulOk i j:=by
 rcases h with⟨h1,h2⟩ | ⟨h1,h2⟩
 ·exact .of_left (intBits_le_64 h1 h2)
 ·exact .of_right (intBits_le_64 h1 h2)
def Dm:j_ X (binaryOp .Add) (vj fun i j=>.int (i+j)):=Dl fun _ _ _ _ _ _ _ q=>add_int q
def Dp:j_ X (binaryOp .Sub) (vj fun i j=>.int (i - j)):=Dl fun _ _ _ _ _ _ _ q=>sub_int q
def Dq:j_ X (binaryOp .Mult) (rI GR fun i j=>.int (i * j)):=bT fun _ _ _ _ _ _ _ hc q=>mul_int q hc.ok
def cr:j_ X (binaryOp .FloorDiv) (rI A2 fun i j=>.int (i / j)):=bT fun i j _ _ _ _ _ hc q=>by
 have h1:(0:Int) < j:=hc.1;have h2:j < 1073741824:=hc.2;exact floordiv_int (by lia) (by rw[Int.fdiv_eq_ediv_of_nonneg i (by lia)];exact q) (.inl (PyProof.noPylong_small (by lia)))
def Dr:j_ X (binaryOp .Mod) (rI (fun _ j=>0 < j) fun i j=>.int (i % j)):=bT fun i j _ _ _ _ _ hc q=>by
 have h1:(0:Int) < j:=hc;exact mod_int' (by lia) (by rw[Int.fmod_eq_emod_of_nonneg i (by lia)];exact q)
def Ds:j_ X (binaryOp .Pow) (rI A4 fun i j=>.int (i ^ j.toNat)):=bT fun _ _ _ _ _ _ _ hc q=>pow_int_small hc.1 hc.2.1 hc.2.2 q
def Ln{f:Value->Sem Value}{g:Int->Int}
  (rule:∀(i:Int) (t:Tok) (s:Shared) (Q:Tz) (E:Tz),Q (.int (g i) s.toks) { s with toks:=s.toks+1 }->wpAny (model X.prog X.w) X.A (f (.int i t)) Q E s):
  Dk X f (rU fun i=>.int (g i)):=by
 intro pins s U H x v Q I rx h;obtain⟨i,rfl,q⟩:=h;obtain⟨t,rfl⟩:=rx;exact rule i t s _ _ ⟨.int (g i),H,I.tok _,⟨_,rfl⟩,q⟩
def Dt:Dk X (unaryOp .USub) (rU fun i=>.int (-i)):=Ln fun _ _ _ _ _ q=>neg_int q
end
noncomputable def Du:V->V->Bool
 | .non,.non=>true | .non,.int _=>true | .int _,.non=>true | .non,.bl _=>true | .bl _,.non=>true | .non,.str _=>true | .str _,.non=>true
 | .int _,.int _=>true | .bl _,.bl _=>true | .str _,.str _=>true
 | .int _,.str _=>true | .str _,.int _=>true | .bl _,.str _=>true | .str _,.bl _=>true
 | _,_=>false
def bU:R2:=fun x y H Q=>Du x y=true/\Q (.bl (decide (x=y))) H
def bV:R2:=fun x y H Q=>Du x y=true/\Q (.bl (!decide (x=y))) H
def VY:decide (V.int i=V.int j)=(i==j):=by
 rw[Bool.eq_iff_iff];simp
def UF:decide (V.bl i=V.bl j)=(i==j):=by
 rw[Bool.eq_iff_iff];simp
def VZ:decide (V.str i=V.str j)=(i==j):=by
 rw[Bool.eq_iff_iff];simp
section
variable {X:Cx} {a b c:Expr} {ta tb tc:TE} {pos:Pos}
def jQ(I:Inv X pins U H s)(q:Q (.bl k) H)(e:k=k'):EP X pins U Q (.bool k') s:=by
 subst e;exact⟨.bl k,H,I,rfl,q⟩
def FM:j_ X (compareOp .Eq) bU:=by
 intro pins s U H x y v u Q I rx ry h;obtain⟨hs,q⟩:=h;cases x with
 | non=>
  cases rx;cases y with
  | non=>cases ry;exact PySem.EqNone.eq_none_none (jQ I q (by simp))
  | bl j=>cases ry;exact PySem.EqNone.eq_none_bool (jQ I q (by simp))
  | int j=>obtain⟨t',rfl⟩:=ry;exact PySem.EqNone.eq_none_int (jQ I q (by simp))
  | str j=>obtain⟨t',rfl⟩:=ry;exact PySem.EqNone.eq_none_str (jQ I q (by simp))
  | _=>exact vDa (show false=true from hs) vNa
 | bl i=>
  cases rx;cases y with
  | non=>cases ry;exact PySem.EqNone.eq_bool_none (jQ I q (by simp))
  | bl j=>cases ry;exact eq_bool (jQ I q UF)
  | str j=>obtain⟨t',rfl⟩:=ry;exact PySem.EqMixed.eq_bool_str (jQ I q (by simp))
  | _=>exact vDa (show false=true from hs) vNa
 | int i=>
  obtain⟨t,rfl⟩:=rx;cases y with
  | non=>cases ry;exact PySem.EqNone.eq_int_none (jQ I q (by simp))
  | int j=>obtain⟨t',rfl⟩:=ry;exact eq_int (jQ I q VY)
  | str j=>obtain⟨t',rfl⟩:=ry;exact PySem.EqMixed.eq_int_str (jQ I q (by simp))
  | _=>exact vDa (show false=true from hs) vNa
 | str i=>
  obtain⟨t,rfl⟩:=rx;cases y with
  | non=>cases ry;exact PySem.EqNone.eq_str_none (jQ I q (by simp))
  | bl j=>cases ry;exact PySem.EqMixed.eq_str_bool (jQ I q (by simp))
  | int j=>obtain⟨t',rfl⟩:=ry;exact PySem.EqMixed.eq_str_int (jQ I q (by simp))
  | str j=>obtain⟨t',rfl⟩:=ry;exact eq_str (jQ I q VZ)
  | _=>exact vDa (show false=true from hs) vNa
 | _=>cases y <;> exact vDa (show false=true from hs) vNa
def FN:j_ X (compareOp .NotEq) bV:=by
 intro pins s U H x y v u Q I rx ry h;obtain⟨hs,q⟩:=h;cases x with
 | non=>
  cases rx;cases y with
  | non=>cases ry;exact PySem.EqNone.ne_none_none (jQ I q (by simp))
  | bl j=>cases ry;exact PySem.EqNone.ne_none_bool (jQ I q (by simp))
  | int j=>obtain⟨t',rfl⟩:=ry;exact PySem.EqNone.ne_none_int (jQ I q (by simp))
  | str j=>obtain⟨t',rfl⟩:=ry;exact PySem.EqNone.ne_none_str (jQ I q (by simp))
  | _=>exact vDa (show false=true from hs) vNa
 | bl i=>
  cases rx;cases y with
  | non=>cases ry;exact PySem.EqNone.ne_bool_none (jQ I q (by simp))
  | bl j=>cases ry;exact ne_bool (jQ I q (congrArg not UF))
  | str j=>obtain⟨t',rfl⟩:=ry;exact PySem.EqMixed.ne_bool_str (jQ I q (by simp))
  | _=>exact vDa (show false=true from hs) vNa
 | int i=>
  obtain⟨t,rfl⟩:=rx;cases y with
  | non=>cases ry;exact PySem.EqNone.ne_int_none (jQ I q (by simp))
  | int j=>obtain⟨t',rfl⟩:=ry;exact ne_int (jQ I q (congrArg not VY))
  | str j=>obtain⟨t',rfl⟩:=ry;exact PySem.EqMixed.ne_int_str (jQ I q (by simp))
  | _=>exact vDa (show false=true from hs) vNa
 | str i=>
  obtain⟨t,rfl⟩:=rx;cases y with
  | non=>cases ry;exact PySem.EqNone.ne_str_none (jQ I q (by simp))
  | bl j=>cases ry;exact PySem.EqMixed.ne_str_bool (jQ I q (by simp))
  | int j=>obtain⟨t',rfl⟩:=ry;exact PySem.EqMixed.ne_str_int (jQ I q (by simp))
  | str j=>obtain⟨t',rfl⟩:=ry;exact ne_str (jQ I q (congrArg not VZ))
  | _=>exact vDa (show false=true from hs) vNa
 | _=>cases y <;> exact vDa (show false=true from hs) vNa
def FO:j_ X (compareOp .Lt) (vj fun i j=>.bl (decide (i < j))):=QY fun _ _ _ _ _ _ _ q=>lt_int q
def FP:j_ X (compareOp .LtE) (vj fun i j=>.bl (decide (i<=j))):=QY fun _ _ _ _ _ _ _ q=>le_int q
def FQ:j_ X (compareOp .Gt) (vj fun i j=>.bl (decide (j < i))):=QY fun _ _ _ _ _ _ _ q=>gt_int q
def FR:j_ X (compareOp .GtE) (vj fun i j=>.bl (decide (j<=i))):=QY fun _ _ _ _ _ _ _ q=>ge_int q
def Dv:j_ X (compareOp .Is) (fun x y H Q=>y=.non/\Q (.bl (decide (x=.non))) H):=by
 intro pins s U H x y v u Q I rx ry h;obtain⟨rfl,q⟩:=h;cases ry;refine is_none_gen (jQ I q ?_);cases x <;> first
  | (cases rx;rfl)
  | (obtain⟨t,rfl⟩:=rx;rfl)
def cw:j_ X (compareOp .IsNot) (fun x y H Q=>y=.non/\Q (.bl (!decide (x=.non))) H):=by
 intro pins s U H x y v u Q I rx ry h;obtain⟨rfl,q⟩:=h;cases ry;refine isnot_none_gen (jQ I q ?_);cases x <;> first
  | (cases rx;rfl)
  | (obtain⟨t,rfl⟩:=rx;rfl)
def j_.or(h:j_ X f r)(h':j_ X f r'):j_ X f (fun x y H Q=>r x y H Q \/ r' x y H Q):=by
 intro pins s U H x y v u Q I rx ry q;rcases q with q | q
 ·exact h pins s U H x y v u Q I rx ry q
 ·exact h' pins s U H x y v u Q I rx ry q
def cx(ho:j_ X (compareOp op) r)(ha:PE X a ta)(hb:PE X b tb)(hm:behindInMarks op b=false):PE X (.Compare a [op] [b] pos) (Q6 r ta tb):=by
 intro pins s U H Q I h;exact wpAny_Compare1 (A0 ha hb I h fun v u s2 x y H2 I2 rx ry q=>ho pins s2 U H2 x y v u Q I2 rx ry q) hm
def bW(t:TE):TT:=fun U H Q=>t U H fun x H'=>∃k,x=.bl k/\Q k H'
def cy(ho:j_ X (compareOp op) r)(ha:PE X a ta)(hb:PE X b tb)(hm:behindInMarks op b=false):PT X (.Compare a [op] [b] pos) (bW (Q6 r ta tb)):=by
 intro pins s U H Q I h;refine wpAny_isTrue_Compare1 (ju (ha pins s U H _ I h) fun v s1 ⟨x,H1,I1,r1,q1⟩=>ju (hb pins s1 U H1 _ I1 q1) fun u s2 ⟨y,H2,I2,r2,q2⟩=>
  ju (ho pins s2 U H2 x y v u _ I2 r1 r2 q2) fun c s3 ⟨z,H3,I3,r3,k,e,q3⟩=>?_) hm
 subst e;cases r3;exact wpAny_truthy_bool ⟨H3,I3,q3⟩
def Wi(r r':R2)(ta tb tc:TE):TE:=fun U H Q=>ta U H fun x H1=>tb U H1 fun y H2=>r x y H2 fun z H3=>∃k,z=.bl k/\
 (if k=true then tc U H3 fun w' H4=>r' y w' H4 Q else Q (.bl false) H3)
theorem A6(ho:j_ X (compareOp op) r)(ho':j_ X (compareOp op') r')(ha:PE X a ta)(hb:PE X b tb)(hc:PE X c tc)
  (hm:lastMarks [op,op'] [b,c]=false:=by with_unfolding_all rfl):PE X (.Compare a [op,op'] [b,c] pos) (Wi r r' ta tb tc):=by
 intro pins s U H Q I h;refine Compare_chain (ju (ha pins s U H _ I h) fun v s1 ⟨x,H1,I1,r1,q1⟩=>chain_link (ju (hb pins s1 U H1 _ I1 q1) fun u s2 ⟨y,H2,I2,r2,q2⟩=>
  ju (ho pins s2 U H2 x y v u _ I2 r1 r2 q2) fun d s3 ⟨z,H3,I3,r3,k,e,q3⟩=>?_)) hm
 subst e;cases r3;refine wpAny_truthy_bool ?_;cases k with
 | false=>exact ite_ff ⟨.bl false,H3,I3,rfl,q3⟩
 | true=>exact ite_tt (chain_last (ju (hc pins s3 U H3 _ I3 q3) fun w' s4 ⟨z',H4,I4,r4,q4⟩=>ho' pins s4 U H4 y z' u w' Q I4 r2 r4 q4))
theorem A7(ho:j_ X (compareOp op) r)(ho':j_ X (compareOp op') r')(ha:PE X a ta)(hb:PE X b tb)(hc:PE X c tc)
  (hm:lastMarks [op,op'] [b,c]=false:=by with_unfolding_all rfl):PT X (.Compare a [op,op'] [b,c] pos) (bW (Wi r r' ta tb tc)):=by
 intro pins s U H Q I h;refine isTrue_chain (ju (ha pins s U H _ I h) fun v s1 ⟨x,H1,I1,r1,q1⟩=>test_link (ju (hb pins s1 U H1 _ I1 q1) fun u s2 ⟨y,H2,I2,r2,q2⟩=>
  ju (ho pins s2 U H2 x y v u _ I2 r1 r2 q2) fun d s3 ⟨z,H3,I3,r3,k,e,q3⟩=>?_)) hm
 subst e;cases r3;refine wpAny_truthy_bool ?_;cases k with
 | false=>
  obtain⟨k',e',q'⟩:=q3;cases e';exact ite_ff ⟨H3,I3,q'⟩
 | true=>
  refine ite_tt (test_last (ju (hc pins s3 U H3 _ I3 q3) fun w' s4 ⟨z',H4,I4,r4,q4⟩=>ju (ho' pins s4 U H4 y z' u w' _ I4 r2 r4 q4) fun d' s5 xx=>?_));obtain⟨z2,H5,I5,r5,k2,e2,q5⟩:=xx;subst e2;cases r5;exact wpAny_truthy_bool ⟨H5,I5,q5⟩
def A8(K:uXa)(x:V)(H:Hp)(k:Bool):Prop:=
 match x with
 | .non=>k=false
 | .bl b=>k=b
 | .int i=>k=(i != 0)
 | .str y=>y.length<=sizeLine/\k=((y.length:Int) != 0)
 | .ref p=>(∃xs,jC K H p xs/\k=!xs.isEmpty) \/ (∃xs,Jr K H p xs/\k=!xs.isEmpty)
 | _=>False
def kT(r:jq xs its):(!its.toArray.isEmpty)=!xs.isEmpty:=by
 cases r <;> simp
def V_:(sizeLine:Nat) < 2 ^ 63:=by rw[sizeLine_eq];decide
def Dw:IT X (fun x H Q=>∃k,A8 X.K x H k/\Q k H):=by
 intro pins s U H x v Q I rx h;obtain⟨k,e,q⟩:=h;have hl:=V_;have hs:sizeLine=16777216:=sizeLine_eq;cases x with
 | non=>
  cases rx;have e':k=false:=e;subst e';exact truthy_none ⟨H,I,q⟩
 | bl b=>
  cases rx;have e':k=b:=e;subst e';exact wpAny_truthy_bool ⟨H,I,q⟩
 | int i=>
  obtain⟨t,rfl⟩:=rx;have e':k=(i != 0):=e;subst e';exact PySem.P.truthy_int ⟨H,I,q⟩
 | str y=>
  obtain⟨t,rfl⟩:=rx;obtain⟨hy,e'⟩:y.length<=sizeLine/\k=((y.length:Int) != 0):=e;subst e';exact PySem.P.truthy_str (by lia) ⟨H,I.tok _,q⟩
 | ref p=>
  cases rx;have e':(∃xs,jC X.K H p xs/\k=!xs.isEmpty) \/ (∃xs,Jr X.K H p xs/\k=!xs.isEmpty):=e;rcases e' with⟨xs,hx,e'⟩ | ⟨xs,hx,e'⟩
  ·subst e';obtain⟨its,r,pl,hz⟩:=I.list hx;have hlen:=r.length;exact wpAny_truthy_list pl.isList (by simp only[List.size_toArray];lia) ⟨H,I.tok _,by rw[kT r];exact q⟩
  ·subst e';obtain⟨its,r,pl,hz⟩:=I.tuple hx;have hlen:=r.length;exact truthy_tuple pl (by simp only[List.size_toArray];lia) ⟨H,I.tok _,by rw[kT r];exact q⟩
 | _=>exact(show False from e).elim
def A9(ha:PE X a ta)(he:∀whole,isTrue a X.env whole=(do let v<-whole;standAt a.pos;holding [v] (truthy v))):
  PT X a (fun U H Q=>ta U H fun x H'=>∃k,A8 X.K x H' k/\Q k H'):=by
 intro pins s U H Q I h;exact isTrue_plain (ju (ha pins s U H _ I h) fun v s1 ⟨x,H1,I1,r1,q1⟩=>Dw pins s1 U H1 x v Q I1 r1 q1) (he _)
def Q_:j_ X (binaryOp .Add) (fun x y H Q=>∃i j,x=.str i/\y=.str j/\i.length+j.length<=sizeLine/\Q (.str (i++j)) H):=by
 intro pins s U H x y v u Q I rx ry h;obtain⟨i,j,rfl,rfl,hz,q⟩:=h;obtain⟨t,rfl⟩:=rx;obtain⟨t',rfl⟩:=ry;exact add_str (fun t' tk=>⟨.str (i++j),H,I.tok _,⟨_,rfl⟩,q⟩) hz
def xa(r:jq [x] us):∃u,us=[u]/\jw x u:=by
 cases r with
 | cons r1 r2=>cases r2;exact⟨_,rfl,r1⟩
def FS(r:jq [x,y] us):∃u w',us=[u,w']/\jw x u/\jw y w':=by
 cases r with
 | cons r1 r2=>
  cases r2 with
  | cons r3 r4=>cases r4;exact⟨_,_,rfl,r1,r3⟩
def X7(hc:X.calm=true):Yi X (.builtin "max") (fun xs H Q=>∃i j,xs=[.int i,.int j]/\Q (.int (if j > i then j else i)) H):=by
 intro pins s U H xs us Q I r h;obtain⟨i,j,rfl,q⟩:=h;obtain⟨u,w',rfl,⟨t,rfl⟩,⟨t',rfl⟩⟩:=FS r;refine max_two_ints (I.ok.hd hc) fun h' tk k=>⟨_,H,I.kept k,?_,q⟩
 by_cases hj:j > i
 ·rw[if_pos hj,if_pos hj];exact⟨_,rfl⟩
 ·rw[if_neg hj,if_neg hj];exact⟨_,rfl⟩
end
structure ObjM (h:Heap) (x dx C:Addr) (mA:Tx):Prop where
 obj:h.get? x=some (PySem.W.instObj C dx)
 ns:h.Ns1 dx mA
 ne:dx≠x
set_option tactic.hygienic true in
theorem X8{h:Heap}(n:h.Ns1 dx mA):∃od,h.get? dx=some od/\∀name,PySem.W.lookIn name od=some (mA name):=by
 obtain⟨o,es,ep,ho,hd,hk,_,hm⟩:=n;refine⟨o,ho,fun name=>?_⟩;have e:=hm name;unfold nsFind findBy at e;rw[<-Array.find?_toList]at e;unfold PySem.W.lookIn;rw[hd];dsimp only;split
 ·rename_i y q;rw[q]at e;exact congrArg some e
 ·rename_i q;rw[q]at e;have a:es.toList.any (·.refKey)=false:=by
   rw[List.any_eq_false];intro y hy;obtain⟨z,t,hkey⟩:=hk y (Array.mem_toList_iff.mp hy);simp[DictEntry.refKey,hkey]
  have a':¬es.toList.any (·.refKey)=true:=by rw[a];exact vNa
  rw[if_neg a'];exact congrArg some e
def ObjM.look{h:Heap}{x dx C:Addr}{mA:Tx}(I:ObjM h x dx C mA):∃od,PySem.W.InstAt h x (PySem.W.instObj C dx) C (some od)/\∀name,PySem.W.lookIn name od=some (mA name):=
 let ⟨od,ho,hl⟩:=X8 I.ns
 ⟨od,⟨I.obj,rfl,rfl,ho⟩,hl⟩
section
variable {prog:Program} {w:World} {A:Around} {E:Tz} {s:Shared} {K:uXa} {x dx C f:Addr} {mA:Tx} {name:Str} {v:Value}
def cz{expr:Bool}{Q:Tz}(X:K.In s.heap)(I:ObjM s.heap x dx C mA)(hg:PySem.W.plainGet K C name=true)(hh:PySem.W.hasDictIn K C=true)
  (ha:PySem.W.findIn K (.ref C) name=some none) (hv:mA name=some v) (hv':PySem.W.handedIn v=true) (h:Q v { s with toks:=s.toks+1 }):
  wpAny (model prog w) A (getAttr (.ref x) name expr) Q E s:=by
 obtain⟨od,J,hl⟩:=I.look;exact PySem.W.get_value X J (PySem.W.plainGet_of hg).1 (PySem.W.findObj_own hh ha rfl (by rw[hl,hv])) hv' h
def Aa{pl:Sem Bool}{Q:Value×List Value->Shared->Prop}(X:K.In s.heap)(I:ObjM s.heap x dx C mA)(hg:PySem.W.plainGet K C name=true)
  (hf:PySem.W.findIn K (.ref C) name=some (some (.ref f))) (ht:PySem.W.isFn K (.ref f)=true) (hv:mA name=none) (h:Q (.ref f,[.ref x]) s):
  wpAny (model prog w) A (getMethod (.ref x) name pl) Q E s:=by
 obtain⟨od,J,hl⟩:=I.look;exact PySem.W.method_fn X J (PySem.W.plainGet_of hg).1 (PySem.W.plainGet_of hg).2 hf (beq_iff_eq.mp ht) (by show(PySem.W.lookIn name od).map (·.isSome)=some false;rw[hl,hv];rfl) h
def cH{ns:List Str}{Q:Unit->Shared->Prop}(X:K.In s.heap)(I:ObjM s.heap x dx C mA)
  (hs:PySem.W.findIn K (.ref C) "__setattr__" = some (some (.builtin "object.__setattr__"))) (hp:PySem.W.plainOver K C=true) (ht:PySem.W.takerIn K C name=some none) (hh:PySem.W.hasDictIn K C=true)
  (hw:PySem.Within mA ns) (hsz:ns.length<=sizeLine)
  (h:∀h',ObjM h' x dx C (fun y=>if y=name then some v else mA y)->Heap.SameBut dx s.heap h'->Q () { s with heap:=h',toks:=s.toks+2 }):
  wpAny (model prog w) A (setAttr (.ref x) name v) Q E s:=by
 obtain⟨od,J,hl⟩:=I.look;refine PySem.W.set_plain X J hs (PySem.W.osa_open (s:={ s with toks:=s.toks+1 }) (r:=none) X J hp ht fun b=>?_);obtain⟨cd,hc,hd'⟩:=PySem.W.any_some hh;have hx:s.heap.get? x=some ⟨.ref C,some dx,.plain,#[]⟩:=I.obj;refine wAa (wBa (wAa (wAa (wpAny_loadPart hx (wAa (PySem.W.Looks.here (s:={ s with toks:=s.toks+1 }) (PySem.W.looks_clsIn X hc) ?_))))));rw[hd'];refine wBa (a:=some dx) (wAa (wBa (wAa ?_)));refine wpAny_nsSet1 (s:={ s with toks:=s.toks+1 }) I.ns fun h' hn2 hs2=>?_;obtain⟨oD,esD,epD,hoD,hdD,hcD⟩:=hn2.count (PySem.Within.cons name v hw);refine wAa (wpAny_lookBehind hoD (by rw[hdD];exact pastItsLine_dict (wSa hcD (by rw[vXa];lia))) ?_);exact wBa (h _ ⟨(hs2.2 _ (Ne.symm I.ne)).trans I.obj,hn2,I.ne⟩ hs2)
def Ab{R:Result->Shared->Prop}{vs:List Value}{kw:List (Str×Value)}(X:K.In s.heap)(hm:PySem.W.makesIn K C=true)
  (hi:PySem.W.findIn K (.ref C) "__init__" = some (some (.ref f))) (hf:PySem.W.typeIn K (.ref f)=some (.type "function"))
  (h:codeAny (model prog w) (A.under (.builtin "type.__call__" ⟨.ref C::vs,kw⟩)) (.call (.ref f) ⟨.ref (s.heap.objs.size+1)::vs,kw⟩) (PySem.W.InitBack (s.heap.objs.size+1) R)
   { s with heap:=(s.heap.push PySem.W.emptyDict).push (PySem.W.instObj C s.heap.objs.size) }):
  codeAny (model prog w) A (.call (.ref C) ⟨vs,kw⟩) R s:=by
 obtain⟨hh,g,d,t,os⟩:=s;exact PySem.W.make_core (PySem.W.makes_of X hm) (PySem.W.looks_findIn X hi) (fun self=>PySem.W.bind_fn X self hf) (.inl rfl) h
end
noncomputable def Y8(f:Str)(v:V):List (Str×V)->List (Str×V)
 | []=>[(f,v)]
 | (g,x)::r=>if g=f then(g,v)::r else(g,x)::Y8 f v r
theorem Gx(f g:Str)(v:V):∀fs:List (Str×V),(Y8 f v fs).lookup g=if g=f then some v else fs.lookup g
 | []=>by
  show List.lookup g [(f,v)]=_;by_cases h:g=f
  ·have hb:(g==f)=true:=beq_iff_eq.mpr h;simp only[List.lookup,hb,if_pos h]
  ·have hb:(g==f)=false:=beq_eq_false_iff_ne.mpr h;simp only[List.lookup,hb,if_neg h]
 | (k,x)::r=>by
  have ih:=Gx f g v r;rw[show Y8 f v ((k,x)::r)=(if k=f then(k,v)::r else(k,x)::Y8 f v r) from rfl];by_cases hk:k=f
  ·rw[if_pos hk];by_cases h:g=k
   ·have hb:(g==k)=true:=beq_iff_eq.mpr h;simp only[List.lookup,hb,if_pos (h.trans hk)]
   ·have hb:(g==k)=false:=beq_eq_false_iff_ne.mpr h;simp only[List.lookup,hb,if_neg (fun e:g=f=>h (e.trans hk.symm))]
  ·rw[if_neg hk];by_cases h:g=k
   ·have hb:(g==k)=true:=beq_iff_eq.mpr h;simp only[List.lookup,hb,if_neg (fun e:g=f=>hk (h.symm.trans e))]
   ·have hb:(g==k)=false:=beq_eq_false_iff_ne.mpr h;simp only[List.lookup,hb];exact ih
theorem UG(f:Str)(v:V):∀fs:List (Str×V),f∈(Y8 f v fs).map (·.1)/\∀g,g∈fs.map (·.1)->g∈(Y8 f v fs).map (·.1)
 | []=>⟨by simp[Y8],fun g h=>by simp at h⟩
 | (k,x)::r=>by
  obtain⟨i1,i2⟩:=UG f v r;rw[show Y8 f v ((k,x)::r)=(if k=f then(k,v)::r else(k,x)::Y8 f v r) from rfl];by_cases hk:k=f
  ·rw[if_pos hk];subst hk;exact⟨by simp,fun g h=>by simpa using h⟩
  ·rw[if_neg hk];refine⟨?_,fun g h=>?_⟩
   ·rw[vWa];exact wMa _ i1
   ·rw[vWa]at h⊢;rcases uTa h with e | e
    ·exact List.mem_cons.mpr (.inl e)
    ·exact wMa _ (i2 g e)
theorem Gy(f:Str)(v:V):∀fs:List (Str×V),(Y8 f v fs).length<=fs.length+1
 | []=>by simp[Y8]
 | (k,x)::r=>by
  have ih:=Gy f v r;rw[show Y8 f v ((k,x)::r)=(if k=f then(k,v)::r else(k,x)::Y8 f v r) from rfl];by_cases hk:k=f
  ·rw[if_pos hk,vXa,vXa];lia
  ·rw[if_neg hk,vXa,vXa];lia
def VD.some_of(r:VD (some v) o):∃u,o=some u/\jw v u:=by
 cases o with
 | none=>exact(show False from r).elim
 | some u=>exact⟨u,rfl,r⟩
def VD.none_of(r:VD none o):o=none:=by
 cases o with
 | none=>rfl
 | some u=>exact(show False from r).elim
def X9(r:jw v u):PySem.W.handedIn u=true:=by
 cases v with
 | non=>cases (show u=Value.none from r);rfl
 | bl b=>cases (show u=Value.bool b from r);rfl
 | int i=>obtain⟨t,e⟩:=(show∃t,u=Value.int i t from r);cases e;rfl
 | str x=>obtain⟨t,e⟩:=(show∃t,u=Value.str x t from r);cases e;rfl
 | ref a=>cases (show u=Value.ref a from r);rfl
 | ty n=>cases (show u=Value.type n from r);rfl
def Kx(hok:yJ P w H h)(e:H a=some (.ins C dx fs)):∃mA,ObjM h a dx C mA/\(∀f,VD (fs.lookup f) (mA f))/\PySem.Within mA (fs.map (·.1))/\fs.length<=1000/\H dx=some (.own a):=by
 obtain⟨d,z,ne,ob,mA,n,r,q⟩:=(show yf P w H h a (.ins C dx fs) from hok a _ e)
 exact⟨mA,⟨ob,n,ne⟩,r,q,z,d⟩
structure Cls (K:uXa) (C:Addr):Prop where
 pg:PySem.W.plainGet K C Str.empty=true
 hd:PySem.W.hasDictIn K C=true
 po:PySem.W.plainOver K C=true
 sa:PySem.W.findIn K (.ref C) "__setattr__" = some (some (.builtin "object.__setattr__"))
def Cls.get{K:uXa}{C:Addr}(c:Cls K C)(f:Str):PySem.W.plainGet K C f=true:=c.pg
def YY(K:uXa)(C:Addr)(f:Str):Prop:=PySem.W.findIn K (.ref C) f=some none
def YY.taker{K:uXa}{C:Addr}{f:Str}(n:YY K C f):PySem.W.takerIn K C f=some none:=by
 unfold PySem.W.takerIn;rw[show PySem.W.findIn K (.ref C) f=some none from n];rfl
structure Meth (K:uXa) (C:Addr) (m:Str) (f:Addr):Prop where
 at_:PySem.W.findIn K (.ref C) m=some (some (.ref f))
 fn:PySem.W.isFn K (.ref f)=true
 kp:PySem.W.keepIn K (.ref f)=true
def xb(I:Inv X pins U H s)(e:H a=some (.ins C dx fs))(c:Cls X.K C)(n:YY X.K C f)(l:fs.lookup f=some v)
  (h:∀u s',Inv X pins U H s'->jw v u->Q u s'):wpAny (model X.prog X.w) A (getAttr (.ref a) f b) Q E s:=by
 obtain⟨mA,O,r,_,_,_⟩:=Kx I.hok e;obtain⟨u,hu,ru⟩:=VD.some_of (v:=v) (o:=mA f) (by rw[<-l];exact r f);exact cz I.kIn O (c.get f) c.hd n hu (X9 ru) (h u _ (I.tok _) ru)
def xc(I:Inv X pins U H s)(e:H a=some (.ins C dx fs))(c:Cls X.K C)(k:Meth X.K C m g)(l:fs.lookup m=none)
  (h:Q (.ref g,[.ref a]) s):wpAny (model X.prog X.w) A (getMethod (.ref a) m pl) Q E s:=by
 obtain⟨mA,O,r,_,_,_⟩:=Kx I.hok e;have hn:mA m=none:=VD.none_of (by rw[<-l];exact r m);exact Aa I.kIn O (c.get m) k.at_ k.fn hn h
def xf(I:Inv X pins U H s)(e:H a=some (.ins C dx fs))(c:Cls X.K C)(n:YY X.K C f)(hl:fs.length < 1000)(ry:jw y u)
  (h:∀s',Inv X pins U (upd H a (.ins C dx (Y8 f y fs))) s'->Q () s'):wpAny (model X.prog X.w) A (setAttr (.ref a) f u) Q E s:=by
 obtain⟨mA,O,r,wi,_,ho⟩:=Kx I.hok e;have hz:(fs.map (·.1)).length<=sizeLine:=by rw[vYa,sizeLine_eq];lia
 refine cH I.kIn O c.sa c.po n.taker c.hd wi hz fun h' O' sb=>h _ ?_;have hd:∃o,h'.get? dx=some o:=let ⟨o,_,_,e',_⟩:=O'.ns;⟨o,e'⟩
 refine I.write (x:=a) (e:=dx) (by rw[e];exact True.intro) (.inr ho) (fun b q hb z=>(sb.2 b hb).trans z) hd ?_;refine⟨by rw[jr O.ne];exact ho,?_,O.ne,O'.obj,_,O'.ns,fun g=>?_,fun g hg=>?_⟩
 ·have:=Gy f y fs;lia
 ·show VD ((Y8 f y fs).lookup g) (if g=f then some u else mA g);rw[Gx];by_cases q:g=f
  ·rw[if_pos q,if_pos q];exact ry
  ·rw[if_neg q,if_neg q];exact r g
 ·by_cases q:g=f
  ·rw[q];exact(UG f y fs).1
  ·refine(UG f y fs).2 g (wi g fun z=>hg ?_);show(if g=f then some u else mA g)=none;rw[if_neg q];exact z
def Inv.made(I:Inv X pins U H s):Inv X pins U (upd (upd H s.heap.objs.size (.own (s.heap.objs.size+1))) (s.heap.objs.size+1) (.ins C s.heap.objs.size []))
  { s with heap:=(s.heap.push PySem.W.emptyDict).push (PySem.W.instObj C s.heap.objs.size) }:=by
 have e1:(s.heap.push PySem.W.emptyDict).get? s.heap.objs.size=some PySem.W.emptyDict:=wJa s.heap rfl;have e2:((s.heap.push PySem.W.emptyDict).push (PySem.W.instObj C s.heap.objs.size)).get? (s.heap.objs.size+1)=some (PySem.W.instObj C s.heap.objs.size):=by
  have:=wJa (s.heap.push PySem.W.emptyDict) (o:=PySem.W.instObj C s.heap.objs.size) rfl;rwa [uPa]at this
 have e3:(s.heap.push PySem.W.emptyDict).Ns s.heap.objs.size (fun _=>none):=⟨PySem.W.emptyDict,#[],_,e1,rfl,(fun e he=>vDa he (by simp)),fun _=>rfl⟩
 have I1:=I.laid (a:=s.heap.objs.size) (o:=.own (s.heap.objs.size+1)) (h':=s.heap.push PySem.W.emptyDict) (t':=s.toks) (fun b u q=>wIa _ q) (wPa _) ⟨_,e1⟩;refine I1.laid (a:=s.heap.objs.size+1) (o:=.ins C s.heap.objs.size []) (t':=s.toks) (fun b u q=>wIa _ q) (Nat.le_of_eq (Heap.size_push _ _)) ?_;have ne:s.heap.objs.size≠s.heap.objs.size+1:=wTa (Nat.lt_succ_self _);refine⟨by rw[jr ne,jS],Nat.zero_le _,ne,e2,fun _=>none,(Heap.Ns1.of_empty e3).at fun o q=>wIa _ q,fun _=>True.intro,fun y hy=>vDa rfl hy⟩
def u4(hb:attributeBase e f env (eval e env)=eval e env)
  (h:wpAny (model prog w) A (eval e env) (fun o s₁=>wpAny (model prog w) A (getAttr o f true) Q E s₁) E s):wpAny (model prog w) A (eval (.Attribute e f pos) env) Q E s:=
 Attribute_any_ h (by rw[arm_eval_Attribute,hb])
def IU(K:uXa)(ta:TE)(f:Str):TE:=fun U H Q=>ta U H fun x H1=>∃a C dx fs v,x=.ref a/\H1 a=some (.ins C dx fs)/\Cls K C/\YY K C f/\fs.lookup f=some v/\Q v H1
def Dx(K:uXa)(ta tv:TE)(f:Str):TS:=fun D U H=>tv U H fun y H1=>ta U H1 fun x H2=>∃a C dx fs,x=.ref a/\H2 a=some (.ins C dx fs)/\Cls K C/\YY K C f/\fs.length < 1000/\
 D.nx U (upd H2 a (.ins C dx (Y8 f y fs)))
def Dy(he:PE X e ta)(hb:attributeBase e f X.env (eval e X.env)=eval e X.env):PE X (.Attribute e f pos) (IU X.K ta f):=by
 intro pins s U H Q I h;refine u4 hb (ju (he pins s U H _ I h) fun u s1 xx=>?_);obtain⟨x,H1,I1,rx,a,C,dx,fs,v,ex,ea,c,n,l,q⟩:=xx;subst ex;obtain rfl:u=Value.ref a:=rx;exact xb I1 ea c n l fun u' s2 I2 ru=>⟨v,H1,I2,ru,q⟩
def Dz(ha:PE X o ta)(hv:PE X value tv)(hs:swapsWith value (some (.Attribute o f pos')) pos.line X.env=pure false):PS X (.Assign [.Attribute o f pos'] value pos) (Dx X.K ta tv f):=by
 intro pins s U H D I h;refine plainObj_wpAny_Assign_Attribute (ju (hv pins s U H _ I h) fun u s1 ⟨y,H1,I1,ry,q⟩=>ju (ha pins s1 U H1 _ I1 q) fun ov s2 xx=>?_) hs;obtain⟨x,H2,I2,rx,a,C,dx,fs,ex,ea,c,n,l,q2⟩:=xx;subst ex;obtain rfl:ov=Value.ref a:=rx;exact xf I2 ea c n l ry fun s3 I3=>⟨U,_,I3,q2⟩
structure Room (k:Nat) (A:Around):Prop where
 hd:A.handled=none
 dp:A.depth+3 * k+5 < recursionLimit
 un:A.units+16 * k+200 < cLine
def Room.mono(r:Room k A)(h:j<=k):Room j A:=⟨r.hd,by have:=r.dp;lia,by have:=r.un;lia⟩
def Room.deeper{k:Nat}{A:Around}(r:Room (k+1) A)(env:Env):Room k (A.deeper env):=
 ⟨r.hd,by have:=r.dp;show A.depth+1+3 * k+5 < _;lia,by have:=r.un;show A.units+3+16 * k+200 < _;lia⟩
def xg{A:Around}:(A.under (.builtin "type.__call__" ⟨.ref C::us,kw⟩)).depth=A.depth+1:=by
 first | rfl | simp[Around.under,Code.weight,Code.isCreation,Code.isGuard,Code.isCaller,Code.frames,Code.isFrame,guardIds]
def xh{A:Around}:(A.under (.builtin "type.__call__" ⟨.ref C::us,kw⟩)).units=A.units+1:=by
 first | rfl | simp[Around.under,Code.cUnits,Code.frames,Code.isFrame]
def Room.make(r:Room (k+1) A)(C:Addr)(us:List Value)(kw:List (Str×Value)):Room k (A.under (.builtin "type.__call__" ⟨.ref C::us,kw⟩)):=
 ⟨r.hd,by have:=r.dp;rw[xg];lia,by have:=r.un;rw[xh];lia⟩
def Room.depth{A:Around}(r:Room k A):A.depth < recursionLimit:=by have:=r.dp;lia
def Room.units(r:Room k A):A.units+64 < cLine:=by have:=r.un;lia
def UH:TA:=fun _ H Q=>Q [] H
def Vj(ta:TE)(tr:TA):TA:=fun U H Q=>ta U H fun x H1=>tr U H1 fun xs H2=>Q (x::xs) H2
section
variable {X:Cx} {e:Expr} {es:List Expr} {te:TE} {t:TA} {pos:Pos}
def Yr:PA X [] UH:=fun _ _ _ _ H Q I h=>Calls.spliced_nil ⟨[],H,I,.nil,h⟩
def JE(ha:PE X e te)(hr:PA X es t)(hs:starEach (e::es) X.env=(false,eval e X.env)::starEach es X.env:=by rfl):PA X (e::es) (Vj te t):=by
 intro pos pins s U H Q I h;rw[hs];show wpAny _ _ (spliced ((false,eval e X.env)::backTo pos (starEach es X.env))) _ _ s;refine Calls.spliced_cons (ju (ha pins s U H _ I h) fun u s1 xx=>?_);obtain⟨x,H1,I1,r1,q1⟩:=xx;exact ju (hr pos pins s1 U H1 _ I1 q1) fun us s2 ⟨xs,H2,I2,r2,q2⟩=>⟨x::xs,H2,I2,.cons r1 r2,q2⟩
def IV(t:TA):TE:=fun U H Q=>t U H fun xs H1=>xs.length<=sizeLine/\∀p,H1 p=none->Q (.ref p) (upd H1 p (.tup xs))
def IW(t:TA):TE:=fun U H Q=>t U H fun xs H1=>xs.length<=sizeLine/\∀p,H1 p=none->Q (.ref p) (upd H1 p (.lst xs))
def Xa{x1}(h:PA X es t):PE X (.Tuple es x1 pos) (IV t):=by
 intro pins s U H Q I hq;refine wpAny_Tuple_spliced (ju (h pos pins s U H _ I hq) fun us s1 ⟨xs,H1,I1,r,z,q⟩=>⟨by rw[<-r.length];exact z,?_⟩);have hf:H1 s1.heap.objs.size=none:=I1.hok.fresh (wPa _);refine⟨.ref s1.heap.objs.size,upd H1 s1.heap.objs.size (.tup xs),I1.laid (t':=s1.toks) (fun b u e=>wIa _ e) (wPa _) ?_,rfl,q _ hf⟩;exact⟨z,us,r,⟨_,wJa _ rfl,rfl,_,rfl⟩⟩
def DB(h:PA X es t):PE X (.List es pos) (IW t):=by
 intro pins s U H Q I hq;refine wpAny_List_spliced (ju (h pos pins s U H _ I hq) fun us s1 ⟨xs,H1,I1,r,z,q⟩=>⟨by rw[<-r.length];exact z,?_⟩);have hf:H1 s1.heap.objs.size=none:=I1.hok.fresh (wPa _);refine⟨.ref s1.heap.objs.size,upd H1 s1.heap.objs.size (.lst xs),I1.laid (t':=s1.toks) (fun b u e=>wIa _ e) (wPa _) ?_,rfl,q _ hf⟩;exact⟨z,us,0,r,wJa _ rfl⟩
end
noncomputable abbrev Sp:=List V->Hp->VK->XK->Prop
noncomputable abbrev UI:=List Env->Hp->Shared->XK->Value->Shared->Prop
structure Env0 (P:Program) (w:World) (K:uXa) (mg:Tx) (base:Heap) (A:Around) (outer:List Env) (s:Shared) (H:Hp):Prop where
 frames:A.frames=some outer
 mod:Mod K mg base
 bs:∀b o,base.get? b=some o->s.heap.get? b=some o/\H b=none
 bsz:base.objs.size<=s.heap.objs.size
 funs:s.heap.FunFrames base outer
 frf:∀b∈Vi outer,H b=none
 hok:yJ P w H s.heap
 bare:AllBare s.gens
def CE(outer:List Env)(P:Program)(w:World)(H:Hp)(s:Shared)(Q:VK)(u:Value)(s':Shared):Prop:=
 ∃v H',s'.os=s.os/\AllBare s'.gens/\Un (Vi outer) [] H H' s.heap s'.heap/\yJ P w H' s'.heap/\jw v u/\Q v H'
def CR(CX:UI)(outer:List Env)(P:Program)(w:World)(H:Hp)(s:Shared)(Q:VK)(E:XK)(r:Result)(s':Shared):Prop:=
 match r with
 | .ok (.ret u)=>CE outer P w H s Q u s'
 | .ok _=>False
 | .error e=>CX outer H s E e s'
structure FnOk (P:Program) (w:World) (K:uXa) (mg:Tx) (base:Heap) (CX:UI) (k:Nat) (f:Addr) (fd:FuncData) (ps:List Str) (sp:Sp):Prop where
 len:∀vs H Q E,sp vs H Q E->vs.length=ps.length
 run:∀(A:Around) (outer:List Env) (s:Shared) (H:Hp) (args:Args) (us:List Value) (vs:List V) (Q:VK) (E:XK),Room k A->Env0 P w K mg base A outer s H->BindsTo s fd args (ps.zip us)->jq vs us->sp vs H Q E->
  codeAny (model P w) A (.call (.ref f) args) (CR CX outer P w H s Q E) s
def FnOk.imp{P:Program}{w:World}{K:uXa}{mg:Tx}{base:Heap}{CX:UI}{k:Nat}{f:Addr}{fd:FuncData}{ps:List Str}{sp sp':Sp}(F:FnOk P w K mg base CX k f fd ps sp)
  (h:∀vs H Q E,sp' vs H Q E->sp vs H Q E):FnOk P w K mg base CX k f fd ps sp':=
 ⟨fun vs H Q E q=>F.len vs H Q E (h _ _ _ _ q),fun A outer s H args us vs Q E hr he hb hv hs=>F.run A outer s H args us vs Q E hr he hb hv (h _ _ _ _ hs)⟩
def Env0.make{P:Program}{w:World}{K:uXa}{mg:Tx}{base:Heap}{A:Around}{outer:List Env}{s:Shared}{H:Hp}(e:Env0 P w K mg base A outer s H)(C:Addr)(us:List Value)(kw:List (Str×Value)):
  Env0 P w K mg base (A.under (.builtin "type.__call__" ⟨.ref C::us,kw⟩)) outer s H:=⟨by first | exact e.frames | (simpa[Around.under,Code.envs,Code.isFrame,pushEnvs]using e.frames),e.mod,e.bs,e.bsz,e.funs,e.frf,e.hok,e.bare⟩
section
variable {X:Cx} {pins:Tq} {U:St} {H:Hp} {s s':Shared}
def Inv.env0(I:Inv X pins U H s):Env0 X.prog X.w X.K X.mg X.base X.A X.stack s H:=
 ⟨I.ok.frames,I.ok.mod,I.bs,wSa I.ok.bsz I.sz,I.stack,I.stkFree,I.hok,I.bare⟩
def Inv.after(I:Inv X pins U H s)(h:CE X.stack X.prog X.w H s Q u s'):EP X pins U Q u s':=by
 obtain⟨v,H',os,bare,un,hok,r,q⟩:=h;obtain⟨hh,g,d,t,os'⟩:=s';obtain rfl:os'=s.os:=os;exact⟨v,H',I.call (h':=hh) (g':=g) (d':=d) (t':=t) (ch:=[]) un hok bare (fun b z=>vDa z (by simp)),r,q⟩
end
def bX(sp:Sp)(dvs:List V)(E:XK)(t:TA):TE:=fun U H Q=>t U H fun vs H1=>sp (vs++dvs) H1 Q E
def bZ(C:Addr)(m:Str)(sp:Sp)(dvs:List V)(E:XK)(ta:TE)(t:TA):TE:=fun U H Q=>ta U H fun x H1=>∃a dx fs,x=.ref a/\H1 a=some (.ins C dx fs)/\fs.lookup m=none/\
 t U H1 fun vs H2=>sp (x::(vs++dvs)) H2 Q E
def b_(C:Addr)(sp:Sp)(dvs:List V)(E:XK)(t:TA):TE:=fun U H Q=>t U H fun vs H1=>∀x dx,H1 x=none->H1 dx=none->dx≠x->
 sp (.ref x::(vs++dvs)) (upd (upd H1 dx (.own x)) x (.ins C dx [])) (fun v H2=>v=.non/\Q (.ref x) H2) E
def zG(K:uXa)(fd:FuncData)(ps:List Str)(ds:List Value):Prop:=
 ∀(s:Shared) (us:List Value),K.In s.heap->(us++ds).length=ps.length->BindsTo s fd ⟨us,[]⟩ (ps.zip (us++ds))
def zG.all{K:uXa}{fd:FuncData}{ps:List Str}(h:∀us:List Value,us.length=ps.length->bindArgs fd ⟨us,[]⟩=pure (ps.zip us)):zG K fd ps []:=fun s us _ hl=>by
 rw[uFa]at hl⊢;exact .of_eq (h us hl)
def u5(CX:UI)(X:Cx)(E:XK):Prop:=∀(pins:Tq) (U:St) (H:Hp) (s:Shared) (e:Value) (s':Shared),Inv X pins U H s->CX X.stack H s E e s'->X.xe e s'
section
variable {X:Cx} {CX:UI} {k:Nat} {f C:Addr} {fd:FuncData} {ps:List Str} {sp:Sp} {dvs:List V} {ds:List Value} {E:XK} {x m:Str} {p pos apos:Pos} {e o:Expr} {es:List Expr} {ta:TE} {t:TA}
theorem Xb(F:FnOk X.prog X.w X.K X.mg X.base CX k f fd ps sp)(hr:Room k X.A)(hb:zG X.K fd ps ds)(hd:jq dvs ds)(hx:u5 CX X E)
  (I:Inv X pins U H s) (r:jq vs us) (h:sp (vs++dvs) H Q E):wpAny (model X.prog X.w) X.A (call (.ref f) us) (EP X pins U Q) X.xe s:=by
 have r2:jq (vs++dvs) (us++ds):=r.append hd;have hl:(us++ds).length=ps.length:=by rw[<-r2.length];exact F.len _ _ _ _ h
 refine wpAny_call (codeAny_mono (F.run X.A X.stack s H ⟨us,[]⟩ (us++ds) (vs++dvs) Q E hr I.env0 (hb s us I.kIn hl) r2 h) fun r s' hq=>?_);cases r with
 | error e=>exact hx pins U H s e s' I hq
 | ok fl=>
  cases fl with
  | ret u=>exact I.after hq
  | next=>exact False.elim hq
  | brk=>exact False.elim hq
  | cont=>exact False.elim hq
def cJ(F:FnOk X.prog X.w X.K X.mg X.base CX k f fd ps sp)(hr:Room k X.A)(hg:Gl X x)(hm:X.mg x=some (.ref f))(hk:PySem.W.keepIn X.K (.ref f)=true)(hb:zG X.K fd ps ds)(hd:jq dvs ds)(hx:u5 CX X E)
  (ha:PA X (e::es) t) (hdb:(x==("__debug__" : Str))=false:=by decide) (he:starEach (e::es) X.env=(false,eval e X.env)::starEach es X.env:=by rfl) (hpl:(backTo pos (starEach es X.env)).any (·.1)=false:=by rfl):
  PE X (.Call (.Name x p) (e::es) [] pos) (bX sp dvs E t):=by
 intro pins s U H Q I h;refine wpAny_Call_Name_kw (Ku I hg hm ?_ hdb);refine PySem.W.callWith_K (h₀:=X.base) I.ok.mod.kin hk (ju (ha pos pins s U H _ I h) fun us s1 ⟨vs,H1,I1,r,q⟩=>⟨I1.kIn,?_⟩) he hpl;exact Xb F hr hb hd hx I1 r q
def Ad(he:PE X o ta)(c:Cls X.K C)(hm:Meth X.K C m f)(F:FnOk X.prog X.w X.K X.mg X.base CX k f fd ps sp)(hr:Room k X.A)(hb:zG X.K fd ps ds)(hd:jq dvs ds)(hx:u5 CX X E)
  (ht:eval (.Call (.Attribute o m apos) [] [] pos) X.env=(do
   let ov<-eval o X.env
   standAt apos.atName
   let (f,first)<-holding [ov] (getMethod ov m pl)
   callWith pos f first (backTo pos (starEach [] X.env)) (backToKw pos (keywordEach [] X.env))):=by rfl):
  PE X (.Call (.Attribute o m apos) [] [] pos) (bZ C m sp dvs E ta UH):=by
 intro pins s U H Q I h;refine PySem.W.methodCall_KW (pl:=pl) (ju (he pins s U H _ I h) fun u s1 xx=>?_) ht;obtain⟨x,H1,I1,rx,a,dx,fs,ex,ea,l,q⟩:=xx;subst ex;obtain rfl:u=Value.ref a:=rx;refine xc I1 ea c hm l ?_;exact PySem.W.callWith_K0 (first:=[.ref a]) I1.kIn hm.kp (Xb (us:=[.ref a]) (vs:=[.ref a]) F hr hb hd hx I1 (.cons rfl .nil) q)
structure Mk (K:uXa) (C f:Addr):Prop where
 makes:PySem.W.makesIn K C=true
 init:PySem.W.findIn K (.ref C) "__init__" = some (some (.ref f))
 fn:PySem.W.isFn K (.ref f)=true
 kp:PySem.W.keepIn K (.ref C)=true
theorem Ae(M:Mk X.K C f)(F:FnOk X.prog X.w X.K X.mg X.base CX k f fd ps sp)(hr:Room (k+1) X.A)(hb:zG X.K fd ps ds)(hd:jq dvs ds)
  (hx:u5 CX X E) (I:Inv X pins U H s) (r:jq vs us)
  (h:∀x dx,H x=none->H dx=none->dx≠x->sp (.ref x::(vs++dvs)) (upd (upd H dx (.own x)) x (.ins C dx [])) (fun v H2=>v=.non/\Q (.ref x) H2) E):
  wpAny (model X.prog X.w) X.A (call (.ref C) us) (EP X pins U Q) X.xe s:=by
 have hq:=h (s.heap.objs.size+1) s.heap.objs.size (I.hok.fresh (vMa _)) (I.hok.fresh (wPa _)) (wTa (Nat.lt_succ_self _));have I2:=Inv.made (C:=C) I;have r2:jq (V.ref (s.heap.objs.size+1)::(vs++dvs)) (Value.ref (s.heap.objs.size+1)::(us++ds)):=.cons rfl (r.append hd);have hl:(Value.ref (s.heap.objs.size+1)::us++ds).length=ps.length:=by
  have e:=r2.length;rw[F.len _ _ _ _ hq]at e;exact e.symm
 refine wpAny_call (Ab (f:=f) I.kIn M.makes M.init (beq_iff_eq.mp M.fn) (codeAny_mono (F.run _ X.stack _ _ ⟨Value.ref (s.heap.objs.size+1)::us,[]⟩ (Value.ref (s.heap.objs.size+1)::(us++ds)) _ _ E (hr.make C us [])
  (I2.env0.make C us []) (hb _ (Value.ref (s.heap.objs.size+1)::us) I2.kIn hl) r2 hq) fun r s' hq'=>?_))
 cases r with
 | error e=>exact hx pins U _ _ e s' I2 hq'
 | ok fl=>
  cases fl with
  | ret u=>
   obtain⟨v,H',I3,rv,ev,q3⟩:=I2.after hq';subst ev;exact⟨rv,⟨V.ref (s.heap.objs.size+1),H',I3,rfl,q3⟩⟩
  | next=>exact False.elim hq'
  | brk=>exact False.elim hq'
  | cont=>exact False.elim hq'
def cK(M:Mk X.K C f)(F:FnOk X.prog X.w X.K X.mg X.base CX k f fd ps sp)(hr:Room (k+1) X.A)(hg:Gl X x)(hm:X.mg x=some (.ref C))(hb:zG X.K fd ps ds)(hd:jq dvs ds)(hx:u5 CX X E)
  (ha:PA X (e::es) t) (hdb:(x==("__debug__" : Str))=false:=by decide) (he:starEach (e::es) X.env=(false,eval e X.env)::starEach es X.env:=by rfl) (hpl:(backTo pos (starEach es X.env)).any (·.1)=false:=by rfl):
  PE X (.Call (.Name x p) (e::es) [] pos) (b_ C sp dvs E t):=by
 intro pins s U H Q I h;refine wpAny_Call_Name_kw (Ku I hg hm ?_ hdb);refine PySem.W.callWith_K (h₀:=X.base) I.ok.mod.kin M.kp (ju (ha pos pins s U H _ I h) fun us s1 ⟨vs,H1,I1,r,q⟩=>⟨I1.kIn,?_⟩) he hpl;exact Ae M F hr hb hd hx I1 r q
end
def PK(X:Cx)(kws:List Keyword)(t:TA):Prop:=
 ∀(pos:Pos) (pins:Tq) (s:Shared) (U:St) (H:Hp) (Q:List V->Hp->Prop),Inv X pins U H s->t U H Q->wpAny (model X.prog X.w) X.A (evalAll ((backToKw pos (keywordEach kws X.env)).map (·.2))) (AP X pins U Q) X.xe s
section
variable {X:Cx} {CX:UI} {k:Nat} {f C:Addr} {fd:FuncData} {ps ks:List Str} {sp:Sp} {E:XK} {x m:Str} {p pos apos kpos:Pos} {e o:Expr} {es:List Expr} {kws:List Keyword} {te ta:TE} {t tk:TA} {nm:Option Str}
def DC:PK X [] UH:=fun _ _ _ _ H Q I h=>wpAny_evalAll_nil ⟨[],H,I,.nil,h⟩
def cL(ha:PE X e te)(hr:PK X kws t):PK X (⟨nm,e,kpos⟩::kws) (Vj te t):=by
 intro pos pins s U H Q I h;show wpAny _ _ (evalAll ((do let v<-eval e X.env;standAt pos;pure v)::(backToKw pos (keywordEach kws X.env)).map (·.2))) _ _ s;refine wpAny_evalAll_cons (wAa (ju (ha pins s U H _ I h) fun u s1 ⟨x,H1,I1,r1,q1⟩=>wAa (vOa (wBa ?_))));exact ju (hr pos pins s1 U H1 _ I1 q1) fun us s2 ⟨xs,H2,I2,r2,q2⟩=>⟨x::xs,H2,I2,.cons r1 r2,q2⟩
variable {g:List Value->List Value->List Value} {gV:List V->List V->List V}
end
structure FnScope (N P:List Str) (sc:Scope):Prop where
 kind:sc.kind=.function
 co:sc.isCoroutine=false
 gen:sc.isGenerator=false
 nd:N.Nodup
 pre:N.take P.length=P
 par:∀x∈P,sc.names.lookup x=some .local \/ sc.names.lookup x=some .cell
 nofree:∀y∈sc.names,y.2≠.free
theorem wx{kindOf:Str->Option NameKind}{x:Str}:∀{binds:List (Str×Value)} {m:Tx},(∀v,(x,v)∉binds)->bindL kindOf binds m x=m x
 | [],_,_=>rfl
 | (n,v)::r,m,h=>by
  unfold bindL;rw[wx fun w hw=>h w (List.mem_cons_of_mem _ hw)];split
  ·have:x≠n:=by rintro rfl;exact h v wNa
   simp[this]
  ·rfl
theorem wy{kindOf:Str->Option NameKind}{x:Str}:∀{binds:List (Str×Value)} {m:Tx},(∀v,(x,v)∉binds)->bindC kindOf binds m x=m x
 | [],_,_=>rfl
 | (n,v)::r,m,h=>by
  unfold bindC;rw[wy fun w hw=>h w (List.mem_cons_of_mem _ hw)];split
  ·rfl
  ·have:x≠n:=by rintro rfl;exact h v wNa
   simp[this]
theorem wz{kindOf:Str->Option NameKind}{x:Str}{v:Value}:∀{P:List Str} {vs:List Value} {i:Nat} {m:Tx},P.Nodup->P[i]?=some x->vs[i]?=some v->kindOf x=some .local->
  bindL kindOf (P.zip vs) m x=some v
 | [],_,_,_,_,h,_,_=>by simp at h
 | _::_,[],_,_,_,_,h,_=>by simp at h
 | p::P,w::vs,0,m,nd,h1,h2,hk=>by
  simp at h1 h2;subst h1;subst h2;show bindL kindOf ((p,w)::P.zip vs) m p=_;unfold bindL;rw[wx fun v hv=>(List.nodup_cons.mp nd).1 (List.of_mem_zip hv).1,if_pos hk];simp
 | p::P,w::vs,i+1,m,nd,h1,h2,hk=>by
  show bindL kindOf ((p,w)::P.zip vs) m x=_;unfold bindL;exact wz (i:=i) (List.nodup_cons.mp nd).2 (by simpa using h1) (by simpa using h2) hk
theorem wA{kindOf:Str->Option NameKind}{x:Str}{v:Value}:∀{P:List Str} {vs:List Value} {i:Nat} {m:Tx},P.Nodup->P[i]?=some x->vs[i]?=some v->kindOf x≠some .local->
  bindC kindOf (P.zip vs) m x=some v
 | [],_,_,_,_,h,_,_=>by simp at h
 | _::_,[],_,_,_,_,h,_=>by simp at h
 | p::P,w::vs,0,m,nd,h1,h2,hk=>by
  simp at h1 h2;subst h1;subst h2;show bindC kindOf ((p,w)::P.zip vs) m p=_;unfold bindC;rw[wy fun v hv=>(List.nodup_cons.mp nd).1 (List.of_mem_zip hv).1,if_neg hk];simp
 | p::P,w::vs,i+1,m,nd,h1,h2,hk=>by
  show bindC kindOf ((p,w)::P.zip vs) m x=_;unfold bindC;exact wA (i:=i) (List.nodup_cons.mp nd).2 (by simpa using h1) (by simpa using h2) hk
noncomputable def za(N:List Str)(vs:List V):St:=vs.map some++List.replicate (N.length - vs.length) none
noncomputable def ZV(CX:UI)(P:Program)(w:World)(K:uXa)(mg:Tx)(base:Heap)(N:List Str)(qual:Str)(scope:Scope)(f:Addr)(cd:Value)(A:Around)(outer:List Env)(s:Shared)(H:Hp)(E:XK):Cx where
 prog:=P
 w:=w
 K:=K
 mg:=mg
 base:=base
 A:=A.deeper (envOfC qual scope s.heap.objs.size f cd)
 N:=N
 s₀:=s
 H₀:=H
 env:=envOfC qual scope s.heap.objs.size f cd
 outer:=outer
 stack:=envOfC qual scope s.heap.objs.size f cd::outer
 ex:=[]
 calm:=true
 fn:=fun _=>true
 pn:=[]
 xe:=fun e s'=>wpAny (model P w) (A.deeper (envOfC qual scope s.heap.objs.size f cd)) (leaving (envOfC qual scope s.heap.objs.size f cd) e) (fun _ s''=>CX outer H s E e s'') (fun e' s''=>CX outer H s E e' s'') s'
def Wj{sc:Scope}(h:sc.names.lookup x=some .cell):∃c,(cellsFrom n sc.names []).lookup x=some c:=by
 have q:=PySem.W.cellsFrom_some sc.names n [] (.inl h);exact Option.isSome_iff_exists.mp q
def Xc{CX:UI}{P:Program}{w:World}{K:uXa}{mg:Tx}{base:Heap}{N ps:List Str}{qual:Str}{scope:Scope}{f:Addr}{cd:Value}{A:Around}{outer:List Env}{s s1:Shared}{H:Hp}{E:XK}{us:List Value}{vs:List V}
  (S:FnScope N ps scope) (hd:A.handled=none) (e0:Env0 P w K mg base A outer s H) (hl:vs.length=ps.length) (r:jq vs us)
  (x:InCallC s s.heap.objs.size (bindL (envOfC qual scope s.heap.objs.size f cd).kindOf (ps.zip us) fun _=>none) (cellsFrom (s.heap.objs.size+1) scope.names []) (bindC (envOfC qual scope s.heap.objs.size f cd).kindOf (ps.zip us) fun _=>none) s1):
  Inv (ZV CX P w K mg base N qual scope f cd A outer s H E) [] (za N vs) H s1:=by
 have hpl:ps.length<=N.length:=by have:=congrArg List.length S.pre;rw[uOa]at this;lia
 obtain⟨h1,tk,rfl,hk⟩:=x.done;have noA:∀b:Addr,b∉(ZV CX P w K mg base N qual scope f cd A outer s H E).ex:=fun b z=>vDa (show b∈([]:List Addr) from z) (by simp);refine⟨⟨e0.mod,S.kind,rfl,rfl,wPa _,fun y z c h1 h2=>?_,fun y hy=>?_,fun y c _ h=>?_,fun _=>hd,Around.frames_deeper e0.frames,.inr ⟨rfl,rfl⟩,fun b z=>vDa z (noA b),e0.bs,e0.bsz,fun b _ _=>noA b,fun b z=>vDa z (noA b),e0.funs,e0.frf⟩,
  rfl,e0.bare,Un.kept hk,⟨_,x.toInCall.ns,fun i y v h1 h2 h3=>?_⟩,fun y c h=>⟨_,x.cell y c h⟩,e0.hok.fresh (wPa _),fun y c h=>?_,fun p hp=>vDa (show p∈([]:Tq) from hp) (by simp),e0.hok.kept hk,?_⟩
 ·exact name_of_addr x.apart (PySem.mem_of_lookup h1) (PySem.mem_of_lookup h2)
 ·have hy:scope.names.lookup y=some .cell \/ scope.names.lookup y=some .free:=hy;rcases hy with hy | hy
  ·exact Wj hy
  ·exact vDa rfl (S.nofree _ (PySem.mem_of_lookup hy))
 ·exact wQa (x.above y c (PySem.mem_of_lookup h))
 ·have hi:i < vs.length:=by
   unfold za at h2;by_cases hi:i < vs.length
   ·exact hi
   ·rw[List.getElem?_append_right (by simpa using hi)]at h2;rw[List.getElem?_replicate]at h2;split at h2 <;> cases h2
  have ha:vs[i]?=some v:=by
   unfold za at h2;rw[uRa (by simpa using hi),uAa]at h2;cases e:vs[i]? with
   | none=>rw[e]at h2;cases h2
   | some a=>rw[e]at h2;cases h2;rfl
  obtain⟨u,hu,rv⟩:=r.get ha;have hp:ps[i]?=some y:=by
   rw[<-S.pre,List.getElem?_take_of_lt (by lia)];exact h1
  have ndP:ps.Nodup:=by rw[<-S.pre];exact S.nd.sublist (List.take_sublist _ _)
  refine⟨u,rv,?_⟩;rcases S.par y (wYa hp)with k | k
  ·exact .inl ⟨k,wz ndP hp hu k⟩
  ·obtain⟨c,e⟩:=Wj (n:=s.heap.objs.size+1) k;refine .inr ⟨.inl k,c,e,?_⟩;have q:=x.cell y c e;rw[wA ndP hp hu (by show scope.names.lookup y≠_;rw[k];decide)]at q;exact q
 ·exact e0.hok.fresh (wQa (x.above y c (PySem.mem_of_lookup h)))
 ·unfold za;show _=N.length;rw[vZa,vYa,List.length_replicate]
  lia
theorem FT{CX:UI}{P:Program}{w:World}{K:uXa}{mg:Tx}{base:Heap}{k:Nat}{f:Addr}{name qual:Str}{params:Arguments}{body:List Stmt}{scope:Scope}{dV kV doc pm cdv ct oc:Value}{an od:Option Addr}
  {osl:Array (Option Value)} {N ps:List Str} {sp:Sp} (lk:K.lookup f=some ⟨oc,od,.func (PySem.W.fnOf name qual params body scope dV kV doc pm an cdv ct),osl⟩) (hcd:PySem.W.codeIn K cdv qual=true) (S:FnScope N ps scope)
  (len:∀vs H Q E,sp vs H Q E->vs.length=ps.length)
  (hbody:∀(A:Around) (outer:List Env) (s:Shared) (H:Hp) (vs:List V) (Q:VK) (E:XK),Room k (A.deeper (envOfC qual scope s.heap.objs.size f cdv))->sp vs H Q E->
   ∃t,jP (ZV CX P w K mg base N qual scope f cdv A outer s H E) body t/\t { nx:=fun _ H'=>Q .non H',rt:=Q } (za N vs) H):
  FnOk P w K mg base CX (k+1) f (PySem.W.fnOf name qual params body scope dV kV doc pm an cdv ct) ps sp:=by
 refine⟨len,fun A outer s H args us vs Q E hr e0 hb r hsp=>?_⟩;have hl:=len _ _ _ _ hsp;have KX:K.In s.heap:=e0.mod.kin.keeps fun b o e=>(e0.bs b o e).1;have lim:s.heap.NoLimit:=e0.mod.nolimit.keeps fun b o e=>(e0.bs b o e).1;have hkind:∀y∈ps.zip us,scope.names.lookup y.1=some .local \/ (scope.names.lookup y.1=some .cell/\((cellsFrom (s.heap.objs.size+1) scope.names []).lookup y.1).isSome=true):=fun⟨n,v⟩ hy=>by
  rcases S.par n (List.of_mem_zip hy).1 with q | q
  ·exact .inl q
  ·exact .inr ⟨q,PySem.W.cellsFrom_some _ _ _ (.inl q)⟩
 refine codeAny_call_function hr.depth (KX _ _ lk) rfl S.co S.gen rfl (PySem.W.codeRec_of KX hcd) (hb _ _ _ _ ?_);refine wpAny_newFunctionEnv_cells S.kind hkind fun env he s1 x=>?_;subst he;refine⟨lim.keeps x.toInCall.keep,codeAny_func ?_⟩;obtain⟨t,ht,hq⟩:=hbody A outer s H vs Q E (hr.deeper _) hsp;have I:Inv (ZV CX P w K mg base N qual scope f cdv A outer s H E) [] (za N vs) H s1:=Xc S hr.hd e0 hl r x;refine wCa (ht [] s1 (za N vs) H _ I hq) (fun fl s' hs=>?_) fun e s' hs=>hs;have fin:∀{U':St} {H':Hp} {v:V} {u:Value},Inv (ZV CX P w K mg base N qual scope f cdv A outer s H E) [] U' H' s'->jw v u->Q v H'->CE outer P w H s Q u s':=
  fun {U' H' v u} J rv q=>⟨v,H',J.os,J.bare,J.base,J.hok,rv,q⟩
 cases fl with
 | ret u=>
  obtain⟨v,U',H',J,rv,q⟩:=hs;exact fin J rv q
 | next=>
  obtain⟨U',H',J,q⟩:=hs;exact fin (v:=V.non) (u:=Value.none) J rfl q
 | brk=>
  obtain⟨_,_,_,q⟩:=hs;exact False.elim q
 | cont=>
  obtain⟨_,_,_,q⟩:=hs;exact False.elim q
section
variable {X:Cx} {x:Str} {p pos:Pos} {e:Expr} {es:List Expr} {t:TA} {id T:String} {r:List V->Hp->VK->Prop}
def Xd(r:List V->Hp->VK->Prop)(t:TA):TE:=fun U H Q=>t U H fun vs H1=>r vs H1 Q
def Ys(hc:Yi X (.builtin id) r)(hg:Gl X x)(hm:X.mg x=none)(hv:bootBuiltins x=some (.builtin id))(ha:PA X (e::es) t)(hn:x≠ "__name__" := by decide)(hdb:(x==("__debug__" : Str))=false:=by decide)
  (he:starEach (e::es) X.env=(false,eval e X.env)::starEach es X.env:=by rfl) (hpl:(backTo pos (starEach es X.env)).any (·.1)=false:=by rfl):PE X (.Call (.Name x p) (e::es) [] pos) (Xd r t):=by
 intro pins s U H Q I h;refine wpAny_Call_Name_kw (ZH I hg hm hv ?_ hn hdb);exact PyProof.Rows.callWith_builtin1 (ju (ha pos pins s U H _ I h) fun us s1 ⟨vs,H1,I1,r1,q1⟩=>hc pins s1 U H1 vs us Q I1 r1 q1) he hpl
def Vk(hc:Yi X (.type T) r)(hg:Gl X x)(hm:X.mg x=none)(hv:bootBuiltins x=some (.type T))(ha:PA X (e::es) t)(hn:x≠ "__name__" := by decide)(hdb:(x==("__debug__" : Str))=false:=by decide)
  (he:starEach (e::es) X.env=(false,eval e X.env)::starEach es X.env:=by rfl) (hpl:(backTo pos (starEach es X.env)).any (·.1)=false:=by rfl):PE X (.Call (.Name x p) (e::es) [] pos) (Xd r t):=by
 intro pins s U H Q I h;refine wpAny_Call_Name_kw (ZH I hg hm hv ?_ hn hdb);exact PyProof.Rows.callWith_type1 (ju (ha pos pins s U H _ I h) fun us s1 ⟨vs,H1,I1,r1,q1⟩=>hc pins s1 U H1 vs us Q I1 r1 q1) he hpl
end
end L2
namespace HT
section
open PySem.SeqAt
open PySem.AutoSeq1 (wpAny_loadPart')
open PySem.MeetsSeq PySem.MeetsSeq2 PySem.MeetsSeq3
end
section
variable {prog:Program} {w:World} {A:Around} {E:Tz} {s:Shared}
def cat_tup(ht:IsTup s.heap t vs.toArray)(hb:IsTup s.heap b ws.toArray)(hv:vs≠[])
  (h1:ws=[]->Q (.ref t) s) (h2:ws≠[]->Q (.ref s.heap.objs.size) { s with heap:=s.heap.push { cls:=.type "tuple",data:=.seq (vs++ws).toArray } })
  (hsz:vs.length+ws.length<=sizeLine):wpAny (model prog w) A (binaryOp .Add (.ref t) (.ref b)) Q E s:=by
 obtain⟨⟨cls,dd,data,sl⟩,ho,hc,n,hd⟩:=id ht;obtain⟨⟨cls2,dd2,data2,sl2⟩,ho2,hc2,n2,hd2⟩:=id hb;simp only at hc hd hc2 hd2;subst hc hd hc2 hd2;have e:vs.toArray++ws.toArray=(vs++ws).toArray:=by simp
 by_cases hw:ws=[]
 ·exact concat_meets ⟨_,ho,rfl⟩ ⟨_,ho2,rfl⟩ noFill_tuple_add seq_tuple_add PySem.F.slot_tuple_add PySem.F.entry_tuple_add (PySem.F.args_tuple_add_2 _ _)
   (tuple_addW1 t b vs.toArray ws.toArray n n2 dd dd2 sl sl2 (by simpa using hv) (by simp[hw])) ⟨ho,ho2,h1 hw⟩
 ·refine concat_meets ⟨_,ho,rfl⟩ ⟨_,ho2,rfl⟩ noFill_tuple_add seq_tuple_add PySem.F.slot_tuple_add PySem.F.entry_tuple_add (PySem.F.args_tuple_add_2 _ _)
   (tuple_addW2 t b vs.toArray ws.toArray n n2 dd dd2 sl sl2 (by simpa using hv) (by simpa using hw) (by rw[List.size_toArray,List.size_toArray];exact hsz)) ⟨ho,ho2,?_⟩
  rw[e];exact h2 hw
noncomputable def sIx(n d:Nat):Option Int->Nat
 | none=>d
 | some v=>if v < 0 then(v+(n:Int)).toNat else min v.toNat n
def sIx_nat(n d k:Nat):sIx n d (some (k:Int))=min k n:=by
 show(if (k:Int) < 0 then((k:Int)+(n:Int)).toNat else min (k:Int).toNat n)=min k n;rw[if_neg (by lia),Int.toNat_natCast]
def sIx_le(n d:Nat)(hd:d<=n)(o:Option Int):sIx n d o<=n:=by
 cases o with
 | none=>exact hd
 | some v=>
  show(if v < 0 then(v+(n:Int)).toNat else min v.toNat n)<=n;by_cases hv:v < 0
  ·rw[if_pos hv];lia
  ·rw[if_neg hv];exact Nat.min_le_right _ _
def clip_eq(v:Int)(n d:Nat):(if v < 0 then max (v+(n:Int)) 0 else min v (n:Int))=((sIx n d (some v):Nat):Int):=by
 show(if v < 0 then max (v+(n:Int)) 0 else min v (n:Int))=(((if v < 0 then(v+(n:Int)).toNat else min v.toNat n):Nat):Int)
 by_cases hv:v < 0
 ·simp only[if_pos hv];lia
 ·simp only[if_neg hv];lia
def adjust_gen(lo hi:Option Int)(n:Nat):Builtin.Slice.sliceAdjust lo hi 1 (n:Int)=(((sIx n 0 lo:Nat):Int),((sIx n n hi:Nat):Int)):=by
 have h1:¬((1:Int) < 0):=by lia
 unfold Builtin.Slice.sliceAdjust;simp only[h1,if_false];refine Prod.ext ?_ ?_
 ·cases lo with
  | none=>rfl
  | some v=>exact clip_eq v n 0
 ·cases hi with
  | none=>rfl
  | some v=>exact clip_eq v n n
def places_gen(i j:Nat):Builtin.Slice.slicePlaces (i:Int) (j:Int) 1=j - i:=by
 unfold Builtin.Slice.slicePlaces;have h1:(1:Int) > 0:=by lia
 simp only[h1,if_true,Int.ediv_one];split <;> lia
def slicePart_(p:IsPart v o)(h:Q o s):wpAny (model prog w) A (Builtin.Slice.slicePartIndex v) Q E s:=by
 cases p with
 | none=>exact slicePart_none h
 | int i t=>exact slicePart_int h
def sliceApplied_gen{sl:Addr}{vl vu:Value}{lo hi:Option Int}{n:Nat}{Q:Int×Int×Nat->Shared->Prop}(hs:s.heap.IsSliceOf sl vl vu .none)(pl:IsPart vl lo)(pu:IsPart vu hi)
  (h:Q (((sIx n 0 lo:Nat):Int),1,sIx n n hi - sIx n 0 lo) s):wpAny (model prog w) A (Builtin.Slice.sliceApplied (.ref sl) (pure (n:Int))) Q E s:=by
 obtain⟨os,hos,hcs,hds⟩:=id hs;unfold Builtin.Slice.sliceApplied Builtin.Slice.sliceFields;refine wAa (wAa (wpAny_field hos hds (x:=vl) rfl (wAa (wpAny_field hos hds (x:=vu) rfl (wAa (wpAny_field hos hds (x:=.none) rfl (wBa ?_)))))));refine wAa (slicePart_none ?_);show wpAny _ _ (if ((1:Int)==0)=true then _ else _) _ _ s;rw[if_neg (by decide)];refine wAa (slicePart_ pl (wAa (slicePart_ pu (wAa (wBa ?_)))));show wpAny _ _ (match Builtin.Slice.sliceAdjust lo hi 1 (n:Int)with | (lo,hi)=>pure (lo,(1:Int),Builtin.Slice.slicePlaces lo hi 1)) _ _ s;rw[adjust_gen lo hi n];show wpAny _ _ (pure (((sIx n 0 lo:Nat):Int),(1:Int),Builtin.Slice.slicePlaces ((sIx n 0 lo:Nat):Int) ((sIx n n hi:Nat):Int) 1)) _ _ s;rw[places_gen];exact wBa h
def pick_gen(xs:Array Value)(i k:Nat):((List.range k).filterMap fun(m:Nat)=>xs[((i:Int)+(m:Int) * 1).toNat]?).toArray=((xs.toList.drop i).take k).toArray:=by
 have e:(fun(m:Nat)=>xs[((i:Int)+(m:Int) * 1).toNat]?)=fun m=>xs[i+m]?:=by
  funext m;have:((i:Int)+(m:Int) * 1).toNat=i+m:=by lia
  rw[this]
 rw[e];have:=pick_run xs i k;rw[List.filterMap_map]at this;have e2:((fun x=>xs[x]?)∘fun x=>i+x)=fun m=>xs[i+m]?:=rfl;rw[e2]at this;rw[this]
def getItem_tuple_cut{t sl:Addr}{items:Array Value}{vl vu:Value}{lo hi:Option Int}{Q:Tz}(ht:IsTup s.heap t items)(hs:s.heap.IsSliceOf sl vl vu .none)(pl:IsPart vl lo)(pu:IsPart vu hi)
  (hw:¬(sIx items.size 0 lo=0/\sIx items.size items.size hi=items.size))
  (h:Q (.ref s.heap.objs.size) { s with heap:=s.heap.push { cls:=.type "tuple",data:=.seq ((items.toList.drop (sIx items.size 0 lo)).take (sIx items.size items.size hi - sIx items.size 0 lo)).toArray } })
  (hsz:items.size<=sizeLine):wpAny (model prog w) A (getItem (.ref t) (.ref sl)) Q E s:=by
 have htake:sizeOk (.seq ((items.toList.drop (sIx items.size 0 lo)).take (sIx items.size items.size hi - sIx items.size 0 lo)).toArray):=by
  show((items.toList.drop (sIx items.size 0 lo)).take (sIx items.size items.size hi - sIx items.size 0 lo)).toArray.size<=sizeLine;rw[uLa,uOa,uNa,Array.length_toList]
  lia
 have hj:sIx items.size items.size hi<=items.size:=sIx_le _ _ (wPa _) hi;obtain⟨os,hos,hcs,hds⟩:=id hs;have hTs:s.TypeIs (.ref sl) "slice" := ⟨os,hos,hcs⟩
 unfold getItem
 try with_reducible refine wDa ?_
 first | refine wAa (wBa ?_) | skip
 refine wAa (wpAny_sequenceKey ht.typeIs (by decide) ?_);refine wAa (wpAny_callSpecial?_slot (name:=Str.ofString "__getitem__") ht.typeIs PyProof.Rows.slot_tuple_getitem
  (wpAny_call_entry PyProof.Rows.slot_tuple_getitem ht.typeIs entry_tuple_getitem ?_ (args_tuple_getitem _ _)))
 show wpAny _ _ (Builtin.Tuple.tupleItemsOf (.ref t) >>= _) _ _ s;refine wAa (tupleItemsOf_ ht ?_);refine wAa (wpAny_typeOf hTs ?_);rw[if_pos (by decide)];refine wAa (sliceApplied_gen hs pl pu ?_);have hno:¬((((sIx items.size 0 lo:Nat):Int)==0&&(1:Int)==1&&(sIx items.size items.size hi - sIx items.size 0 lo)==items.size)=true):=by
  intro q;rw[Bool.and_eq_true,Bool.and_eq_true]at q;have q1:((sIx items.size 0 lo:Nat):Int)=0:=vLa q.1.1;have q2:sIx items.size items.size hi - sIx items.size 0 lo=items.size:=vLa q.2;exact hw ⟨by lia,by lia⟩
 show wpAny _ _ (if (((sIx items.size 0 lo:Nat):Int)==0&&(1:Int)==1&&(sIx items.size items.size hi - sIx items.size 0 lo)==items.size)=true then _ else _) _ _ s;rw[if_neg hno,pick_gen]
 first
  | exact wAa (m:=Builtin.Tuple.tupleExact _) (vTa (wBa ⟨_,rfl,wBa h⟩) htake)
  | exact wAa (m:=Builtin.Tuple.tupleExact _) (vTa (wAa (wBa (wBa ⟨_,rfl,wBa h⟩))) htake)
  | exact wAa (wAa (m:=Builtin.Tuple.tupleExact _) (vTa (wBa (wBa ⟨_,rfl,wBa h⟩)) htake))
  | exact wAa (wAa (m:=Builtin.Tuple.tupleExact _) (vTa (wBa ⟨_,rfl,wBa h⟩) htake))
end
end HT
namespace L2
noncomputable abbrev TO:=St->Hp->(Option Int->Hp->Prop)->Prop
def PO(X:Cx)(e:Option Expr)(t:TO):Prop:=
 ∀(pins:Tq) (s:Shared) (U:St) (H:Hp) (Q:Option Int->Hp->Prop),Inv X pins U H s->t U H Q->
  wpAny (model X.prog X.w) X.A (evalPart e X.env) (fun u s'=>∃o H',Inv X pins U H' s'/\IsPart u o/\Q o H') X.xe s
noncomputable def cM:TO:=fun _ H Q=>Q none H
noncomputable def FU(t:TE):TO:=fun U H Q=>t U H fun x H1=>∃i,x=.int i/\Q (some i) H1
section
variable {X:Cx} {e:Expr} {te:TE} {lo hi:Option Expr} {tl th:TO} {pos p2:Pos}
def cP:PO X none cM:=by
 intro pins s U H Q I h;rw[evalPart_none];exact wBa ⟨none,H,I,.none,h⟩
def cR(h:PE X e te):PO X (some e) (FU te):=by
 intro pins s U H Q I hw;rw[evalPart_some];refine ju (h pins s U H _ I hw) fun u s1 xx=>?_;obtain⟨x,H1,I1,r1,q1⟩:=xx;obtain⟨i,rfl,q⟩:=q1;obtain⟨t,rfl⟩:=r1;exact⟨some i,H1,I1,.int i t,q⟩
def DD(X:Cx)(r:V->Option Int->Option Int->Hp->VK->Prop):Prop:=
 ∀(pins:Tq) (s:Shared) (U:St) (H:Hp) (x:V) (v vl vu:Value) (lo hi:Option Int) (sl:Addr) (Q:VK),Inv X pins U H s->jw x v->s.heap.IsSliceOf sl vl vu .none->IsPart vl lo->IsPart vu hi->r x lo hi H Q->
  ∃T id,typeLookup (.type T) "__getitem__" = pure (some (.builtin id))/\s.TypeIs v T/\wpAny (model X.prog X.w) X.A (getItem v (.ref sl)) (EP X pins U Q) X.xe s
def Lo(r:V->Option Int->Option Int->Hp->VK->Prop)(te:TE)(tl th:TO):TE:=fun U H Q=>te U H fun x H1=>tl U H1 fun l H2=>th U H2 fun u H3=>r x l u H3 Q
def Wk{r:V->Option Int->Option Int->Hp->VK->Prop}(hr:DD X r)(he:PE X e te)(hl:PO X lo tl)(hu:PO X hi th):PE X (.Subscript e (.Slice lo hi none p2) pos) (Lo r te tl th):=by
 intro pins s U H Q I h;refine Subscript_ (ju (he pins s U H _ I h) fun v s1 xx=>?_);obtain⟨x,H1,I1,r1,q1⟩:=xx;refine wpAny_Slice (ju (hl pins s1 U H1 _ I1 q1) fun vl s2 ⟨l,H2,I2,pl,q2⟩=>ju (hu pins s2 U H2 _ I2 q2) fun vu s3 xx=>?_);obtain⟨u,H3,I3,pu,q3⟩:=xx;rw[evalPart_none];refine wBa ?_;have I4:Inv X pins U H3 { s3 with heap:=s3.heap.push { cls:=.type "slice",data:=.fields #[vl,vu,.none] } }:=I3.kept (t':=s3.toks) fun b ob q=>wIa _ q;obtain⟨T,id,hT,ht,hg⟩:=hr pins { s3 with heap:=s3.heap.push { cls:=.type "slice",data:=.fields #[vl,vu,.none] } } U H3 x v vl vu l u s3.heap.objs.size Q I4 r1 (Heap.IsSliceOf.new ..) pl pu q3;show wpAny (model X.prog X.w) X.A (subscriptTail e (.Slice lo hi none p2) v (.ref s3.heap.objs.size)) (EP X pins U Q) X.xe { s3 with heap:=s3.heap.push { cls:=.type "slice",data:=.fields #[vl,vu,.none] } };exact tail_any (ops:=[.ref s3.heap.objs.size,v]) ht hT hg (by with_unfolding_all rfl)
def UJ(xs:List V)(lo hi:Option Int):List V:=(xs.drop (HT.sIx xs.length 0 lo)).take (HT.sIx xs.length xs.length hi - HT.sIx xs.length 0 lo)
def Gz(xs:List V)(lo hi:Option Int):(UJ xs lo hi).length<=xs.length:=by
 unfold UJ;rw[uOa,uNa]
 lia
def IX(K:uXa):V->Option Int->Option Int->Hp->VK->Prop:=fun x lo hi H Q=>∃a xs,x=.ref a/\Jr K H a xs/\
 ¬(HT.sIx xs.length 0 lo=0/\HT.sIx xs.length xs.length hi=xs.length)/\∀p,H p=none->Q (.ref p) (upd H p (.tup (UJ xs lo hi)))
def DF:DD X (IX X.K):=by
 intro pins s U H x v vl vu lo hi sl Q I rx hs pl pu h;obtain⟨a,xs,rfl,hx,hw,q⟩:=h;cases rx;obtain⟨its,r,ht,hz⟩:=I.tuple hx;have hlen:its.toArray.size=xs.length:=by rw[uLa];exact r.length.symm
 refine⟨"tuple",_,PyProof.Rows.slot_tuple_getitem.lookup,ht.typeIs,?_⟩;refine HT.getItem_tuple_cut ht hs pl pu (by rw[hlen];exact hw) ?_ (by rw[hlen];exact hz);rw[hlen];refine⟨.ref s.heap.objs.size,_,I.laid (t':=s.toks) (o:=.tup (UJ xs lo hi)) (fun b ob q=>wIa _ q) (wPa _) ?_,rfl,q _ (I.hok.fresh (wPa _))⟩;exact⟨wSa (Gz xs lo hi) hz,_,(r.drop (HT.sIx xs.length 0 lo)).take (HT.sIx xs.length xs.length hi - HT.sIx xs.length 0 lo),IsTup.new _ _⟩
def xi(K:uXa):R2:=fun x y H Q=>∃a b xs ys,x=.ref a/\y=.ref b/\Jr K H a xs/\Jr K H b ys/\xs≠[]/\xs.length+ys.length<=sizeLine/\
 (ys=[]->Q (.ref a) H)/\(ys≠[]->∀p,H p=none->Q (.ref p) (upd H p (.tup (xs++ys))))
def jq.nil_iff(r:jq xs us):us=[]↔xs=[]:=by
 cases r with
 | nil=>simp
 | cons _ _=>simp
def cU:j_ X (binaryOp .Add) (xi X.K):=by
 intro pins s U H x y v u Q I rx ry h;obtain⟨a,b,xs,ys,rfl,rfl,ha,hb,hx,hz,q1,q2⟩:=h;cases rx;cases ry;obtain⟨its,r1,p1,_⟩:=I.tuple ha;obtain⟨its2,r2,p2,_⟩:=I.tuple hb;refine HT.cat_tup p1 p2 (fun z=>hx (r1.nil_iff.mp z)) (fun z=>⟨.ref a,H,I,rfl,q1 (r2.nil_iff.mp z)⟩) (fun z=>?_) (by rw[<-r1.length,<-r2.length];exact hz);refine⟨.ref s.heap.objs.size,_,I.laid (t':=s.toks) (o:=.tup (xs++ys)) (fun b ob q=>wIa _ q) (wPa _) ?_,rfl,q2 (fun w=>z (r2.nil_iff.mpr w)) _ (I.hok.fresh (wPa _))⟩;exact⟨by rw[vZa];exact hz,_,r1.append r2,IsTup.new _ _⟩
end
noncomputable def u6(n:Nat)(i:Int):Option Nat:=if 0<=i then(if i < n then some i.toNat else none)else if -(n:Int)<=i then some (i+n).toNat else none
def atI(xs:List α)(i:Int):Option α:=(u6 xs.length i).bind fun j=>xs[j]?
def Q8(h:u6 n i=some j):seqIndex? i n=some j/\j < n/\-(n:Int)<=i/\i < n:=by
 unfold u6 at h;by_cases h0:0<=i
 ·rw[if_pos h0]at h;by_cases h1:i < n
  ·rw[if_pos h1]at h;have e:i.toNat=j:=vFa h;exact⟨by rw[seqIndex_of h0 h1,e],by lia,by lia,h1⟩
  ·rw[if_neg h1]at h;cases h
 ·rw[if_neg h0]at h;by_cases h1:-(n:Int)<=i
  ·rw[if_pos h1]at h;have e:(i+n).toNat=j:=vFa h;exact⟨by rw[seqIndex_neg (by lia) h1,e],by lia,h1,by lia⟩
  ·rw[if_neg h1]at h;cases h
def Ky(h:atI xs i=some v):∃j,seqIndex? i xs.length=some j/\xs[j]?=some v/\j < xs.length/\-(xs.length:Int)<=i/\i < xs.length:=by
 unfold atI at h;cases e:u6 xs.length i with
 | none=>rw[e]at h;cases h
 | some j=>
  rw[e]at h;obtain⟨h1,h2,h3,h4⟩:=Q8 e;exact⟨j,h1,h,h2,h3,h4⟩
def Kz(b:Expr):Prop:=∀o i,subscripted b false o i=operate [o,i] (getItem o i)
def UK(X:Cx)(r:R2):Prop:=
 ∀(value slice:Expr) (pins:Tq) (s:Shared) (U:St) (H:Hp) (x y:V) (v u:Value) (Q:VK),Inv X pins U H s->jw x v->jw y u->r x y H Q->
  subscripted slice false v u=operate [v,u] (getItem v u)->wpAny (model X.prog X.w) X.A (subscriptTail value slice v u) (EP X pins U Q) X.xe s
def DH(X:Cx)(id:String)(r:V->List V->Hp->VK->Prop):Prop:=
 ∀(pins:Tq) (s:Shared) (U:St) (H:Hp) (x:V) (xs:List V) (v:Value) (us:List Value) (Q:VK),Inv X pins U H s->jw x v->jq xs us->r x xs H Q->
  wpAny (model X.prog X.w) X.A (call (.builtin id) (v::us)) (EP X pins U Q) X.xe s
section
variable {X:Cx} {a b:Expr} {ta tb:TE} {pos:Pos}
def UK.or(h:UK X r)(h':UK X r'):UK X (fun x y H Q=>r x y H Q \/ r' x y H Q):=by
 intro value slice pins s U H x y v u Q I rx ry q hs;rcases q with q | q
 ·exact h value slice pins s U H x y v u Q I rx ry q hs
 ·exact h' value slice pins s U H x y v u Q I rx ry q hs
def B4(hr:UK X r)(ha:PE X a ta)(hb:PE X b tb)(hs:Kz b):PE X (.Subscript a b pos) (Q6 r ta tb):=by
 intro pins s U H Q I h;exact Subscript_ (A0 ha hb I h fun v u s2 x y H2 I2 rx ry q=>hr a b pins s2 U H2 x y v u Q I2 rx ry q (hs _ _))
def Af(K:uXa):R2:=fun x y H Q=>∃p xs i v,x=.ref p/\y=.int i/\jC K H p xs/\atI xs i=some v/\Q v H
def DJ(K:uXa):R2:=fun x y H Q=>∃p xs i v,x=.ref p/\y=.int i/\Jr K H p xs/\atI xs i=some v/\Q v H
def DK:R2:=fun x y H Q=>∃z i c,x=.str z/\y=.int i/\z.length<=sizeLine/\atI z.cps.toList i=some c/\Q (.str ⟨#[c]⟩) H
def Q9:UK X (Af X.K):=by
 intro value slice pins s U H x y v u Q I rx ry h hs;obtain⟨p,xs,i,z,rfl,rfl,hq,he,q⟩:=h;cases rx;obtain⟨t,rfl⟩:=ry;obtain⟨its,r,pl,hz⟩:=I.list hq;obtain⟨j,h1,h2,h3,h4,h5⟩:=Ky he;obtain⟨w,ew,rw'⟩:=r.get h2;have hl:=r.length;have hn:=V_;have fin:EP X pins U Q w s:=⟨z,H,I,rw',q⟩
 by_cases h0:0<=i
 ·have hj:i.toNat=j:=by
   rw[seqIndex_of h0 h5]at h1;exact vFa h1
  exact item_listR pl.isList h0 (by lia) (by rw[hj];simpa using ew) fin hs
 ·have hj:(i+(its.toArray.size:Int)).toNat=j:=by
   rw[seqIndex_neg (by lia) h4]at h1;rw[uLa,<-hl];exact vFa h1
  exact subscriptTail_builtinR (x:=w) pl.isList.typeIs slot_list_getitem.lookup
   (wpAny_getItem_list_neg (Q:=fun r s'=>r=w/\EP X pins U Q r s') pl.isList (by lia) (by rw[uLa] <;> lia) (by lia) (by rw[hj];simpa using ew) ⟨rfl,fin⟩) hs
def DL:UK X (DJ X.K):=by
 intro value slice pins s U H x y v u Q I rx ry h hs;obtain⟨p,xs,i,z,rfl,rfl,hq,he,q⟩:=h;cases rx;obtain⟨t,rfl⟩:=ry;obtain⟨its,r,pl,hz⟩:=I.tuple hq;obtain⟨j,h1,h2,h3,h4,h5⟩:=Ky he;obtain⟨w,ew,rw'⟩:=r.get h2;have hl:=r.length;have hn:=V_;have fin:EP X pins U Q w s:=⟨z,H,I,rw',q⟩
 exact subscriptTail_builtinR (x:=w) pl.typeIs slot_tuple_getitem.lookup
  (getItem_tuple (j:=j) (Q:=fun r s'=>r=w/\EP X pins U Q r s') pl (by lia) (by lia) (by rw[uLa,<-hl];exact h1) (by simpa using ew) ⟨rfl,fin⟩) hs
def DM:UK X DK:=by
 intro value slice pins s U H x y v u Q I rx ry h hs;obtain⟨z,i,c,rfl,rfl,hz,he,q⟩:=h;obtain⟨t,rfl⟩:=rx;obtain⟨t',rfl⟩:=ry;obtain⟨j,h1,h2,h3,h4,h5⟩:=Ky he;have hl:z.cps.toList.length=z.length:=by simp[Str.length]
 rw[hl]at h1 h4 h5;have hn:=V_;exact tail_any (typeIs_str s z t) slot_str_getitem.lookup (getItem_str (c:=c) (by
  have e1:decide (i < -(2 ^ 63:Int))=false:=vBa (by lia);have e2:decide (i>=2 ^ 63)=false:=vBa (by lia);rw[e1,e2,Bool.or_false]) (by rw[h1];simpa using h2) ⟨.str ⟨#[c]⟩,H,I.tok _,⟨_,rfl⟩,q⟩) hs
def iR(K:uXa):R2:=fun x y H Q=>Af K x y H Q \/ DJ K x y H Q \/ DK x y H Q
def DN:UK X (iR X.K):=Q9.or (DL.or DM)
def xj(its:List Value)(n j:Nat)(u:Value):Obj.mapSeq (·.setIfInBounds j u) { cls:=.type "list",data:=.seq its.toArray n }={ cls:=.type "list",data:=.seq (its.set j u).toArray n }:=by
 simp[Obj.mapSeq]
def Inv.lst{pins:Tq}{U:St}{H:Hp}{s:Shared}{p:Addr}{xs:List V}(I:Inv X pins U H s)(h:H p=some (.lst xs)):
  ∃(its:List Value) (n:Nat),jq xs its/\s.heap.get? p=some { cls:=.type "list",data:=.seq its.toArray n }/\xs.length<=sizeLine:=by
 obtain⟨z,its,n,r,e⟩:=I.hok p _ h;exact⟨its,n,r,e,z⟩
def Inv.lstUpd{s:Shared}{ys:List V}{its its':List Value}(I:Inv X pins U H s)(h:H p=some (.lst xs))
  (ho:s.heap.get? p=some { cls:=.type "list",data:=.seq its.toArray n }) (hf:f { cls:=.type "list",data:=.seq its.toArray n }={ cls:=.type "list",data:=.seq its'.toArray n' }) (r:jq ys its') (hz:ys.length<=sizeLine) (t:Nat):
  Inv X pins U (upd H p (.lst ys)) { s with heap:=s.heap.update p f,toks:=t }:=by
 have e:(s.heap.update p f).get? p=some { cls:=.type "list",data:=.seq its'.toArray n' }:=by
  rw[Heap.get?_update_self f ho (by rw[hf] <;> rfl),hf]
 refine I.write (x:=p) (e:=p) (by rw[h];trivial) (.inl rfl) (fun b u hb q=>(wKa _ _ (Ne.symm hb)).trans q) ⟨_,e⟩ ?_;exact⟨hz,its',n',r,e⟩
def B5:V->V->V->Hp->(Hp->Prop)->Prop:=fun o i v H Q=>∃p xs k j,o=.ref p/\i=.int k/\H p=some (.lst xs)/\u6 xs.length k=some j/\Q (upd H p (.lst (xs.set j v)))
def Ag:aX X B5:=by
 intro pins s U H o i v ov iv u Q I ro ri rv h;obtain⟨p,xs,k,j,rfl,rfl,hp,hj,q⟩:=h;cases ro;obtain⟨t,rfl⟩:=ri;obtain⟨its,n,r,ho,hz⟩:=I.lst hp;obtain⟨h1,h2,h3,h4⟩:=Q8 hj;have hl:=r.length;have hn:=V_;have I':Inv X pins U (upd H p (.lst (xs.set j v))) { s with heap:=s.heap.update p (Obj.mapSeq (·.setIfInBounds j u)) }:=
  I.lstUpd hp ho (xj its n j u) (r.set rv j) (by rw[List.length_set];exact hz) s.toks
 by_cases h0:0<=k
 ·have hk:k.toNat=j:=by
   rw[seqIndex_of h0 h4]at h1;exact vFa h1
  exact PySem.W.ki_setAt ho h0 (by lia) (by rw[uLa,<-hl];exact h4) (by rw[hk];exact⟨_,I',q⟩)
 ·have hk:(k+(its.toArray.size:Int)).toNat=j:=by
   rw[seqIndex_neg (by lia) h3]at h1;rw[uLa,<-hl];exact vFa h1
  exact PySem.W.ki_setBack ho (by lia) (by rw[uLa,<-hl];exact h3) (by lia) (by rw[hk];exact⟨_,I',q⟩)
def Wl(lo hi:Option Int)(n:Nat):(sliceBounds lo hi none n).1=((HT.sIx n 0 lo:Nat):Int)/\(sliceBounds lo hi none n).2.1=((HT.sIx n n hi:Nat):Int)/\(sliceBounds lo hi none n).2.2=1:=by
 refine⟨?_,?_,rfl⟩
 ·cases lo with
  | none=>simp[sliceBounds,HT.sIx]
  | some i=>
   simp only[sliceBounds,HT.sIx,Option.getD_none,show(1:Int) > 0 by decide,if_true];by_cases h:i < 0
   ·simp only[h,if_true] <;> lia
   ·simp only[h,if_false] <;> lia
 ·cases hi with
  | none=>simp[sliceBounds,HT.sIx]
  | some i=>
   simp only[sliceBounds,HT.sIx,Option.getD_none,show(1:Int) > 0 by decide,if_true];by_cases h:i < 0
   ·simp only[h,if_true] <;> lia
   ·simp only[h,if_false] <;> lia
def wU(its:List Value)(lo hi:Option Int):slicePick its.toArray lo hi none=((its.drop (HT.sIx its.length 0 lo)).take (HT.sIx its.length its.length hi - HT.sIx its.length 0 lo)).toArray:=by
 obtain⟨h1,h2,h3⟩:=Wl lo hi its.toArray.size;unfold slicePick;rw[h1,h2,h3];simp only[sliceRange_one,pick_run,List.size_toArray] <;> rfl
def IY(K:uXa):V->Option Int->Option Int->Hp->VK->Prop:=fun x lo hi H Q=>∃a xs,x=.ref a/\jC K H a xs/\∀p,H p=none->Q (.ref p) (upd H p (.lst (UJ xs lo hi)))
def cX:DD X (IY X.K):=by
 intro pins s U H x v vl vu lo hi sl Q I rx hs pl pu h;obtain⟨a,xs,rfl,hx,q⟩:=h;cases rx;obtain⟨its,r,ht,hz⟩:=I.list hx;have hlen:=r.length;refine⟨"list",_,slot_list_getitem.lookup,ht.isList.typeIs,?_⟩;refine wpAny_getItem_list_slice ht.isList hs pl pu .none (by simp) ?_ (by rw[List.size_toArray] <;> lia);rw[wU,<-hlen];refine⟨.ref s.heap.objs.size,_,I.laid (t':=s.toks) (o:=.lst (UJ xs lo hi)) (fun b ob q=>wIa _ q) (wPa _) ?_,rfl,q _ (I.hok.fresh (wPa _))⟩;exact⟨wSa (Gz xs lo hi) hz,_,0,(r.drop (HT.sIx xs.length 0 lo)).take (HT.sIx xs.length xs.length hi - HT.sIx xs.length 0 lo),wJa _ rfl⟩
noncomputable def Zv:V->Bool
 | .non=>true
 | .bl _=>true
 | .int _=>true
 | .str _=>true
 | _=>false
noncomputable def GA:V->V->Bool
 | .non,.non=>true
 | .bl a,.bl b=>a==b
 | .bl a,.int b=>(if a then 1 else 0)==b
 | .int a,.bl b=>a==(if b then 1 else 0)
 | .int a,.int b=>a==b
 | .str a,.str b=>a==b
 | _,_=>false
def DP(ry:jw y u)(rx:jw x v)(fy:Zv y=true)(fx:Zv x=true):SeqAt.EqAt A s u v (GA y x):=by
 cases y with
 | non=>
  cases ry;cases x with
  | non=>cases rx;exact SeqAt.EqAt.same _
  | bl b=>cases rx;exact SeqAt.EqAt.none_bool b
  | int b=>obtain⟨t,rfl⟩:=rx;exact SeqAt.EqAt.none_int b t
  | str b=>obtain⟨t,rfl⟩:=rx;exact SeqAt.EqAt.none_str b t
  | _=>exact vDa (show false=true from fx) vNa
 | bl a=>
  cases ry;cases x with
  | non=>cases rx;exact SeqAt.EqAt.bool_none a
  | bl b=>cases rx;exact SeqAt.EqAt.bool_bool a b
  | int b=>obtain⟨t,rfl⟩:=rx;exact SeqAt.EqAt.bool_int a b t
  | str b=>obtain⟨t,rfl⟩:=rx;exact SeqAt.EqAt.bool_str a b t
  | _=>exact vDa (show false=true from fx) vNa
 | int a=>
  obtain⟨t',rfl⟩:=ry;cases x with
  | non=>cases rx;exact SeqAt.EqAt.int_none a t'
  | bl b=>cases rx;exact SeqAt.EqAt.int_bool a t' b
  | int b=>obtain⟨t,rfl⟩:=rx;exact SeqAt.EqAt.int_int a t' b t
  | str b=>obtain⟨t,rfl⟩:=rx;exact SeqAt.EqAt.int_str a t' b t
  | _=>exact vDa (show false=true from fx) vNa
 | str a=>
  obtain⟨t',rfl⟩:=ry;cases x with
  | non=>cases rx;exact SeqAt.EqAt.str_none a t'
  | bl b=>cases rx;exact SeqAt.EqAt.str_bool a t' b
  | int b=>obtain⟨t,rfl⟩:=rx;exact SeqAt.EqAt.str_int a t' b t
  | str b=>obtain⟨t,rfl⟩:=rx;exact SeqAt.EqAt.str_str a t' b t
  | _=>exact vDa (show false=true from fx) vNa
 | _=>exact vDa (show false=true from fy) vNa
def vM(x:V)(u:Value):Bool:=match u with
 | .none=>GA .non x
 | .bool b=>GA (.bl b) x
 | .int i _=>GA (.int i) x
 | .str z _=>GA (.str z) x
 | _=>false
def Xe(r:jw y u)(f:Zv y=true):vM x u=GA y x:=by
 cases y with
 | non=>cases r;rfl
 | bl b=>cases r;rfl
 | int i=>obtain⟨t,rfl⟩:=r;rfl
 | str z=>obtain⟨t,rfl⟩:=r;rfl
 | _=>exact vDa (show false=true from f) vNa
theorem u7:∀{xs:List V} {us:List Value},jq xs us->xs.all Zv=true->us.any (vM x)=xs.any fun y=>GA y x
 | _,_,.nil,_=>rfl
 | y::xs,u::us,.cons r t,f=>by
  rw[List.all_cons,Bool.and_eq_true]at f;rw[List.any_cons,List.any_cons,Xe r f.1,u7 t f.2]
theorem vO(rx:jw x v)(fx:Zv x=true):∀{xs:List V} {us:List Value},jq xs us->xs.all Zv=true->∀u∈us,SeqAt.EqAt A s u v (vM x u)
 | _,_,.nil,_=>fun u hu=>by cases hu
 | y::xs,u::us,.cons r t,f=>fun u' hu=>by
  rw[List.all_cons,Bool.and_eq_true]at f;rcases uTa hu with rfl | hu
  ·rw[Xe r f.1];exact DP r rx f.1 fx
  ·exact vO rx fx t f.2 u' hu
def Qa(x:V)(xs:List V):Bool:=xs.any fun y=>GA y x
def DU(K:uXa)(neg:Bool):R2:=fun x y H Q=>∃p xs,y=.ref p/\(jC K H p xs \/ Jr K H p xs)/\Zv x=true/\xs.all Zv=true/\Q (.bl (if neg then !Qa x xs else Qa x xs)) H
def Xf:j_ X (compareOp .In) (DU X.K false):=by
 intro pins s U H x y v u Q I rx ry h;obtain⟨p,xs,rfl,hq,fx,fs,q⟩:=h;cases ry;rcases hq with hq | hq
 ·obtain⟨its,r,pl,hz⟩:=I.list hq;refine SeqAt.in_listAt (vM x) pl.isList (fun w hw=>vO rx fx r fs w (by simpa using hw)) ⟨.bl _,H,I,rfl,?_⟩;rw[show its.toArray.any (vM x)=its.any (vM x) by simp,u7 r fs];exact q
 ·obtain⟨its,r,pl,hz⟩:=I.tuple hq;refine SeqAt.in_tupleAt (vM x) pl (fun w hw=>vO rx fx r fs w (by simpa using hw)) ⟨.bl _,H,I,rfl,?_⟩;rw[show its.toArray.any (vM x)=its.any (vM x) by simp,u7 r fs];exact q
def Wm:j_ X (compareOp .NotIn) (DU X.K true):=by
 intro pins s U H x y v u Q I rx ry h;obtain⟨p,xs,rfl,hq,fx,fs,q⟩:=h;cases ry;rcases hq with hq | hq
 ·obtain⟨its,r,pl,hz⟩:=I.list hq;refine SeqAt.notIn_listAt (vM x) pl.isList (fun w hw=>vO rx fx r fs w (by simpa using hw)) ⟨.bl _,H,I,rfl,?_⟩;rw[show its.toArray.any (vM x)=its.any (vM x) by simp,u7 r fs];exact q
 ·obtain⟨its,r,pl,hz⟩:=I.tuple hq;refine SeqAt.notIn_tupleAt (vM x) pl (fun w hw=>vO rx fx r fs w (by simpa using hw)) ⟨.bl _,H,I,rfl,?_⟩;rw[show its.toArray.any (vM x)=its.any (vM x) by simp,u7 r fs];exact q
def Wn:Yi X (.builtin "len") (fun xs H Q=>∃p ys,xs=[.ref p]/\(jC X.K H p ys \/ Jr X.K H p ys)/\Q (.int ys.length) H):=by
 intro pins s U H xs us Q I r h;obtain⟨p,ys,rfl,hq,q⟩:=h;obtain⟨u,rfl,rx⟩:=xa r;cases rx;have hn:=V_;rcases hq with hq | hq
 ·obtain⟨its,r',pl,hz⟩:=I.list hq;have hlen:=r'.length;exact Calls.call_len_list pl.isList (by simp only[List.size_toArray] <;> lia) ⟨.int ys.length,H,I.tok _,⟨s.toks+1,by rw[uLa,hlen]⟩,q⟩
 ·obtain⟨its,r',pl,hz⟩:=I.tuple hq;have hlen:=r'.length;exact len_tuple pl (by simp only[List.size_toArray] <;> lia) ⟨.int ys.length,H,I.tok _,⟨s.toks+1,by rw[uLa,hlen]⟩,q⟩
def Wo:Yi X (.type "list") (fun xs H Q=>∃p ys,xs=[.ref p]/\(jC X.K H p ys \/ Jr X.K H p ys)/\∀l,H l=none->Q (.ref l) (upd H l (.lst ys))):=by
 intro pins s U H xs us Q I r h;obtain⟨p,ys,rfl,hq,q⟩:=h;obtain⟨u,rfl,rx⟩:=xa r;cases rx;have fin:∀(its:List Value),jq ys its->ys.length<=sizeLine->∀(h':Heap) (c':Nat),(∀b o',s.heap.get? b=some o'->h'.get? b=some o')->
   h'.get? s.heap.objs.size=some { cls:=.type "list",dict:=none,data:=.seq its.toArray c',slots:=#[] }->EP X pins U Q (.ref s.heap.objs.size) { s with heap:=h' }:=fun its r' hz h' c' kp e=>
  ⟨.ref s.heap.objs.size,_,I.laid (t':=s.toks) kp (wPa _) (show yf X.prog X.w _ h' _ (.lst ys) from⟨hz,its,c',r',e⟩),rfl,q _ (I.hok.fresh (wPa _))⟩
 rcases hq with hq | hq
 ·obtain⟨its,r',pl,hz⟩:=I.list hq;have hlen:=r'.length;obtain⟨o,ho,hc,n,hd⟩:=pl.isList;exact call_list_seq p (.inl rfl) ho hc hd (fun h' c' kp e=>fin its r' hz h' c' kp e) (by simp only[List.size_toArray] <;> lia)
 ·obtain⟨its,r',pl,hz⟩:=I.tuple hq;have hlen:=r'.length;obtain⟨o,ho,hc,n,hd⟩:=pl;exact call_list_seq p (.inr rfl) ho hc hd (fun h' c' kp e=>fin its r' hz h' c' kp e) (by simp only[List.size_toArray] <;> lia)
def wV:Yi X (.type "tuple") (fun xs H Q=>∃p ys,xs=[.ref p]/\((jC X.K H p ys/\∀l,H l=none->Q (.ref l) (upd H l (.tup ys))) \/ (Jr X.K H p ys/\Q (.ref p) H))):=by
 intro pins s U H xs us Q I r h;obtain⟨p,ys,rfl,h⟩:=h;obtain⟨u,rfl,rx⟩:=xa r;cases rx;rcases h with⟨hq,q⟩ | ⟨hq,q⟩
 ·obtain⟨its,r',pl,hz⟩:=I.list hq;have hlen:=r'.length;refine call_tuple_list pl.isList (fun h' kp=>?_) (by simp only[List.size_toArray] <;> lia);have I1:Inv X pins U H { s with heap:=h' }:=I.kept (t':=s.toks) kp;have I2:Inv X pins U (upd H h'.objs.size (.tup ys)) { s with heap:=h'.push { cls:=.type "tuple",data:=.seq its.toArray } }:=
   I1.laid (t':=s.toks) (fun b o e=>wIa _ e) (wPa _) (show yf X.prog X.w _ _ _ (.tup ys) from⟨hz,its,r',IsTup.new _ _⟩)
  exact⟨.ref h'.objs.size,_,I2,rfl,q _ (I1.hok.fresh (wPa _))⟩
 ·obtain⟨its,r',pl,hz⟩:=I.tuple hq;exact call_tuple_same pl ⟨.ref p,H,I,rfl,q⟩
def DV(K:uXa)(T:String)(x:V)(H:Hp):Prop:=match x with
 | .str _=>T = "str"
 | .int _=>T = "int"
 | .ref p=>(T = "list" /\∃xs,jC K H p xs) \/ (T = "tuple" /\∃o,K.lookup p=some o/\o.cls=.type "tuple" /\o.dict=none) \/
   (T = "dict" /\∃kvs ep,H p=some (.dD kvs ep))
 | _=>False
theorem Xg{pins:Tq}{U:St}{H:Hp}{s:Shared}{T:String}{x:V}{v:Value}(I:Inv X pins U H s)(r:jw x v)(ty:DV X.K T x H):
  s.TypeIs v T/\∀a,v=.ref a->∃ob,s.heap.get? a=some ob/\ob.dict=none:=by
 cases x with
 | str z=>
  obtain⟨t,rfl⟩:=r;cases (show T = "str" from ty);exact⟨typeIs_str s z t,fun _ e=>nomatch e⟩
 | int i=>
  obtain⟨t,rfl⟩:=r;cases (show T = "int" from ty);exact⟨typeIs_int s i t,fun _ e=>nomatch e⟩
 | ref p=>
  cases r;rcases ty with⟨rfl,xs,hq⟩ | ⟨rfl,o,hk,hc,hd⟩ | ⟨rfl,kvs,ep,hk⟩
  ·obtain⟨its,_,pl,_⟩:=I.list hq;refine⟨pl.isList.typeIs,fun a e=>?_⟩;cases e;obtain⟨o,n,e,c,hd,_⟩:=pl;exact⟨o,e,hd⟩
  ·refine⟨⟨o,I.kIn p o hk,hc⟩,fun a e=>?_⟩;cases e;exact⟨o,I.kIn _ o hk,hd⟩
  ·have z:∃o,s.heap.get? p=some o/\o.ExactDict:=by
    obtain⟨_,_,_,_,_,o,_,e,ex,_⟩:=I.hok p _ hk;exact⟨o,e,ex⟩
   obtain⟨o,e,ex⟩:=z;refine⟨⟨o,e,ex.1⟩,fun a e2=>?_⟩;cases e2;exact⟨o,e,ex.2.1⟩
 | _=>exact False.elim ty
def DW(K:uXa)(T:String)(r:V->List V->Hp->VK->Prop)(to:TE):TE:=fun U H Q=>to U H fun x H1=>DV K T x H1/\r x [] H1 Q
def Xh(K:uXa)(T:String)(r:V->List V->Hp->VK->Prop)(to:TE)(t:TA):TE:=fun U H Q=>to U H fun x H1=>DV K T x H1/\t U H1 fun xs H2=>r x xs H2 Q
variable {o e:Expr} {es:List Expr} {to:TE} {t:TA} {name:Str} {apos cpos:Pos} {T id:String} {r:V->List V->Hp->VK->Prop}
def DX(pa:PlainAttrs T)(slot:Slot T name id)(hty:typeOf (.builtin id)=pure (.type "method_descriptor"))(hm:DH X id r)(ho:PE X o to)
  (hbase:attributeBase o name X.env (eval o X.env)=eval o X.env:=by rfl) (hline:(apos.endLine==cpos.line)=true:=by rfl):PE X (.Call (.Attribute o name apos) [] [] cpos) (DW X.K T r to):=by
 intro pins s U H Q I h;refine wpAny_Call_method0_late hbase hline (ju (ho pins s U H _ I h) fun v s1 xx=>?_);obtain⟨x,H1,I1,r1,ty,q1⟩:=xx;obtain⟨h1,h2⟩:=Xg I1 r1 ty;exact⟨T,id,pa,slot,hty,h1,h2,Calls.callWith_builtin rfl (PySem.evalArgs_none (hm pins s1 U H1 x [] v [] Q I1 r1 .nil q1))⟩
def B6(pa:PlainAttrs T)(slot:Slot T name id)(hty:typeOf (.builtin id)=pure (.type "method_descriptor"))(hm:DH X id r)(ho:PE X o to)(ha:PA X (e::es) t)
  (hbase:attributeBase o name X.env (eval o X.env)=eval o X.env:=by rfl)
  (hfew:((backTo cpos (starEach (e::es) X.env)).all (fun x=>!x.1)&&(backToKw cpos (keywordEach [] X.env)).all (fun x=>x.1.isSome)
   && decide ((e::es).length+([]:List Keyword).length+(if ([]:List Keyword).isEmpty then 0 else 1) < 30))=true:=by rfl)
  (hline:(apos.endLine==cpos.line)=true:=by rfl) (hs:starEach (e::es) X.env=(false,eval e X.env)::starEach es X.env:=by rfl) (hplain:(backTo cpos (starEach es X.env)).any (·.1)=false:=by rfl):
  PE X (.Call (.Attribute o name apos) (e::es) [] cpos) (Xh X.K T r to t):=by
 intro pins s U H Q I h;refine wpAny_Call_method_late hbase hfew hline rfl (ju (ho pins s U H _ I h) fun v s1 xx=>?_);obtain⟨x,H1,I1,r1,ty,q1⟩:=xx;obtain⟨h1,h2⟩:=Xg I1 r1 ty;refine⟨T,id,pa,slot,hty,h1,h2,?_⟩;have hA:=ha cpos pins s1 U H1 _ I1 q1;rw[hs]at hA⊢;refine Calls.callWith_builtin (by show(false||(backTo cpos (starEach es X.env)).any (·.1))=false;rw[hplain] <;> rfl) (Calls.evalArgs_plain ?_)
 exact ju hA fun us s2 ⟨vs,H2,I2,r2,q2⟩=>hm pins s2 U H2 x vs v us Q I2 r1 r2 q2
end
def iU(X:Cx)(id:String)(r:V->List V->Hp->VK->Prop):Prop:=
 ∀(pins:Tq) (s:Shared) (U:St) (H:Hp) (x:V) (xs:List V) (v:Value) (us:List Value) (Q:VK),Inv X pins U H s->jw x v->jq xs us->r x xs H Q->
  wpAny (model X.prog X.w) X.A (call (.builtin id) (v::us)) (EP X pins U Q) X.xe s
theorem jq.one:∀{x:V} {us:List Value},jq [x] us->∃u,us=[u]/\jw x u
 | _,_,.cons r .nil=>⟨_,rfl,r⟩
theorem jq.zero:∀{us:List Value},jq [] us->us=[]
 | _,.nil=>rfl
section
variable {X:Cx} {pins:Tq} {U:St} {H:Hp} {s:Shared} {l b:Addr} {xs ys zs:List V}
def Inv.lset{its its':List Value}{n:Nat}{f:Array Value->Array Value}{t':Nat}(I:Inv X pins U H s)(hH:H l=some (.lst xs))
  (e:s.heap.get? l=some { cls:=.type "list",data:=.seq its.toArray n }) (hf:f its.toArray=its'.toArray) (hv:jq ys its') (hz:ys.length<=sizeLine):
  Inv X pins U (upd H l (.lst ys)) { s with heap:=s.heap.update l (Obj.mapSeq f),toks:=t' }:=by
 have q:=PySem.IsL.update e f;rw[hf]at q;refine I.write (x:=l) (e:=l) (by rw[hH];exact trivial) (.inl rfl) (fun b' u hb hu=>(wKa s.heap (Obj.mapSeq f) (Ne.symm hb)).trans hu) ⟨_,q⟩ ?_;exact⟨hz,its',_,hv,q⟩
def Inv.lnew(I:Inv X pins U H s)(hv:jq ys its)(hz:ys.length<=sizeLine):
  Inv X pins U (upd H s.heap.objs.size (.lst ys)) { s with heap:=s.heap.push { cls:=.type "list",data:=.seq its.toArray },toks:=t' }:=
 I.laid (fun _ _ q=>wIa _ q) (wPa _) ⟨hz,its,0,hv,wJa _ rfl⟩
def Inv.fresh(I:Inv X pins U H s):H s.heap.objs.size=none:=I.hok.fresh (wPa _)
def Inv.lstM(I:Inv X pins U H s)(hH:H l=some (.lst xs)):xs.length<=sizeLine/\∃(its:List Value) (n:Nat),jq xs its/\xs.length=its.length/\s.heap.get? l=some { cls:=.type "list",data:=.seq its.toArray n }:=by
 obtain⟨z,its,n,r,e⟩:=I.hok l _ hH;exact⟨z,its,n,r,r.length,e⟩
end
section
variable {X:Cx}
def gY:V->List V->Hp->VK->Prop:=fun x vs H Q=>∃l xs y,x=.ref l/\vs=[y]/\H l=some (.lst xs)/\xs.length < sizeLine/\Q .non (upd H l (.lst (xs++[y])))
def Xi:iU X "list.append" gY:=by
 intro pins s U H x vs v us Q I rx rv h;obtain⟨l,xs,y,rfl,rfl,hH,hz,q⟩:=h;cases rx;obtain⟨u,rfl,ru⟩:=rv.one;obtain⟨z,its,n,r,hl,e⟩:=I.lstM hH;refine call_meets F.slot_list_append ⟨_,e,rfl⟩ F.entry_list_append (F.args_list_append_2 _ _) (PySem.list_append l its.toArray n u (by rw[uLa];lia)) ⟨e,?_⟩;refine⟨.non,_,I.lset (its':=its++[u]) hH e (by simp) (r.append (.cons ru .nil)) ?_,rfl,q⟩;rw[vZa,uIa]
 lia
def Xj:V->List V->Hp->VK->Prop:=fun x vs H Q=>∃l xs,x=.ref l/\vs=[]/\H l=some (.lst xs)/\Q .non (upd H l (.lst []))
def Ah:iU X "list.clear" Xj:=by
 intro pins s U H x vs v us Q I rx rv h;obtain⟨l,xs,rfl,rfl,hH,q⟩:=h;cases rx;have hus:=rv.zero;subst hus;obtain⟨z,its,n,r,hl,e⟩:=I.lstM hH;refine call_meets F.slot_list_clear ⟨_,e,rfl⟩ F.entry_list_clear (F.args_list_clear_1 _) (AutoSeq1.list_clear_list_0 l its.toArray n (by rw[uLa];lia)) ⟨e,?_⟩;exact⟨.non,_,I.lset (its':=[]) (ys:=[]) hH e rfl .nil (Nat.zero_le _),rfl,q⟩
def DY:R2:=fun x y H Q=>∃l b xs zs,x=.ref l/\y=.ref b/\H l=some (.lst xs)/\H b=some (.lst zs)/\xs.length+zs.length<=sizeLine/\∀p,H p=none->Q (.ref p) (upd H p (.lst (xs++zs)))
def DZ:j_ X (binaryOp .Add) DY:=by
 intro pins s U H x y v u Q I rx ry h;obtain⟨l,b,xs,zs,rfl,rfl,hH,hB,hz,q⟩:=h;cases rx;cases ry;obtain⟨z,its,n,r,hl,e⟩:=I.lstM hH;obtain⟨z2,its2,n2,r2,hl2,e2⟩:=I.lstM hB;refine PySem.P.add_list e e2 ?_ (by rw[uLa,uLa];lia);have ea:its.toArray++its2.toArray=(its++its2).toArray:=by simp
 rw[ea];exact⟨.ref _,_,I.lnew (t':=s.toks) (r.append r2) (by rw[vZa];lia),rfl,q _ I.fresh⟩
end
end L2
namespace Att
open PySem.W PySem.Calls
def ints_of_wellAll:∀(ns:List Int) (vs:List Value),WellAll P h vs (ns.map WData.int)->IntsAre vs ns:=by
 intro ns;induction ns with
 | nil=>
  intro vs w;rw[uJa]at w;cases w;exact .nil
 | cons n ns ih=>
  intro vs w;rw[vWa]at w;cases w with
  | cons a b=>
   cases a;exact .cons _ _ (ih _ b)
theorem script_of{l:OpenLaw}(hn:l.most=some n){h:Heap}
  (hpre:l.row.toRowW.claim.pre args=true) (hwl:WellAll P h vals args):
  ∃a vs ns,vals=[Value.ref a]/\args=[WData.list (ns.map WData.int)]/\h.get? a=some { cls:=.type "list",data:=.seq vs.toArray }/\IntsAre vs ns/\ns.length<=n:=by
 have hsh:WShape.hasAll [] args [.list .int]=true:=(pre_splitW hpre).1;have hc:l.pre.holds [] { args:=args }=true:=(pre_splitW hpre).2;obtain⟨d,r,rfl,h1,h2⟩:=hasAllW_cons hsh;obtain rfl:=hasAllW_nil h2;obtain⟨xs,rfl,h3⟩:=hasW_list h1;obtain⟨ns,rfl⟩:=items_int h3;have hlen:ns.length<=n:=by
  unfold OpenLaw.pre at hc;have h4:(WTm.not (.lt (.lit (.int (n:Int))) (.len (.arg 0)))).holds [] { args:=[.list (ns.map .int)] }=true:=by
   have h4:=(holds_andW hc).1;rw[hn]at h4;exact h4
  have h5:=condW_of h4 (w_not (w_lt w_lit (w_len_list (w_arg rfl))));rw[vYa]at h5;refine Nat.le_of_not_lt fun q=>?_;have q':(n:Int) < ((ns.length:Nat):Int):=by lia
  first
   | (rw[decide_eq_true q']at h5;exact vDa h5 (by decide))
   | (simp at h5;lia)
 cases hwl with
 | cons w1 w2=>
  cases w2;cases w1 with
  | list ho hall=>exact⟨_,_,ns,rfl,rfl,ho,ints_of_wellAll ns _ hall,hlen⟩
def post_true(l:OpenLaw)(args:List WData):l.row.toRowW.claim.post args (.bool true) args=true:=
 postW_of (r:=l.row.toRowW) (X:=(true==true))
  (show WShape.has [] (.bool true) .bool=true by first | rfl | decide | simp[WShape.has,WShape.arms,WShape.armsAll])
  (show(WTm.eq .res (.lit (.bool true))).value [] { args:=args,res:=some (.bool true),after:=args }=some (.bool (true==true)) from w_eq_bool (w_res rfl) w_lit) rfl
def attach_call{l:OpenLaw}{d:DefRec}
  (hn:l.most=some n) (hdf:d.params.defaults=[])
  (call:∀(w:World) (s₀ s₁:Shared) (mg mb:Tx) (fa:Addr) (o:Obj) (pm cd doc:Value) (a:Addr) (vs:List Value) (ns:List Int),
   Ground q loose [] XP w s₀ mg mb s₁.heap->YP w s₁.heap->
   s₁.heap.get? fa=some o->o.data=.func (docDef d.name d.params d.body d.scope pm cd doc)->s₁.heap.CodeRec cd d.name->mg d.name=some (.ref fa)->
   s₁.heap.get? a=some { cls:=.type "list",data:=.seq vs.toArray }->IntsAre vs ns->ns.length<=n->s₁.gens=#[]->
   codeAny (model l.prog w) callerA (.call (.ref fa) ⟨[.ref a],[]⟩) (fun r s'=>r=.ok (.ret (.bool true))/\OldK s₁.heap s'.heap/\s'.os=s₁.os/\AllBare s'.gens) s₁):
  WalkO q loose XP YP l.row.toRowW d [] (fun f vs=>PySem.call f vs):=by
 intro w s₀ s₁ mg mb G Y fa o pm cd doc dV kV ho hd hcd hD hmg hg args vals as hpre hlay hrd hwl hlo;obtain rfl:dV=.none:=Dflts.none hD hdf;obtain rfl:kV=.none:=Dflts.noKw hD;obtain⟨a,vs,ns,rfl,rfl,hobj,hints,hlen⟩:=script_of hn hpre hwl;refine enter_call (codeAny_mono (call w s₀ s₁ mg mb fa o pm cd doc a vs ns G Y ho (fd_plain hd) hcd hmg hobj hints hlen hg) fun r s' hq=>?_);obtain⟨rfl,h2,h3,h4⟩:=hq;exact⟨.inl ⟨.bool true,.bool true,[],rfl,fun _=>rfl,.bool true,post_true l _,fun _=>⟨List.Pairwise.nil,fun _ hm=>(nomatch hm)⟩⟩,h2,h3,h4⟩
end Att
namespace L2
theorem wB:∀{vs:List Value} {ns:List Int},IntsAre vs ns->jq (ns.map V.int) vs
 | _,_,.nil=>.nil
 | _,_,.cons n t h=>.cons ⟨t,rfl⟩ (wB h)
def Ai(H:Hp):Prop:=∀b,H b=none \/∃o xs,H b=some (.frz o (.lst xs))
theorem Aj{K:uXa}{s₁:Shared}{vs:List Value}{ns:List Int}
  (KX:K.In s₁.heap) (hns:s₁.heap.Ns mainGlobals mg) (hb:s₁.heap.Ns builtinsNs mb) (hbb:∀x:Str,x≠ "__name__" ->mb x=bootBuiltins x) (hlim:s₁.heap.NoLimit) (hg:s₁.gens=#[])
  (ha:s₁.heap.get? a=some { cls:=.type "list",data:=.seq vs.toArray }) (hi:IntsAre vs ns) (hl:ns.length<=sizeLine) (hr:Room k callerA)
  (F:∀base:Heap,K.In base->base.Ns mainGlobals mg->FnOk P w K mg base CX k fa fd [x] sp) (hbind:∀(s:Shared) (u:Value),BindsTo s fd ⟨[u],[]⟩ [(x,u)])
  (hsp:∀H:Hp,Ai H->jC K H a (ns.map V.int)->sp [.ref a] H (fun v _=>v=.bl true) fun _ _ _=>False)
  (hCX:∀H e s',CX [] H s₁ (fun _ _ _=>False) e s'->False):
  codeAny (model P w) callerA (.call (.ref fa) ⟨[.ref a],[]⟩) (fun r s'=>r=.ok (.ret (.bool true))/\OldK s₁.heap s'.heap/\s'.os=s₁.os/\AllBare s'.gens) s₁:=by
 have rv:=wB hi;have lenV:=hi.length;have core:∀H:Hp,Ai H->jC K H a (ns.map V.int)->yJ P w H s₁.heap->(∀b,H b≠none->b=a)->(H a≠none->K.lookup a=none)->
   codeAny (model P w) callerA (.call (.ref fa) ⟨[.ref a],[]⟩) (fun r s'=>r=.ok (.ret (.bool true))/\OldK s₁.heap s'.heap/\s'.os=s₁.os/\AllBare s'.gens) s₁:=by
  intro H hO hS hok hA hK;have base_of:∀{b:Addr} {o:Obj},s₁.heap.get? b=some o->H b=none->(uA s₁.heap H).get? b=some o:=fun e n=>aV e n;have noA:∀{b:Addr} {o:Obj} {es:Array DictEntry} {ep:Nat},s₁.heap.get? b=some o->o.data=.dict es ep->H b=none:=fun {b o es ep} e d=>by
   cases q:H b with
   | none=>rfl
   | some u=>
    have e':b=a:=hA b (by rw[q];simp);subst e';rw[ha]at e;cases e;have d':Data.seq vs.toArray _=Data.dict es ep:=d;cases d'
  have nsK:∀{b:Addr} {m:Tx},s₁.heap.Ns b m->(uA s₁.heap H).Ns b m:=fun {b m} ⟨o,es,ep,e,d,r⟩=>⟨o,es,ep,base_of e (noA e d),d,r⟩
  have hKb:K.In (uA s₁.heap H):=fun b o e=>base_of (KX b o e) (by
   cases q:H b with
   | none=>rfl
   | some u=>
    have e':b=a:=hA b (by rw[q];simp);subst e';rw[hK (by rw[q];simp)]at e;cases e)
  have hM:Mod K mg (uA s₁.heap H):=⟨hKb,nsK hns,⟨mb,nsK hb,hbb⟩,let ⟨mc,h1,h2⟩:=hlim;⟨mc,nsK h1,h2⟩⟩
  have e0:Env0 P w K mg (uA s₁.heap H) callerA [] s₁ H:=⟨rfl,hM,fun b o e=>cj e,Nat.le_of_eq (xZ _ _),trivial,fun b hb=>vDa (show b∈([]:List Addr) from hb) (by simp),hok,.of_eq hg⟩
  refine codeAny_mono ((F _ hKb (nsK hns)).run callerA [] s₁ H ⟨[.ref a],[]⟩ [.ref a] [.ref a] _ _ hr e0 (hbind s₁ (.ref a)) (.cons rfl .nil) (hsp H hO hS)) fun r s' h=>?_;cases r with
  | error e=>exact(hCX H e s' h).elim
  | ok fl=>
   cases fl with
   | next=>exact False.elim h
   | brk=>exact False.elim h
   | cont=>exact False.elim h
   | ret u=>
    obtain⟨v,H',os,bare,un,hok',r',q⟩:=h;have q':v=.bl true:=q;subst q';obtain rfl:u=Value.bool true:=r';refine⟨rfl,OldK.of_keep fun b o e=>?_,os,bare⟩;cases q:H b with
    | none=>exact un.keep b o e q (by intro z;exact vDa (show b∈([]:List Addr) from z) (by simp)) (by simp)
    | some u=>
     rcases hO b with z | ⟨ob,xs,z⟩
     ·rw[q]at z;cases z
     ·have z2:=un.frzs b ob _ z;obtain⟨e1,_⟩:=hok b _ z;obtain⟨e2,_⟩:=hok' b _ z2;rw[e]at e1;cases e1;exact e2
 cases hk:K.lookup a with
 | some o=>
  have e:=KX a o hk;rw[ha]at e;cases e;refine core (fun _=>none) (fun _=>.inl rfl) (.inr ⟨_,vs.toArray,_,hk,rfl,rfl,rfl,by rw[uLa,lenV];exact hl,by simpa using rv⟩) (fun b u z=>by have z':(none:Option HO)=some u:=z;cases z') (fun b z=>vDa rfl z) fun z=>vDa rfl z
 | none=>
  refine core (fun b=>if b=a then some (.frz { cls:=.type "list",data:=.seq vs.toArray } (.lst (ns.map V.int)))else none) (fun b=>?_) (.inl (.inr ⟨{ cls:=.type "list",data:=.seq vs.toArray },if_pos rfl⟩)) (fun b u z=>?_) (fun b z=>?_) fun _=>hk
  ·by_cases hb:b=a
   ·exact .inr ⟨_,_,if_pos hb⟩
   ·exact .inl (if_neg hb)
  ·by_cases hb:b=a
   ·have z':=(if_pos hb).symm.trans z;cases z';subst hb;exact⟨ha,by rw[vYa];exact hl,vs,_,rv,ha⟩
   ·have z':=(if_neg hb).symm.trans z;cases z'
  ·by_cases hb:b=a
   ·exact hb
   ·exact vDa (if_neg hb) z
noncomputable abbrev m8{K:uXa}(_:K.In h):uXa:=K
def cY{l:PySem.W.OpenLaw}{n k:Nat}{q:Program}{loose:List Str}{XP:(Str->Option Value)->Heap->Prop}{YP:World->Heap->Prop}{d:DefRec}{K:Params->uXa}{CX:World->UI}{sp:World->Sp}{x:Str}
  (hn:l.most=some n) (hn2:n<=sizeLine) (hdf:d.params.defaults=[]) (hr:Room k callerA)
  (hY:∀(w:World) (h:Heap),YP w h->(K w.params).In h)
  (F:∀(w:World) (mg:Tx) (fa:Addr) (h:Heap),(K w.params).In h->h.Ns mainGlobals mg->mg d.name=some (.ref fa)->
   ∃fd:FuncData,(∀(s:Shared) (u:Value),BindsTo s fd ⟨[u],[]⟩ [(x,u)])/\
    ∀base:Heap,(K w.params).In base->base.Ns mainGlobals mg->FnOk l.prog w (K w.params) mg base (CX w) k fa fd [x] (sp w))
  (hsp:∀(w:World) (H:Hp) (a:Addr) (ns:List Int),ns.length<=n->Ai H->jC (K w.params) H a (ns.map V.int)->sp w [.ref a] H (fun v _=>v=.bl true) fun _ _ _=>False)
  (hCX:∀(w:World) (H:Hp) (s:Shared) (e:Value) (s':Shared),CX w [] H s (fun _ _ _=>False) e s'->False):
  PySem.W.WalkO q loose XP YP l.row.toRowW d [] (fun f vs=>PySem.call f vs):=by
 refine Att.attach_call hn hdf fun w s₀ s₁ mg mb fa o pm cd doc a vs ns G Y ho hd hcd hmg hobj hints hlen hg=>?_;have KX:=hY w _ Y;obtain⟨fd,hb,hF⟩:=F w mg fa _ KX G.T.g hmg;exact Aj KX G.T.g G.T.b G.T.builtins G.T.nolimit hg hobj hints (wSa hlen hn2) hr hF hb (fun H hO hS=>hsp w H a ns hlen hO hS) fun H e s'=>hCX w H s₁ e s'
noncomputable def inClass(s:Stmt)(j:Nat):Stmt:=match s with
 | .ClassDef _ _ _ body _ _ _ _ _ _ _=>body.getD j (.Pass ⟨0,0,0,0⟩)
 | _=>.Pass ⟨0,0,0,0⟩
noncomputable def defArgs(s:Stmt):Arguments:=match s with
 | .FunctionDef _ a _ _ _ _ _ _ _ _=>a
 | _=>{ posonlyargs:=[],args:=[],vararg:=none,kwonlyargs:=[],kw_defaults:=[],kwarg:=none,defaults:=[] }
noncomputable def defBody(s:Stmt):List Stmt:=match s with
 | .FunctionDef _ _ b _ _ _ _ _ _ _=>b
 | _=>[]
noncomputable def defScope(s:Stmt):Scope:=match s with
 | .FunctionDef _ _ _ _ _ _ sc _ _ _=>sc
 | _=>{ kind:=.function,names:=[],isGenerator:=false,isCoroutine:=false }
abbrev Yj:UI:=fun _ _ _ _ _ _=>False
abbrev E0:XK:=fun _ _ _=>False
def xk:u5 Yj X E0:=fun _ _ _ _ _ _ _ h=>h.elim
structure Fun (K:uXa) (x qual:Str) (st:Stmt) (f:Addr) (fd:FuncData):Prop where
 ex:∃(oc:Value) (od:Option Addr) (kV doc pm:Value) (an:Option Addr) (cdv ct:Value) (osl:Array (Option Value)),
  fd=PySem.W.fnOf x qual (defArgs st) (defBody st) (defScope st) .none kV doc pm an cdv ct/\K.lookup f=some ⟨oc,od,.func fd,osl⟩/\PySem.W.codeIn K cdv qual=true
 kp:PySem.W.keepIn K (.ref f)=true
section
variable {P:Program} {w:World} {K:uXa} {mg:Tx} {base:Heap}
def Fun.ok{x qual:Str}{st:Stmt}{f:Addr}{fd:FuncData}{N ps:List Str}{k:Nat}{sp:Sp}(F:Fun K x qual st f fd)(S:FnScope N ps (defScope st))(len:∀vs H Q E,sp vs H Q E->vs.length=ps.length)
  (hbody:∀(cdv:Value) (A:Around) (outer:List Env) (s:Shared) (H:Hp) (vs:List V) (Q:VK) (E:XK),Room k (A.deeper (envOfC qual (defScope st) s.heap.objs.size f cdv))->sp vs H Q E->
   ∃t,jP (ZV Yj P w K mg base N qual (defScope st) f cdv A outer s H E).nox (defBody st) t/\t { nx:=fun _ H'=>Q .non H',rt:=Q } (za N vs) H):FnOk P w K mg base Yj (k+1) f fd ps sp:=by
 obtain⟨oc,od,kV,doc,pm,an,cdv,ct,osl,rfl,lk,hcd⟩:=F.ex;refine FT lk hcd S len fun A outer s H vs Q E hr hsp=>?_;obtain⟨t,h,q⟩:=hbody cdv A outer s H vs Q E hr hsp;exact⟨t,h.nox,q⟩
def Fun.binds{x qual:Str}{st:Stmt}{f:Addr}{fd:FuncData}{ps:List Str}(F:Fun K x qual st f fd)
  (h:∀(kV doc pm:Value) (an:Option Addr) (cdv ct:Value) (us:List Value),us.length=ps.length->bindArgs (PySem.W.fnOf x qual (defArgs st) (defBody st) (defScope st) .none kV doc pm an cdv ct) ⟨us,[]⟩=pure (ps.zip us)):zG K fd ps []:=by
 obtain⟨oc,od,kV,doc,pm,an,cdv,ct,osl,rfl,lk,hcd⟩:=F.ex;exact .all (h kV doc pm an cdv ct)
def Xk{x qual:Str}{st:Stmt}{f:Addr}{oc:Value}{od an:Option Addr}{osl:Array (Option Value)}{kV doc pm cdv ct:Value}(l:K.lookup f=some ⟨oc,od,.func (PySem.W.fnOf x qual (defArgs st) (defBody st) (defScope st) .none kV doc pm an cdv ct),osl⟩)
  (c:PySem.W.codeIn K cdv qual=true) (k:PySem.W.keepIn K (.ref f)=true):Fun K x qual st f (PySem.W.fnOf x qual (defArgs st) (defBody st) (defScope st) .none kV doc pm an cdv ct):=⟨⟨oc,od,kV,doc,pm,an,cdv,ct,osl,rfl,l,c⟩,k⟩
end
def Xl(h:n<=1000):n < sizeLine:=wRa h (by decide)
def pv(i:Nat)(hN:X.N[i]?=some x:=by rfl)(hv:Q3 X.env.scope x:=by first | exact Or.inl rfl | exact Or.inr (Or.inl rfl) | exact Or.inr (Or.inr rfl))(hd:(x==("__debug__" : Str))=false:=by decide)
  (hcd:(x==("__classdict__" : Str))=false:=by decide):PE X (.Name x pos) (zo i):=dQ hN hv hd hcd
def zH{A B:Prop}(h:B):if false=true then A else B:=by
 rw[if_neg Bool.false_ne_true];exact h
def zI{A B:Prop}(h:A):if true=true then A else B:=by
 rw[if_pos rfl];exact h
def j7(H H':Hp):Prop:=∀b o,H b=some o->H' b=some o
def j7.refl(H:Hp):j7 H H:=fun _ _ h=>h
def j7.trans(a:j7 H H1)(b:j7 H1 H2):j7 H H2:=fun c o h=>b c o (a c o h)
def j7.free(e:j7 H H')(h:H' l=Option.none):H l=Option.none:=by
 cases q:H l with
 | none=>rfl
 | some o=>
  rw[e l o q]at h;cases h
def j7.seq{K:uXa}{H H':Hp}{a:Addr}{xs:List V}(e:j7 H H')(h:jC K H a xs):jC K H' a xs:=by
 rcases h with(h | ⟨o,h⟩) | h
 ·exact .inl (.inl (e _ _ h))
 ·exact .inl (.inr ⟨o,e _ _ h⟩)
 ·exact .inr h
end L2
namespace L2
noncomputable def Y9(env:Env):List (Str×NameKind)->List (Str×Addr)->List (Str×Addr)
 | [],cs=>cs
 | (n,k)::r,cs=>Y9 env r (if k==.free then(match env.cells.lookup n with | some a=>(n,a)::cs | none=>cs)else cs)
theorem KA:∀{ns:List (Str×NameKind)} {cs:List (Str×Addr)},(∀x c,cs.lookup x=some c->env.cells.lookup x=some c)->∀x c,(Y9 env ns cs).lookup x=some c->env.cells.lookup x=some c
 | [],_,h,x,c,e=>h x c e
 | (n,k)::r,cs,h,x,c,e=>by
  refine KA (ns:=r) ?_ x c e;intro y d q;by_cases hk:(k==NameKind.free)=true
  ·rw[if_pos hk]at q;cases hl:env.cells.lookup n with
   | none=>rw[hl]at q;exact h y d q
   | some a=>
    rw[hl]at q;have q:((n,a)::cs).lookup y=some d:=q;rw[List.lookup_cons]at q;cases hy:(y==n)with
    | true=>
     rw[hy]at q;have e1:y=n:=by simpa using hy
     have e2:a=d:=by simpa using q
     rw[e1,hl,e2]
    | false=>rw[hy]at q;exact h y d q
  ·rw[if_neg hk]at q;exact h y d q
theorem wC:∀{ns:List (Str×NameKind)} {cs:List (Str×Addr)} {x:Str},(∃c,cs.lookup x=some c)->∃c,(Y9 env ns cs).lookup x=some c
 | [],_,_,h=>h
 | (n,k)::r,cs,x,h=>by
  refine wC (ns:=r) ?_;by_cases hk:(k==NameKind.free)=true
  ·rw[if_pos hk];cases hl:env.cells.lookup n with
   | none=>exact h
   | some a=>
    show∃c,((n,a)::cs).lookup x=some c;rw[List.lookup_cons];cases hy:(x==n)with
    | true=>exact⟨a,rfl⟩
    | false=>exact h
  ·rw[if_neg hk];exact h
theorem GS:∀{ns:List (Str×NameKind)} {cs:List (Str×Addr)} {x:Str},(x,NameKind.free)∈ns->(∃c,env.cells.lookup x=some c)->∃c,(Y9 env ns cs).lookup x=some c
 | (n,k)::r,cs,x,hm,hc=>by
  rcases uTa hm with e | hm
  ·cases e;obtain⟨c,hc⟩:=hc;refine wC (ns:=r) ?_;rw[if_pos (by rfl)];rw[hc];exact⟨c,by rw[List.lookup_cons];simp⟩
  ·exact GS (ns:=r) hm hc
def g_(h:∀y∈scope.names,y.2=.free->∃c,env.cells.lookup y.1=some c):closureFor scope env=pure (Y9 env scope.names []):=by
 unfold closureFor;have go:∀(ns:List (Str×NameKind)) (cs:List (Str×Addr)),(∀y∈ns,y.2=.free->∃c,env.cells.lookup y.1=some c)->
   (forIn ns cs fun(x:Str×NameKind) (r:List (Str×Addr))=>(match x with
    | (name,kind)=>if (kind==NameKind.free)=true then(do let a<-cellOf env name;pure (ForInStep.yield ((name,a)::r)))else pure (ForInStep.yield r):Sem (ForInStep (List (Str×Addr)))))=pure (Y9 env ns cs):=by
  intro ns;induction ns with
  | nil=>intro cs _;rfl
  | cons p r ih=>
   obtain⟨n,k⟩:=p;intro cs hh;rw[List.forIn_cons];by_cases hk:(k==NameKind.free)=true
   ·obtain⟨c,hc⟩:=hh (n,k) wNa (by simpa using hk);have hc:env.cells.lookup n=some c:=hc;have e1:cellOf env n=pure c:=by unfold cellOf;rw[hc]
    have e2:Y9 env ((n,k)::r) cs=Y9 env r ((n,c)::cs):=by
     show Y9 env r (if (k==NameKind.free)=true then _ else _)=_;rw[if_pos hk,hc]
    dsimp only;rw[if_pos hk,e1,e2,<-ih ((n,c)::cs) fun y hy=>hh y (List.mem_cons_of_mem _ hy)];rfl
   ·have e2:Y9 env ((n,k)::r) cs=Y9 env r cs:=by
     show Y9 env r (if (k==NameKind.free)=true then _ else _)=_;rw[if_neg hk]
    dsimp only;rw[if_neg hk,e2,<-ih cs fun y hy=>hh y (List.mem_cons_of_mem _ hy)];rfl
 exact(congrArg (fun m=>m >>= fun r=>(pure r:Sem (List (Str×Addr)))) (go scope.names [] h)).trans rfl
def Cx.comp(X:Cx)(N':List Str)(scope:Scope)(s3:Shared)(H3:Hp)(ex':List Addr):Cx:=
 { X with N:=N',s₀:=s3,H₀:=H3,env:=compEnvC scope (Y9 X.env scope.names []) s3.heap.objs.size X.env,outer:=X.stack,stack:=X.stack,ex:=ex',fn:=fun _=>false,pn:=[],xe:=fun _ _=>False }
inductive Caps (X:Cx) (scope:Scope):List (Str×Nat)->Prop
 | nil:Caps X scope []
 | cons {y:Str} {j:Nat} {r:Tj}:X.N[j]?=some y->(X.env.kindOf y=some .cell \/ X.env.kindOf y=some .free)->scope.names.lookup y=some .free->Caps X scope r->Caps X scope ((y,j)::r)
theorem Caps.get:∀{caps:Tj} {k:Nat} {y:Str} {j:Nat},Caps X scope caps->caps[k]?=some (y,j)->
  X.N[j]?=some y/\(X.env.kindOf y=some .cell \/ X.env.kindOf y=some .free)/\scope.names.lookup y=some .free
 | _,_,_,_,.nil,e=>by simp at e
 | _,0,_,_,.cons a b c _,e=>by simp at e;obtain⟨rfl,rfl⟩:=e;exact⟨a,b,c⟩
 | _,k+1,_,_,.cons _ _ _ t,e=>Caps.get (k:=k) t (by simpa using e)
noncomputable abbrev cN(own:List Str)(caps:Tj):List Str:=own++caps.map (·.1)
noncomputable abbrev YQ(own:List Str)(caps:Tj)(U:St):St:=own.map (fun _=>none)++caps.map fun p=>(U[p.2]?).join
def ZW(X:Cx)(ifs:List Expr)(t:TT):Prop:=
 ∀(pins:Tq) (s:Shared) (U:St) (H:Hp) (Q:Bool->Hp->Prop),Inv X pins U H s->t U H Q->
  wpAny (model X.prog X.w) X.A (forIn ifs true fun c r=>if r=true then do let ok<-isTrue c X.env (eval c X.env);pure (ForInStep.yield ok)else pure (ForInStep.yield r)) (TP X pins U Q) X.xe s
def FV:TT:=fun _ H Q=>Q true H
def cZ:ZW X [] FV:=fun _ _ _ H _ I h=>wpAny_tests_nil ⟨H,I,h⟩
def c_(h:PT X c t):ZW X [c] t:=fun pins s U H Q I q=>wpAny_tests_one (h pins s U H Q I q)
def UL(h:(relabel scope env).names.lookup x=some k):∃k0,scope.names.lookup x=some k0/\(k=k0 \/ (k0=.free/\k=.cell)):=by
 have go:∀ns:List (Str×NameKind),(ns.map fun(n,k)=>if (k==NameKind.free&&env.scope.kind==.function&&env.kindOf n==some .cell)then(n,NameKind.cell)else(n,k)).lookup x=some k->
   ∃k0,ns.lookup x=some k0/\(k=k0 \/ (k0=.free/\k=.cell)):=by
  intro ns;induction ns with
  | nil=>intro q;simp at q
  | cons p r ih=>
   obtain⟨n,k1⟩:=p;intro q;have q:List.lookup x ((if (k1==NameKind.free&&env.scope.kind==.function&&env.kindOf n==some .cell)=true then(n,NameKind.cell)else(n,k1))::(r.map fun(n,k)=>if (k==NameKind.free&&env.scope.kind==.function&&env.kindOf n==some .cell)then(n,NameKind.cell)else(n,k)))=some k:=q;by_cases hc:(k1==NameKind.free&&env.scope.kind==.function&&env.kindOf n==some .cell)=true
   ·rw[if_pos hc,List.lookup_cons]at q;rw[List.lookup_cons];cases hx:(x==n)with
    | true=>
     rw[hx]at q;have e:NameKind.cell=k:=by simpa using q
     refine⟨k1,rfl,.inr ⟨?_,e.symm⟩⟩;simp only[Bool.and_eq_true]at hc;simpa using hc.1.1
    | false=>rw[hx]at q;exact ih q
   ·rw[if_neg hc,List.lookup_cons]at q;rw[List.lookup_cons];cases hx:(x==n)with
    | true=>
     rw[hx]at q;have e:k1=k:=by simpa using q
     exact⟨k1,rfl,.inl e.symm⟩
    | false=>rw[hx]at q;exact ih q
 exact go scope.names h
def Wp(k:Nat)(J:It)(U0:St)(g:TG)(tc:TT)(te:TE)(Qv:VK)(W:Nat->Nat->List V->Hp->Prop):Prop:=∀i m vs H,W i m vs H->
  (J.stop i H/\vs.length<=sizeLine/\∀D,H D=none->Qv (.ref D) (upd H D (.lst vs))) \/
  (J.go i H/\vs.length < sizeLine/\∃N:List V->Hp->Prop,(∀vs' H',N vs' H'->∃m',m' < m/\W (i+1) m' vs' H')/\
   ∀x H',J.yld i H x H'->g x U0 H' fun U2 H2=>U2.drop k=U0.drop k/\tc U2 H2 fun b H3=>if b=true then te U2 H3 fun y H4=>N (vs++[y]) H4 else N vs H3)
def C0(hcell:∀y∈scope.names,y.2≠.cell)(hkind:scope.kind=.function)
  (hfr:∀y∈scope.names,y.2=.free->X.env.kindOf y.1=some .cell \/ X.env.kindOf y.1=some .free)
  (I:Inv X pins U H s2) (hf:∀b∈ex',b < s2.heap.objs.size/\Jj X pins H b):(X.comp (cN own caps) scope s2 H ex').Ok:=by
 have cin:∀x c,(Y9 X.env scope.names []).lookup x=some c->X.env.cells.lookup x=some c:=KA fun _ _ e=>by simp at e
 refine⟨I.ok.mod,hkind,I.ok.glob,I.ok.blt,wPa _,fun x y c h1 h2=>I.ok.inj x y c (cin x c h1) (cin y c h2),fun x hx=>?_,fun _ _ z=>(by cases z),I.ok.hd,I.ok.frames,.inl rfl,fun b hb=>⟨wTa (hf b hb).1,fun x c h=>(hf b hb).2.2.2.2.2.1 x c (cin x c h)⟩,
  I.bs,wSa I.ok.bsz I.sz,fun b o e hb=>?_,fun b hb hs=>?_,I.stack,I.stkFree⟩
 ·have q:∃k,(relabel scope X.env).names.lookup x=some k/\(k=.cell \/ k=.free):=by
   rcases hx with hx | hx
   ·exact⟨_,hx,.inl rfl⟩
   ·exact⟨_,hx,.inr rfl⟩
  obtain⟨k,q,hk⟩:=q;obtain⟨k0,q0,hk0⟩:=UL q;have m0:=PySem.mem_of_lookup q0;have e0:k0=.free:=by
   rcases hk0 with e | e
   ·rcases hk with z | z
    ·exact vDa (e.symm.trans z) (hcell _ m0)
    ·exact e.symm.trans z
   ·exact e.1
  subst e0;exact GS m0 (I.ok.has x (hfr _ m0 rfl))
 ·rcases(hf b hb).2.2.2.2.1 with z | z
  ·exact I.ok.noex b o e z
  ·exact vDa (Nat.lt_of_lt_of_le (wLa e) (wSa I.ok.bsz z)) (wUa _)
 ·rcases uTa (I.stkSub b hs)with z | z
  ·exact(hf b hb).2.2.1 z
  ·exact(hf b hb).2.2.2.1 z
def uC(hcell:∀y∈scope.names,y.2≠.cell)(hkind:scope.kind=.function)
  (hfr:∀y∈scope.names,y.2=.free->X.env.kindOf y.1=some .cell \/ X.env.kindOf y.1=some .free) (hcap:Caps X scope caps)
  (I:Inv X pins U H s2) (hf:∀b∈ex',b < s2.heap.objs.size/\Jj X pins H b) {t:Nat} (hn:h1.Ns s2.heap.objs.size m) (hk:∀b o,s2.heap.get? b=some o->h1.get? b=some o):
  Inv (X.comp (cN own caps) scope s2 H ex') [] (YQ own caps U) H { s2 with heap:=h1,toks:=t }:=by
 have cin:∀x c,(Y9 X.env scope.names []).lookup x=some c->X.env.cells.lookup x=some c:=KA fun _ _ e=>by simp at e
 have ok:=C0 (own:=own) (caps:=caps) hcell hkind hfr I hf;refine⟨ok,rfl,I.bare,Un.kept hk,⟨m,hn,fun i x v e1 e2 e3=>?_⟩,fun x c e=>?_,I.hok.fresh (wPa _),fun x c e=>I.freeC x c (cin x c e),fun p hp=>vDa (show p∈([]:Tq) from hp) (by simp),I.hok.kept hk,by simp[Cx.comp,cN,YQ]⟩
 ·by_cases hi:i < own.length
  ·have e2:(own.map (fun _=>(none:Option V))++caps.map fun p=>(U[p.2]?).join)[i]?=some (some v):=e2;rw[uRa (by simpa using hi),uAa]at e2;cases q:own[i]? with
   | none=>rw[q]at e2;cases e2
   | some _=>rw[q]at e2;cases e2
  ·have e2:(own.map (fun _=>(none:Option V))++caps.map fun p=>(U[p.2]?).join)[i]?=some (some v):=e2;have e1:(own++caps.map (·.1))[i]?=some x:=e1;rw[List.getElem?_append_right (by simpa using hi),uAa]at e2;rw[List.getElem?_append_right (by simpa using hi),uAa]at e1;rw[vYa]at e2;cases q:caps[i - own.length]? with
   | none=>rw[q]at e1;cases e1
   | some p=>
    obtain⟨y,j⟩:=p;rw[q]at e1 e2;have e1:y=x:=vFa e1;subst e1;have e2:(U[j]?).join=some v:=vFa e2;obtain⟨a1,a2,a3⟩:=hcap.get q;have sj:U[j]?=some (some v):=by
     cases z:U[j]? with
     | none=>rw[z]at e2;cases e2
     | some z'=>rw[z]at e2;exact congrArg some e2
    obtain⟨m0,hn0,hl0⟩:=I.loc;have vis:Q3 X.env.scope y:=by
     rcases a2 with z | z
     ·exact .inr (.inl z)
     ·exact .inr (.inr z)
    obtain⟨u,r,l⟩:=hl0 j y v a1 sj vis;refine⟨u,r,.inr ⟨?_,?_⟩⟩
    ·rcases e3 with z | z
     ·obtain⟨k0,q0,hk0⟩:=UL z;rw[a3]at q0;cases q0;rcases hk0 with z' | z'
      ·cases z'
      ·cases z'.2
     ·exact z
    ·rcases l with⟨hk',_⟩ | ⟨_,c,hc,z⟩
     ·rcases a2 with z | z <;> rw[hk']at z <;> cases z
     ·obtain⟨c',hc'⟩:=GS (cs:=[]) (PySem.mem_of_lookup a3) ⟨c,hc⟩;have:=cin y c' hc';rw[hc]at this;cases this;obtain⟨o,ho,hd⟩:=z;exact⟨c,hc',o,hk c o ho,hd⟩
 ·obtain⟨v,o,ho,hd⟩:=I.cell x c (cin x c e);exact⟨v,o,hk c o ho,hd⟩
def yJ.adopt(x:yJ P w H h)(hn:H D=none)(hl:vs.length<=sizeLine)(r:jq vs ys)(e:h.get? D=some { cls:=.type "list",data:=.seq ys.toArray k }):yJ P w (upd H D (.lst vs)) h:=fun b u q=>by
 by_cases hb:b=D
 ·subst hb;rw[jS]at q;cases q;exact⟨hl,ys,k,r,e⟩
 ·rw[jr hb]at q;exact(x b u q).stay (fun _ _ _ z=>z) (fun c z=>by rw[jr (jJ z hn)];exact z) fun c xs z=>by rw[jr (jJ z hn)];exact z
def Xm(I:Inv X pins U H s2)(hD:D < s2.heap.objs.size)(fD:Jj X pins H D)(hf:∀b∈fp,Jj X pins H b)
  (J':Inv (X.comp N' scope s2 H (D::fp)) [] U' H' s') (hn:H' D=none) (hl:vs.length<=sizeLine) (r:jq vs ys) (e:s'.heap.get? D=some { cls:=.type "list",data:=.seq ys.toArray k }):
  Inv X pins U (upd H' D (.lst vs)) s':=by
 have u:Un (Vi X.stack) (D::fp) H H' s2.heap s'.heap:=J'.base;have nD:∀b,b∉D::fp->b≠D:=fun b hb z=>hb (by rw[z];exact wNa);refine I.call' (ch:=D::fp) J'.os ⟨u.keep,u.slot,fun b o q n hx=>?_,u.there,fun b xs q=>?_,fun b o v q=>?_,fun b ps q=>?_⟩ (J'.hok.adopt hn hl r e) J'.bare fun b hb=>?_
 ·rw[jr (nD b hx)];exact u.free b o q n hx
 ·rw[jr (jJ q fD.1)];exact u.tups b xs q
 ·rw[jr (jJ q fD.1)];exact u.frzs b o v q
 ·rw[jr (jJ q fD.1)];exact u.tbls b ps q
 ·have F:Jj X pins H b:=by
   rcases uTa hb with z | z
   ·rw[z];exact fD
   ·exact hf b z
  exact⟨F.2.2.2.1,F.2.1,F.2.2.2.2.1,F.2.2.2.2.2⟩
def C1{C:Addr}(hc:X.calm=true)
  (hg:∀s3 H3 ex',PG (X.comp (cN own caps) scope s3 H3 ex') tg g) (ht:∀s3 H3 ex',ZW (X.comp (cN own caps) scope s3 H3 ex') ifs tc) (he:∀s3 H3 ex',PE (X.comp (cN own caps) scope s3 H3 ex') elt te)
  (I:Inv X pins U H s2) (hD:D < s2.heap.objs.size) (fD:Jj X pins H D) (nDf:D∉fp) (hfl:∀b∈fp,b < s2.heap.objs.size) (hf:∀b∈fp,Jj X pins H b) (T:Turn X.prog X.w X.K tg J fp it tn) (turn:Wp own.length J (YQ own caps U) g tc te Qv W)
  (R:Result->Shared->Prop) (hR:∀s',(∃H' m,Inv X pins U H' s'/\s'.heap.Ns s2.heap.objs.size m/\Jj X pins H' s2.heap.objs.size/\Qv (.ref D) H')->R (.ok .next) s')
  (n:Nat) (s4:Shared) (st:∃i vs H' ys k,Inv (X.comp (cN own caps) scope s2 H (D::fp)) [] (YQ own caps U) H' s4/\tn i s4.heap/\(∀b∈fp,H' b=none)/\H' D=none/\
   s4.heap.get? D=some { cls:=.type "list",data:=.seq (ys:List Value).toArray k }/\jq vs ys/\W i n vs H'):
  codeAny (model X.prog X.w) X.A (.compLoop (.ListComp elt [⟨tg,iter,ifs,0⟩] scope pos) 0 (.ref it) (.ref D) (X.comp (cN own caps) scope s2 H (D::fp)).env) R s4:=by
 let Y:=X.comp (cN own caps) scope s2 H (D::fp)
 have stat:∀{H':Hp},H' D=none->(∀b∈fp,H' b=none)->∀s':Shared,∀U',Inv Y [] U' H' s'->∀b∈D::fp,Jj Y [] H' b:=fun {H'} h0 h1 s' U' I' b hb=>by
  have hb':b < s2.heap.objs.size:=by
   rcases uTa hb with z | z
   ·rw[z];exact hD
   ·exact hfl b z
  refine⟨?_,wTa hb',I'.ok.exfs b hb,.inl hb,(I'.ok.exf b hb).2,fun p hp=>vDa (show p∈([]:Tq) from hp) (by simp)⟩;rcases uTa hb with z | z
  ·rw[z];exact h0
  ·exact h1 b z
 refine codeAny_loop rfl (fun n s'=>∃i vs H' ys k,Inv Y [] (YQ own caps U) H' s'/\tn i s'.heap/\(∀b∈fp,H' b=none)/\H' D=none/\
   s'.heap.get? D=some { cls:=.type "list",data:=.seq (ys:List Value).toArray k }/\jq vs ys/\W i n vs H') ?_ n st
 rintro n s3 ⟨i,vs,H3,ys,k,I3,st3,fr3,n3,g3,r3,w3⟩;show wpAny _ _ ((compTurn (.ListComp elt [⟨tg,iter,ifs,0⟩] scope pos) 0 (.ref it) (.ref D) Y.env).onRaise (fun x=>do noteFrame x Y.env;theTreesLotGoes x)) _ _ s3;refine wpAny_noted ?_;rw[compTurn_list];have F0:=stat n3 fr3 s3 _ I3;have pinD:∀{U':St} {H':Hp} {s':Shared} {ps:Tq} {zs:List Value} {kk:Nat},Inv Y ps U' H' s'->H' D=none->s'.heap.get? D=some { cls:=.type "list",data:=.seq zs.toArray kk }->Inv Y (ps++[(D,{ cls:=.type "list",data:=.seq zs.toArray kk })]) U' H' s':=fun {U' H' s' ps zs kk} I' hn hg'=>
  I'.pins_of fun p hp=>(uWa hp).elim (fun z=>I'.pin p (vJa _ z)) fun z=>by
   have e:p=(D,{ cls:=.type "list",data:=.seq zs.toArray kk }):=by simpa using z
   subst e;have f:=(stat n3 fr3 s3 _ I3) D wNa;exact⟨hg',hn,f.2.1,f.2.2.1,fun v z=>by cases z⟩
 have I3p:=pinD I3 n3 g3;have F3:∀b∈fp,Jj Y ([]++[(D,{ cls:=.type "list",data:=.seq ys.toArray k })]) H3 b:=fun b hb=>by
  obtain⟨f0,f1,f2,f3,f4,f5⟩:=F0 b (wMa _ hb);refine⟨f0,f1,f2,f3,f4,fun p hp z=>?_⟩;have e:p=(D,{ cls:=.type "list",data:=.seq ys.toArray k }):=by simpa[Y,Cx.comp]using hp
  subst e;exact nDf (by rw[show D=b from z];exact hb)
 rcases turn i n vs H3 w3 with⟨stop,hl,q⟩ | ⟨go,hl,N,hN,step⟩
 ·refine wAa (vOa (wAa (wCa (T.done Y rfl rfl rfl hc i _ s3 _ H3 (fun _ _=>False) I3p F3 st3 stop) (fun r s5 h5=>?_) fun _ _ z=>z.elim)));obtain⟨hr,I5p⟩:=h5;subst hr;refine wBa (hR s5 ?_);have g5:s5.heap.get? D=some { cls:=.type "list",data:=.seq ys.toArray k }:=(I5p.pin (D,_) (by simp)).1;have I5:Inv Y [] (YQ own caps U) H3 s5:=I5p.unpinned (pins:=[]);obtain⟨m5,hm5,_⟩:=id I5.loc;refine⟨_,m5,Xm I hD fD hf I5 n3 hl r3 g5,hm5,I.fpOk (wPa _) ?_,q D n3⟩;rw[jr (Nat.ne_of_gt hD)];exact I5.free
 ·refine wAa (vOa (wAa (wCa (T.item Y rfl rfl rfl hc i _ s3 _ H3 (fun _ _=>False) I3p F3 st3 go) (fun r s5 h5=>?_) fun _ _ z=>z.elim)));obtain⟨u,hr,h5⟩:=h5;subst hr;refine wAa (wCa h5 (fun _ s6 h6=>?_) fun _ _ z=>z.elim);obtain⟨x,H6,I6,r6,y6,st6,fr6⟩:=h6;have F6:∀b∈fp,Jj Y ([]++[(D,{ cls:=.type "list",data:=.seq ys.toArray k })]) H6 b:=fun b hb=>⟨fr6 b hb,(F3 b hb).2⟩
  have I6':=I6.pinned F6 (T.obj _ _ st6);refine wAa (wCa (hg s2 H (D::fp) _ s6 _ H6 x u _ I6' r6 (step x H6 y6)) (fun _ s7 h7=>?_) fun _ _ z=>z.elim);obtain⟨U7,H7,I7,d7,q7⟩:=h7;refine wAa (wCa (ht s2 H (D::fp) _ s7 U7 H7 _ I7 q7) (fun b s8 h8=>?_) fun _ _ z=>z.elim);obtain⟨H8,I8,q8⟩:=h8;have fin:∀{s9:Shared} {H9:Hp} {vs':List V} {zs:List Value} {kk:Nat},Inv Y [] U7 H9 s9->tn (i+1) s9.heap->(∀b∈fp,H9 b=none)->H9 D=none->s9.heap.get? D=some { cls:=.type "list",data:=.seq zs.toArray kk }->jq vs' zs->N vs' H9->
    ∃m,m < n/\∃i vs H' ys k,Inv Y [] (YQ own caps U) H' s9/\tn i s9.heap/\(∀b∈fp,H' b=none)/\H' D=none/\s9.heap.get? D=some { cls:=.type "list",data:=.seq (ys:List Value).toArray k }/\jq vs ys/\W i m vs H':=fun {s9 H9 vs' zs kk} I9 st9 fr9 n9 g9 r9 w9=>by
   obtain⟨m',hm,w'⟩:=hN vs' H9 w9;refine⟨m',hm,i+1,vs',H9,zs,kk,?_,st9,fr9,n9,g9,r9,w'⟩;have l9:U7.length=(YQ own caps U).length:=I9.len.trans (by simp[Y,Cx.comp,cN,YQ]);refine I9.weak l9.symm fun j v e=>?_;by_cases hj:j < own.length
   ·rw[uRa (by simpa using hj),uAa]at e;cases q:own[j]? with
    | none=>rw[q]at e;cases e
    | some _=>rw[q]at e;cases e
   ·have z:=congrArg (fun l=>l[j - own.length]?) d7;simp only[List.getElem?_drop]at z;have ej:own.length+(j - own.length)=j:=by omega
    rw[ej]at z;exact z.trans e
  have pins8:∀{s9:Shared} {H9:Hp},Inv Y ([]++[(D,{ cls:=.type "list",data:=.seq ys.toArray k })]++UE fp s6.heap) U7 H9 s9->tn (i+1) s9.heap/\(∀b∈fp,H9 b=none)/\H9 D=none/\s9.heap.get? D=some { cls:=.type "list",data:=.seq ys.toArray k }:=fun {s9 H9} I9=>by
   refine⟨T.keep _ _ _ st6 fun b hb o e=>(I9.pin (b,o) (vJa _ (vJa _ (YI hb e)))).1,fun b hb=>?_,(I9.pin (D,{ cls:=.type "list",data:=.seq ys.toArray k }) (vJa _ (vIa _ (by simp)))).2.1,(I9.pin (D,{ cls:=.type "list",data:=.seq ys.toArray k }) (vJa _ (vIa _ (by simp)))).1⟩;obtain⟨o,e,d⟩:=T.obj _ _ st6 b hb;exact(I9.pin (b,o) (vJa _ (vJa _ (YI hb e)))).2.1
  cases b with
  | false=>
   obtain⟨a1,a2,a3,a4⟩:=pins8 I8;exact wBa ⟨rfl,fin (I8.unpinned.unpinned) a1 a2 a3 a4 r3 q8⟩
  | true=>
   refine wAa (wAa (wCa (he s2 H (D::fp) _ s8 U7 H8 _ I8 q8) (fun y s9 h9=>?_) fun _ _ z=>z.elim));obtain⟨v9,H9,I9,r9,q9⟩:=h9;obtain⟨a1,a2,a3,a4⟩:=pins8 I9;have hlz:ys.toArray.size<=sizeLine:=by
    have:=r3.length;simp only[List.size_toArray];omega
   refine wAa (wpAny_list_append_plain (hsz:=hlz) ⟨k,a4⟩ fun h' hp sb=>wBa (wBa ⟨rfl,?_⟩));obtain⟨k',g'⟩:=hp;have I9':Inv Y [] U7 H9 s9:=I9.unpinned.unpinned;have F9:=stat a3 a2 s9 _ I9' D wNa;obtain⟨f0,f1,f2,f3,f4,f5⟩:=F9;have I10:Inv Y [] U7 H9 { s9 with heap:=h' }:=I9'.turned (t':=s9.toks) (fun b o hb e=>(sb.2 b hb).trans e) f0 f1 f3 f4 f5;refine fin (zs:=ys++[y]) (kk:=k') I10 (T.keep _ _ _ a1 fun b hb o e=>(sb.2 b fun z=>nDf (by rw[<-z];exact hb)).trans e) a2 a3 ?_ (r3.append (.cons r9 .nil)) q9;rw[g'];simp
structure CScope (X:Cx) (scope:Scope):Prop where
 kind:scope.kind=.function
 loc:(scope.names.all fun y=>y.2 != .local||scope.names.lookup y.1==some .local)=true
 nocell:(scope.names.all fun y=>y.2 != .cell)=true
 free:(scope.names.all fun y=>y.2 != .free||X.env.scope.names.lookup y.1==some .cell||X.env.scope.names.lookup y.1==some .free)=true
section
variable {X:Cx} {elt tg iter:Expr} {ifs:List Expr} {scope:Scope} {pos:Pos} {own:List Str} {caps:Tj} {g:TG} {tc:TT} {te:TE} {pins:Tq} {U:St} {H:Hp} {s2:Shared} {J:It} {fp:List Addr} {it:Addr} {tn:Nat->Heap->Prop} {Qv:VK}
def CScope.l(S:CScope X scope):∀x∈scope.names,x.2=.local->scope.names.lookup x.1=some .local:=fun x hx e=>by
 have:=List.all_eq_true.mp S.loc x hx;rw[e]at this;simpa using this
def CScope.c(S:CScope X scope):∀x∈scope.names,x.2≠.cell:=fun x hx e=>by
 have:=List.all_eq_true.mp S.nocell x hx;rw[e]at this;simp at this
def CScope.f(S:CScope X scope):∀y∈scope.names,y.2=.free->X.env.kindOf y.1=some .cell \/ X.env.kindOf y.1=some .free:=fun x hx e=>by
 have:=List.all_eq_true.mp S.free x hx;rw[e]at this;simpa[Env.kindOf]using this
def Qb{E:Tz}{RR:Value->Addr->Result->Shared->Prop}(S:CScope X scope)(hcap:Caps X scope caps)(hc:X.calm=true)
  (hg:∀s3 H3 ex',PG (X.comp (cN own caps) scope s3 H3 ex') tg g) (ht:∀s3 H3 ex',ZW (X.comp (cN own caps) scope s3 H3 ex') ifs tc) (he:∀s3 H3 ex',PE (X.comp (cN own caps) scope s3 H3 ex') elt te)
  (I:Inv X pins U H s2) (T:Turn X.prog X.w X.K tg J fp it tn) (st:tn 0 s2.heap) (hf:∀b∈fp,Jj X pins H b)
  (w:∃W,(∃m,W 0 m [] H)/\Wp own.length J (YQ own caps U) g tc te Qv W)
  (hRR:∀D C s' H' m,Inv X pins U H' s'->s'.heap.Ns C m->Jj X pins H' C->Qv (.ref D) H'->RR (.ref D) C (.ok .next) s'):
  wpAny (model X.prog X.w) X.A (newList []) (fun acc s3=>wpAny (model X.prog X.w) X.A (newFunctionEnv scope X.env.globals (Y9 X.env scope.names []) [] X.env.qual none .none (some X.env)) (fun cenv s4=>
   codeAny (model X.prog X.w) X.A (.compStart (.ListComp elt [⟨tg,iter,ifs,0⟩] scope pos) 0 (.ref it) acc { cenv with scope:=relabel scope X.env }) (RR acc cenv.locals) s4) E s3) E s2:=by
 obtain⟨W,⟨m0,w0⟩,turn⟩:=w;refine vTa (wpAny_newFunctionEnv S.c (by intro y hy;simp at hy) (fun h1 hns hsb=>?_) S.kind);have hlt:∀b∈fp,b < s2.heap.objs.size:=fun b hb=>by
  obtain⟨o,e,_⟩:=T.obj _ _ st b hb;exact wLa e
 let s3:Shared:={ s2 with heap:=s2.heap.push { cls:=.type "list",dict:=none,data:=.seq ([]:List Value).toArray } }
 have e3:s3.heap.objs.size=s2.heap.objs.size+1:=Heap.size_push ..;have I3:Inv X pins U H s3:=I.kept (t':=s2.toks) fun b o e=>wIa _ e;have fD:Jj X pins H s2.heap.objs.size:=I.fpOk (wPa _) (I.hok.fresh (wPa _));have hk:∀b o,s3.heap.get? b=some o->h1.get? b=some o:=fun b o e=>hsb.extBut b o (wTa (wLa e)) (wIa _ e);have hD:s2.heap.objs.size < s3.heap.objs.size:=by rw[e3];exact Nat.lt_succ_self _
 have hl3:∀b∈fp,b < s3.heap.objs.size:=fun b hb=>Nat.lt_trans (hlt b hb) hD;have I4:Inv (X.comp (cN own caps) scope s3 H (s2.heap.objs.size::fp)) [] (YQ own caps U) H { s3 with heap:=h1,toks:=s2.toks+([]:List (Str×Value)).length }:=by
  refine uC S.c S.kind S.f hcap I3 (fun b hb=>?_) hns hk;rcases uTa hb with z | z
  ·rw[z];exact⟨hD,fD⟩
  ·exact⟨hl3 b z,hf b z⟩
 have st4:tn 0 h1:=T.keep _ _ _ st fun b hb o e=>hk b o (wIa _ e);have g4:h1.get? s2.heap.objs.size=some { cls:=.type "list",data:=.seq ([]:List Value).toArray }:=hk _ _ (wJa _ rfl);have loop:=C1 (C:=0) (iter:=iter) (pos:=pos) hc hg ht he I3 hD fD (fun z=>wUa _ (hlt _ z)) hl3 hf T turn (RR (.ref s2.heap.objs.size) s3.heap.objs.size) (fun s' ⟨H',m,a1,a2,a3,a4⟩=>hRR _ _ s' H' m a1 a2 a3 a4) m0
  { s3 with heap:=h1,toks:=s2.toks+([]:List (Str×Value)).length } ⟨0,[],H,[],0,I4,st4,fun b hb=>(hf b hb).1,fD.1,g4,.nil,w0⟩
 exact codeAny_compStart_list loop (T.self _ 0 _ _ _ st4 loop)
def D_(own:List Str)(caps:Tj)(wi:TI)(g:TG)(tc:TT)(te:TE):TE:=fun U H Q=>wi U H fun J H1=>∃W,(∃m,W 0 m [] H1)/\Wp own.length J (YQ own caps U) g tc te Q W
def FW(own:List Str)(caps:Tj)(S:CScope X scope)(hcap:Caps X scope caps)(hc:X.calm=true)(hi:PI X tg iter wi)
  (hg:∀s3 H3 ex',PG (X.comp (cN own caps) scope s3 H3 ex') tg g) (ht:∀s3 H3 ex',ZW (X.comp (cN own caps) scope s3 H3 ex') ifs tc) (he:∀s3 H3 ex',PE (X.comp (cN own caps) scope s3 H3 ex') elt te)
  (hs:∀x,foldedSetIterable iter X.env x=pure x:=by intro _;rfl):PE X (.ListComp elt [⟨tg,iter,ifs,0⟩] scope pos) (D_ own caps wi g tc te):=by
 intro pins s U H Q I h;rw[eval_ListComp];refine wpAny_comprehension_free (use:=none) rfl hs (g_ fun y hy e=>I.ok.has y.1 (S.f y hy e)) S.kind S.l (ju (hi pins s U H _ I h) fun xv s1 h1=>ju h1 fun itv s2 h2=>?_);obtain⟨it,fp,tn,J,H2,e,I2,T,st,f2,w⟩:=h2;subst e;refine Qb (RR:=fun acc C=>compPost (model X.prog X.w) X.A X.xe none (EP X pins U Q) acc C) S hcap hc hg ht he I2 T st f2 w ?_;intro D C s' H' m I' hn hf' q;refine⟨m,hn,fun h' sb=>⟨.ref D,H',?_,rfl,q⟩⟩;obtain⟨f0,f1,f2,f3,f4,f5⟩:=hf';exact I'.turned (t':=s'.toks) (fun b o hb e=>(sb.2 b hb).trans e) f0 f1 f3 f4 f5
set_option tactic.hygienic true in
theorem Wq(own:List Str)(caps:Tj)(hN:X.N.Nodup)(hix:X.N[i]?=some x)(hx:UA X.env.scope x)(S:CScope X scope)(hcap:Caps X scope caps)(hc:X.calm=true)(hi:PI X tg iter wi)
  (hg:∀s3 H3 ex',PG (X.comp (cN own caps) scope s3 H3 ex') tg g) (ht:∀s3 H3 ex',ZW (X.comp (cN own caps) scope s3 H3 ex') ifs tc) (he:∀s3 H3 ex',PE (X.comp (cN own caps) scope s3 H3 ex') elt te)
  (hs:∀x,foldedSetIterable iter X.env x=pure x:=by intro _;rfl)
  (hsw:swapsWith (.ListComp elt [⟨tg,iter,ifs,0⟩] scope pos) (some (.Name x pos')) spos.line X.env=pure true:=by rfl) (hf:X.fn x=true \/ X.env.scope.names.lookup x=some .local:=by first | exact .inl rfl | exact .inr rfl | assumption):
  PS X (.Assign [.Name x pos'] (.ListComp elt [⟨tg,iter,ifs,0⟩] scope pos) spos) (zq (D_ own caps wi g tc te) (Yh i)):=by
 intro pins s U H D I h;rw[exec_Assign_Name_used _ _ _ _ hsw];refine wAa (vOa (wAa ?_));show wpAny _ _ (do let _<-comprehension (.ListComp elt [⟨tg,iter,ifs,0⟩] scope pos) scope X.env _ (newList []) false (eval iter X.env) (some (assign (.Name x pos') X.env))) _ _ s;refine wAa (wCa (wpAny_comprehension_free (use:=some (assign (.Name x pos') X.env)) (Q:=fun _ s'=>SP X pins D .next s') rfl hs (g_ fun y hy e=>I.ok.has y.1 (S.f y hy e)) S.kind S.l
  (ju (hi pins s U H _ I h) fun xv s1 h1=>ju h1 fun itv s2 h2=>?_)) (fun _ s' hq=>wBa (wBa hq)) fun _ _ e=>e)
 obtain⟨it,fp,tn,J,H2,e,I2,T,st,f2,w⟩:=h2;subst e;refine Qb (RR:=fun acc C=>compPost (model X.prog X.w) X.A X.xe (some (assign (.Name x pos') X.env)) (fun _ s'=>SP X pins D .next s') acc C) S hcap hc hg ht he I2 T st f2 w ?_;intro A C s' H' m I' hn hf' q;obtain⟨f0,f1,f2,f3,f4,f5⟩:=hf';show wpAny _ _ (assign (.Name x pos') X.env (.ref A)) _ _ _;refine wpAny_assign_Name (UB (v:=.ref A) I' hN hix hx rfl (fun s'' I'' hsb=>?_) hf);obtain⟨a,sb,ha⟩:=hsb;have aC:C≠a:=by
  rcases ha with z | z
  ·rw[z];exact f1
  ·exact fun e=>f4 x a z e.symm
 refine⟨m,hn.sameBut sb aC,fun h' sb'=>⟨_,H',?_,q⟩⟩;exact I''.turned (t':=s''.toks) (fun b o hb e=>(sb'.2 b hb).trans e) f0 f1 f3 f4 f5
end
inductive Sk where
 | l | t
def Uk(K:uXa):Sk->Hp->Addr->List V->Prop
 | .l=>jC K
 | .t=>Jr K
def Jk:Sk->Heap->Addr->Array Value->Prop
 | .l,h,a,vs=>h.IsList a vs
 | .t,h,a,vs=>h.IsTuple a vs
def Jl:Sk->Heap->Addr->Addr->Nat->Prop
 | .l,h,it,a,i=>h.IsListIter it a i
 | .t,h,it,a,i=>h.IsTupleIter it a i
def Jk.at{k:Sk}{h h':Heap}{a:Addr}{vs:Array Value}(x:Jk k h a vs)(e:∀o,h.get? a=some o->h'.get? a=some o):Jk k h' a vs:=by
 cases k
 ·exact Heap.IsList.at x e
 ·obtain⟨o,ho,r⟩:=x;exact⟨o,e o ho,r⟩
def Jl.at{k:Sk}{h h':Heap}{it a:Addr}{i:Nat}(x:Jl k h it a i)(e:∀o,h.get? it=some o->h'.get? it=some o):Jl k h' it a i:=by
 cases k <;> (obtain⟨o,ho,r⟩:=x;exact⟨o,e o ho,r⟩)
def Jl.obj(x:Jl k h it a i):∃o,h.get? it=some o/\∀v,o.data≠.cell v:=by
 cases k <;> (obtain⟨o,ho,_,d⟩:=x;exact⟨o,ho,fun v z=>by rw[d]at z;cases z⟩)
def Jk.lt(x:Jk k h a vs):a < h.objs.size:=by
 cases k <;> (obtain⟨o,ho,_⟩:=x;exact wLa ho)
section
variable {prog:Program} {w:World} {A:Around} {E:Tz} {s:Shared} {it a:Addr} {i:Nat} {its:Array Value} {x:Value}
def wW(hi:s.heap.IsTupleIter it a i)(ht:s.heap.IsTuple a its)(hx:its[i]?=some x)
  (hQ:∀h',h'.IsTupleIter it a (i+1)->Heap.SameBut it s.heap h'->Q x { s with heap:=h' }):wpAny (model prog w) A (Builtin.SmallTypes.nextOf (.ref it)) Q E s:=by
 obtain⟨o,ho,hc,hd⟩:=id hi;obtain⟨oa,hoa,_,na,hda⟩:=ht;unfold Builtin.SmallTypes.nextOf;refine wAa (wpAny_callSpecial?_slot (name:=Str.ofString "__next__") hi.typeIs F.slot_tuple_iterator_next (wpAny_call_entry F.slot_tuple_iterator_next hi.typeIs F.entry_tuple_iterator_next ?_ (F.args_tuple_iterator_next_1 _)));show wpAny _ _ (field (.ref it) 0 >>= _) _ _ s;refine wAa (wpAny_field ho hd (x:=.ref a) rfl ?_);show wpAny _ _ (if (Value.ref a==Value.none)=true then _ else _) _ _ s;have nn:¬((Value.ref a==Value.none)=true):=vNa;rw[if_neg nn];show wpAny _ _ (field (.ref it) 1 >>= _) _ _ s;refine wAa (wpAny_field ho hd (x:=.int i 0) rfl ?_);show wpAny _ _ (seqItems? (.ref a) >>= _) _ _ s;refine wAa (wpAny_seqItems hoa hda ?_);simp only[Int.toNat_natCast,hx];refine wAa (wpAny_setField ho hd (by simp) (wBa ⟨x,rfl,wBa (hQ _ ⟨_,vUa _ ho (Obj.isFreed_of_fields (Obj.data_mapFields hd _)),(Obj.cls_mapFields ..).trans hc,?_⟩ (Heap.SameBut.update ..))⟩));rw[Obj.data_mapFields hd];simp[rawInt]
def Wr(hh:A.handled=none)(hi:s.heap.IsTupleIter it a i)(ht:s.heap.IsTuple a its)(hx:its[i]?=none)
  (hE:∀h' e,Heap.ExtBut it s.heap h'->(∃o,h'.get? e=some o/\o.cls=.type "StopIteration")->E (.ref e) { s with heap:=h' }):wpAny (model prog w) A (Builtin.SmallTypes.nextOf (.ref it)) Q E s:=by
 obtain⟨o,ho,hc,hd⟩:=id hi;obtain⟨oa,hoa,_,na,hda⟩:=ht;unfold Builtin.SmallTypes.nextOf;refine wAa (wpAny_callSpecial?_slot (name:=Str.ofString "__next__") hi.typeIs F.slot_tuple_iterator_next (wpAny_call_entry F.slot_tuple_iterator_next hi.typeIs F.entry_tuple_iterator_next ?_ (F.args_tuple_iterator_next_1 _)));show wpAny _ _ (field (.ref it) 0 >>= _) _ _ s;refine wAa (wpAny_field ho hd (x:=.ref a) rfl ?_);show wpAny _ _ (if (Value.ref a==Value.none)=true then _ else _) _ _ s;have nn:¬((Value.ref a==Value.none)=true):=vNa;rw[if_neg nn];show wpAny _ _ (field (.ref it) 1 >>= _) _ _ s;refine wAa (wpAny_field ho hd (x:=.int i 0) rfl ?_);show wpAny _ _ (seqItems? (.ref a) >>= _) _ _ s;refine wAa (wpAny_seqItems hoa hda ?_);simp only[Int.toNat_natCast,hx];refine wAa (vQa (wAa (wpAny_setField ho hd (by simp) ?_)));show wpAny _ _ (newExc (.type "StopIteration") [] >>= _) _ _ _;refine wAa ?_;simp only[newExc,newTuple];refine wAa (vTa ?_ (by size_fits));refine wAa (m:=firstArgMember _ _) (wEa (a:=Value.none) (by first | rfl | (simp only[firstArgMember];rfl)) (vTa ?_ (by size_fits)));simp only[raiseNew];refine wAa (wpAny_handled ?_)
 first | rw[show A.in1.handled=none from hh] | rw[hh]
 exact wAa (wBa (wpAny_throw (hE _ _ (((Heap.SameBut.update ..).extBut.push _).push _) ⟨_,wJa _ rfl,rfl⟩)))
def UM{k:Sk}{Q:Tz}(hi:Jl k s.heap it a i)(ht:Jk k s.heap a its)(hx:its[i]?=some x)
  (hQ:∀h',Jl k h' it a (i+1)->Heap.SameBut it s.heap h'->Q x { s with heap:=h' }):wpAny (model prog w) A (Builtin.SmallTypes.nextOf (.ref it)) Q E s:=by
 cases k
 ·exact wpAny_nextOf_list_item hi ht hx hQ
 ·exact wW hi ht hx hQ
def Ws(hh:A.handled=none)(hi:Jl k s.heap it a i)(ht:Jk k s.heap a its)(hx:its[i]?=none)
  (hE:∀h' e,Heap.ExtBut it s.heap h'->(∃o,h'.get? e=some o/\o.cls=.type "StopIteration")->E (.ref e) { s with heap:=h' }):wpAny (model prog w) A (Builtin.SmallTypes.nextOf (.ref it)) Q E s:=by
 cases k
 ·exact wpAny_nextOf_list_end hh hi ht hx hE
 ·exact Wr hh hi ht hx hE
noncomputable def uD(k:Sk)(a:Addr):Obj:={ cls:=.type (match k with | .l => "list_iterator" | .t => "tuple_iterator"),data:=.fields #[.ref a,.int 0 0] }
def kU(e:h.get? it=some (uD k a)):Jl k h it a 0:=by
 cases k <;> exact⟨_,e,rfl,rfl⟩
def Qc(ht:Jk k s.heap a its)(hQ:Q (.ref s.heap.objs.size) { s with heap:=s.heap.push (uD k a) }):wpAny (model prog w) A (pyIter (.ref a)) Q E s:=by
 cases k
 ·exact wpAny_pyIter_list ht hQ
 ·exact wpAny_pyIter_tuple ht hQ
end
abbrev B7(k:Sk)(h:Heap)(a:Addr):Heap:=h.push (uD k a)
abbrev Xn(k j:Sk)(h:Heap)(a b:Addr):Heap:=(B7 k h a).push (uD j b)
abbrev B8(k j:Sk)(h:Heap)(a b:Addr):Heap:=(Xn k j h a b).push { cls:=.type "tuple",data:=.seq #[.ref h.objs.size,.ref (B7 k h a).objs.size] }
abbrev B9(k j:Sk)(h:Heap)(a b:Addr):Heap:=(B8 k j h a b).push { cls:=.type "tuple",data:=.seq #[.none,.none] }
abbrev Wt(k j:Sk)(h:Heap)(a b:Addr):Heap:=(B9 k j h a b).push { cls:=.type "zip",data:=.fields #[.none,.bool false,.bool false,.ref (Xn k j h a b).objs.size,.ref (B8 k j h a b).objs.size] }
def wX(k j:Sk)(a b:Addr)(xs ys:Array Value):
  Meets (Builtin.«zip.__new__» ⟨[.type "zip",.ref a,.ref b],[]⟩) (fun _ R s=>Jk k s.heap a xs/\Jk j s.heap b ys/\R (.ok (.ret (.ref (B9 k j s.heap a b).objs.size))) { s with heap:=Wt k j s.heap a b }):=
 .of_wp fun prog w A R s h=>by
  obtain⟨hp,g,d,tk,os⟩:=s;obtain⟨ha,hb,h⟩:=h;have hsub:=sub_zip;have ha':Jk k (Shared.heap ⟨hp,g,d,tk,os⟩) a xs:=ha;have hb':Jk j (Shared.heap ⟨hp.push (uD k a),g,d,tk,os⟩) b ys:=hb.at fun o e=>wIa _ e
  wp_walk using Qc ha',Qc hb'
  exact⟨_,rfl,h⟩
section
variable {prog:Program} {w:World} {A:Around} {E:Tz} {s:Shared}
def Ak(ha:Jk k s.heap a xs)(hb:Jk j s.heap b ys)
  (h:∀h',IsZip h' (s.heap.objs.size+4) (s.heap.objs.size+2) (s.heap.objs.size+3) .none->IsPair h' (s.heap.objs.size+2) (.ref s.heap.objs.size) (.ref (s.heap.objs.size+1))->
   IsPair h' (s.heap.objs.size+3) .none .none->Jl k h' s.heap.objs.size a 0->Jl j h' (s.heap.objs.size+1) b 0->
   (∀c o,s.heap.get? c=some o->h'.get? c=some o)->Q (.ref (s.heap.objs.size+4)) { s with heap:=h' }):
  wpAny (model prog w) A (call (.type "zip") [.ref a,.ref b]) Q E s:=by
 refine callType_new F.called_zip (by decide) (F.typeCall_zip_2 _ _) (F.newCall_zip_2 _ _) (fun obj=>F.args_object_init_3 obj _ _) F.entry_zip_new (wX k j a b xs ys) ⟨ha,hb,?_⟩;have z1:(B7 k s.heap a).objs.size=s.heap.objs.size+1:=Heap.size_push ..;have z2:(Xn k j s.heap a b).objs.size=s.heap.objs.size+2:=by rw[uPa,z1]
 have z3:(B8 k j s.heap a b).objs.size=s.heap.objs.size+3:=by rw[uPa,z2]
 have z4:(B9 k j s.heap a b).objs.size=s.heap.objs.size+4:=by rw[uPa,z3]
 have up:∀c o,(Xn k j s.heap a b).get? c=some o->(Wt k j s.heap a b).get? c=some o:=fun c o e=>wIa _ (wIa _ (wIa _ e));have g5:(Wt k j s.heap a b).get? (B9 k j s.heap a b).objs.size=some _:=wJa _ rfl;have g4:(Wt k j s.heap a b).get? (B8 k j s.heap a b).objs.size=some _:=wIa _ (wJa _ rfl);have g3:(Wt k j s.heap a b).get? (Xn k j s.heap a b).objs.size=some _:=wIa _ (wIa _ (wJa _ rfl));have g2:(Wt k j s.heap a b).get? (B7 k s.heap a).objs.size=some (uD j b):=up _ _ (wJa _ rfl);have g1:(Wt k j s.heap a b).get? s.heap.objs.size=some (uD k a):=up _ _ (wIa _ (wJa _ rfl));show _/\_;rw[z2,z3,z4]at g5;rw[z1,z2]at g3;rw[z3]at g4;rw[z1]at g2;rw[z4];exact⟨⟨_,g5,rfl⟩,h _ g5 g3 g4 (kU g1) (kU g2) fun c o x=>up c o (wIa _ (wIa _ x))⟩
variable {z TI TO i1 i2 a b:Addr} {k j:Sk} {n1 n2:Nat} {xs ys:Array Value} {x y:Value}
def Am{u v:Value}{Q:Tz}(D:ZipApart z TI TO i1 i2 a b)(hz:IsZip s.heap z TI TO .none)(hTI:IsPair s.heap TI (.ref i1) (.ref i2))(hTO:IsPair s.heap TO u v)
  (h1:Jl k s.heap i1 a n1) (h2:Jl j s.heap i2 b n2) (ha:Jk k s.heap a xs) (hb:Jk j s.heap b ys) (hx:xs[n1]?=some x) (hy:ys[n2]?=some y)
  (hQ:∀h',IsZip h' z TI TO (rawInt s.heap.objs.size)->IsPair h' TO x y->Jl k h' i1 a (n1+1)->Jl j h' i2 b (n2+1)->IsPair h' s.heap.objs.size x y->
   (∀c o,c≠z->c≠TO->c≠i1->c≠i2->s.heap.get? c=some o->h'.get? c=some o)->Q (.ref s.heap.objs.size) { s with heap:=h' }):
  wpAny (model prog w) A (Builtin.«zip.__next__» ⟨[.ref z],[]⟩) (fun fin s'=>∃v,fin=.done (.ret v)/\Q v s') E s:=by
 show wpAny _ _ (field (.ref z) 2 >>= _) _ _ _;refine wAa (wpAny_field hz rfl (x:=.bool false) rfl ?_);show wpAny _ _ (field (.ref z) 3 >>= _) _ _ _;refine wAa (wpAny_field hz rfl (x:=.ref TI) rfl (wAa (wpAny_seqItems hTI rfl ?_)));show wpAny _ _ (Builtin.SmallTypes.ownedTupleIsFree (.ref z) >>= _) _ _ _;refine wAa ?_;unfold Builtin.SmallTypes.ownedTupleIsFree;refine wAa (wpAny_field hz rfl (x:=.none) rfl (wBa ?_));simp only[if_true];refine wAa (vQa (wAa (wpAny_field hz rfl (x:=.ref TO) rfl (wAa (wpAny_setField_rec hz (by simp) fun g1 z1 s1=>?_)))))
 replace z1:IsZip g1 z TI TO .ellipsis:=z1
 refine wAa ?_;simp only[List.zipIdx_cons,List.zipIdx_nil,List.forIn_cons,List.forIn_nil];have e1:∀c o,c≠z->s.heap.get? c=some o->g1.get? c=some o:=fun c o hc e=>s1.extBut c o hc e;refine wAa (wAa (wpAny_onRaise ?_));show wpAny _ _ (Builtin.SmallTypes.nextOf (.ref i1) >>= _) _ _ _;refine wAa (UM (h1.at fun o e=>e1 _ o D.i1z e) (ha.at fun o e=>e1 _ o D.l1z e) hx fun g2 it2 s2=>wBa ?_);have e2:∀c o,c≠z->c≠i1->s.heap.get? c=some o->g2.get? c=some o:=fun c o hc hd e=>s2.extBut c o hd (e1 c o hc e);have t2:IsPair g2 TO u v:=e2 _ _ D.TOz D.TOi1 hTO;refine wAa (wpAny_seqItems t2 rfl (wAa (wpAny_updateSeq_pair t2 fun g3 t3 s3=>?_)))
 replace t3:IsPair g3 TO x v:=t3
 refine wAa (wFa (wBa (wAa (wAa (wpAny_onRaise ?_)))));have e3:∀c o,c≠z->c≠i1->c≠TO->s.heap.get? c=some o->g3.get? c=some o:=fun c o hc hd he e=>s3.extBut c o he (e2 c o hc hd e);show wpAny _ _ (Builtin.SmallTypes.nextOf (.ref i2) >>= _) _ _ _;refine wAa (UM (h2.at fun o e=>e3 _ o D.i2z D.i12.symm D.TOi2.symm e) (hb.at fun o e=>e3 _ o D.l2z D.l2i1 D.l2TO e) hy fun g4 it4 s4=>wBa ?_);have t4:IsPair g4 TO x v:=s4.extBut _ _ D.TOi2 t3;refine wAa (wpAny_seqItems t4 rfl (wAa (wpAny_updateSeq_pair t4 fun g5 t5 s5=>?_)))
 replace t5:IsPair g5 TO x y:=t5
 refine wAa (wFa (wBa (wBa (wAa (wpAny_seqItems t5 rfl (wAa (wpAny_newTuple ?_)))))));have sz:g5.objs.size=s.heap.objs.size:=by rw[s5.1,s4.1,s3.1,s2.1,s1.1]
 have z5:IsZip g5 z TI TO .ellipsis:=s5.extBut _ _ D.TOz.symm (s4.extBut _ _ D.i2z.symm (s3.extBut _ _ D.TOz.symm (s2.extBut _ _ D.i1z.symm z1)));have e5:∀c o,c≠z->c≠TO->c≠i1->c≠i2->s.heap.get? c=some o->g5.get? c=some o:=fun c o c1 c2 c3 c4 e=>s5.extBut _ _ c2 (s4.extBut _ _ c4 (e3 c o c1 c3 c2 e));have it5:Jl k g5 i1 a (n1+1):=((it2.at fun o e=>s3.extBut _ o D.TOi1.symm e).at fun o e=>s4.extBut _ o D.i12 e).at fun o e=>s5.extBut _ o D.TOi1.symm e;have jt5:Jl j g5 i2 b (n2+1):=it4.at fun o e=>s5.extBut _ o D.TOi2.symm e;have lz:z < g5.objs.size:=wLa z5;show wpAny _ _ (Builtin.SmallTypes.ownedTupleHandOut (.ref z) (.ref g5.objs.size) >>= _) _ _ _;refine wAa ?_;unfold Builtin.SmallTypes.ownedTupleHandOut;have z6:IsZip (g5.push { cls:=.type "tuple",data:=.seq #[x,y] }) z TI TO .ellipsis:=wIa _ z5;refine wAa (wpAny_setField_rec z6 (by simp) fun g7 z7 s7=>?_)
 replace z7:IsZip g7 z TI TO (rawInt g5.objs.size):=z7
 refine wpAny_setField_rec z7 (by simp) fun g8 z8 s8=>?_
 replace z8:IsZip g8 z TI TO (rawInt g5.objs.size):=z8
 have up:∀c o,c≠z->g5.get? c=some o->g8.get? c=some o:=fun c o c1 e=>s8.extBut _ _ c1 (s7.extBut _ _ c1 (wIa _ e));have t8:IsPair g8 g5.objs.size x y:=s8.extBut _ _ (Nat.ne_of_gt lz) (s7.extBut _ _ (Nat.ne_of_gt lz) (wJa _ rfl));rw[sz]at z8 t8;refine wBa ⟨_,rfl,?_⟩;show Q (.ref g5.objs.size) _;rw[sz];exact hQ g8 z8 (up _ _ D.TOz t5) (it5.at fun o e=>up _ o D.i1z e) (jt5.at fun o e=>up _ o D.i2z e) t8 fun c o c1 c2 c3 c4 e=>up c o c1 (e5 c o c1 c2 c3 c4 e)
theorem An{u v:Value}{Q:Fin->Shared->Prop}(hh:A.handled=none)(D:ZipApart z TI TO i1 i2 a b)(hz:IsZip s.heap z TI TO .none)(hTI:IsPair s.heap TI (.ref i1) (.ref i2))(hTO:IsPair s.heap TO u v)
  (h1:Jl k s.heap i1 a n1) (h2:Jl j s.heap i2 b n2) (ha:Jk k s.heap a xs) (hb:Jk j s.heap b ys) (hend:xs[n1]?=none \/ ys[n2]?=none)
  (hE:∀h' e,(∀c o,c≠z->c≠TO->c≠i1->c≠i2->s.heap.get? c=some o->h'.get? c=some o)->(∃o,h'.get? e=some o/\o.cls=.type "StopIteration")->E (.ref e) { s with heap:=h' }):
  wpAny (model prog w) A (Builtin.«zip.__next__» ⟨[.ref z],[]⟩) Q E s:=by
 show wpAny _ _ (field (.ref z) 2 >>= _) _ _ _;refine wAa (wpAny_field hz rfl (x:=.bool false) rfl ?_);show wpAny _ _ (field (.ref z) 3 >>= _) _ _ _;refine wAa (wpAny_field hz rfl (x:=.ref TI) rfl (wAa (wpAny_seqItems hTI rfl ?_)));show wpAny _ _ (Builtin.SmallTypes.ownedTupleIsFree (.ref z) >>= _) _ _ _;refine wAa ?_;unfold Builtin.SmallTypes.ownedTupleIsFree;refine wAa (wpAny_field hz rfl (x:=.none) rfl (wBa ?_));simp only[if_true];refine wAa (vQa (wAa (wpAny_field hz rfl (x:=.ref TO) rfl (wAa (wpAny_setField_rec hz (by simp) fun g1 z1 s1=>?_)))))
 replace z1:IsZip g1 z TI TO .ellipsis:=z1
 refine wAa ?_;simp only[List.zipIdx_cons,List.zipIdx_nil,List.forIn_cons,List.forIn_nil];have e1:∀c o,c≠z->s.heap.get? c=some o->g1.get? c=some o:=fun c o hc e=>s1.extBut c o hc e;refine wAa (wAa (wpAny_onRaise ?_));show wpAny _ _ (Builtin.SmallTypes.nextOf (.ref i1) >>= _) _ _ _;cases hx:xs[n1]? with
 | none=>
  refine wAa (Ws hh (h1.at fun o e=>e1 _ o D.i1z e) (ha.at fun o e=>e1 _ o D.l1z e) hx fun g2 e s2 he=>?_);obtain⟨oe,hoe,hce⟩:=he;have z2:IsZip g2 z TI TO .ellipsis:=s2 _ _ D.i1z.symm z1;have ez:e≠z:=fun q=>by subst q;rw[z2]at hoe;cases hoe;simp at hce
  exact wpAny_setField_rec z2 (by simp) fun g3 _ s3=>hE g3 e (fun c o c1 _ c3 _ q=>s3.extBut _ _ c1 (s2 _ _ c3 (e1 _ _ c1 q))) ⟨oe,s3.extBut _ _ ez hoe,hce⟩
 | some x=>
  have hy:ys[n2]?=none:=by
   rcases hend with q | q
   ·rw[hx]at q;cases q
   ·exact q
  refine wAa (UM (h1.at fun o e=>e1 _ o D.i1z e) (ha.at fun o e=>e1 _ o D.l1z e) hx fun g2 it2 s2=>wBa ?_);have e2:∀c o,c≠z->c≠i1->s.heap.get? c=some o->g2.get? c=some o:=fun c o hc hd e=>s2.extBut c o hd (e1 c o hc e);have t2:IsPair g2 TO u v:=e2 _ _ D.TOz D.TOi1 hTO;refine wAa (wpAny_seqItems t2 rfl (wAa (wpAny_updateSeq_pair t2 fun g3 t3 s3=>?_)));refine wAa (wFa (wBa (wAa (wAa (wpAny_onRaise ?_)))));have e3:∀c o,c≠z->c≠i1->c≠TO->s.heap.get? c=some o->g3.get? c=some o:=fun c o hc hd he e=>s3.extBut c o he (e2 c o hc hd e);show wpAny _ _ (Builtin.SmallTypes.nextOf (.ref i2) >>= _) _ _ _;refine wAa (Ws hh (h2.at fun o e=>e3 _ o D.i2z D.i12.symm D.TOi2.symm e) (hb.at fun o e=>e3 _ o D.l2z D.l2i1 D.l2TO e) hy fun g4 e s4 he=>?_);obtain⟨oe,hoe,hce⟩:=he;have z4:IsZip g4 z TI TO .ellipsis:=s4 _ _ D.i2z.symm (s3.extBut _ _ D.TOz.symm (s2.extBut _ _ D.i1z.symm z1));have ez:e≠z:=fun q=>by subst q;rw[z4]at hoe;cases hoe;simp at hce
  exact wpAny_setField_rec z4 (by simp) fun g5 _ s5=>hE g5 e (fun c o c1 c2 c3 c4 q=>s5.extBut _ _ c1 (s4 _ _ c4 (e3 c o c1 c3 c2 q))) ⟨oe,s5.extBut _ _ ez hoe,hce⟩
def xl{u v:Value}{Q:Option Value->Shared->Prop}(D:ZipApart z TI TO i1 i2 a b)(hz:IsZip s.heap z TI TO .none)(hTI:IsPair s.heap TI (.ref i1) (.ref i2))(hTO:IsPair s.heap TO u v)
  (h1:Jl k s.heap i1 a n1) (h2:Jl j s.heap i2 b n2) (ha:Jk k s.heap a xs) (hb:Jk j s.heap b ys) (hx:xs[n1]?=some x) (hy:ys[n2]?=some y)
  (hQ:∀h',IsZip h' z TI TO (rawInt s.heap.objs.size)->IsPair h' TO x y->Jl k h' i1 a (n1+1)->Jl j h' i2 b (n2+1)->IsPair h' s.heap.objs.size x y->
   (∀c o,c≠z->c≠TO->c≠i1->c≠i2->s.heap.get? c=some o->h'.get? c=some o)->Q (some (.ref s.heap.objs.size)) { s with heap:=h' }):
  wpAny (model prog w) A (pyNext (.ref z)) Q E s:=by
 have hT:s.TypeIs (.ref z) "zip" := ⟨_,hz,rfl⟩
 unfold pyNext;exact wAa (wpAny_attempt (wpAny_callSpecial?_slot (name:=Str.ofString "__next__") hT F.slot_zip_next (wpAny_call_entry F.slot_zip_next hT F.entry_zip_next
   (Am D hz hTI hTO h1 h2 ha hb hx hy fun h' a1 a2 a3 a4 a5 a6=>wBa (hQ h' a1 a2 a3 a4 a5 a6)) (F.args_zip_next_1 _))))
def Xo{u v:Value}{Q:Option Value->Shared->Prop}(hh:A.handled=none)(D:ZipApart z TI TO i1 i2 a b)(hz:IsZip s.heap z TI TO .none)(hTI:IsPair s.heap TI (.ref i1) (.ref i2))(hTO:IsPair s.heap TO u v)
  (h1:Jl k s.heap i1 a n1) (h2:Jl j s.heap i2 b n2) (ha:Jk k s.heap a xs) (hb:Jk j s.heap b ys) (hend:xs[n1]?=none \/ ys[n2]?=none)
  (hQ:∀h',(∀c o,c≠z->c≠TO->c≠i1->c≠i2->s.heap.get? c=some o->h'.get? c=some o)->Q none { s with heap:=h' }):wpAny (model prog w) A (pyNext (.ref z)) Q E s:=by
 have hT:s.TypeIs (.ref z) "zip" := ⟨_,hz,rfl⟩
 unfold pyNext;refine wAa (wpAny_attempt (wpAny_callSpecial?_slot (name:=Str.ofString "__next__") hT F.slot_zip_next (wpAny_call_entry F.slot_zip_next hT F.entry_zip_next (An hh D hz hTI hTO h1 h2 ha hb hend fun h' e hk he=>?_) (F.args_zip_next_1 _))));obtain⟨o,ho,hc⟩:=he;exact wAa (wpAny_isInstance (T := "StopIteration") (b:=true) ⟨o,ho,hc⟩ isSubtype_stop (wBa (hQ _ hk)))
end
def Inv.turnedL{t':Nat}{ch:List Addr}(I:Inv X pins U H s)(hch:∀b∈ch,Jj X pins H b)(k:∀c o,c∉ch->s.heap.get? c=some o->h'.get? c=some o):Inv X pins U H { s with heap:=h',toks:=t' }:=by
 have nit:∀b u,H b=some u->b∉ch:=fun b u e z=>by rw[(hch b z).1]at e;cases e
 refine I.step (g':=s.gens) (d':=s.drawn) (ch:=ch) (fun b hb=>?_) (fun b o _ _ hc e _=>k b o hc e) (fun b o _ _ hc e _=>⟨o.slots,k b o hc e⟩) (fun _ _ _ _ n=>n)
  (fun b o hc e=>⟨o,k b o hc e⟩) (fun _ _ e=>e) (fun _ _ _ e=>e) (fun b ps e=>⟨#[],by rw[e];simp⟩) (fun m hm=>?_) (fun b u e=>?_) I.bare
 ·obtain⟨f0,f1,f2,f3,f4,f5⟩:=hch b hb;exact⟨f3,f1,f4,f5⟩
 ·obtain⟨o,es,ep,ho,r⟩:=hm;exact⟨o,es,ep,k _ o (fun z=>(hch _ z).2.1 rfl) ho,r⟩
 ·refine(I.hok b u e).stay (fun c v hc q=>k c v ?_ q) (fun _ q=>q) fun _ _ q=>q;rcases hc with z | z
  ·rw[z];exact nit b u e
  ·exact nit c _ z
def Inv.tupled{t':Nat}{ch:List Addr}{T:Addr}{vs:List V}{us:List Value}(I:Inv X pins U H s)(hT:T=s.heap.objs.size)(hch:∀b∈ch,Jj X pins H b)(k:∀c o,c∉ch->s.heap.get? c=some o->h'.get? c=some o)
  (r:jq vs us) (hz:vs.length<=sizeLine) (ht:IsTup h' T us.toArray):Inv X pins U (upd H T (.tup vs)) { s with heap:=h',toks:=t' }:=by
 have nit:∀b u,H b=some u->b∉ch:=fun b u e z=>by rw[(hch b z).1]at e;cases e
 have nT:∀b o,s.heap.get? b=some o->b≠T:=fun b o e=>by rw[hT];exact wTa (wLa e)
 have fT:H T=none:=by rw[hT];exact I.hok.fresh (wPa _)
 refine I.step (g':=s.gens) (d':=s.drawn) (ch:=ch) (fun b hb=>?_) (fun b o _ _ hc e _=>k b o hc e) (fun b o _ _ hc e _=>⟨o.slots,k b o hc e⟩) (fun b o _ e n=>by rw[jr (nT b o e)];exact n)
  (fun b o hc e=>⟨o,k b o hc e⟩) (fun b xs e=>by rw[jr (jJ e fT)];exact e) (fun b o u e=>by rw[jr (jJ e fT)];exact e) (fun b ps e=>⟨#[],by rw[jr (jJ e fT),e];simp⟩) (fun m hm=>?_) (fun b u e=>?_) I.bare
 ·obtain⟨f0,f1,f2,f3,f4,f5⟩:=hch b hb;exact⟨f3,f1,f4,f5⟩
 ·obtain⟨o,es,ep,ho,r⟩:=hm;exact⟨o,es,ep,k _ o (fun z=>(hch _ z).2.1 rfl) ho,r⟩
 ·by_cases hb:b=T
  ·subst hb;rw[jS]at e;cases e;exact⟨hz,us,r,ht⟩
  ·rw[jr hb]at e;refine(I.hok b u e).stay (fun c v hc q=>k c v ?_ q) (fun c q=>by rw[jr (jJ q fT)];exact q) fun c xs q=>by rw[jr (jJ q fT)];exact q
   rcases hc with z | z
   ·rw[z];exact nit b u e
   ·exact nit c _ z
def Inv.seqK(I:Inv X pins U H s)(h:Uk X.K k H a xs):∃its:List Value,jq xs its/\Jk k s.heap a its.toArray/\xs.length<=sizeLine:=by
 cases k
 ·obtain⟨its,r,p,z⟩:=I.list h;exact⟨its,r,p.isList,z⟩
 ·obtain⟨its,r,p,z⟩:=I.tuple h;exact⟨its,r,p,z⟩
def Inv.seqK_inj(I:Inv X pins U H s)(h:Uk X.K k H a xs)(h':Uk X.K k H a ys):xs=ys:=by
 cases k
 ·exact I.list_inj h h'
 ·exact I.tuple_inj h h'
def UN:2<=sizeLine:=by decide
def iV(K:uXa)(k j:Sk)(a b:Addr):It:=
 ⟨fun i H=>∃xs ys x y,Uk K k H a xs/\Uk K j H b ys/\xs[i]?=some x/\ys[i]?=some y,
  fun i H v H'=>∃p,H p=none/\v=.ref p/\∀xs ys x y,Uk K k H a xs->Uk K j H b ys->xs[i]?=some x->ys[i]?=some y->H'=upd H p (.tup [x,y]),
  fun i H=>∃xs ys,Uk K k H a xs/\Uk K j H b ys/\(xs.length<=i \/ ys.length<=i)⟩
def Ao{P:Program}{w:World}{K:uXa}{es:List Expr}{x1:Nat}{tp:Pos}{k j:Sk}{a b z TI TO i1 i2:Addr}(D:ZipApart z TI TO i1 i2 a b):
  Turn P w K (.Tuple es x1 tp) (iV K k j a b) [z,TI,TO,i1,i2] z (fun i h=>IsZip h z TI TO .none/\IsPair h TI (.ref i1) (.ref i2)/\(∃u v,IsPair h TO u v)/\Jl k h i1 a i/\Jl j h i2 b i) where
 mem:=by simp
 obj:=fun i h st c hc=>by
  obtain⟨s1,s2,⟨u,v,s3⟩,s4,s5⟩:=st;simp only[List.mem_cons,List.not_mem_nil,or_false]at hc;rcases hc with rfl | rfl | rfl | rfl | rfl
  ·exact⟨_,s1,fun v z=>by cases z⟩
  ·exact⟨_,s2,fun v z=>by cases z⟩
  ·exact⟨_,s3,fun v z=>by cases z⟩
  ·exact s4.obj
  ·exact s5.obj
 keep:=fun i h h' st kk=>by
  obtain⟨s1,s2,⟨u,v,s3⟩,s4,s5⟩:=st;exact⟨kk z (by simp) _ s1,kk TI (by simp) _ s2,⟨u,v,kk TO (by simp) _ s3⟩,s4.at fun o e=>kk i1 (by simp) o e,s5.at fun o e=>kk i2 (by simp) o e⟩
 item:=by
  intro X hP hw hK hc i pins s U H E I hf st hg;subst hP hw hK;obtain⟨s1,s2,⟨u,v,s3⟩,s4,s5⟩:=st;obtain⟨xs,ys,x,y,qa,qb,ex,ey⟩:=hg;obtain⟨ia,ra,pa,_⟩:=I.seqK qa;obtain⟨ib,rb,pb,_⟩:=I.seqK qb;obtain⟨ux,eux,rx⟩:=ra.get ex;obtain⟨uy,euy,ry⟩:=rb.get ey;refine xl D s1 s2 s3 s4 s5 pa pb (x:=ux) (y:=uy) (by simpa using eux) (by simpa using euy) fun h' b1 b2 b3 b4 b5 bk=>?_;refine⟨_,rfl,wpAny_letOwnedTupleGo_zip b1 fun h2 c1 c2=>?_⟩;have F4:∀c∈[z,TO,i1,i2],Jj X pins H c:=fun c hc=>hf c (by
   simp only[List.mem_cons,List.not_mem_nil,or_false]at hc⊢;rcases hc with q | q | q | q
   ·exact .inl q
   ·exact .inr (.inr (.inl q))
   ·exact .inr (.inr (.inr (.inl q)))
   ·exact .inr (.inr (.inr (.inr q))))
  have kp:∀c o,c∉[z,TO,i1,i2]->s.heap.get? c=some o->h2.get? c=some o:=fun c o hc e=>by
   simp only[List.mem_cons,List.not_mem_nil,or_false,not_or]at hc;exact c2.extBut c o hc.1 (bk c o hc.1 hc.2.1 hc.2.2.1 hc.2.2.2 e)
  have nz:s.heap.objs.size≠z:=Nat.ne_of_gt (wLa s1);have ht:IsTup h2 s.heap.objs.size ([ux,uy]:List Value).toArray:=⟨_,c2.extBut _ _ nz b5,rfl,_,rfl⟩
  have I2:=I.tupled (t':=s.toks) (h':=h2) rfl F4 kp (vs:=[x,y]) (us:=[ux,uy]) (.cons rx (.cons ry .nil)) UN ht;refine⟨.ref s.heap.objs.size,_,I2,rfl,⟨s.heap.objs.size,I.hok.fresh (wPa _),rfl,fun xs' ys' x' y' qa' qb' ex' ey'=>?_⟩,⟨c1,kp _ _ (by simp[D.TIz,D.TITO,D.TIi1,D.TIi2]) s2,⟨ux,uy,c2.extBut _ _ D.TOz b2⟩,b3.at fun o e=>c2.extBut _ o D.i1z e,b4.at fun o e=>c2.extBut _ o D.i2z e⟩,fun c hc=>?_⟩
  ·rw[I.seqK_inj qa' qa,ex]at ex';rw[I.seqK_inj qb' qb,ey]at ey';cases ex';cases ey';rfl
  ·have q:=(hf c hc).1;rw[jr ?_]
   ·exact q
   ·intro e;have:c < s.heap.objs.size:=by
     simp only[List.mem_cons,List.not_mem_nil,or_false]at hc;rcases hc with rfl | rfl | rfl | rfl | rfl
     ·exact wLa s1
     ·exact wLa s2
     ·exact wLa s3
     ·obtain⟨o,e,_⟩:=s4.obj;exact wLa e
     ·obtain⟨o,e,_⟩:=s5.obj;exact wLa e
    rw[e]at this;exact wUa _ this
 done:=by
  intro X hP hw hK hc i pins s U H E I hf st hg;subst hP hw hK;obtain⟨s1,s2,⟨u,v,s3⟩,s4,s5⟩:=st;obtain⟨xs,ys,qa,qb,hend⟩:=hg;obtain⟨ia,ra,pa,_⟩:=I.seqK qa;obtain⟨ib,rb,pb,_⟩:=I.seqK qb;have la:=ra.length;have lb:=rb.length;have hend':ia.toArray[i]?=none \/ ib.toArray[i]?=none:=by
   rcases hend with q | q
   ·exact .inl (by simp;lia)
   ·exact .inr (by simp;lia)
  refine Xo (I.ok.hd hc) D s1 s2 s3 s4 s5 pa pb hend' fun h' bk=>⟨rfl,?_⟩
  refine I.turnedL (t':=s.toks) (ch:=[z,TI,TO,i1,i2]) hf fun c o hc e=>?_;simp only[List.mem_cons,List.not_mem_nil,or_false,not_or]at hc;exact bk c o hc.1 hc.2.2.1 hc.2.2.2.1 hc.2.2.2.2 e
 self:=fun _ _ _ _ _ st h=>wpAny_pyIter_zip st.1 h
def j7.tup{K:uXa}{H H':Hp}{a:Addr}{xs:List V}(e:j7 H H')(h:Jr K H a xs):Jr K H' a xs:=by
 rcases h with(h | ⟨o,h⟩) | h
 ·exact .inl (.inl (e _ _ h))
 ·exact .inl (.inr ⟨o,e _ _ h⟩)
 ·exact .inr h
def Ap(hc:X.calm=true):Yi X (.builtin "all") (fun xs H Q=>∃(p:Addr) (bs:List Bool),xs=[.ref p]/\jC X.K H p (bs.map V.bl)/\Q (.bl (bs.all id)) H):=by
 intro pins s U H xs us Q I r h;obtain⟨p,bs,e,hq,q⟩:=h;subst e;cases r with
 | cons r rr=>
  cases rr;cases r;obtain⟨its,rv,pl,hz⟩:=I.list hq;refine call_all_walk (wpAny_pyIter_list pl.isList ?_);have hp:p < s.heap.objs.size:=by obtain⟨o,ho,_⟩:=pl.isList;exact wLa ho
  have hlen:its.length=bs.length:=by have:=rv.length;simp at this;lia
  refine⟨s.heap.objs.size,_,_,_,_,_,fun i=>(bs[i]?).getD true,rfl,Walks.list (A:=X.A.in1) (I.ok.hd hc) s.heap.objs.size p (wTa hp) its.toArray,⟨⟨_,wJa _ rfl,rfl,rfl⟩,Heap.IsList.at pl.isList fun o e=>wIa _ e⟩,?_,fun h' tk hk=>?_⟩
  ·intro i v s' Q' E' hv hq';have hv:its[i]?=some v:=by simpa using hv
   have hi:i < bs.length:=by rw[<-hlen];exact(uSa hv).1
   obtain⟨u,eu,ru⟩:=rv.get (i:=i) (x:=V.bl bs[i]) (by simp[hi]);rw[hv]at eu;cases eu;cases ru;have e1:(bs[i]?).getD true=bs[i]:=by simp[hi]
   have hq':Q' ((bs[i]?).getD true) s':=hq';rw[e1]at hq';exact wpAny_truthy_bool hq'
  ·have e:((List.range its.toArray.size).all fun i=>(bs[i]?).getD true)=bs.all id:=by
    rw[uLa,hlen,Bool.eq_iff_iff];simp only[List.all_eq_true,List.mem_range,id];constructor
    ·intro hh x hx;obtain⟨i,hi,rfl⟩:=List.mem_iff_getElem.mp hx;have:=hh i hi;simpa[hi]using this
    ·intro hh i hi;have:=hh bs[i] (List.getElem_mem hi);simpa[hi]using this
   rw[e];have I':Inv X pins U H { s with heap:=h',toks:=tk }:=I.turnedL (t':=tk) (ch:=[s.heap.objs.size]) (fun b hb=>by
    have e:b=s.heap.objs.size:=by simpa using hb
    subst e;exact I.fpOk (wPa _) (I.hok.fresh (wPa _))) (fun c o hc' e'=>hk c o hc' (wIa _ e'))
   exact⟨.bl (bs.all id),H,I',rfl,q⟩
inductive Kd where
 | i | b | s | l | t
def eg(K:uXa)(H:Hp):V->Kd->Prop
 | .int _,.i=>True
 | .bl _,.b=>True
 | .str _,.s=>True
 | .ref a,.l=>∃xs,jC K H a xs
 | .ref a,.t=>∃xs,Jr K H a xs
 | _,_=>False
@[simp] noncomputable def Ul:Kd->Nat
 | .i=>0 | .b=>1 | .s=>2 | .l=>3 | .t=>4
def Wu(k:Kd)(T:String):Option Bool:=if T = "int" then some (Ul k==0||Ul k==1)else if T = "bool" then some (Ul k==1)else if T = "str" then some (Ul k==2)else if T = "list" then some (Ul k==3)else if T = "tuple" then some (Ul k==4)else none
def UO(h:Wu k T=some b):(T = "int" /\(Ul k==0||Ul k==1)=b) \/ (T = "bool" /\(Ul k==1)=b) \/ (T = "str" /\(Ul k==2)=b) \/ (T = "list" /\(Ul k==3)=b) \/ (T = "tuple" /\(Ul k==4)=b):=by
 unfold Wu at h;by_cases t1:T = "int"
 ·rw[if_pos t1]at h;exact .inl ⟨t1,vFa h⟩
 rw[if_neg t1]at h;by_cases t2:T = "bool"
 ·rw[if_pos t2]at h;exact .inr (.inl ⟨t2,vFa h⟩)
 rw[if_neg t2]at h;by_cases t3:T = "str"
 ·rw[if_pos t3]at h;exact .inr (.inr (.inl ⟨t3,vFa h⟩))
 rw[if_neg t3]at h;by_cases t4:T = "list"
 ·rw[if_pos t4]at h;exact .inr (.inr (.inr (.inl ⟨t4,vFa h⟩)))
 rw[if_neg t4]at h;by_cases t5:T = "tuple"
 ·rw[if_pos t5]at h;exact .inr (.inr (.inr (.inr ⟨t5,vFa h⟩)))
 rw[if_neg t5]at h;cases h
def eh(K:uXa):List V->Hp->VK->Prop:=fun xs H Q=>∃x T k b,xs=[x,.ty T]/\eg K H x k/\Wu k T=some b/\Q (.bl b) H
def Aq:Yi X (.builtin "isinstance") (eh X.K):=by
 intro pins s U H xs us Q I r h;obtain⟨x,T,k,b,e,hk,hb,q⟩:=h;subst e;cases r with
 | cons r rr=>
  cases rr with
  | cons r' rr=>
   cases rr;cases r';have fin:∀tk,EP X pins U Q (.bool b) { s with toks:=tk }:=fun tk=>⟨.bl b,H,I.tok tk,rfl,q⟩
   have fin0:EP X pins U Q (.bool b) s:=⟨.bl b,H,I,rfl,q⟩
   cases k with
   | i=>
    cases x <;> try exact hk.elim
    obtain⟨t,rfl⟩:=r;rcases UO hb with⟨rfl,rfl⟩ | ⟨rfl,rfl⟩ | ⟨rfl,rfl⟩ | ⟨rfl,rfl⟩ | ⟨rfl,rfl⟩
    all_goals (first | exact IsiPair.int_int fin0 | exact IsiPair.int_bool (fin _) | exact IsiPair.int_str (fin _) | exact IsiPair.int_list (fin _) | exact IsiPair.int_tuple (fin _))
   | b=>
    cases x <;> try exact hk.elim
    cases r;rcases UO hb with⟨rfl,rfl⟩ | ⟨rfl,rfl⟩ | ⟨rfl,rfl⟩ | ⟨rfl,rfl⟩ | ⟨rfl,rfl⟩
    all_goals (first | exact IsiPair.bool_int fin0 | exact IsiPair.bool_bool fin0 | exact IsiPair.bool_str (fin _) | exact IsiPair.bool_list (fin _) | exact IsiPair.bool_tuple (fin _))
   | s=>
    cases x <;> try exact hk.elim
    obtain⟨t,rfl⟩:=r;rcases UO hb with⟨rfl,rfl⟩ | ⟨rfl,rfl⟩ | ⟨rfl,rfl⟩ | ⟨rfl,rfl⟩ | ⟨rfl,rfl⟩
    all_goals (first | exact IsiPair.str_str fin0 | exact IsiPair.str_int (fin _) | exact IsiPair.str_bool (fin _) | exact IsiPair.str_list (fin _) | exact IsiPair.str_tuple (fin _))
   | l=>
    cases x <;> try exact hk.elim
    cases r;obtain⟨ys,hq⟩:=hk;obtain⟨its,rv,pl,_⟩:=I.list hq;obtain⟨o,ho,hc,_⟩:=pl.isList;rcases UO hb with⟨rfl,rfl⟩ | ⟨rfl,rfl⟩ | ⟨rfl,rfl⟩ | ⟨rfl,rfl⟩ | ⟨rfl,rfl⟩
    all_goals (first | exact IsiPair.list_list ho hc fin0 | exact IsiPair.list_int ho hc (fin _) | exact IsiPair.list_bool ho hc (fin _) | exact IsiPair.list_str ho hc (fin _) | exact IsiPair.list_tuple ho hc (fin _))
   | t=>
    cases x <;> try exact hk.elim
    cases r;obtain⟨ys,hq⟩:=hk;obtain⟨its,rv,pl,_⟩:=I.tuple hq;obtain⟨o,ho,hc,_⟩:=pl;rcases UO hb with⟨rfl,rfl⟩ | ⟨rfl,rfl⟩ | ⟨rfl,rfl⟩ | ⟨rfl,rfl⟩ | ⟨rfl,rfl⟩
    all_goals (first | exact IsiPair.tuple_tuple ho hc fin0 | exact IsiPair.tuple_int ho hc (fin _) | exact IsiPair.tuple_bool ho hc (fin _) | exact IsiPair.tuple_str ho hc (fin _) | exact IsiPair.tuple_list ho hc (fin _))
def C2(r r' r'':R2)(ta tb tc td:TE):TE:=fun U H Q=>ta U H fun x H1=>tb U H1 fun y H2=>r x y H2 fun z H3=>∃k,z=.bl k/\
 (if k=true then tc U H3 fun w' H4=>r' y w' H4 fun z' H5=>∃k',z'=.bl k'/\(if k'=true then td U H5 fun q H6=>r'' w' q H6 Q else Q (.bl false) H5)else Q (.bl false) H3)
theorem Xp(ho:j_ X (compareOp op) r)(ho':j_ X (compareOp op') r')(ho'':j_ X (compareOp op'') r'')(ha:PE X a ta)(hb:PE X b tb)(hc:PE X c tc)(hd:PE X d td)
  (hm:lastMarks [op,op',op''] [b,c,d]=false:=by with_unfolding_all rfl):PE X (.Compare a [op,op',op''] [b,c,d] pos) (C2 r r' r'' ta tb tc td):=by
 intro pins s U H Q I h;refine Compare_chain (ju (ha pins s U H _ I h) fun v s1 ⟨x,H1,I1,r1,q1⟩=>chain_link (ju (hb pins s1 U H1 _ I1 q1) fun u s2 ⟨y,H2,I2,r2,q2⟩=>
  ju (ho pins s2 U H2 x y v u _ I2 r1 r2 q2) fun _ s3 ⟨z,H3,I3,r3,k,e,q3⟩=>?_)) hm
 subst e;cases r3;refine wpAny_truthy_bool ?_;cases k with
 | false=>exact ite_ff ⟨.bl false,H3,I3,rfl,q3⟩
 | true=>
  refine ite_tt (chain_link (ju (hc pins s3 U H3 _ I3 q3) fun w' s4 ⟨z',H4,I4,r4,q4⟩=>ju (ho' pins s4 U H4 y z' u w' _ I4 r2 r4 q4) fun _ s5 xx=>?_));obtain⟨z5,H5,I5,r5,k5,e5,q5⟩:=xx;subst e5;cases r5;refine wpAny_truthy_bool ?_;cases k5 with
  | false=>exact ite_ff ⟨.bl false,H5,I5,rfl,q5⟩
  | true=>exact ite_tt (chain_last (ju (hd pins s5 U H5 _ I5 q5) fun w6 s6 ⟨z6,H6,I6,r6,q6⟩=>ho'' pins s6 U H6 z' z6 w' w6 Q I6 r4 r6 q6))
section
open PySem.SeqAt
end
structure FnI (P:Program) (w:World) (K:uXa) (mg:Tx) (base:Heap) (k:Nat) (x:Str) (ps:List Str) (sp:Sp):Prop where
 ex:∃f fd,FnOk P w K mg base Yj k f fd ps sp/\zG K fd ps []/\PySem.W.keepIn K (.ref f)=true/\mg x=some (.ref f)
structure MtI (P:Program) (w:World) (K:uXa) (mg:Tx) (base:Heap) (k:Nat) (C:Addr) (m:Str) (ps:List Str) (sp:Sp):Prop where
 ex:∃f fd,FnOk P w K mg base Yj k f fd ps sp/\zG K fd ps []/\Meth K C m f
structure MkI (P:Program) (w:World) (K:uXa) (mg:Tx) (base:Heap) (k:Nat) (C:Addr) (x:Str) (ps:List Str) (sp:Sp):Prop where
 ex:∃f fd,FnOk P w K mg base Yj k f fd ps sp/\zG K fd ps []/\Mk K C f/\mg x=some (.ref C)
def xm(F:FnI X.prog X.w X.K X.mg X.base k x ps sp)(hr:Room k X.A)(ha:PA X (e::es) t)(hg:Gl X x:=by rfl)(hdb:(x==("__debug__" : Str))=false:=by decide)
  (he:starEach (e::es) X.env=(false,eval e X.env)::starEach es X.env:=by rfl) (hpl:(backTo pos (starEach es X.env)).any (·.1)=false:=by rfl):PE X (.Call (.Name x p) (e::es) [] pos) (bX sp [] E0 t):=by
 obtain⟨f,fd,G,b,kp,hm⟩:=F.ex;exact cJ G hr hg hm kp b .nil xk ha hdb he hpl
def eA(he:PE X o ta)(c:Cls X.K C)(M:MtI X.prog X.w X.K X.mg X.base k C m ps sp)(hr:Room k X.A)
  (ht:eval (.Call (.Attribute o m apos) [] [] pos) X.env=(do
   let ov<-eval o X.env
   standAt apos.atName
   let (f,first)<-holding [ov] (getMethod ov m pl)
   callWith pos f first (backTo pos (starEach [] X.env)) (backToKw pos (keywordEach [] X.env))):=by rfl):
  PE X (.Call (.Attribute o m apos) [] [] pos) (bZ C m sp [] E0 ta UH):=by
 obtain⟨f,fd,G,b,hm⟩:=M.ex;exact Ad he c hm G hr b .nil xk ht
def FX(M:MkI X.prog X.w X.K X.mg X.base k C x ps sp)(hr:Room (k+1) X.A)(ha:PA X (e::es) t)(hg:Gl X x:=by rfl)(hdb:(x==("__debug__" : Str))=false:=by decide)
  (he:starEach (e::es) X.env=(false,eval e X.env)::starEach es X.env:=by rfl) (hpl:(backTo pos (starEach es X.env)).any (·.1)=false:=by rfl):PE X (.Call (.Name x p) (e::es) [] pos) (b_ C sp [] E0 t):=by
 obtain⟨f,fd,G,b,mk,hm⟩:=M.ex;exact cK mk G hr hg hm b .nil xk ha hdb he hpl
def eB(ho:PE X o ta)(ha:PA X [e] t)(hbase:attributeBase o "append" X.env (eval o X.env)=eval o X.env:=by rfl)
  (hfew:((backTo pos (starEach [e] X.env)).all (fun x=>!x.1)&&(backToKw pos (keywordEach [] X.env)).all (fun x=>x.1.isSome)
   && decide (([e]:List Expr).length+([]:List Keyword).length+(if ([]:List Keyword).isEmpty then 0 else 1) < 30))=true:=by rfl)
  (hline:(apos.endLine==pos.line)=true:=by rfl) (hs:starEach [e] X.env=(false,eval e X.env)::starEach [] X.env:=by rfl) (hplain:(backTo pos (starEach [] X.env)).any (·.1)=false:=by rfl):
  PE X (.Call (.Attribute o "append" apos) [e] [] pos) (Xh X.K "list" gY ta t):=
 B6 PySem.F.plainAttrs_list PySem.F.slot_list_append PySem.F.type_list_append Xi ho ha hbase hfew hline hs hplain
def Lp(hm:∃t,X.mg x=some (.int i t))(hg:Gl X x:=by rfl)(hd:(x==("__debug__" : Str))=false:=by decide):PE X (.Name x pos) (tC (.int i)):=by
 obtain⟨t,h⟩:=hm;exact ck hg h ⟨t,rfl⟩ hd
def jB(h:H p=none)(o:HO):j7 H (upd H p o):=fun b u q=>by rw[jr (jJ q h)];exact q
def j7.upd(s:j7 H0 H)(h:H0 p=none)(o:HO):j7 H0 (upd H p o):=fun b u q=>by rw[jr (jJ q h)];exact s b u q
def j7.none(s:j7 H H')(h:H' p=Option.none):H p=Option.none:=s.free h
def FY(h:n<=1000):n<=sizeLine:=wQa (Xl h)
noncomputable abbrev T3:=Int×Int×Int
noncomputable def Lq:HO->Bool
 | .tup _=>true
 | .frz _ (.tup _)=>true
 | _=>false
def xn(H H':Hp):Prop:=∀b o,Lq o=true->H b=some o->H' b=some o
def xn.sqT{K:uXa}{H H':Hp}{a:Addr}{xs:List V}(k:xn H H')(h:Jr K H a xs):Jr K H' a xs:=by
 rcases h with(h | ⟨o,h⟩) | h
 ·exact .inl (.inl (k _ _ rfl h))
 ·exact .inl (.inr ⟨o,k _ _ rfl h⟩)
 ·exact .inr h
def iW(K:uXa)(a:Addr):It:=
 ⟨fun i H=>∃xs x,jC K H a xs/\xs[i]?=some x,fun i H v H'=>∃p,H p=none/\v=.ref p/\∀xs x,jC K H a xs->xs[i]?=some x->H'=upd H p (.tup [.int i,x]),fun i H=>∃xs,jC K H a xs/\xs.length<=i⟩
def Xq{P:Program}{w:World}{K:uXa}{es:List Expr}{x1:Nat}{tp:Pos}{a e it:Addr}(hei:e≠it)(hle:a≠e)(hli:a≠it):
  Turn P w K (.Tuple es x1 tp) (iW K a) [e,it] e (fun i h=>(∃old,IsEnum h e it (i:Nat) old)/\h.IsListIter it a i) where
 mem:=by simp
 obj:=fun i h st c hc=>by
  obtain⟨⟨old,s1⟩,s2⟩:=st;simp only[List.mem_cons,List.not_mem_nil,or_false]at hc;rcases hc with rfl | rfl
  ·exact⟨_,s1,fun v z=>by cases z⟩
  ·obtain⟨o,ho,_,d⟩:=s2;exact⟨o,ho,fun v z=>by rw[d]at z;cases z⟩
 keep:=fun i h h' st kk=>by
  obtain⟨⟨old,s1⟩,s2⟩:=st;exact⟨⟨old,kk e (by simp) _ s1⟩,s2.at fun o z=>kk it (by simp) o z⟩
 item:=by
  intro X hP hw hK hc i pins s U H E I hf st hg;subst hP hw hK;obtain⟨⟨old,s1⟩,s2⟩:=st;obtain⟨xs,x,qa,ex⟩:=hg;obtain⟨ia,ra,pa,_⟩:=I.list qa;obtain⟨ux,eux,rx⟩:=ra.get ex;refine wpAny_pyNext_enum_item s1 s2 pa.isList (x:=ux) (by simpa using eux) hei fun h' b1 b2 b3 b4 bk=>?_;refine⟨_,rfl,wpAny_letOwnedTupleGo_enum b1 fun h2 c1 c2=>?_⟩;have lt1:e < s.heap.objs.size:=wLa s1;have lt2:it < s.heap.objs.size:=by obtain⟨o,ho,_⟩:=s2;exact wLa ho
  have kp:∀c o,c∉[e,it]->s.heap.get? c=some o->h2.get? c=some o:=fun c o hc z=>by
   simp only[List.mem_cons,List.not_mem_nil,or_false,not_or]at hc;exact c2.extBut c o hc.1 (bk c o hc.1 hc.2 z)
  have ht:IsTup h2 s.heap.objs.size ([.int i s.toks,ux]:List Value).toArray:=⟨_,c2.extBut _ _ (Nat.ne_of_gt lt1) b3,rfl,_,rfl⟩
  have I2:=I.tupled (t':=s.toks+1) (h':=h2) rfl hf kp (vs:=[.int i,x]) (us:=[.int i s.toks,ux]) (.cons ⟨_,rfl⟩ (.cons rx .nil)) UN ht;refine⟨.ref s.heap.objs.size,_,I2,rfl,⟨s.heap.objs.size,I.hok.fresh (wPa _),rfl,fun xs' x' qa' ex'=>?_⟩,⟨⟨ux,by simpa using c1⟩,b2.at fun o z=>c2.extBut _ o hei.symm z⟩,fun c hc=>?_⟩
  ·rw[I.list_inj qa' qa,ex]at ex';cases ex';rfl
  ·have q:=(hf c hc).1;rw[jr ?_]
   ·exact q
   ·intro z;simp only[List.mem_cons,List.not_mem_nil,or_false]at hc;rcases hc with rfl | rfl
    ·rw[z]at lt1;exact wUa _ lt1
    ·rw[z]at lt2;exact wUa _ lt2
 done:=by
  intro X hP hw hK hc i pins s U H E I hf st hg;subst hP hw hK;obtain⟨⟨old,s1⟩,s2⟩:=st;obtain⟨xs,qa,hend⟩:=hg;obtain⟨ia,ra,pa,_⟩:=I.list qa;have la:=ra.length;refine wpAny_pyNext_enum_end (I.ok.hd hc) s1 s2 pa.isList (by simp;lia) fun h' bk=>⟨rfl,?_⟩
  refine I.turnedL (t':=s.toks) (ch:=[e,it]) hf fun c o hc z=>?_;simp only[List.mem_cons,List.not_mem_nil,or_false,not_or]at hc;exact bk c o hc.2 z
 self:=fun _ _ _ _ _ st h=>by
  obtain⟨⟨old,s1⟩,s2⟩:=st;exact wpAny_pyIter_enum s1 h
def Xr:bootBuiltins "enumerate" = some (.type "enumerate"):=by decide +kernel
def FZ(K:uXa)(ta:TA):TI:=fun U H R=>ta U H fun vs H1=>∃a xs,vs=[.ref a]/\jC K H1 a xs/\R (iW K a) H1
def C3{X:Cx}{es:List Expr}{x1:Nat}{tp:Pos}{e1:Expr}{ta:TA}{p pos:Pos}(hg:Gl X "enumerate")(hm:X.mg "enumerate" = none)(ha:PA X [e1] ta)(hs:starEach [e1] X.env=[(false,eval e1 X.env)]:=by rfl):
  PI X (.Tuple es x1 tp) (.Call (.Name "enumerate" p) [e1] [] pos) (FZ X.K ta):=by
 intro pins s U H R I h;refine Call_ (ZH I hg hm Xr (PyProof.Rows.callWith_type1 (ju (ha pos pins s U H _ I h) fun us s1 xx=>?_) hs rfl));obtain⟨vs,H1,I1,r1,q1⟩:=xx;obtain⟨a,xs,e,qa,q⟩:=q1;subst e;cases r1 with
 | cons r rr=>
  cases rr;cases r;obtain⟨ia,ra,pa,_⟩:=I1.list qa;have lt:a < s1.heap.objs.size:=by obtain⟨o,ho,_⟩:=pa.isList;exact wLa ho
  refine call_enumerate_list pa.isList fun h' b1 b2 b3 bk=>?_;refine wpAny_pyIter_enum b1 ?_;have fr:∀m,Jj X pins H1 (s1.heap.objs.size+m):=fun m=>I1.fpOk (vKa _ _) (I1.hok.fresh (vKa _ _));refine⟨_,_,_,_,H1,rfl,I1.kept (t':=s1.toks) bk,Xq (a:=a) (e:=s1.heap.objs.size+1) (it:=s1.heap.objs.size) (Nat.ne_of_gt (Nat.lt_succ_self _)) (wTa (Nat.lt_succ_of_lt lt)) (wTa lt),⟨⟨_,b1⟩,b2⟩,fun c hc=>?_,q⟩;simp only[List.mem_cons,List.not_mem_nil,or_false]at hc;rcases hc with rfl | rfl
  ·exact fr 1
  ·exact fr 0
end L2
namespace DS
open L2
set_option genSizeOf true in
inductive D where
 | non | bl (b:Bool) | int (i:Int) | str (x:Str) | tup (l:List D) | lst (l:List D) | ins (C:Addr) (ns:List Str) (ds:List D) | scr (ns:List Int) | dct (ks vs:List D) | sz (n:Nat)
mutual
noncomputable def yW:D->Option KD
 | .int n=>some (.i n)
 | .bl b=>some (.i (if b then 1 else 0))
 | .str x=>some (.s x)
 | .tup l=>(zd l).bind fun ks=>some (.t ks)
 | _=>none
noncomputable def zd:List D->Option (List KD)
 | []=>some []
 | d::ds=>(yW d).bind fun k=>(zd ds).bind fun ks=>some (k::ks)
end
def J8:D->Option KD
 | .tup l=>(yW (.tup l)).bind fun k=>if k.dep<=8 then some k else none
 | _=>none
def jI:List D->Option (List KD)
 | []=>some []
 | d::ds=>(J8 d).bind fun k=>(jI ds).bind fun ks=>some (k::ks)
mutual
noncomputable def j8(K:uXa)(H:Hp):D->V->Prop
 | .non,v=>v=.non
 | .bl b,v=>v=.bl b
 | .int i,v=>v=.int i
 | .str x,v=>v=.str x
 | .tup l,v=>∃a xs,v=.ref a/\Jr K H a xs/\j4 K H l xs
 | .lst l,v=>∃a xs,v=.ref a/\H a=some (.lst xs)/\j4 K H l xs
 | .scr ns,v=>∃a,v=.ref a/\jC K H a (ns.map V.int)
 | .ins C ns l,v=>∃a dx xs,v=.ref a/\H a=some (.ins C dx (ns.zip xs))/\ns.length=xs.length/\j4 K H l xs
 | .dct ks vs,v=>∃a kvs ep,v=.ref a/\H a=some (.dD kvs ep)/\jI ks=some (kvs.map (·.1))/\j4 K H ks (kvs.map fun p=>V.ref p.2.1)/\j4 K H vs (kvs.map (·.2.2))
 | .sz n,v=>∃a kas,v=.ref a/\H a=some (.ext (yj a kas))/\kas.length=n
noncomputable def j4(K:uXa)(H:Hp):List D->List V->Prop
 | [],vs=>vs=[]
 | d::ds,vs=>∃v r,vs=v::r/\j8 K H d v/\j4 K H ds r
end
mutual
theorem j8.same{K:uXa}{H H':Hp}(e:j7 H H'):∀{d:D} {v:V},j8 K H d v->j8 K H' d v
 | .non,_,h=>h
 | .bl _,_,h=>h
 | .int _,_,h=>h
 | .str _,_,h=>h
 | .tup l,_,h=>by
  rw[j8]at h⊢;obtain⟨a,xs,rfl,q,r⟩:=h;exact⟨a,xs,rfl,e.tup q,j4.same e r⟩
 | .lst l,_,h=>by
  rw[j8]at h⊢;obtain⟨a,xs,rfl,q,r⟩:=h;exact⟨a,xs,rfl,e _ _ q,j4.same e r⟩
 | .scr ns,_,h=>by
  rw[j8]at h⊢;obtain⟨a,rfl,q⟩:=h;exact⟨a,rfl,e.seq q⟩
 | .ins C ns l,_,h=>by
  rw[j8]at h⊢;obtain⟨a,dx,xs,rfl,q,n,r⟩:=h;exact⟨a,dx,xs,rfl,e _ _ q,n,j4.same e r⟩
 | .dct ks vs,_,h=>by
  rw[j8]at h⊢;obtain⟨a,kvs,ep,rfl,q,n,r1,r2⟩:=h;exact⟨a,kvs,ep,rfl,e _ _ q,n,j4.same e r1,j4.same e r2⟩
 | .sz n,_,h=>by
  rw[j8]at h⊢;obtain⟨a,kas,rfl,q,n⟩:=h;exact⟨a,kas,rfl,e _ _ q,n⟩
theorem j4.same{K:uXa}{H H':Hp}(e:j7 H H'):∀{ds:List D} {vs:List V},j4 K H ds vs->j4 K H' ds vs
 | [],_,h=>h
 | d::ds,_,h=>by
  rw[j4]at h⊢;obtain⟨v,r,rfl,a,b⟩:=h;exact⟨v,r,rfl,j8.same e a,j4.same e b⟩
end
section
variable {K:uXa} {H:Hp}
theorem j4.len:∀{ds:List D} {vs:List V},j4 K H ds vs->vs.length=ds.length
 | [],_,h=>by rw[j4]at h;subst h;rfl
 | d::ds,_,h=>by
  rw[j4]at h;obtain⟨v,r,rfl,a,b⟩:=h;rw[vXa,vXa,j4.len b]
theorem j4.get:∀{ds:List D} {vs:List V} {i:Nat} {d:D},j4 K H ds vs->ds[i]?=some d->∃v,vs[i]?=some v/\j8 K H d v
 | [],_,_,_,h,e=>by simp at e
 | d::ds,_,0,_,h,e=>by
  rw[j4]at h;obtain⟨v,r,rfl,a,b⟩:=h;simp at e;subst e;exact⟨v,rfl,a⟩
 | d::ds,_,i+1,d',h,e=>by
  rw[j4]at h;obtain⟨v,r,rfl,a,b⟩:=h;obtain⟨v',e',q⟩:=j4.get (i:=i) b (by simpa using e);exact⟨v',by simpa using e',q⟩
def j4.nil:j4 K H [] []:=by rw[j4]
def j4.cons{d:D}{ds:List D}{v:V}{vs:List V}(a:j8 K H d v)(b:j4 K H ds vs):j4 K H (d::ds) (v::vs):=by rw[j4];exact⟨v,vs,rfl,a,b⟩
theorem j4.app:∀{ds es:List D} {vs us:List V},j4 K H ds vs->j4 K H es us->j4 K H (ds++es) (vs++us)
 | [],_,_,_,h,g=>by rw[j4]at h;subst h;exact g
 | d::ds,es,_,us,h,g=>by
  rw[j4]at h;obtain⟨u,r,rfl,a,b⟩:=h;exact j4.cons a (j4.app b g)
def j4.snoc(h:j4 K H ds vs)(q:j8 K H d v):j4 K H (ds++[d]) (vs++[v]):=h.app (j4.cons q j4.nil)
theorem j4.drop:∀{ds:List D} {vs:List V} (n:Nat),j4 K H ds vs->j4 K H (ds.drop n) (vs.drop n)
 | _,_,0,h=>h
 | [],_,n+1,h=>by rw[j4]at h;subst h;exact j4.nil
 | d::ds,_,n+1,h=>by
  rw[j4]at h;obtain⟨u,r,rfl,a,b⟩:=h;exact j4.drop n b
theorem j4.take:∀{ds:List D} {vs:List V} (n:Nat),j4 K H ds vs->j4 K H (ds.take n) (vs.take n)
 | _,_,0,h=>j4.nil
 | [],_,n+1,h=>by rw[j4]at h;subst h;exact j4.nil
 | d::ds,_,n+1,h=>by
  rw[j4]at h;obtain⟨u,r,rfl,a,b⟩:=h;exact j4.cons a (j4.take n b)
theorem j4.set{d:D}{v:V}(q:j8 K H d v):∀{ds:List D} {vs:List V} (n:Nat),j4 K H ds vs->j4 K H (ds.set n d) (vs.set n v)
 | [],_,n,h=>by rw[j4]at h;subst h;exact j4.nil
 | e::ds,_,0,h=>by
  rw[j4]at h;obtain⟨u,r,rfl,a,b⟩:=h;exact j4.cons q b
 | e::ds,_,n+1,h=>by
  rw[j4]at h;obtain⟨u,r,rfl,a,b⟩:=h;exact j4.cons a (j4.set q n b)
end
noncomputable def jd(H:Hp)(O:List Addr):Hp:=fun b=>if b∈O then none else H b
def G1(h:b∈O):jd H O b=none:=if_pos h
def J3(h:b∉O):jd H O b=H b:=if_neg h
def Js(h:jd H O b=some o):b∉O/\H b=some o:=by
 by_cases hb:b∈O
 ·rw[G1 hb]at h;cases h
 ·rw[J3 hb]at h;exact⟨hb,h⟩
def Jx:j7 (jd H O) H:=fun b o h=>(Js h).2
def Jo(s:∀a∈O',a∈O):j7 (jd H O) (jd H O'):=fun b o h=>by
 obtain⟨h1,h2⟩:=Js h;rw[J3 (fun z=>h1 (s b z))];exact h2
def ji(s:j7 H H'):j7 (jd H O) (jd H' O):=fun b o h=>by
 obtain⟨h1,h2⟩:=Js h;rw[J3 h1];exact s _ _ h2
def yt(s:j7 H H')(hl:H l=none):j7 (jd H O) (jd H' (l::O)):=fun b o h=>by
 obtain⟨h1,h2⟩:=Js h;have ne:b≠l:=jJ h2 hl;rw[J3 (by intro z;rcases List.mem_cons.mp z with z | z;exact ne z;exact h1 z)];exact s _ _ h2
def JC(h:l∈O):jd (upd H l o) O=jd H O:=by
 funext b;by_cases hb:b∈O
 ·rw[G1 hb,G1 hb]
 ·rw[J3 hb,J3 hb,jr (fun e=>hb (by rw[e];exact h))]
inductive OD where
 | lst (ds:List D) | ins (C:Addr) (ns:List Str) (ds:List D) | dct (ks vs:List D) | sz (n:Nat)
@[simp] noncomputable def OD.toD:OD->D
 | .lst ds=>.lst ds
 | .ins C ns ds=>.ins C ns ds
 | .dct ks vs=>.dct ks vs
 | .sz n=>.sz n
def JL(K:uXa)(H Hd:Hp)(l:Addr):OD->Prop
 | .lst ds=>∃vs,H l=some (.lst vs)/\j4 K Hd ds vs
 | .ins C ns ds=>∃dx vs,H l=some (.ins C dx (ns.zip vs))/\ns.length=vs.length/\j4 K Hd ds vs
 | .dct ks vs=>∃kvs ep,H l=some (.dD kvs ep)/\jI ks=some (kvs.map (·.1))/\j4 K Hd ks (kvs.map fun p=>V.ref p.2.1)/\j4 K Hd vs (kvs.map (·.2.2))
 | .sz n=>∃kas,H l=some (.ext (yj l kas))/\kas.length=n
def JL.same{K:uXa}{H H' Hd Hd':Hp}{l:Addr}{o:OD}(s:∀u,H l=some u->H' l=some u)(sd:j7 Hd Hd')(h:JL K H Hd l o):JL K H' Hd' l o:=by
 cases o with
 | lst ds=>obtain⟨vs,a,b⟩:=h;exact⟨vs,s _ a,b.same sd⟩
 | ins C ns ds=>obtain⟨dx,vs,a,n,b⟩:=h;exact⟨dx,vs,s _ a,n,b.same sd⟩
 | dct ks vs=>obtain⟨kvs,ep,a,n,b,c⟩:=h;exact⟨kvs,ep,s _ a,n,b.same sd,c.same sd⟩
 | sz n=>obtain⟨kas,a,n⟩:=h;exact⟨kas,s _ a,n⟩
def JL.there{K:uXa}{H Hd:Hp}{l:Addr}{o:OD}(h:JL K H Hd l o):H l≠none:=by
 cases o with
 | lst ds=>obtain⟨vs,a,b⟩:=h;rw[a];exact fun z=>nomatch z
 | ins C ns ds=>obtain⟨dx,vs,a,n,b⟩:=h;rw[a];exact fun z=>nomatch z
 | dct ks vs=>obtain⟨kvs,ep,a,n,b⟩:=h;rw[a];exact fun z=>nomatch z
 | sz n=>obtain⟨kas,a,n⟩:=h;rw[a];exact fun z=>nomatch z
def JL.rep{K:uXa}{H Hd:Hp}{l:Addr}{o:OD}(s:∀u,H l=some u->Hd l=some u)(h:JL K H Hd l o):j8 K Hd o.toD (.ref l):=by
 cases o with
 | lst ds=>obtain⟨vs,a,b⟩:=h;show j8 K Hd (.lst ds) _;rw[j8];exact⟨l,vs,rfl,s _ a,b⟩
 | ins C ns ds=>obtain⟨dx,vs,a,n,b⟩:=h;show j8 K Hd (.ins C ns ds) _;rw[j8];exact⟨l,dx,vs,rfl,s _ a,n,b⟩
 | dct ks vs=>obtain⟨kvs,ep,a,n,b,c⟩:=h;show j8 K Hd (.dct ks vs) _;rw[j8];exact⟨l,kvs,ep,rfl,s _ a,n,b,c⟩
 | sz n=>obtain⟨kas,a,n⟩:=h;show j8 K Hd (.sz _) _;rw[j8];exact⟨l,kas,rfl,s _ a,n⟩
inductive Sl where
 | un
 | cl (d:D)
 | bo (d:D)
 | ow (q:Option Addr) (o:OD)
 | lo (ls:List (List D))
noncomputable abbrev jg:=List Sl
def RB(K:uXa)(O:List Addr)(H:Hp)(d:D)(v:V):Prop:=j8 K (jd H O) d v \/∃l o,v=.ref l/\d=OD.toD o/\JL K H (jd H O) l o
def RB.same{K:uXa}{O:List Addr}{H H':Hp}{d:D}{v:V}(s:j7 H H')(h:RB K O H d v):RB K O H' d v:=by
 rcases h with h | ⟨l,o,e1,e2,h1⟩
 ·exact .inl (h.same (ji s))
 ·exact .inr ⟨l,o,e1,e2,h1.same (s l) (ji s)⟩
def RB.full{K:uXa}{O:List Addr}{H:Hp}{d:D}{v:V}(h:RB K O H d v):j8 K H d v:=by
 rcases h with h | ⟨l,o,rfl,rfl,h1⟩
 ·exact h.same Jx
 ·exact(h1.same (fun _ z=>z) Jx).rep fun _ z=>z
def RB.lst{K:uXa}{O:List Addr}{H:Hp}{ds:List D}{v:V}(h:RB K O H (.lst ds) v):∃p xs,v=.ref p/\H p=some (.lst xs)/\j4 K (jd H O) ds xs:=by
 rcases h with h | ⟨l,o,rfl,e,h1⟩
 ·rw[j8]at h;obtain⟨a,xs,rfl,q,r⟩:=h;exact⟨a,xs,rfl,Jx _ _ q,r⟩
 ·cases o <;> cases e;obtain⟨vs,a,b⟩:=h1;exact⟨l,vs,rfl,a,b⟩
def RB.tup{K:uXa}{O:List Addr}{H:Hp}{ds:List D}{v:V}(h:RB K O H (.tup ds) v):∃p xs,v=.ref p/\Jr K H p xs/\j4 K (jd H O) ds xs:=by
 rcases h with h | ⟨l,o,rfl,e,h1⟩
 ·rw[j8]at h;obtain⟨a,xs,rfl,q,r⟩:=h;exact⟨a,xs,rfl,Jx.tup q,r⟩
 ·cases o <;> cases e
def RB.int{K:uXa}{O:List Addr}{H:Hp}{i:Int}{v:V}(h:RB K O H (.int i) v):v=.int i:=by have:=h.full;rwa [j8]at this
def RB.bl{K:uXa}{O:List Addr}{H:Hp}{i:Bool}{v:V}(h:RB K O H (.bl i) v):v=.bl i:=by have:=h.full;rwa [j8]at this
def RB.str{K:uXa}{O:List Addr}{H:Hp}{i:Str}{v:V}(h:RB K O H (.str i) v):v=.str i:=by have:=h.full;rwa [j8]at this
def RB.non{K:uXa}{O:List Addr}{H:Hp}{v:V}(h:RB K O H .non v):v=.non:=by have:=h.full;rwa [j8]at this
def RB.ins{K:uXa}{O:List Addr}{H:Hp}{C:Addr}{ns:List Str}{ds:List D}{v:V}(h:RB K O H (.ins C ns ds) v):∃a dx xs,v=.ref a/\H a=some (.ins C dx (ns.zip xs))/\ns.length=xs.length/\j4 K (jd H O) ds xs:=by
 rcases h with h | ⟨l,o,rfl,e,h1⟩
 ·rw[j8]at h;obtain⟨a,dx,xs,rfl,q,n,r⟩:=h;exact⟨a,dx,xs,rfl,Jx _ _ q,n,r⟩
 ·cases o <;> cases e;obtain⟨dx,vs,a,n,b⟩:=h1;exact⟨l,dx,vs,rfl,a,n,b⟩
def RB.dct{K:uXa}{O:List Addr}{H:Hp}{ks vs:List D}{v:V}(h:RB K O H (.dct ks vs) v):∃a kvs ep,v=.ref a/\H a=some (.dD kvs ep)/\jI ks=some (kvs.map (·.1))/\j4 K (jd H O) ks (kvs.map fun p=>V.ref p.2.1)/\j4 K (jd H O) vs (kvs.map (·.2.2)):=by
 rcases h with h | ⟨l,o,rfl,e,h1⟩
 ·rw[j8]at h;obtain⟨a,kvs,ep,rfl,q,n,r⟩:=h;exact⟨a,kvs,ep,rfl,Jx _ _ q,n,r⟩
 ·cases o <;> cases e;obtain⟨kvs,ep,a,n,b⟩:=h1;exact⟨l,kvs,ep,rfl,a,n,b⟩
def kW(K:uXa)(Hd H:Hp):List Addr->List (List D)->Prop
 | [],[]=>True
 | a::as,m::r=>(∃vs,H a=some (.lst vs)/\j4 K Hd m vs)/\kW K Hd H as r
 | _,_=>False
theorem kW.mono{K:uXa}{Hd Hd' H H':Hp}(sd:j7 Hd Hd'):∀{as:List Addr} {ls:List (List D)},(∀a∈as,∀u,H a=some u->H' a=some u)->kW K Hd H as ls->kW K Hd' H' as ls
 | [],[],_,_=>trivial
 | a::as,xs::r,s,h=>by
  obtain⟨⟨vs,h1,h2⟩,h3⟩:=h;exact⟨⟨vs,s a wNa _ h1,h2.same sd⟩,kW.mono sd (fun b hb=>s b (wMa _ hb)) h3⟩
 | [],_::_,_,h=>h.elim
 | _::_,[],_,h=>h.elim
theorem kW.at{K:uXa}{Hd H:Hp}:∀{as:List Addr} {ls:List (List D)},kW K Hd H as ls->∀a∈as,∃vs,H a=some (.lst vs)
 | _::_,_::_,h,a,ha=>by
  obtain⟨⟨vs,h1,_⟩,h3⟩:=h;rcases uTa ha with rfl | ha
  ·exact⟨vs,h1⟩
  ·exact kW.at h3 a ha
 | _::_,[],h,_,_=>h.elim
def Ar(K:uXa)(H Hd:Hp)(l:Addr)(ps:List Addr)(ls:List (List D)):Prop:=H l=some (.lst (ps.map V.ref))/\kW K Hd H ps ls
def Ar.at{K:uXa}{H Hd:Hp}{l:Addr}{ps:List Addr}{ls:List (List D)}(h:Ar K H Hd l ps ls):∀a∈l::ps,∃vs,H a=some (.lst vs):=fun a ha=>by
 rcases uTa ha with rfl | ha
 ·exact⟨_,h.1⟩
 ·exact h.2.at a ha
def UP(Z:jg)(U:L2.St)(a:Addr):Prop:=∃(j:Nat) (q:Option Addr) (o:OD),Z[j]?=some (.ow q o)/\U[j]?=some (some (.ref a))
def Ba(K:uXa)(H0:Hp)(Z:jg)(U:L2.St)(H:Hp)(O:List Addr):Prop:=∀(i:Nat) (ls:List (List D)),Z[i]?=some (.lo ls)->∃l ps,U[i]?=some (some (.ref l))/\Ar K H (jd H O) l ps ls/\(l::ps).Nodup/\(∀a∈l::ps,a∈O/\H0 a=none/\¬UP Z U a)/\∀j ms,Z[j]?=some (.lo ms)->j=i
def Ba.up{K:uXa}{H0 H H':Hp}{Z Z':jg}{U U':L2.St}{O O':List Addr}(h:Ba K H0 Z U H O)(h1:∀(i:Nat) (ls:List (List D)),Z'[i]?=some (.lo ls)->Z[i]?=some (.lo ls)/\U'[i]?=U[i]?)(h2:∀a,H a≠none->UP Z' U' a->UP Z U a)
  (h3:∀a,a∈O->¬UP Z U a->a∈O'/\∀u,H a=some u->H' a=some u) (h4:j7 (jd H O) (jd H' O')):Ba K H0 Z' U' H' O':=fun i ls e=>by
 obtain⟨e1,e2⟩:=h1 i ls e;obtain⟨l,ps,a,b,n,f,u⟩:=h i ls e1;have k:∀c∈l::ps,∀u,H c=some u->H' c=some u:=fun c hc=>(h3 c (f c hc).1 (f c hc).2.2).2;refine⟨l,ps,e2.trans a,⟨k l wNa _ b.1,b.2.mono h4 fun c hc=>k c (wMa _ hc)⟩,n,fun c hc=>⟨(h3 c (f c hc).1 (f c hc).2.2).1,(f c hc).2.1,fun z=>(f c hc).2.2 (h2 c ?_ z)⟩,fun j ms z=>u j ms (h1 j ms z).1⟩;obtain⟨vs,hv⟩:=b.at c hc;rw[hv];exact fun z=>nomatch z
def RB.sz{K:uXa}{O:List Addr}{H:Hp}{n:Nat}{v:V}(h:RB K O H (.sz n) v):∃a kas,v=.ref a/\H a=some (.ext (yj a kas))/\kas.length=n:=by
 rcases h with h | ⟨l,o,rfl,e,h1⟩
 ·rw[j8]at h;obtain⟨a,kas,rfl,q,n⟩:=h;exact⟨a,kas,rfl,Jx _ _ q,n⟩
 ·cases o <;> cases e;obtain⟨kas,a,n⟩:=h1;exact⟨l,kas,rfl,a,n⟩
structure Rel (K:uXa) (H0:Hp) (O0:List Addr) (Z:jg) (U:L2.St) (H:Hp) (O:List Addr):Prop where
 len:U.length=Z.length
 sub:∀a∈O0,a∈O
 fr:∀a∈O,a∈O0 \/ H0 a=none
 al0:∀a∈O0,H0 a≠none
 al:∀a∈O,H a≠none
 keep:j7 H0 H
 cl:∀(i:Nat) (d:D),Z[i]?=some (.cl d)->∃v,U[i]?=some (some v)/\j8 K (jd H O) d v
 bo:∀(i:Nat) (d:D),Z[i]?=some (.bo d)->∃v,U[i]?=some (some v)/\RB K O0 H0 d v
 ow:∀(i:Nat) (q:Option Addr) (o:OD),Z[i]?=some (.ow q o)->∃l,(∀p,q=some p->l=p)/\U[i]?=some (some (.ref l))/\JL K H (jd H O) l o/\l∈O/\H0 l=none
 dist:∀(i j:Nat) (q q':Option Addr) (ds es:OD) (l:Addr),Z[i]?=some (.ow q ds)->Z[j]?=some (.ow q' es)->U[i]?=some (some (.ref l))->U[j]?=some (some (.ref l))->i=j
 lo:Ba K H0 Z U H O
section
variable {K:uXa} {H0 H H':Hp} {O0 O:List Addr} {Z:jg} {U:L2.St}
def Rel.in0(R:Rel K H0 O0 Z U H O):j7 (jd H0 O0) (jd H O):=fun b o h=>by
 obtain⟨h1,h2⟩:=Js h;rw[J3 (fun z=>by rcases R.fr b z with y | y;exact h1 y;rw[h2]at y;cases y)];exact R.keep _ _ h2
def Rel.grow(R:Rel K H0 O0 Z U H O)(s:j7 H H'):Rel K H0 O0 Z U H' O where
 len:=R.len
 sub:=R.sub
 fr:=R.fr
 al0:=R.al0
 al:=fun a h z=>R.al a h (s.none z)
 keep:=R.keep.trans s
 cl:=fun i d e=>by obtain⟨v,a,b⟩:=R.cl i d e;exact⟨v,a,b.same (ji s)⟩
 bo:=R.bo
 ow:=fun i q d e=>by obtain⟨l,z,a,b,d,f⟩:=R.ow i q d e;exact⟨l,z,a,b.same (s l) (ji s),d,f⟩
 dist:=R.dist
 lo:=R.lo.up (fun i ls e=>⟨e,rfl⟩) (fun a _ z=>z) (fun a h _=>⟨h,fun u z=>s a u z⟩) (ji s)
def Rel.new(R:Rel K H0 O0 Z U H O)(h:H p=none):p∉O:=fun z=>R.al p z h
def jR{α:Type}{xs:List α}{i j:Nat}{x y:α}(h:(xs.set i x)[j]?=some y):(j=i/\y=x/\i < xs.length) \/ (j≠i/\xs[j]?=some y):=by
 rw[List.getElem?_set]at h;by_cases e:i=j
 ·subst e;rw[if_pos rfl]at h;split at h
  ·exact .inl ⟨rfl,(vFa h).symm,by assumption⟩
  ·cases h
 ·rw[if_neg e]at h;exact .inr ⟨fun z=>e z.symm,h⟩
def zE{xs:List α}(h:i < xs.length):(xs.set i x)[i]?=some x:=by simp[h]
def Jy{xs:List α}(h:j≠i):(xs.set i x)[j]?=xs[j]?:=by rw[List.getElem?_set,if_neg (fun z=>h z.symm)]
def UR{i j:Nat}{s:Sl}{v:Option V}{ls:List (List D)}(hs:∀ls,s≠.lo ls)(e:(Z.set i s)[j]?=some (.lo ls)):Z[j]?=some (.lo ls)/\(U.set i v)[j]?=U[j]?:=by
 rcases jR e with⟨rfl,e',_⟩ | ⟨ne,e'⟩
 ·exact vDa e'.symm (hs ls)
 ·exact⟨e',Jy ne⟩
def GT(hs:∀q o,s=.ow q o->v≠some (.ref a))(hi:U.length=Z.length):UP (Z.set i s) (U.set i v) a->UP Z U a:=fun xx=>by
 obtain⟨j,q,o,e,z⟩:=xx;rcases jR e with⟨rfl,e',hj⟩ | ⟨ne,e'⟩
 ·rw[zE (by rw[hi];exact hj)]at z;exact vDa (vFa z) (hs _ _ e'.symm)
 ·rw[Jy ne]at z;exact⟨j,q,o,e',z⟩
def Rel.set(R:Rel K H0 O0 Z U H O){d:D}{v:V}(q:j8 K (jd H O) d v)(i:Nat):Rel K H0 O0 (Z.set i (.cl d)) (U.set i (some v)) H O where
 len:=by rw[List.length_set,List.length_set];exact R.len
 sub:=R.sub
 fr:=R.fr
 al0:=R.al0
 al:=R.al
 keep:=R.keep
 cl:=fun j d' e=>by
  rcases jR e with⟨rfl,e',hi⟩ | ⟨ne,e'⟩
  ·cases e';exact⟨v,zE (by rw[R.len];exact hi),q⟩
  ·rw[Jy ne];exact R.cl j d' e'
 bo:=fun j d' e=>by
  rcases jR e with⟨rfl,e',hi⟩ | ⟨ne,e'⟩
  ·cases e'
  ·rw[Jy ne];exact R.bo j d' e'
 ow:=fun j q' d' e=>by
  rcases jR e with⟨rfl,e',hi⟩ | ⟨ne,e'⟩
  ·cases e'
  ·rw[Jy ne];exact R.ow j q' d' e'
 dist:=fun j k q1 q2 ds es l e1 e2 s1 s2=>by
  rcases jR e1 with⟨rfl,e',hi⟩ | ⟨ne,e1'⟩
  ·cases e'
  ·rcases jR e2 with⟨rfl,e',hi⟩ | ⟨ne2,e2'⟩
   ·cases e'
   ·rw[Jy ne]at s1;rw[Jy ne2]at s2;exact R.dist j k q1 q2 ds es l e1' e2' s1 s2
 lo:=R.lo.up (fun j ls e=>UR (by intro _ z;cases z) e) (fun a _ z=>GT (by intro _ _ z;cases z) R.len z) (fun a h _=>⟨h,fun u z=>z⟩) (j7.refl _)
def Rel.own(R:Rel K H0 O0 Z U H O)(s:j7 H H')(hn:H l=none)(h:JL K H' (jd H' (l::O)) l ds)(i:Nat):Rel K H0 O0 (Z.set i (.ow none ds)) (U.set i (some (.ref l))) H' (l::O) where
 len:=by rw[List.length_set,List.length_set];exact R.len
 sub:=fun a h=>wMa _ (R.sub a h)
 fr:=fun a ha=>by
  rcases uTa ha with rfl | ha
  ·exact .inr (R.keep.none hn)
  ·exact R.fr a ha
 al0:=R.al0
 al:=fun a ha=>by
  rcases uTa ha with rfl | ha
  ·exact h.there
  ·exact fun z=>R.al a ha (s.none z)
 keep:=R.keep.trans s
 cl:=fun j d' e=>by
  rcases jR e with⟨rfl,e',hi⟩ | ⟨ne,e'⟩
  ·cases e'
  ·rw[Jy ne];obtain⟨v,a,b⟩:=R.cl j d' e';exact⟨v,a,b.same (yt s hn)⟩
 bo:=fun j d' e=>by
  rcases jR e with⟨rfl,e',hi⟩ | ⟨ne,e'⟩
  ·cases e'
  ·rw[Jy ne];exact R.bo j d' e'
 ow:=fun j q' d' e=>by
  rcases jR e with⟨rfl,e',hi⟩ | ⟨ne,e'⟩
  ·cases e';exact⟨l,(fun p z=>nomatch z),zE (by rw[R.len];exact hi),h,wNa,R.keep.none hn⟩
  ·rw[Jy ne];obtain⟨l',z,a,b,d,f⟩:=R.ow j q' d' e';exact⟨l',z,a,b.same (s l') (yt s hn),wMa _ d,f⟩
 dist:=fun j k q1 q2 ds' es l' e1 e2 s1 s2=>by
  have other:∀(j:Nat) (q:Option Addr) (ds:OD),Z[j]?=some (.ow q ds)->U[j]?≠some (some (.ref l)):=fun j q ds e z=>by
   obtain⟨l2,_,a,b,_⟩:=R.ow j q ds e;rw[z]at a;cases a;exact b.there hn
  rcases jR e1 with⟨rfl,e',hi⟩ | ⟨ne,e1'⟩
  ·rcases jR e2 with⟨rfl,e'',hi'⟩ | ⟨ne2,e2'⟩
   ·rfl
   ·rw[zE (by rw[R.len];exact hi)]at s1;cases s1;rw[Jy ne2]at s2;exact vDa s2 (other k q2 es e2')
  ·rcases jR e2 with⟨rfl,e',hi⟩ | ⟨ne2,e2'⟩
   ·rw[zE (by rw[R.len];exact hi)]at s2;cases s2;rw[Jy ne]at s1;exact vDa s1 (other j q1 ds' e1')
   ·rw[Jy ne]at s1;rw[Jy ne2]at s2;exact R.dist j k q1 q2 ds' es l' e1' e2' s1 s2
 lo:=R.lo.up (fun j ls e=>UR (by intro _ z;cases z) e) (fun a ha z=>GT (by intro _ _ _ y;cases y;exact ha hn) R.len z) (fun a ha _=>⟨wMa _ ha,fun u z=>s a u z⟩) (yt s hn)
def Rel.change(R:Rel K H0 O0 Z U H O)(e:Z[i]?=some (.ow qq ds))(hq:∀p,qq=some p->l=p)(hi:U[i]?=some (some (.ref l)))(hl:l∈O)(h0:H0 l=none)(q:JL K (upd H l u) (jd H O) l ds'):Rel K H0 O0 (Z.set i (.ow qq ds')) U (upd H l u) O where
 len:=by rw[List.length_set];exact R.len
 sub:=R.sub
 fr:=R.fr
 al0:=R.al0
 al:=fun a ha=>by
  by_cases z:a=l
  ·rw[z,jS];exact fun z=>nomatch z
  ·rw[jr z];exact R.al a ha
 keep:=R.keep.upd h0 _
 cl:=fun j d' e=>by
  rcases jR e with⟨rfl,e',hi⟩ | ⟨ne,e'⟩
  ·cases e'
  ·rw[JC hl];exact R.cl j d' e'
 bo:=fun j d' e=>by
  rcases jR e with⟨rfl,e',hi⟩ | ⟨ne,e'⟩
  ·cases e'
  ·exact R.bo j d' e'
 ow:=fun j q' d' e2=>by
  rw[JC hl];rcases jR e2 with⟨rfl,e',_⟩ | ⟨ne,e'⟩
  ·cases e';exact⟨l,hq,hi,q,hl,h0⟩
  ·obtain⟨l',z,a,b,d,f⟩:=R.ow j q' d' e';refine⟨l',z,a,b.same (fun u h=>?_) (j7.refl _),d,f⟩;rw[jr]
   ·exact h
   ·rintro rfl;exact ne (R.dist j i _ _ _ _ _ e' e a hi)
 dist:=fun j k q1 q2 ds1 es l' e1 e2 s1 s2=>by
  have f:∀(j:Nat) (q:Option Addr) (ds1:OD),(Z.set i (.ow qq ds'))[j]?=some (.ow q ds1)->∃q2 ds2,Z[j]?=some (.ow q2 ds2):=fun j q ds1 z=>by
   rcases jR z with⟨rfl,_,_⟩ | ⟨_,z⟩
   ·exact⟨_,_,e⟩
   ·exact⟨_,_,z⟩
  obtain⟨_,d1,f1⟩:=f j _ _ e1;obtain⟨_,d2,f2⟩:=f k _ _ e2;exact R.dist j k _ _ _ _ l' f1 f2 s1 s2
 lo:=by
  have ft:UP Z U l:=⟨i,_,_,e,hi⟩
  refine R.lo.up (fun j ls e=>⟨(UR (U:=U) (v:=none) (by intro _ z;cases z) e).1,rfl⟩) (fun a _ ⟨j,q,o,e',z⟩=>?_) (fun a ha nf=>⟨ha,fun u z=>?_⟩) (by rw[JC hl];exact j7.refl _)
  ·rcases jR e' with⟨rfl,_,_⟩ | ⟨_,e'⟩
   ·exact⟨_,_,_,e,z⟩
   ·exact⟨j,q,o,e',z⟩
  ·rw[jr fun y=>nf (by rw[y];exact ft)];exact z
def Rel.share(R:Rel K H0 O0 Z U H O){ds:OD}(e:Z[i]?=some (.ow q ds)):∃O',Rel K H0 O0 (Z.set i (.cl ds.toD)) U H O'/\j7 (jd H O) (jd H O'):=by
 obtain⟨l,_,hs,q,lo,h0⟩:=R.ow i q ds e;have ss:j7 (jd H O) (jd H (O.filter (·≠l))):=Jo fun a h=>(uUa h).1;have nin:l∉O.filter (·≠l):=fun z=>by simpa using (uUa z).2
 refine⟨O.filter (·≠l),⟨by rw[List.length_set];exact R.len,fun a h=>List.mem_filter.mpr ⟨R.sub a h,?_⟩,fun a h=>R.fr a (uUa h).1,R.al0,fun a h=>R.al a (uUa h).1,R.keep,?_,?_,?_,?_,?_⟩,ss⟩
 ·have z:a≠l:=by
   rintro rfl;exact R.al0 a h h0
  simpa using z
 ·intro j d' e2;rcases jR e2 with⟨rfl,e',hi⟩ | ⟨ne,e'⟩
  ·cases e';exact⟨_,hs,(q.same (fun _ z=>z) ss).rep fun u z=>by rw[J3 nin];exact z⟩
  ·obtain⟨v,a,b⟩:=R.cl j d' e';exact⟨v,a,b.same ss⟩
 ·intro j d' e2;rcases jR e2 with⟨rfl,e',hi⟩ | ⟨ne,e'⟩
  ·cases e'
  ·exact R.bo j d' e'
 ·intro j q' d' e2;rcases jR e2 with⟨rfl,e',hi⟩ | ⟨ne,e'⟩
  ·cases e'
  ·obtain⟨l',z,a,b,d,f⟩:=R.ow j q' d' e';refine⟨l',z,a,b.same (fun _ z=>z) ss,List.mem_filter.mpr ⟨d,?_⟩,f⟩;have z:l'≠l:=by
    rintro rfl;exact ne (R.dist j i _ _ _ _ _ e' e a hs)
   simpa using z
 ·intro j k q1 q2 ds1 es l' e1 e2 s1 s2;rcases jR e1 with⟨rfl,e',hi⟩ | ⟨ne,e1'⟩
  ·cases e'
  ·rcases jR e2 with⟨rfl,e',hi⟩ | ⟨ne2,e2'⟩
   ·cases e'
   ·exact R.dist j k _ _ _ _ l' e1' e2' s1 s2
 ·refine R.lo.up (fun j ls e=>⟨(UR (U:=U) (v:=none) (by intro _ z;cases z) e).1,rfl⟩) (fun a _ ⟨j,q,o,e',z⟩=>?_) (fun a ha nf=>⟨List.mem_filter.mpr ⟨ha,?_⟩,fun u z=>z⟩) ss
  ·rcases jR e' with⟨rfl,y,_⟩ | ⟨_,e'⟩
   ·cases y
   ·exact⟨j,q,o,e',z⟩
  ·have:a≠l:=fun y=>nf (by rw[y];exact⟨i,_,_,e,hs⟩);simpa using this
end
abbrev DE:=jg->Option D
abbrev DO:=jg->Option OD
noncomputable abbrev Fr:=uXa
def tE(K:Fr)(de:DE):TE:=fun U H Q=>∃H0 O0 Z O d,Rel K H0 O0 Z U H O/\de Z=some d/\∀v H',j7 H H'->j8 K (jd H' O) d v->Q v H'
def tR(K:Fr)(de:DE):TE:=fun U H Q=>∃H0 O0 Z O d,Rel K H0 O0 Z U H O/\de Z=some d/\∀v H',j7 H H'->RB K O H' d v->Q v H'
def tF(K:Fr)(de:DO):TE:=fun U H Q=>∃H0 O0 Z O o,Rel K H0 O0 Z U H O/\de Z=some o/\∀l H',j7 H H'->H l=none->JL K H' (jd H' (l::O)) l o->Q (.ref l) H'
def tT(K:Fr)(dt:jg->Option Bool):TT:=fun U H Q=>∃H0 O0 Z O b,Rel K H0 O0 Z U H O/\dt Z=some b/\∀H',j7 H H'->Q b H'
def AK(K:Fr)(O:List Addr)(H:Hp):Bool->D->V->Prop
 | true,d,v=>j8 K (jd H O) d v
 | false,d,v=>RB K O H d v
def yG(K:Fr)(O:List Addr)(H:Hp):List Bool->List D->List V->Prop
 | [],[],[]=>True
 | k::ks,d::ds,v::vs=>AK K O H k d v/\yG K O H ks ds vs
 | _,_,_=>False
theorem AK.same{K:Fr}{O:List Addr}{H H':Hp}(s:j7 H H'):∀{k:Bool} {d:D} {v:V},AK K O H k d v->AK K O H' k d v
 | true,_,_,h=>j8.same (ji s) h
 | false,_,_,h=>RB.same s h
theorem AK.rb{K:Fr}{O:List Addr}{H:Hp}:∀{k:Bool} {d:D} {v:V},AK K O H k d v->RB K O H d v
 | true,_,_,h=>.inl h
 | false,_,_,h=>h
theorem yG.same{K:Fr}{O:List Addr}{H H':Hp}(s:j7 H H'):∀{ks:List Bool} {ds:List D} {vs:List V},yG K O H ks ds vs->yG K O H' ks ds vs
 | [],[],[],_=>trivial
 | _::_,_::_,_::_,h=>⟨AK.same s h.1,yG.same s h.2⟩
 | [],[],_::_,h=>h.elim
 | [],_::_,_,h=>h.elim
 | _::_,[],_,h=>h.elim
 | _::_,_::_,[],h=>h.elim
noncomputable abbrev DA:=List (Bool×DE)
@[simp] noncomputable def Yk:DA->jg->Option (List D)
 | [],_=>some []
 | p::ps,Z=>(p.2 Z).bind fun d=>(Yk ps Z).bind fun ds=>some (d::ds)
def Ze(K:Fr)(l:DA):TA:=fun U H Q=>∃H0 O0 Z O ds,Rel K H0 O0 Z U H O/\Yk l Z=some ds/\∀vs H',j7 H H'->yG K O H' (l.map (·.1)) ds vs->Q vs H'
section
variable {X:Cx} {K:Fr} {e a b c d:Expr} {de da db dc dd:DE} {pos:Pos}
def jF(h:PE X e t)(f:∀U H Q,t' U H Q->t U H Q):PE X e t':=fun pins s U H Q I q=>h pins s U H Q I (f U H Q q)
def W3(h:PT X e t)(f:∀U H Q,t' U H Q->t U H Q):PT X e t':=fun pins s U H Q I q=>h pins s U H Q I (f U H Q q)
def Bb(h:PW X e t)(f:∀U H Q,t' U H Q->t U H Q):PW X e t':=fun w pins s U H Q I q=>h w pins s U H Q I (f U H Q q)
def Bc(h:PA X es t)(f:∀U H Q,t' U H Q->t U H Q):PA X es t':=fun p pins s U H Q I q=>h p pins s U H Q I (f U H Q q)
def IZ(h:PE X e (tE K de)):PE X e (tR K de):=jF h fun U H Q ⟨H0,O0,Z,O,d,R,ed,q⟩=>⟨H0,O0,Z,O,d,R,ed,fun v H' s r=>q v H' s (.inl r)⟩
@[simp] def dL(df:DO)(Z:jg):Option D:=(df Z).bind fun l=>some l.toD
def j6{o:Option α}(h:o.bind f=some y):∃x,o=some x/\f x=some y:=by
 cases o with
 | none=>cases h
 | some x=>exact⟨x,rfl,h⟩
def eD(h:PE X e (tF K df)):PE X e (tE K (dL df)):=jF h fun U H Q xx=>by
 obtain⟨H0,O0,Z,O,d,R,ed,q⟩:=xx;obtain⟨ds,e1,e2⟩:=j6 ed;cases e2;exact⟨H0,O0,Z,O,ds,R,e1,fun l H' s hn r=>q _ _ s ((r.same (fun _ z=>z) (Jo fun a h=>wMa _ h)).rep fun u z=>by rw[J3 (R.new hn)];exact z)⟩
@[simp] def dV(i:Nat)(Z:jg):Option D:=match Z[i]? with
 | some (.cl d)=>some d
 | some (.bo d)=>some d
 | some (.ow _ o)=>some o.toD
 | _=>none
@[simp] noncomputable def dC(i:Nat)(Z:jg):Option D:=match Z[i]? with
 | some (.cl d)=>some d
 | _=>none
def F_(i:Nat)(h:PE X (.Name x pos) (zo i)):PE X (.Name x pos) (tR K (dV i)):=jF h fun U H Q xx=>by
 obtain⟨H0,O0,Z,O,d,R,ed,q⟩:=xx;unfold dV at ed;split at ed
 ·cases ed;obtain⟨v,e1,r⟩:=R.cl i _ (by assumption);exact⟨v,e1,q v H (j7.refl H) (.inl r)⟩
 ·cases ed;obtain⟨v,e1,r⟩:=R.bo i _ (by assumption);refine⟨v,e1,q v H (j7.refl H) ?_⟩;rcases r with r | ⟨l,o,e2,e3,h1⟩
  ·exact .inl (r.same R.in0)
  ·exact .inr ⟨l,o,e2,e3,h1.same (R.keep l) R.in0⟩
 ·cases ed;obtain⟨l,_,e1,h1,_⟩:=R.ow i _ _ (by assumption);exact⟨_,e1,q _ H (j7.refl H) (.inr ⟨l,_,rfl,rfl,h1⟩)⟩
 ·cases ed
def Be(i:Nat)(h:PE X (.Name x pos) (zo i)):PE X (.Name x pos) (tE K (dC i)):=jF h fun U H Q xx=>by
 obtain⟨H0,O0,Z,O,d,R,ed,q⟩:=xx;unfold dC at ed;split at ed
 ·cases ed;obtain⟨v,e1,r⟩:=R.cl i _ (by assumption);exact⟨v,e1,q v H (j7.refl H) r⟩
 ·cases ed
@[simp] noncomputable def dK(d:D)(_:jg):Option D:=some d
def kX{v:V}{d:D}(h:PE X e (tC v))(r:∀H,j8 K H d v):PE X e (tE K (dK d)):=jF h fun U H Q xx=>by
 obtain⟨H0,O0,Z,O,d',R,ed,q⟩:=xx;cases ed;exact q v H (j7.refl H) (r _)
def hU{i j}:PE X (.Constant (.int i) j pos) (tE K (dK (.int i))):=kX Wh fun _=>by rw[j8]
def I_{i j}:PE X (.Constant (.bool i) j pos) (tE K (dK (.bl i))):=kX FD fun _=>by rw[j8]
def Bf{j}:PE X (.Constant .none j pos) (tE K (dK .non)):=kX dR fun _=>by rw[j8]
def hV{i j}:PE X (.Constant (.str i) j pos) (tE K (dK (.str i))):=kX dS fun _=>by rw[j8]
def eE{x:Str}{i:Int}(h:PE X (.Name x pos) (tC (.int i))):PE X (.Name x pos) (tE K (dK (.int i))):=kX h fun _=>by rw[j8]
@[simp] noncomputable def d2(f:D->D->Option D)(da db:DE)(Z:jg):Option D:=(da Z).bind fun x=>(db Z).bind fun y=>f x y
@[simp] noncomputable def d1(f:D->Option D)(da:DE)(Z:jg):Option D:=(da Z).bind f
def Jv(K:Fr)(r:R2)(f:D->D->Option D):Prop:=∀(O:List Addr) (H:Hp) (a b d:D) (x y:V) (Q:VK),RB K O H a x->RB K O H b y->(∀p,H p=none->p∉O)->f a b=some d->(∀v H',j7 H H'->j8 K (jd H' O) d v->Q v H')->r x y H Q
def kY(hf:Jv K r f):∀U H Q,tE K (d2 f da db) U H Q->Q6 r (tR K da) (tR K db) U H Q:=fun U H Q xx=>by
 obtain⟨H0,O0,Z,O,d,R,ed,q⟩:=xx;obtain⟨x,ex,ed⟩:=j6 ed;obtain⟨y,ey,ed⟩:=j6 ed;exact⟨H0,O0,Z,O,x,R,ex,fun vx H1 s1 rx=>⟨H0,O0,Z,O,y,R.grow s1,ey,fun vy H2 s2 ry=>hf O H2 x y d vx vy Q (rx.same s2) ry (fun p hp=>(R.grow (s1.trans s2)).new hp) ed fun v H' s r=>q v H' ((s1.trans s2).trans s) r⟩⟩
def l6(ho:j_ X (binaryOp op) r)(hf:Jv K r f)(ha:PE X a (tR K da))(hb:PE X b (tR K db)):PE X (.BinOp a op b pos) (tE K (d2 f da db)):=jF (bS ho ha hb) (kY hf)
def hW(ho:j_ X (compareOp op) r)(hf:Jv K r f)(ha:PE X a (tR K da))(hb:PE X b (tR K db))(hm:behindInMarks op b=false):PE X (.Compare a [op] [b] pos) (tE K (d2 f da db)):=jF (cx ho ha hb hm) (kY hf)
def eF(ho:UK X r)(hf:Jv K r f)(ha:PE X a (tR K da))(hb:PE X b (tR K db))(hs:Kz b):PE X (.Subscript a b pos) (tE K (d2 f da db)):=jF (B4 ho ha hb hs) (kY hf)
def eG(K:Fr)(r:R2)(f:D->D->Option OD):Prop:=∀(O:List Addr) (H:Hp) (a b:D) (ds:OD) (x y:V) (Q:VK),RB K O H a x->RB K O H b y->f a b=some ds->(∀l H',j7 H H'->H l=none->JL K H' (jd H' (l::O)) l ds->Q (.ref l) H')->r x y H Q
@[simp] noncomputable def Bg(f:D->D->Option OD)(da db:DE)(Z:jg):Option OD:=(da Z).bind fun x=>(db Z).bind fun y=>f x y
def l7(ho:j_ X (binaryOp op) r)(hf:eG K r f)(ha:PE X a (tR K da))(hb:PE X b (tR K db)):PE X (.BinOp a op b pos) (tF K (Bg f da db)):=jF (bS ho ha hb) fun U H Q xx=>by
 obtain⟨H0,O0,Z,O,d,R,ed,q⟩:=xx;obtain⟨x,ex,ed⟩:=j6 ed;obtain⟨y,ey,ed⟩:=j6 ed;exact⟨H0,O0,Z,O,x,R,ex,fun vx H1 s1 rx=>⟨H0,O0,Z,O,y,R.grow s1,ey,fun vy H2 s2 ry=>hf O H2 x y d vx vy Q (rx.same s2) ry ed fun l H' s hn r=>q l H' ((s1.trans s2).trans s) ((s1.trans s2).none hn) r⟩⟩
@[simp] noncomputable def fI(C:Int->Int->Bool)(g:Int->Int->D):D->D->Option D
 | .int i,.int j=>if C i j=true then some (g i j)else none
 | _,_=>none
noncomputable def vD:D->Option V
 | .int i=>some (.int i)
 | .bl i=>some (.bl i)
 | .str i=>some (.str i)
 | .non=>some .non
 | _=>none
def eI{K:Fr}{H:Hp}{d:D}{v:V}(h:vD d=some v):j8 K H d v:=by
 cases d <;> first | (cases h;rw[j8]) | cases h
def Wv{C:Int->Int->Bool}{P:Int->Int->Prop}{g:Int->Int->D}{gv:Int->Int->V}(hP:∀i j,C i j=true->P i j)(hg:∀i j,vD (g i j)=some (gv i j)):Jv K (rI P gv) (fI C g):=by
 intro O H a b d x y Q ha hb _ e q;unfold fI at e;split at e
 ·split at e
  ·cases e;exact⟨_,_,ha.int,hb.int,hP _ _ (by assumption),q _ H (j7.refl H) (eI (hg _ _))⟩
  ·cases e
 ·cases e
def kZ{g:Int->Int->D}{gv:Int->Int->V}(hg:∀i j,vD (g i j)=some (gv i j)):Jv K (vj gv) (fI (fun _ _=>true) g):=by
 intro O H a b d x y Q ha hb hn e q;obtain⟨i,j,e1,e2,_,q⟩:=Wv (K:=K) (P:=fun _ _=>True) (fun _ _ _=>trivial) hg O H a b d x y Q ha hb hn e q;exact⟨i,j,e1,e2,q⟩
noncomputable abbrev Yb:=fI (fun _ _=>true) fun i j=>.int (i - j)
noncomputable def US(i j:Int):Bool:=Nat.blt i.natAbs 18446744073709551616||Nat.blt j.natAbs 18446744073709551616
abbrev Bh:=fI US fun i j=>.int (i * j)
noncomputable abbrev Jg:=fI (fun _ j=>decide (0 < j)) fun i j=>.int (i % j)
noncomputable abbrev KB:=fI (fun _ j=>decide (0 < j)&&decide (j < 1073741824)) fun i j=>.int (i / j)
@[simp] noncomputable def eJ(i j:Int):Bool:=decide (0<=j)&&(decide (j<=1000000)&&decide (i.natAbs < 2 ^ 64))
abbrev As:=fI eJ fun i j=>.int (i ^ j.toNat)
noncomputable abbrev Y3:=fI (fun _ _=>true) fun i j=>.bl (decide (i < j))
noncomputable abbrev Jb:=fI (fun _ _=>true) fun i j=>.bl (decide (i<=j))
noncomputable abbrev yu:=fI (fun _ _=>true) fun i j=>.bl (decide (j < i))
noncomputable abbrev Vl:=fI (fun _ _=>true) fun i j=>.bl (decide (j<=i))
def hZ:Jv K (vj fun i j=>.int (i - j)) Yb:=kZ fun _ _=>rfl
def h_:Jv K (rI GR fun i j=>.int (i * j)) Bh:=Wv (fun i j h=>by
 unfold US at h;rw[Bool.or_eq_true,Nat.blt_eq,Nat.blt_eq]at h;unfold GR;have e:(2:Int) ^ 64=18446744073709551616:=by decide
 rw[e];rcases h with h | h
 ·exact .inl ⟨by omega,by omega⟩
 ·exact .inr ⟨by omega,by omega⟩) fun _ _=>rfl
def Ha:Jv K (rI (fun _ j=>0 < j) fun i j=>.int (i % j)) Jg:=Wv (fun i j h=>by simpa using h) fun _ _=>rfl
def Hb:Jv K (rI A2 fun i j=>.int (i / j)) KB:=Wv (fun i j h=>by simpa[A2]using h) fun _ _=>rfl
def Hc:Jv K (rI A4 fun i j=>.int (i ^ j.toNat)) As:=Wv (fun i j h=>by simpa[A4,eJ]using h) fun _ _=>rfl
def l8:Jv K (vj fun i j=>.bl (decide (i < j))) Y3:=kZ fun _ _=>rfl
def ld:Jv K (vj fun i j=>.bl (decide (i<=j))) Jb:=kZ fun _ _=>rfl
def lf:Jv K (vj fun i j=>.bl (decide (j < i))) yu:=kZ fun _ _=>rfl
def lg:Jv K (vj fun i j=>.bl (decide (j<=i))) Vl:=kZ fun _ _=>rfl
noncomputable def Vm:D->Bool
 | .non=>true
 | _=>false
@[simp] theorem L8:Vm .non=true:=rfl
@[simp] theorem Lr(b:Bool):Vm (.bl b)=false:=rfl
@[simp] theorem L9(b:Int):Vm (.int b)=false:=rfl
@[simp] theorem La(b:Str):Vm (.str b)=false:=rfl
@[simp] theorem Lc(b:List D):Vm (.tup b)=false:=rfl
@[simp] theorem Ld(b:List D):Vm (.lst b)=false:=rfl
def Bi{H:Hp}{d:D}{v:V}(h:j8 K H d v):decide (v=.non)=Vm d:=by
 cases d <;> rw[j8]at h;all_goals first
  | (subst h;rfl)
  | (obtain⟨_,_,rfl,_⟩:=h;rfl)
  | (obtain⟨_,_,_,rfl,_⟩:=h;rfl)
  | (obtain⟨_,rfl,_⟩:=h;rfl)
def KC:D->D->Option D
 | d,.non=>some (.bl (Vm d))
 | _,_=>none
@[simp] theorem li(d:D):KC d .non=some (.bl (Vm d)):=by cases d <;> rfl
def ze:D->D->Option D
 | d,.non=>some (.bl (!Vm d))
 | _,_=>none
@[simp] theorem iX(d:D):ze d .non=some (.bl (!Vm d)):=by cases d <;> rfl
def He:Jv K (fun x y H Q=>y=.non/\Q (.bl (decide (x=.non))) H) KC:=by
 intro O H a b d x y Q ha hb _ e q;unfold KC at e;split at e
 ·cases e;exact⟨hb.non,q _ H (j7.refl H) (by rw[j8,Bi ha.full])⟩
 ·cases e
def eK:Jv K (fun x y H Q=>y=.non/\Q (.bl (!decide (x=.non))) H) ze:=by
 intro O H a b d x y Q ha hb _ e q;unfold ze at e;split at e
 ·cases e;exact⟨hb.non,q _ H (j7.refl H) (by rw[j8,Bi ha.full])⟩
 ·cases e
@[simp] noncomputable def Ww:D->D->Option D
 | .int i,.int j=>some (.bl (decide (i=j)))
 | .bl i,.bl j=>some (.bl (decide (i=j)))
 | .str i,.str j=>some (.bl (decide (i=j)))
 | _,_=>none
@[simp] def Au(a b:D):Option D:=(Ww a b).bind fun r=>match r with | .bl c=>some (.bl (!c)) | _=>none
def VY(x y:Int):decide (V.int x=V.int y)=decide (x=y):=by simp
def UF(x y:Bool):decide (V.bl x=V.bl y)=decide (x=y):=by simp
def VZ(x y:Str):decide (V.str x=V.str y)=decide (x=y):=by simp
def Hf:Jv K bU Ww:=by
 intro O H a b d x y Q ha hb _ e q;unfold Ww at e;split at e
 ·cases e;rw[ha.int,hb.int];exact⟨rfl,q _ H (j7.refl H) (by rw[j8,VY])⟩
 ·cases e;rw[ha.bl,hb.bl];exact⟨rfl,q _ H (j7.refl H) (by rw[j8,UF])⟩
 ·cases e;rw[ha.str,hb.str];exact⟨rfl,q _ H (j7.refl H) (by rw[j8,VZ])⟩
 ·cases e
def Hg:Jv K bV Au:=by
 intro O H a b d x y Q ha hb _ e q;unfold Au Ww at e;obtain⟨r,e1,e2⟩:=j6 e;split at e1
 ·cases e1;cases e2;rw[ha.int,hb.int];exact⟨rfl,q _ H (j7.refl H) (by rw[j8,VY])⟩
 ·cases e1;cases e2;rw[ha.bl,hb.bl];exact⟨rfl,q _ H (j7.refl H) (by rw[j8,UF])⟩
 ·cases e1;cases e2;rw[ha.str,hb.str];exact⟨rfl,q _ H (j7.refl H) (by rw[j8,VZ])⟩
 ·cases e1
def j9:D->D->Option D
 | .lst l,.int i=>atI l i
 | .tup l,.int i=>atI l i
 | _,_=>none
@[simp] theorem Le(l:List D)(i:Int):j9 (.lst l) (.int i)=L2.atI l i:=rfl
@[simp] theorem Lf(l:List D)(i:Int):j9 (.tup l) (.int i)=L2.atI l i:=rfl
def j4.atI{H:Hp}{l:List D}{xs:List V}{i:Int}{d:D}(h:j4 K H l xs)(e:L2.atI l i=some d):∃v,L2.atI xs i=some v/\j8 K H d v:=by
 unfold L2.atI at e⊢;rw[h.len];obtain⟨j,e1,e2⟩:=j6 e;obtain⟨v,e3,r⟩:=h.get e2;exact⟨v,by rw[e1];exact e3,r⟩
def lj:Jv K (iR K) j9:=by
 intro O H a b d x y Q ha hb _ e q;unfold j9 at e;split at e
 ·obtain⟨p,xs,rfl,h1,h2⟩:=ha.lst;obtain⟨v,e3,r⟩:=h2.atI e;exact .inl ⟨p,xs,_,v,rfl,hb.int,jC.of h1,e3,q v H (j7.refl H) r⟩
 ·obtain⟨p,xs,rfl,h1,h2⟩:=ha.tup;obtain⟨v,e3,r⟩:=h2.atI e;exact .inr (.inl ⟨p,xs,_,v,rfl,hb.int,h1,e3,q v H (j7.refl H) r⟩)
 ·cases e
@[simp] noncomputable def KF:D->D->Option OD
 | .lst l,.lst m=>if l.length+m.length<=sizeLine then some (.lst (l++m))else none
 | _,_=>none
def yT{O:List Addr}{H:Hp}{p:Addr}{ds:List D}{vs:List V}(hp:H p=none)(r:j4 K (jd H O) ds vs):JL K (upd H p (.lst vs)) (jd (upd H p (.lst vs)) (p::O)) p (.lst ds):=⟨vs,jS,r.same (yt (jB hp _) hp)⟩
def Hh:eG K DY KF:=by
 intro O H a b ds x y Q ha hb e q;unfold KF at e;split at e
 ·split at e
  ·cases e;obtain⟨p,xs,rfl,h1,h2⟩:=ha.lst;obtain⟨p',xs',rfl,h1',h2'⟩:=hb.lst;exact⟨p,p',xs,xs',rfl,rfl,h1,h1',by rw[h2.len,h2'.len];assumption,fun l hl=>q l _ (jB hl _) hl (yT hl (h2.app h2'))⟩
  ·cases e
 ·cases e
def Y4{O:List Addr}{H:Hp}{p:Addr}{ds:List D}{vs:List V}(hO:p∉O)(hp:H p=none)(r:j4 K (jd H O) ds vs):j8 K (jd (upd H p (.tup vs)) O) (.tup ds) (.ref p):=by
 rw[j8];refine⟨p,vs,rfl,Jr.of ?_,r.same (ji (jB hp _))⟩;rw[J3 hO,jS]
@[simp] noncomputable def jy:D->D->Option D
 | .int i,.int j=>some (.int (i+j))
 | .str i,.str j=>if i.length+j.length<=sizeLine then some (.str (i++j))else none
 | .tup l,.tup m=>if l.length+m.length<=sizeLine/\l≠[]then some (.tup (l++m))else none
 | _,_=>none
set_option tactic.hygienic true in
theorem Hi:Jv K (fun x y H Q=>vj (fun i j=>.int (i+j)) x y H Q \/ (fun x y H Q=>xi K x y H Q \/ (fun x y H Q=>∃i j,x=.str i/\y=.str j/\i.length+j.length<=sizeLine/\Q (.str (i++j)) H) x y H Q) x y H Q) jy:=by
 intro O H a b d x y Q ha hb hn e q;unfold jy at e;split at e
 ·cases e;exact .inl ⟨_,_,ha.int,hb.int,q _ H (j7.refl H) (by rw[j8])⟩
 ·split at e
  ·cases e;exact .inr (.inr ⟨_,_,ha.str,hb.str,by assumption,q _ H (j7.refl H) (by rw[j8])⟩)
  ·cases e
 ·split at e
  ·rename_i hh;cases e;obtain⟨p,xs,rfl,h1,h2⟩:=ha.tup;obtain⟨p',xs',rfl,h1',h2'⟩:=hb.tup;have l1:=h2.len;have l2:=h2'.len;refine .inr (.inl ⟨p,p',xs,xs',rfl,rfl,h1,h1',fun z=>hh.2 (List.length_eq_zero_iff.mp (by rw[<-l1,z];rfl)),by rw[l1,l2];exact hh.1,fun z=>?_,fun _ l hl=>q _ _ (jB hl _) (Y4 (hn l hl) hl (h2.app h2'))⟩);refine q _ H (j7.refl H) ?_;have e0:∀m:List D,xs'.length=m.length->xs'=[]->m=[]:=fun m h z=>List.length_eq_zero_iff.mp (by rw[<-h,z];rfl);rw[e0 _ l2 z,uFa];rcases ha with ha | ⟨_,o,_,z,_⟩
   ·exact ha
   ·cases o <;> cases z
  ·cases e
 ·cases e
end
section
variable {X:Cx} {K:Fr} {e a b c d:Expr} {de da db dc dd:DE} {pos:Pos}
@[simp] noncomputable def Wx(z:D)(yes:Option D):Option D:=match z with
 | .bl true=>yes
 | .bl false=>some (.bl false)
 | _=>none
def Vn{z d:D}{y:Option D}(h:Wx z y=some d):∃k,z=.bl k/\((k=true/\y=some d) \/ (k=false/\d=.bl false)):=by
 unfold Wx at h;split at h
 ·exact⟨true,rfl,.inl ⟨rfl,h⟩⟩
 ·exact⟨false,rfl,.inr ⟨rfl,(vFa h).symm⟩⟩
 ·cases h
@[simp] def Jc(f f':D->D->Option D)(da db dc:DE)(Z:jg):Option D:=(da Z).bind fun x=>(db Z).bind fun y=>(f x y).bind fun z=>Wx z ((dc Z).bind fun w=>f' y w)
def Xs{r r':R2}{f f':D->D->Option D}(hf:Jv K r f)(hf':Jv K r' f'):∀U H Q,tE K (Jc f f' da db dc) U H Q->Wi r r' (tR K da) (tR K db) (tR K dc) U H Q:=fun U H Q xx=>by
 obtain⟨H0,O0,Z,O,d,R,ed,q⟩:=xx;obtain⟨x,ex,ed⟩:=j6 ed;obtain⟨y,ey,ed⟩:=j6 ed;obtain⟨z,ez,ed⟩:=j6 ed;obtain⟨k,rfl,ek⟩:=Vn ed;refine⟨H0,O0,Z,O,x,R,ex,fun vx H1 s1 rx=>⟨H0,O0,Z,O,y,R.grow s1,ey,fun vy H2 s2 ry=>hf O H2 x y _ vx vy _ (rx.same s2) ry (fun p hp=>(R.grow (s1.trans s2)).new hp) ez fun v H3 s3 rz=>?_⟩⟩;rw[j8]at rz;subst rz;refine⟨k,rfl,?_⟩;have s13:=(s1.trans s2).trans s3;rcases ek with⟨rfl,e2⟩ | ⟨rfl,rfl⟩
 ·obtain⟨w,ew,e3⟩:=j6 e2;exact zI ⟨H0,O0,Z,O,w,R.grow s13,ew,fun vw H4 s4 rw'=>hf' O H4 y w d vy vw Q ((ry.same s3).same s4) rw' (fun p hp=>(R.grow (s13.trans s4)).new hp) e3 fun v H' s r=>q v H' ((s13.trans s4).trans s) r⟩
 ·exact zH (q _ _ s13 (by rw[j8]))
def C4(ho:j_ X (compareOp op) r)(ho':j_ X (compareOp op') r')(hf:Jv K r f)(hf':Jv K r' f')(ha:PE X a (tR K da))(hb:PE X b (tR K db))(hc:PE X c (tR K dc))(hm:lastMarks [op,op'] [b,c]=false:=by with_unfolding_all rfl):PE X (.Compare a [op,op'] [b,c] pos) (tE K (Jc f f' da db dc)):=jF (A6 ho ho' ha hb hc hm) (Xs hf hf')
@[simp] def G8(f f' f'':D->D->Option D)(da db dc dd:DE)(Z:jg):Option D:=(da Z).bind fun x=>(db Z).bind fun y=>(f x y).bind fun z=>Wx z ((dc Z).bind fun w=>(f' y w).bind fun z'=>Wx z' ((dd Z).bind fun u=>f'' w u))
def Av{op op' op'':CmpOp}{r r' r'':R2}{f f' f'':D->D->Option D}(ho:j_ X (compareOp op) r)(ho':j_ X (compareOp op') r')(ho'':j_ X (compareOp op'') r'')(hf:Jv K r f)(hf':Jv K r' f')(hf'':Jv K r'' f'')(ha:PE X a (tR K da))(hb:PE X b (tR K db))(hc:PE X c (tR K dc))(hd:PE X d (tR K dd))(hm:lastMarks [op,op',op''] [b,c,d]=false:=by with_unfolding_all rfl):
  PE X (.Compare a [op,op',op''] [b,c,d] pos) (tE K (G8 f f' f'' da db dc dd)):=jF (Xp ho ho' ho'' ha hb hc hd hm) fun U H Q xx=>by
 obtain⟨H0,O0,Z,O,d,R,ed,q⟩:=xx;obtain⟨x,ex,ed⟩:=j6 ed;obtain⟨y,ey,ed⟩:=j6 ed;obtain⟨z,ez,ed⟩:=j6 ed;obtain⟨k,rfl,ek⟩:=Vn ed;refine⟨H0,O0,Z,O,x,R,ex,fun vx H1 s1 rx=>⟨H0,O0,Z,O,y,R.grow s1,ey,fun vy H2 s2 ry=>hf O H2 x y _ vx vy _ (rx.same s2) ry (fun p hp=>(R.grow (s1.trans s2)).new hp) ez fun v H3 s3 rz=>?_⟩⟩;rw[j8]at rz;subst rz;refine⟨k,rfl,?_⟩;have s13:=(s1.trans s2).trans s3;rcases ek with⟨rfl,e2⟩ | ⟨rfl,rfl⟩
 ·obtain⟨w,ew,e3⟩:=j6 e2;obtain⟨z',ez',e3⟩:=j6 e3;obtain⟨k',rfl,ek'⟩:=Vn e3;refine zI ⟨H0,O0,Z,O,w,R.grow s13,ew,fun vw H4 s4 rw'=>hf' O H4 y w _ vy vw _ ((ry.same s3).same s4) rw' (fun p hp=>(R.grow (s13.trans s4)).new hp) ez' fun v H5 s5 r=>?_⟩;rw[j8]at r;subst r;refine⟨k',rfl,?_⟩;have s15:=(s13.trans s4).trans s5;rcases ek' with⟨rfl,e4⟩ | ⟨rfl,rfl⟩
  ·obtain⟨u,eu,e5⟩:=j6 e4;exact zI ⟨H0,O0,Z,O,u,R.grow s15,eu,fun vu H6 s6 ru=>hf'' O H6 w u d vw vu Q ((rw'.same s5).same s6) ru (fun p hp=>(R.grow (s15.trans s6)).new hp) e5 fun v H' s r=>q v H' ((s15.trans s6).trans s) r⟩
  ·exact zH (q _ _ s15 (by rw[j8]))
 ·exact zH (q _ _ s13 (by rw[j8]))
@[simp] noncomputable def eN:D->Option Bool
 | .bl b=>some b
 | _=>none
noncomputable def UT:D->Option Bool
 | .bl b=>some b
 | .non=>some false
 | .int i=>some (i != 0)
 | .lst l=>some (!l.isEmpty)
 | .tup l=>some (!l.isEmpty)
 | _=>none
@[simp] theorem Lg(b:Bool):UT (.bl b)=some b:=rfl
@[simp] theorem ll:UT .non=some false:=rfl
@[simp] theorem lm(l:List D):UT (.lst l)=some (!l.isEmpty):=rfl
@[simp] theorem lp(l:List D):UT (.tup l)=some (!l.isEmpty):=rfl
@[simp] theorem lq(i:Int):UT (.int i)=some (i != 0):=rfl
set_option tactic.hygienic true in
theorem eO{O:List Addr}{H:Hp}{d:D}{v:V}{k:Bool}(h:RB K O H d v)(e:UT d=some k):A8 K v H k:=by
 unfold UT at e;split at e
 ·cases e;rw[h.bl];rfl
 ·cases e;rw[h.non];rfl
 ·cases e;rw[h.int];rfl
 ·cases e;obtain⟨p,xs,rfl,h1,h2⟩:=h.lst;refine .inl ⟨xs,jC.of h1,?_⟩;have:=h2.len;cases xs with
  | nil=>rw[List.length_eq_zero_iff.mp this.symm];rfl
  | cons x xs=>
   rename_i l;cases l with
   | nil=>cases this
   | cons y l=>rfl
 ·cases e;obtain⟨p,xs,rfl,h1,h2⟩:=h.tup;refine .inr ⟨xs,h1,?_⟩;have:=h2.len;cases xs with
  | nil=>rw[List.length_eq_zero_iff.mp this.symm];rfl
  | cons x xs=>
   rename_i l;cases l with
   | nil=>cases this
   | cons y l=>rfl
 ·cases e
abbrev DT:=jg->Option Bool
@[simp] def jZ(de:DE)(Z:jg):Option Bool:=(de Z).bind UT
def Hj(h:PE X e (tR K de))(hK:X.K=K:=by rfl)(he:∀whole,isTrue e X.env whole=(do let v<-whole;standAt e.pos;holding [v] (truthy v)):=by intro _;rfl):PT X e (tT K (jZ de)):=W3 (A9 h he) fun U H Q xx=>by
 obtain⟨H0,O0,Z,O,k,R,ed,q⟩:=xx;subst hK;obtain⟨d,e1,e2⟩:=j6 ed;exact⟨H0,O0,Z,O,d,R,e1,fun v H' s r=>⟨k,eO r e2,q H' s⟩⟩
@[simp] def jm(de:DE)(Z:jg):Option Bool:=(de Z).bind eN
def Wy{d:D}{k:Bool}(h:eN d=some k):d=.bl k:=by
 unfold eN at h;split at h
 ·cases h;rfl
 ·cases h
def Hk{op:CmpOp}{r:R2}{f:D->D->Option D}(ho:j_ X (compareOp op) r)(hf:Jv K r f)(ha:PE X a (tR K da))(hb:PE X b (tR K db))(hm:behindInMarks op b=false):PT X (.Compare a [op] [b] pos) (tT K (jm (d2 f da db))):=W3 (cy ho ha hb hm) fun U H Q xx=>by
 obtain⟨H0,O0,Z,O,k,R,ed,q⟩:=xx;obtain⟨d,e1,e2⟩:=j6 ed;cases Wy e2;exact kY hf U H _ ⟨H0,O0,Z,O,_,R,e1,fun v H' s r=>⟨k,by rw[j8]at r;exact r,q H' s⟩⟩
def C5{op op':CmpOp}{r r':R2}{f f':D->D->Option D}(ho:j_ X (compareOp op) r)(ho':j_ X (compareOp op') r')(hf:Jv K r f)(hf':Jv K r' f')(ha:PE X a (tR K da))(hb:PE X b (tR K db))(hc:PE X c (tR K dc))(hm:lastMarks [op,op'] [b,c]=false:=by with_unfolding_all rfl):PT X (.Compare a [op,op'] [b,c] pos) (tT K (jm (Jc f f' da db dc))):=W3 (A7 ho ho' ha hb hc hm) fun U H Q xx=>by
 obtain⟨H0,O0,Z,O,k,R,ed,q⟩:=xx;obtain⟨d,e1,e2⟩:=j6 ed;cases Wy e2;have e1':=e1;obtain⟨x,ex,e1⟩:=j6 e1;obtain⟨y,ey,e1⟩:=j6 e1;obtain⟨z,ez,e1⟩:=j6 e1;obtain⟨k',rfl,ek⟩:=Vn e1;refine⟨H0,O0,Z,O,x,R,ex,fun vx H1 s1 rx=>⟨H0,O0,Z,O,y,R.grow s1,ey,fun vy H2 s2 ry=>hf O H2 x y _ vx vy _ (rx.same s2) ry (fun p hp=>(R.grow (s1.trans s2)).new hp) ez fun v H3 s3 rz=>?_⟩⟩;rw[j8]at rz;subst rz;refine⟨k',rfl,?_⟩;have s13:=(s1.trans s2).trans s3;rcases ek with⟨rfl,e2⟩ | ⟨rfl,e0⟩
 ·obtain⟨w,ew,e3⟩:=j6 e2;exact zI ⟨H0,O0,Z,O,w,R.grow s13,ew,fun vw H4 s4 rw'=>hf' O H4 y w _ vy vw _ ((ry.same s3).same s4) rw' (fun p hp=>(R.grow (s13.trans s4)).new hp) e3 fun v H' s r=>⟨k,by rw[j8]at r;exact r,q H' ((s13.trans s4).trans s)⟩⟩
 ·cases e0;exact zH ⟨false,rfl,q _ s13⟩
@[simp] noncomputable def J1(dt:DT)(Z:jg):Option Bool:=(dt Z).bind fun k=>some (!k)
def Hl(h:PT X a (tT K dt)):PT X (.UnaryOp .Not a pos) (tT K (J1 dt)):=W3 (dX h) fun U H Q xx=>by
 obtain⟨H0,O0,Z,O,k,R,ed,q⟩:=xx;obtain⟨k',e1,e2⟩:=j6 ed;cases e2;exact⟨H0,O0,Z,O,k',R,e1,fun H' s=>q H' s⟩
@[simp] noncomputable def Je(dt du:DT)(Z:jg):Option Bool:=(dt Z).bind fun k=>if k=true then du Z else some false
@[simp] noncomputable def JR(dt du:DT)(Z:jg):Option Bool:=(dt Z).bind fun k=>if k=true then some true else du Z
def eQ(h:PT X a (tT K dt)):PW X (.BoolOp .And [a] pos) (tT K dt):=cn h
def Hm(h:PT X a (tT K dt)):PW X (.BoolOp .Or [a] pos) (tT K dt):=dU h
def Hn{dt du:DT}{rest:List Expr}(h:PT X a (tT K dt))(h2:PW X (.BoolOp .And (b::rest) pos) (tT K du)):PW X (.BoolOp .And (a::b::rest) pos) (tT K (Je dt du)):=Bb (dW h h2) fun U H Q xx=>by
 obtain⟨H0,O0,Z,O,k,R,ed,q⟩:=xx;obtain⟨k',e1,e2⟩:=j6 ed;refine⟨H0,O0,Z,O,k',R,e1,fun H' s=>?_⟩;cases k' with
 | true=>rw[if_pos rfl]at e2;exact zI ⟨H0,O0,Z,O,k,R.grow s,e2,fun H2 s2=>q H2 (s.trans s2)⟩
 | false=>rw[if_neg Bool.false_ne_true]at e2;cases e2;exact zH (q H' s)
def lr{dt du:DT}{rest:List Expr}(h:PT X a (tT K dt))(h2:PW X (.BoolOp .Or (b::rest) pos) (tT K du)):PW X (.BoolOp .Or (a::b::rest) pos) (tT K (JR dt du)):=Bb (FE h h2) fun U H Q xx=>by
 obtain⟨H0,O0,Z,O,k,R,ed,q⟩:=xx;obtain⟨k',e1,e2⟩:=j6 ed;refine⟨H0,O0,Z,O,k',R,e1,fun H' s=>?_⟩;cases k' with
 | true=>rw[if_pos rfl]at e2;cases e2;exact zI (q H' s)
 | false=>rw[if_neg Bool.false_ne_true]at e2;exact zH ⟨H0,O0,Z,O,k,R.grow s,e2,fun H2 s2=>q H2 (s.trans s2)⟩
def eR(h:PW X e (tT K dt)):PT X e (tT K dt):=h.pt
@[simp] noncomputable def Jt(da db:DE)(Z:jg):Option D:=(da Z).bind fun x=>match x with
 | .bl true=>db Z
 | .bl false=>some (.bl false)
 | _=>none
@[simp] noncomputable def UU(da db:DE)(Z:jg):Option D:=(da Z).bind fun x=>match x with
 | .bl true=>some (.bl true)
 | .bl false=>db Z
 | _=>none
@[simp] noncomputable def xo(da:DE)(Z:jg):Option D:=(da Z).bind fun x=>match x with
 | .bl k=>some (.bl (!k))
 | _=>none
def Bj{op}(h:PE X a (tE K da)):PE X (.BoolOp op [a] pos) (tE K da):=dY h
def Ho{rest:List Expr}(ha:PE X a (tR K da))(hb:PE X (.BoolOp .And (b::rest) pos) (tE K db)):PE X (.BoolOp .And (a::b::rest) pos) (tE K (Jt da db)):=jF (dZ ha hb) fun U H Q xx=>by
 obtain⟨H0,O0,Z,O,d,R,ed,q⟩:=xx;obtain⟨x,e1,e2⟩:=j6 ed;refine⟨H0,O0,Z,O,x,R,e1,fun v H' s r=>?_⟩;split at e2
 ·exact⟨true,r.bl,zI ⟨H0,O0,Z,O,d,R.grow s,e2,fun v H2 s2 r2=>q v H2 (s.trans s2) r2⟩⟩
 ·cases e2;exact⟨false,r.bl,zH (q _ _ s (by rw[j8]))⟩
 ·cases e2
def lu{rest:List Expr}(ha:PE X a (tR K da))(hb:PE X (.BoolOp .Or (b::rest) pos) (tE K db)):PE X (.BoolOp .Or (a::b::rest) pos) (tE K (UU da db)):=jF (FH ha hb) fun U H Q xx=>by
 obtain⟨H0,O0,Z,O,d,R,ed,q⟩:=xx;obtain⟨x,e1,e2⟩:=j6 ed;refine⟨H0,O0,Z,O,x,R,e1,fun v H' s r=>?_⟩;split at e2
 ·cases e2;exact⟨true,r.bl,zI (q _ _ s (by rw[j8]))⟩
 ·exact⟨false,r.bl,zH ⟨H0,O0,Z,O,d,R.grow s,e2,fun v H2 s2 r2=>q v H2 (s.trans s2) r2⟩⟩
 ·cases e2
def Hq(ha:PE X a (tR K da)):PE X (.UnaryOp .Not a pos) (tE K (xo da)):=jF (d_ ha) fun U H Q xx=>by
 obtain⟨H0,O0,Z,O,d,R,ed,q⟩:=xx;obtain⟨x,e1,e2⟩:=j6 ed;refine⟨H0,O0,Z,O,x,R,e1,fun v H' s r=>?_⟩;split at e2
 ·cases e2;exact⟨_,r.bl,q _ _ s (by rw[j8])⟩
 ·cases e2
@[simp] noncomputable def VE(da:DE)(Z:jg):Option D:=(da Z).bind fun x=>match x with
 | .int i=>some (.int (-i))
 | _=>none
def Hr(ha:PE X a (tR K da)):PE X (.UnaryOp .USub a pos) (tE K (VE da)):=jF (FL Dt ha) fun U H Q xx=>by
 obtain⟨H0,O0,Z,O,d,R,ed,q⟩:=xx;obtain⟨x,e1,e2⟩:=j6 ed;refine⟨H0,O0,Z,O,x,R,e1,fun v H' s r=>?_⟩;split at e2
 ·cases e2;exact⟨_,r.int,q _ _ s (by rw[j8])⟩
 ·cases e2
@[simp] noncomputable def GU(dt:DT)(da db:DE)(Z:jg):Option D:=(dt Z).bind fun k=>if k=true then da Z else db Z
def Hs(hc:PT X c (tT K dt))(ha:PE X a (tE K da))(hb:PE X b (tE K db)):PE X (.IfExp c a b pos) (tE K (GU dt da db)):=jF (aW hc ha hb) fun U H Q xx=>by
 obtain⟨H0,O0,Z,O,d,R,ed,q⟩:=xx;obtain⟨k,e1,e2⟩:=j6 ed;refine⟨H0,O0,Z,O,k,R,e1,fun H' s=>?_⟩;cases k with
 | true=>rw[if_pos rfl]at e2;exact zI ⟨H0,O0,Z,O,d,R.grow s,e2,fun v H2 s2 r2=>q v H2 (s.trans s2) r2⟩
 | false=>rw[if_neg Bool.false_ne_true]at e2;exact zH ⟨H0,O0,Z,O,d,R.grow s,e2,fun v H2 s2 r2=>q v H2 (s.trans s2) r2⟩
def Ht:PA X [] (Ze K []):=Bc Yr fun U H Q xx=>by
 obtain⟨H0,O0,Z,O,ds,R,ed,q⟩:=xx;cases ed;exact q [] H (j7.refl H) trivial
def Bl(ht:∀U H Q,(∃H0 O0 Z O d,Rel K H0 O0 Z U H O/\de Z=some d/\∀v H',j7 H H'->AK K O H' k d v->Q v H')->t U H Q)(h:PE X e t)(hr:PA X es (Ze K l))(hs:starEach (e::es) X.env=(false,eval e X.env)::starEach es X.env:=by rfl):PA X (e::es) (Ze K ((k,de)::l)):=Bc (JE h hr hs) fun U H Q xx=>by
 obtain⟨H0,O0,Z,O,ds,R,ed,q⟩:=xx;obtain⟨d,e1,ed⟩:=j6 ed;obtain⟨ds',e2,ed⟩:=j6 ed;cases ed;exact ht _ _ _ ⟨H0,O0,Z,O,d,R,e1,fun v H1 s1 r1=>⟨H0,O0,Z,O,ds',R.grow s1,e2,fun vs H2 s2 r2=>q _ H2 (s1.trans s2) ⟨r1.same s2,r2⟩⟩⟩
def lv(h:PE X e (tE K de))(hr:PA X es (Ze K l))(hs:starEach (e::es) X.env=(false,eval e X.env)::starEach es X.env:=by rfl):PA X (e::es) (Ze K ((true,de)::l)):=Bl (fun U H Q z=>z) h hr hs
def lw(h:PE X e (tR K de))(hr:PA X es (Ze K l))(hs:starEach (e::es) X.env=(false,eval e X.env)::starEach es X.env:=by rfl):PA X (e::es) (Ze K ((false,de)::l)):=Bl (fun U H Q z=>z) h hr hs
theorem UV:∀{l:DA} {Z:jg} {ds:List D},Yk l Z=some ds->ds.length=l.length
 | [],_,_,h=>by cases h;rfl
 | p::ps,Z,ds,h=>by
  obtain⟨d,e1,h⟩:=j6 h;obtain⟨ds',e2,h⟩:=j6 h;cases h;rw[vXa,vXa,UV e2]
theorem yG.reps:∀{ks:List Bool} {ds:List D} {vs:List V},yG K O H ks ds vs->ks.all id=true->j4 K (jd H O) ds vs
 | [],[],[],_,_=>j4.nil
 | true::_,_::_,_::_,h,e=>j4.cons h.1 (yG.reps h.2 (by simpa using e))
 | false::_,_::_,_::_,h,e=>by simp at e
 | [],[],_::_,h,_=>h.elim
 | [],_::_,_,h,_=>h.elim
 | _::_,[],_,h,_=>h.elim
 | _::_,_::_,[],h,_=>h.elim
theorem yG.len:∀{ks:List Bool} {ds:List D} {vs:List V},yG K O H ks ds vs->vs.length=ds.length/\ks.length=ds.length
 | [],[],[],_=>⟨rfl,rfl⟩
 | _::_,_::_,_::_,h=>by have:=yG.len h.2;simp[this.1,this.2]
 | [],[],_::_,h=>h.elim
 | [],_::_,_,h=>h.elim
 | _::_,[],_,h=>h.elim
 | _::_,_::_,[],h=>h.elim
@[simp] def yk(l:DA)(Z:jg):Option D:=(Yk l Z).bind fun ds=>some (.tup ds)
def Hu{l:DA}{x1}(h:PA X es (Ze K l))(hk:(l.map (·.1)).all id=true:=by rfl)(hl:Nat.ble l.length sizeLine=true:=by rfl):PE X (.Tuple es x1 pos) (tE K (yk l)):=jF (Xa h) fun U H Q xx=>by
 obtain⟨H0,O0,Z,O,d,R,ed,q⟩:=xx;obtain⟨ds,e1,e2⟩:=j6 ed;cases e2;refine⟨H0,O0,Z,O,ds,R,e1,fun vs H1 s1 r=>⟨by rw[r.len.1,UV e1];exact Nat.le_of_ble_eq_true hl,fun p hp=>q _ _ (s1.trans (jB hp _)) (Y4 ((R.grow s1).new hp) hp (r.reps hk))⟩⟩
@[simp] def JN(l:DA)(Z:jg):Option OD:=(Yk l Z).bind fun ds=>some (.lst ds)
def Hv{l:DA}(h:PA X es (Ze K l))(hk:(l.map (·.1)).all id=true:=by rfl)(hl:Nat.ble l.length sizeLine=true:=by rfl):PE X (.List es pos) (tF K (JN l)):=jF (DB h) fun U H Q xx=>by
 obtain⟨H0,O0,Z,O,d,R,ed,q⟩:=xx;obtain⟨ds,e1,e2⟩:=j6 ed;cases e2;refine⟨H0,O0,Z,O,ds,R,e1,fun vs H1 s1 r=>⟨by rw[r.len.1,UV e1];exact Nat.le_of_ble_eq_true hl,fun p hp=>q _ _ (s1.trans (jB hp _)) (s1.none hp) (yT hp (r.reps hk))⟩⟩
abbrev Qd:=jg->Option (Option Int)
noncomputable def Wz(K:Fr)(p:Qd):TO:=fun U H Q=>∃H0 O0 Z O o,Rel K H0 O0 Z U H O/\p Z=some o/\∀H',j7 H H'->Q o H'
@[simp] noncomputable def yU:D->Option (Option Int)
 | .int i=>some (some i)
 | _=>none
def lx:PO X none (Wz K fun _=>some none):=fun pins s U H Q I xx=>by
 obtain⟨H0,O0,Z,O,o,R,ed,q⟩:=xx;cases ed;exact cP pins s U H Q I (q H (j7.refl H))
def ly(h:PE X e (tR K de)):PO X (some e) (Wz K fun Z=>(de Z).bind yU):=fun pins s U H Q I xx=>by
 obtain⟨H0,O0,Z,O,o,R,ed,q⟩:=xx;obtain⟨d,e1,e2⟩:=j6 ed;refine cR h pins s U H Q I ⟨H0,O0,Z,O,d,R,e1,fun v H' s r=>?_⟩;unfold yU at e2;split at e2
 ·cases e2;exact⟨_,r.int,q H' s⟩
 ·cases e2
def Jp(xs:List α)(lo hi:Option Int):List α:=(xs.drop (HT.sIx xs.length 0 lo)).take (HT.sIx xs.length xs.length hi - HT.sIx xs.length 0 lo)
def j4.cut(h:j4 K H l xs)(lo hi:Option Int):j4 K H (Jp l lo hi) (UJ xs lo hi):=by
 unfold Jp UJ;rw[h.len];exact(h.drop _).take _
theorem j4.ints:∀ns:List Int,j4 K H (ns.map D.int) (ns.map V.int)
 | []=>j4.nil
 | n::ns=>j4.cons (by rw[j8]) (j4.ints ns)
def W4(d:D)(lo hi:Option Int):Option OD:=match d with
 | .lst l=>some (.lst (Jp l lo hi))
 | .scr ns=>some (.lst (Jp (ns.map D.int) lo hi))
 | _=>none
@[simp] theorem iY(l:List D)(lo hi:Option Int):W4 (.lst l) lo hi=some (.lst (Jp l lo hi)):=rfl
@[simp] theorem iZ(l:List Int)(lo hi:Option Int):W4 (.scr l) lo hi=some (.lst (Jp (l.map D.int) lo hi)):=rfl
@[simp] def zf(de:DE)(p q:Qd)(Z:jg):Option OD:=(de Z).bind fun d=>(p Z).bind fun lo=>(q Z).bind fun hi=>W4 d lo hi
def Hw{lo hi:Option Expr}{p q:Qd}{p2:Pos}(he:PE X e (tR K de))(hl:PO X lo (Wz K p))(hu:PO X hi (Wz K q))(hK:X.K=K:=by rfl):PE X (.Subscript e (.Slice lo hi none p2) pos) (tF K (zf de p q)):=jF (Wk cX he hl hu) fun U H Q xx=>by
 obtain⟨H0,O0,Z,O,d,R,ed,qq⟩:=xx;subst hK;obtain⟨x,e1,ed⟩:=j6 ed;obtain⟨l,e2,ed⟩:=j6 ed;obtain⟨u,e3,ed⟩:=j6 ed;refine⟨H0,O0,Z,O,x,R,e1,fun v H1 s1 r=>⟨H0,O0,Z,O,l,R.grow s1,e2,fun H2 s2=>⟨H0,O0,Z,O,u,R.grow (s1.trans s2),e3,fun H3 s3=>?_⟩⟩⟩;have s13:=(s1.trans s2).trans s3;have r3:=r.same (s2.trans s3);unfold W4 at ed;split at ed
 ·cases ed;obtain⟨pp,xs,rfl,h1,h2⟩:=r3.lst;exact⟨pp,xs,rfl,jC.of h1,fun p hp=>qq p _ (s13.trans (jB hp _)) (s13.none hp) (yT hp (h2.cut l u))⟩
 ·cases ed;have r4:=r3.full;rw[j8]at r4;obtain⟨pp,rfl,h1⟩:=r4;exact⟨pp,_,rfl,h1,fun p hp=>qq p _ (s13.trans (jB hp _)) (s13.none hp) (yT hp ((j4.ints _).cut l u))⟩
 ·cases ed
def k_(d:D)(lo hi:Option Int):Option D:=match d with
 | .tup l=>if HT.sIx l.length 0 lo=0/\HT.sIx l.length l.length hi=l.length then none else some (.tup (Jp l lo hi))
 | _=>none
@[simp] def W5(de:DE)(p q:Qd)(Z:jg):Option D:=(de Z).bind fun d=>(p Z).bind fun lo=>(q Z).bind fun hi=>k_ d lo hi
def Hx{lo hi:Option Expr}{p q:Qd}{p2:Pos}(he:PE X e (tR K de))(hl:PO X lo (Wz K p))(hu:PO X hi (Wz K q))(hK:X.K=K:=by rfl):PE X (.Subscript e (.Slice lo hi none p2) pos) (tE K (W5 de p q)):=jF (Wk DF he hl hu) fun U H Q xx=>by
 obtain⟨H0,O0,Z,O,d,R,ed,qq⟩:=xx;subst hK;obtain⟨x,e1,ed⟩:=j6 ed;obtain⟨l,e2,ed⟩:=j6 ed;obtain⟨u,e3,ed⟩:=j6 ed;refine⟨H0,O0,Z,O,x,R,e1,fun v H1 s1 r=>⟨H0,O0,Z,O,l,R.grow s1,e2,fun H2 s2=>⟨H0,O0,Z,O,u,R.grow (s1.trans s2),e3,fun H3 s3=>?_⟩⟩⟩;have s13:=(s1.trans s2).trans s3;have r3:=r.same (s2.trans s3);unfold k_ at ed;split at ed
 ·split at ed
  ·cases ed
  ·cases ed;obtain⟨pp,xs,rfl,h1,h2⟩:=r3.tup;exact⟨pp,xs,rfl,h1,by rw[h2.len];assumption,fun p hp=>qq _ _ (s13.trans (jB hp _)) (Y4 ((R.grow s13).new hp) hp (h2.cut l u))⟩
 ·cases ed
def Fn(K:Fr)(r:List V->Hp->VK->Prop)(f:List D->Option D):Prop:=∀(O:List Addr) (H:Hp) (ks:List Bool) (ds:List D) (vs:List V) (d:D) (Q:VK),yG K O H ks ds vs->(∀p,H p=none->p∉O)->f ds=some d->(∀v H',j7 H H'->j8 K (jd H' O) d v->Q v H')->r vs H Q
def Bm(K:Fr)(r:List V->Hp->VK->Prop)(f:List D->Option OD):Prop:=∀(O:List Addr) (H:Hp) (ks:List Bool) (ds:List D) (vs:List V) (d:OD) (Q:VK),yG K O H ks ds vs->f ds=some d->(∀l H',j7 H H'->H l=none->JL K H' (jd H' (l::O)) l d->Q (.ref l) H')->r vs H Q
@[simp] def ja(f:List D->Option D)(l:DA)(Z:jg):Option D:=(Yk l Z).bind f
@[simp] def Jm(f:List D->Option OD)(l:DA)(Z:jg):Option OD:=(Yk l Z).bind f
def ZI(hf:Fn K r f):∀U H Q,tE K (ja f l) U H Q->Xd r (Ze K l) U H Q:=fun U H Q xx=>by
 obtain⟨H0,O0,Z,O,d,R,ed,q⟩:=xx;obtain⟨ds,e1,e2⟩:=j6 ed;exact⟨H0,O0,Z,O,ds,R,e1,fun vs H1 s1 r1=>hf O H1 _ ds vs d Q r1 (fun p hp=>(R.grow s1).new hp) e2 fun v H' s r=>q v H' (s1.trans s) r⟩
def KG(hf:Bm K r f):∀U H Q,tF K (Jm f l) U H Q->Xd r (Ze K l) U H Q:=fun U H Q xx=>by
 obtain⟨H0,O0,Z,O,d,R,ed,q⟩:=xx;obtain⟨ds,e1,e2⟩:=j6 ed;exact⟨H0,O0,Z,O,ds,R,e1,fun vs H1 s1 r1=>hf O H1 _ ds vs d Q r1 e2 fun l H' s hn r=>q l H' (s1.trans s) (s1.none hn) r⟩
def zJ{O:List Addr}{H:Hp}{ks:List Bool}{d:D}{vs:List V}(h:yG K O H ks [d] vs):∃v,vs=[v]/\RB K O H d v:=by
 cases ks with
 | nil=>exact h.elim
 | cons k ks=>
  cases vs with
  | nil=>exact h.elim
  | cons v vs=>
   obtain⟨h1,h2⟩:=h;have:=yG.len h2;have e:vs=[]:=List.length_eq_zero_iff.mp this.1;subst e;exact⟨v,rfl,AK.rb h1⟩
def lB{O:List Addr}{H:Hp}{ks:List Bool}{d d':D}{vs:List V}(h:yG K O H ks [d,d'] vs):∃v v',vs=[v,v']/\RB K O H d v/\RB K O H d' v':=by
 cases ks with
 | nil=>exact h.elim
 | cons k ks=>
  cases vs with
  | nil=>exact h.elim
  | cons v vs=>
   obtain⟨h1,h2⟩:=h;obtain⟨v',rfl,r⟩:=zJ h2;exact⟨v,v',rfl,AK.rb h1,r⟩
@[simp] noncomputable def J5:List D->Option D
 | [.lst l]=>some (.int l.length)
 | [.tup l]=>some (.int l.length)
 | _=>none
def Hy:Fn K (fun xs H Q=>∃p ys,xs=[.ref p]/\(jC K H p ys \/ Jr K H p ys)/\Q (.int ys.length) H) J5:=by
 intro O H ks ds vs d Q h hn e q;unfold J5 at e;split at e
 ·cases e;obtain⟨v,rfl,r⟩:=zJ h;obtain⟨p,xs,rfl,h1,h2⟩:=r.lst;exact⟨p,xs,rfl,.inl (jC.of h1),q _ H (j7.refl H) (by rw[j8,h2.len])⟩
 ·cases e;obtain⟨v,rfl,r⟩:=zJ h;obtain⟨p,xs,rfl,h1,h2⟩:=r.tup;exact⟨p,xs,rfl,.inr h1,q _ H (j7.refl H) (by rw[j8,h2.len])⟩
 ·cases e
@[simp] noncomputable def uE:List D->Option OD
 | [.lst l]=>some (.lst l)
 | [.tup l]=>some (.lst l)
 | _=>none
def eU:Bm K (fun xs H Q=>∃p ys,xs=[.ref p]/\(jC K H p ys \/ Jr K H p ys)/\∀l,H l=none->Q (.ref l) (upd H l (.lst ys))) uE:=by
 intro O H ks ds vs d Q h e q;unfold uE at e;split at e
 ·cases e;obtain⟨v,rfl,r⟩:=zJ h;obtain⟨p,xs,rfl,h1,h2⟩:=r.lst;exact⟨p,xs,rfl,.inl (jC.of h1),fun l hl=>q _ _ (jB hl _) hl (yT hl h2)⟩
 ·cases e;obtain⟨v,rfl,r⟩:=zJ h;obtain⟨p,xs,rfl,h1,h2⟩:=r.tup;exact⟨p,xs,rfl,.inr h1,fun l hl=>q _ _ (jB hl _) hl (yT hl h2)⟩
 ·cases e
@[simp] noncomputable def yK:List D->Option D
 | [.lst l]=>some (.tup l)
 | [.tup l]=>some (.tup l)
 | _=>none
def C6:Fn K (fun xs H Q=>∃p ys,xs=[.ref p]/\((jC K H p ys/\∀l,H l=none->Q (.ref l) (upd H l (.tup ys))) \/ (Jr K H p ys/\Q (.ref p) H))) yK:=by
 intro O H ks ds vs d Q h hn e q;unfold yK at e;split at e
 ·cases e;obtain⟨v,rfl,r⟩:=zJ h;obtain⟨p,xs,rfl,h1,h2⟩:=r.lst;exact⟨p,xs,rfl,.inl ⟨jC.of h1,fun l hl=>q _ _ (jB hl _) (Y4 (hn l hl) hl h2)⟩⟩
 ·cases e;obtain⟨v,rfl,r⟩:=zJ h;have r0:=r;obtain⟨p,xs,rfl,h1,h2⟩:=r.tup;refine⟨p,xs,rfl,.inr ⟨h1,q _ H (j7.refl H) ?_⟩⟩;rcases r0 with r0 | ⟨_,o,_,z,_⟩
  ·exact r0
  ·cases o <;> cases z
 ·cases e
@[simp] noncomputable def vP:List D->Option D
 | [.int i,.int j]=>some (.int (if j > i then j else i))
 | _=>none
def Hz:Fn K (fun xs H Q=>∃i j,xs=[.int i,.int j]/\Q (.int (if j > i then j else i)) H) vP:=by
 intro O H ks ds vs d Q h hn e q;unfold vP at e;split at e
 ·cases e;obtain⟨v,v',rfl,r,r'⟩:=lB h;exact⟨_,_,by rw[r.int,r'.int],q _ H (j7.refl H) (by rw[j8])⟩
 ·cases e
@[simp] noncomputable def uF:List D->Option (List Bool)
 | []=>some []
 | .bl b::r=>(uF r).bind fun bs=>some (b::bs)
 | _::_=>none
theorem UW:∀{l:List D} {bs:List Bool} {xs:List V},uF l=some bs->j4 K H l xs->xs=bs.map V.bl
 | [],bs,xs,e,h=>by cases e;rw[j4]at h;exact h
 | .bl b::r,bs,xs,e,h=>by
  obtain⟨bs',e1,e2⟩:=j6 e;cases e2;rw[j4]at h;obtain⟨v,vs,rfl,a,b'⟩:=h;rw[j8]at a;rw[a,UW e1 b'];rfl
 | .non::_,_,_,e,_=>by cases e
 | .int _::_,_,_,e,_=>by cases e
 | .str _::_,_,_,e,_=>by cases e
 | .tup _::_,_,_,e,_=>by cases e
 | .lst _::_,_,_,e,_=>by cases e
 | .ins _ _ _::_,_,_,e,_=>by cases e
 | .scr _::_,_,_,e,_=>by cases e
@[simp] def Yt:List D->Option D
 | [.lst l]=>(uF l).bind fun bs=>some (.bl (bs.all id))
 | _=>none
def HA:Fn K (fun xs H Q=>∃(p:Addr) (bs:List Bool),xs=[.ref p]/\jC K H p (bs.map V.bl)/\Q (.bl (bs.all id)) H) Yt:=by
 intro O H ks ds vs d Q h hn e q;unfold Yt at e;split at e
 ·obtain⟨bs,e1,e2⟩:=j6 e;cases e2;obtain⟨v,rfl,r⟩:=zJ h;obtain⟨p,xs,rfl,h1,h2⟩:=r.lst;rw[UW e1 h2]at h1;exact⟨p,bs,rfl,jC.of h1,q _ H (j7.refl H) (by rw[j8])⟩
 ·cases e
noncomputable def jK(C:Addr)(f:Str):D->Option D
 | .ins C' ns ds=>if C'=C then(ns.zip ds).lookup f else none
 | _=>none
theorem GB{H:Hp}{f:Str}{d:D}:∀{ns:List Str} {ds:List D} {xs:List V},j4 K H ds xs->(ns.zip ds).lookup f=some d->∃v,(ns.zip xs).lookup f=some v/\j8 K H d v
 | [],_,_,_,e=>by cases e
 | _::_,[],_,_,e=>by cases e
 | n::ns,d'::ds,xs,h,e=>by
  rw[j4]at h;obtain⟨v,r,rfl,a,b⟩:=h;rw[List.zip_cons_cons,List.lookup_cons]at e⊢;cases hf:f==n with
  | true=>rw[hf]at e;cases e;exact⟨v,rfl,a⟩
  | false=>rw[hf]at e;exact GB b e
set_option tactic.hygienic true in
theorem HB(h:PE X e (tR K de))(c:Cls K C)(n:YY K C f)(hb:attributeBase e f X.env (eval e X.env)=eval e X.env:=by rfl)(hK:X.K=K:=by rfl):PE X (.Attribute e f pos) (tE K (d1 (jK C f) de)):=jF (Dy h hb) fun U H Q xx=>by
 obtain⟨H0,O0,Z,O,d,R,ed,q⟩:=xx;subst hK;obtain⟨x,e1,e2⟩:=j6 ed;refine⟨H0,O0,Z,O,x,R,e1,fun v H' s r=>?_⟩;unfold jK at e2;split at e2
 ·split at e2
  ·rename_i hC;subst hC;obtain⟨a,dx,xs,rfl,h1,hn,h2⟩:=r.ins;obtain⟨v,e3,r3⟩:=GB h2 e2;exact⟨a,_,dx,_,v,rfl,h1,c,n,e3,q v H' s r3⟩
  ·cases e2
 ·cases e2
end
def RP(K:Fr)(H0:Hp)(O0:List Addr)(H:Hp)(O:List Addr)(d:D)(v:V):Prop:=j8 K (jd H O) d v \/ RB K O0 H0 d v
def tP(K:Fr)(de:DE):TE:=fun U H Q=>∃H0 O0 Z O d,Rel K H0 O0 Z U H O/\de Z=some d/\∀v H',j7 H H'->RP K H0 O0 H' O d v->Q v H'
def RP.at{K:Fr}{H0 H H':Hp}{O0 O O':List Addr}{d:D}{v:V}(r:RP K H0 O0 H O d v)(s0:j7 H0 H')(s1:j7 (jd H0 O0) (jd H' O'))(s2:j7 (jd H O) (jd H' O')):RB K O' H' d v:=by
 rcases r with r | r | ⟨l,o,e1,e2,h1⟩
 ·exact .inl (r.same s2)
 ·exact .inl (r.same s1)
 ·exact .inr ⟨l,o,e1,e2,h1.same (s0 l) s1⟩
def xq(K:Fr)(J:It)(H0:Hp)(O0:List Addr)(H:Hp)(O:List Addr)(items:List D):Prop:=∀(i:Nat) (H':Hp) (O':List Addr),j7 H0 H'->j7 (jd H0 O0) (jd H' O')->j7 (jd H O) (jd H' O')->(∀a∈O',H' a≠none)->
 (∀d,items[i]?=some d->J.go i H'/\∀x H'',J.yld i H' x H''->j7 H' H''/\j8 K (jd H'' O') d x)/\(i=items.length->J.stop i H')
abbrev DI:=jg->Option (List D)
def zF(K:Fr)(di:DI):TI:=fun U H R=>∃H0 O0 Z O items,Rel K H0 O0 Z U H O/\di Z=some items/\∀J H',j7 H H'->xq K J H0 O0 H' O items->R J H'
section
variable {X:Cx} {K:Fr} {e a b c d tg:Expr} {de da db dc dd:DE} {pos:Pos}
def lC(h:PE X e (tE K de)):PE X e (tP K de):=jF h fun U H Q ⟨H0,O0,Z,O,d,R,ed,q⟩=>⟨H0,O0,Z,O,d,R,ed,fun v H' s r=>q v H' s (.inl r)⟩
@[simp] noncomputable def dP(i:Nat)(Z:jg):Option D:=match Z[i]? with
 | some (.cl d)=>some d
 | some (.bo d)=>some d
 | _=>none
def HC(i:Nat)(h:PE X (.Name x pos) (zo i)):PE X (.Name x pos) (tP K (dP i)):=jF h fun U H Q xx=>by
 obtain⟨H0,O0,Z,O,d,R,ed,q⟩:=xx;unfold dP at ed;split at ed
 ·cases ed;obtain⟨v,e1,r⟩:=R.cl i _ (by assumption);exact⟨v,e1,q v H (j7.refl H) (.inl r)⟩
 ·cases ed;obtain⟨v,e1,r⟩:=R.bo i _ (by assumption);exact⟨v,e1,q v H (j7.refl H) (.inr r)⟩
 ·cases ed
def uG(h:PI X tg e wi)(f:∀U H R,wi' U H R->wi U H R):PI X tg e wi':=fun pins s U H R I q=>h pins s U H R I (f U H R q)
def lD(K:Fr)(tl:TE):TI:=fun U H R=>tl U H fun x H1=>∃a,x=.ref a/\(((∃xs,jC K H1 a xs)/\R (Dh K a) H1) \/ ((∃xs,Jr K H1 a xs)/\R (Di K a) H1))
def eV(hl:PE X l tl):PI X tg l (lD X.K tl):=by
 intro pins s U H R I h;refine ju (hl pins s U H _ I h) fun v s1 xx=>?_;obtain⟨x,H1,I1,r1,q1⟩:=xx;obtain⟨a,e,q⟩:=q1;subst e;cases r1;rcases q with⟨⟨xs,hq⟩,q⟩ | ⟨⟨xs,hq⟩,q⟩
 ·obtain⟨its,rv,p,hz⟩:=I1.list hq;refine wpAny_pyIter_list p.isList ?_;refine⟨s1.heap.objs.size,[s1.heap.objs.size],_,_,H1,rfl,I1.kept (t':=s1.toks) fun b o e=>wIa _ e,X4 a _,⟨_,wJa _ rfl,rfl,rfl⟩,fun b hb=>?_,q⟩;have e:b=s1.heap.objs.size:=by simpa using hb
  subst e;exact I1.fpOk (wPa _) (I1.hok.fresh (wPa _))
 ·obtain⟨its,rv,p,hz⟩:=I1.tuple hq;refine wpAny_pyIter_tuple (show s1.heap.IsTuple a its.toArray from p) ?_;refine⟨s1.heap.objs.size,[s1.heap.objs.size],_,_,H1,rfl,I1.kept (t':=s1.toks) fun b o e=>wIa _ e,QW a _,⟨_,wJa _ rfl,rfl,rfl⟩,fun b hb=>?_,q⟩;have e:b=s1.heap.objs.size:=by simpa using hb
  subst e;exact I1.fpOk (wPa _) (I1.hok.fresh (wPa _))
noncomputable def zK:D->Option (List D)
 | .lst l=>some l
 | .tup l=>some l
 | _=>none
@[simp] theorem Xu(l:List D):zK (.lst l)=some l:=rfl
@[simp] theorem i_(l:List D):zK (.tup l)=some l:=rfl
@[simp] def jz(de:DE)(Z:jg):Option (List D):=(de Z).bind zK
def eW{H0 H:Hp}{O0 O:List Addr}{d:D}{v:V}{l:List D}(r:RP K H0 O0 H O d v)(e:zK d=some l)(s0:j7 H0 H)(s1:j7 (jd H0 O0) (jd H O)):
  ∃a,v=.ref a/\(((∃xs,jC K H a xs)/\xq K (Dh K a) H0 O0 H O l) \/ ((∃xs,Jr K H a xs)/\xq K (Di K a) H0 O0 H O l)):=by
 unfold zK at e;split at e
 ·cases e;obtain⟨p,xs,rfl,h1,h2⟩:=(r.at s0 s1 (j7.refl _)).lst;refine⟨p,rfl,.inl ⟨⟨xs,jC.of h1⟩,fun i H' O' t0 t1 t2 _=>?_⟩⟩;obtain⟨p',ys,e',g1,g2⟩:=(r.at t0 t1 t2).lst;cases e';refine⟨fun d hd=>?_,fun hi=>⟨ys,jC.of g1,by rw[g2.len,hi];exact wPa _⟩⟩;obtain⟨x,hx,rx⟩:=g2.get hd;refine⟨⟨ys,x,jC.of g1,hx⟩,fun x' H'' y=>?_⟩;obtain⟨e1,y⟩:=y;have z:=y ys (jC.of g1);rw[hx]at z;cases z;rw[e1];exact⟨j7.refl _,rx⟩
 ·cases e;obtain⟨p,xs,rfl,h1,h2⟩:=(r.at s0 s1 (j7.refl _)).tup;refine⟨p,rfl,.inr ⟨⟨xs,h1⟩,fun i H' O' t0 t1 t2 _=>?_⟩⟩;obtain⟨p',ys,e',g1,g2⟩:=(r.at t0 t1 t2).tup;cases e';refine⟨fun d hd=>?_,fun hi=>⟨ys,g1,by rw[g2.len,hi];exact wPa _⟩⟩;obtain⟨x,hx,rx⟩:=g2.get hd;refine⟨⟨ys,x,g1,hx⟩,fun x' H'' y=>?_⟩;obtain⟨e1,y⟩:=y;have z:=y ys g1;rw[hx]at z;cases z;rw[e1];exact⟨j7.refl _,rx⟩
 ·cases e
def HD(h:PE X e (tP K de))(hK:X.K=K:=by rfl):PI X tg e (zF K (jz de)):=uG (eV h) fun U H R xx=>by
 obtain⟨H0,O0,Z,O,items,Re,ed,q⟩:=xx;subst hK;obtain⟨d,e1,e2⟩:=j6 ed;refine⟨H0,O0,Z,O,d,Re,e1,fun v H' s r=>?_⟩;have R':=Re.grow s;obtain⟨a,rfl,z⟩:=eW r e2 R'.keep R'.in0;rcases z with⟨z1,z2⟩ | ⟨z1,z2⟩
 ·exact⟨a,rfl,.inl ⟨z1,q _ H' s z2⟩⟩
 ·exact⟨a,rfl,.inr ⟨z1,q _ H' s z2⟩⟩
noncomputable def Jd(lo:Int)(n:Nat):List D:=(List.range n).map fun(i:Nat)=>D.int (lo+(i:Int))
def eX{H0 H:Hp}{O0 O:List Addr}{lo:Int}{n:Nat}:xq K (bR lo n) H0 O0 H O (Jd lo n):=fun i H' O' _ _ _ _=>by
 refine⟨fun d hd=>?_,fun hi=>?_⟩
 ·unfold Jd at hd;rw[uAa]at hd;cases q:(List.range n)[i]? with
  | none=>rw[q]at hd;cases hd
  | some j=>
   rw[q]at hd;cases hd;obtain⟨h1,h2⟩:=uSa q;rw[List.getElem_range]at h2;subst h2;rw[List.length_range]at h1;refine⟨h1,fun x H'' y=>?_⟩;obtain⟨e1,e2⟩:=y;rw[e1,e2];exact⟨j7.refl _,by rw[j8]⟩
 ·unfold Jd at hi;rw[vYa,List.length_range]at hi;show n<=i;omega
noncomputable def Ju(j:Int):Bool:=Nat.blt j.natAbs 4611686018427387904
def yv(h1:-4611686018427387904 < j)(h2:j < 4611686018427387904):Ju j=true:=by unfold Ju;rw[Nat.blt_eq];omega
def xr(h:Ju j=true):-(2 ^ 62)<=j/\j < 2 ^ 62:=by
 unfold Ju at h;rw[Nat.blt_eq]at h;have e:(2:Int) ^ 62=4611686018427387904:=by decide
 rw[e];omega
@[simp] def Yl(de:DE)(Z:jg):Option (List D):=(de Z).bind fun d=>match d with
 | .int j=>if Ju j=true then some (Jd 0 j.toNat)else none
 | _=>none
set_option tactic.hygienic true in
theorem eY(hg:Gl X "range")(hm:X.mg "range" = none)(h:PE X a (tR K da))(hs:starEach [a] X.env=[(false,eval a X.env)]:=by rfl):PI X tg (.Call (.Name "range" p) [a] [] pos) (zF K (Yl da)):=uG (X5 hg hm (JE h Yr (by rw[hs];rfl)) hs) fun U H R xx=>by
 obtain⟨H0,O0,Z,O,items,Re,ed,q⟩:=xx;obtain⟨d,e1,e2⟩:=j6 ed;refine⟨H0,O0,Z,O,d,Re,e1,fun v H' s r=>?_⟩;split at e2
 ·split at e2
  ·cases e2;rename_i hj;have hj:=xr hj;exact⟨_,by rw[r.int],hj.1,hj.2,q _ H' s eX⟩
  ·cases e2
 ·cases e2
def HE(K:Fr)(ta:TA):TI:=fun U H R=>ta U H fun vs H1=>∃k j a b xs ys,vs=[.ref a,.ref b]/\Uk K k H1 a xs/\Uk K j H1 b ys/\R (iV K k j a b) H1
def C7(hg:Gl X "zip")(hm:X.mg "zip" = none)(ha:PA X [e1,e2] ta)(hs:starEach [e1,e2] X.env=[(false,eval e1 X.env),(false,eval e2 X.env)]:=by rfl)(hs2:starEach [e2] X.env=[(false,eval e2 X.env)]:=by rfl):
  PI X (.Tuple es x1 tp) (.Call (.Name "zip" p) [e1,e2] [] pos) (HE X.K ta):=by
 intro pins s U H R I h;refine Call_ (ZH I hg hm boot_zip (PyProof.Rows.callWith_type1 (ju (ha pos pins s U H _ I h) fun us s1 xx=>?_) (by rw[hs,hs2]) (by rw[hs2];rfl)));obtain⟨vs,H1,I1,r1,q1⟩:=xx;obtain⟨k,j,a,b,xs,ys,e,qa,qb,q⟩:=q1;subst e;cases r1 with
 | cons r rr=>
  cases rr with
  | cons r' rr=>
   cases rr;cases r;cases r';obtain⟨ia,ra,pa,_⟩:=I1.seqK qa;obtain⟨ib,rb,pb,_⟩:=I1.seqK qb;refine Ak pa pb fun h' b1 b2 b3 b4 b5 bk=>?_;refine wpAny_pyIter_zip b1 ?_;have fr:∀m,Jj X pins H1 (s1.heap.objs.size+m):=fun m=>I1.fpOk (vKa _ _) (I1.hok.fresh (vKa _ _));refine⟨_,_,_,_,H1,rfl,I1.kept (t':=s1.toks) bk,Ao (zipApart_new pa.lt pb.lt),⟨b1,b2,⟨_,_,b3⟩,b4,b5⟩,fun c hc=>?_,q⟩;simp only[List.mem_cons,List.not_mem_nil,or_false]at hc;rcases hc with rfl | rfl | rfl | rfl | rfl
   ·exact fr 4
   ·exact fr 2
   ·exact fr 3
   ·exact fr 0
   ·exact fr 1
def K0{O:List Addr}{H:Hp}{d:D}{v:V}{l:List D}(r:RB K O H d v)(e:zK d=some l):∃k a xs,v=.ref a/\Uk K k H a xs/\j4 K (jd H O) l xs/\(k=Sk.l↔∃m,d=D.lst m):=by
 unfold zK at e;split at e
 ·cases e;obtain⟨p,xs,rfl,h1,h2⟩:=r.lst;exact⟨.l,p,xs,rfl,jC.of h1,h2,Iff.intro (fun _=>⟨_,rfl⟩) (fun _=>rfl)⟩
 ·cases e;obtain⟨p,xs,rfl,h1,h2⟩:=r.tup;exact⟨.t,p,xs,rfl,h1,h2,Iff.intro (fun z=>nomatch z) (fun z=>by obtain⟨_,z⟩:=z;cases z)⟩
 ·cases e
def Bn{k k':Sk}{d:D}(h:k=Sk.l↔∃m,d=D.lst m)(h':k'=Sk.l↔∃m,d=D.lst m):k=k':=by
 cases k <;> cases k' <;> first | rfl | (exact vDa (h'.mpr (h.mp rfl)) (by intro z;cases z)) | (exact vDa (h.mpr (h'.mp rfl)) (by intro z;cases z))
@[simp] def xt(da db:DE)(Z:jg):Option (List D):=(da Z).bind fun x=>(db Z).bind fun y=>(zK x).bind fun l=>(zK y).bind fun m=>some (List.zipWith (fun p q=>D.tup [p,q]) l m)
def Aw{O:List Addr}{H:Hp}{p:Addr}{d d':D}{x y:V}(hO:p∉O)(hp:H p=none)(r:j8 K (jd H O) d x)(r':j8 K (jd H O) d' y):j8 K (jd (upd H p (.tup [x,y])) O) (.tup [d,d']) (.ref p):=Y4 hO hp (j4.cons r (j4.cons r' j4.nil))
set_option tactic.hygienic true in
theorem HF{es:List Expr}{x1:Nat}{tp p:Pos}(hg:Gl X "zip")(hm:X.mg "zip" = none)(h:PE X a (tP K da))(h':PE X b (tP K db))(hs:starEach [a,b] X.env=[(false,eval a X.env),(false,eval b X.env)]:=by rfl)(hs2:starEach [b] X.env=[(false,eval b X.env)]:=by rfl)(hK:X.K=K:=by rfl):
  PI X (.Tuple es x1 tp) (.Call (.Name "zip" p) [a,b] [] pos) (zF K (xt da db)):=uG (C7 hg hm (JE h (JE h' Yr (by rw[hs2];rfl)) (by rw[hs,hs2])) hs hs2) fun U H R xx=>by
 obtain⟨H0,O0,Z,O,items,Re,ed,q⟩:=xx;subst hK;obtain⟨x,e1,ed⟩:=j6 ed;obtain⟨y,e2,ed⟩:=j6 ed;obtain⟨l,e3,ed⟩:=j6 ed;obtain⟨m,e4,ed⟩:=j6 ed;cases ed;refine⟨H0,O0,Z,O,x,Re,e1,fun v H1 s1 r=>⟨H0,O0,Z,O,y,Re.grow s1,e2,fun v2 H2 s2 r2=>?_⟩⟩;have R1:=Re.grow s1;have R2:=R1.grow s2;have r':RP X.K H0 O0 H2 O x v:=by
  rcases r with r | r
  ·exact .inl (r.same (ji s2))
  ·exact .inr r
 obtain⟨k,p,xs,rfl,h1,h2,hk⟩:=K0 (r'.at R2.keep R2.in0 (j7.refl _)) e3;obtain⟨j,p',ys,rfl,h1',h2',hj⟩:=K0 (r2.at R2.keep R2.in0 (j7.refl _)) e4;refine⟨k,j,p,p',xs,ys,rfl,h1,h1',q _ H2 (s1.trans s2) fun i H' O' t0 t1 t2 ta=>?_⟩;obtain⟨k2,q2,us,ea,g1,g2,hk2⟩:=K0 (r'.at t0 t1 t2) e3;cases ea;cases Bn hk hk2;obtain⟨j2,q3,ws,eb,g1',g2',hj2⟩:=K0 (r2.at t0 t1 t2) e4;cases eb;cases Bn hj hj2;refine⟨fun d hd=>?_,fun hi=>⟨us,ws,g1,g1',?_⟩⟩
 ·rw[List.getElem?_zipWith]at hd;split at hd
  ·cases hd;rename_i dp dq hp hq;obtain⟨u,hu,ru⟩:=g2.get hp;obtain⟨w,hw,rw'⟩:=g2'.get hq;refine⟨⟨us,ws,u,w,g1,g1',hu,hw⟩,fun x' H'' yy=>?_⟩;obtain⟨pp,hpp,rfl,yy⟩:=yy;rw[yy _ _ _ _ g1 g1' hu hw];exact⟨jB hpp _,Aw (fun z=>ta pp z hpp) hpp ru rw'⟩
  ·cases hd
 ·rw[List.length_zipWith]at hi;rw[g2.len,g2'.len];omega
noncomputable def Ym:Nat->List D->List D
 | _,[]=>[]
 | n,d::ds=>.tup [.int n,d]::Ym (n+1) ds
theorem ZJ:∀(n:Nat) (l:List D),(Ym n l).length=l.length
 | _,[]=>rfl
 | n,d::ds=>by rw[Ym,vXa,vXa,ZJ]
theorem UX:∀(n:Nat) (l:List D) (i:Nat) (d:D),(Ym n l)[i]?=some d->∃d',l[i]?=some d'/\d=.tup [.int ((n+i:Nat):Int),d']
 | _,[],_,_,h=>by simp[Ym]at h
 | n,x::l,0,d,h=>by
  simp[Ym]at h;exact⟨x,rfl,by rw[<-h];rfl⟩
 | n,x::l,i+1,d,h=>by
  simp only[Ym,List.getElem?_cons_succ]at h;obtain⟨d',h1,h2⟩:=UX (n+1) l i d h;refine⟨d',by simpa using h1,?_⟩;rw[h2];have:n+1+i=n+(i+1):=by omega
  rw[this]
noncomputable def uH:D->Option (List D)
 | .lst l=>some l
 | _=>none
@[simp] theorem Ia(l:List D):uH (.lst l)=some l:=rfl
@[simp] def Vo(de:DE)(Z:jg):Option (List D):=(de Z).bind fun d=>(uH d).bind fun l=>some (Ym 0 l)
def eZ{es:List Expr}{x1:Nat}{tp p:Pos}(hg:Gl X "enumerate")(hm:X.mg "enumerate" = none)(h:PE X a (tP K da))(hs:starEach [a] X.env=[(false,eval a X.env)]:=by rfl)(hK:X.K=K:=by rfl):
  PI X (.Tuple es x1 tp) (.Call (.Name "enumerate" p) [a] [] pos) (zF K (Vo da)):=uG (C3 hg hm (JE h Yr (by rw[hs];rfl)) hs) fun U H R xx=>by
 obtain⟨H0,O0,Z,O,items,Re,ed,q⟩:=xx;subst hK;obtain⟨x,e1,ed⟩:=j6 ed;obtain⟨l,e3,ed⟩:=j6 ed;cases ed;refine⟨H0,O0,Z,O,x,Re,e1,fun v H1 s1 r=>?_⟩;have R1:=Re.grow s1;unfold uH at e3;split at e3
 ·cases e3;obtain⟨p,xs,rfl,h1,h2⟩:=(r.at R1.keep R1.in0 (j7.refl _)).lst;refine⟨p,xs,rfl,jC.of h1,q _ H1 s1 fun i H' O' t0 t1 t2 ta=>?_⟩;obtain⟨p',us,ea,g1,g2⟩:=(r.at t0 t1 t2).lst;cases ea;refine⟨fun d hd=>?_,fun hi=>⟨us,jC.of g1,by rw[g2.len,hi,ZJ];exact wPa _⟩⟩;obtain⟨d',hd',rfl⟩:=UX 0 l i d hd;obtain⟨u,hu,ru⟩:=g2.get hd';refine⟨⟨us,u,jC.of g1,hu⟩,fun x' H'' yy=>?_⟩;obtain⟨pp,hpp,rfl,yy⟩:=yy;rw[yy _ _ (jC.of g1) hu];exact⟨jB hpp _,Aw (fun z=>ta pp z hpp) hpp (by rw[j8,Nat.zero_add]) ru⟩
 ·cases e3
abbrev DG:=D->jg->Option jg
abbrev Xv:=List D->jg->Option jg
def tG(K:Fr)(k:Nat)(g:DG):TG:=fun v U H Q=>∃H0 O0 Z O d Z',Rel K H0 O0 Z U H O/\j8 K (jd H O) d v/\g d Z=some Z'/\∀U',Rel K H0 O0 Z' U' H O->U'.drop k=U.drop k->Q U' H
def Xw(K:Fr)(k:Nat)(g:Xv):Q4:=fun vs U H Q=>∃H0 O0 Z O ds Z',Rel K H0 O0 Z U H O/\j4 K (jd H O) ds vs/\g ds Z=some Z'/\∀U',Rel K H0 O0 Z' U' H O->U'.drop k=U.drop k->Q U' H
def Bo(h:PG X tg t)(f:∀v U H Q,t' v U H Q->t v U H Q):PG X tg t':=fun pins s U H v u Q I r q=>h pins s U H v u Q I r (f v U H Q q)
def Xx(h:UD X ts t)(f:∀v U H Q,t' v U H Q->t v U H Q):UD X ts t':=fun pins s U H v u Q I r q=>h pins s U H v u Q I r (f v U H Q q)
@[simp] noncomputable def gN(i:Nat)(d:D)(Z:jg):Option jg:=some (Z.set i (.cl d))
def e_(h:PG X (.Name x pos) (Yh i))(hi:i < k:=by decide):PG X (.Name x pos) (tG K k (gN i)):=Bo h fun v U H Q xx=>by
 obtain⟨H0,O0,Z,O,d,Z',R,r,e,q⟩:=xx;cases e;exact q _ (R.set r i) (List.drop_set_of_lt hi)
@[simp] noncomputable def gZ(ds:List D)(Z:jg):Option jg:=match ds with
 | []=>some Z
 | _=>none
@[simp] noncomputable def gC(g:DG)(gs:Xv)(ds:List D)(Z:jg):Option jg:=match ds with
 | d::r=>(g d Z).bind fun Z1=>gs r Z1
 | []=>none
def HG:UD X [] (Xw K k gZ):=Xx Q5 fun v U H Q xx=>by
 obtain⟨H0,O0,Z,O,d,Z',R,r,e,q⟩:=xx;unfold gZ at e;split at e
 ·cases e;rw[j4]at r;exact⟨r,q _ R rfl⟩
 ·cases e
def E1(h1:PG X e (tG K k g))(h2:UD X es (Xw K k gs))(hs:(assignEach (e::es) X.env).map (·.2)=assign e X.env::(assignEach es X.env).map (·.2):=by rfl):UD X (e::es) (Xw K k (gC g gs)):=Xx (uB h1 h2 hs) fun v U H Q xx=>by
 obtain⟨H0,O0,Z,O,ds,Z',R,r,ed,q⟩:=xx;unfold gC at ed;split at ed
 ·obtain⟨Z1,e1,e2⟩:=j6 ed;rw[j4]at r;obtain⟨v1,vr,rfl,a,b⟩:=r;exact⟨v1,vr,rfl,H0,O0,Z,O,_,Z1,R,a,e1,fun U' R' k1=>⟨H0,O0,Z1,O,_,Z',R',b,e2,fun U2 R2 k2=>q U2 R2 (k2.trans k1)⟩⟩
 ·cases ed
@[simp] noncomputable def gT(n:Nat)(gs:Xv)(d:D)(Z:jg):Option jg:=match d with
 | .tup l=>if l.length=n then gs l Z else none
 | _=>none
def HH(n:Nat)(hc:X.calm=true)(h:UD X es (Xw K kk gs))(hn:(assignEach es X.env).length=n:=by rfl)(hst:(assignEach es X.env).findIdx? (·.1)=none:=by rfl)(hK:X.K=K:=by rfl):PG X (.Tuple es k pos) (tG K kk (gT n gs)):=Bo (X0 hc h hn hst) fun v U H Q xx=>by
 obtain⟨H0,O0,Z,O,d,Z',R,r,ed,q⟩:=xx;subst hK;unfold gT at ed;split at ed
 ·split at ed
  ·obtain⟨a,xs,rfl,h1,h2⟩:=RB.tup (.inl r);exact⟨a,xs,rfl,h1,by rw[h2.len];assumption,H0,O0,Z,O,_,Z',R,h2,ed,q⟩
  ·cases ed
 ·cases ed
@[simp] noncomputable def jx(_:jg):Option Bool:=some true
def lE:ZW X [] (tT K jx):=fun pins s U H Q I xx=>by
 obtain⟨H0,O0,Z,O,b,R,ed,q⟩:=xx;cases ed;exact cZ pins s U H Q I (q H (j7.refl H))
def lG(h:PT X c (tT K dt)):ZW X [c] (tT K dt):=c_ h
@[simp] noncomputable def JZ(k:Nat)(caps:List Nat)(Z:jg):jg:=List.replicate k .un++caps.map fun j=>(Z[j]?).getD .un
noncomputable def Ji(g:DG)(dc:DT)(de:DE):List D->jg->Option (List D)
 | [],_=>some []
 | d::ds,Z=>(g d Z).bind fun Z1=>(dc Z1).bind fun k=>if k=true then(de Z1).bind fun y=>(Ji g dc de ds Z).bind fun ys=>some (y::ys)else Ji g dc de ds Z
@[simp] def JO(k:Nat)(caps:List Nat)(di:DI)(g:DG)(dc:DT)(de:DE)(Z:jg):Option OD:=(di Z).bind fun items=>(Ji g dc de items (JZ k caps Z)).bind fun ys=>if items.length<=sizeLine then some (.lst ys)else none
def GV(own:List Str)(caps:Tj)(R:Rel K H0 O0 Z U H O)(hnd:(caps.map (·.2)).Nodup):Rel K H0 O0 (JZ own.length (caps.map (·.2)) Z) (YQ own caps U) H O:=by
 have key:∀(i:Nat) (s:Sl),s≠.un->(JZ own.length (caps.map (·.2)) Z)[i]?=some s->∃m x j,i=own.length+m/\caps[m]?=some (x,j)/\Z[j]?=some s/\(YQ own caps U)[i]?=some ((U[j]?).join):=fun i s hs e=>by
  unfold JZ at e;by_cases hi:i < own.length
  ·rw[uRa (by rw[List.length_replicate];exact hi),List.getElem?_replicate,if_pos hi]at e;cases e;exact vDa rfl hs
  ·rw[List.getElem?_append_right (by rw[List.length_replicate];omega),List.length_replicate,List.map_map,uAa]at e;cases q:caps[i - own.length]? with
   | none=>rw[q]at e;cases e
   | some p=>
    rw[q]at e;obtain⟨x,j⟩:=p;have e:(Z[j]?).getD .un=s:=vFa e;refine⟨i - own.length,x,j,by omega,q,?_,?_⟩
    ·cases z:Z[j]? with
     | none=>rw[z]at e;exact vDa e.symm hs
     | some s'=>rw[z]at e;rw[<-e];rfl
    ·show(own.map (fun _=>(none:Option V))++caps.map fun(p:Str×Nat)=>(U[p.2]?).join)[i]?=_;rw[List.getElem?_append_right (by rw[vYa];omega),vYa,uAa,q];rfl
 have jn:∀{o:Option (Option V)} {v:V},o.join=some v->o=some (some v):=fun {o v} z=>by
  cases o with
  | none=>cases z
  | some w=>cases w with
   | none=>cases z
   | some u=>cases z;rfl
 have mj:∀{m m' j:Nat} {x x':Str},caps[m]?=some (x,j)->caps[m']?=some (x',j)->m=m':=fun {m m' j x x'} c1 c2=>by
  have h1:(caps.map (·.2))[m]?=some j:=by rw[uAa,c1];rfl
  have h2:(caps.map (·.2))[m']?=some j:=by rw[uAa,c2];rfl
  have l1:=(uSa h1).1;exact(List.getElem?_inj l1 hnd).mp (h1.trans h2.symm)
 refine⟨?_,R.sub,R.fr,R.al0,R.al,R.keep,?_,?_,?_,?_,?_⟩
 ·show(own.map (fun _=>(none:Option V))++caps.map fun(p:Str×Nat)=>(U[p.2]?).join).length=_;unfold JZ;simp
 ·intro i d e;obtain⟨m,x,j,_,_,e2,e3⟩:=key i _ (by intro z;cases z) e;obtain⟨v,h1,h2⟩:=R.cl j d e2;exact⟨v,by rw[e3,h1];rfl,h2⟩
 ·intro i d e;obtain⟨m,x,j,_,_,e2,e3⟩:=key i _ (by intro z;cases z) e;obtain⟨v,h1,h2⟩:=R.bo j d e2;exact⟨v,by rw[e3,h1];rfl,h2⟩
 ·intro i q o e;obtain⟨m,x,j,_,_,e2,e3⟩:=key i _ (by intro z;cases z) e;obtain⟨l,z,h1,h2⟩:=R.ow j q o e2;exact⟨l,z,by rw[e3,h1];rfl,h2⟩
 ·intro i i' q q' ds es l e e' f f';obtain⟨m,x,j,rfl,c1,e2,e3⟩:=key i _ (by intro z;cases z) e;obtain⟨m',x',j',rfl,c2,e2',e3'⟩:=key i' _ (by intro z;cases z) e';rw[e3]at f;rw[e3']at f';have ej:=R.dist j j' q q' ds es l e2 e2' (jn (vFa f)) (jn (vFa f'));subst ej;rw[mj c1 c2]
 ·intro i ls e;obtain⟨m,x,j,rfl,c1,e2,e3⟩:=key i _ (by intro z;cases z) e;obtain⟨l,ps,h1,h2,nd,f,u⟩:=R.lo j ls e2;refine⟨l,ps,by rw[e3,h1];rfl,h2,nd,fun a ha=>⟨(f a ha).1,(f a ha).2.1,fun⟨k,q,o,y,z⟩=>(f a ha).2.2 ?_⟩,fun k ms y=>?_⟩
  ·obtain⟨_,_,j',_,_,y2,y3⟩:=key k _ (by intro z;cases z) y;rw[y3]at z;exact⟨j',q,o,y2,jn (vFa z)⟩
  ·obtain⟨m',x',j',rfl,c2,y2,_⟩:=key k _ (by intro z;cases z) y;have:=u j' ms y2;subst this;rw[mj c1 c2]
end
section
variable {X:Cx} {K:Fr} {e a b c d tg:Expr} {de da db dc dd:DE} {pos:Pos}
set_option tactic.hygienic true
theorem WA{own:List Str}{caps:Tj}{di:DI}{g:DG}{dc:DT}{de:DE}(hnd:(caps.map (·.2)).Nodup):∀U H Q,tF K (JO own.length (caps.map (·.2)) di g dc de) U H Q->D_ own caps (zF K di) (tG K own.length g) (tT K dc) (tE K de) U H Q:=fun U H Q xx=>by
 obtain⟨H0,O0,Z,O,o,R,ed,q⟩:=xx;obtain⟨items,e1,ed⟩:=j6 ed;obtain⟨ys,e2,ed⟩:=j6 ed;split at ed
 ·rename_i hz;cases ed;refine⟨H0,O0,Z,O,items,R,e1,fun J H1 s1 hJ=>?_⟩;have R1:=R.grow s1;have Rc:=GV own caps R1 hnd;refine⟨fun i m vs H'=>∃ys1 ys2,Ji g dc de (items.drop i) (JZ own.length (caps.map (·.2)) Z)=some ys2/\ys1++ys2=ys/\j7 H1 H'/\j4 K (jd H' O) ys1 vs/\m=items.length - i/\i<=items.length/\ys1.length<=i,⟨items.length,[],ys,by simpa using e2,rfl,j7.refl _,j4.nil,rfl,Nat.zero_le _,wPa _⟩,?_⟩;rintro i m vs H' ⟨ys1,ys2,d1,d2,sH,rp,rfl,hi,hy⟩;have R2:=R1.grow sH;obtain⟨hgo,hstop⟩:=hJ i H' O R2.keep R2.in0 (ji sH) R2.al;by_cases hlt:i < items.length
  ·right;have hx:items[i]?=some items[i]:=by simp[hlt]
   have hd:items.drop i=items[i]::items.drop (i+1):=(List.getElem_cons_drop hlt).symm;rw[hd]at d1;obtain⟨g1,g2⟩:=hgo _ hx;refine⟨g1,by rw[rp.len];lia,fun vs' H4=>∃ys1 ys2,Ji g dc de (items.drop (i+1)) (JZ own.length (caps.map (·.2)) Z)=some ys2/\ys1++ys2=ys/\j7 H1 H4/\j4 K (jd H4 O) ys1 vs'/\ys1.length<=i+1,?_,fun x H'' y=>?_⟩
   ·rintro vs' H4 ⟨z1,z2,a1,a2,a3,a4,a5⟩;exact⟨items.length - (i+1),by lia,z1,z2,a1,a2,a3,a4,rfl,hlt,a5⟩
   ·obtain⟨sy,rx⟩:=g2 x H'' y;obtain⟨Z1,f1,f2⟩:=j6 d1;obtain⟨k,f3,f4⟩:=j6 f2;refine⟨H0,O0,_,O,_,Z1,Rc.grow (sH.trans sy),rx,f1,fun U2 R3 kd=>⟨kd,H0,O0,Z1,O,k,R3,f3,fun H3 s3=>?_⟩⟩;cases k with
    | true=>
     rw[if_pos rfl]at f4;obtain⟨y1,f5,f6⟩:=j6 f4;obtain⟨yr,f7,f8⟩:=j6 f6;cases f8;refine zI ⟨H0,O0,Z1,O,y1,R3.grow s3,f5,fun v H4 s4 rv=>?_⟩;exact⟨ys1++[y1],yr,f7,by rw[<-d2];simp,sH.trans (sy.trans (s3.trans s4)),(rp.same (ji (sy.trans (s3.trans s4)))).snoc rv,by simp;exact hy⟩
    | false=>
     rw[if_neg Bool.false_ne_true]at f4;exact zH ⟨ys1,ys2,f4,d2,sH.trans (sy.trans s3),rp.same (ji (sy.trans s3)),by lia⟩
  ·left;have ei:i=items.length:=by lia
   refine⟨hstop ei,by rw[rp.len];lia,fun Dd hD=>?_⟩;have e0:items.drop i=[]:=List.drop_of_length_le (by lia);rw[e0]at d1;have e3:ys2=[]:=by
    have d1:some []=some ys2:=d1;exact(vFa d1).symm
   rw[e3,uFa]at d2;subst d2;exact q Dd _ ((s1.trans sH).trans (jB hD _)) ((s1.trans sH).none hD) (yT hD rp)
 ·cases ed
def lH{iter elt:Expr}{ifs:List Expr}{scope:Scope}{di:DI}{g:DG}{dc:DT}{de:DE}(own:List Str)(caps:Tj)(S:CScope X scope)(hcap:Caps X scope caps)(hc:X.calm=true)(hi:PI X tg iter (zF K di))
  (hg:∀s3 H3 ex',PG (X.comp (cN own caps) scope s3 H3 ex') tg (tG K own.length g)) (ht:∀s3 H3 ex',ZW (X.comp (cN own caps) scope s3 H3 ex') ifs (tT K dc)) (he:∀s3 H3 ex',PE (X.comp (cN own caps) scope s3 H3 ex') elt (tE K de))
  (hnd:(caps.map (·.2)).Nodup:=by decide) (hs:∀x,foldedSetIterable iter X.env x=pure x:=by intro _;rfl):PE X (.ListComp elt [⟨tg,iter,ifs,0⟩] scope pos) (tF K (JO own.length (caps.map (·.2)) di g dc de)):=jF (FW own caps S hcap hc hi hg ht he hs) (WA hnd)
def K3(K:Fr)(ks:List Bool)(F:List D->Option D):Sp:=fun vs H Q _=>∃O ds d,(∀a∈O,H a≠none)/\yG K O H ks ds vs/\F ds=some d/\∀v H',j7 H H'->j8 K (jd H' O) d v->Q v H'
def Xy(K:Fr)(ks:List Bool)(F:List D->Option OD):Sp:=fun vs H Q _=>∃O ds o,(∀a∈O,H a≠none)/\yG K O H ks ds vs/\F ds=some o/\∀l H',j7 H H'->H l=none->JL K H' (jd H' (l::O)) l o->Q (.ref l) H'
variable {k:Nat} {x m:Str} {ps:List Str} {p apos:Pos} {es:List Expr} {l:DA} {ks:List Bool}
def Xz(G:FnI X.prog X.w X.K X.mg X.base k x ps (K3 K ks F))(hr:Room k X.A)(ha:PA X (e::es) (Ze K l))(hk:l.map (·.1)=ks:=by rfl)(hg:Gl X x:=by rfl)(hdb:(x==("__debug__" : Str))=false:=by decide)
  (he:starEach (e::es) X.env=(false,eval e X.env)::starEach es X.env:=by rfl) (hpl:(backTo pos (starEach es X.env)).any (·.1)=false:=by rfl):PE X (.Call (.Name x p) (e::es) [] pos) (tE K (ja F l)):=jF (xm G hr ha hg hdb he hpl) fun U H Q xx=>by
 obtain⟨H0,O0,Z,O,d,R,ed,q⟩:=xx;subst hk;obtain⟨ds,e1,e2⟩:=j6 ed;refine⟨H0,O0,Z,O,ds,R,e1,fun vs H1 s1 r1=>?_⟩
 (try dsimp only)
 rw[uFa];exact⟨O,ds,d,(R.grow s1).al,r1,e2,fun v H' s r=>q v H' (s1.trans s) r⟩
def E2(G:FnI X.prog X.w X.K X.mg X.base k x ps (Xy K ks F))(hr:Room k X.A)(ha:PA X (e::es) (Ze K l))(hk:l.map (·.1)=ks:=by rfl)(hg:Gl X x:=by rfl)(hdb:(x==("__debug__" : Str))=false:=by decide)
  (he:starEach (e::es) X.env=(false,eval e X.env)::starEach es X.env:=by rfl) (hpl:(backTo pos (starEach es X.env)).any (·.1)=false:=by rfl):PE X (.Call (.Name x p) (e::es) [] pos) (tF K (Jm F l)):=jF (xm G hr ha hg hdb he hpl) fun U H Q xx=>by
 obtain⟨H0,O0,Z,O,d,R,ed,q⟩:=xx;subst hk;obtain⟨ds,e1,e2⟩:=j6 ed;refine⟨H0,O0,Z,O,ds,R,e1,fun vs H1 s1 r1=>?_⟩
 (try dsimp only)
 rw[uFa];exact⟨O,ds,d,(R.grow s1).al,r1,e2,fun l H' s hn r=>q l H' (s1.trans s) (s1.none hn) r⟩
noncomputable def Vp(C:Addr)(m:Str)(F:List D->Option D):D->Option D:=fun d=>match d with
 | .ins C' ns ds=>if C'=C/\m∉ns then F [d]else none
 | _=>none
theorem GC:∀{ns:List Str} {xs:List α},m∉ns->(ns.zip xs).lookup m=none
 | [],_,_=>rfl
 | _::_,[],_=>rfl
 | n::ns,x::xs,h=>by
  rw[List.zip_cons_cons,List.lookup_cons];have e:(m==n)=false:=by
   rw[beq_eq_false_iff_ne];exact fun z=>h (by rw[z];exact wNa)
  rw[e];exact GC fun z=>h (wMa _ z)
theorem C8(he:PE X a (tR K da))(c:Cls K C)(M:MtI X.prog X.w X.K X.mg X.base k C m ps (K3 K [false] F))(hr:Room k X.A)
  (ht:eval (.Call (.Attribute a m apos) [] [] pos) X.env=(do
   let ov<-eval a X.env
   standAt apos.atName
   let (f,first)<-holding [ov] (getMethod ov m pl)
   callWith pos f first (backTo pos (starEach [] X.env)) (backToKw pos (keywordEach [] X.env))):=by rfl) (hK:X.K=K:=by rfl):
  PE X (.Call (.Attribute a m apos) [] [] pos) (tE K (d1 (Vp C m F) da)):=by
 subst hK;refine jF (eA he c M hr ht) fun U H Q xx=>?_;obtain⟨H0,O0,Z,O,d,R,ed,q⟩:=xx;obtain⟨x,e1,e2⟩:=j6 ed;refine⟨H0,O0,Z,O,x,R,e1,fun v H1 s1 r=>?_⟩;unfold Vp at e2;split at e2
 ·split at e2
  ·rename_i hh;obtain⟨rfl,hm⟩:=hh;have r0:=r;obtain⟨pa,dx,xs,rfl,h1,hn,h2⟩:=r.ins;exact⟨pa,dx,_,rfl,h1,GC hm,O,[_],d,(R.grow s1).al,⟨r0,trivial⟩,e2,fun v H' s r=>q v H' (s1.trans s) r⟩
  ·cases e2
 ·cases e2
def Bp(K:Fr)(C:Addr)(ks:List Bool)(F:Addr->List D->Option OD):Sp:=fun vs H Q _=>∃O ds p dx vs' o,vs=.ref p::vs'/\(∀a∈O,H a≠none)/\H p=some (.ins C dx [])/\p∉O/\yG K O (jd H [p]) ks ds vs'/\F p ds=some o/\∀H',j7 (jd H [p]) H'->JL K H' (jd H' (p::O)) p o->Q .non H'
@[simp] def xu(F:List D->Option OD)(l:DA)(Z:jg):Option OD:=(Yk l Z).bind F
def E3(M:MkI X.prog X.w X.K X.mg X.base k C x ps (Bp K C ks F))(hF:∀p ds o,F1 ds=some o->F p ds=some o)(hr:Room (k+1) X.A)(ha:PA X (e::es) (Ze K l))(hk:l.map (·.1)=ks:=by rfl)(hg:Gl X x:=by rfl)(hdb:(x==("__debug__" : Str))=false:=by decide)
  (he:starEach (e::es) X.env=(false,eval e X.env)::starEach es X.env:=by rfl) (hpl:(backTo pos (starEach es X.env)).any (·.1)=false:=by rfl):PE X (.Call (.Name x p) (e::es) [] pos) (tF K (xu F1 l)):=jF (FX M hr ha hg hdb he hpl) fun U H Q xx=>by
 obtain⟨H0,O0,Z,O,o,R,ed,q⟩:=xx;subst hk;obtain⟨ds,e1,e2⟩:=j6 ed;refine⟨H0,O0,Z,O,ds,R,e1,fun vs H1 s1 r1=>fun y dy ny ndy hne=>?_⟩
 (try dsimp only)
 rw[uFa];have R1:=R.grow s1;have sB:j7 H1 (jd (upd (upd H1 dy (.own y)) y (.ins C dy [])) [y]):=fun c u z=>by
  rw[J3 (by intro w;simp at w;exact jJ z ny w),jr (jJ z ny),jr (jJ z ndy)];exact z
 refine⟨O,ds,y,dy,vs,o,rfl,fun c hc z=>?_,jS,R1.new ny,r1.same sB,hF y ds o e2,fun H' s ow=>⟨rfl,q y H' (s1.trans (sB.trans s)) (s1.none ny) ow⟩⟩;refine R1.al c hc ?_;by_cases h1:c=y
 ·rw[h1];exact ny
 ·rw[jr h1]at z;by_cases h2:c=dy
  ·rw[h2];exact ndy
  ·rw[jr h2]at z;exact z
inductive Rs where
 | nx (Z:jg) | rt (d:D) | rf (o:OD) | bk (Z:jg) | ct (Z:jg)
abbrev DS:=jg->Option Rs
def Fin(K:Fr)(H0:Hp)(O0:List Addr)(H:Hp)(O:List Addr)(E:Ends):Rs->Prop
 | .nx Z=>∀U' H' O',Rel K H0 O0 Z U' H' O'->j7 (jd H O) (jd H' O')->E.nx U' H'
 | .bk Z=>∀U' H' O',Rel K H0 O0 Z U' H' O'->j7 (jd H O) (jd H' O')->E.bk U' H'
 | .ct Z=>∀U' H' O',Rel K H0 O0 Z U' H' O'->j7 (jd H O) (jd H' O')->E.ct U' H'
 | .rt d=>∀v H',j7 H0 H'->j8 K (jd H' O0) d v->E.rt v H'
 | .rf o=>∀l H',j7 H0 H'->H0 l=none->JL K H' (jd H' (l::O0)) l o->E.rt (.ref l) H'
def Fin.mono{H0 H H1:Hp}{O0 O O1:List Addr}{E:Ends}{r:Rs}(s:j7 (jd H O) (jd H1 O1))(h:Fin K H0 O0 H O E r):Fin K H0 O0 H1 O1 E r:=by
 cases r with
 | nx Z=>exact fun U' H' O' R t=>h U' H' O' R (s.trans t)
 | bk Z=>exact fun U' H' O' R t=>h U' H' O' R (s.trans t)
 | ct Z=>exact fun U' H' O' R t=>h U' H' O' R (s.trans t)
 | rt d=>exact h
 | rf o=>exact h
def tS(K:Fr)(ds:DS):TS:=fun E U H=>∃H0 O0 Z O r,Rel K H0 O0 Z U H O/\ds Z=some r/\Fin K H0 O0 H O E r
variable {st:Stmt} {rest:List Stmt} {s1 s2:DS}
def yw{t t':TS}(h:PS X st t)(f:∀D U H,t' D U H->t D U H):PS X st t':=fun pins s U H D I q=>h pins s U H D I (f D U H q)
def Yu{t t':TS}(h:jP X rest t)(f:∀D U H,t' D U H->t D U H):jP X rest t':=fun pins s U H D I q=>h pins s U H D I (f D U H q)
@[simp] noncomputable def jv(Z:jg):Option Rs:=some (.nx Z)
def E4:jP X [] (tS K jv):=Yu Kv fun D U H xx=>by
 obtain⟨H0,O0,Z,O,r,R,ed,f⟩:=xx;cases ed;exact f U H O R (j7.refl _)
@[simp] noncomputable def j5(s1 s2:DS)(Z:jg):Option Rs:=(s1 Z).bind fun r=>match r with
 | .nx Z1=>s2 Z1
 | r=>some r
def vJ(h1:PS X st (tS K s1))(h2:jP X rest (tS K s2)):jP X (st::rest) (tS K (j5 s1 s2)):=Yu (Yq h1 h2) fun D U H xx=>by
 obtain⟨H0,O0,Z,O,r,R,ed,f⟩:=xx;obtain⟨r1,e1,e2⟩:=j6 ed;refine⟨H0,O0,Z,O,r1,R,e1,?_⟩;cases r1 with
 | nx Z1=>exact fun U' H' O' R' t=>⟨H0,O0,Z1,O',r,R',e2,f.mono t⟩
 | bk Z1=>cases e2;exact f
 | ct Z1=>cases e2;exact f
 | rt d=>cases e2;exact f
 | rf o=>cases e2;exact f
def E5(h1:PS X st (tS K s1)):jP X [st] (tS K s1):=Kw h1
@[simp] noncomputable def Zw(_:jg):Option Rs:=none
def Ax:jP X rest (tS K Zw):=Yu x_ fun D U H ⟨H0,O0,Z,O,r,R,ed,f⟩=>by cases ed
@[simp] def u8(i:Nat)(s:DS)(Z:jg):Option Rs:=match Z[i]? with
 | some (.ow _ o)=>s (Z.set i (.cl o.toD))
 | _=>none
def Ay(i:Nat)(h:jP X rest (tS K s1)):jP X rest (tS K (u8 i s1)):=Yu h fun D U H xx=>by
 obtain⟨H0,O0,Z,O,r,R,ed,f⟩:=xx;unfold u8 at ed;split at ed
 ·obtain⟨O',R',ss⟩:=R.share (by assumption);exact⟨H0,O0,_,O',r,R',ed,f.mono ss⟩
 ·cases ed
@[simp] noncomputable def jk(dt:DT)(s1 s2:DS)(Z:jg):Option Rs:=(dt Z).bind fun k=>if k=true then s1 Z else s2 Z
def lI(hc:PT X c (tT K dt))(ha:jP X sa (tS K s1))(hb:jP X sb (tS K s2)):PS X (.If c sa sb pos) (tS K (jk dt s1 s2)):=yw (QV hc ha hb) fun D U H xx=>by
 obtain⟨H0,O0,Z,O,r,R,ed,f⟩:=xx;obtain⟨k,e1,e2⟩:=j6 ed;refine⟨H0,O0,Z,O,k,R,e1,fun H' s=>?_⟩;cases k with
 | true=>rw[if_pos rfl]at e2;exact zI ⟨H0,O0,Z,O,r,R.grow s,e2,f.mono (ji s)⟩
 | false=>rw[if_neg Bool.false_ne_true]at e2;exact zH ⟨H0,O0,Z,O,r,R.grow s,e2,f.mono (ji s)⟩
@[simp] noncomputable def jp(i:Nat)(de:DE)(Z:jg):Option Rs:=(de Z).bind fun d=>some (.nx (Z.set i (.cl d)))
def E6:∀D U H,tS K (jp i de) D U H->zq (tE K de) (Yh i) D U H:=fun D U H xx=>by
 obtain⟨H0,O0,Z,O,r,R,ed,f⟩:=xx;obtain⟨d,e1,e2⟩:=j6 ed;cases e2;exact⟨H0,O0,Z,O,d,R,e1,fun v H' s q=>f _ H' O ((R.grow s).set q i) (ji s)⟩
def W6(h:PS X st (zq (tE K de) (Yh i))):PS X st (tS K (jp i de)):=yw h E6
@[simp] noncomputable def J_(i:Nat)(df:DO)(Z:jg):Option Rs:=(df Z).bind fun o=>some (.nx (Z.set i (.ow none o)))
def E7:∀D U H,tS K (J_ i df) D U H->zq (tF K df) (Yh i) D U H:=fun D U H xx=>by
 obtain⟨H0,O0,Z,O,r,R,ed,f⟩:=xx;obtain⟨d,e1,e2⟩:=j6 ed;cases e2;exact⟨H0,O0,Z,O,d,R,e1,fun l H' s hn q=>f _ H' (l::O) (R.own s hn q i) (yt s hn)⟩
def Bq(h:PS X st (zq (tF K df) (Yh i))):PS X st (tS K (J_ i df)):=yw h E7
def vQ(h:PS X st (zq te g))(f:∀U H Q,te' U H Q->te U H Q):PS X st (zq te' g):=yw h fun D U H q=>f U H _ q
def WB:∀U H Q,tE K (dL df) U H Q->tF K df U H Q:=fun U H Q xx=>by
 obtain⟨H0,O0,Z,O,d,R,ed,q⟩:=xx;obtain⟨ds,e1,e2⟩:=j6 ed;cases e2;exact⟨H0,O0,Z,O,ds,R,e1,fun l H' s hn r=>q _ _ s ((r.same (fun _ z=>z) (Jo fun a h=>wMa _ h)).rep fun u z=>by rw[J3 (R.new hn)];exact z)⟩
@[simp] noncomputable def vR(de:DE)(g:DG)(Z:jg):Option Rs:=(de Z).bind fun d=>(g d Z).bind fun Z'=>some (.nx Z')
def HI(h:PS X st (zq (tE K de) (tG K kk g))):PS X st (tS K (vR de g)):=yw h fun D U H xx=>by
 obtain⟨H0,O0,Z,O,r,R,ed,f⟩:=xx;obtain⟨d,e1,ed⟩:=j6 ed;obtain⟨Z',e2,ed⟩:=j6 ed;cases ed;exact⟨H0,O0,Z,O,d,R,e1,fun v H' s q=>⟨H0,O0,Z,O,d,Z',R.grow s,q,e2,fun U' R' _=>f U' H' O R' (ji s)⟩⟩
@[simp] noncomputable def xw(i:Nat)(h:Int->Int->Int)(de:DE)(Z:jg):Option Rs:=(dC i Z).bind fun x=>(de Z).bind fun y=>match x,y with
 | .int p,.int q=>some (.nx (Z.set i (.cl (.int (h p q)))))
 | _,_=>none
def Br(h:PS X st (D9 i (tR K de) (Da g))):PS X st (tS K (xw i g de)):=yw h fun D U H xx=>by
 obtain⟨H0,O0,Z,O,r,R,ed,f⟩:=xx;obtain⟨x,e1,ed⟩:=j6 ed;obtain⟨y,e2,ed⟩:=j6 ed;split at ed
 ·cases ed;unfold dC at e1;split at e1
  ·cases e1;obtain⟨v,h1,h2⟩:=R.cl i _ (by assumption);rw[j8]at h2;subst h2;exact⟨_,h1,H0,O0,Z,O,_,R,e2,fun v H' s q=>⟨_,_,rfl,q.int,f _ H' O ((R.grow s).set (by rw[j8]) i) (ji s)⟩⟩
  ·cases e1
 ·cases ed
@[simp] noncomputable def vz(de:DE)(Z:jg):Option Rs:=(de Z).bind fun _=>some (.nx Z)
def XA(h:PS X st (kO (tR K de))):PS X st (tS K (vz de)):=yw h fun D U H xx=>by
 obtain⟨H0,O0,Z,O,r,R,ed,f⟩:=xx;obtain⟨d,e1,e2⟩:=j6 ed;cases e2;exact⟨H0,O0,Z,O,d,R,e1,fun v H' s q=>f _ H' O (R.grow s) (ji s)⟩
@[simp] noncomputable def yg(i:Nat)(de:DE)(Z:jg):Option Rs:=match Z[i]? with
 | some (.ow q (.lst ds))=>(de Z).bind fun d=>if ds.length < sizeLine then some (.nx (Z.set i (.ow q (.lst (ds++[d])))))else none
 | _=>none
theorem Az(h:PS X st (kO (Xh K "list" gY (zo i) (Vj (tE K de) UH)))):PS X st (tS K (yg i de)):=yw h fun D U H xx=>by
 obtain⟨H0,O0,Z,O,r,R,ed,f⟩:=xx;unfold yg at ed;split at ed
 ·rename_i q ds hi;obtain⟨d,e1,e2⟩:=j6 ed;split at e2
  ·rename_i hz;cases e2;obtain⟨l,hq,hs,⟨vs,hl,rp⟩,lo,h0⟩:=R.ow i _ _ hi;refine⟨_,hs,.inl ⟨rfl,_,jC.of hl⟩,H0,O0,Z,O,d,R,e1,fun v H' s rv=>?_⟩;have R':=R.grow s;have rp':=rp.same (ji s);refine⟨l,vs,v,rfl,rfl,s _ _ hl,by rw[rp.len];exact hz,f _ _ O (R'.change hi hq hs lo h0 ⟨_,jS,rp'.snoc rv⟩) ?_⟩;rw[JC lo];exact ji s
  ·cases e2
 ·cases ed
@[simp] def Ga(i:Nat)(dx de:DE)(Z:jg):Option Rs:=match Z[i]? with
 | some (.ow q (.lst ds))=>(de Z).bind fun d=>(dx Z).bind fun j=>match j with
  | .int j=>(u6 ds.length j).bind fun n=>some (.nx (Z.set i (.ow q (.lst (ds.set n d)))))
  | _=>none
 | _=>none
set_option tactic.hygienic false
set_option tactic.hygienic true in
theorem E8(h:PS X st (zq (tE K de) (aY (zo i) (tR K dx) B5))):PS X st (tS K (Ga i dx de)):=yw h fun D U H xx=>by
 obtain⟨H0,O0,Z,O,r,R,ed,f⟩:=xx;unfold Ga at ed;split at ed
 ·rename_i q ds hi;obtain⟨d,e1,ed⟩:=j6 ed;obtain⟨j,e2,ed⟩:=j6 ed;split at ed
  ·obtain⟨n,e3,ed⟩:=j6 ed;cases ed;obtain⟨l,hq,hs,⟨vs,hl,rp⟩,lo,h0⟩:=R.ow i _ _ hi;refine⟨H0,O0,Z,O,d,R,e1,fun v H1 s1 rv=>⟨_,hs,H0,O0,Z,O,_,R.grow s1,e2,fun w H2 s2 rw'=>?_⟩⟩;have s12:=s1.trans s2;have R':=R.grow s12;have rp':=rp.same (ji s12);refine⟨l,vs,_,n,rfl,rw'.int,s12 _ _ hl,by rw[rp.len];exact e3,f _ _ O (R'.change hi hq hs lo h0 ⟨_,jS,rp'.set (rv.same (ji s2)) n⟩) ?_⟩;rw[JC lo];exact ji s12
  ·cases ed
 ·cases ed
@[simp] noncomputable def je(de:DE)(Z:jg):Option Rs:=(de Z).bind fun d=>some (.rt d)
def Bs(h:PE X e (tE K de)):PS X (.Return (some e) pos) (tS K (je de)):=yw (UC h) fun D U H xx=>by
 obtain⟨H0,O0,Z,O,r,R,ed,f⟩:=xx;obtain⟨d,e1,e2⟩:=j6 ed;cases e2;exact⟨H0,O0,Z,O,d,R,e1,fun v H' s q=>f v H' (R.keep.trans s) (q.same (Jo R.sub))⟩
@[simp] noncomputable def Gb(df:DO)(Z:jg):Option Rs:=(df Z).bind fun o=>some (.rf o)
def E9(h:PE X e (tF K df)):PS X (.Return (some e) pos) (tS K (Gb df)):=yw (UC h) fun D U H xx=>by
 obtain⟨H0,O0,Z,O,r,R,ed,f⟩:=xx;obtain⟨d,e1,e2⟩:=j6 ed;cases e2;refine⟨H0,O0,Z,O,d,R,e1,fun l H' s hn q=>f l H' (R.keep.trans s) (R.keep.none hn) (q.same (fun _ z=>z) (Jo fun a h=>?_))⟩;rcases uTa h with rfl | h
 ·exact wNa
 ·exact wMa _ (R.sub a h)
@[simp] noncomputable def zL(i:Nat)(Z:jg):Option Rs:=match Z[i]? with
 | some (.ow _ o)=>some (.rf o)
 | _=>none
def Ea(h:PE X (.Name x pos') (zo i)):PS X (.Return (some (.Name x pos')) pos) (tS K (zL i)):=yw (UC h) fun D U H xx=>by
 obtain⟨H0,O0,Z,O,r,R,ed,f⟩:=xx;unfold zL at ed;split at ed
 ·cases ed;obtain⟨l,_,hs,ow,lo,h0⟩:=R.ow i _ _ (by assumption);refine⟨_,hs,f l H R.keep h0 (ow.same (fun _ z=>z) (Jo fun a h=>?_))⟩;rcases uTa h with rfl | h
  ·exact lo
  ·exact R.sub a h
 ·cases ed
def Eb:PS X (.Return none pos) (tS K (je (dK .non))):=yw cq fun D U H xx=>by
 obtain⟨H0,O0,Z,O,r,R,ed,f⟩:=xx;cases ed;exact f .non H R.keep (by rw[j8])
noncomputable def jU(g:DG)(s:DS):List D->DS
 | [],Z=>some (.nx Z)
 | d::ds,Z=>(g d Z).bind fun Z1=>(s Z1).bind fun r=>match r with
  | .nx Z2=>jU g s ds Z2
  | .ct Z2=>jU g s ds Z2
  | .bk Z2=>some (.nx Z2)
  | .rt d=>some (.rt d)
  | .rf o=>some (.rf o)
@[simp] def jD(di:DI)(g:DG)(s:DS)(Z:jg):Option Rs:=(di Z).bind fun items=>jU g s items Z
def HJ(hp:PassesOwn (model X.prog X.w) X.A X.env X.xe)(hc:X.calm=true)(hi:PI X tg iter (zF K di))(hg:PG X tg (tG K kk g))(hb:jP X body (tS K s1))(hs:∀x,foldedSetIterable iter X.env x=pure x:=by intro _;rfl):PS X (.For tg iter body [] pos) (tS K (jD di g s1)):=yw (Dj hp hc hi hg hb hs) fun D U H xx=>by
 obtain⟨H0,O0,Z,O,r,R,ed,f⟩:=xx;obtain⟨items,e1,ed⟩:=j6 ed;refine⟨H0,O0,Z,O,items,R,e1,fun J H1 s1' hJ=>?_⟩;have R1:=R.grow s1';have f1:=f.mono (ji s1');refine⟨fun i m U' H'=>∃Z' O',Rel K H0 O0 Z' U' H' O'/\jU g s1 (items.drop i) Z'=some r/\j7 (jd H1 O) (jd H' O')/\m=items.length - i/\i<=items.length,⟨items.length,Z,O,R1,by simpa using ed,j7.refl _,rfl,Nat.zero_le _⟩,?_⟩;rintro i m U' H' ⟨Z',O',R',d1,sd,rfl,hi'⟩;obtain⟨hgo,hstop⟩:=hJ i H' O' R'.keep R'.in0 sd R'.al;by_cases hlt:i < items.length
 ·right;have hx:items[i]?=some items[i]:=by simp[hlt]
  have hd:items.drop i=items[i]::items.drop (i+1):=(List.getElem_cons_drop hlt).symm;rw[hd]at d1;obtain⟨g1,g2⟩:=hgo _ hx;refine⟨g1,fun U2 H2=>∃Z2 O2,Rel K H0 O0 Z2 U2 H2 O2/\jU g s1 (items.drop (i+1)) Z2=some r/\j7 (jd H1 O) (jd H2 O2),?_,fun x H'' y=>?_⟩
  ·rintro U2 H2 ⟨Z2,O2,a1,a2,a3⟩;exact⟨items.length - (i+1),by lia,Z2,O2,a1,a2,a3,rfl,hlt⟩
  ·obtain⟨sy,rx⟩:=g2 x H'' y;obtain⟨Z1,f3,f4⟩:=j6 d1;obtain⟨r1,f5,f6⟩:=j6 f4;refine⟨H0,O0,Z',O',_,Z1,R'.grow sy,rx,f3,fun U2 R3 _=>⟨H0,O0,Z1,O',r1,R3,f5,?_⟩⟩;have t1:=sd.trans (ji sy);cases r1 with
   | nx Z2=>exact fun U3 H3 O3 R4 t=>⟨Z2,O3,R4,f6,t1.trans t⟩
   | ct Z2=>exact fun U3 H3 O3 R4 t=>⟨Z2,O3,R4,f6,t1.trans t⟩
   | bk Z2=>cases f6;exact fun U3 H3 O3 R4 t=>f1 U3 H3 O3 R4 (t1.trans t)
   | rt d=>cases f6;exact f1
   | rf o=>cases f6;exact f1
 ·left;have ei:i=items.length:=by lia
  refine⟨hstop ei,?_⟩;have e0:items.drop i=[]:=List.drop_of_length_le (by lia);rw[e0]at d1;have d1:some (Rs.nx Z')=some r:=d1;cases d1;exact f1 U' H' O' R' sd
noncomputable def ZK(dt:DT)(s:DS):Nat->DS
 | 0,_=>none
 | n+1,Z=>(dt Z).bind fun k=>if k=true then(s Z).bind fun r=>match r with
  | .nx Z2=>ZK dt s n Z2
  | .ct Z2=>ZK dt s n Z2
  | .bk Z2=>some (.nx Z2)
  | .rt d=>some (.rt d)
  | .rf o=>some (.rf o)else some (.nx Z)
def C9(n:Nat)(hp:PassesOwn (model X.prog X.w) X.A X.env X.xe)(hc:PT X c (tT K dt))(hb:jP X body (tS K s1)):PS X (.While c body [] pos) (tS K (ZK dt s1 n)):=yw (aZ hp hc hb) fun D U H xx=>by
 obtain⟨H0,O0,Z,O,r,R,ed,f⟩:=xx;refine⟨fun m U' H'=>∃Z' O',Rel K H0 O0 Z' U' H' O'/\ZK dt s1 m Z'=some r/\j7 (jd H O) (jd H' O'),⟨n,Z,O,R,ed,j7.refl _⟩,?_⟩;rintro m U' H' ⟨Z',O',R',d1,sd⟩;cases m with
 | zero=>cases d1
 | succ m=>
  obtain⟨k,e1,e2⟩:=j6 d1;refine⟨H0,O0,Z',O',k,R',e1,fun H2 s2=>?_⟩;have t1:=sd.trans (ji s2);cases k with
  | true=>
   rw[if_pos rfl]at e2;obtain⟨r1,f5,f6⟩:=j6 e2;refine zI ⟨fun U3 H3=>∃Z3 O3,Rel K H0 O0 Z3 U3 H3 O3/\ZK dt s1 m Z3=some r/\j7 (jd H O) (jd H3 O3),?_,H0,O0,Z',O',r1,R'.grow s2,f5,?_⟩
   ·rintro U3 H3 ⟨Z3,O3,a1,a2,a3⟩;exact⟨m,Nat.lt_succ_self m,Z3,O3,a1,a2,a3⟩
   ·cases r1 with
    | nx Z2=>exact fun U3 H3 O3 R4 t=>⟨Z2,O3,R4,f6,t1.trans t⟩
    | ct Z2=>exact fun U3 H3 O3 R4 t=>⟨Z2,O3,R4,f6,t1.trans t⟩
    | bk Z2=>cases f6;exact fun U3 H3 O3 R4 t=>f U3 H3 O3 R4 (t1.trans t)
    | rt d=>cases f6;exact f
    | rf o=>cases f6;exact f
  | false=>
   rw[if_neg Bool.false_ne_true]at e2;cases e2;exact zH (f U' H2 O' (R'.grow s2) t1)
def Ca{iter elt:Expr}{ifs:List Expr}{scope:Scope}{di:DI}{g:DG}{dc:DT}{de:DE}(own:List Str)(caps:Tj){i:Nat}{x:Str}{pos' spos:Pos}(hN:X.N.Nodup)(hix:X.N[i]?=some x)(hx:UA X.env.scope x)(S:CScope X scope)(hcap:Caps X scope caps)(hc:X.calm=true)(hi:PI X tg iter (zF K di))
  (hg:∀s3 H3 ex',PG (X.comp (cN own caps) scope s3 H3 ex') tg (tG K own.length g)) (ht:∀s3 H3 ex',ZW (X.comp (cN own caps) scope s3 H3 ex') ifs (tT K dc)) (he:∀s3 H3 ex',PE (X.comp (cN own caps) scope s3 H3 ex') elt (tE K de)) (hnd:(caps.map (·.2)).Nodup:=by decide)
  (hs:∀x,foldedSetIterable iter X.env x=pure x:=by intro _;rfl)
  (hsw:swapsWith (.ListComp elt [⟨tg,iter,ifs,0⟩] scope pos) (some (.Name x pos')) spos.line X.env=pure true:=by rfl) (hf:X.fn x=true \/ X.env.scope.names.lookup x=some .local:=by first | exact .inl rfl | exact .inr rfl | assumption):
  PS X (.Assign [.Name x pos'] (.ListComp elt [⟨tg,iter,ifs,0⟩] scope pos) spos) (tS K (J_ i (JO own.length (caps.map (·.2)) di g dc de))):=
 Bq (vQ (Wq own caps hN hix hx S hcap hc hi hg ht he hs hsw hf) (WA hnd))
def Cb{iter elt:Expr}{ifs:List Expr}{scope:Scope}{di:DI}{g:DG}{dc:DT}{de:DE}(own:List Str)(caps:Tj){i:Nat}{x:Str}{pos' spos:Pos}(hN:X.N.Nodup)(hix:X.N[i]?=some x)(hx:UA X.env.scope x)(S:CScope X scope)(hcap:Caps X scope caps)(hc:X.calm=true)(hi:PI X tg iter (zF K di))
  (hg:∀s3 H3 ex',PG (X.comp (cN own caps) scope s3 H3 ex') tg (tG K own.length g)) (ht:∀s3 H3 ex',ZW (X.comp (cN own caps) scope s3 H3 ex') ifs (tT K dc)) (he:∀s3 H3 ex',PE (X.comp (cN own caps) scope s3 H3 ex') elt (tE K de)) (hnd:(caps.map (·.2)).Nodup:=by decide)
  (hs:∀x,foldedSetIterable iter X.env x=pure x:=by intro _;rfl)
  (hsw:swapsWith (.ListComp elt [⟨tg,iter,ifs,0⟩] scope pos) (some (.Name x pos')) spos.line X.env=pure true:=by rfl) (hf:X.fn x=true \/ X.env.scope.names.lookup x=some .local:=by first | exact .inl rfl | exact .inr rfl | assumption):
  PS X (.Assign [.Name x pos'] (.ListComp elt [⟨tg,iter,ifs,0⟩] scope pos) spos) (tS K (jp i (dL (JO own.length (caps.map (·.2)) di g dc de)))):=
 W6 (vQ (vQ (Wq own caps hN hix hx S hcap hc hi hg ht he hs hsw hf) (WA hnd)) WB)
end
def K4(v:Value)(n:Nat):List.foldl (fun x1 x2=>x1++x2) #[] (List.replicate n #[v])=(List.replicate n v).toArray:=by
 have f:∀(n:Nat) (a:Array Value),List.foldl (fun x1 x2=>x1++x2) a (List.replicate n #[v])=a++(List.replicate n v).toArray:=fun n=>by
  induction n with
  | zero=>intro a;simp
  | succ n ih=>intro a;rw[List.replicate_succ,List.foldl_cons,ih];apply Array.ext';simp[List.replicate_succ]
 rw[f];simp
def wY(l:Addr)(v:Value)(n:Nat)(dd:Option Addr)(sl:Array (Option Value))(x:Int)(u:Tok)(h1:1 < x)(h2:x<=1000):
  Meets (Builtin.«tuple.__mul__» ⟨[.ref l,.int x u],[]⟩) (fun _ R s=>s.heap.get? l=some { cls:=.type "tuple",dict:=dd,data:=.seq #[v] n,slots:=sl }/\R (.ok (.ret (Value.ref s.heap.objs.size))) { s with heap:=s.heap.push { cls:=Value.type "tuple",data:=Data.seq (List.foldl (fun x1 x2=>x1++x2) #[] (List.replicate x.toNat #[v])) },toks:=s.toks }):=
 .of_wp fun prog w A R s h=>by
  obtain⟨hp,g,d,tk,os⟩:=s;obtain⟨hl,h⟩:=h
  wp_walk
  refine wpAny_ite_false (by simp;lia) ?_
  wp_walk
  refine wpAny_ite_false (by simp;lia) ?_
  wp_walk
  refine wpAny_ite_false (by simp;lia) ?_
  wp_walk
  rw[if_neg (by simp;lia)]
  wp_walk
  refine wpAny_ite_false (by simp[Builtin.Tuple.tupleTooMany,sizeLine];lia) ?_
  wp_walk
  have hz:(List.foldl (fun x1 x2=>x1++x2) #[] (List.replicate x.toNat #[v])).size<=sizeLine:=by
   rw[K4];simp[sizeLine];lia
  first | exact⟨_,rfl,h⟩ | (refine wpAny_ite_false (vBa (Nat.not_lt.mpr hz)) ?_;wp_walk;exact⟨_,rfl,h⟩)
def wZ(l:Addr)(v:Value)(n:Nat)(dd:Option Addr)(sl:Array (Option Value))(u:Tok):
  Meets (Builtin.«tuple.__mul__» ⟨[.ref l,.int 1 u],[]⟩) (fun _ R s=>s.heap.get? l=some { cls:=.type "tuple",dict:=dd,data:=.seq #[v] n,slots:=sl }/\R (.ok (.ret (Value.ref l))) { s with heap:=s.heap,toks:=s.toks }):=
 .of_wp fun prog w A R s h=>by
  obtain⟨hp,g,d,tk,os⟩:=s;obtain⟨hl,h⟩:=h
  wp_walk
  first | exact⟨_,rfl,h⟩ | (refine wpAny_ite_false (by simp) ?_;wp_walk;refine wpAny_ite_true (by simp) ?_;wp_walk;exact⟨_,rfl,h⟩)
def KH(l:Addr)(v:Value)(n:Nat)(dd:Option Addr)(sl:Array (Option Value))(u:Tok):
  Meets (Builtin.«tuple.__mul__» ⟨[.ref l,.int 0 u],[]⟩) (fun _ R s=>s.heap.get? l=some { cls:=.type "tuple",dict:=dd,data:=.seq #[v] n,slots:=sl }/\R (.ok (.ret (Value.ref s.heap.objs.size))) { s with heap:=s.heap.push { cls:=Value.type "tuple",data:=Data.seq #[] },toks:=s.toks }):=
 .of_wp fun prog w A R s h=>by
  obtain⟨hp,g,d,tk,os⟩:=s;obtain⟨hl,h⟩:=h
  wp_walk
  first | exact⟨_,rfl,h⟩ | (refine wpAny_ite_false (by simp) ?_;wp_walk;refine wpAny_ite_false (by simp) ?_;wp_walk;refine wpAny_ite_true (by simp) ?_;wp_walk;exact⟨_,rfl,h⟩)
def GW:fillsNumberSlot (.type "tuple") "mul" = pure false:=
 PySem.fillsNumberSlot_seq (id := "tuple.__mul__") (r:=some (.builtin "tuple.__rmul__")) F.slot_tuple_mul.lookup (by decide +kernel) F.slot_tuple_rmul.lookup (by decide +kernel)
def WC:seqRepeat? (.type "tuple")=pure (some (.builtin "tuple.__mul__")):=by
 unfold seqRepeat?;rw[PySem.seqSlot_of (T := "tuple") (name := "__mul__") (id := "tuple.__mul__") F.slot_tuple_mul.lookup (by decide +kernel),PySem.seqSlot_of (T := "tuple") (name := "__rmul__") (id := "tuple.__rmul__") F.slot_tuple_rmul.lookup (by decide +kernel)];rfl
def KI(a:Int)(t:Tok)(l:Addr)(items:Array Value)(n:Nat)(dd:Option Addr)(sl:Array (Option Value)):
  Meets (Builtin.«int.__rmul__» ⟨[.int a t,.ref l],[]⟩) (fun _ R s=>s.heap.get? l=some { cls:=.type "tuple",dict:=dd,data:=.seq items n,slots:=sl }/\R (.ok (.ret Value.notImplemented)) s):=
 .of_wp fun prog w A R s h=>by obtain⟨hp,g,d,tk,os⟩:=s;obtain⟨hl,h⟩:=h;wp_walk;exact⟨_,rfl,h⟩
section
variable {X:Cx} {K:Fr}
def xy(K:Fr):R2:=fun x y H Q=>∃l k z,x=.ref l/\y=.int k/\Jr K H l [z]/\0<=k/\k<=1000/\(k=1->Q (.ref l) H)/\(k≠1->∀p,H p=none->Q (.ref p) (upd H p (.tup (List.replicate k.toNat z))))
theorem WD(r:jw z v):∀n:Nat,jq (List.replicate n z) (List.replicate n v)
 | 0=>.nil
 | n+1=>by rw[List.replicate_succ,List.replicate_succ];exact .cons r (WD r n)
def Cd:j_ X (binaryOp .Mult) (xy X.K):=by
 intro pins s U H x y v u Q I rx ry h;obtain⟨l,k,z,rfl,rfl,hq,h1,h2,q1,q2⟩:=h;cases rx;obtain⟨t,rfl⟩:=ry;obtain⟨its,r,⟨⟨cls,dd,data,sl⟩,ho,hc,n,hd⟩,hz⟩:=I.tuple hq;simp only at hc hd;subst hc hd;obtain⟨w,rfl,rw'⟩:∃w,its=[w]/\jw z w:=by
  cases r with
  | cons a b=>cases b;exact⟨_,rfl,a⟩
 refine wpAny_binaryOp_repeat_ref (T := "tuple") (U := "int") (by decide) ⟨_,ho,rfl⟩ (fun s'=>typeIs_int s' k t) GW F.fills_int_mul F.slot_int_rmul WC F.slot_int_index.lookup
  (call_meets F.slot_int_rmul (typeIs_int s k t) F.entry_int_rmul (F.args_int_rmul_2 _ _) (KI k t l _ n dd sl) ⟨ho,rfl,⟨_,ho,rfl⟩,?_⟩)
 by_cases e1:k=1
 ·subst e1;exact call_meets F.slot_tuple_mul ⟨_,ho,rfl⟩ F.entry_tuple_mul (F.args_tuple_mul_2 _ _) (wZ l w n dd sl t) ⟨ho,.ref l,H,I,rfl,q1 rfl⟩
 ·by_cases e0:k=0
  ·subst e0;refine call_meets F.slot_tuple_mul ⟨_,ho,rfl⟩ F.entry_tuple_mul (F.args_tuple_mul_2 _ _) (KH l w n dd sl t) ⟨ho,.ref s.heap.objs.size,_,I.laid (t':=s.toks) (o:=.tup (List.replicate (0:Int).toNat z)) (fun b ob q=>wIa _ q) (wPa _) ?_,rfl,q2 e1 _ (I.hok.fresh (wPa _))⟩;exact⟨Nat.zero_le _,[],.nil,IsTup.new _ _⟩
  ·refine call_meets F.slot_tuple_mul ⟨_,ho,rfl⟩ F.entry_tuple_mul (F.args_tuple_mul_2 _ _) (wY l w n dd sl k t (by lia) h2) ⟨ho,?_⟩;rw[K4];refine⟨.ref s.heap.objs.size,_,I.laid (t':=s.toks) (o:=.tup (List.replicate k.toNat z)) (fun b ob q=>wIa _ q) (wPa _) ?_,rfl,q2 e1 _ (I.hok.fresh (wPa _))⟩;exact⟨by rw[List.length_replicate];exact FY (by lia),_,WD rw' _,IsTup.new _ _⟩
@[simp] def yX:D->D->Option D
 | .int i,.int j=>Bh (.int i) (.int j)
 | .tup [z],.int k=>if 0<=k/\k<=1000 then some (.tup (List.replicate k.toNat z))else none
 | _,_=>none
theorem WE{H:Hp}{d:D}{v:V}(h:j8 K H d v):∀n:Nat,j4 K H (List.replicate n d) (List.replicate n v)
 | 0=>j4.nil
 | n+1=>by rw[List.replicate_succ,List.replicate_succ];exact j4.cons h (WE h n)
set_option tactic.hygienic true in
theorem Ec:Jv K (fun x y H Q=>rI GR (fun i j=>.int (i * j)) x y H Q \/ xy K x y H Q) yX:=by
 intro O H a b d x y Q ha hb hn e q;unfold yX at e;split at e
 ·exact .inl (h_ O H _ _ d x y Q ha hb hn e q)
 ·split at e
  ·rename_i hk;cases e;right;obtain⟨p,xs,rfl,h1,h2⟩:=ha.tup;obtain⟨v,rfl,rv⟩:∃v,xs=[v]/\j8 K (jd H O) _ v:=by
    rw[j4]at h2;obtain⟨v,r,rfl,a1,b1⟩:=h2;rw[j4]at b1;subst b1;exact⟨v,rfl,a1⟩
   refine⟨p,_,v,rfl,hb.int,h1,hk.1,hk.2,fun e1=>?_,fun _ p hp=>q _ _ (jB hp _) (Y4 (hn p hp) hp (WE rv _))⟩;refine q _ H (j7.refl H) ?_;subst e1;rcases ha with ha | ⟨_,o,_,z,_⟩
   ·exact ha
   ·cases o <;> cases z
  ·cases e
 ·cases e
def Ce:j_ X (binaryOp .Mult) (fun x y H Q=>rI GR (fun i j=>.int (i * j)) x y H Q \/ xy X.K x y H Q):=Dq.or Cd
def Cf:j_ X (binaryOp .Add) (fun x y H Q=>vj (fun i j=>.int (i+j)) x y H Q \/ (fun x y H Q=>xi X.K x y H Q \/ (fun x y H Q=>∃i j,x=.str i/\y=.str j/\i.length+j.length<=sizeLine/\Q (.str (i++j)) H) x y H Q) x y H Q):=Dm.or (cU.or Q_)
end
mutual
noncomputable def Zf:D->D->Option Bool
 | .tup l,.tup m=>(YR l m).bind fun b=>some (b&&l.length==m.length)
 | .lst l,.lst m=>if l.length=m.length then YR l m else some false
 | .non,.non=>some true
 | .non,.tup _=>some false
 | .tup _,.non=>some false
 | .int a,.int b=>some (a==b)
 | .bl a,.bl b=>some (a==b)
 | .str a,.str b=>some (a==b)
 | _,_=>none
noncomputable def YR:List D->List D->Option Bool
 | [],_=>some true
 | _::_,[]=>some true
 | a::l,b::m=>(Zf a b).bind fun x=>(YR l m).bind fun y=>some (x&&y)
end
mutual
@[simp] noncomputable def dep:D->Nat
 | .tup l=>yL l+1
 | .lst l=>yL l+1
 | _=>0
@[simp] noncomputable def yL:List D->Nat
 | []=>0
 | d::ds=>max (dep d) (yL ds)
end
theorem D.ind{P:D->Prop}(h:∀d,(∀l,d=.tup l->∀x∈l,P x)->(∀l,d=.lst l->∀x∈l,P x)->P d)(d:D):P d:=
 h d (fun l e x hx=>D.ind h x) (fun l e x hx=>D.ind h x)
termination_by sizeOf d
decreasing_by
 all_goals (subst e;have:=List.sizeOf_lt_of_mem hx;simp;lia)
section
variable {X:Cx} {K:Fr}
open PySem.SeqAt
def in1_units{A:Around}:A.in1.units=A.units+1:=rfl
variable {pins:Tq} {U:L2.St} {H:Hp} {s:Shared}
def K5(ih:∀d∈l,∀{d':D} {x:V} {r:Bool},j8 K H d x->j8 K H d' x->Zf d d'=some r->r=true):∀{m:List D} {xs:List V} {r:Bool},j4 K H l xs->j4 K H m xs->YR l m=some r->r=true:=by
 induction l with
 | nil=>intro m xs r _ _ e;rw[YR]at e;cases e;rfl
 | cons a l il=>
  intro m xs r h1 h2 e;cases m with
  | nil=>rw[YR]at e;cases e;rfl
  | cons b m=>
   rw[YR]at e;obtain⟨x,e1,e⟩:=j6 e;obtain⟨y,e2,e⟩:=j6 e;cases e;rw[j4]at h1 h2;obtain⟨v,t,rfl,a1,b1⟩:=h1;obtain⟨v',t',e',a2,b2⟩:=h2;cases e';rw[ih a List.mem_cons_self a1 a2 e1,il (fun d hd=>ih d (List.mem_cons_of_mem _ hd)) b1 b2 e2];rfl
def wD(I:Inv X pins U H s)(d:D):∀{d':D} {x:V} {r:Bool},j8 X.K H d x->j8 X.K H d' x->Zf d d'=some r->r=true:=by
 induction d using D.ind with
 | h d i1 i2=>
  intro d' x r h1 h2 e;unfold Zf at e;split at e
  ·obtain⟨b,e1,e2⟩:=j6 e;cases e2;rw[j8]at h1 h2;obtain⟨a,xs,rfl,qa,ra⟩:=h1;obtain⟨b',ys,e',qb,rb⟩:=h2;cases e';have exy:=I.tuple_inj qa qb;subst exy;rw[K5 (fun d hd=>i1 _ rfl d hd) ra rb e1,<-ra.len,<-rb.len,beq_self_eq_true];rfl
  ·rw[j8]at h1 h2;obtain⟨a,xs,rfl,qa,ra⟩:=h1;obtain⟨b',ys,e',qb,rb⟩:=h2;cases e';rw[qa]at qb;cases qb;rw[if_pos (by rw[<-ra.len,<-rb.len])]at e;exact K5 (fun d hd=>i2 _ rfl d hd) ra rb e
  ·cases e;rfl
  ·rw[j8]at h1;rw[j8]at h2;obtain⟨b',ys,e',qb,rb⟩:=h2;rw[h1]at e';cases e'
  ·rw[j8]at h1;rw[j8]at h2;obtain⟨b',ys,e',qb,rb⟩:=h1;rw[h2]at e';cases e'
  ·cases e;rw[j8]at h1 h2;rw[h1]at h2;cases h2;simp
  ·cases e;rw[j8]at h1 h2;rw[h1]at h2;cases h2;simp
  ·cases e;rw[j8]at h1 h2;rw[h1]at h2;cases h2;simp
  ·cases e
theorem W7{l:List D}(ih:∀d∈l,∀{d':D} {x y:V} {u v:Value} {A:Around} {r:Bool},Zf d d'=some r->j8 K H d x->j8 K H d' y->jw x u->jw y v->A.units+dep d < cLine->EqAt A s u v r):∀{m:List D} {xs ys:List V} {us vs:List Value} {A:Around} {r:Bool},YR l m=some r->j4 K H l xs->j4 K H m ys->jq xs us->jq ys vs->A.units+yL l < cLine->
  ∃e:Nat->Bool,(∀(j:Nat) (h1:j < us.length) (h2:j < vs.length),EqAt A s us[j] vs[j] (e j))/\(List.range (min l.length m.length)).all e=r:=by
 induction l with
 | nil=>
  intro m xs ys us vs A r e h1 h2 v1 v2 hu;rw[YR]at e;cases e;rw[j4]at h1;subst h1;cases v1;exact⟨fun _=>true,fun j h1 _=>vDa h1 (by simp),by simp⟩
 | cons a l il=>
  intro m xs ys us vs A r e h1 h2 v1 v2 hu;cases m with
  | nil=>
   rw[YR]at e;cases e;rw[j4]at h2;subst h2;cases v2;exact⟨fun _=>true,fun j _ h2=>vDa h2 (by simp),by simp⟩
  | cons b m=>
   rw[YR]at e;obtain⟨x,e1,e⟩:=j6 e;obtain⟨y,e2,e⟩:=j6 e;cases e;rw[j4]at h1 h2;obtain⟨v,t,rfl,a1,b1⟩:=h1;obtain⟨v',t',rfl,a2,b2⟩:=h2;rw[yL]at hu;cases v1 with
   | cons r1 rr1=>
    cases v2 with
    | cons r2 rr2=>
     obtain⟨e',q1,q2⟩:=il (fun d hd=>ih d (wMa _ hd)) e2 b1 b2 rr1 rr2 (A:=A) (by lia);refine⟨fun j=>match j with | 0=>x | j+1=>e' j,fun j h1 h2=>?_,?_⟩
     ·cases j with
      | zero=>exact ih a wNa e1 a1 a2 r1 r2 (by lia)
      | succ j=>exact q1 j (by simpa using h1) (by simpa using h2)
     ·rw[vXa,vXa,Nat.succ_min_succ,List.range_succ_eq_map,List.all_cons,List.all_map];rw[<-q2];rfl
set_option tactic.hygienic true
theorem Ed(I:Inv X pins U H s)(d:D):∀{d':D} {x y:V} {u v:Value} {A:Around} {r:Bool},Zf d d'=some r->j8 X.K H d x->j8 X.K H d' y->jw x u->jw y v->A.units+dep d < cLine->EqAt A s u v r:=by
 induction d using D.ind with
 | h d i1 i2=>
  intro d' x y u v A r e hx hy rx ry hu;have e0:=e;unfold Zf at e;split at e
  ·obtain⟨b,e1,e2⟩:=j6 e;cases e2;have hx0:=hx;have hy0:=hy;rw[j8]at hx hy;obtain⟨a,xs,rfl,qa,ra⟩:=hx;obtain⟨b',ys,rfl,qb,rb⟩:=hy;cases rx;cases ry;rw[dep]at hu;by_cases hab:a=b'
   ·subst hab;have:=wD I _ hx0 hy0 e0;rw[this];exact EqAt.same _
   ·obtain⟨ia,va,pa,_⟩:=I.tuple qa;obtain⟨ib,vb,pb,_⟩:=I.tuple qb;have la:=(List.size_toArray (as:=ia)).trans (va.length.symm.trans ra.len);have lb:=(List.size_toArray (as:=ib)).trans (vb.length.symm.trans rb.len);obtain⟨e',h1,h2⟩:=W7 (fun d hd=>i1 _ rfl d hd) e1 ra rb va vb (A:=A.in1) (by rw[in1_units];lia);have key:=RcAt.tuples (A:=A) (s:=s) (l:=a) (b:=b') (items:=ia.toArray) (items2:=ib.toArray) (e:=e') pa pb (by lia) (fun j h1' h2'=>by simpa using h1 j (by simpa using h1') (by simpa using h2'));rw[la,lb,h2]at key;exact EqAt.of_refs hab key
  ·have hx0:=hx;have hy0:=hy;rw[j8]at hx hy;obtain⟨a,xs,rfl,qa,ra⟩:=hx;obtain⟨b',ys,rfl,qb,rb⟩:=hy;cases rx;cases ry;rw[dep]at hu;by_cases hab:a=b'
   ·subst hab;have:=wD I _ hx0 hy0 e0;rw[this];exact EqAt.same _
   ·obtain⟨ia,va,pa,_⟩:=I.list (jC.of qa);obtain⟨ib,vb,pb,_⟩:=I.list (jC.of qb);have la:=(List.size_toArray (as:=ia)).trans (va.length.symm.trans ra.len);have lb:=(List.size_toArray (as:=ib)).trans (vb.length.symm.trans rb.len);split at e
    ·rename_i ell;obtain⟨e',h1,h2⟩:=W7 (fun d hd=>i2 _ rfl d hd) e ra rb va vb (A:=A.in1) (by rw[in1_units];lia);have key:=RcAt.lists (A:=A) (s:=s) (l:=a) (b:=b') (items:=ia.toArray) (items2:=ib.toArray) (e:=e') pa.isList pb.isList (by rw[la,lb,ell]) (by lia) (fun j h1' h2'=>by simpa using h1 j (by simpa using h1') (by simpa using h2'));rw[la]at key;rw[<-ell,Nat.min_self]at h2;rw[h2]at key;exact EqAt.of_refs hab key
    ·rename_i ell;cases e;exact EqAt.of_refs hab (RcAt.lists_lengths pa.isList pb.isList (by rw[la,lb];simpa using ell) (by lia))
  ·cases e;rw[j8]at hx hy;subst hx hy;cases rx;cases ry;exact EqAt.same _
  ·cases e;rw[j8]at hx;rw[j8]at hy;subst hx;cases rx;obtain⟨b',ys,rfl,qb,rb⟩:=hy;cases ry;obtain⟨ib,vb,pb,_⟩:=I.tuple qb;exact EqAt.none_tuple pb (by lia)
  ·cases e;rw[j8]at hx;rw[j8]at hy;subst hy;cases ry;obtain⟨b',ys,rfl,qb,rb⟩:=hx;cases rx;obtain⟨ib,vb,pb,_⟩:=I.tuple qb;exact EqAt.tuple_none pb (by lia)
  ·cases e;rw[j8]at hx hy;subst hx hy;obtain⟨t,rfl⟩:=rx;obtain⟨t',rfl⟩:=ry;exact EqAt.int_int _ _ _ _
  ·cases e;rw[j8]at hx hy;subst hx hy;cases rx;cases ry;exact EqAt.bool_bool _ _
  ·cases e;rw[j8]at hx hy;subst hx hy;obtain⟨t,rfl⟩:=rx;obtain⟨t',rfl⟩:=ry;exact EqAt.str_str _ _ _ _
  ·cases e
@[simp] noncomputable def UY:D->D->Bool
 | .lst _,.lst _=>true
 | .tup _,.tup _=>true
 | _,_=>false
def GX(K:Fr)(neg:Bool):R2:=fun x y H Q=>∃d d' r,j8 K H d x/\j8 K H d' y/\UY d d'=true/\Zf d d'=some r/\dep d<=20/\Q (.bl (if neg then !r else r)) H
theorem Ee(I:Inv X pins U H s)(e:Zf d d'=some r)(q:UY d d'=true)(hx:j8 X.K H d x)(hy:j8 X.K H d' y)(rx:jw x u)(ry:jw y v)(hu:A.units+dep d < cLine):RcAt A s u v r/\RcNeAt A s u v (!r):=by
 unfold UY at q;split at q
 ·rw[j8]at hx hy;obtain⟨a,xs,rfl,qa,ra⟩:=hx;obtain⟨b',ys,rfl,qb,rb⟩:=hy;cases rx;cases ry;rw[dep]at hu;rw[Zf]at e;obtain⟨ia,va,pa,_⟩:=I.list (jC.of qa);obtain⟨ib,vb,pb,_⟩:=I.list (jC.of qb);have la:=(List.size_toArray (as:=ia)).trans (va.length.symm.trans ra.len);have lb:=(List.size_toArray (as:=ib)).trans (vb.length.symm.trans rb.len);split at e
  ·rename_i ell;obtain⟨e',h1,h2⟩:=W7 (fun d _=>Ed I d) e ra rb va vb (A:=A.in1) (by rw[in1_units];lia);have key:=RcAt.lists (A:=A) (s:=s) (l:=a) (b:=b') (items:=ia.toArray) (items2:=ib.toArray) (e:=e') pa.isList pb.isList (by rw[la,lb,ell]) (by lia) (fun j h1' h2'=>by simpa using h1 j (by simpa using h1') (by simpa using h2'));have key2:=RcNeAt.lists (A:=A) (s:=s) (l:=a) (b:=b') (items:=ia.toArray) (items2:=ib.toArray) (e:=e') pa.isList pb.isList (by rw[la,lb,ell]) (by lia) (fun j h1' h2'=>by simpa using h1 j (by simpa using h1') (by simpa using h2'));rw[la]at key key2;rw[<-ell,Nat.min_self]at h2;rw[h2]at key key2;exact⟨key,key2⟩
  ·rename_i ell;cases e;exact⟨RcAt.lists_lengths pa.isList pb.isList (by rw[la,lb];simpa using ell) (by lia),RcNeAt.lists_lengths pa.isList pb.isList (by rw[la,lb];simpa using ell) (by lia)⟩
 ·rw[j8]at hx hy;obtain⟨a,xs,rfl,qa,ra⟩:=hx;obtain⟨b',ys,rfl,qb,rb⟩:=hy;cases rx;cases ry;rw[dep]at hu;rw[Zf]at e;obtain⟨b,e1,e2⟩:=j6 e;cases e2;obtain⟨ia,va,pa,_⟩:=I.tuple qa;obtain⟨ib,vb,pb,_⟩:=I.tuple qb;have la:=(List.size_toArray (as:=ia)).trans (va.length.symm.trans ra.len);have lb:=(List.size_toArray (as:=ib)).trans (vb.length.symm.trans rb.len);obtain⟨e',h1,h2⟩:=W7 (fun d _=>Ed I d) e1 ra rb va vb (A:=A.in1) (by rw[in1_units];lia);have key:=RcAt.tuples (A:=A) (s:=s) (l:=a) (b:=b') (items:=ia.toArray) (items2:=ib.toArray) (e:=e') pa pb (by lia) (fun j h1' h2'=>by simpa using h1 j (by simpa using h1') (by simpa using h2'));have key2:=RcNeAt.tuples (A:=A) (s:=s) (l:=a) (b:=b') (items:=ia.toArray) (items2:=ib.toArray) (e:=e') pa pb (by lia) (fun j h1' h2'=>by simpa using h1 j (by simpa using h1') (by simpa using h2'));rw[la,lb,h2]at key key2;exact⟨key,key2⟩
 ·cases q
def Ef(hr:Room k X.A):j_ X (compareOp .Eq) (GX X.K false):=by
 intro pins s U H x y v u Q I rx ry h;obtain⟨d,d',r,hx,hy,q,e,hd,qq⟩:=h;have hu:=hr.units;exact(Ee (A:=X.A) I e q hx hy rx ry (by lia)).1 X.prog X.w X.xe _ ⟨.bl r,H,I,rfl,qq⟩
def Eg(hr:Room k X.A):j_ X (compareOp .NotEq) (GX X.K true):=by
 intro pins s U H x y v u Q I rx ry h;obtain⟨d,d',r,hx,hy,q,e,hd,qq⟩:=h;have hu:=hr.units;exact(Ee (A:=X.A) I e q hx hy rx ry (by lia)).2 X.prog X.w X.xe _ ⟨.bl (!r),H,I,rfl,qq⟩
@[simp] def KJ(neg:Bool):D->D->Option D:=fun a b=>if UY a b=true/\dep a<=20 then(Zf a b).bind fun r=>some (.bl (if neg then !r else r))else none
set_option tactic.hygienic false
set_option tactic.hygienic true in
theorem Bt{neg:Bool}:Jv K (GX K neg) (KJ neg):=by
 intro O H a b d x y Q ha hb hn e q;unfold KJ at e;split at e
 ·rename_i hh;obtain⟨r,e1,e2⟩:=j6 e;cases e2;exact⟨a,b,r,ha.full,hb.full,hh.1,e1,hh.2,q _ H (j7.refl H) (by rw[j8])⟩
 ·cases e
@[simp] def jM(a b:D):Option D:=if UY a b=true then KJ false a b else Ww a b
@[simp] def yV(a b:D):Option D:=if UY a b=true then KJ true a b else Au a b
def lJ:Jv K (fun x y H Q=>bU x y H Q \/ GX K false x y H Q) jM:=by
 intro O H a b d x y Q ha hb hn e q;unfold jM at e;split at e
 ·exact .inr (Bt O H a b d x y Q ha hb hn e q)
 ·exact .inl (Hf O H a b d x y Q ha hb hn e q)
def lK:Jv K (fun x y H Q=>bV x y H Q \/ GX K true x y H Q) yV:=by
 intro O H a b d x y Q ha hb hn e q;unfold yV at e;split at e
 ·exact .inr (Bt O H a b d x y Q ha hb hn e q)
 ·exact .inl (Hg O H a b d x y Q ha hb hn e q)
def Eh(hr:Room k X.A):j_ X (compareOp .Eq) (fun x y H Q=>bU x y H Q \/ GX X.K false x y H Q):=FM.or (Ef hr)
def Ei(hr:Room k X.A):j_ X (compareOp .NotEq) (fun x y H Q=>bV x y H Q \/ GX X.K true x y H Q):=FN.or (Eg hr)
@[simp] noncomputable def Bu:D->Option V
 | .non=>some .non
 | .bl b=>some (.bl b)
 | .int i=>some (.int i)
 | .str s=>some (.str s)
 | _=>none
@[simp] def KK:List D->Option (List V)
 | []=>some []
 | d::ds=>(Bu d).bind fun v=>(KK ds).bind fun vs=>some (v::vs)
def XB(e:Bu d=some v)(h:j8 K H d w):w=v/\Zv v=true:=by
 unfold Bu at e;split at e <;> first | (cases e;rw[j8]at h;exact⟨h,rfl⟩) | cases e
theorem KL:∀{l:List D} {vs xs:List V},KK l=some vs->j4 K H l xs->xs=vs/\vs.all Zv=true
 | [],vs,xs,e,h=>by cases e;rw[j4]at h;exact⟨h,rfl⟩
 | d::l,vs,xs,e,h=>by
  rw[KK]at e;obtain⟨v,e1,e⟩:=j6 e;obtain⟨r,e2,e⟩:=j6 e;cases e;rw[j4]at h;obtain⟨w,t,rfl,a,b⟩:=h;obtain⟨h1,h2⟩:=XB e1 a;obtain⟨h3,h4⟩:=KL e2 b;exact⟨by rw[h1,h3],by rw[List.all_cons,h2,h4];rfl⟩
@[simp] def UZ(neg:Bool):D->D->Option D:=fun a b=>(Bu a).bind fun v=>(zK b).bind fun l=>(KK l).bind fun vs=>some (.bl (if neg then !Qa v vs else Qa v vs))
def Ej:Jv K (DU K neg) (UZ neg):=by
 intro O H a b d x y Q ha hb hn e q;unfold UZ at e;obtain⟨v,e1,e⟩:=j6 e;obtain⟨l,e2,e⟩:=j6 e;obtain⟨vs,e3,e⟩:=j6 e;cases e;obtain⟨h1,h2⟩:=XB e1 ha.full;subst h1;unfold zK at e2;split at e2
 ·cases e2;obtain⟨p,xs,rfl,g1,g2⟩:=hb.lst;obtain⟨h3,h4⟩:=KL e3 g2;subst h3;exact⟨p,xs,rfl,.inl (jC.of g1),h2,h4,q _ H (j7.refl H) (by rw[j8])⟩
 ·cases e2;obtain⟨p,xs,rfl,g1,g2⟩:=hb.tup;obtain⟨h3,h4⟩:=KL e3 g2;subst h3;exact⟨p,xs,rfl,.inr g1,h2,h4,q _ H (j7.refl H) (by rw[j8])⟩
 ·cases e2
@[simp] noncomputable def Ek:D->Option Kd
 | .int _=>some .i
 | .bl _=>some .b
 | .str _=>some .s
 | .lst _=>some .l
 | .tup _=>some .t
 | _=>none
def HK(e:Ek d=some k)(h:RB K O H d v):eg K H v k:=by
 unfold Ek at e;split at e
 ·cases e;rw[h.int];trivial
 ·cases e;rw[h.bl];trivial
 ·cases e;rw[h.str];trivial
 ·cases e;obtain⟨p,xs,rfl,g1,g2⟩:=h.lst;exact⟨xs,jC.of g1⟩
 ·cases e;obtain⟨p,xs,rfl,g1,g2⟩:=h.tup;exact⟨xs,g1⟩
 ·cases e
@[simp] def JG(T:String):D->Option D:=fun d=>(Ek d).bind fun k=>(Wu k T).bind fun b=>some (.bl b)
def HL(h:PE X (.Call (.Name "isinstance" p) [e,e2] [] pos) (Xd (eh X.K) (Vj (tR K de) (Vj (tC (.ty T)) UH))))(hK:X.K=K:=by rfl):PE X (.Call (.Name "isinstance" p) [e,e2] [] pos) (tE K (d1 (JG T) de)):=jF h fun U H Q ⟨H0,O0,Z,O,d,R,ed,q⟩=>by
 subst hK;obtain⟨x,e1,e2⟩:=j6 ed;obtain⟨k,e3,e2⟩:=j6 e2;obtain⟨b,e4,e2⟩:=j6 e2;cases e2;exact⟨H0,O0,Z,O,x,R,e1,fun v H' s r=>⟨v,T,k,b,rfl,HK e3 r,e4,q _ H' s (by rw[j8])⟩⟩
end
@[simp] noncomputable def Vq(f:Str)(d:D):List Str->List D->List Str×List D
 | g::ns,x::xs=>if g=f then(g::ns,d::xs)else((g::(Vq f d ns xs).1),x::(Vq f d ns xs).2)
 | _,_=>([f],[d])
section
variable {X:Cx} {K:Fr}
theorem WF{H:Hp}{f:Str}{d:D}{v:V}(r:j8 K H d v):∀{ns:List Str} {ds:List D} {vs:List V},ns.length=vs.length->j4 K H ds vs->∃vs',Y8 f v (ns.zip vs)=(Vq f d ns ds).1.zip vs'/\(Vq f d ns ds).1.length=vs'.length/\j4 K H (Vq f d ns ds).2 vs'
 | [],ds,vs,h,rp=>by
  have e:vs=[]:=List.length_eq_zero_iff.mp h.symm;subst e;have e:ds=[]:=by have:=rp.len;exact List.length_eq_zero_iff.mp this.symm
  subst e;exact⟨[v],rfl,rfl,j4.cons r j4.nil⟩
 | g::ns,[],vs,h,rp=>by rw[j4]at rp;subst rp;cases h
 | g::ns,x::ds,vs,h,rp=>by
  rw[j4]at rp;obtain⟨w,t,rfl,a,b⟩:=rp;rw[Vq];by_cases e:g=f
  ·rw[if_pos e];refine⟨v::t,?_,by simpa using h,j4.cons r b⟩;show(if g=f then(g,v)::ns.zip t else _)=_;rw[if_pos e];rfl
  ·rw[if_neg e];obtain⟨vs',q1,q2,q3⟩:=WF (f:=f) r (ns:=ns) (ds:=ds) (vs:=t) (by simpa using h) b;refine⟨w::vs',?_,by simpa using q2,j4.cons a q3⟩;show(if g=f then _ else(g,w)::Y8 f v (ns.zip t))=_;rw[if_neg e,q1];rfl
variable {e o:Expr} {de:DE} {pos pos':Pos} {st:Stmt}
@[simp] def Vr(i:Nat)(C:Addr)(f:Str)(de:DE)(Z:jg):Option Rs:=match Z[i]? with
 | some (.ow q (.ins C' ns ds))=>if C'=C/\ns.length < 1000 then(de Z).bind fun d=>some (.nx (Z.set i (.ow q (.ins C' (Vq f d ns ds).1 (Vq f d ns ds).2))))else none
 | _=>none
set_option tactic.hygienic true in
theorem El{i:Nat}{C:Addr}{f:Str}(h:PS X st (Dx X.K (zo i) (tE K de) f))(c:Cls K C)(n:YY K C f)(hK:X.K=K:=by rfl):PS X st (tS K (Vr i C f de)):=yw h fun D U H xx=>by
 obtain⟨H0,O0,Z,O,r,R,ed,fi⟩:=xx;subst hK;unfold Vr at ed;split at ed
 ·rename_i q C' ns ds hi;split at ed
  ·rename_i hh;obtain⟨rfl,hlen⟩:=hh;obtain⟨d,e1,e2⟩:=j6 ed;cases e2;obtain⟨l,hq,hs,⟨dx,vs,hl,hn,rp⟩,lo,h0⟩:=R.ow i _ _ hi;refine⟨H0,O0,Z,O,d,R,e1,fun v H1 s1 rv=>⟨_,hs,l,_,dx,_,rfl,s1 _ _ hl,c,n,?_,?_⟩⟩
   ·rw[List.length_zip,<-hn,Nat.min_self];exact hlen
   have R':=R.grow s1;obtain⟨vs',p1,p2,p3⟩:=WF (f:=f) rv hn (rp.same (ji s1));refine fi _ _ O (R'.change hi hq hs lo h0 ⟨dx,vs',by rw[jS,p1],p2,p3⟩) ?_;rw[JC lo];exact ji s1
  ·cases ed
 ·cases ed
@[simp] noncomputable def ZX(ks:List Bool)(ds:List D)(n:Nat):jg:=List.zipWith (fun k d=>if k=true then Sl.cl d else Sl.bo d) ks ds++List.replicate n .un
theorem yG.get{O:List Addr}{H:Hp}:∀{ks:List Bool} {ds:List D} {vs:List V} {i:Nat} {d:D},yG K O H ks ds vs->ds[i]?=some d->∃k v,ks[i]?=some k/\vs[i]?=some v/\AK K O H k d v
 | [],[],[],_,_,_,e=>by simp at e
 | k::_,d::_,v::_,0,_,h,e=>by simp at e;subst e;exact⟨k,v,rfl,rfl,h.1⟩
 | k::_,d::_,v::_,i+1,d',h,e=>by
  obtain⟨k',v',h1,h2,h3⟩:=yG.get (i:=i) h.2 (by simpa using e);exact⟨k',v',by simpa using h1,by simpa using h2,h3⟩
 | [],[],_::_,_,_,h,_=>h.elim
 | [],_::_,_,_,_,h,_=>h.elim
 | _::_,[],_,_,_,h,_=>h.elim
 | _::_,_::_,[],_,_,h,_=>h.elim
def Yv{O:List Addr}{H:Hp}{ks:List Bool}{ds:List D}{vs:List V}{n i:Nat}{s:Sl}(h:yG K O H ks ds vs)(hs:s≠.un)(e:(ZX ks ds n)[i]?=some s):∃k d v,vs[i]?=some v/\AK K O H k d v/\s=(if k=true then Sl.cl d else Sl.bo d):=by
 unfold ZX at e;have hl:=h.len;by_cases hi:i < ds.length
 ·rw[uRa (by rw[List.length_zipWith];lia),List.getElem?_zipWith]at e;have hd:ds[i]?=some ds[i]:=by simp[hi]
  obtain⟨k,v,h1,h2,h3⟩:=h.get hd;rw[h1,hd]at e;cases e;exact⟨k,_,v,h2,h3,rfl⟩
 ·rw[List.getElem?_append_right (by rw[List.length_zipWith];lia),List.getElem?_replicate]at e;split at e
  ·cases e;exact vDa rfl hs
  ·cases e
def xz{O:List Addr}{H:Hp}{ks:List Bool}{ds:List D}{vs:List V}{n:Nat}(h:yG K O H ks ds vs)(al:∀a∈O,H a≠none):Rel K H O (ZX ks ds n) (vs.map some++List.replicate n none) H O:=by
 have hl:=h.len;have at':∀{i:Nat} {v:V},vs[i]?=some v->(vs.map some++List.replicate n none)[i]?=some (some v):=fun {i v} e=>by
  have:=(uSa e).1;rw[uRa (by rw[vYa];exact this),uAa,e];rfl
 refine⟨?_,fun a h=>h,fun a h=>.inl h,al,al,j7.refl _,?_,?_,?_,?_,?_⟩
 ·unfold ZX;rw[vZa,vZa,vYa,List.length_replicate,List.length_replicate,List.length_zipWith]
  lia
 ·intro i d e;obtain⟨k,d',v,h1,h2,h3⟩:=Yv h (by intro z;cases z) e;cases k with
  | true=>cases h3;exact⟨v,at' h1,h2⟩
  | false=>cases h3
 ·intro i d e;obtain⟨k,d',v,h1,h2,h3⟩:=Yv h (by intro z;cases z) e;cases k with
  | true=>cases h3
  | false=>cases h3;exact⟨v,at' h1,h2⟩
 ·intro i q o e;obtain⟨k,d',v,h1,h2,h3⟩:=Yv h (by intro z;cases z) e;cases k <;> cases h3
 ·intro i j q q' o o' l e;obtain⟨k,d',v,h1,h2,h3⟩:=Yv h (by intro z;cases z) e;cases k <;> cases h3
 ·intro i ls e;obtain⟨k,d',v,h1,h2,h3⟩:=Yv h (by intro z;cases z) e;cases k <;> cases h3
@[simp] def J7(ks:List Bool)(n:Nat)(body:DS):List D->Option D:=fun ds=>(body (ZX ks ds n)).bind fun r=>match r with
 | .rt d=>some d
 | .rf o=>some o.toD
 | .nx _=>some .non
 | _=>none
@[simp] def u9(ks:List Bool)(n:Nat)(body:DS):List D->Option OD:=fun ds=>(body (ZX ks ds n)).bind fun r=>match r with
 | .rf o=>some o
 | _=>none
@[simp] def XC(C:Addr)(ks:List Bool)(n:Nat)(body:DS):Addr->List D->Option OD:=fun p ds=>(body (.ow (some p) (.ins C [] [])::ZX ks ds n)).bind fun r=>match r with
 | .nx Z=>(match (Z[0]?:Option Sl)with
  | some (Sl.ow q o)=>if q=some p then some o else none
  | _=>none)
 | _=>none
variable {P:Program} {w:World} {mg:Tx} {base:Heap} {x qual:Str} {f:Addr} {fd:FuncData} {N ps:List Str} {k n:Nat} {ks:List Bool} {body:DS}
def Em(F:Fun K x qual st f fd)(S:FnScope N ps (defScope st))(hk:ks.length=ps.length)(hn:N.length - ps.length=n)
  (hb:∀(cdv:Value) (A:Around) (outer:List Env) (s:Shared) (H:Hp) (E:XK),Room k (A.deeper (envOfC qual (defScope st) s.heap.objs.size f cdv))->jP (ZV Yj P w K mg base N qual (defScope st) f cdv A outer s H E).nox (defBody st) (tS K body)):
  FnOk P w K mg base Yj (k+1) f fd ps (K3 K ks (J7 ks n body)):=by
 refine F.ok S (fun vs H Q E h=>?_) fun cdv A outer s H vs Q E hr h=>?_
 ·obtain⟨O,ds,d,_,ak,_⟩:=h;have:=ak.len
  lia
 ·obtain⟨O,ds,d,al,ak,e,q⟩:=h;refine⟨_,hb cdv A outer s H E hr,?_⟩;obtain⟨r,e1,e2⟩:=j6 e;have hl:N.length - vs.length=n:=by have:=ak.len;lia
  unfold L2.za;rw[hl];refine⟨H,O,_,O,r,xz ak al,e1,?_⟩;cases r with
  | rt d'=>cases e2;exact fun v H' s r=>q v H' s r
  | rf o=>
   cases e2;exact fun l H' s hl ow=>q _ H' s ((ow.same (fun _ z=>z) (Jo fun a h=>wMa _ h)).rep fun u z=>by rw[J3 (fun y=>al l y hl)];exact z)
  | nx Z=>cases e2;exact fun U' H' O' R' _=>q _ H' R'.keep (by rw[j8])
  | bk Z=>cases e2
  | ct Z=>cases e2
def lL(F:Fun K x qual st f fd)(S:FnScope N ps (defScope st))(hk:ks.length=ps.length)(hn:N.length - ps.length=n)
  (hb:∀(cdv:Value) (A:Around) (outer:List Env) (s:Shared) (H:Hp) (E:XK),Room k (A.deeper (envOfC qual (defScope st) s.heap.objs.size f cdv))->jP (ZV Yj P w K mg base N qual (defScope st) f cdv A outer s H E).nox (defBody st) (tS K body)):
  FnOk P w K mg base Yj (k+1) f fd ps (Xy K ks (u9 ks n body)):=by
 refine F.ok S (fun vs H Q E h=>?_) fun cdv A outer s H vs Q E hr h=>?_
 ·obtain⟨O,ds,d,_,ak,_⟩:=h;have:=ak.len
  lia
 ·obtain⟨O,ds,d,al,ak,e,q⟩:=h;refine⟨_,hb cdv A outer s H E hr,?_⟩;obtain⟨r,e1,e2⟩:=j6 e;have hl:N.length - vs.length=n:=by have:=ak.len;lia
  unfold L2.za;rw[hl];refine⟨H,O,_,O,r,xz ak al,e1,?_⟩;cases r with
  | rt d'=>cases e2
  | rf o=>cases e2;exact q
  | nx Z=>cases e2
  | bk Z=>cases e2
  | ct Z=>cases e2
set_option tactic.hygienic true in
theorem lM{C:Addr}(F:Fun K x qual st f fd)(S:FnScope N ps (defScope st))(hk:ks.length+1=ps.length)(hn:N.length - ps.length=n)
  (hb:∀(cdv:Value) (A:Around) (outer:List Env) (s:Shared) (H:Hp) (E:XK),Room k (A.deeper (envOfC qual (defScope st) s.heap.objs.size f cdv))->jP (ZV Yj P w K mg base N qual (defScope st) f cdv A outer s H E).nox (defBody st) (tS K body)):
  FnOk P w K mg base Yj (k+1) f fd ps (Bp K C ks (XC C ks n body)):=by
 refine F.ok S (fun vs H Q E h=>?_) fun cdv A outer s H vs Q E hr h=>?_
 ·obtain⟨O,ds,p,dx,vs',o,rfl,_,_,_,ak,_⟩:=h;have:=ak.len;rw[vXa]
  lia
 ·obtain⟨O,ds,p,dx,vs',o,rfl,al,hp,hpO,ak,e,q⟩:=h;refine⟨_,hb cdv A outer s H E hr,?_⟩;obtain⟨r,e1,e2⟩:=j6 e;have hl:N.length - (V.ref p::vs').length=n:=by have:=ak.len;rw[vXa];lia
  unfold L2.za;rw[hl];have al':∀a∈O,jd H [p] a≠none:=fun a ha=>by
   rw[J3 (by intro z;simp at z;exact hpO (z▸ha))];exact al a ha
  have R0:=xz (n:=n) ak al';have np:jd H [p] p=none:=G1 wNa;have sH:j7 (jd H [p]) H:=Jx;have sd:j7 (jd (jd H [p]) O) (jd H (p::O)):=fun b u z=>by
   obtain⟨z1,z2⟩:=Js z;obtain⟨z3,z4⟩:=Js z2;rw[J3 (by intro y;rcases List.mem_cons.mp y with y | y;exact z3 (by rw[y];exact List.mem_cons_self);exact z1 y)];exact z4
  have R:Rel K (jd H [p]) O (.ow (some p) (.ins C [] [])::ZX ks ds n) (List.map some (V.ref p::vs')++List.replicate n none) H (p::O):=by
   refine⟨?_,fun a h=>wMa _ h,?_,al',?_,sH,?_,?_,?_,?_,?_⟩
   ·have:=R0.len;rw[vXa,vWa,List.cons_append,vXa,this]
   ·intro a ha;rcases uTa ha with rfl | ha
    ·exact .inr np
    ·exact .inl ha
   ·intro a ha;rcases uTa ha with rfl | ha
    ·rw[hp];exact fun z=>nomatch z
    ·exact al a ha
   ·intro i d e;cases i with
    | zero=>cases e
    | succ i=>
     obtain⟨v,h1,h2⟩:=R0.cl i d e;exact⟨v,h1,h2.same sd⟩
   ·intro i d e;cases i with
    | zero=>cases e
    | succ i=>exact R0.bo i d e
   ·intro i q' o' e;cases i with
    | zero=>
     cases e;exact⟨p,(fun p' z=>vFa z),rfl,⟨dx,[],hp,rfl,j4.nil⟩,wNa,np⟩
    | succ i=>
     obtain⟨k',d',v,_,_,h3⟩:=Yv ak (by intro z;cases z) e;cases k' <;> cases h3
   ·intro i j q1 q2 o1 o2 l e e';have z:∀(i:Nat) (q':Option Addr) (o':OD),(Sl.ow (some p) (.ins C [] [])::ZX ks ds n)[i]?=some (.ow q' o')->i=0:=fun i q' o' e=>by
     cases i with
     | zero=>rfl
     | succ i=>
      obtain⟨k',d',v,_,_,h3⟩:=Yv ak (by intro z;cases z) e;cases k' <;> cases h3
    intro _ _;rw[z i _ _ e,z j _ _ e']
   ·intro i ls e;cases i with
    | zero=>cases e
    | succ i=>
     obtain⟨k',d',v,_,_,h3⟩:=Yv ak (by intro z;cases z) e;cases k' <;> cases h3
  refine⟨jd H [p],O,_,p::O,r,R,e1,?_⟩;cases r with
  | nx Z=>
   intro U' H' O' R' _;have e2:(match (Z[0]?:Option Sl)with
    | some (Sl.ow q o)=>if q=some p then some o else none
    | _=>none)=some o:=e2
   split at e2
   ·rename_i qq o' h0;split at e2
    ·rename_i hq;cases e2;subst hq;obtain⟨l,hl2,_,ow,lo,_⟩:=R'.ow 0 _ _ h0;have el:=hl2 p rfl;subst el;refine q H' R'.keep (ow.same (fun _ z=>z) (Jo fun a ha=>?_));rcases uTa ha with rfl | ha
     ·exact lo
     ·exact R'.sub a ha
    ·cases e2
   ·cases e2
  | rt d'=>cases e2
  | rf o=>cases e2
  | bk Z=>cases e2
  | ct Z=>cases e2
end
section
variable {K:Fr} {H0 H H':Hp} {O0 O:List Addr} {Z:jg} {U:L2.St}
def GY(s:j7 H H')(hn:∀a∈F,H a=none):j7 (jd H O) (jd H' (F++O)):=fun b o h=>by
 obtain⟨h1,h2⟩:=Js h;rw[J3 fun z=>?_]
 ·exact s _ _ h2
 ·rcases uWa z with z | z
  ·rw[hn b z]at h2;cases h2
  ·exact h1 z
def Rel.lay(R:Rel K H0 O0 Z U H O)(s:j7 H H')(hn:∀a∈F,H a=none)(hA:∀a∈F,H' a≠none):Rel K H0 O0 Z U H' (F++O) where
 len:=R.len
 sub:=fun a h=>vJa _ (R.sub a h)
 fr:=fun a ha=>(uWa ha).elim (fun z=>.inr (R.keep.none (hn a z))) (R.fr a)
 al0:=R.al0
 al:=fun a ha=>(uWa ha).elim (hA a) fun z y=>R.al a z (s.none y)
 keep:=R.keep.trans s
 cl:=fun i d e=>by obtain⟨v,a,b⟩:=R.cl i d e;exact⟨v,a,b.same (GY s hn)⟩
 bo:=R.bo
 ow:=fun i q o e=>by obtain⟨l,z,a,b,d,f⟩:=R.ow i q o e;exact⟨l,z,a,b.same (s l) (GY s hn),vJa _ d,f⟩
 dist:=R.dist
 lo:=R.lo.up (fun _ _ e=>⟨e,rfl⟩) (fun _ _ z=>z) (fun a h _=>⟨vJa _ h,fun u z=>s a u z⟩) (GY s hn)
def Rel.poke(R:Rel K H0 O0 Z U H O)(nl:∀(i:Nat) (ls:List (List D)),Z[i]?≠some (.lo ls))(ha:a∈O)(h0:H0 a=none)(nf:¬UP Z U a):Rel K H0 O0 Z U (upd H a u) O where
 len:=R.len
 sub:=R.sub
 fr:=R.fr
 al0:=R.al0
 al:=fun b hb=>by
  by_cases z:b=a
  ·rw[z,jS];exact fun z=>nomatch z
  ·rw[jr z];exact R.al b hb
 keep:=R.keep.upd h0 _
 cl:=fun i d e=>by rw[JC ha];exact R.cl i d e
 bo:=R.bo
 ow:=fun i q o e=>by
  obtain⟨l,z,h1,h2,h3⟩:=R.ow i q o e;rw[JC ha];exact⟨l,z,h1,h2.same (fun u y=>by rw[jr fun w=>nf ⟨i,q,o,e,by rw[<-w];exact h1⟩];exact y) (j7.refl _),h3⟩
 dist:=R.dist
 lo:=fun i ls e=>vDa e (nl i ls)
end
end DS
namespace L2
def yl(h:Heap)(d:Addr)(es:Array DictEntry)(ep:Nat):Prop:=∃o,h.get? d=some o/\o.ExactDict/\o.data=.dict es ep
def yl.ty{s:Shared}(m:yl s.heap d es ep):s.TypeIs (.ref d) "dict" := let ⟨o,g,c,_⟩:=m;⟨o,g,c.1⟩
def yl.at(m:yl h d es ep)(e:∀o,h.get? d=some o->h'.get? d=some o):yl h' d es ep:=let ⟨o,g,c⟩:=m;⟨o,e _ g,c⟩
def WG(hd:(d==sysModules)=false)(m:yl s.heap d es ep)
  (q:Q (.ref s.heap.objs.size) { s with heap:=s.heap.push { cls:=.type "dict_keyiterator",data:=.fields #[.ref d,.int 0 0,.int es.size 0,.int ep 0] } }):wpAny (model prog w) A (pyIter (.ref d)) Q E s:=by
 have ty:=m.ty;obtain⟨o,g,c,dt⟩:=m;refine wpAny_pyIter_slot ty F.slot_dict_iter (wpAny_call_entry F.slot_dict_iter ty F.entry_dict_iter (wAa (wAa (wpAny_notOrdered_dict ty ?_))) (F.args_dict_iter_1 _));refine(show wpAny _ _ (pure (Value.ref d)) _ _ s from wBa (show wpAny _ _ (Builtin.Dict.showsAll d >>= _) _ _ s from ?_));unfold Builtin.Dict.showsAll;rw[if_neg (by rw[hd];decide)];refine wAa (wBa (wAa (wpAny_dictEntries g dt (wAa (wpAny_dictEpoch g dt (wAa (vTa (wBa ⟨_,rfl, "dict_keyiterator",_,⟨_,wJa _ rfl,rfl⟩,F.slot_dict_keyiterator_next.lookup,?_⟩))))))));simpa[rawInt]using q
def WH(k:s.heap.IsKeyIter it d i es.size ep)(m:yl s.heap d es ep)(x:es[i]?=some e)
  (q:∀h',h'.IsKeyIter it d (i+1) es.size ep->Heap.SameBut it s.heap h'->Q (some e.key) { s with heap:=h' }):wpAny (model prog w) A (pyNext (.ref it)) Q E s:=by
 have ty:=k.typeIs;obtain⟨o,g,c,dt⟩:=k;obtain⟨od,gd,_,dd⟩:=m;have own:Builtin.Dict_items.ownsTuple "dict_keyiterator" = false:=by decide
 unfold pyNext;refine wAa (wpAny_attempt (wpAny_callSpecial?_slot (name:=Str.ofString "__next__") ty F.slot_dict_keyiterator_next (wpAny_call_entry F.slot_dict_keyiterator_next ty F.entry_dict_keyiterator_next (wAa (wBa (wAa (wAa ?_)))) (F.args_dict_keyiterator_next_1 _))));refine wAa (wpAny_typeNameOfWhole_keyiter ty (wBa (wAa (wpAny_fieldsOf g dt ?_))));simp only[own,Bool.false_eq_true,if_false];refine(show wpAny _ _ (if (Value.ref d==Value.none)=true then _ else _) _ _ s from ?_);rw[if_neg (fun z:(Value.ref d==Value.none)=true=>by cases z)];refine wAa (wBa (wAa (wpAny_dictEntries gd dd ?_)));rw[if_neg (by simp)];refine wAa (wBa (wAa (wpAny_dictEpoch gd dd ?_)));rw[if_neg (by simp)];refine wBa ?_;simp only[show¬((i:Int) < 0) by lia,if_false,Int.toNat_natCast,x];refine wAa (wAa (wpAny_typeNameOfWhole_keyiter ty (wBa (wAa (wpAny_isOneOf_keyiter ty ?_)))));refine(show wpAny _ _ (setField (.ref it) 1 (rawInt ((i:Int)+1)) >>= _) _ _ s from wAa (wpAny_setField g dt (by simp) ?_));have k':(s.heap.update it (Obj.mapFields (·.setIfInBounds 1 (rawInt ((i:Int)+1))))).IsKeyIter it d (i+1) es.size ep:=
  ⟨_,vUa _ g (Obj.isFreed_of_fields (Obj.data_mapFields dt _)),(Obj.cls_mapFields ..).trans c,by rw[Obj.data_mapFields dt];simp[rawInt]⟩
 refine wAa (wDa (wAa (wpAny_isOneOf_keyiter (s:={ s with heap:=s.heap.update it (Obj.mapFields (·.setIfInBounds 1 (rawInt ((i:Int)+1)))) }) k'.typeIs ?_)));exact(show wpAny _ _ (pure e.key) _ _ _ from wBa (wBa ⟨_,rfl,wBa (q _ k' (Heap.SameBut.update ..))⟩))
def Qe(hh:A.handled=none)(k:s.heap.IsKeyIter it d i es.size ep)(m:yl s.heap d es ep)(x:es.size<=i)
  (q:∀h',Heap.ExtBut it s.heap h'->Q none { s with heap:=h' }):wpAny (model prog w) A (pyNext (.ref it)) Q E s:=by
 have ty:=k.typeIs;obtain⟨o,g,c,dt⟩:=k;obtain⟨od,gd,_,dd⟩:=m;have own:Builtin.Dict_items.ownsTuple "dict_keyiterator" = false:=by decide
 unfold pyNext;refine wAa (wpAny_attempt (wpAny_callSpecial?_slot (name:=Str.ofString "__next__") ty F.slot_dict_keyiterator_next (wpAny_call_entry F.slot_dict_keyiterator_next ty F.entry_dict_keyiterator_next (wAa (wBa (wAa (wAa ?_)))) (F.args_dict_keyiterator_next_1 _))));refine wAa (wpAny_typeNameOfWhole_keyiter ty (wBa (wAa (wpAny_fieldsOf g dt ?_))));simp only[own,Bool.false_eq_true,if_false];refine(show wpAny _ _ (if (Value.ref d==Value.none)=true then _ else _) _ _ s from ?_);rw[if_neg (fun z:(Value.ref d==Value.none)=true=>by cases z)];refine wAa (wBa (wAa (wpAny_dictEntries gd dd ?_)));rw[if_neg (by simp)];refine wAa (wBa (wAa (wpAny_dictEpoch gd dd ?_)));rw[if_neg (by simp)];refine wBa ?_;simp only[show¬((i:Int) < 0) by lia,if_false,Int.toNat_natCast,Array.getElem?_eq_none x];refine wAa (wAa (wpAny_typeNameOfWhole_keyiter ty (wBa ?_)));refine(show wpAny _ _ (setField (.ref it) 0 .none >>= _) _ _ s from wAa (wpAny_setField g dt (by simp) (show wpAny _ _ (newExc (.type "StopIteration") [] >>= _) _ _ _ from wAa ?_)));simp only[newExc,newTuple];refine wAa (vTa (wAa (m:=firstArgMember _ _) (wEa (a:=Value.none) (by first | rfl | (simp only[firstArgMember];rfl)) (vTa ?_ (by size_fits)))) (by size_fits));simp only[raiseNew];refine wAa (wpAny_handled ?_);rw[show A.in1.handled=none from hh];refine wAa (wBa (wpAny_throw (wAa ?_)));exact wpAny_isInstance (T := "StopIteration") (b:=true) ⟨_,wJa _ rfl,rfl⟩ isSubtype_stop (wBa (q _ (((Heap.SameBut.update ..).extBut.push _).push _)))
def XD(hd:(d==sysModules)=false)(m:yl s.heap d es ep)(q:Q (.ref s.heap.objs.size) { s with heap:=s.heap.push { cls:=.type "dict_items",data:=.fields #[.ref d] } }):
  wpAny (model prog w) A (call (.builtin "dict.items") [.ref d]) Q E s:=by
 have ty:=m.ty;refine wpAny_call_entry F.slot_dict_items ty F.entry_dict_items (wAa (wAa (wpAny_notOrdered_dict ty ?_))) (F.args_dict_items_1 _);refine(show wpAny _ _ (pure d) _ _ s from wBa (show wpAny _ _ (Builtin.Dict.showsAll d >>= _) _ _ s from ?_));unfold Builtin.Dict.showsAll;rw[if_neg (by rw[hd];decide)];exact wAa (wBa (wAa (vTa (wBa ⟨_,rfl,q⟩))))
def XE(hv:s.heap.IsItemsView v d)(m:yl s.heap d es ep)
  (q:Q (.ref s.heap.objs.size) { s with heap:=s.heap.push { cls:=.type "dict_itemiterator",data:=.fields #[.none,.bool false,.ref d,.int 0 0,.int es.size 0,.int ep 0,.none,.none] } }):wpAny (model prog w) A (pyIter (.ref v)) Q E s:=by
 have ty:=hv.typeIs;obtain⟨ov,gv,cv,dv⟩:=hv;obtain⟨o,g,c,dt⟩:=m;have own:Builtin.Dict_items.ownsTuple "dict_itemiterator" = true:=by decide
 refine wpAny_pyIter_slot ty F.slot_dict_items_iter (wpAny_call_entry F.slot_dict_items_iter ty F.entry_dict_items_iter (wAa (wBa (wAa ?_))) (F.args_dict_items_iter_1 _));refine wAa (wpAny_field gv dv (x:=.ref d) rfl (wBa (wAa (wAa (wpAny_dictEntries g dt (wAa (wpAny_dictEpoch g dt ?_)))))));simp only[own,if_true];refine vTa (wBa ⟨_,rfl, "dict_itemiterator",_,⟨_,wJa _ rfl,rfl⟩,F.slot_dict_itemiterator_next.lookup,?_⟩) ?_
 ·simpa[rawInt,Builtin.Dict_items.ownedTupleFields]using q
 ·simp only[sizeOk,Builtin.Dict_items.ownedTupleFields,List.size_toArray,List.length_append,List.length_cons,List.length_nil,sizeLine_eq]
  lia
def XF(k:IsItemIter s.heap it d i es.size ep ok ov)(m:yl s.heap d es ep)(x:es[i]?=some e)
  (q:∀h',IsItemIterOut h' it d (i+1) es.size ep e.key e.val s.heap.objs.size->h'.get? s.heap.objs.size=some { cls:=.type "tuple",data:=.seq #[e.key,e.val] }->h'.objs.size=s.heap.objs.size+1->
   (∀b o,b≠it->s.heap.get? b=some o->h'.get? b=some o)->Q (some (.ref s.heap.objs.size)) { s with heap:=h' }):wpAny (model prog w) A (pyNext (.ref it)) Q E s:=by
 obtain⟨hp,gg,dr,tk,os⟩:=s;have ty:Shared.TypeIs ⟨hp,gg,dr,tk,os⟩ (.ref it) "dict_itemiterator" := ⟨_,k,rfl⟩
 obtain⟨od,gd,_,dd⟩:=m;have own:Builtin.Dict_items.ownsTuple "dict_itemiterator" = true:=by decide
 unfold pyNext;refine wAa (wpAny_attempt (wpAny_callSpecial?_slot (name:=Str.ofString "__next__") ty F.slot_dict_itemiterator_next (wpAny_call_entry F.slot_dict_itemiterator_next ty F.entry_dict_itemiterator_next (wAa (wBa (wAa (wAa ?_)))) (F.args_dict_itemiterator_next_1 _))));refine wAa (wpAny_typeNameOfWhole_itemiter ty (wBa (wAa (wpAny_fieldsOf k rfl ?_))));simp only[own,if_true];refine(show wpAny _ _ (if (Value.ref d==Value.none)=true then _ else _) _ _ ⟨hp,gg,dr,tk,os⟩ from ?_);rw[if_neg (fun z:(Value.ref d==Value.none)=true=>by cases z)];refine wAa (wBa (wAa (wpAny_dictEntries gd dd ?_)));rw[if_neg (by simp)];refine wAa (wBa (wAa (wpAny_dictEpoch gd dd ?_)));rw[if_neg (by simp)];refine wBa ?_;simp only[show¬((i:Int) < 0) by lia,if_false,Int.toNat_natCast,x];refine wAa (wAa (wpAny_typeNameOfWhole_itemiter ty (wBa (wAa (wpAny_isOneOf_itemiter ty ?_)))));refine(show wpAny _ _ (setField (.ref it) 3 (rawInt ((i:Int)+1)) >>= _) _ _ ⟨hp,gg,dr,tk,os⟩ from wAa (wpAny_setField_rec k (by simp) fun h1 e1 s1=>?_))
 replace s1:Heap.SameBut it hp h1:=s1
 have e1:IsItemIter h1 it d (i+1) es.size ep ok ov:=by
  have z:((i+1:Nat):Int)=(i:Int)+1:=by lia
  unfold IsItemIter;rw[z];simpa[rawInt]using e1
 have ty1:Shared.TypeIs ⟨h1,gg,dr,tk,os⟩ (.ref it) "dict_itemiterator" := ⟨_,e1,rfl⟩
 refine wAa (wDa (wAa (wpAny_isOneOf_itemiter ty1 (wAa (wpAny_isOneOf_itemiter ty1 ?_)))));refine(show wpAny _ _ (Builtin.Dict_items.pairFromOwner (.ref it) 6 e.key e.val) _ _ ⟨h1,gg,dr,tk,os⟩ from ?_);unfold Builtin.Dict_items.pairFromOwner;refine wAa (wpAny_newTuple ?_);have e2:IsItemIter (h1.push { cls:=.type "tuple",data:=.seq #[e.key,e.val] }) it d (i+1) es.size ep ok ov:=wIa _ e1;generalize hh2:h1.push { cls:=.type "tuple",data:=.seq #[e.key,e.val] }=h2 at e2;have z1:h1.objs.size=hp.objs.size:=s1.1;have lt:it < hp.objs.size:=wLa k;have t2:h2.get? hp.objs.size=some { cls:=.type "tuple",data:=.seq #[e.key,e.val] }:=by rw[<-hh2,<-z1];exact wJa _ rfl
 have z2:h2.objs.size=hp.objs.size+1:=by rw[<-hh2,uPa,z1]
 have k2:∀b o,b≠it->hp.get? b=some o->h2.get? b=some o:=fun b o hb e=>by rw[<-hh2];exact wIa _ (s1.extBut b o hb e)
 refine(show wpAny _ _ (Builtin.Dict_items.ownedTupleIsFree (.ref it) >>= _) _ _ ⟨h2,gg,dr,tk,os⟩ from ?_);rw[z1];clear hh2 s1 ty1 z1;refine wAa (wAa (wpAny_field e2 rfl (x:=.none) rfl (wBa ?_)));simp only[if_true];refine wAa (wpAny_field e2 rfl (x:=ok) rfl (wAa (wpAny_field e2 rfl (x:=ov) rfl (wAa (wpAny_setField_rec e2 (by simp) fun h3 e3 s3=>?_)))))
 replace s3:Heap.SameBut it h2 h3:=s3
 replace e3:IsItemIter h3 it d (i+1) es.size ep e.key ov:=e3
 refine wAa (wpAny_setField_rec e3 (by simp) fun h4 e4 s4=>?_)
 replace s4:Heap.SameBut it h3 h4:=s4
 replace e4:IsItemIter h4 it d (i+1) es.size ep e.key e.val:=e4
 refine wAa (wpAny_setField_rec e4 (by simp) fun h5 e5 s5=>?_)
 replace s5:Heap.SameBut it h4 h5:=s5
 replace e5:IsItemIterOut h5 it d (i+1) es.size ep e.key e.val hp.objs.size:=e5
 refine wAa (wpAny_setField_rec e5 (by simp) fun h6 e6 s6=>?_)
 replace s6:Heap.SameBut it h5 h6:=s6
 replace e6:IsItemIterOut h6 it d (i+1) es.size ep e.key e.val hp.objs.size:=e6
 have kk:∀b o,b≠it->h2.get? b=some o->h6.get? b=some o:=fun b o hb z=>s6.extBut b o hb (s5.extBut b o hb (s4.extBut b o hb (s3.extBut b o hb z)));refine wAa (wFa (wBa (wBa ⟨_,rfl,wBa (q h6 e6 (kk _ _ (Nat.ne_of_gt lt) t2) ?_ fun b o hb z=>kk b o hb (k2 b o hb z))⟩)));exact(show h6.objs.size=hp.objs.size+1 by rw[s6.1,s5.1,s4.1,s3.1,z2])
def AA(hh:A.handled=none)(k:IsItemIter s.heap it d i es.size ep ok ov)(m:yl s.heap d es ep)(x:es.size<=i)
  (q:∀h',Heap.ExtBut it s.heap h'->Q none { s with heap:=h' }):wpAny (model prog w) A (pyNext (.ref it)) Q E s:=by
 have ty:s.TypeIs (.ref it) "dict_itemiterator" := ⟨_,k,rfl⟩
 obtain⟨od,gd,_,dd⟩:=m;have own:Builtin.Dict_items.ownsTuple "dict_itemiterator" = true:=by decide
 unfold pyNext;refine wAa (wpAny_attempt (wpAny_callSpecial?_slot (name:=Str.ofString "__next__") ty F.slot_dict_itemiterator_next (wpAny_call_entry F.slot_dict_itemiterator_next ty F.entry_dict_itemiterator_next (wAa (wBa (wAa (wAa ?_)))) (F.args_dict_itemiterator_next_1 _))));refine wAa (wpAny_typeNameOfWhole_itemiter ty (wBa (wAa (wpAny_fieldsOf k rfl ?_))));simp only[own,if_true];refine(show wpAny _ _ (if (Value.ref d==Value.none)=true then _ else _) _ _ s from ?_);rw[if_neg (fun z:(Value.ref d==Value.none)=true=>by cases z)];refine wAa (wBa (wAa (wpAny_dictEntries gd dd ?_)));rw[if_neg (by simp)];refine wAa (wBa (wAa (wpAny_dictEpoch gd dd ?_)));rw[if_neg (by simp)];refine wBa ?_;simp only[show¬((i:Int) < 0) by lia,if_false,Int.toNat_natCast,Array.getElem?_eq_none x];refine wAa (wAa (wpAny_typeNameOfWhole_itemiter ty (wBa ?_)));refine(show wpAny _ _ (setField (.ref it) 2 .none >>= _) _ _ s from wAa (wpAny_setField k rfl (by simp) (show wpAny _ _ (newExc (.type "StopIteration") [] >>= _) _ _ _ from wAa ?_)));simp only[newExc,newTuple];refine wAa (vTa (wAa (m:=firstArgMember _ _) (wEa (a:=Value.none) (by first | rfl | (simp only[firstArgMember];rfl)) (vTa ?_ (by size_fits)))) (by size_fits));simp only[raiseNew];refine wAa (wpAny_handled ?_);rw[show A.in1.handled=none from hh];refine wAa (wBa (wpAny_throw (wAa ?_)));exact wpAny_isInstance (T := "StopIteration") (b:=true) ⟨_,wJa _ rfl,rfl⟩ isSubtype_stop (wBa (q _ (((Heap.SameBut.update ..).extBut.push _).push _)))
def AB(hd:(d==sysModules)=false)(m:yl s.heap d es ep)(q:Q (.int es.size s.toks) { s with toks:=s.toks+1 }):wpAny (model prog w) A (call (.builtin "dict.__len__") [.ref d]) Q E s:=by
 have ty:=m.ty;obtain⟨o,g,c,dt⟩:=m;refine wpAny_call_entry F.slot_dict_len ty F.entry_dict_len (wAa (wAa (wpAny_notOrdered_dict ty ?_))) (F.args_dict_len_1 _);refine(show wpAny _ _ (pure (Value.ref d)) _ _ s from wBa (wAa (wBa (wAa ?_))));refine(show wpAny _ _ (dictSize d) _ _ s from wAa (wpAny_dictEntries g dt (wBa (wAa (wpAny_pendingCount_other hd (wpAny_ret_mkInt ?_))))));simpa using q
def Cg(hd:(d==sysModules)=false)(m:yl s.heap d es ep)(hz:(es.size:Int) < 2 ^ 63)(q:Q (.int es.size (s.toks+1)) { s with toks:=s.toks+1+1 }):wpAny (model prog w) A (call (.builtin "len") [.ref d]) Q E s:=
 PyProof.Rows.call_len_slot (n:=es.size) m.ty F.slot_dict_len (fun Q' hq=>AB hd m hq) (by omega) (by omega) q
def AD(m:yl s.heap d es ep)(q:Q false s):wpAny (model prog w) A (Builtin.List.listLengthHint (.ref d)) Q E s:=by
 have ty:=m.ty;unfold Builtin.List.listLengthHint;refine wAa (wpAny_specialOf ty F.slot_dict_len.lookup ?_);generalize nm:("dict.__len__" : String)=id0
 wp_delta
 rw[show splitId id0=some ("dict", "__len__") from by subst nm;decide +kernel];subst nm;refine wAa (wpAny_isInstance (T := "dict") (b:=true) ty (by rw[isSubtype_type];kernel_rfl) (wpAny_ite_split (fun z=>vDa z (by decide)) fun _=>?_));exact wpAny_ite_split (fun _=>wAa (wpAny_typeOf ty (wBa q))) fun z=>vDa (by decide +kernel) z
def XH(hh:A.handled=none)(I:Addr)(hne:d≠I):
  Walks prog w A I [I,d] [I] es.size (fun i v=>∃e,es[i]?=some e/\v=e.key) (fun i h=>h.IsKeyIter I d i es.size ep/\yl h d es ep) where
 sub:=fun b hb=>by simp at hb;simp[hb]
 frame:=fun _ _ _ st hk=>⟨st.1.at fun o e=>hk I (by simp) o e,st.2.at fun o e=>hk d (by simp) o e⟩
 item:=fun i s Q E hi st hQ=>by
  have x:es[i]?=some es[i]:=by simp[hi]
  exact WH st.1 st.2 x fun h' k' sb=>hQ _ h' s.toks ⟨_,x,rfl⟩ ⟨k',st.2.at fun o e=>sb.extBut _ o hne e⟩ fun b o hb e=>sb.extBut b o (fun z=>hb (by simp[z])) e
 done:=fun s Q E st hQ=>Qe hh st.1 st.2 (wPa _) fun h' eb=>hQ h' s.toks fun b o hb e=>eb b o (fun z=>hb (by simp[z])) e
 self:=fun _ _ _ _ st hQ=>wpAny_pyIter_keyiter st.1 hQ
def AE(hh:A.handled=none)(hd:(d==sysModules)=false)(m:yl s.heap d es ep)(hz:es.size<=2 ^ 24)
  (q:∀h' tk acc c,(∀b o,s.heap.get? b=some o->h'.get? b=some o)->h'.get? s.heap.objs.size=some { cls:=.type "list",data:=.seq acc c }->acc.toList=es.toList.map (·.key)->Q (.ref s.heap.objs.size) { s with heap:=h',toks:=tk }):
  wpAny (model prog w) A (call (.type "list") [.ref d]) Q E s:=by
 have dlt:d < s.heap.objs.size:=by obtain⟨o,g,_⟩:=m;exact wLa g
 refine callType_codes (Q₁:=fun obj s₁=>obj=.ref s.heap.objs.size/\s₁={ s with heap:=s.heap.push { cls:=.type "list",data:=.seq #[] } }) F.called_list (F.typeCall_list_1 _) F.entry_list_init (code_list_new _ ⟨rfl,rfl⟩) ?_;rintro obj s₁ ⟨rfl,rfl⟩;obtain⟨S,hS⟩:∃S,s.heap.objs.size=S:=⟨_,rfl⟩
 rw[hS]at q dlt⊢;have g0:(s.heap.push { cls:=.type "list",data:=.seq #[] }).get? S=some { cls:=.type "list",data:=.seq #[] }:=by rw[<-hS];exact wJa _ rfl
 have m0:yl (s.heap.push { cls:=.type "list",data:=.seq #[] }) d es ep:=m.at fun o e=>wIa _ e;have sz0:(s.heap.push { cls:=.type "list",data:=.seq #[] }).objs.size=S+1:=by rw[uPa,hS]
 have k0:∀b o,s.heap.get? b=some o->(s.heap.push { cls:=.type "list",data:=.seq #[] }).get? b=some o/\b≠S:=fun b o e=>⟨wIa _ e,wTa (by rw[<-hS];exact wLa e)⟩
 generalize s.heap.push { cls:=.type "list",data:=.seq #[] }=h0 at g0 m0 sz0 k0;refine⟨⟨_,g0,rfl⟩,F.args_list_init_2 _ _,?_⟩;have hSd:S≠d:=Ne.symm (wTa dlt);refine(show wpAny _ _ (do let old<-Builtin.List.listItems (.ref S);Builtin.List.listUpdate (.ref S) (fun _=>#[]);letGo old.toList.reverse;Builtin.List.listExtendWith (.ref S) (.ref d) .none) _ _ { s with heap:=h0 } from wAa (wAa (wpAny_seqItems g0 rfl (wBa ?_))));refine(show wpAny _ _ (updateSeq S (fun _=>#[]) >>= fun _=>letGo (#[]:Array Value).toList.reverse >>= fun _=>Builtin.List.listExtendWith (.ref S) (.ref d) .none) _ _ { s with heap:=h0 } from wAa (wpAny_updateSeq g0 rfl (wAa (wFa ?_))));have oth:∀(h:Heap) (f:Obj->Obj) b o,b≠S->h.get? b=some o->(h.update S f).get? b=some o:=fun h f b o hb e=>(wKa _ _ (Ne.symm hb)).trans e;have g1:=vUa (Obj.mapSeq (fun _=>(#[]:Array Value))) g0 rfl;have m1:yl (h0.update S (Obj.mapSeq (fun _=>(#[]:Array Value)))) d es ep:=m0.at fun o e=>oth _ _ _ o (Ne.symm hSd) e;have sz1:(h0.update S (Obj.mapSeq (fun _=>(#[]:Array Value)))).objs.size=S+1:=by rw[Heap.size_update,sz0]
 have k1:∀b o,s.heap.get? b=some o->(h0.update S (Obj.mapSeq (fun _=>(#[]:Array Value)))).get? b=some o/\b≠S:=fun b o e=>⟨oth _ _ b o (k0 b o e).2 (k0 b o e).1,(k0 b o e).2⟩
 generalize h0.update S (Obj.mapSeq (fun _=>(#[]:Array Value)))=h1 at g1 m1 sz1 k1;have W:=(XH (prog:=prog) (w:=w) (A:=A.in1.in1) (es:=es) (ep:=ep) hh (S+1) (d:=d) (wTa (Nat.lt_succ_of_lt dlt))).toS;have fin:∀(h:Heap) (c tk:Nat),h.IsKeyIter (S+1) d 0 es.size ep->yl h d es ep->(∀b o,s.heap.get? b=some o->h.get? b=some o)->h.get? S=some { cls:=.type "list",data:=.seq #[] c }->
   codeAny (model prog w) A.in1 (.builtin "list.extend.loop" ⟨[.ref S,.ref (S+1),.none],[]⟩) (wants (fun r s₂=>r=Value.none/\Q (.ref S) s₂) E) { s with heap:=h,toks:=tk }:=by
  intro h c tk k mm kk gS;refine codeAny_extend_loopS W (by rw[sizeLine_eq];omega) S (by simp;omega) .none es.size 0 _ #[] c rfl (Nat.zero_le _) ⟨k,mm⟩ gS (ItemsOf.nil _) fun s' acc' c' hm hS' hacc=>?_;rw[Moved.eq_with hm];refine⟨rfl,q s'.heap s'.toks acc' c' (fun b o e=>hm.heap b o (fun z=>?_) (kk b o e)) hS' ?_⟩
  ·have lt:b < S:=by rw[<-hS];exact wLa e
   simp at z;rcases z with z | z
   ·exact wTa lt z
   ·exact wTa (Nat.lt_succ_of_lt lt) z
  ·refine List.ext_getElem? fun j=>?_;rw[uAa];by_cases hj:j < acc'.size
   ·obtain⟨e,e1,e2⟩:=hacc.2 j acc'[j] (by simp[hj]);simp[hj,e1,e2]
   ·have:=hacc.1;simp[hj,show¬j < es.size by omega]
 unfold Builtin.List.listExtendWith;refine wAa (wpAny_typeOf (s:={ s with heap:=h1 }) (T := "dict") m1.ty ?_);have b1:Builtin.List.listSameRef (.ref S) (.ref d)=false:=by simp[Builtin.List.listSameRef,hSd]
 have b2:(Value.type "dict" == Value.type "list")=false:=by decide
 have b3:(Value.type "dict" == Value.type "tuple")=false:=by decide
 simp only[b1,b2,b3,Bool.or_false,Bool.false_eq_true,if_false];refine wAa (WG hd m1 ?_);have m2:yl (h1.push { cls:=.type "dict_keyiterator",data:=.fields #[.ref d,.int 0 0,.int es.size 0,.int ep 0] }) d es ep:=m1.at fun o e=>wIa _ e;have i2:(h1.push { cls:=.type "dict_keyiterator",data:=.fields #[.ref d,.int 0 0,.int es.size 0,.int ep 0] }).IsKeyIter (S+1) d 0 es.size ep:=by rw[<-sz1];exact⟨_,wJa _ rfl,rfl,rfl⟩
 have g2:=wIa { cls:=.type "dict_keyiterator",data:=.fields #[.ref d,.int 0 0,.int es.size 0,.int ep 0] } g1;have k2:∀b o,s.heap.get? b=some o->(h1.push { cls:=.type "dict_keyiterator",data:=.fields #[.ref d,.int 0 0,.int es.size 0,.int ep 0] }).get? b=some o/\b≠S:=fun b o e=>⟨wIa _ (k1 b o e).1,(k1 b o e).2⟩
 show wpAny _ _ _ _ _ { s with heap:=h1.push { cls:=.type "dict_keyiterator",data:=.fields #[.ref d,.int 0 0,.int es.size 0,.int ep 0] } };rw[show Value.ref h1.objs.size=Value.ref (S+1) from congrArg _ sz1];generalize h1.push { cls:=.type "dict_keyiterator",data:=.fields #[.ref d,.int 0 0,.int es.size 0,.int ep 0] }=h2 at m2 i2 g2 k2;refine wAa (wDa (AD (s:={ s with heap:=h2 }) m2 ?_));refine wpAny_ite_split (fun _=>?_) (fun _=>wBa ⟨vRa F.plain_extend_loop _,fin _ _ _ i2 m2 (fun b o e=>(k2 b o e).1) g2⟩);refine wAa (vQa (wAa (show wpAny _ _ (updateSeq S (·.push .none) >>= fun _=>updateSeq S (·.pop)) _ _ _ from wAa (wpAny_updateSeq g2 rfl ?_))));have g3:=vUa (Obj.mapSeq (·.push Value.none)) g2 rfl;refine wpAny_updateSeq (hz:=by seq_fits) g3 rfl ?_;have g4:=vUa (Obj.mapSeq (·.pop)) g3 rfl;have up:∀b o,b≠S->h2.get? b=some o->((h2.update S (Obj.mapSeq (·.push Value.none))).update S (Obj.mapSeq (·.pop))).get? b=some o:=fun b o hb e=>oth _ _ b o hb (oth _ _ b o hb e);exact wBa ⟨vRa F.plain_extend_loop _,fin _ _ _ (i2.at fun o e=>up _ o (by omega) e) (m2.at fun o e=>up _ o (Ne.symm hSd) e) (fun b o e=>up b o (k2 b o e).2 (k2 b o e).1) g4⟩
end L2
namespace DS
open L2
noncomputable def vk(kvs:List (KD×Addr×V))(k:KD):Option V:=(kvs.find? fun p=>decide (p.1=k)).map (·.2.2)
def Yc(kvs:List (KD×Addr×V))(k:KD)(b:Addr)(v:V):List (KD×Addr×V):=if (vk kvs k).isSome then kvs.map (fun p=>if p.1=k then(p.1,p.2.1,v)else p)else kvs++[(k,b,v)]
abbrev yi:List (KD×Addr×V)->List (KD×Addr×Value)->Prop:=Paired fun(p:KD×Addr×V) (q:KD×Addr×Value)=>p.1=q.1/\p.2.1=q.2.1/\jw p.2.2 q.2.2
theorem yi.at:∀{kvs:List (KD×Addr×V)} {xs:List (KD×Addr×Value)},yi kvs xs->(∃v p,vk kvs k=some v/\atKey xs k=some p/\jw v p.2) \/ (vk kvs k=none/\atKey xs k=none)
 | _,_,.nil=>.inr ⟨rfl,rfl⟩
 | _,_,@Paired.cons _ _ _ p q ps qs ⟨e1,e2,r⟩ t=>by
  unfold vk atKey;rw[List.find?_cons,List.find?_cons,e1];by_cases h:q.1=k
  ·rw[decide_eq_true h];exact .inl ⟨_,_,rfl,rfl,r⟩
  ·rw[decide_eq_false h];exact yi.at t
def yi.put(rv:jw v u)(h:yi kvs xs):yi (Yc kvs k b v) (storedH xs k b u):=by
 have mp:∀{kvs:List (KD×Addr×V)} {xs:List (KD×Addr×Value)},yi kvs xs->yi (kvs.map (fun p=>if p.1=k then(p.1,p.2.1,v)else p)) (xs.map (putAt k u)):=by
  intro kvs xs h;induction h with
  | nil=>exact .nil
  | @cons p q ps qs r t ih=>
   obtain⟨e1,e2,r⟩:=r;rw[vWa,vWa];refine .cons ?_ ih;unfold putAt;rw[e1];split
   ·exact⟨rfl,e2,rv⟩
   ·exact⟨e1,e2,r⟩
 have ap:∀{kvs:List (KD×Addr×V)} {xs:List (KD×Addr×Value)},yi kvs xs->yi (kvs++[(k,b,v)]) (xs++[(k,b,u)]):=by
  intro kvs xs h;induction h with
  | nil=>exact .cons ⟨rfl,rfl,rv⟩ .nil
  | cons r t ih=>exact .cons r ih
 unfold Yc storedH;rcases h.at (k:=k)with⟨w,p,e1,e2,_⟩ | ⟨e1,e2⟩
 ·rw[e1,e2];exact mp h
 ·rw[e1,e2];exact ap h
def GZ(kvs:List (KD×Addr×V))(k:KD)(b:Addr)(v:V):(Yc kvs k b v).length<=kvs.length+1:=by
 unfold Yc;split <;> simp
mutual
theorem Qf(I:Inv X pins U H s):∀{d:D} {k:KD} {v:V} {u:Value},j8 X.K H d v->jw v u->yW d=some k->jA s.heap k u
 | .int i,k,v,u,h,r,e=>by
  rw[yW]at e;cases e;rw[j8]at h;subst h;rw[jA];exact .inl r
 | .bl i,k,v,u,h,r,e=>by
  rw[yW]at e;cases e;rw[j8]at h;subst h;rw[jA];exact .inr ⟨i,r,rfl⟩
 | .str i,k,v,u,h,r,e=>by
  rw[yW]at e;cases e;rw[j8]at h;subst h;rw[jA];exact r
 | .tup l,k,v,u,h,r,e=>by
  rw[yW]at e;obtain⟨ks,e1,e2⟩:=j6 e;cases e2;rw[j8]at h;obtain⟨a,xs,rfl,q,rs⟩:=h;cases r;obtain⟨its,vs,t,_⟩:=I.tuple q;rw[jA];exact⟨a,its.toArray,rfl,t,by simpa using WI I rs vs e1⟩
 | .non,k,v,u,h,r,e=>by rw[yW]at e <;> first | cases e | (intros;contradiction)
 | .lst _,k,v,u,h,r,e=>by rw[yW]at e <;> first | cases e | (intros;contradiction)
 | .ins _ _ _,k,v,u,h,r,e=>by rw[yW]at e <;> first | cases e | (intros;contradiction)
 | .scr _,k,v,u,h,r,e=>by rw[yW]at e <;> first | cases e | (intros;contradiction)
 | .dct _ _,k,v,u,h,r,e=>by rw[yW]at e <;> first | cases e | (intros;contradiction)
 | .sz _,k,v,u,h,r,e=>by rw[yW]at e <;> first | cases e | (intros;contradiction)
theorem WI(I:Inv X pins U H s):∀{l:List D} {ks:List KD} {xs:List V} {us:List Value},j4 X.K H l xs->jq xs us->zd l=some ks->J4 s.heap ks us
 | [],ks,xs,us,h,r,e=>by
  rw[zd]at e;cases e;rw[j4]at h;subst h;cases r;rw[J4]
 | d::l,ks,xs,us,h,r,e=>by
  rw[zd]at e;obtain⟨k,e1,e⟩:=j6 e;obtain⟨ks',e2,e⟩:=j6 e;cases e;rw[j4]at h;obtain⟨v,vs,rfl,h1,h2⟩:=h;cases r with
  | cons r1 r2=>
   rw[J4];exact⟨_,_,rfl,Qf I h1 r1 e1,WI I h2 r2 e2⟩
end
def wE(e:J8 d=some k):yW d=some k/\k.dep<=8:=by
 unfold J8 at e;split at e
 ·obtain⟨k',e1,e2⟩:=j6 e;split at e2
  ·cases e2;exact⟨e1,by assumption⟩
  ·cases e2
 ·cases e
def YZ(I:Inv X pins U H s)(r:j8 X.K H d (.ref b))(e:J8 d=some k):(J9 X.prog X.w).is s.heap k b:=⟨Qf I r rfl (wE e).1,(wE e).2⟩
def Ch(I:Inv X pins U H s)(pr:yi kvs xs):∀{ks:List D},jI ks=some (kvs.map (·.1))->j4 X.K H ks (kvs.map fun p=>V.ref p.2.1)->∀x∈xs,(J9 X.prog X.w).is s.heap x.1 x.2.1:=by
 induction pr with
 | nil=>intro ks _ _ x h;cases h
 | @cons p q ps qs rr t ih=>
  obtain⟨e1,e2,_⟩:=rr;intro ks e r x hx;cases ks with
  | nil=>rw[jI]at e;cases e
  | cons d ks=>
  rw[jI]at e;obtain⟨k,e3,e⟩:=j6 e;obtain⟨ks',e4,e⟩:=j6 e;rw[vWa]at e;cases e;rw[vWa,j4]at r;obtain⟨_,_,ee,r1,r2⟩:=r;cases ee;rcases uTa hx with rfl | hx
  ·rw[<-e1,<-e2];exact YZ I r1 e3
  ·exact ih e4 r2 x hx
structure DAt (K:Fr) (H:Hp) (a:Addr) (ks:List D) (kvs:List (KD×Addr×V)) (ep:Nat):Prop where
 at':H a=some (.dD kvs ep)
 k:jI ks=some (kvs.map (·.1))
 r:j4 K H ks (kvs.map fun p=>V.ref p.2.1)
def DAt.of(I:Inv X pins U H s)(h:H a=some (.dD kvs ep)):kvs.length<=sizeLine/\(a==sysModules)=false/\(kvs.map (·.1)).Nodup/\∃xs es,yi kvs xs/\yl s.heap a es ep/\es.toList=xs.map (entryOfKey (J9 X.prog X.w)):=by
 obtain⟨z,y,nd,xs,r,o,es,e1,e2,e3,e4⟩:=I.hok a _ h;exact⟨z,y,nd,xs,es,r,⟨o,e1,e2,e3⟩,e4⟩
def yi.fst(h:yi kvs xs):xs.map (·.1)=kvs.map (·.1):=by
 induction h with
 | nil=>rfl
 | cons r _ ih=>rw[vWa,vWa,ih,r.1]
def DAt.dict(I:Inv X pins U H s)(h:DAt X.K H a ks kvs ep):kvs.length<=sizeLine/\(a==sysModules)=false/\∃xs,yi kvs xs/\s.heap.DictOfH (J9 X.prog X.w) a xs:=by
 obtain⟨z,y,nd,xs,es,r,⟨o,e1,e2,e3⟩,e4⟩:=DAt.of I h.at';exact⟨z,y,xs,r,o,es,ep,e1,e2,e3,e4,Ch I r h.k h.r,by rw[r.fst];exact nd⟩
def Gc(hr:Room k A):A.in1.units+8 < cLine:=by
 rw[Around.in1_units];have:=hr.un
 lia
def Bv(K:Fr):R2:=fun x y H Q=>∃a kvs ep b ks k dk v,x=.ref a/\y=.ref b/\DAt K H a ks kvs ep/\j8 K H dk (.ref b)/\J8 dk=some k/\vk kvs k=some v/\Q v H
def En(hr:Room n X.A):UK X (Bv X.K):=by
 intro value slice pins s U H x y v u Q I rx ry h hs;obtain⟨a,kvs,ep,b,ks,k,dk,z,rfl,rfl,da,rb,ek,ev,q⟩:=h;cases rx;cases ry;obtain⟨zl,hd,xs,pr,dd⟩:=da.dict I;rcases pr.at (k:=k)with⟨w,p,e1,e2,rw'⟩ | ⟨e1,e2⟩
 ·rw[ev]at e1;cases e1;exact tail_any dd.typeIs slot_dict_getitem.lookup (wpAny_getItem_heap (knd:=J9 X.prog X.w) (Gc hr) (YZ I rb ek) dd e2 ⟨z,H,I.tok _,rw',q⟩) hs
 ·rw[ev]at e1;cases e1
def Bw(K:Fr):V->V->V->Hp->(Hp->Prop)->Prop:=fun o i v H Q=>∃a kvs ep b ks k dk,o=.ref a/\i=.ref b/\DAt K H a ks kvs ep/\j8 K H dk (.ref b)/\J8 dk=some k/\kvs.length < sizeLine/\∀ep',Q (upd H a (.dD (Yc kvs k b v) ep'))
def Ci(hr:Room n X.A):aX X (Bw X.K):=by
 intro pins s U H o i v ov iv u Q I ro ri rv h;obtain⟨a,kvs,ep,b,ks,k,dk,rfl,rfl,da,rb,ek,hl,q⟩:=h;cases ro;cases ri;obtain⟨zl,hd,xs,pr,dd⟩:=da.dict I;have hz:xs.length<=sizeLine:=by rw[<-Paired.length pr];exact zl
 refine wpAny_setItem_heap (hsz:=hz) (knd:=J9 X.prog X.w) (Gc hr) (YZ I rb ek) dd fun h' dd' hs=>?_;obtain⟨o,es,ep',e1,e2,e3,e4,_,e5⟩:=dd';have pr':=pr.put (k:=k) (b:=b) rv;have new:yf X.prog X.w (upd H a (.dD (Yc kvs k b v) ep')) h' a (.dD (Yc kvs k b v) ep'):=⟨by have:=GZ kvs k b v;lia,hd,by rw[<-pr'.fst];exact e5,_,pr',o,es,e1,e2,e3,e4⟩
 exact⟨_,I.write (x:=a) (e:=a) (t':=s.toks+(J9 X.prog X.w).draws k) (by rw[da.at'];trivial) (.inl rfl) (fun c z hc e=>(hs.2 c hc).trans e) ⟨_,e1⟩ new,q ep'⟩
def AF(K:Fr)(neg:Bool):R2:=fun x y H Q=>∃a kvs ep b ks k dk,x=.ref b/\y=.ref a/\DAt K H a ks kvs ep/\j8 K H dk (.ref b)/\J8 dk=some k/\Q (.bl (xor neg (vk kvs k).isSome)) H
def XI(hr:Room n X.A):j_ X (compareOp .In) (AF X.K false):=by
 intro pins s U H x y v u Q I rx ry h;obtain⟨a,kvs,ep,b,ks,k,dk,rfl,rfl,da,rb,ek,q⟩:=h;cases rx;cases ry;obtain⟨zl,hd,xs,pr,dd⟩:=da.dict I;refine wpAny_in_heap (knd:=J9 X.prog X.w) (Gc hr) (YZ I rb ek) hd dd ⟨_,H,I.tok _,?_,q⟩;rcases pr.at (k:=k)with⟨w,p,e1,e2,_⟩ | ⟨e1,e2⟩ <;> (rw[e1,e2];rfl)
def WJ(hr:Room n X.A):j_ X (compareOp .NotIn) (AF X.K true):=by
 intro pins s U H x y v u Q I rx ry h;obtain⟨a,kvs,ep,b,ks,k,dk,rfl,rfl,da,rb,ek,q⟩:=h;cases rx;cases ry;obtain⟨zl,hd,xs,pr,dd⟩:=da.dict I;refine wpAny_notIn_heap (knd:=J9 X.prog X.w) (Gc hr) (YZ I rb ek) hd dd ⟨_,H,I.tok _,?_,q⟩;rcases pr.at (k:=k)with⟨w,p,e1,e2,_⟩ | ⟨e1,e2⟩ <;> (rw[e1,e2];rfl)
def HM:TE:=fun _ H Q=>∀p,H p=none->Q (.ref p) (upd H p (.dD [] 0))
def Inv.big(I:Inv X pins U H s):sysModules < s.heap.objs.size:=Nat.lt_trans (by decide) (show mainGlobals < s.heap.objs.size from(I.mod.glob.keeps I.bk).lt)
def Cj:PE X (.Dict [] [] pos) HM:=fun pins s U H Q I h=>
 wpAny_Dict_empty ⟨.ref s.heap.objs.size,_,I.laid (a:=s.heap.objs.size) (o:=.dD [] 0) (t':=s.toks) (fun _ _ q=>wIa _ q) (wPa _)
  ⟨Nat.zero_le _,beq_eq_false_iff_ne.mpr (Ne.symm (wTa (Inv.big I))),List.nodup_nil,[],.nil,_,#[],wJa _ rfl,⟨rfl,rfl,rfl⟩,rfl,rfl⟩,rfl,h _ (I.hok.fresh (wPa _))⟩
def yi.keys(h:yi kvs xs):jq (kvs.map fun p=>V.ref p.2.1) ((xs.map (entryOfKey (J9 P w))).map (·.key)):=by
 induction h with
 | nil=>exact .nil
 | cons r _ ih=>exact .cons (by show Value.ref _=_;rw[r.2.1]) ih
def xA(hc:X.calm=true):Yi X (.type "list") (fun xs H Q=>∃a kvs ep,xs=[.ref a]/\H a=some (.dD kvs ep)/\∀l,H l=none->Q (.ref l) (upd H l (.lst (kvs.map fun p=>V.ref p.2.1)))):=by
 intro pins s U H xs us Q I r h;obtain⟨a,kvs,ep,rfl,e,q⟩:=h;cases r with
 | cons r1 r2=>
 cases r2;cases r1;obtain⟨z,hd,nd,ys,es,pr,rd,ee⟩:=DAt.of I e;have hl:es.size=kvs.length:=by rw[<-Array.length_toList,ee,vYa,Paired.length pr]
 refine AE (I.ok.hd hc) hd rd (by rw[hl];exact z) fun h' tk acc c k g ea=>?_;refine⟨.ref s.heap.objs.size,_,I.laid (a:=s.heap.objs.size) (o:=.lst (kvs.map fun p=>V.ref p.2.1)) (t':=tk) k (wPa _) ⟨by simpa using z,acc.toList,c,?_,by simpa using g⟩,rfl,q _ (I.hok.fresh (wPa _))⟩;rw[ea,ee];exact pr.keys
def XJ:Yi X (.builtin "len") (fun xs H Q=>∃a kvs ep,xs=[.ref a]/\H a=some (.dD kvs ep)/\Q (.int kvs.length) H):=by
 intro pins s U H xs us Q I r h;obtain⟨a,kvs,ep,rfl,e,q⟩:=h;cases r with
 | cons r1 r2=>
 cases r2;cases r1;obtain⟨z,hd,nd,ys,es,pr,rd,ee⟩:=DAt.of I e;have hl:es.size=kvs.length:=by rw[<-Array.length_toList,ee,vYa,Paired.length pr]
 rw[sizeLine_eq]at z;exact Cg hd rd (by rw[hl];lia) ⟨_,H,I.tok _,by rw[hl];exact⟨_,rfl⟩,q⟩
def XM:entryFor table "dict_itemiterator.__iter__" = some Builtin.«dict_keyiterator.__iter__»:=entryFor_alias (id' := "dict_keyiterator.__iter__") (by kernel_rfl) rfl (by decide +kernel) (by kernel_rfl)
def yi.len{kvs:List (KD×Addr×V)}{xs:List (KD×Addr×Value)}{es:Array DictEntry}(h:yi kvs xs)(e:es.toList=xs.map (entryOfKey (J9 P w))):es.size=kvs.length:=by rw[<-Array.length_toList,e,vYa,Paired.length h]
def yi.entry{P:Program}{w:World}{es:Array DictEntry}{kvs:List (KD×Addr×V)}{xs:List (KD×Addr×Value)}{i:Nat}{p:KD×Addr×V}(h:yi kvs xs)(e:es.toList=xs.map (entryOfKey (J9 P w)))(hp:kvs[i]?=some p):∃y,es[i]?=some y/\y.key=.ref p.2.1/\jw p.2.2 y.val:=by
 have go:∀{kvs:List (KD×Addr×V)} {xs:List (KD×Addr×Value)} {i:Nat},yi kvs xs->kvs[i]?=some p->∃q,xs[i]?=some q/\p.2.1=q.2.1/\jw p.2.2 q.2.2:=by
  intro kvs xs i h;induction h generalizing i with
  | nil=>intro z;simp at z
  | @cons a b as bs r t ih=>
   intro z;cases i with
   | zero=>cases z;exact⟨b,rfl,r.2.1,r.2.2⟩
   | succ i=>exact ih (i:=i) z
 obtain⟨q,e1,e2,e3⟩:=go h hp;refine⟨entryOfKey (J9 P w) q,?_,by show Value.ref _=_;rw[e2],e3⟩;rw[<-Array.getElem?_toList,e,uAa,e1];rfl
def Ib(a:Addr)(kvs:List (KD×Addr×V))(ep:Nat):It:=
 ⟨fun i H=>H a=some (.dD kvs ep)/\i < kvs.length,fun i H x H'=>H'=H/\∀p,kvs[i]?=some p->x=.ref p.2.1,fun i H=>H a=some (.dD kvs ep)/\kvs.length<=i⟩
def XO{P:Program}{w:World}{K:uXa}{tg:Expr}{kvs:List (KD×Addr×V)}{ep:Nat}(a it:Addr):Turn P w K tg (Ib a kvs ep) [it] it (fun i h=>h.IsKeyIter it a i kvs.length ep) where
 mem:=by simp
 obj:=fun i h st b hb=>by
  have e:b=it:=by simpa using hb
  subst e;obtain⟨o,e,c,d⟩:=st;exact⟨o,e,fun v z=>by rw[d]at z;cases z⟩
 keep:=fun i h h' st k=>st.at fun o e=>k it (by simp) o e
 item:=by
  intro X hP hw hK hc i pins s U H E I hf st hg;subst hP hw hK;obtain⟨ea,hi⟩:=hg;obtain⟨z,hd,nd,ys,es,pr,rd,ee⟩:=DAt.of I ea;obtain⟨y,ey,ek,_⟩:=pr.entry ee (i:=i) (p:=kvs[i]) (by simp[hi]);have hl:=pr.len ee;obtain⟨f0,f1,f2,f3,f4,f5⟩:=hf it (by simp);rw[<-hl]at st⊢;refine WH st rd ey fun h' st' sb=>?_;have I1:Inv X pins U H { s with heap:=h' }:=I.turned (t':=s.toks) (fun b o hb e=>(sb.2 b hb).trans e) f0 f1 f3 f4 f5;obtain⟨o,e,c,d⟩:=id st';exact⟨_,rfl,kR (s:={ s with heap:=h' }) e c d (by decide) ⟨.ref kvs[i].2.1,H,I1,ek,⟨rfl,fun p hp=>by simp[hi]at hp;rw[hp]⟩,st',fun b hb=>(hf b hb).1⟩⟩
 done:=by
  intro X hP hw hK hc i pins s U H E I hf st hg;subst hP hw hK;obtain⟨ea,hi⟩:=hg;obtain⟨z,hd,nd,ys,es,pr,rd,ee⟩:=DAt.of I ea;have hl:=pr.len ee;obtain⟨f0,f1,f2,f3,f4,f5⟩:=hf it (by simp);rw[<-hl]at st;exact Qe (I.ok.hd hc) st rd (by rw[hl];exact hi) fun h' eb=>⟨rfl,I.turned (t':=s.toks) (fun b o hb e=>eb b o hb e) f0 f1 f3 f4 f5⟩
 self:=fun _ _ _ _ _ st h=>wpAny_pyIter_keyiter st h
def Ic(a:Addr)(kvs:List (KD×Addr×V))(ep:Nat):It:=
 ⟨fun i H=>H a=some (.dD kvs ep)/\i < kvs.length,fun i H x H'=>∃p,H p=none/\x=.ref p/\∀e,kvs[i]?=some e->H'=upd H p (.tup [.ref e.2.1,e.2.2]),fun i H=>H a=some (.dD kvs ep)/\kvs.length<=i⟩
def xB{P:Program}{w:World}{K:uXa}{es:List Expr}{x1:Nat}{tp:Pos}{kvs:List (KD×Addr×V)}{ep:Nat}(a it:Addr):Turn P w K (.Tuple es x1 tp) (Ic a kvs ep) [it] it (fun i h=>∃ok ov,IsItemIter h it a i kvs.length ep ok ov) where
 mem:=by simp
 obj:=fun i h st b hb=>by
  have e:b=it:=by simpa using hb
  subst e;obtain⟨_,_,st⟩:=st;exact⟨_,st,fun v z=>by cases z⟩
 keep:=fun i h h' st k=>let ⟨ok,ov,st⟩:=st;⟨ok,ov,k it (by simp) _ st⟩
 item:=by
  intro X hP hw hK hc i pins s U H E I hf st hg;subst hP hw hK;obtain⟨ok,ov,st⟩:=st;obtain⟨ea,hi⟩:=hg;obtain⟨z,hd,nd,ys,es,pr,rd,ee⟩:=DAt.of I ea;obtain⟨y,ey,ek,er⟩:=pr.entry ee (i:=i) (p:=kvs[i]) (by simp[hi]);have hl:=pr.len ee;rw[<-hl]at st⊢;have lt:it < s.heap.objs.size:=wLa st;refine XF st rd ey fun h' b1 b3 bz bk=>⟨_,rfl,wpAny_letOwnedTupleGo_items b1 fun h2 c1 c2=>?_⟩
  have kp:∀c o,c∉[it]->s.heap.get? c=some o->h2.get? c=some o:=fun c o hc z=>by
   have hc:c≠it:=by simpa using hc
   exact c2.extBut c o hc (bk c o hc z)
  have ht:IsTup h2 s.heap.objs.size ([y.key,y.val]:List Value).toArray:=⟨_,c2.extBut _ _ (Nat.ne_of_gt lt) b3,rfl,_,rfl⟩
  have I2:=I.tupled (t':=s.toks) (h':=h2) rfl hf kp (vs:=[.ref kvs[i].2.1,kvs[i].2.2]) (us:=[y.key,y.val]) (.cons ek (.cons er .nil)) UN ht;refine⟨.ref s.heap.objs.size,_,I2,rfl,⟨s.heap.objs.size,I.hok.fresh (wPa _),rfl,fun e he=>?_⟩,⟨_,_,c1⟩,fun c hc=>?_⟩
  ·simp[hi]at he;rw[he]
  ·rw[jr,(hf c hc).1];have:c=it:=by simpa using hc
   rw[this];exact wTa lt
 done:=by
  intro X hP hw hK hc i pins s U H E I hf st hg;subst hP hw hK;obtain⟨ok,ov,st⟩:=st;obtain⟨ea,hi⟩:=hg;obtain⟨z,hd,nd,ys,es,pr,rd,ee⟩:=DAt.of I ea;have hl:=pr.len ee;obtain⟨f0,f1,f2,f3,f4,f5⟩:=hf it (by simp);rw[<-hl]at st;exact AA (I.ok.hd hc) st rd (by rw[hl];exact hi) fun h' eb=>⟨rfl,I.turned (t':=s.toks) (fun b o hb e=>eb b o hb e) f0 f1 f3 f4 f5⟩
 self:=fun A i s Q E st h=>by
  obtain⟨ok,ov,st⟩:=st;have ty:s.TypeIs (.ref it) "dict_itemiterator" := ⟨_,st,rfl⟩
  refine wpAny_pyIter_slot ty F.slot_dict_itemiterator_iter (wpAny_call_entry F.slot_dict_itemiterator_iter ty XM ?_ (F.args_dict_itemiterator_iter_1 _));exact(show wpAny _ _ (ret (.ref it)) _ _ s from wBa ⟨_,rfl, "dict_itemiterator",_,ty,F.slot_dict_itemiterator_next.lookup,h⟩)
def Ie(K:uXa)(a:Addr)(n:Nat):It:=
 ⟨fun i H=>∃xs,jC K H a xs/\xs.length=n/\i < n,fun i H x H'=>H'=H/\∀xs,jC K H a xs->xs[n - 1 - i]?=some x,fun i H=>n<=i⟩
def AG{P:Program}{w:World}{K:uXa}{tg:Expr}{n:Nat}(a it:Addr):Turn P w K tg (Ie K a n) [it] it (fun i h=>h.IsRevIter it a ((n:Int) - 1 - i)/\i<=n) where
 mem:=by simp
 obj:=fun i h st b hb=>by
  have e:b=it:=by simpa using hb
  subst e;obtain⟨⟨o,e,c,d⟩,_⟩:=st;exact⟨o,e,fun v z=>by rw[d]at z;cases z⟩
 keep:=fun i h h' st k=>⟨st.1.at fun o e=>k it (by simp) o e,st.2⟩
 item:=by
  intro X hP hw hK hc i pins s U H E I hf st hg;subst hP hw hK;obtain⟨xs,hq,hn,hi⟩:=hg;obtain⟨its,rv,p,hz⟩:=I.list hq;have hx:xs[n - 1 - i]?=some (xs[n - 1 - i]'(by omega)):=by simp
  obtain⟨u,hu,ru⟩:=rv.get hx;obtain⟨f0,f1,f2,f3,f4,f5⟩:=hf it (by simp);have e0:(n:Int) - 1 - i=((n - 1 - i:Nat):Int):=by omega
  have st1:=st.1;rw[e0]at st1;refine wpAny_pyNext_rev_item st1 p.isList (x:=u) (by simpa using hu) fun h' st' sb=>?_;have I1:Inv X pins U H { s with heap:=h' }:=I.turned (t':=s.toks) (fun b o hb e=>(sb.2 b hb).trans e) f0 f1 f3 f4 f5;obtain⟨o,e,c,d⟩:=id st';refine⟨u,rfl,kR (s:={ s with heap:=h' }) e c d (by decide) ⟨_,H,I1,ru,⟨rfl,fun ys hy=>by rw[I.list_inj hy hq];exact hx⟩,⟨?_,hi⟩,fun b hb=>(hf b hb).1⟩⟩;have e1:(n:Int) - 1 - ((i+1:Nat):Int)=((n - 1 - i:Nat):Int) - 1:=by omega
  rw[e1];exact st'
 done:=by
  intro X hP hw hK hc i pins s U H E I hf st hg;subst hP hw hK;obtain⟨f0,f1,f2,f3,f4,f5⟩:=hf it (by simp);have hg:n<=i:=hg;have e0:(n:Int) - 1 - i=-1:=by have:=st.2;omega
  have st1:=st.1;rw[e0]at st1;exact wpAny_pyNext_rev_end (I.ok.hd hc) st1 fun h' eb=>⟨rfl,I.turned (t':=s.toks) (fun b o hb e=>eb b o hb e) f0 f1 f3 f4 f5⟩
 self:=fun _ _ _ _ _ st h=>wpAny_pyIter_revIter st.1 h
def HN(tl:TE):TI:=fun U H R=>tl U H fun x H1=>∃a kvs ep,x=.ref a/\H1 a=some (.dD kvs ep)/\R (Ib a kvs ep) H1
def Cl(hl:PE X l tl):PI X tg l (HN tl):=by
 intro pins s U H R I h;refine ju (hl pins s U H _ I h) fun v s1 xx=>?_;obtain⟨x,H1,I1,r1,q1⟩:=xx;obtain⟨a,kvs,ep,rfl,ea,q⟩:=q1;cases r1;obtain⟨z,hd,nd,ys,es,pr,rd,ee⟩:=DAt.of I1 ea;have hl:=pr.len ee;refine WG hd rd ⟨s1.heap.objs.size,[s1.heap.objs.size],_,_,H1,rfl,I1.kept (t':=s1.toks) fun b o e=>wIa _ e,XO (kvs:=kvs) (ep:=ep) a _,?_,fun b hb=>?_,q⟩
 ·rw[<-hl];exact⟨_,wJa _ rfl,rfl,rfl⟩
 ·have e:b=s1.heap.objs.size:=by simpa using hb
  subst e;exact I1.fpOk (wPa _) (I1.hok.fresh (wPa _))
def Eo(tl:TE):TI:=fun U H R=>tl U H fun x H1=>∃a kvs ep,x=.ref a/\H1 a=some (.dD kvs ep)/\R (Ic a kvs ep) H1
def AH{ap cp:Pos}(hl:PE X l tl)(hbase:attributeBase l "items" X.env (eval l X.env)=eval l X.env)(hline:(ap.endLine==cp.line)=true):PI X (.Tuple es x1 tp) (.Call (.Attribute l "items" ap) [] [] cp) (Eo tl):=by
 intro pins s U H R I h;refine wpAny_Call_method0_late hbase hline (ju (hl pins s U H _ I h) fun v s1 xx=>?_);obtain⟨x,H1,I1,r1,q1⟩:=xx;obtain⟨a,kvs,ep,rfl,ea,q⟩:=q1;cases r1;obtain⟨z,hd,nd,ys,es,pr,rd,ee⟩:=DAt.of I1 ea;have hl:=pr.len ee;refine⟨"dict", "dict.items",F.plainAttrs_dict,F.slot_dict_items,F.type_dict_items,rd.ty,?_,Calls.callWith_builtin rfl (PySem.evalArgs_none (XD hd rd ?_))⟩
 ·intro b e;cases e;obtain⟨o,g,c,_⟩:=rd;exact⟨o,g,c.2.1⟩
 have k1:∀b o,s1.heap.get? b=some o->(s1.heap.push { cls:=.type "dict_items",data:=.fields #[.ref a] }).get? b=some o:=fun b o e=>wIa _ e;have hv:(s1.heap.push { cls:=.type "dict_items",data:=.fields #[.ref a] }).IsItemsView s1.heap.objs.size a:=⟨_,wJa _ rfl,rfl,rfl⟩
 have I2:Inv X pins U H1 { s1 with heap:=s1.heap.push { cls:=.type "dict_items",data:=.fields #[.ref a] } }:=I1.kept (t':=s1.toks) k1;generalize s1.heap.push { cls:=.type "dict_items",data:=.fields #[.ref a] }=h2 at k1 hv I2;refine XE (s:={ s1 with heap:=h2 }) hv (rd.at fun o e=>k1 _ o e) ⟨h2.objs.size,[h2.objs.size],_,_,H1,rfl,I2.kept (t':=s1.toks) fun b o e=>wIa _ e,xB (kvs:=kvs) (ep:=ep) a _,?_,fun b hb=>?_,q⟩
 ·rw[<-hl];exact⟨_,_,wJa _ rfl⟩
 ·have e:b=h2.objs.size:=by simpa using hb
  subst e;exact I2.fpOk (wPa _) (I2.hok.fresh (wPa _))
def lN(K:Fr)(ta:TA):TI:=fun U H R=>ta U H fun vs H1=>∃a xs,vs=[.ref a]/\jC K H1 a xs/\R (Ie K a xs.length) H1
def Ep{e1:Expr}{ta:TA}{p:Pos}(hg:Gl X "reversed")(hm:X.mg "reversed" = none)(ha:PA X [e1] ta)(hs:starEach [e1] X.env=[(false,eval e1 X.env)]):PI X tg (.Call (.Name "reversed" p) [e1] [] pos) (lN X.K ta):=by
 intro pins s U H R I h;refine Call_ (ZH I hg hm PyProof.Rows.boot_reversed (PyProof.Rows.callWith_type1 (ju (ha pos pins s U H _ I h) fun us s1 xx=>?_) hs rfl));obtain⟨vs,H1,I1,r1,q1⟩:=xx;obtain⟨a,xs,rfl,qa,q⟩:=q1;cases r1 with
 | cons r rr=>
 cases rr;cases r;obtain⟨its,rv,p,hz⟩:=I1.list qa;have hl:=rv.length;refine call_reversed_list p.isList ?_;have k1:∀b o,s1.heap.get? b=some o->(s1.heap.push (revObj a ((its.toArray.size:Int) - 1))).get? b=some o:=fun b o e=>wIa _ e;have st:(s1.heap.push (revObj a ((its.toArray.size:Int) - 1))).IsRevIter s1.heap.objs.size a ((xs.length:Int) - 1 - (0:Nat)):=⟨_,wJa _ rfl,rfl,by rw[uLa,hl];simp[revObj]⟩
 refine wpAny_pyIter_revIter (i:=(xs.length:Int) - 1 - (0:Nat)) st ⟨s1.heap.objs.size,[s1.heap.objs.size],_,_,H1,rfl,I1.kept (t':=s1.toks) k1,AG (n:=xs.length) a _,⟨st,Nat.zero_le _⟩,fun b hb=>?_,q⟩;have e:b=s1.heap.objs.size:=by simpa using hb
 subst e;exact I1.fpOk (wPa _) (I1.hok.fresh (wPa _))
noncomputable def JT:List KD->List D->KD->Option D
 | q::qs,d::ds,k=>if q=k then some d else JT qs ds k
 | _,_,_=>none
noncomputable def U_:List KD->List D->KD->D->List D
 | q::qs,d::ds,k,v=>(if q=k then v else d)::U_ qs ds k v
 | _,ds,_,_=>ds
def JS:D->D->Option D
 | .dct ks vs,k=>(J8 k).bind fun q=>(jI ks).bind fun qs=>JT qs vs q
 | _,_=>none
def G_(neg:Bool):D->D->Option D
 | k,.dct ks _=>(J8 k).bind fun q=>(jI ks).bind fun qs=>some (.bl (xor neg (decide (q∈qs))))
 | _,_=>none
section
variable {K:Fr} {H:Hp} {O:List Addr}
theorem KM{k:KD}{d:D}:∀{kvs:List (KD×Addr×V)} {vs:List D},j4 K H vs (kvs.map (·.2.2))->JT (kvs.map (·.1)) vs k=some d->∃v,vk kvs k=some v/\j8 K H d v
 | [],_,_,e=>by rw[uJa,JT]at e;cases e;all_goals (intros;contradiction)
 | p::kvs,[],r,e=>by rw[vWa,JT]at e;cases e;all_goals (intros;contradiction)
 | p::kvs,d'::vs,r,e=>by
  rw[vWa,j4]at r;obtain⟨_,_,ee,r1,r2⟩:=r;cases ee;rw[vWa,JT]at e;unfold vk;rw[List.find?_cons];by_cases h:p.1=k
  ·rw[if_pos h]at e;cases e;rw[decide_eq_true h];exact⟨_,rfl,r1⟩
  ·rw[if_neg h]at e;rw[decide_eq_false h];exact KM r2 e
theorem WK:∀{kvs:List (KD×Addr×V)},(vk kvs k).isSome=decide (k∈kvs.map (·.1))
 | []=>by simp[vk]
 | p::kvs=>by
  unfold vk;rw[List.find?_cons,vWa];by_cases h:p.1=k
  ·rw[decide_eq_true h,decide_eq_true (by rw[h];exact List.mem_cons_self)];rfl
  ·rw[decide_eq_false h];have:=WK (k:=k) (kvs:=kvs);unfold vk at this;refine this.trans ?_;by_cases hm:k∈kvs.map (·.1)
   ·rw[decide_eq_true hm,decide_eq_true (List.mem_cons_of_mem _ hm)]
   ·rw[decide_eq_false hm,decide_eq_false];intro z;rcases uTa z with z | z
    ·exact h z.symm
    ·exact hm z
def vS{dk:D}{k:KD}{y:V}(h:RB K O H dk y)(e:J8 dk=some k):∃b,y=.ref b/\j8 K H dk (.ref b):=by
 have f:=h.full;unfold J8 at e;split at e
 ·have f0:=f;rw[j8]at f;obtain⟨a,xs,rfl,_⟩:=f;exact⟨a,rfl,f0⟩
 ·cases e
def HP:Jv K (Bv K) JS:=by
 intro O H a b d x y Q ha hb _ e q;unfold JS at e;split at e
 ·obtain⟨k,e1,e⟩:=j6 e;obtain⟨qs,e2,e⟩:=j6 e;obtain⟨p,kvs,ep,rfl,h1,h2,h3,h4⟩:=ha.dct;obtain⟨y,rfl,ry⟩:=vS hb e1;rw[h2]at e2;cases e2;obtain⟨v,ev,rv⟩:=KM h4 e;exact⟨p,kvs,ep,y,_,k,_,v,rfl,rfl,⟨h1,h2,h3.same Jx⟩,ry,e1,ev,q v H (j7.refl H) rv⟩
 ·cases e
def Bx:Jv K (AF K neg) (G_ neg):=by
 intro O H a b d x y Q ha hb _ e q;unfold G_ at e;split at e
 ·obtain⟨k,e1,e⟩:=j6 e;obtain⟨qs,e2,e⟩:=j6 e;cases e;obtain⟨p,kvs,ep,rfl,h1,h2,h3,h4⟩:=hb.dct;obtain⟨y,rfl,ry⟩:=vS ha e1;rw[h2]at e2;cases e2;exact⟨p,kvs,ep,y,_,k,_,rfl,rfl,⟨h1,h2,h3.same Jx⟩,ry,e1,q _ H (j7.refl H) (by rw[j8,WK])⟩
 ·cases e
noncomputable def zg(qs:List KD)(ks:List D)(q:KD)(k:D):List D:=if q∈qs then ks else ks++[k]
def zM(qs:List KD)(vs:List D)(q:KD)(v:D):List D:=if q∈qs then U_ qs vs q v else vs++[v]
theorem GD:∀{ks:List D} {qs:List KD} {k:D} {q:KD},jI ks=some qs->J8 k=some q->jI (ks++[k])=some (qs++[q])
 | [],qs,k,q,e,f=>by
  rw[jI]at e;cases e;rw[uQa,jI,f];rfl
 | d::ks,qs,k,q,e,f=>by
  rw[jI]at e;obtain⟨x,e1,e⟩:=j6 e;obtain⟨xs,e2,e⟩:=j6 e;cases e;rw[List.cons_append,jI,e1,GD e2 f];rfl
theorem WL(rv:j8 K H d v):∀{kvs:List (KD×Addr×V)} {vs:List D},j4 K H vs (kvs.map (·.2.2))->j4 K H (U_ (kvs.map (·.1)) vs k d) ((kvs.map (fun p=>if p.1=k then(p.1,p.2.1,v)else p)).map (·.2.2))
 | [],vs,r=>by
  rw[uJa,uJa,uJa,U_]
  ·exact r
  all_goals (intros;contradiction)
 | p::kvs,[],r=>by rw[vWa,j4]at r;cases r
 | p::kvs,d'::vs,r=>by
  rw[vWa,j4]at r;obtain⟨_,_,ee,r1,r2⟩:=r;cases ee;rw[vWa,vWa,vWa,U_];refine j4.cons ?_ (WL rv r2);by_cases h:p.1=k
  ·rw[if_pos h,if_pos h];exact rv
  ·rw[if_neg h,if_neg h];exact r1
def Qg(hf:∀p:KD×Addr×V,f (p.1,p.2.1,v)=f p):∀kvs:List (KD×Addr×V),(kvs.map (fun p=>if p.1=k then(p.1,p.2.1,v)else p)).map f=kvs.map f:=fun kvs=>by
 rw[List.map_map];refine List.map_congr_left fun p _=>?_;show f (if p.1=k then(p.1,p.2.1,v)else p)=f p;split
 ·exact hf p
 ·rfl
def KN{qs:List KD}{kvs:List (KD×Addr×V)}(e1:J8 dk=some k)(e2:jI ks=some (kvs.map (·.1)))(rk:j4 K H ks (kvs.map fun p=>V.ref p.2.1))(rv:j4 K H vs (kvs.map (·.2.2)))(r1:j8 K H dk (.ref b))(r2:j8 K H d v):
  jI (zg (kvs.map (·.1)) ks k dk)=some ((Yc kvs k b v).map (·.1))/\j4 K H (zg (kvs.map (·.1)) ks k dk) ((Yc kvs k b v).map fun p=>V.ref p.2.1)/\j4 K H (zM (kvs.map (·.1)) vs k d) ((Yc kvs k b v).map (·.2.2)):=by
 unfold zg zM Yc;rw[WK];by_cases h:k∈kvs.map (·.1)
 ·rw[decide_eq_true h,if_pos h,if_pos h,if_pos rfl,Qg (fun _=>rfl),Qg (fun _=>rfl)];exact⟨e2,rk,WL r2 rv⟩
 ·rw[decide_eq_false h,if_neg h,if_neg h,if_neg (by decide),uDa,uDa,uDa];exact⟨GD e2 e1,rk.snoc r1,rv.snoc r2⟩
end
section
variable {X:Cx} {K:Fr} {e a b c d tg:Expr} {de da db dc dd dk:DE} {pos:Pos} {st:Stmt}
@[simp] def vT(i:Nat)(dk de:DE)(Z:jg):Option Rs:=match Z[i]? with
 | some (.ow q (.dct ks vs))=>(de Z).bind fun d=>(dk Z).bind fun k=>(J8 k).bind fun x=>(jI ks).bind fun qs=>if ks.length < sizeLine then some (.nx (Z.set i (.ow q (.dct (zg qs ks x k) (zM qs vs x d)))))else none
 | _=>none
set_option tactic.hygienic true
theorem HQ(h:PS X st (zq (tE K de) (aY (zo i) (tE K dk) (Bw K)))):PS X st (tS K (vT i dk de)):=yw h fun D U H xx=>by
 obtain⟨H0,O0,Z,O,r,R,ed,f⟩:=xx;unfold vT at ed;split at ed
 ·rename_i q ks vs hi;obtain⟨d,e1,ed⟩:=j6 ed;obtain⟨k,e2,ed⟩:=j6 ed;obtain⟨x,e3,ed⟩:=j6 ed;obtain⟨qs,e4,ed⟩:=j6 ed;split at ed
  ·rename_i hz;cases ed;obtain⟨l,hq,hs,⟨kvs,ep,hl,hk,rk,rv⟩,lo,h0⟩:=R.ow i _ _ hi;refine⟨H0,O0,Z,O,d,R,e1,fun v H1 s1 rd=>⟨_,hs,H0,O0,Z,O,k,R.grow s1,e2,fun w H2 s2 rw'=>?_⟩⟩;have s12:=s1.trans s2;have R':=R.grow s12;rw[hk]at e4;cases e4;obtain⟨b,rfl,rb⟩:=vS (O:=O) (.inl rw') e3;have hlen:kvs.length=ks.length:=by have:=rk.len;simpa using this
   obtain⟨p1,p2,p3⟩:=KN (b:=b) (qs:=[]) e3 hk (rk.same (ji s12)) (rv.same (ji s12)) rw' (rd.same (ji s2));refine⟨l,kvs,ep,b,ks,x,k,rfl,rfl,⟨s12 _ _ hl,hk,(rk.same (ji s12)).same Jx⟩,rb,e3,by rw[hlen];exact hz,fun ep'=>f _ _ O (R'.change hi hq hs lo h0 ⟨_,ep',jS,p1,p2,p3⟩) ?_⟩;rw[JC lo];exact ji s12
  ·cases ed
 ·cases ed
@[simp] noncomputable def Vs(_:jg):Option OD:=some (.dct [] [])
def Er:PE X (.Dict [] [] pos) (tF K Vs):=jF Cj fun U H Q xx=>by
 obtain⟨H0,O0,Z,O,o,R,ed,q⟩:=xx;cases ed;exact fun p hp=>q p _ (jB hp _) hp ⟨[],0,jS,by rw[jI];rfl,j4.nil,j4.nil⟩
noncomputable def ua:List D->Option OD
 | [.dct ks _]=>some (.lst ks)
 | _=>none
@[simp] theorem lO(ks vs:List D):ua [.dct ks vs]=some (.lst ks):=rfl
def Cm:Bm K (fun xs H Q=>∃a kvs ep,xs=[.ref a]/\H a=some (.dD kvs ep)/\∀l,H l=none->Q (.ref l) (upd H l (.lst (kvs.map fun p=>V.ref p.2.1)))) ua:=by
 intro O H ks ds vs d Q ak e q;unfold ua at e;split at e
 ·cases e;obtain⟨v,rfl,r⟩:=zJ ak;obtain⟨p,kvs,ep,rfl,h1,h2,h3,h4⟩:=r.dct;exact⟨p,kvs,ep,rfl,h1,fun l hl=>q l _ (jB hl _) hl (yT hl h3)⟩
 ·cases e
noncomputable def K6:D->Option (List D)
 | .dct ks _=>some ks
 | _=>none
@[simp] theorem lP(ks vs:List D):K6 (.dct ks vs)=some ks:=rfl
@[simp] def K7(de:DE)(Z:jg):Option (List D):=(de Z).bind K6
def RP.dct{H0 H:Hp}{O0 O:List Addr}{ks vs:List D}{v:V}(r:RP K H0 O0 H O (.dct ks vs) v):∃p kvs ep,v=.ref p/\∀(H':Hp) (O':List Addr),j7 H0 H'->j7 (jd H0 O0) (jd H' O')->j7 (jd H O) (jd H' O')->H' p=some (.dD kvs ep)/\j4 K (jd H' O') ks (kvs.map fun p=>V.ref p.2.1)/\j4 K (jd H' O') vs (kvs.map (·.2.2)):=by
 rcases r with r | r | ⟨l,o,rfl,z2,z3⟩
 ·rw[j8]at r;obtain⟨p,kvs,ep,rfl,w1,_,w3,w4⟩:=r;exact⟨p,kvs,ep,rfl,fun H' O' t0 t1 t2=>⟨(Js (t2 _ _ w1)).2,w3.same t2,w4.same t2⟩⟩
 ·rw[j8]at r;obtain⟨p,kvs,ep,rfl,w1,_,w3,w4⟩:=r;exact⟨p,kvs,ep,rfl,fun H' O' t0 t1 t2=>⟨(Js (t1 _ _ w1)).2,w3.same t1,w4.same t1⟩⟩
 ·cases o <;> cases z2;obtain⟨kvs,ep,w1,_,w3,w4⟩:=z3;exact⟨l,kvs,ep,rfl,fun H' O' t0 t1 t2=>⟨t0 _ _ w1,w3.same t1,w4.same t1⟩⟩
def Es(h:PE X e (tP K de)):PI X tg e (zF K (K7 de)):=uG (Cl h) fun U H R xx=>by
 obtain⟨H0,O0,Z,O,items,Re,ed,q⟩:=xx;obtain⟨x,e1,e2⟩:=j6 ed;refine⟨H0,O0,Z,O,x,Re,e1,fun v H1 s1 r=>?_⟩;have R1:=Re.grow s1;unfold K6 at e2;split at e2
 ·cases e2;obtain⟨p,kvs,ep,rfl,al⟩:=r.dct;refine⟨p,kvs,ep,rfl,(al H1 O R1.keep R1.in0 (j7.refl _)).1,q _ H1 s1 fun i H' O' t0 t1 t2 ta=>?_⟩;obtain⟨g1,g3,g4⟩:=al H' O' t0 t1 t2;refine⟨fun d hd=>?_,fun hi=>⟨g1,by have:=g3.len;rw[vYa]at this;rw[hi,this];exact wPa _⟩⟩;obtain⟨x',hx,rx⟩:=g3.get hd;rw[uAa]at hx;obtain⟨y,hy,rfl⟩:=Option.map_eq_some_iff.mp hx;refine⟨⟨g1,(uSa hy).1⟩,fun x'' H'' yy=>?_⟩;obtain⟨z1,z2⟩:=yy;rw[z1,z2 _ hy];exact⟨j7.refl _,rx⟩
 ·cases e2
noncomputable def ub:D->Option (List D)
 | .dct ks vs=>some (List.zipWith (fun k v=>D.tup [k,v]) ks vs)
 | _=>none
@[simp] theorem wF(ks vs:List D):ub (.dct ks vs)=some (List.zipWith (fun k v=>D.tup [k,v]) ks vs):=rfl
@[simp] def ZL(de:DE)(Z:jg):Option (List D):=(de Z).bind ub
theorem Cn{ap cp:Pos}(h:PE X e (tP K de))(hb:attributeBase e "items" X.env (eval e X.env)=eval e X.env)(hl:(ap.endLine==cp.line)=true):PI X (.Tuple es x1 tp) (.Call (.Attribute e "items" ap) [] [] cp) (zF K (ZL de)):=uG (AH h hb hl) fun U H R xx=>by
 obtain⟨H0,O0,Z,O,items,Re,ed,q⟩:=xx;obtain⟨x,e1,e2⟩:=j6 ed;refine⟨H0,O0,Z,O,x,Re,e1,fun v H1 s1 r=>?_⟩;have R1:=Re.grow s1;unfold ub at e2;split at e2
 ·cases e2;obtain⟨p,kvs,ep,rfl,al⟩:=r.dct;refine⟨p,kvs,ep,rfl,(al H1 O R1.keep R1.in0 (j7.refl _)).1,q _ H1 s1 fun i H' O' t0 t1 t2 ta=>?_⟩;obtain⟨g1,g3,g4⟩:=al H' O' t0 t1 t2;have l3:=g3.len;have l4:=g4.len;rw[vYa]at l3 l4;refine⟨fun d hd=>?_,fun hi=>⟨g1,by rw[hi,List.length_zipWith];lia⟩⟩;rw[List.getElem?_zipWith]at hd;split at hd
  ·rename_i dk dv hk hv;cases hd;obtain⟨x',hx,rx⟩:=g3.get hk;obtain⟨x2,hx2,rx2⟩:=g4.get hv;rw[uAa]at hx hx2;obtain⟨y,hy,rfl⟩:=Option.map_eq_some_iff.mp hx;rw[hy]at hx2;cases hx2;refine⟨⟨g1,(uSa hy).1⟩,fun x'' H'' yy=>?_⟩;obtain⟨pp,hpp,rfl,yy⟩:=yy;rw[yy _ hy];exact⟨jB hpp _,Aw (fun z=>ta pp z hpp) hpp rx rx2⟩
  ·cases hd
 ·cases e2
@[simp] def xC(de:DE)(Z:jg):Option (List D):=(de Z).bind fun d=>(uH d).bind fun l=>some l.reverse
def HR(hg:Gl X "reversed")(hm:X.mg "reversed" = none)(h:PE X a (tP K da))(hs:starEach [a] X.env=[(false,eval a X.env)])(hK:X.K=K:=by rfl):PI X tg (.Call (.Name "reversed" p) [a] [] pos) (zF K (xC da)):=uG (Ep hg hm (JE h Yr (by rw[hs];rfl)) hs) fun U H R xx=>by
 obtain⟨H0,O0,Z,O,items,Re,ed,q⟩:=xx;subst hK;obtain⟨x,e1,ed⟩:=j6 ed;obtain⟨l,e3,ed⟩:=j6 ed;cases ed;refine⟨H0,O0,Z,O,x,Re,e1,fun v H1 s1 r=>?_⟩;have R1:=Re.grow s1;unfold uH at e3;split at e3
 ·cases e3;obtain⟨p,xs,rfl,h1,h2⟩:=(r.at R1.keep R1.in0 (j7.refl _)).lst;have hlen:=h2.len;refine⟨p,xs,rfl,jC.of h1,q _ H1 s1 fun i H' O' t0 t1 t2 ta=>?_⟩;obtain⟨p',us,ea,g1,g2⟩:=(r.at t0 t1 t2).lst;cases ea;have hl2:=g2.len;refine⟨fun d hd=>?_,fun hi=>by rw[hi,List.length_reverse];show xs.length<=_;lia⟩;have hil:i < l.length:=by have:=(uSa hd).1;simpa using this
  rw[List.getElem?_reverse hil]at hd;obtain⟨u,hu,ru⟩:=g2.get hd;refine⟨⟨us,jC.of g1,by lia,by lia⟩,fun x' H'' yy=>?_⟩;obtain⟨z1,z2⟩:=yy;have z3:=z2 us (jC.of g1);rw[hlen,hu]at z3;cases z3;rw[z1];exact⟨j7.refl _,ru⟩
 ·cases e3
noncomputable def YJ:List D->Option (List Int)
 | []=>some []
 | .int i::r=>(YJ r).bind fun is=>some (i::is)
 | _=>none
set_option tactic.hygienic false
set_option tactic.hygienic true in
theorem uI{H:Hp}:∀{l:List D} {is:List Int} {xs:List V},YJ l=some is->j4 K H l xs->xs=is.map V.int
 | [],is,xs,e,r=>by rw[YJ]at e;cases e;rw[j4]at r;exact r
 | d::l,is,xs,e,r=>by
  unfold YJ at e;split at e
  ·rename_i h;cases h
  ·rename_i h;cases h;obtain⟨js,e1,e2⟩:=j6 e;cases e2;rw[j4]at r;obtain⟨v,vs,rfl,r1,r2⟩:=r;rw[j8]at r1;rw[r1,uI e1 r2];rfl
  ·cases e
def k4:List D->Option D
 | [.lst l]=>(YJ l).bind fun is=>some (.int is.sum)
 | _=>none
@[simp] theorem Ls(l:List D):k4 [.lst l]=(YJ l).bind fun is=>some (.int is.sum):=rfl
theorem wG(is:List Int):∀n,n<=is.length->preSum (fun i=>(is[i]?).getD 0) n=(is.take n).sum
 | 0,_=>by simp[preSum]
 | n+1,h=>by
  rw[preSum,wG is n (by lia),List.take_succ_eq_append_getElem (by lia),List.sum_append];simp[show n < is.length by lia]
def AI(hc:X.calm=true):Yi X (.builtin "sum") (fun xs H Q=>∃(p:Addr) (is:List Int),xs=[.ref p]/\jC X.K H p (is.map V.int)/\Q (.int is.sum) H):=by
 intro pins s U H xs us Q I r h;obtain⟨p,is,rfl,hq,q⟩:=h;cases r with
 | cons r rr=>
  cases rr;cases r;obtain⟨its,rv,pl,hz⟩:=I.list hq;refine call_sum_walkG (wpAny_pyIter_list pl.isList ?_);have hp:p < s.heap.objs.size:=by obtain⟨o,ho,_⟩:=pl.isList;exact wLa ho
  have hlen:its.length=is.length:=by have:=rv.length;simp at this;lia
  refine⟨s.heap.objs.size,_,_,_,_,_,fun i=>(is[i]?).getD 0,rfl,Walks.list (A:=X.A.in1) (I.ok.hd hc) s.heap.objs.size p (wTa hp) its.toArray,⟨⟨_,wJa _ rfl,rfl,rfl⟩,Heap.IsList.at pl.isList fun o e=>wIa _ e⟩,?_,?_,fun h' tk t' hk=>?_⟩
  ·intro b hb;rw[uPa];simp only[List.mem_cons,List.not_mem_nil,or_false]at hb;rcases hb with rfl | rfl
   ·exact Nat.lt_succ_self _
   ·exact Nat.lt_succ_of_lt hp
  ·intro i v hv;have hv:its[i]?=some v:=by simpa using hv
   have hi:i < is.length:=by rw[<-hlen];exact(uSa hv).1
   obtain⟨u,eu,ru⟩:=rv.get (i:=i) (x:=V.int is[i]) (by simp[hi]);rw[hv]at eu;cases eu;obtain⟨t,rfl⟩:=ru;exact⟨t,by simp[hi]⟩
  ·refine⟨.int is.sum,H,I.kept (t':=tk) (h':=h') (fun b o e=>hk b o ?_ (wIa _ e)),⟨t',?_⟩,q⟩
   ·intro z;have z:b=s.heap.objs.size:=by simpa using z
    exact wUa _ (z▸wLa e)
   ·rw[uLa,hlen,wG is _ (Nat.le_refl _),List.take_length]
def HS:Fn K (fun xs H Q=>∃(p:Addr) (is:List Int),xs=[.ref p]/\jC K H p (is.map V.int)/\Q (.int is.sum) H) k4:=by
 intro O H ks ds vs d Q ak _ e q;unfold k4 at e;split at e
 ·obtain⟨is,e1,e2⟩:=j6 e;cases e2;obtain⟨v,rfl,r⟩:=zJ ak;obtain⟨p,xs,rfl,h1,h2⟩:=r.lst;have:=uI e1 h2;subst this;exact⟨p,is,rfl,jC.of h1,q _ H (j7.refl H) (by rw[j8])⟩
 ·cases e
end
end DS
namespace L2
noncomputable abbrev TB:=St->Hp->(St->Hp->Prop)->Prop
def K8(Y:Cx)(m:Sem Fin->Sem Fin)(t:TB):Prop:=
 ∀(pins:Tq) (s:Shared) (U:St) (H:Hp) (N:St->Hp->Prop) (c:Sem Fin) (Q:Fin->Shared->Prop) (E:Tz),Inv Y pins U H s->t U H N->(∀s' U' H',Inv Y pins U' H' s'->N U' H'->wpAny (model Y.prog Y.w) Y.A c Q E s')->wpAny (model Y.prog Y.w) Y.A (m c) Q E s
def uc(J:It)(g:TG)(tb:TB)(Qn:St->Hp->Prop)(W:Nat->Nat->St->Hp->Prop):Prop:=∀i m U H,W i m U H->(J.stop i H/\Qn U H) \/
 (J.go i H/\∃N:St->Hp->Prop,(∀U' H',N U' H'->∃m',m' < m/\W (i+1) m' U' H')/\∀x H',J.yld i H x H'->g x U H' fun U2 H2=>tb U2 H2 N)
section
variable {Y:Cx} {ex tg iter:Expr} {d:Nat} {acc:Value} {B:Sem Fin->Sem Fin} {g:TG} {tb:TB} {J:It} {fp:List Addr} {it:Addr} {tn:Nat->Heap->Prop} {Qn:St->Hp->Prop} {W:Nat->Nat->St->Hp->Prop} {pins:Tq}
def KO(hc:Y.calm=true)(hun:Y.A.under (.compLoop ex d (.ref it) acc Y.env)=Y.A)
  (hdn:(model Y.prog Y.w).den (.compLoop ex d (.ref it) acc Y.env)=(compTurn ex d (.ref it) acc Y.env).onRaise fun x=>do noteFrame x Y.env;theTreesLotGoes x)
  (htn:compTurn ex d (.ref it) acc Y.env=(do
   standAt iter.pos
   match<-pyNext (.ref it)with
   | none=>pure (.done .next)
   | some v=>
    letOwnedTupleGo tg (.ref it) v
    assign tg Y.env v
    B (again (.compLoop ex d (.ref it) acc Y.env))))
  (hx:Y.xe=fun _ _=>False) (hg:PG Y tg g) (hb:K8 Y B tb) (T:Turn Y.prog Y.w Y.K tg J fp it tn) {H:Hp} (hf:∀b∈fp,Jj Y pins H b)
  (turn:uc J g tb Qn W) (R:Result->Shared->Prop) (hR:∀s',(∃U' H',Inv Y pins U' H' s'/\Qn U' H')->R (.ok .next) s') (n:Nat) (s4:Shared)
  (st:∃i U' H',Inv Y pins U' H' s4/\tn i s4.heap/\(∀b∈fp,H' b=none)/\W i n U' H'):codeAny (model Y.prog Y.w) Y.A (.compLoop ex d (.ref it) acc Y.env) R s4:=by
 have stat:∀{H':Hp},(∀b∈fp,H' b=none)->∀b∈fp,Jj Y pins H' b:=fun hn b hb=>⟨hn b hb,(hf b hb).2⟩
 refine codeAny_loop rfl (fun n s'=>∃i U' H',Inv Y pins U' H' s'/\tn i s'.heap/\(∀b∈fp,H' b=none)/\W i n U' H') ?_ n st;rintro n s3 ⟨i,U3,H3,I3,st3,fr3,w3⟩;rw[hun,hdn];refine wpAny_noted ?_;rw[htn];rcases turn i n U3 H3 w3 with⟨stop,qn⟩ | ⟨go,N,hN,step⟩
 ·refine wAa (vOa (wAa (wCa (T.done Y rfl rfl rfl hc i pins s3 U3 H3 (fun _ _=>False) I3 (stat fr3) st3 stop) (fun r s5 h5=>?_) fun _ _ z=>z.elim)));obtain⟨hr,I5⟩:=h5;subst hr;exact wBa (hR s5 ⟨U3,H3,I5,qn⟩)
 ·refine wAa (vOa (wAa (wCa (T.item Y rfl rfl rfl hc i pins s3 U3 H3 (fun _ _=>False) I3 (stat fr3) st3 go) (fun r s5 h5=>?_) fun _ _ z=>z.elim)));obtain⟨u,hr,h5⟩:=h5;subst hr;refine wAa (wCa h5 (fun _ s6 h6=>?_) fun _ _ z=>z.elim);obtain⟨x,H6,I6,r6,y6,st6,fr6⟩:=h6;have I6':=I6.pinned (stat fr6) (T.obj _ _ st6);refine wAa (wCa (hg _ s6 U3 H6 x u _ I6' r6 (step x H6 y6)) (fun _ s7 h7=>?_) fun _ _ z=>(by rw[hx]at z;exact z.elim));obtain⟨U7,H7,I7,q7⟩:=h7;refine hb _ s7 U7 H7 N _ _ _ I7 q7 fun s8 U8 H8 I8 n8=>?_;obtain⟨m',hm,w8⟩:=hN U8 H8 n8;refine wBa ⟨rfl,m',hm,i+1,U8,H8,I8.unpinned,T.keep _ _ _ st6 fun b hb o e=>(I8.pin (b,o) (vJa _ (vJa _ (YI hb e)))).1,fun b hb=>?_,w8⟩;obtain⟨o,e,_⟩:=T.obj _ _ st6 b hb;exact(I8.pin (b,o) (vJa _ (vJa _ (YI hb e)))).2.1
end
def GE(hcl:(clausesOf ex)[n]?=some g)(ha:g.is_async=0)(hun:A.under (.compStart ex n it acc env)=A)
  (hdn:(model prog w).den (.compStart ex n it acc env)=(compStart ex n it acc env).onRaise fun x=>do noteFrame x env;standAt theWindowsPlace)
  (h0:codeAny (model prog w) A (.compLoop ex n it acc env) R s)
  (h:wpAny (model prog w) A (pyIter it) (fun it' s'=>codeAny (model prog w) A (.compLoop ex n it' acc env) R s') (notedBy (model prog w) A env fun x s'=>R (.error x) s') s):
  codeAny (model prog w) A (.compStart ex n it acc env) R s:=by
 refine codeAny_of_tree ?_;rw[hun,hdn];refine wpAny_notedAt ?_;unfold compStart;rw[hcl,show(Option.elim (some g) false fun x=>x.is_async != 0)=false by simp[ha],if_neg (by decide)];refine wAa (wpAny_askSetting (wpAny_ite ?_));split
 ·exact wBa ⟨rfl,h0⟩
 ·exact wAa (vQa (wAa (vOa (wAa (wCa h (fun it' s' h'=>wBa ⟨rfl,h'⟩) fun _ _ x=>x)))))
noncomputable def XQ(kx vx t1 i1 t2 i2:Expr)(scope:Scope)(pos:Pos)(D:Addr)(env:Env)(c:Sem Fin):Sem Fin:=do
 let x<-eval i2 env
 standAt i2.pos
 let x<-foldedSetIterable i2 env x
 let y<-holding [x] (pyIter x)
 let _<-runOwn (.compStart (.DictComp kx vx [⟨t1,i1,[],0⟩,⟨t2,i2,[],0⟩] scope pos) 1 y (.ref D) env) env
 c
noncomputable def Et(kx vx:Expr)(D:Addr)(env:Env)(c:Sem Fin):Sem Fin:=do
 (do
  let kv<-eval kx env
  let vv<-holding [kv] (eval vx env)
  standAt { kx.pos with endLine:=vx.pos.endLine,endCol:=vx.pos.endCol }
  holding [kv,vv] (dictSet D kv vv))
 c
def Eu(kx vx t1 i1 t2 i2:Expr)(scope:Scope)(pos:Pos)(it:Value)(D:Addr)(env:Env):
  compTurn (.DictComp kx vx [⟨t1,i1,[],0⟩,⟨t2,i2,[],0⟩] scope pos) 0 it (.ref D) env=(do
   standAt i1.pos
   match<-pyNext it with
   | none=>pure (.done .next)
   | some v=>
    letOwnedTupleGo t1 it v
    assign t1 env v
    XQ kx vx t1 i1 t2 i2 scope pos D env (again (.compLoop (.DictComp kx vx [⟨t1,i1,[],0⟩,⟨t2,i2,[],0⟩] scope pos) 0 it (.ref D) env))):=by rfl
def Ev(kx vx t1 i1 t2 i2:Expr)(scope:Scope)(pos:Pos)(it:Value)(D:Addr)(env:Env):
  compTurn (.DictComp kx vx [⟨t1,i1,[],0⟩,⟨t2,i2,[],0⟩] scope pos) 1 it (.ref D) env=(do
   standAt i2.pos
   match<-pyNext it with
   | none=>pure (.done .next)
   | some v=>
    letOwnedTupleGo t2 it v
    assign t2 env v
    Et kx vx D env (again (.compLoop (.DictComp kx vx [⟨t1,i1,[],0⟩,⟨t2,i2,[],0⟩] scope pos) 1 it (.ref D) env))):=by rfl
end L2
namespace DS
open L2
def Ig(K:Fr)(D:Addr)(tk tv:TE):TB:=fun U H N=>tk U H fun k H1=>tv U H1 fun v H2=>∃kvs ep b ks kk dk,k=.ref b/\DAt K H2 D ks kvs ep/\j8 K H2 dk (.ref b)/\J8 dk=some kk/\kvs.length < sizeLine/\∀ep',N U (upd H2 D (.dD (Yc kvs kk b v) ep'))
noncomputable def Ih(wi:TI)(g:TG)(tb:TB):TB:=fun U H N=>wi U H fun J H1=>∃W,(∃m,W 0 m U H1)/\uc J g tb N W
section
variable {Y:Cx} {kx vx t1 i1 t2 i2:Expr} {scope:Scope} {pos:Pos} {D:Addr} {tk tv:TE} {tb:TB} {wi:TI} {g:TG}
def HU(hx:Y.xe=fun _ _=>False)(hr:Room n Y.A)(hk:PE Y kx tk)(hv:PE Y vx tv):K8 Y (Et kx vx D Y.env) (Ig Y.K D tk tv):=by
 intro pins s U H N c Q E I h hN;refine wAa (wAa (wCa (hk pins s U H _ I h) (fun kv s1 h1=>?_) fun _ _ z=>(by rw[hx]at z;exact z.elim)));obtain⟨k,H1,I1,r1,q1⟩:=h1;refine wAa (wDa (wCa (hv pins s1 U H1 _ I1 q1) (fun vv s2 h2=>?_) fun _ _ z=>(by rw[hx]at z;exact z.elim)));obtain⟨v,H2,I2,r2,kvs,ep,b,ks,kk,dk,rfl,da,rb,ek,hl,q⟩:=h2;cases r1;refine wAa (vOa (wDa ?_));obtain⟨zl,hd,xs,pr,dd⟩:=da.dict I2;have hz:xs.length<=sizeLine:=by rw[<-Paired.length pr];exact zl
 refine wpAny_dictSet_heap (hsz:=hz) (knd:=J9 Y.prog Y.w) (by have:=hr.un;show Y.A.units+8 < cLine;lia) (YZ I2 rb ek) dd fun h' dd' hs=>?_;obtain⟨o,es,ep',e1,e2,e3,e4,_,e5⟩:=dd';have pr':=pr.put (k:=kk) (b:=b) r2;have new:yf Y.prog Y.w (upd H2 D (.dD (Yc kvs kk b v) ep')) h' D (.dD (Yc kvs kk b v) ep'):=⟨by have:=GZ kvs kk b v;lia,hd,by rw[<-pr'.fst];exact e5,_,pr',o,es,e1,e2,e3,e4⟩
 exact hN _ U _ (I2.write (x:=D) (e:=D) (t':=s2.toks+(J9 Y.prog Y.w).draws kk) (by rw[da.at'];trivial) (.inl rfl) (fun c z hc e=>(hs.2 c hc).trans e) ⟨_,e1⟩ new) (q ep')
def HV(hc:Y.calm=true)(hx:Y.xe=fun _ _=>False)(hi:PI Y t2 i2 wi)(hg:PG Y t2 g)(hs:∀x,foldedSetIterable i2 Y.env x=pure x)(hem:K8 Y (Et kx vx D Y.env) tb):K8 Y (XQ kx vx t1 i1 t2 i2 scope pos D Y.env) (Ih wi g tb):=by
 intro pins s U H N c Q E I h hN;unfold XQ;refine wAa (wCa (hi pins s U H _ I h) (fun x s1 h1=>?_) fun _ _ z=>(by rw[hx]at z;exact z.elim));refine wAa (vOa (wAa (wEa (hs x) ?_)));refine wAa (wDa (wCa h1 (fun y s2 h2=>?_) fun _ _ z=>(by rw[hx]at z;exact z.elim)));obtain⟨it,fp,tn,J,H2,rfl,I2,T,st,hf,W,⟨m0,w0⟩,turn⟩:=h2;refine wAa (wpAny_runOwn ?_);have loop:=KO (d:=1) hc rfl rfl (Ev kx vx t1 i1 t2 i2 scope pos (.ref it) D Y.env) hx hg hem T hf turn (fun r s'=>match r with | .ok f=>wpAny (model Y.prog Y.w) Y.A c Q E s' | .error e=>cameBackBy (model Y.prog Y.w) Y.A Y.env E e s') (fun s' ⟨U',H',I',n'⟩=>hN s' U' H' I' n') m0 s2 ⟨0,U,H2,I2,st,fun b hb=>(hf b hb).1,w0⟩;exact GE rfl rfl rfl rfl loop (T.self _ 0 _ _ _ st loop)
end
section
variable {X:Cx} {kx vx t1 i1 t2 i2:Expr} {scope:Scope} {pos:Pos} {own:List Str} {caps:Tj} {g1:TG} {tb:Addr->TB} {pins:Tq} {U:L2.St} {H:Hp} {s2:Shared} {J:It} {fp:List Addr} {it:Addr} {tn:Nat->Heap->Prop} {Qv:VK}
def Co{E:Tz}{RR:Value->Addr->Result->Shared->Prop}(S:CScope X scope)(hcap:Caps X scope caps)(hc:X.calm=true)
  (hg:∀s3 H3 ex',PG (X.comp (L2.cN own caps) scope s3 H3 ex') t1 g1) (hB:∀s3 H3 ex' D,K8 (X.comp (L2.cN own caps) scope s3 H3 ex') (XQ kx vx t1 i1 t2 i2 scope pos D (X.comp (L2.cN own caps) scope s3 H3 ex').env) (tb D))
  (I:Inv X pins U H s2) (T:Turn X.prog X.w X.K t1 J fp it tn) (st:tn 0 s2.heap) (hf:∀b∈fp,Jj X pins H b)
  (w:∀D,H D=none->∃W,(∃m,W 0 m (YQ own caps U) (upd H D (.dD [] 0)))/\uc J g1 (tb D) (fun _ H'=>Qv (.ref D) H') W)
  (hRR:∀D C s' H' m,Inv X pins U H' s'->s'.heap.Ns C m->Jj X pins H' C->Qv (.ref D) H'->RR (.ref D) C (.ok .next) s'):
  wpAny (model X.prog X.w) X.A newDict (fun acc s3=>wpAny (model X.prog X.w) X.A (newFunctionEnv scope X.env.globals (Y9 X.env scope.names []) [] X.env.qual none .none (some X.env)) (fun cenv s4=>
   codeAny (model X.prog X.w) X.A (.compStart (.DictComp kx vx [⟨t1,i1,[],0⟩,⟨t2,i2,[],0⟩] scope pos) 0 (.ref it) acc { cenv with scope:=relabel scope X.env }) (RR acc cenv.locals) s4) E s3) E s2:=by
 obtain⟨W,⟨m0,w0⟩,turn⟩:=w s2.heap.objs.size (I.hok.fresh (wPa _));refine vTa (wpAny_newFunctionEnv S.c (by intro y hy;simp at hy) (fun h1 hns hsb=>?_) S.kind);have hlt:∀b∈fp,b < s2.heap.objs.size:=fun b hb=>by
  obtain⟨o,e,_⟩:=T.obj _ _ st b hb;exact wLa e
 let s3:Shared:={ s2 with heap:=s2.heap.push { cls:=.type "dict",dict:=none,data:=.dict #[] } }
 have I3:Inv X pins U (upd H s2.heap.objs.size (.dD [] 0)) s3:=I.laid (a:=s2.heap.objs.size) (o:=.dD [] 0) (t':=s2.toks) (fun _ _ q=>wIa _ q) (wPa _)
  ⟨Nat.zero_le _,beq_eq_false_iff_ne.mpr (Ne.symm (wTa (Inv.big I))),List.nodup_nil,[],.nil,_,#[],wJa _ rfl,⟨rfl,rfl,rfl⟩,rfl,rfl⟩
 have hk:∀b o,s3.heap.get? b=some o->h1.get? b=some o:=fun b o e=>hsb.extBut b o (wTa (wLa e)) (wIa _ e);have e3:s3.heap.objs.size=s2.heap.objs.size+1:=Heap.size_push ..;have hl3:∀b∈fp,b < s3.heap.objs.size:=fun b hb=>by rw[e3];exact Nat.lt_succ_of_lt (hlt b hb)
 have hf3:∀b∈fp,Jj X pins (upd H s2.heap.objs.size (.dD [] 0)) b:=fun b hb=>⟨by rw[jr (Nat.ne_of_lt (hlt b hb))];exact(hf b hb).1,(hf b hb).2⟩
 have I4:Inv (X.comp (L2.cN own caps) scope s3 (upd H s2.heap.objs.size (.dD [] 0)) fp) [] (YQ own caps U) (upd H s2.heap.objs.size (.dD [] 0)) { s3 with heap:=h1,toks:=s2.toks+([]:List (Str×Value)).length }:=
  uC S.c S.kind S.f hcap I3 (fun b hb=>⟨hl3 b hb,hf3 b hb⟩) hns hk
 have st4:tn 0 h1:=T.keep _ _ _ st fun b hb o e=>hk b o (wIa _ e);have f4:∀b∈fp,Jj (X.comp (L2.cN own caps) scope s3 (upd H s2.heap.objs.size (.dD [] 0)) fp) [] (upd H s2.heap.objs.size (.dD [] 0)) b:=fun b hb=>
  ⟨(hf3 b hb).1,wTa (hl3 b hb),I4.ok.exfs b hb,.inl hb,(I4.ok.exf b hb).2,fun p hp=>vDa (show p∈([]:Tq) from hp) (by simp)⟩
 have loop:=KO (Y:=X.comp (L2.cN own caps) scope s3 (upd H s2.heap.objs.size (.dD [] 0)) fp) (d:=0) hc rfl rfl (Eu kx vx t1 i1 t2 i2 scope pos (.ref it) s2.heap.objs.size _) rfl (hg _ _ _) (hB _ _ _ _) T f4 turn (RR (.ref s2.heap.objs.size) s3.heap.objs.size) (fun s' xx=>by
  obtain⟨U',H',J',q⟩:=xx;have u:Un (Vi X.stack) fp (upd H s2.heap.objs.size (.dD [] 0)) H' s3.heap s'.heap:=J'.base;have I5:Inv X pins U H' s':=I3.call' (ch:=fp) J'.os ⟨u.keep,u.slot,u.free,u.there,u.tups,u.frzs,u.tbls⟩ J'.hok J'.bare fun b hb=>by
   have F:=hf3 b hb;exact⟨F.2.2.2.1,F.2.1,F.2.2.2.2.1,F.2.2.2.2.2⟩
  obtain⟨m5,hm5,_⟩:=id J'.loc;exact hRR _ _ s' H' m5 I5 hm5 (I3.fpOk (wPa _) J'.free) q) m0
  { s3 with heap:=h1,toks:=s2.toks+([]:List (Str×Value)).length } ⟨0,_,_,I4,st4,fun b hb=>(hf3 b hb).1,w0⟩
 exact codeAny_compStart_dict loop (T.self _ 0 _ _ _ st4 loop)
def Ii(own:List Str)(caps:Tj)(wi:TI)(g1:TG)(tb:Addr->TB):TE:=fun U H Q=>wi U H fun J H1=>∀D,H1 D=none->∃W,(∃m,W 0 m (YQ own caps U) (upd H1 D (.dD [] 0)))/\uc J g1 (tb D) (fun _ H'=>Q (.ref D) H') W
def HW{wi:TI}(own:List Str)(caps:Tj)(S:CScope X scope)(hcap:Caps X scope caps)(hc:X.calm=true)(hi:PI X t1 i1 wi)
  (hg:∀s3 H3 ex',PG (X.comp (L2.cN own caps) scope s3 H3 ex') t1 g1) (hB:∀s3 H3 ex' D,K8 (X.comp (L2.cN own caps) scope s3 H3 ex') (XQ kx vx t1 i1 t2 i2 scope pos D (X.comp (L2.cN own caps) scope s3 H3 ex').env) (tb D))
  (hs:∀x,foldedSetIterable i1 X.env x=pure x):PE X (.DictComp kx vx [⟨t1,i1,[],0⟩,⟨t2,i2,[],0⟩] scope pos) (Ii own caps wi g1 tb):=by
 intro pins s U H Q I h;show wpAny _ _ (comprehension (.DictComp kx vx [⟨t1,i1,[],0⟩,⟨t2,i2,[],0⟩] scope pos) scope X.env _ newDict false (eval i1 X.env)) _ _ s;refine wpAny_comprehension_free (use:=none) rfl hs (g_ fun y hy e=>I.ok.has y.1 (S.f y hy e)) S.kind S.l (ju (hi pins s U H _ I h) fun xv s1 h1=>ju h1 fun itv s2 h2=>?_);obtain⟨it,fp,tn,J,H2,e,I2,T,st,f2,w⟩:=h2;subst e;refine Co (Qv:=Q) (RR:=fun acc C=>compPost (model X.prog X.w) X.A X.xe none (EP X pins U Q) acc C) S hcap hc hg hB I2 T st f2 w ?_;intro D C s' H' m I' hn hf' q;refine⟨m,hn,fun h' sb=>⟨.ref D,H',?_,rfl,q⟩⟩;obtain⟨f0,f1,f2,f3,f4,f5⟩:=hf';exact I'.turned (t':=s'.toks) (fun b o hb e=>(sb.2 b hb).trans e) f0 f1 f3 f4 f5
end
@[simp] noncomputable def YK:Sl->Bool
 | .ow _ _=>false
 | .lo _=>false
 | _=>true
def GF(g:DG)(dk dv:DE):List D->jg->List D->List D->Option (jg×List D×List D)
 | [],Z,ks,vs=>some (Z,ks,vs)
 | d::ds,Z,ks,vs=>(g d Z).bind fun Z1=>(dk Z1).bind fun k=>(dv Z1).bind fun v=>(J8 k).bind fun x=>(jI ks).bind fun qs=>if ks.length < sizeLine/\Z1.all YK=true then GF g dk dv ds Z1 (zg qs ks x k) (zM qs vs x v)else none
def wH(g1:DG)(di:DI)(g:DG)(dk dv:DE):List D->jg->List D->List D->Option (List D×List D)
 | [],_,ks,vs=>some (ks,vs)
 | d::ds,Z,ks,vs=>(g1 d Z).bind fun Z1=>(di Z1).bind fun items=>if Z1.all YK=true then(GF g dk dv items Z1 ks vs).bind fun q=>wH g1 di g dk dv ds q.1 q.2.1 q.2.2 else none
def Qh(k:Nat)(caps:List Nat)(di:DI)(g1:DG)(di2:DI)(g:DG)(dk dv:DE):DO:=fun Z=>(di Z).bind fun items=>if (JZ k caps Z).all YK=true then(wH g1 di2 g dk dv items (JZ k caps Z) [] []).bind fun p=>some (.dct p.1 p.2)else none
def Bz{Z:jg}(h:Z.all YK=true){i:Nat}{q:Option Addr}{o:OD}:Z[i]?≠some (.ow q o):=fun e=>by
 have:=List.all_eq_true.mp h _ (wYa e);cases this
def BA{Z:jg}(h:Z.all YK=true)(i:Nat)(ls:List (List D)):Z[i]?≠some (.lo ls):=fun e=>by
 have:=List.all_eq_true.mp h _ (wYa e);cases this
section
variable {K:Fr} {H0 H H':Hp} {O0 O:List Addr} {Z:jg} {U:L2.St} {A:Addr}
structure DcI (K:Fr) (H0:Hp) (O0 O:List Addr) (A:Addr) (Z:jg) (U:L2.St) (H:Hp) (ks vs:List D):Prop where
 R:Rel K H0 O0 Z U H (A::O)
 o:JL K H (jd H (A::O)) A (.dct ks vs)
 n:Z.all YK=true
variable {own:List Str} {caps:Tj} {di di2:DI} {g1 g:DG} {dk dv:DE}
set_option tactic.hygienic true in
theorem Ew(hnd:(caps.map (·.2)).Nodup):∀U H Q,tF K (Qh own.length (caps.map (·.2)) di g1 di2 g dk dv) U H Q->
  Ii own caps (zF K di) (tG K own.length g1) (fun A=>Ih (zF K di2) (tG K own.length g) (Ig K A (tE K dk) (tE K dv))) U H Q:=fun U H Q xx=>by
 obtain⟨H0,O0,Z,O,o,R,ed,q⟩:=xx;obtain⟨items,e1,ed⟩:=j6 ed;split at ed
 case isFalse=>cases ed
 rename_i nw;obtain⟨⟨ks,vs⟩,e2,ed⟩:=j6 ed;cases ed;refine⟨H0,O0,Z,O,items,R,e1,fun J H1 s1 hJ A hA=>?_⟩;have R1:=R.grow s1;have Rc:=GV own caps R1 hnd;have h0:H0 A=none:=R1.keep.none hA;have I0:DcI K H0 O0 O A (JZ own.length (caps.map (·.2)) Z) (YQ own caps U) (upd H1 A (.dD [] 0)) [] []:=
  ⟨Rc.lay (F:=[A]) (jB hA _) (fun a h=>by rw[List.mem_singleton.mp h];exact hA) (fun a h=>by rw[List.mem_singleton.mp h,jS];exact fun z=>nomatch z),⟨[],0,jS,by rw[jI];rfl,j4.nil,j4.nil⟩,nw⟩
 refine⟨fun i m U' H'=>∃Z' ks' vs',DcI K H0 O0 O A Z' U' H' ks' vs'/\wH g1 di2 g dk dv (items.drop i) Z' ks' vs'=some (ks,vs)/\j7 (jd H1 O) (jd H' (A::O))/\j7 H1 H'/\m=items.length - i/\i<=items.length,
  ⟨items.length,_,[],[],I0,by simpa using e2,yt (jB hA _) hA,jB hA _,rfl,Nat.zero_le _⟩,?_⟩
 rintro i m U' H' ⟨Z',ks',vs',I,d1,sd,sH,rfl,hi⟩;obtain⟨hgo,hstop⟩:=hJ i H' (A::O) I.R.keep I.R.in0 sd I.R.al;by_cases hlt:i < items.length
 ·right;have hx:items[i]?=some items[i]:=by simp[hlt]
  have hd:items.drop i=items[i]::items.drop (i+1):=(List.getElem_cons_drop hlt).symm;rw[hd,wH]at d1;obtain⟨gg1,gg2⟩:=hgo _ hx;obtain⟨Z1,f1,d1⟩:=j6 d1;obtain⟨items2,f2,d1⟩:=j6 d1;split at d1
  case isFalse=>cases d1
  rename_i nw1;obtain⟨⟨Z2,ks2,vs2⟩,f3,d1⟩:=j6 d1;dsimp only at d1;refine⟨gg1,fun U2 H2=>∃Z' ks' vs',DcI K H0 O0 O A Z' U2 H2 ks' vs'/\wH g1 di2 g dk dv (items.drop (i+1)) Z' ks' vs'=some (ks,vs)/\j7 (jd H1 O) (jd H2 (A::O))/\j7 H1 H2,?_,fun x H'' y=>?_⟩
  ·rintro U2 H2 ⟨Z3,k3,v3,a1,a2,a3,a4⟩;exact⟨items.length - (i+1),by lia,Z3,k3,v3,a1,a2,a3,a4,rfl,hlt⟩
  obtain⟨sy,rx⟩:=gg2 x H'' y;refine⟨H0,O0,Z',A::O,_,Z1,I.R.grow sy,rx,f1,fun U2 R3 _=>⟨H0,O0,Z1,A::O,items2,R3,f2,fun J2 H3 s3 hJ2=>?_⟩⟩;have s13:=sy.trans s3;have I3:DcI K H0 O0 O A Z1 U2 H3 ks' vs':=⟨R3.grow s3,I.o.same (s13 A) (ji s13),nw1⟩
  refine⟨fun j m U' H'=>∃Z' ks' vs',DcI K H0 O0 O A Z' U' H' ks' vs'/\GF g dk dv (items2.drop j) Z' ks' vs'=some (Z2,ks2,vs2)/\j7 (jd H3 (A::O)) (jd H' (A::O))/\j7 H1 H'/\m=items2.length - j/\j<=items2.length,
   ⟨items2.length,Z1,ks',vs',I3,by simpa using f3,j7.refl _,sH.trans s13,rfl,Nat.zero_le _⟩,?_⟩
  rintro j m U5 H5 ⟨Z5,ks5,vs5,I5,d5,sd5,sH5,rfl,hj⟩;obtain⟨hgo2,hstop2⟩:=hJ2 j H5 (A::O) I5.R.keep I5.R.in0 sd5 I5.R.al;by_cases hlt2:j < items2.length
  ·right;have hx2:items2[j]?=some items2[j]:=by simp[hlt2]
   have hd2:items2.drop j=items2[j]::items2.drop (j+1):=(List.getElem_cons_drop hlt2).symm;rw[hd2,GF]at d5;obtain⟨u1,u2⟩:=hgo2 _ hx2;obtain⟨Z6,w1,d5⟩:=j6 d5;obtain⟨k,w2,d5⟩:=j6 d5;obtain⟨v,w3,d5⟩:=j6 d5;obtain⟨kk,w4,d5⟩:=j6 d5;obtain⟨qs,w5,d5⟩:=j6 d5;split at d5
   case isFalse=>cases d5
   rename_i hz;refine⟨u1,fun U7 H7=>∃Z' ks' vs',DcI K H0 O0 O A Z' U7 H7 ks' vs'/\GF g dk dv (items2.drop (j+1)) Z' ks' vs'=some (Z2,ks2,vs2)/\j7 (jd H3 (A::O)) (jd H7 (A::O))/\j7 H1 H7,?_,fun x6 H6 y6=>?_⟩
   ·rintro U7 H7 ⟨Z7,k7,v7,a1,a2,a3,a4⟩;exact⟨items2.length - (j+1),by lia,Z7,k7,v7,a1,a2,a3,a4,rfl,hlt2⟩
   obtain⟨sy6,rx6⟩:=u2 x6 H6 y6;refine⟨H0,O0,Z5,A::O,_,Z6,I5.R.grow sy6,rx6,w1,fun U7 R7 _=>⟨H0,O0,Z6,A::O,k,R7,w2,fun kv H8 s8 rk=>⟨H0,O0,Z6,A::O,v,R7.grow s8,w3,fun vv H9 s9 rv=>?_⟩⟩⟩;have s89:=s8.trans s9;have s59:=sy6.trans s89;obtain⟨kvs,ep,o1,o2,o3,o4⟩:=I5.o.same (s59 A) (ji s59);rw[o2]at w5;cases w5;have rk':=rk.same (ji s9);obtain⟨b,rfl,rb⟩:=vS (O:=A::O) (.inl rk') w4;have hlen:kvs.length=ks5.length:=by have:=o3.len;simpa using this
   obtain⟨p1,p2,p3⟩:=KN (b:=b) (qs:=[]) w4 o2 o3 o4 rk' rv;refine⟨kvs,ep,b,ks5,kk,k,rfl,⟨o1,o2,o3.same Jx⟩,rb,w4,by rw[hlen];exact hz.1,fun ep'=>⟨Z6,_,_,⟨(R7.grow s89).poke (BA hz.2) wNa h0 (fun⟨_,_,_,y,_⟩=>Bz hz.2 y),⟨_,ep',jS,p1,?_,?_⟩,hz.2⟩,d5,?_,?_⟩⟩
   ·rw[JC List.mem_cons_self];exact p2
   ·rw[JC List.mem_cons_self];exact p3
   ·rw[JC List.mem_cons_self];exact sd5.trans (ji s59)
   ·exact(sH5.trans s59).upd hA _
  ·left;have ej:j=items2.length:=by lia
   refine⟨hstop2 ej,?_⟩;have e0:items2.drop j=[]:=List.drop_of_length_le (by lia);rw[e0,GF]at d5;cases d5;exact⟨_,_,_,I5,d1,sd.trans ((ji s13).trans sd5),sH5⟩
 ·left;have ei:i=items.length:=by lia
  refine⟨hstop ei,?_⟩;have e0:items.drop i=[]:=List.drop_of_length_le (by lia);rw[e0,wH]at d1;cases d1;exact q A H' (s1.trans sH) (s1.none hA) I.o
end
end DS
namespace L2
end L2
namespace DS
open L2
end DS
namespace L2
end L2
namespace DS
open L2
noncomputable def XR:List D->Bool
 | []=>true
 | .tup t::_=>t.length != 2
 | .int _::_=>true
 | _=>false
mutual
@[simp] noncomputable def XS:D->Bool
 | .non=>true
 | .bl _=>true
 | .int _=>true
 | .str _=>true
 | .tup l=>Yw l
 | .lst l=>XR l&&Yw l
 | .ins _ _ l=>Yw l
 | _=>false
@[simp] noncomputable def Yw:List D->Bool
 | []=>true
 | d::ds=>XS d&&Yw ds
end
noncomputable def WM:Option HO->Bool
 | some (.lst _)=>true
 | _=>false
def K9(F:List Addr)(H:Hp):Hp:=fun b=>if WM (H b)=true/\b∉F then none else H b
def Lu(K:Fr)(H:Hp):Prop:=(∀a xs ys,Jr K H a xs->Jr K H a ys->xs=ys)/\∀a xs zs,Jr K H a xs->H a≠some (.lst zs)
section
variable {K:Fr} {H H':Hp} {O:List Addr}
def Gd(h:WM (H a)=false \/ a∈F):K9 F H a=H a:=if_neg fun z=>by
 rcases h with h | h
 ·rw[h]at z;cases z.1
 ·exact z.2 h
set_option tactic.hygienic true in
theorem WN(h:K9 F H a=some u):H a=some u/\(WM (H a)=false \/ a∈F):=by
 unfold K9 at h;split at h
 ·cases h
 ·rename_i z;refine⟨h,?_⟩;cases q:WM (H a)with
  | false=>exact .inl rfl
  | true=>exact .inr (Classical.byContradiction fun y=>z ⟨q,y⟩)
def g6{F G:List Addr}(s:∀a∈F,a∈G):j7 (K9 F H) (K9 G H):=fun b o h=>by
 obtain⟨h1,h2⟩:=WN h;rw[Gd (h2.imp id (s b))];exact h1
def AJ:xn H (K9 F H):=fun b o i h=>by
 rw[Gd (.inl (by rw[h];cases o <;> first | rfl | cases i))];exact h
def Ij(K:Fr)(H:Hp)(F:List Addr):Prop:=∀a∈F,∃m xs,H a=some (.lst xs)/\j4 K H m xs/\XR m=true
mutual
theorem AL:∀{d:D} {v:V},XS d=true->j8 K H d v->∃F,Ij K H F/\j8 K (K9 F H) d v
 | .non,_,_,h=>⟨[],(fun _ z=>by cases z),by rw[j8]at h⊢;exact h⟩
 | .bl _,_,_,h=>⟨[],(fun _ z=>by cases z),by rw[j8]at h⊢;exact h⟩
 | .int _,_,_,h=>⟨[],(fun _ z=>by cases z),by rw[j8]at h⊢;exact h⟩
 | .str _,_,_,h=>⟨[],(fun _ z=>by cases z),by rw[j8]at h⊢;exact h⟩
 | .tup l,_,n,h=>by
  rw[j8]at h;obtain⟨a,xs,rfl,q,r⟩:=h;rw[XS]at n;obtain⟨F,f,r'⟩:=ZM n r;exact⟨F,f,by rw[j8];exact⟨a,xs,rfl,AJ.sqT q,r'⟩⟩
 | .lst l,_,n,h=>by
  rw[j8]at h;obtain⟨a,xs,rfl,q,r⟩:=h;rw[XS,Bool.and_eq_true]at n;obtain⟨F,f,r'⟩:=ZM n.2 r;refine⟨a::F,fun b hb=>?_,by rw[j8];exact⟨a,xs,rfl,by rw[Gd (.inr List.mem_cons_self)];exact q,r'.same (g6 fun b hb=>wMa _ hb)⟩⟩;rcases uTa hb with rfl | hb
  ·exact⟨l,xs,q,r,n.1⟩
  ·exact f b hb
 | .ins C ns l,_,n,h=>by
  rw[j8]at h;obtain⟨a,dx,xs,rfl,q,z,r⟩:=h;rw[XS]at n;obtain⟨F,f,r'⟩:=ZM n r;exact⟨F,f,by rw[j8];exact⟨a,dx,xs,rfl,by rw[Gd (.inl (by rw[q];rfl))];exact q,z,r'⟩⟩
 | .scr _,_,n,_=>by simp at n
 | .dct _ _,_,n,_=>by simp at n
theorem ZM:∀{ds:List D} {vs:List V},Yw ds=true->j4 K H ds vs->∃F,Ij K H F/\j4 K (K9 F H) ds vs
 | [],_,_,h=>⟨[],(fun _ z=>by cases z),by rw[j4]at h⊢;exact h⟩
 | d::ds,_,n,h=>by
  rw[j4]at h;obtain⟨v,r,rfl,a,b⟩:=h;rw[Yw,Bool.and_eq_true]at n;obtain⟨F,f,x⟩:=AL n.1 a;obtain⟨G,g,y⟩:=ZM n.2 b;exact⟨F++G,fun c hc=>(uWa hc).elim (f c) (g c),j4.cons (x.same (g6 fun b hb=>vIa _ hb)) (y.same (g6 fun b hb=>vJa _ hb))⟩
end
theorem WO:∀{ks:List Bool} {ds:List D} {vs:List V},ks.all id=true->yG K O H ks ds vs->j4 K (jd H O) ds vs
 | [],[],[],_,_=>j4.nil
 | true::ks,d::ds,v::vs,a,h=>j4.cons h.1 (WO (by simpa using a) h.2)
 | false::_,_,_,a,_=>by cases a
 | [],[],_::_,_,h=>h.elim
 | [],_::_,_,_,h=>h.elim
 | _::_,[],_,_,h=>by cases h
 | _::_,_::_,[],_,h=>by cases h
theorem WP:∀{ks:List Bool} {ds:List D} {vs:List V},ks.length=ds.length->j4 K (jd H O) ds vs->yG K O H ks ds vs
 | [],[],_,_,h=>by rw[j4]at h;subst h;trivial
 | k::ks,d::ds,_,n,h=>by
  rw[j4]at h;obtain⟨v,r,rfl,a,b⟩:=h;refine⟨?_,WP (by simpa using n) b⟩;cases k
  ·exact .inl a
  ·exact a
 | [],_::_,_,n,_=>by cases n
 | _::_,[],_,n,_=>by cases n
end
noncomputable def AM:List D->Option Int
 | .tup [.tup (.int a::_),_]::_=>some a
 | _=>none
section
variable {K:Fr} {H:Hp}
def Ex{m:List D}{a:Int}{vs:List V}(e:AM m=some a)(r:j4 K H m vs):∃b ws c us,vs.head?=some (.ref b)/\Jr K H b ws/\ws.length=2/\ws.head?=some (.ref c)/\Jr K H c us/\us.head?=some (.int a):=by
 unfold AM at e;split at e
 ·cases e;rw[j4]at r;obtain⟨v,r',rfl,q,_⟩:=r;rw[j8]at q;obtain⟨b,ws,rfl,s,w⟩:=q;have:=w.len;rw[j4]at w;obtain⟨v,_,rfl,q,_⟩:=w;rw[j8]at q;obtain⟨c,us,rfl,s',w⟩:=q;rw[j4]at w;obtain⟨v,_,rfl,q,_⟩:=w;rw[j8]at q;subst q;exact⟨b,_,c,_,rfl,s,this,rfl,s',rfl⟩
 ·cases e
def HX{m:List D}{vs:List V}{b:Addr}(o:XR m=true)(r:j4 K H m vs)(e:vs.head?=some (.ref b)):∃ws,Jr K H b ws/\ws.length≠2:=by
 cases m with
 | nil=>rw[j4]at r;subst r;cases e
 | cons d m=>
  rw[j4]at r;obtain⟨v,r',rfl,q,_⟩:=r;cases e;cases d with
  | tup t=>
   rw[j8]at q;obtain⟨b',ws,z,s,w⟩:=q;cases z;refine⟨ws,s,?_⟩;rw[w.len];simpa[XR]using o
  | int i=>rw[j8]at q;cases q
  | _=>cases o
end
section
variable {X:Cx} {K:Fr} {e:Expr} {es:List Expr} {pos p:Pos} {l:DA} {ks:List Bool} {x:Str} {ps:List Str} {k:Nat}
def HY(h:PA X es t):PA X es (fun U H Q=>t U H fun vs H1=>∀n,(∀a u,H1 a=some u->a < n)->Q vs H1):=fun p pins s U H Q I q=>by
 refine ju (h p pins s U H _ I q) fun us s1 xx=>?_;obtain⟨vs,H1,I1,r,q1⟩:=xx;exact⟨vs,H1,I1,r,q1 s1.heap.objs.size fun a u z=>(I1.hok a u z).lt⟩
def HZ(h:PE X e t):PE X e (fun U H Q=>t U H fun v H1=>Lu X.K H1->Q v H1):=fun pins s U H Q I q=>by
 refine ju (h pins s U H _ I q) fun v s1 xx=>?_;obtain⟨x,H1,I1,r,q1⟩:=xx;refine⟨x,H1,I1,r,q1 ⟨fun a xs ys u w=>I1.tuple_inj u w,fun a xs zs u w=>?_⟩⟩;obtain⟨its,_,⟨o,g,c,_⟩,_⟩:=I1.tuple u;obtain⟨_,_,_,_,g'⟩:=I1.hok a _ w;rw[g]at g';cases g';injection c with c;exact vDa c (by decide)
end
end DS
namespace L2
def Ey(bs:List Bool)(n:Nat)(hn:n=bs.length):((List.range n).any fun i=>(bs[i]?).getD true)=bs.any id:=by
 subst hn;rw[Bool.eq_iff_iff];simp only[List.any_eq_true,List.mem_range,id];constructor
 ·rintro⟨i,hi,e⟩;exact⟨bs[i],List.getElem_mem hi,by simpa[hi]using e⟩
 ·rintro⟨x,hx,e⟩;obtain⟨i,hi,rfl⟩:=List.mem_iff_getElem.mp hx;exact⟨i,hi,by simpa[hi]using e⟩
def AN(hc:X.calm=true):Yi X (.builtin "any") (fun xs H Q=>∃(p:Addr) (bs:List Bool),xs=[.ref p]/\jC X.K H p (bs.map V.bl)/\Q (.bl (bs.any id)) H):=by
 rintro pins s U H _ us Q I r ⟨p,bs,rfl,hq,q⟩;cases r with
 | cons r rr=>
  cases rr;cases r;obtain⟨its,rv,pl,hz⟩:=I.list hq;have hp:p < s.heap.objs.size:=by
   obtain⟨o,ho,_⟩:=pl.isList;exact wLa ho
  have hlen:its.length=bs.length:=by
   have:=rv.length;rw[vYa]at this
   lia
  have W:=Walks.list (prog:=X.prog) (w:=X.w) (A:=X.A.in1) (I.ok.hd hc) s.heap.objs.size p (wTa hp) its.toArray;refine call_any_walk (wpAny_pyIter_list pl.isList ⟨_,_,_,_,_,_,fun i=>(bs[i]?).getD true,rfl,W,?_,?_,?_⟩)
  ·exact⟨⟨_,wJa _ rfl,rfl,rfl⟩,pl.isList.at fun o e=>wIa _ e⟩
  ·intro i v s' Q' E' hv hq';have hv:its[i]?=some v:=by simpa using hv
   have hi:i < bs.length:=by
    rw[<-hlen];exact(uSa hv).1
   obtain⟨u,eu,ru⟩:=rv.get (i:=i) (x:=V.bl bs[i]) (by simp[hi]);cases hv.symm.trans eu;cases ru;refine wpAny_truthy_bool ?_;have hq':Q' ((bs[i]?).getD true) s':=hq';rwa [uCa hi]at hq'
  ·intro h' tk hk;rw[Ey bs _ (by rw[uLa,hlen])];have J:Inv X pins U H { s with heap:=h',toks:=tk }:=I.turnedL (t':=tk) (ch:=[s.heap.objs.size]) (fun b hb=>by
    rw[List.mem_singleton]at hb;subst hb;exact I.fpOk (wPa _) (I.hok.fresh (wPa _))) fun c o hc' e'=>hk c o hc' (wIa _ e')
   exact⟨.bl (bs.any id),H,J,rfl,q⟩
end L2
end
namespace DS
open PySem L2
@[simp] def ga:List D->Option D
 | [.lst l]=>(uF l).bind fun bs=>some (.bl (bs.any id))
 | _=>none
def H_:Fn K (fun xs H Q=>∃(p:Addr) (bs:List Bool),xs=[.ref p]/\jC K H p (bs.map V.bl)/\Q (.bl (bs.any id)) H) ga:=by
 intro O H ks ds vs d Q h hn e q;unfold ga at e;split at e
 ·obtain⟨bs,e1,e2⟩:=j6 e;cases e2;obtain⟨v,rfl,r⟩:=zJ h;obtain⟨p,xs,rfl,h1,h2⟩:=r.lst;rw[UW e1 h2]at h1;exact⟨p,bs,rfl,jC.of h1,q _ H (j7.refl H) (by rw[j8])⟩
 ·cases e
end DS
namespace L2
open PySem PySem.Spec PyProof.Rows
section
variable {X:Cx}
def Ez:j_ X (compareOp .Is) (fun x y H Q=>∃a b,x=.bl a/\y=.bl b/\Q (.bl (a==b)) H):=by
 intro pins s U H x y v u Q I rx ry h;obtain⟨a,b,rfl,rfl,q⟩:=h;cases rx;cases ry;exact wpAny_is_plain rfl (jQ I q (by cases a <;> cases b <;> rfl))
def Cp:j_ X (compareOp .IsNot) (fun x y H Q=>∃a b,x=.bl a/\y=.bl b/\Q (.bl (!(a==b))) H):=by
 intro pins s U H x y v u Q I rx ry h;obtain⟨a,b,rfl,rfl,q⟩:=h;cases rx;cases ry;exact wpAny_isNot_plain rfl (jQ I q (by cases a <;> cases b <;> rfl))
end
end L2
namespace DS
open PySem PySem.Spec PyProof.Rows L2
section
variable {K:Fr}
noncomputable def xD:D->D->Option D
 | .bl a,.bl b=>some (.bl (a==b))
 | _,_=>none
@[simp] theorem Lh(a b:Bool):xD (.bl a) (.bl b)=some (.bl (a==b)):=rfl
noncomputable def Ge:D->D->Option D
 | .bl a,.bl b=>some (.bl (!(a==b)))
 | _,_=>none
@[simp] theorem lQ(a b:Bool):Ge (.bl a) (.bl b)=some (.bl (!(a==b))):=rfl
def ic:Jv K (fun x y H Q=>∃a b,x=.bl a/\y=.bl b/\Q (.bl (a==b)) H) xD:=by
 intro O H a b d x y Q ha hb _ e q;unfold xD at e;split at e
 ·cases e;exact⟨_,_,ha.bl,hb.bl,q _ H (j7.refl H) (by rw[j8])⟩
 ·cases e
def EA:Jv K (fun x y H Q=>∃a b,x=.bl a/\y=.bl b/\Q (.bl (!(a==b))) H) Ge:=by
 intro O H a b d x y Q ha hb _ e q;unfold Ge at e;split at e
 ·cases e;exact⟨_,_,ha.bl,hb.bl,q _ H (j7.refl H) (by rw[j8])⟩
 ·cases e
end
end DS
namespace DS
open PySem PySem.Spec PyProof.Rows L2 PySem.SeqAt
end DS
namespace L2
open PySem PySem.Spec PyProof.Rows
def yj.ok{P:Program}{w:World}{H:Hp}(x:yj a kas h):yf P w H h a (.ext (yj a kas)):=by
 have y:=x;obtain⟨o,_,_,_,e,_⟩:=y;exact⟨x,⟨o,e⟩,fun _ _ ⟨o,es,ep,t,e,r⟩ k=>⟨o,es,ep,t,k o e,r⟩⟩
def Cq(hS:yj a kas s.heap)(hK:∀p∈kas,p.1.dep<=8/\jA s.heap p.1 (.ref p.2))(hx:jA s.heap k (.ref ax))(hk:k.dep<=8)(hr:A.units+16 < cLine)(hl:kas.length < 8192)(ne:k∉kas.map (·.1))
  (h1:∀h',Heap.SameBut a s.heap h'->yj a (kas++[(k,ax)]) h'->Q .none { s with heap:=h',toks:=s.toks+k.drw }):wpAny (model prog w) A (call (.builtin "set.add") [.ref a,.ref ax]) Q E s:=by
 have hT:s.TypeIs (.ref a) "set" := by
  obtain⟨o,_,_,_,e,x,_⟩:=hS;exact⟨o,e,x.1⟩
 refine wpAny_call_entry F.slot_set_add hT F.entry_set_add ?_ (F.args_set_add_2 _ _);unfold Builtin.«set.add» Builtin.Frozenset.oneOther Builtin.Frozenset.addrOf setAdd;simp only[List.isEmpty_nil,bind_assoc];refine wAa (wBa (wAa (wBa (wAa (wDa (wAa ?_))))));refine Kt k _ A.in1 s _ hx (by rw[Around.in1_units];lia) (dE (s:={ s with toks:=s.toks+k.drw }) hS hK hx hk (by rw[Around.in1_units];lia) hl ne fun h' sb q=>?_);show wpAny _ _ (ret Value.none) _ _ _;exact wBa ⟨_,rfl,h1 h' sb q⟩
noncomputable def BB(elt:Expr)(D:Addr)(env:Env)(c:Sem Fin):Sem Fin:=do
 (do
  let v<-eval elt env
  standAt elt.pos
  let _<-call (.builtin "set.add") [.ref D,v])
 c
def AO(elt t1 i1:Expr)(scope:Scope)(pos:Pos)(it:Value)(D:Addr)(env:Env):
  compTurn (.SetComp elt [⟨t1,i1,[],0⟩] scope pos) 0 it (.ref D) env=(do
   standAt i1.pos
   match<-pyNext it with
   | none=>pure (.done .next)
   | some v=>
    letOwnedTupleGo t1 it v
    assign t1 env v
    BB elt D env (again (.compLoop (.SetComp elt [⟨t1,i1,[],0⟩] scope pos) 0 it (.ref D) env))):=by rfl
end L2
namespace DS
open PySem PySem.Spec PyProof.Rows L2
def EB(K:Fr)(D:Addr)(te:TE):TB:=fun U H N=>te U H fun v H1=>∃b kas dk kk,v=.ref b/\H1 D=some (.ext (yj D kas))/\j8 K H1 dk (.ref b)/\J8 dk=some kk/\(∀p∈kas,∃d,j8 K H1 d (.ref p.2)/\J8 d=some p.1)/\kas.length < 8192/\
 kk∉kas.map (·.1)/\N U (upd H1 D (.ext (yj D (kas++[(kk,b)]))))
section
variable {Y:Cx} {elt t1 i1:Expr} {scope:Scope} {pos:Pos} {D:Addr} {te:TE}
def ie{n:Nat}(hx:Y.xe=fun _ _=>False)(hr:Room n Y.A)(he:PE Y elt te):K8 Y (BB elt D Y.env) (EB Y.K D te):=by
 intro pins s U H N c Q E I h hN;refine wAa (wAa (wCa (he pins s U H _ I h) (fun v s1 h1=>?_) fun _ _ z=>(by rw[hx]at z;exact z.elim)));obtain⟨v,H1,I1,r1,b,kas,dk,kk,rfl,hD,rb,ek,hK,hl,n0,n1⟩:=h1;cases r1;have ku:=YZ I1 rb ek;have kk8:∀p∈kas,p.1.dep<=8/\jA s1.heap p.1 (.ref p.2):=fun p hp=>by
  obtain⟨d,r,e⟩:=hK p hp;have:=YZ I1 r e;exact⟨this.2,this.1⟩
 refine wAa (vOa (wAa (Cq (I1.hok D _ hD).1 kk8 ku.1 ku.2 (by have:=hr.un;lia) hl n0 fun h' sb q=>?_)));have y:=q;obtain⟨o,_,_,_,e,_⟩:=y;exact wBa (hN _ U _ (I1.write (x:=D) (e:=D) (t':=s1.toks+kk.drw) (by rw[hD];trivial) (.inl rfl) (fun c z hc e=>(sb.2 c hc).trans e) ⟨_,e⟩ (yj.ok q)) n1)
end
section
variable {X:Cx} {elt t1 i1:Expr} {scope:Scope} {pos:Pos} {own:List Str} {caps:Tj} {g1:TG} {tb:Addr->TB} {pins:Tq} {U:L2.St} {H:Hp} {s2:Shared} {J:It} {fp:List Addr} {it:Addr} {tn:Nat->Heap->Prop} {Qv:VK}
def Cr{E:Tz}{RR:Value->Addr->Result->Shared->Prop}(S:CScope X scope)(hcap:Caps X scope caps)(hc:X.calm=true)
  (hg:∀s3 H3 ex',PG (X.comp (L2.cN own caps) scope s3 H3 ex') t1 g1) (hB:∀s3 H3 ex' D,K8 (X.comp (L2.cN own caps) scope s3 H3 ex') (BB elt D (X.comp (L2.cN own caps) scope s3 H3 ex').env) (tb D))
  (I:Inv X pins U H s2) (T:Turn X.prog X.w X.K t1 J fp it tn) (st:tn 0 s2.heap) (hfp:∀b∈fp,Jj X pins H b)
  (w:∀D,H D=none->∃W,(∃m,W 0 m (YQ own caps U) (upd H D (.ext (yj D []))))/\uc J g1 (tb D) (fun _ H'=>Qv (.ref D) H') W)
  (hRR:∀D C s' H' m,Inv X pins U H' s'->s'.heap.Ns C m->Jj X pins H' C->Qv (.ref D) H'->RR (.ref D) C (.ok .next) s'):
  wpAny (model X.prog X.w) X.A (newSet (.type "set")) (fun acc s3=>wpAny (model X.prog X.w) X.A (newFunctionEnv scope X.env.globals (Y9 X.env scope.names []) [] X.env.qual none .none (some X.env)) (fun cenv s4=>
   codeAny (model X.prog X.w) X.A (.compStart (.SetComp elt [⟨t1,i1,[],0⟩] scope pos) 0 (.ref it) acc { cenv with scope:=relabel scope X.env }) (RR acc cenv.locals) s4) E s3) E s2:=by
 obtain⟨W,⟨m0,w0⟩,turn⟩:=w s2.heap.objs.size (I.hok.fresh (wPa _));refine wpAny_newSet_of (knd:=gW X.prog X.w) fun led _=>wpAny_newFunctionEnv S.c (by intro y hy;simp at hy) (fun h1 hns hsb=>?_) S.kind;have hlt:∀b∈fp,b < s2.heap.objs.size:=fun b hb=>by
  obtain⟨o,e,_⟩:=T.obj _ _ st b hb;exact wLa e
 let s3:Shared:={ s2 with heap:=s2.heap.push { cls:=.type "set",dict:=none,data:=.set #[] 0 (.fresh 0 0 led) } }
 let UQ:HO:=.ext (yj s2.heap.objs.size [])
 have I3:Inv X pins U (upd H s2.heap.objs.size UQ) s3:=I.laid (a:=s2.heap.objs.size) (o:=UQ) (t':=s2.toks) (fun _ _ q=>wIa _ q) (wPa _)
  (yj.ok ⟨_,#[],0,_,wJa _ rfl,⟨rfl,rfl,rfl⟩,rfl,⟨⟨3,rfl⟩,rfl,rfl,(by decide:0 * 5 < 7 * 3)⟩,rfl,fun _ h=>by cases h⟩)
 have hk:∀b o,s3.heap.get? b=some o->h1.get? b=some o:=fun b o e=>hsb.extBut b o (wTa (wLa e)) (wIa _ e);have e3:s3.heap.objs.size=s2.heap.objs.size+1:=Heap.size_push ..;have hl3:∀b∈fp,b < s3.heap.objs.size:=fun b hb=>by rw[e3];exact Nat.lt_succ_of_lt (hlt b hb)
 have hf3:∀b∈fp,Jj X pins (upd H s2.heap.objs.size UQ) b:=fun b hb=>⟨by rw[jr (Nat.ne_of_lt (hlt b hb))];exact(hfp b hb).1,(hfp b hb).2⟩
 have I4:Inv (X.comp (L2.cN own caps) scope s3 (upd H s2.heap.objs.size UQ) fp) [] (YQ own caps U) (upd H s2.heap.objs.size UQ) { s3 with heap:=h1,toks:=s2.toks+([]:List (Str×Value)).length }:=
  uC S.c S.kind S.f hcap I3 (fun b hb=>⟨hl3 b hb,hf3 b hb⟩) hns hk
 have st4:tn 0 h1:=T.keep _ _ _ st fun b hb o e=>hk b o (wIa _ e);have f4:∀b∈fp,Jj (X.comp (L2.cN own caps) scope s3 (upd H s2.heap.objs.size UQ) fp) [] (upd H s2.heap.objs.size UQ) b:=fun b hb=>
  ⟨(hf3 b hb).1,wTa (hl3 b hb),I4.ok.exfs b hb,.inl hb,(I4.ok.exf b hb).2,fun p hp=>vDa (show p∈([]:Tq) from hp) (by simp)⟩
 have loop:=KO (Y:=X.comp (L2.cN own caps) scope s3 (upd H s2.heap.objs.size UQ) fp) (d:=0) hc rfl rfl (AO elt t1 i1 scope pos (.ref it) s2.heap.objs.size _) rfl (hg _ _ _) (hB _ _ _ _) T f4 turn (RR (.ref s2.heap.objs.size) s3.heap.objs.size) (fun s' xx=>by
  obtain⟨U',H',J',q⟩:=xx;have u:Un (Vi X.stack) fp (upd H s2.heap.objs.size UQ) H' s3.heap s'.heap:=J'.base;have I5:Inv X pins U H' s':=I3.call' (ch:=fp) J'.os ⟨u.keep,u.slot,u.free,u.there,u.tups,u.frzs,u.tbls⟩ J'.hok J'.bare fun b hb=>by
   have F:=hf3 b hb;exact⟨F.2.2.2.1,F.2.1,F.2.2.2.2.1,F.2.2.2.2.2⟩
  obtain⟨m5,hm5,_⟩:=id J'.loc;exact hRR _ _ s' H' m5 I5 hm5 (I3.fpOk (wPa _) J'.free) q) m0
  { s3 with heap:=h1,toks:=s2.toks+([]:List (Str×Value)).length } ⟨0,_,_,I4,st4,fun b hb=>(hf3 b hb).1,w0⟩
 exact GE rfl rfl rfl rfl loop (T.self _ 0 _ _ _ st4 loop)
def Ik(own:List Str)(caps:Tj)(wi:TI)(g1:TG)(tb:Addr->TB):TE:=fun U H Q=>wi U H fun J H1=>∀D,H1 D=none->∃W,(∃m,W 0 m (YQ own caps U) (upd H1 D (.ext (yj D []))))/\uc J g1 (tb D) (fun _ H'=>Q (.ref D) H') W
set_option tactic.hygienic true in
theorem AQ{wi:TI}(own:List Str)(caps:Tj){i:Nat}{x:Str}{pos' spos:Pos}(hN:X.N.Nodup)(hix:X.N[i]?=some x)(hx:UA X.env.scope x)(S:CScope X scope)(hcap:Caps X scope caps)(hc:X.calm=true)(hi:PI X t1 i1 wi)
  (hg:∀s3 H3 ex',PG (X.comp (L2.cN own caps) scope s3 H3 ex') t1 g1) (hB:∀s3 H3 ex' D,K8 (X.comp (L2.cN own caps) scope s3 H3 ex') (BB elt D (X.comp (L2.cN own caps) scope s3 H3 ex').env) (tb D))
  (hs:∀x,foldedSetIterable i1 X.env x=pure x) (hsw:swapsWith (.SetComp elt [⟨t1,i1,[],0⟩] scope pos) (some (.Name x pos')) spos.line X.env=pure true) (hfn:X.fn x=true \/ X.env.scope.names.lookup x=some .local):
  PS X (.Assign [.Name x pos'] (.SetComp elt [⟨t1,i1,[],0⟩] scope pos) spos) (zq (Ik own caps wi g1 tb) (Yh i)):=by
 intro pins s U H D I h;rw[exec_Assign_Name_used _ _ _ _ hsw];refine wAa (vOa (wAa ?_));show wpAny _ _ (do let _<-comprehension (.SetComp elt [⟨t1,i1,[],0⟩] scope pos) scope X.env _ (newSet (.type "set")) false (eval i1 X.env) (some (assign (.Name x pos') X.env))) _ _ s;refine wAa (wCa (wpAny_comprehension_free (use:=some (assign (.Name x pos') X.env)) (Q:=fun _ s'=>SP X pins D .next s') rfl hs (g_ fun y hy e=>I.ok.has y.1 (S.f y hy e)) S.kind S.l
  (ju (hi pins s U H _ I h) fun xv s1 h1=>ju h1 fun itv s2 h2=>?_)) (fun _ s' hq=>wBa (wBa hq)) fun _ _ e=>e)
 obtain⟨it,fp,tn,J,H2,e,I2,T,st,f2,w⟩:=h2;subst e;refine Cr (Qv:=fun v H'=>Yh i v U H' D.nx) (RR:=fun acc C=>compPost (model X.prog X.w) X.A X.xe (some (assign (.Name x pos') X.env)) (fun _ s'=>SP X pins D .next s') acc C) S hcap hc hg hB I2 T st f2 w ?_;intro A C s' H' m I' hn hf' q;obtain⟨f0,f1,f2,f3,f4,f5⟩:=hf';show wpAny _ _ (assign (.Name x pos') X.env (.ref A)) _ _ _;refine wpAny_assign_Name (UB (v:=.ref A) I' hN hix hx rfl (fun s'' I'' hsb=>?_) hfn);obtain⟨a,sb,ha⟩:=hsb;have aC:C≠a:=by
  rcases ha with z | z
  ·rw[z];exact f1
  ·exact fun e=>f4 x a z e.symm
 refine⟨m,hn.sameBut sb aC,fun h' sb'=>⟨_,H',?_,q⟩⟩;exact I''.turned (t':=s''.toks) (fun b o hb e=>(sb'.2 b hb).trans e) f0 f1 f3 f4 f5
end
def Ka(g:DG)(de:DE):List D->jg->List KD->Option (List KD)
 | [],_,ks=>some ks
 | d::ds,Z,ks=>(g d Z).bind fun Z1=>(de Z1).bind fun k=>(J8 k).bind fun x=>if ks.length < 8192/\Z1.all YK=true/\x∉ks then Ka g de ds Z1 (ks++[x])else none
def Qi(k:Nat)(caps:List Nat)(di:DI)(g:DG)(de:DE):DO:=fun Z=>(di Z).bind fun items=>if (JZ k caps Z).all YK=true then(Ka g de items (JZ k caps Z) []).bind fun ks=>some (.sz ks.length)else none
structure ScI (K:Fr) (H0:Hp) (O0 O:List Addr) (A:Addr) (Z:jg) (U:L2.St) (H:Hp) (ks:List KD):Prop where
 R:Rel K H0 O0 Z U H (A::O)
 o:∃kas,H A=some (.ext (yj A kas))/\kas.map (·.1)=ks/\∀p∈kas,∃d,j8 K (jd H (A::O)) d (.ref p.2)/\J8 d=some p.1
 n:Z.all YK=true
section
variable {K:Fr} {X:Cx} {own:List Str} {caps:Tj} {di:DI} {g:DG} {de:DE}
set_option tactic.hygienic true in
theorem EC(hnd:(caps.map (·.2)).Nodup):∀U H Q,tF K (Qi own.length (caps.map (·.2)) di g de) U H Q->Ik own caps (zF K di) (tG K own.length g) (fun A=>EB K A (tE K de)) U H Q:=fun U H Q xx=>by
 obtain⟨H0,O0,Z,O,o,R,ed,q⟩:=xx;obtain⟨items,e1,ed⟩:=j6 ed;split at ed
 case isFalse=>cases ed
 rename_i nw;obtain⟨ks,e2,ed⟩:=j6 ed;cases ed;refine⟨H0,O0,Z,O,items,R,e1,fun J H1 s1 hJ A hA=>?_⟩;have R1:=R.grow s1;have Rc:=GV own caps R1 hnd;have h0:H0 A=none:=R1.keep.none hA;have I0:ScI K H0 O0 O A (JZ own.length (caps.map (·.2)) Z) (YQ own caps U) (upd H1 A (.ext (yj A []))) []:=
  ⟨Rc.lay (F:=[A]) (jB hA _) (fun a h=>by rw[List.mem_singleton.mp h];exact hA) (fun a h=>by rw[List.mem_singleton.mp h,jS];exact fun z=>nomatch z),⟨[],jS,rfl,fun _ h=>by cases h⟩,nw⟩
 refine⟨fun i m U' H'=>∃Z' ks',ScI K H0 O0 O A Z' U' H' ks'/\Ka g de (items.drop i) Z' ks'=some ks/\j7 (jd H1 O) (jd H' (A::O))/\j7 H1 H'/\m=items.length - i/\i<=items.length,
  ⟨items.length,_,[],I0,by simpa using e2,yt (jB hA _) hA,jB hA _,rfl,Nat.zero_le _⟩,?_⟩
 rintro i m U5 H5 ⟨Z5,ks5,I5,d5,sd5,sH5,rfl,hj⟩;obtain⟨hgo,hstop⟩:=hJ i H5 (A::O) I5.R.keep I5.R.in0 sd5 I5.R.al;by_cases hlt:i < items.length
 ·right;have hx:items[i]?=some items[i]:=by simp[hlt]
  have hd:items.drop i=items[i]::items.drop (i+1):=(List.getElem_cons_drop hlt).symm;rw[hd,Ka]at d5;obtain⟨u1,u2⟩:=hgo _ hx;obtain⟨Z6,w1,d5⟩:=j6 d5;obtain⟨k,w2,d5⟩:=j6 d5;obtain⟨kk,w4,d5⟩:=j6 d5;split at d5
  case isFalse=>cases d5
  rename_i hz;refine⟨u1,fun U7 H7=>∃Z' ks',ScI K H0 O0 O A Z' U7 H7 ks'/\Ka g de (items.drop (i+1)) Z' ks'=some ks/\j7 (jd H1 O) (jd H7 (A::O))/\j7 H1 H7,?_,fun x6 H6 y6=>?_⟩
  ·rintro U7 H7 ⟨Z7,k7,a1,a2,a3,a4⟩;exact⟨items.length - (i+1),by lia,Z7,k7,a1,a2,a3,a4,rfl,hlt⟩
  obtain⟨sy6,rx6⟩:=u2 x6 H6 y6;refine⟨H0,O0,Z5,A::O,_,Z6,I5.R.grow sy6,rx6,w1,fun U7 R7 _=>⟨H0,O0,Z6,A::O,k,R7,w2,fun kv H8 s8 rk=>?_⟩⟩;have s58:=sy6.trans s8;obtain⟨kas,o1,o2,o3⟩:=I5.o;obtain⟨b,rfl,rb⟩:=vS (O:=A::O) (.inl rk) w4;have o4:∀p∈kas,∃d,j8 K (jd H8 (A::O)) d (.ref p.2)/\J8 d=some p.1:=fun p hp=>by
   obtain⟨d,r,e⟩:=o3 p hp;exact⟨d,r.same (ji s58),e⟩
  have hlen:kas.length=ks5.length:=by rw[<-o2,vYa]
  refine⟨b,kas,k,kk,rfl,s58 _ _ o1,rb,w4,fun p hp=>?_,by rw[hlen];exact hz.1,by rw[o2];exact hz.2.2,?_⟩
  ·obtain⟨d,r,e⟩:=o4 p hp;exact⟨d,r.same Jx,e⟩
  ·refine⟨Z6,ks5++[kk],⟨(R7.grow s8).poke (BA hz.2.1) wNa h0 (fun⟨_,_,_,y,_⟩=>Bz hz.2.1 y),⟨kas++[(kk,b)],jS,by rw[uDa,o2];rfl,fun p hp=>?_⟩,hz.2.1⟩,d5,?_,(sH5.trans s58).upd hA _⟩
   ·rw[JC List.mem_cons_self];rcases uWa hp with hp | hp
    ·exact o4 p hp
    ·rw[List.mem_singleton.mp hp];exact⟨k,rk,w4⟩
   ·rw[JC List.mem_cons_self];exact sd5.trans (ji s58)
 ·left;have ei:i=items.length:=by lia
  refine⟨hstop ei,?_⟩;have e0:items.drop i=[]:=List.drop_of_length_le (by lia);rw[e0,Ka]at d5;cases d5;obtain⟨kas,o1,o2,_⟩:=I5.o;exact q A H5 (s1.trans sH5) (s1.none hA) ⟨kas,o1,by rw[<-o2,vYa]⟩
noncomputable def Gf:List D->Option D
 | [.sz n]=>if n < 2 ^ 24 then some (.int n)else none
 | _=>none
end
end DS
namespace PySem
open Sem (wp)
namespace F
def lk_list_keys:typeLookup (.type "list") "keys" = pure none:=by rw[typeLookup_type,builtinLookup_eq_fast];kernel_rfl
def sub_ae:isSubtype (.type "AttributeError") (.type "AttributeError")=pure true:=by rw[isSubtype_type];kernel_rfl
def lk_list_ga:typeLookup (.type "list") "__getattr__" = pure none:=by rw[typeLookup_type,builtinLookup_eq_fast];kernel_rfl
end F
def ae_noted(hh:A.handled=none)(g:s.heap.get? e=some { cls:=.type "AttributeError",data:=.fields #[t,.none,.none,.none,.bool false,.none,unsetMember,unsetMember] })
  (h:∀h' ob,(∀b o,b≠e->s.heap.get? b=some o->h'.get? b=some o)->h'.get? e=some ob->ob.cls=.type "AttributeError" ->E (.ref e) { s with heap:=h',toks:=s.toks+1 }):
  wpAny (model prog w) A (do noteAttr (.ref e) o (<-mkText name);raiseNew (.ref e):Sem α) Q E s:=by
 refine wAa (wpAny_mkText (wAa ?_));have ty:({ s with toks:=s.toks+1 }:Shared).TypeIs (.ref e) "AttributeError" := ⟨_,g,rfl⟩
 unfold noteAttr lacksNameAndObj;refine wAa (wAa (wpAny_isInstance ty F.sub_ae ?_));rw[if_neg (by decide)];refine wAa (wpAny_load g ?_);dsimp only;refine(show wpAny _ _ (pure true) _ _ _ from wBa ?_);rw[if_pos rfl];refine wAa (vQa (wAa (wpAny_typeOf ty ?_)));dsimp only;unfold layMembers;refine wAa (wpAny_load g ?_);dsimp only;refine wpAny_update g (wpAny_raiseNew_none hh (h _ _ (fun b o hb q=>?_) (vUa _ g rfl) rfl));rw[Heap.get?_update_other _ _ (Ne.symm hb)];exact q
def ae_raise(hl:msg.length<=sizeLine)(hh:A.handled=none)
  (h:∀h' tk e ob,(∀b o,s.heap.get? b=some o->h'.get? b=some o)->h'.get? e=some ob->ob.cls=.type "AttributeError" ->E (.ref e) { s with heap:=h',toks:=tk }):
  wpAny (model prog w) A (raiseAttrError o name msg:Sem α) Q E s:=by
 unfold raiseAttrError newExc newTuple;refine wAa (wpAny_mkStr (wAa (wAa (vTa ?_ (by show(1:Nat)<=sizeLine;decide)))) hl);refine wAa (m:=firstArgMember _ _) (wEa (a:=Value.none) (by kernel_rfl) ?_);refine vTa ?_;have k1:∀b o,s.heap.get? b=some o->b < s.heap.objs.size:=fun b o q=>wLa q;refine ae_noted hh (wJa _ rfl) fun h' ob k g c=>h h' _ _ ob (fun b o q=>k b o ?_ (wIa _ (wIa _ q))) g c;intro z;have z2:=k1 b o q;rw[z,uPa]at z2;exact vDa z2 (Nat.not_lt.mpr (vMa _))
def no_keys(hx:s.heap.get? a=some { cls:=.type "list",data:=.seq its n })(hh:A.handled=none)
  (hq:∀h' tk e ob,(∀b o,s.heap.get? b=some o->h'.get? b=some o)->h'.get? e=some ob->ob.cls=.type "AttributeError" ->E (.ref e) { s with heap:=h',toks:=tk }):
  wpAny (model prog w) A (Builtin.«object.__getattribute__» ⟨[.ref a,.str "keys" tk],[]⟩) Q E s:=by
 obtain⟨h,g,d,t,os⟩:=s;have hT:(⟨h,g,d,t,os⟩:Shared).TypeIs (.ref a) "list" := ⟨_,hx,rfl⟩
 have f4:=F.lk_list_keys
 repeat (any_goals (first | assumption | wp_step))
 exact ae_raise (by decide +kernel) hh hq
def keys_call(hx:s.heap.get? a=some { cls:=.type "list",data:=.seq its n })(hh:A.handled=none)
  (hq:∀h' tk e ob,(∀b o,s.heap.get? b=some o->h'.get? b=some o)->h'.get? e=some ob->ob.cls=.type "AttributeError" ->R (.error (.ref e)) { s with heap:=h',toks:=tk }):
  codeAny (model prog w) A (.call (.builtin "list.__getattribute__") ⟨[.ref a,.str "keys" tk],[]⟩) R s:=
 codeAny_call_builtin F.slot_list_getattribute.plain F.entry_list_ga (F.slot_list_getattribute.check _ _ _ _ _ _ _ _ (show s.TypeIs (.ref a) "list" from⟨_,hx,rfl⟩) (F.args_list_getattribute_2 _ _) (no_keys hx hh hq))
def keys_none(hx:s.heap.get? a=some { cls:=.type "list",data:=.seq its n })(hh:A.handled=none)
  (hq:∀h' tk,(∀b o,s.heap.get? b=some o->h'.get? b=some o)->Q none { s with heap:=h',toks:=tk }):
  wpAny (model prog w) A (getAttr? (.ref a) "keys") Q E s:=by
 have hT:s.TypeIs (.ref a) "list" := ⟨_,hx,rfl⟩
 unfold getAttr? getAttrBy? getAttrBy;refine wAa (wpAny_mkText (wAa (wpAny_attempt (wDa ?_))));refine wAa (wpAny_typeOf hT ?_);have f2:=F.slot_list_getattribute.lookup;have f3:=F.slot_list_getattribute.bind (.ref a)
 repeat (any_goals (first | assumption | wp_step))
 refine keys_call (s:={ s with toks:=s.toks+1 }) hx hh fun h' tk e ob k g c=>?_;have ty:({ s with heap:=h',toks:=tk }:Shared).TypeIs (.ref e) "AttributeError" := ⟨_,g,c⟩
 dsimp only;unfold getattributeRaised;refine wAa (wpAny_isInstance ty F.sub_ae ?_);rw[if_pos rfl]
 repeat (any_goals (first | assumption | wp_step))
 refine wEa F.lk_list_ga ?_;unfold hookOrError attributeErrorLeaves
 repeat (any_goals (first | assumption | wp_step))
 refine wEa F.sub_ae ?_;exact wBa (hq _ _ k)
end PySem
namespace L2
open PySem PySem.Spec PyProof.Rows
def Zx:plainId "dict.update.loop" = true:=by decide +kernel
def GG:entryFor table "dict.update.loop" = some Builtin.«dict.update.loop»:=entryFor_of_tree (by kernel_rfl)
noncomputable def W8(xs ps:List (KD×Addr×Value)):List (KD×Addr×Value):=ps.foldl (fun xs p=>storedH xs p.1 p.2.1 p.2.2) xs
def q_(xs:List (KD×Addr×Value))(k:KD)(a:Addr)(v:Value):(storedH xs k a v).length<=xs.length+1:=by
 unfold storedH;split <;> simp
def ud(prog:Program)(w:World)(h:Heap)(v:Value)(p:KD×Addr×Value):Prop:=∃q ob n,v=.ref q/\h.get? q=some ob/\ob.cls=.type "tuple" /\ob.data=.seq #[.ref p.2.1,p.2.2] n/\(J9 prog w).is h p.1 p.2.1
def ud.keep(hd:∀o,h.get? d=some o->(∀xs n,o.data≠.seq xs n))(hi:∀o,h.get? it=some o->(∀xs n,o.data≠.seq xs n))(k:∀b o,b≠d->b≠it->h.get? b=some o->h'.get? b=some o)(x:ud prog w h v p):ud prog w h' v p:=by
 have ne:∀b o xs n,h.get? b=some o->o.data=.seq xs n->h'.get? b=some o:=fun b o xs n e q=>k b o (fun z=>hd o (z▸e) xs n q) (fun z=>hi o (z▸e) xs n q) e;obtain⟨q,ob,n,e,g,c,dt,kk⟩:=x;refine⟨q,ob,n,e,ne _ _ _ _ g dt,c,dt,kk.1.keep fun b its t=>?_,kk.2⟩;obtain⟨o2,g2,c2,m2,d2⟩:=t;exact⟨o2,ne _ _ _ _ g2 d2,c2,m2,d2⟩
def wI{h h':Heap}(hi:∀o,h.get? it=some o->∀ys n,o.data≠.seq ys n)(nd:d≠it)(k:∀b o,b≠it->h.get? b=some o->h'.get? b=some o)(dd:h.DictOfH (J9 prog w) d xs):h'.DictOfH (J9 prog w) d xs:=by
 obtain⟨o,es,ep,g,ex,dt,ee,ks,nd'⟩:=dd;refine⟨o,es,ep,k _ _ nd g,ex,dt,ee,fun x hx=>⟨(ks x hx).1.keep fun b its t=>?_,(ks x hx).2⟩,nd'⟩;obtain⟨o2,g2,c2,m2,d2⟩:=t;exact⟨o2,k _ _ (fun z=>hi o2 (z▸g2) _ _ d2) g2,c2,m2,d2⟩
theorem BC{items:Array Value}(hh:A.handled=none)(hr:A.units+16 < cLine)(ndi:d≠it)(hsz:items.size<=sizeLine):∀(ps:List (KD×Addr×Value)) (i:Nat) (s:Shared) (xs:List (KD×Addr×Value)),items.size=i+ps.length->xs.length<=i->
  s.heap.IsListIter it l i->s.heap.IsList l items->s.heap.DictOfH (J9 prog w) d xs->(∀j p,ps[j]?=some p->∃v,items[i+j]?=some v/\ud prog w s.heap v p)->
  (∀h' tk,(∀b o,b≠d->b≠it->s.heap.get? b=some o->h'.get? b=some o)->h'.DictOfH (J9 prog w) d (W8 xs ps)->R (.ok (.ret .none)) { s with heap:=h',toks:=tk })->
  codeAny (model prog w) A (.builtin "dict.update.loop" ⟨[.ref d,.ref it,rawInt i,.none],[]⟩) R s
 | [],i,s,xs,hn,hx,hit,hl,dd,hp,hR=>by
  refine vSa GG ?_;rw[Around.under_plainId Zx _];show wpAny _ A.in1 (pyNext (.ref it) >>= _) _ _ s;refine wAa (wpAny_pyNext_list_end (A:=A.in1) hh hit hl (by simp at hn;simp[hn]) fun h' eb=>?_);have hni:∀o,s.heap.get? it=some o->∀ys n,o.data≠.seq ys n:=by
   obtain⟨o,g,_,dt⟩:=hit;intro o' e ys n z;rw[g]at e;cases e;rw[dt]at z;cases z
  show wpAny _ A.in1 (Builtin.Dict.addKeywords d [] >>= fun _=>ret .none) _ _ _;refine wAa (wBa (wBa ?_));have kp:∀b o,b≠d->b≠it->s.heap.get? b=some o->h'.get? b=some o:=fun b o _ hb e=>eb b o hb e;refine hR h' s.toks kp (wI hni ndi (fun b o hb e=>eb b o hb e) dd)
 | p::ps,i,s,xs,hn,hx,hit,hl,dd,hp,hR=>by
  obtain⟨v,hv,q,ob,m,rfl,g,c,dt,kk⟩:=hp 0 p rfl;have hni:∀o,s.heap.get? it=some o->∀ys n,o.data≠.seq ys n:=by
   obtain⟨o,g,_,dt⟩:=hit;intro o' e ys n z;rw[g]at e;cases e;rw[dt]at z;cases z
  refine vSa GG ?_;rw[Around.under_plainId Zx _];show wpAny _ A.in1 (pyNext (.ref it) >>= _) _ _ s;refine wAa (wpAny_pyNext_list_item (A:=A.in1) hit hl hv fun h1 hit1 sb1=>?_);have k1:∀b o,b≠it->s.heap.get? b=some o->h1.get? b=some o:=fun b o hb e=>(sb1.2 b hb).trans e;have dd1:=wI (prog:=prog) (w:=w) hni ndi k1 dd;have nqi:q≠it:=fun z=>hni ob (z▸g) _ _ dt;have g1:=k1 _ _ nqi g;have ty:({ s with heap:=h1 }:Shared).TypeIs (.ref q) "tuple" := ⟨ob,g1,c⟩
  have kk1:(J9 prog w).is h1 p.1 p.2.1:=⟨kk.1.keep fun b its t=>by
   obtain⟨o2,g2,c2,m2,d2⟩:=t;exact⟨o2,k1 _ _ (fun z=>hni o2 (z▸g2) _ _ d2) g2,c2,m2,d2⟩,kk.2⟩
  dsimp only;refine wAa (wDa (wAa (vPa ?_)));unfold Builtin.Dict.pairItems;refine wAa (wpAny_typeOf ty ?_);rw[if_pos (by decide)];refine wAa (wpAny_seqItems g1 dt (wBa ?_));show wpAny _ _ (holding [Value.ref p.2.1,p.2.2] (dictSet d (.ref p.2.1) p.2.2)) _ _ _;refine wDa (wpAny_dictSet_heap (knd:=J9 prog w) (s:={ s with heap:=h1 }) (by show A.in1.units+8 < cLine;rw[Around.in1_units];lia) kk1 dd1 (fun h2 dd2 sb2=>?_) (by lia));have e1:rawInt ((i:Int)+1)=rawInt ((i+1:Nat):Int):=rfl;rw[e1];have hdn:∀o,h1.get? d=some o->∀ys n,o.data≠.seq ys n:=by
   obtain⟨o,es,ep,gd,ex,dt,_⟩:=dd1;intro o' e ys n z;rw[gd]at e;cases e;rw[dt]at z;cases z
  have hni1:∀o,h1.get? it=some o->∀ys n,o.data≠.seq ys n:=by
   obtain⟨o,g,_,dt⟩:=hit1;intro o' e ys n z;rw[g]at e;cases e;rw[dt]at z;cases z
  have k2:∀b o,b≠d->h1.get? b=some o->h2.get? b=some o:=fun b o hb e=>(sb2.2 b hb).trans e;have k12:∀b o,b≠d->b≠it->s.heap.get? b=some o->h2.get? b=some o:=fun b o hb hb2 e=>k2 b o hb (k1 b o hb2 e);have hl2:h2.IsList l items:=by
   obtain⟨o,gl,cl,nl,dl⟩:=hl;exact⟨o,k12 _ _ (fun z=>hdn o (z▸k1 _ _ (fun y=>hni o (y▸gl) _ _ dl) gl) _ _ dl) (fun y=>hni o (y▸gl) _ _ dl) gl,cl,nl,dl⟩
  refine wBa ⟨vRa Zx _,BC hh hr ndi hsz ps (i+1) _ _ (by simp at hn;lia) (by have:=q_ xs p.1 p.2.1 p.2.2;lia) ?_ hl2 dd2 (fun j p' hj=>?_) fun h' tk k3 d3=>?_⟩
  ·obtain⟨o,g,r⟩:=hit1;exact⟨o,k2 _ _ (Ne.symm ndi) g,r⟩
  ·obtain⟨v,hv,pa⟩:=hp (j+1) p' (by simpa using hj);refine⟨v,by rw[<-hv];congr 1;lia,?_⟩;exact(pa.keep (d:=it) (it:=it) hni hni fun b o hb _ e=>k1 b o hb e).keep (d:=d) (it:=d) hdn hdn fun b o hb _ e=>k2 b o hb e
  ·exact hR h' tk (fun b o hb hb2 e=>k3 b o hb hb2 (k12 b o hb hb2 e)) d3
def Cs(hx:s.heap.get? l=some { cls:=.type "list",data:=.seq its n })(hh:A.handled=none)(hr:A.units+32 < cLine)(hsz:its.size<=sizeLine)(hlen:its.size=ps.length)
  (hp:∀(j:Nat) p,ps[j]?=some p->∃v,its[j]?=some v/\ud prog w s.heap v p)
  (h:∀h' tk,(∀b o,s.heap.get? b=some o->h'.get? b=some o)->h'.DictOfH (J9 prog w) s.heap.objs.size (W8 [] ps)->Q (.ref s.heap.objs.size) { s with heap:=h',toks:=tk }):
  wpAny (model prog w) A (call (.type "dict") [.ref l]) Q E s:=by
 refine callType_codes (Q₁:=fun obj s₁=>obj=.ref s.heap.objs.size/\s₁={ s with heap:=s.heap.push { cls:=.type "dict",data:=.dict #[] } }) F.kt_called_dict (F.kt_typeCall_dict_1 _) F.entry_dict_init (kt_code_dict_new _ ⟨rfl,rfl⟩) ?_;rintro obj s₁ ⟨rfl,rfl⟩;have hnew:(s.heap.push { cls:=.type "dict",data:=.dict #[] }).DictOfH (J9 prog w) s.heap.objs.size []:=Heap.DictOfH.new s.heap;have k0:∀b o,s.heap.get? b=some o->(s.heap.push { cls:=.type "dict",data:=.dict #[] }).get? b=some o:=fun b o e=>wIa _ e;have tyD:({ s with heap:=s.heap.push { cls:=.type "dict",data:=.dict #[] } }:Shared).TypeIs (.ref s.heap.objs.size) "dict" := hnew.typeIs;refine⟨tyD,F.args_dict_init_2 _ _,?_⟩;unfold Builtin.«dict.__init__» Builtin.Dict.selfAndRest;refine wAa (wAa (wpAny_notOrdered_dict tyD ?_));show wpAny _ _ (pure (s.heap.objs.size,[Value.ref l])) _ _ _;refine wBa ?_;show wpAny _ _ (Builtin.Dict.updateFrom "dict.__init__" s.heap.objs.size (.ref l) [] .none) _ _ _;unfold Builtin.Dict.updateFrom;refine wAa (wpAny_typeOf (T := "list") ⟨_,k0 _ _ hx,rfl⟩ ?_);rw[if_pos (by decide)];refine wAa (keys_none (s:={ s with heap:=s.heap.push { cls:=.type "dict",data:=.dict #[] } }) (k0 _ _ hx) hh fun h1 tk1 k1=>?_);rw[if_pos (by decide)];refine wAa (vQa (wAa (wpAny_pyIter_list (l:=l) (items:=its) ⟨_,k1 _ _ (k0 _ _ hx),rfl,n,rfl⟩ ?_)));have gd:h1.get? s.heap.objs.size=some { cls:=.type "dict",data:=.dict #[] }:=k1 _ _ (wJa _ rfl);have lt:=wLa gd;have k2:∀b o,s.heap.get? b=some o->(h1.push { cls:=.type "list_iterator",data:=.fields #[.ref l,.int 0 0] }).get? b=some o:=fun b o e=>wIa _ (k1 _ _ (k0 _ _ e));refine wBa ⟨vRa Zx _,BC (A:=A.in1) hh (by rw[Around.in1_units];lia) (wTa lt) hsz ps 0 _ [] (by lia) (Nat.zero_le _) ⟨_,wJa _ rfl,rfl,rfl⟩ ⟨_,k2 _ _ hx,rfl,n,rfl⟩
  ⟨_,#[],0,wIa _ gd,⟨rfl,rfl,rfl⟩,rfl,rfl,(fun _ h=>by cases h),List.nodup_nil⟩ (fun j p hj=>?_) fun h' tk k3 d3=>⟨rfl,h h' tk (fun b o e=>?_) d3⟩⟩
 ·obtain⟨v,hv,q,ob,m,e,g,c,dt,kk⟩:=hp j p hj;refine⟨v,by rw[Nat.zero_add];exact hv,q,ob,m,e,k2 _ _ g,c,dt,kk.1.keep fun b its t=>?_,kk.2⟩;obtain⟨o2,g2,c2,m2,d2⟩:=t;exact⟨o2,k2 _ _ g2,c2,m2,d2⟩
 ·have:=wLa e;exact k3 b o (wTa this) (wTa (Nat.lt_trans this lt)) (k2 _ _ e)
end L2
namespace DS
open PySem PySem.Spec PyProof.Rows L2
def Zy(kvs ps:List (KD×Addr×V)):List (KD×Addr×V):=ps.foldl (fun kvs p=>Yc kvs p.1 p.2.1 p.2.2) kvs
theorem yi.puts:∀{ps:List (KD×Addr×V)} {us:List (KD×Addr×Value)} {kvs:List (KD×Addr×V)} {xs:List (KD×Addr×Value)},yi ps us->yi kvs xs->yi (Zy kvs ps) (W8 xs us)
 | _,_,_,_,.nil,h=>h
 | p::ps,u::us,kvs,xs,.cons r t,h=>by
  obtain⟨r1,r2,r3⟩:=r;show yi (Zy (Yc kvs p.1 p.2.1 p.2.2) ps) (W8 (storedH xs u.1 u.2.1 u.2.2) us);rw[<-r1,<-r2];exact yi.puts t (h.put r3)
theorem wJ:∀(ps kvs:List (KD×Addr×V)),(Zy kvs ps).length<=kvs.length+ps.length
 | [],kvs=>wPa _
 | p::ps,kvs=>by
  have h1:=wJ ps (Yc kvs p.1 p.2.1 p.2.2);have h2:=GZ kvs p.1 p.2.1 p.2.2;show(Zy (Yc kvs p.1 p.2.1 p.2.2) ps).length<=_;rw[vXa]
  lia
section
variable {X:Cx}
def vU(K:Fr)(H:Hp):List V->List (KD×Addr×V)->Prop
 | [],[]=>True
 | y::ys,p::ps=>(∃q dk,y=.ref q/\Jr K H q [.ref p.2.1,p.2.2]/\j8 K H dk (.ref p.2.1)/\J8 dk=some p.1)/\vU K H ys ps
 | _,_=>False
set_option tactic.hygienic true in
theorem vU.val(I:Inv X pins U H s):∀{ys:List V} {ps:List (KD×Addr×V)} {its:List Value},vU X.K H ys ps->jq ys its->∃us,yi ps us/\its.length=us.length/\∀(j:Nat) u,us[j]?=some u->∃v,its[j]?=some v/\ud X.prog X.w s.heap v u
 | [],[],_,_,.nil=>⟨[],.nil,rfl,fun j u h=>by simp at h⟩
 | y::ys,p::ps,_,h,.cons r t=>by
  obtain⟨⟨q,dk,rfl,sq,rk,ek⟩,h2⟩:=h;obtain⟨us,u1,u2,u3⟩:=vU.val I h2 t;cases r;obtain⟨its,rv,⟨ob,g,c,n,d⟩,_⟩:=I.tuple sq;have ku:=YZ I rk ek;cases rv with
  | cons r1 rv=>
  cases rv with
  | cons r2 rv=>
  cases rv;cases r1;rename_i u;refine⟨(p.1,p.2.1,u)::us,.cons ⟨rfl,rfl,r2⟩ u1,by simp[u2],fun j w hj=>?_⟩;cases j with
  | zero=>cases hj;exact⟨_,rfl,q,ob,n,rfl,g,c,d,ku⟩
  | succ j=>exact u3 j w hj
def xE(hc:X.calm=true)(hr:Room n X.A):Yi X (.type "dict") (fun xs H Q=>∃a ys ps,xs=[.ref a]/\H a=some (.lst ys)/\vU X.K H ys ps/\∀d ep,H d=none->Q (.ref d) (upd H d (.dD (Zy [] ps) ep))):=by
 intro pins s U H xs us Q I r h;obtain⟨a,ys,ps,rfl,e,pa,q⟩:=h;cases r with
 | cons r1 r2=>
 cases r2;cases r1;obtain⟨z,its,m,rv,g⟩:=I.hok a _ e;obtain⟨us,u1,u2,u3⟩:=pa.val I rv;have hl:=rv.length;refine Cs (ps:=us) g (I.ok.hd hc) (by have:=hr.un;lia) (by simp;lia) (by simpa using u2) (fun j p hj=>by obtain⟨v,e1,e2⟩:=u3 j p hj;exact⟨v,by simpa using e1,e2⟩) fun h' tk k dd=>?_;obtain⟨o,es,ep,g',ex,dt,ee,_,nd⟩:=dd;have pr:=yi.puts u1 (kvs:=[]) (xs:=[]) .nil;have pl:=wJ ps [];have e3:=Paired.length u1;refine⟨.ref s.heap.objs.size,_,I.laid (a:=s.heap.objs.size) (o:=.dD (Zy [] ps) ep) (t':=tk) k (wPa _) ⟨?_,beq_eq_false_iff_ne.mpr (Ne.symm (wTa (Inv.big I))),?_,_,pr,o,es,g',ex,dt,ee⟩,rfl,q _ ep (I.hok.fresh (wPa _))⟩
 ·simp at pl;lia
 ·rw[<-pr.fst];exact nd
end
noncomputable def Il:D->Option (D×D)
 | .tup [k,v]=>some (k,v)
 | _=>none
def Y_:List D->List D->List D->Option (List D×List D)
 | [],ks,vs=>some (ks,vs)
 | d::r,ks,vs=>(Il d).bind fun p=>(J8 p.1).bind fun x=>(jI ks).bind fun qs=>Y_ r (zg qs ks x p.1) (zM qs vs x p.2)
def vV:List D->Option OD
 | [.lst l]=>(Y_ l [] []).bind fun p=>some (.dct p.1 p.2)
 | _=>none
section
variable {K:Fr} {H:Hp}
theorem WQ:∀{l:List D} {ks vs ks' vs':List D} {ys:List V} {kvs:List (KD×Addr×V)},Y_ l ks vs=some (ks',vs')->j4 K H l ys->jI ks=some (kvs.map (·.1))->j4 K H ks (kvs.map fun p=>V.ref p.2.1)->j4 K H vs (kvs.map (·.2.2))->
  ∃ps,vU K H ys ps/\jI ks'=some ((Zy kvs ps).map (·.1))/\j4 K H ks' ((Zy kvs ps).map fun p=>V.ref p.2.1)/\j4 K H vs' ((Zy kvs ps).map (·.2.2))
 | [],ks,vs,ks',vs',ys,kvs,e,r,h1,h2,h3=>by
  rw[j4]at r;subst r;rw[Y_]at e;cases e;exact⟨[],trivial,h1,h2,h3⟩
 | d::l,ks,vs,ks',vs',ys,kvs,e,r,h1,h2,h3=>by
  rw[j4]at r;obtain⟨y,ys',rfl,rd,rl⟩:=r;rw[Y_]at e;obtain⟨⟨k,v⟩,e0,e5⟩:=j6 e;clear e;unfold Il at e0;split at e0
  ·cases e0;obtain⟨x,e1,e6⟩:=j6 e5;obtain⟨qs,e2,e⟩:=j6 e6;rw[h1]at e2;cases e2;rw[j8]at rd;obtain⟨q,zs,rfl,sq,rz⟩:=rd;rw[j4]at rz;obtain⟨a,zs,rfl,ra,rz⟩:=rz;rw[j4]at rz;obtain⟨c,zs,rfl,rc,rz⟩:=rz;rw[j4]at rz;subst rz;obtain⟨b,rfl,rb⟩:=vS (O:=[]) (.inl (by rw[show jd H []=H from by funext b;rfl];exact ra)) e1;obtain⟨p1,p2,p3⟩:=KN (b:=b) (qs:=[]) e1 h1 h2 h3 rb rc;obtain⟨ps,q1,q2,q3,q4⟩:=WQ e rl p1 p2 p3;exact⟨(x,b,c)::ps,⟨⟨q,k,rfl,sq,rb,e1⟩,q1⟩,q2,q3,q4⟩
  ·cases e0
theorem vU.same{H':Hp}(s:j7 H H'):∀{ys:List V} {ps:List (KD×Addr×V)},vU K H ys ps->vU K H' ys ps
 | [],[],_=>trivial
 | _::_,_::_,⟨⟨q,dk,e,sq,r,ek⟩,t⟩=>⟨⟨q,dk,e,s.tup sq,r.same s,ek⟩,vU.same s t⟩
def Ct:Bm K (fun xs H Q=>∃a ys ps,xs=[.ref a]/\H a=some (.lst ys)/\vU K H ys ps/\∀d ep,H d=none->Q (.ref d) (upd H d (.dD (Zy [] ps) ep))) vV:=by
 intro O H ks ds vs d Q h e q;unfold vV at e;split at e
 ·obtain⟨p,e1,e⟩:=j6 e;cases e;obtain⟨v,rfl,r⟩:=zJ h;obtain⟨a,ys,rfl,h1,h2⟩:=r.lst;obtain⟨ps,q1,q2,q3,q4⟩:=WQ (kvs:=[]) e1 h2 (by rw[jI];rfl) j4.nil j4.nil;refine⟨a,ys,ps,rfl,h1,q1.same Jx,fun d ep hd=>q _ _ (jB hd _) hd ⟨_,ep,jS,q2,q3.same (yt (jB hd _) hd),q4.same (yt (jB hd _) hd)⟩⟩
 ·cases e
noncomputable def Kb:List D->Option D
 | [.dct ks _]=>some (.int ks.length)
 | _=>none
@[simp] theorem Li(ks vs:List D):Kb [.dct ks vs]=some (.int ks.length):=rfl
def ED:Fn K (fun xs H Q=>∃a kvs ep,xs=[.ref a]/\H a=some (.dD kvs ep)/\Q (.int kvs.length) H) Kb:=by
 intro O H ks ds vs d Q h hn e q;unfold Kb at e;split at e
 ·cases e;obtain⟨v,rfl,r⟩:=zJ h;obtain⟨p,kvs,ep,rfl,h1,_,h3,_⟩:=r.dct;refine⟨p,kvs,ep,rfl,h1,q _ H (j7.refl H) ?_⟩;have:=h3.len;rw[vYa]at this;rw[j8,this]
 ·cases e
def XT:Yi X (.builtin "len") (fun xs H Q=>∃a kas,xs=[.ref a]/\H a=some (.ext (yj a kas))/\kas.length < 2 ^ 24/\Q (.int kas.length) H):=by
 intro pins s U H xs us Q I r h;obtain⟨a,kas,rfl,e,hl,q⟩:=h;cases r with
 | cons r1 r2=>
 cases r2;cases r1;obtain⟨⟨o,es,ep,t,g,ex,dt,si,sz,_⟩,_⟩:=I.hok a _ e;exact call_len_set g ex dt (VW si) (by lia) ⟨.int kas.length,H,I.tok _,⟨_,by rw[sz]⟩,q⟩
def EE:Fn K (fun xs H Q=>∃a kas,xs=[.ref a]/\H a=some (.ext (yj a kas))/\kas.length < 2 ^ 24/\Q (.int kas.length) H) Gf:=by
 intro O H ks ds vs d Q h hn e q;unfold Gf at e;split at e
 ·split at e
  ·cases e;obtain⟨v,rfl,r⟩:=zJ h;obtain⟨p,kas,rfl,h1,h2⟩:=r.sz;refine⟨p,kas,rfl,h1,by lia,q _ H (j7.refl H) ?_⟩;rw[j8,h2]
  ·cases e
 ·cases e
end
section
variable {X:Cx} {K:Fr} {e:Expr} {da db dc:DE}
def BD(K:Fr):V->List V->Hp->VK->Prop:=fun x vs H Q=>∃a ks kvs ep b y dk k,x=.ref a/\vs=[.ref b,y]/\DAt K H a ks kvs ep/\j8 K H dk (.ref b)/\J8 dk=some k/\Q ((vk kvs k).getD y) H
def Cu(hr:Room n X.A):DH X "dict.get" (BD X.K):=by
 intro pins s U H x vs v us Q I rx rv h;obtain⟨a,ks,kvs,ep,b,y,dk,k,rfl,rfl,da,rk,ek,q⟩:=h;cases rx;cases rv with
 | cons r1 rr=>
 cases rr with
 | cons r2 rr=>
 cases rr;cases r1;obtain⟨_,hS,xs,pr,dd⟩:=da.dict I;refine wpAny_call_entry F.slot_dict_get dd.typeIs F.entry_dict_get ?_ (F.args_dict_get_3 _ _ _);show wpAny _ _ (dictGet a (.ref b) >>= _) _ _ s;refine wAa (wpAny_dictGet_heap (knd:=J9 X.prog X.w) (by have:=hr.un;show X.A.in1.units+8 < cLine;rw[Around.in1_units];lia) (YZ I rk ek) dd ?_);rcases pr.at (k:=k)with⟨v,p,e1,e2,rv⟩ | ⟨e1,e2⟩
 ·rw[e2];rw[e1]at q;exact wBa ⟨_,rfl,v,H,I.tok _,rv,q⟩
 ·rw[e2];rw[e1]at q;show wpAny _ _ (Builtin.Dict.missed a (.ref b) >>= _) _ _ _;exact wAa (wpAny_missed_other hS (wBa ⟨_,rfl,y,H,I.tok _,r2,q⟩))
def xF:D->D->D->Option D
 | .dct ks vs,k,y=>(J8 k).bind fun q=>(jI ks).bind fun qs=>some ((JT qs vs q).getD y)
 | _,_,_=>none
@[simp] def xG(da db dc:DE)(Z:jg):Option D:=(da Z).bind fun x=>(db Z).bind fun i=>(dc Z).bind fun d=>xF x i d
theorem wK:∀{kvs:List (KD×Addr×V)} {vs:List D},j4 K H vs (kvs.map (·.2.2))->JT (kvs.map (·.1)) vs k=none->vk kvs k=none
 | [],_,_,_=>rfl
 | p::kvs,[],r,e=>by rw[vWa,j4]at r;cases r
 | p::kvs,d::vs,r,e=>by
  rw[vWa,j4]at r;obtain⟨_,_,ee,r1,r2⟩:=r;cases ee;rw[vWa,JT]at e;unfold vk;rw[List.find?_cons];by_cases h:p.1=k
  ·rw[if_pos h]at e;cases e
  ·rw[if_neg h]at e;rw[decide_eq_false h];exact wK r2 e
def Cv{H:Hp}{k:KD}{y:D}{v0:V}(r0:j8 K H y v0){kvs:List (KD×Addr×V)}{vs:List D}(r:j4 K H vs (kvs.map (·.2.2))):j8 K H ((JT (kvs.map (·.1)) vs k).getD y) ((vk kvs k).getD v0):=by
 cases e:JT (kvs.map (·.1)) vs k with
 | some d=>obtain⟨v,e1,e2⟩:=KM r e;rw[e1];exact e2
 | none=>rw[wK r e];exact r0
def EF(h:PE X e (Xh K "dict" (BD K) (tR K da) (Vj (tE K db) (Vj (tE K dc) UH)))):PE X e (tE K (xG da db dc)):=jF h fun U H Q xx=>by
 obtain⟨H0,O0,Z,O,r,R,ed,q⟩:=xx;obtain⟨x,e1,ed⟩:=j6 ed;obtain⟨i,e2,ed⟩:=j6 ed;obtain⟨d,e3,ed⟩:=j6 ed;unfold xF at ed;split at ed
 ·obtain⟨kk,e4,ed⟩:=j6 ed;obtain⟨qs,e5,ed⟩:=j6 ed;cases ed;refine⟨H0,O0,Z,O,_,R,e1,fun v H1 s1 rx=>?_⟩;obtain⟨a,kvs,ep,rfl,h1,h2,h3,h4⟩:=rx.dct;rw[h2]at e5;cases e5;refine⟨.inr (.inr ⟨rfl,kvs,ep,h1⟩),H0,O0,Z,O,_,R.grow s1,e2,fun k H2 s2 rk=>⟨H0,O0,Z,O,_,R.grow (s1.trans s2),e3,fun y H3 s3 ry=>?_⟩⟩;have s23:=s2.trans s3;obtain⟨b,rfl,rb⟩:=vS (O:=O) (.inl (rk.same (ji s3))) e4;exact⟨a,_,kvs,ep,b,y,_,kk,rfl,rfl,⟨s23 _ _ h1,h2,(h3.same (ji s23)).same Jx⟩,rb,e4,q _ H3 (s1.trans s23) (Cv ry (h4.same (ji s23)))⟩
 ·cases ed
end
end DS
namespace L2
open PySem PySem.Spec PyProof.Rows
noncomputable def vW(x:Int)(l:List Int):Int:=l.foldl (fun a b=>if b < a then b else a) x
section
variable {prog:Program} {w:World} {A:Around} {R:Result->Shared->Prop} {J:Addr} {fp wr:List Addr} {n:Nat} {P:Nat->Value->Prop} {St:Nat->Heap->Prop} {kw:List (Str×Value)} {val:Nat->Int}
def Gg:(toString "min" ++ toString ".loop" : String) = "min.loop" := by decide
noncomputable def Vt(val:Nat->Int):Nat->Nat:=argBest fun i j=>decide (val i < val j)
theorem KP(W:Walks prog w A.in1 J fp wr n P St)(hv:∀i v,P i v->∃t,v=.int (val i) t)(S:Addr)(hS:S∉fp):∀(k j:Nat) (s:Shared) (vb:Value) (c:Nat),n - (j+1)=k->j+1<=n->St (j+1) s.heap->P (Vt val j) vb->s.heap.get? S=some (seqObj "list" #[vb,vb] c)->
  (∀v h' tk,P (Vt val (n - 1)) v->(∀b o,b∉wr->b≠S->s.heap.get? b=some o->h'.get? b=some o)->R (.ok (.ret v)) { s with heap:=h',toks:=tk })->codeAny (model prog w) A (.builtin "min.loop" ⟨[.ref J,.none,.ref S],kw⟩) R s
 | 0,j,s,vb,c,hk,hj,hst,hb,hs,hR=>by
  have hin:j+1=n:=by lia
  refine vSa PySem.F.entry_min_loop ?_;rw[Around.under_plainId PySem.F.plain_min_loop _];refine wAa (wpAny_seqItems hs rfl (wAa (vPa (W.done s _ _ (hin▸hst) fun h' tk hk'=>?_))));have hs':=hk' S _ (fun z=>hS (W.sub _ z)) hs;refine wAa ?_;refine wpAny_updateSeq hs' rfl (wAa (wFa (wBa (hR vb _ tk (by rw[<-hin];exact hb) fun b o hw hn e=>?_))));rw[Heap.get?_update_other _ _ hn.symm];exact hk' b o hw e
 | k+1,j,s,vb,c,hk,hj,hst,hb,hs,hR=>by
  have hlt:j+1 < n:=by lia
  refine vSa PySem.F.entry_min_loop ?_;rw[Around.under_plainId PySem.F.plain_min_loop _];refine wAa (wpAny_seqItems hs rfl (wAa (vPa (W.item (j+1) s _ _ hlt hst fun v h' tk hP hst' hk'=>?_))));have hs':=hk' S _ (fun z=>hS (W.sub _ z)) hs;refine wAa (wBa ?_);refine wAa (vPa (wDa (wAa (CmpOf.ints_lt val hv (j+1) (Vt val j) v vb _ _ _ hP hb (wAa (wDa (wpAny_truthy_bool (wAa (wFa (wBa ?_))))))))));have step:Vt val (j+1)=if decide (val (j+1) < val (Vt val j))then j+1 else Vt val j:=rfl
  cases hd:decide (val (j+1) < val (Vt val j))with
  | true=>
   rw[hd,if_pos rfl]at step;rw[if_pos hd];refine wAa ?_;refine wpAny_updateSeq hs' rfl (wAa (wFa ?_));rw[Gg];refine wBa ⟨vRa PySem.F.plain_min_loop _,KP W hv S hS k (j+1) _ v _ (by lia) hlt (W.frame _ _ _ hst' fun b hf o e=>?_) (by rw[step];exact hP) (vUa _ hs' rfl) fun v' h2 tk2 p2 k2=>hR v' h2 tk2 p2 fun b o hw hn e=>k2 b o hw hn ?_⟩
   ·rw[Heap.get?_update_other _ _ fun z:S=b=>hS (z▸hf)];exact e
   ·rw[Heap.get?_update_other _ _ hn.symm];exact hk' b o hw e
  | false=>
   rw[hd,if_neg (by decide)]at step;rw[if_neg (show¬decide (val (j+1) < val (Vt val j))=true by rw[hd];decide)];refine wAa (wFa ?_);rw[Gg];exact wBa ⟨vRa PySem.F.plain_min_loop _,KP W hv S hS k (j+1) _ vb c (by lia) hlt hst' (by rw[step];exact hb) hs' fun v' h2 tk2 p2 k2=>hR v' h2 tk2 p2 fun b o hw hn e=>k2 b o hw hn (hk' b o hw e)⟩
def AR(W:Walks prog w A.in1 J fp wr n P St)(hv:∀i v,P i v->∃t,v=.int (val i) t)(S:Addr)(hS:S∉fp)(hn:0 < n){s:Shared}(hst:St 0 s.heap)(hs:s.heap.get? S=some (seqObj "list" #[] c))
  (hR:∀v h' tk,P (Vt val (n - 1)) v->(∀b o,b∉wr->b≠S->s.heap.get? b=some o->h'.get? b=some o)->R (.ok (.ret v)) { s with heap:=h',toks:=tk }):codeAny (model prog w) A (.builtin "min.loop" ⟨[.ref J,.none,.ref S],kw⟩) R s:=by
 refine vSa PySem.F.entry_min_loop ?_;rw[Around.under_plainId PySem.F.plain_min_loop _];refine wAa (wpAny_seqItems hs rfl (wAa (vPa (W.item 0 s _ _ hn hst fun v h' tk hP hst' hk'=>?_))));have hs':=hk' S _ (fun z=>hS (W.sub _ z)) hs;refine wAa (wBa ?_);refine wAa ?_;refine wpAny_updateSeq hs' rfl ?_;rw[Gg];refine wBa ⟨vRa PySem.F.plain_min_loop _,KP W hv S hS _ 0 _ v _ rfl hn (W.frame _ _ _ hst' fun b hf o e=>?_) hP (vUa _ hs' rfl) fun v' h2 tk2 p2 k2=>hR v' h2 tk2 p2 fun b o hw hn e=>k2 b o hw hn ?_⟩
 ·rw[Heap.get?_update_other _ _ fun z:S=b=>hS (z▸hf)];exact e
 ·rw[Heap.get?_update_other _ _ hn.symm];exact hk' b o hw e
def Cw(W:Walks prog w A.in1 J fp wr 0 P St)(S:Addr)(hS:S∉fp){s:Shared}(hst:St 0 s.heap)(hs:s.heap.get? S=some (seqObj "list" #[] c))
  (hR:∀h' tk,(∀b o,b∉wr->s.heap.get? b=some o->h'.get? b=some o)->R (.ok (.ret d)) { s with heap:=h',toks:=tk }):codeAny (model prog w) A (.builtin "min.loop" ⟨[.ref J,.none,.ref S],[(x,d)]⟩) R s:=by
 refine vSa PySem.F.entry_min_loop ?_;rw[Around.under_plainId PySem.F.plain_min_loop _];refine wAa (wpAny_seqItems hs rfl (wAa (vPa (W.done s _ _ hst fun h' tk hk'=>?_))));exact wAa (vQa (wBa (hR h' tk hk')))
end
def XU(a v:Value):argsOk "min" ⟨[a],[(Str.ofString "default",v)]⟩:=by unfold argsOk;kernel_rfl
theorem Qj(is:List Int)(x:Int)(l:List Int)(e:is=x::l):∀j,j < is.length->(is[Vt (fun i=>(is[i]?).getD 0) j]?).getD 0=vW x (l.take j)/\Vt (fun i=>(is[i]?).getD 0) j < is.length
 | 0,h=>by subst e;exact⟨rfl,h⟩
 | j+1,h=>by
  obtain⟨h1,h2⟩:=Qj is x l e j (by lia);have hj:j < l.length:=by rw[e]at h;simpa using h
  have hg:(is[j+1]?).getD 0=l[j]:=by rw[e,List.getElem?_cons_succ,uCa hj];rfl
  have st:Vt (fun i=>(is[i]?).getD 0) (j+1)=if decide ((is[j+1]?).getD 0 < (is[Vt (fun i=>(is[i]?).getD 0) j]?).getD 0)then j+1 else Vt (fun i=>(is[i]?).getD 0) j:=rfl
  have ht:vW x (l.take (j+1))=if l[j] < vW x (l.take j)then l[j]else vW x (l.take j):=by
   unfold vW;rw[List.take_succ_eq_append_getElem hj,List.foldl_append];rfl
  rw[st,ht,h1,hg];by_cases c:l[j] < vW x (l.take j)
  ·rw[decide_eq_true c,if_pos rfl,if_pos c];exact⟨hg,h⟩
  ·rw[decide_eq_false c,if_neg (by decide),if_neg c];exact⟨h1,h2⟩
def YS:List Int->Option Int
 | []=>none
 | x::l=>some (vW x l)
theorem Cy{A:Around}{s:Shared}{its:List Value}{is:List Int}(hh:A.handled=none)(pl:s.heap.IsList p its.toArray)(hlen:its.length=is.length)
  (hval:∀(i:Nat) (v:Value),its.toArray[i]?=some v->∃t,v=.int ((is[i]?).getD 0) t)
  (hQ:∀(v:Value) (h':Heap) (tk:Nat),(match YS is with | some m=>∃t,v=.int m t | none=>v=d)->(∀b o,b≠s.heap.objs.size->s.heap.get? b=some o->h'.get? b=some o)->Q v { s with heap:=h',toks:=tk }):
  wpAny (model P w) A (call (.builtin "min") [.ref p] [(Str.ofString "default",d)]) Q E s:=by
 have hp:p < s.heap.objs.size:=by
  obtain⟨o,ho,_⟩:=pl;exact wLa ho
 have W:=Walks.list (prog:=P) (w:=w) (A:=A.in1) hh s.heap.objs.size p (wTa hp) its.toArray;refine kmb_tree PySem.F.kind_min PySem.F.plain_min PySem.F.entry_min (XU _ _) ?_;show wpAny _ A.in1 (Builtin.Builtins.bindParams "min" ["key", "default"] 0 ⟨[],[(Str.ofString "default",d)]⟩ >>= _) _ _ s;refine wAa (wEa (show Builtin.Builtins.bindParams "min" ["key", "default"] 0 ⟨[],[(Str.ofString "default",d)]⟩=pure [none,some d] from rfl) (wAa (wBa (wAa (wpAny_pyIter_list pl ?_)))));refine wAa (vTa ?_);rw[Gg];have hS:∀o:Obj,(s.heap.push o).objs.size∉[s.heap.objs.size,p]:=fun o z=>by
  rw[uPa]at z;simp at z;exact vDa z (Nat.ne_of_gt (Nat.lt_succ_of_lt hp))
 refine wBa ⟨vRa PySem.F.plain_min_loop _,?_⟩;have keep:∀(o1 o2:Obj) (b:Addr) (o:Obj),s.heap.get? b=some o->((s.heap.push o1).push o2).get? b=some o:=fun o1 o2 b o e=>wIa _ (wIa _ e);have ne2:∀(o1:Obj) (b:Addr) (o:Obj),s.heap.get? b=some o->b≠(s.heap.push o1).objs.size:=fun o1 b o e=>by
  rw[uPa];exact wTa (Nat.lt_succ_of_lt (wLa e))
 cases his:is with
 | nil=>
  have hz:its.toArray.size=0:=by rw[uLa,hlen,his];rfl
  rw[hz]at W;exact Cw W _ (hS _) ⟨⟨_,wIa _ (wJa _ rfl),rfl,rfl⟩,pl.at fun o e=>keep _ _ _ _ e⟩ (wJa _ rfl) fun h' tk hk=>hQ d h' tk (by rw[his];rfl) fun b o hb e=>hk b o (by simpa using hb) (keep _ _ _ _ e)
 | cons x l=>
  have hl1:is.length=l.length+1:=by rw[his];rfl
  obtain⟨b1,b2⟩:=Qj is x l his (is.length - 1) (by lia);rw[show l.take (is.length - 1)=l by rw[hl1];simp]at b1;refine AR W (val:=fun i=>(is[i]?).getD 0) (fun i v hv=>hval i v hv) _ (hS _) (by rw[uLa];lia) ⟨⟨_,wIa _ (wJa _ rfl),rfl,rfl⟩,pl.at fun o e=>keep _ _ _ _ e⟩ (wJa _ rfl) fun v h' tk hv hk=>hQ v h' tk ?_ fun b o hb e=>hk b o (by simpa using hb) (ne2 _ _ _ e) (keep _ _ _ _ e);rw[uLa,hlen]at hv;obtain⟨t,rfl⟩:=hval _ v hv;rw[his];exact⟨t,by rw[<-his,b1]⟩
def ig(K:uXa)(ta tb:TE):TE:=fun U H Q=>ta U H fun x H1=>tb U H1 fun y H2=>∃p is d,x=.ref p/\y=.int d/\jC K H2 p (is.map V.int)/\Q (.int ((YS is).getD d)) H2
def Cz(hc:X.calm=true)(hg:Gl X "min")(hm:X.mg "min" = none)(ha:PE X a ta)(hb:PE X b tb)(hs:starEach [a] X.env=[(false,eval a X.env)]):PE X (.Call (.Name "min" p) [a] [⟨some "default",b,kp⟩] pos) (ig X.K ta tb):=by
 intro pins s U H Q I h;refine wpAny_Call_Name_kw (ZH I hg hm PyProof.Rows.boot_min ?_ (by decide) (by decide));refine callWith_kw (ju (JE ha Yr (by rw[hs];rfl) pos pins s U H (fun vs H1=>match vs with
  | [x]=>tb U H1 fun y H2=>∃p is d,x=.ref p/\y=.int d/\jC X.K H2 p (is.map V.int)/\Q (.int ((YS is).getD d)) H2
  | _=>False) I h) fun us s1 ⟨vs,H1,I1,r,q⟩=>?_) (by rw[hs];rfl) (by rw[hs];rfl) rfl rfl
 match vs,r,q with
 | [x],.cons r1 .nil,q=>
  refine ju (cL hb DC pos pins s1 U H1 (fun zs H2=>match zs with
   | [y]=>∃p is d,x=.ref p/\y=.int d/\jC X.K H2 p (is.map V.int)/\Q (.int ((YS is).getD d)) H2
   | _=>False) I1 q) fun ws s2 ⟨zs,H2,I2,rz,q2⟩=>?_
  match zs,rz,q2 with
  | [y],.cons r2 .nil,q2=>
   obtain⟨pp,is,d,rfl,rfl,hq,q⟩:=q2;cases r1;obtain⟨t,rfl⟩:=r2;obtain⟨its,rv,pl,hz⟩:=I2.list hq;have hlen:its.length=is.length:=by
    have:=rv.length;rw[vYa]at this
    lia
   refine Cy (I2.ok.hd hc) pl.isList hlen (fun i v hv=>?_) fun v h' tk hv hk=>?_
   ·have hv:its[i]?=some v:=by simpa using hv
    have hi:i < is.length:=by
     rw[<-hlen];exact(uSa hv).1
    obtain⟨u,eu,ru⟩:=rv.get (i:=i) (x:=V.int is[i]) (by simp[hi]);cases hv.symm.trans eu;obtain⟨t,rfl⟩:=ru;exact⟨t,by rw[uCa hi];rfl⟩
   ·have J:Inv X pins U H2 { s2 with heap:=h',toks:=tk }:=I2.turnedL (t':=tk) (ch:=[s2.heap.objs.size]) (fun b hb=>by
     rw[List.mem_singleton]at hb;subst hb;exact I2.fpOk (wPa _) (I2.hok.fresh (wPa _))) fun c o hc' e'=>hk c o (by simpa using hc') e'
    refine⟨.int ((YS is).getD d),H2,J,?_,q⟩;cases hm':YS is with
    | none=>rw[hm']at hv;exact⟨t,hv⟩
    | some m=>rw[hm']at hv;exact hv
end L2
namespace DS
open PySem PySem.Spec PyProof.Rows L2
section
variable {X:Cx} {K:Fr} {a b e o:Expr} {pos:Pos} {da db de dn:DE}
def Kc:D->D->Option D
 | .lst l,.int d=>(YJ l).bind fun is=>some (.int ((YS is).getD d))
 | _,_=>none
@[simp] theorem Lj(l:List D)(d:Int):Kc (.lst l) (.int d)=(YJ l).bind fun is=>some (.int ((YS is).getD d)):=rfl
def EG(hc:X.calm=true)(hg:Gl X "min")(hm:X.mg "min" = none)(ha:PE X a (tR K da))(hb:PE X b (tR K db))(hs:starEach [a] X.env=[(false,eval a X.env)])(hK:X.K=K):PE X (.Call (.Name "min" p) [a] [⟨some "default",b,kp⟩] pos) (tE K (d2 Kc da db)):=by
 subst hK;refine jF (Cz hc hg hm ha hb hs) fun U H Q ⟨H0,O0,Z,O,d,R,ed,q⟩=>?_;obtain⟨x,e1,ed⟩:=j6 ed;obtain⟨y,e2,ed⟩:=j6 ed;refine⟨H0,O0,Z,O,x,R,e1,fun v H1 s1 r1=>⟨H0,O0,Z,O,y,R.grow s1,e2,fun v2 H2 s2 r2=>?_⟩⟩;unfold Kc at ed;split at ed
 ·obtain⟨is,e3,ed⟩:=j6 ed;cases ed;obtain⟨p,xs,rfl,h1,h2⟩:=(r1.same s2).lst;rw[uI e3 h2]at h1;exact⟨p,is,_,rfl,r2.int,jC.of h1,q _ H2 (s1.trans s2) (by rw[j8])⟩
 ·cases ed
end
inductive Ro where
 | non | tp (k:Int) (ds:List D) (dp:D)
noncomputable def Ro.toD:Ro->D
 | .non=>.non
 | .tp k ds dp=>.tup [.int k,.lst ds,dp]
abbrev DR:=jg->Option Ro
def AS(K:Fr)(H:Hp)(O:List Addr)(Q:VK):Ro->Prop
 | .non=>∀H',j7 H H'->Q .non H'
 | .tp k ds dp=>∀(t l:Addr) (v:V) (H':Hp),j7 H H'->H l=none->H t=none->H' t=some (.tup [.int k,.ref l,v])->JL K H' (jd H' (l::O)) l (.lst ds)->j8 K (jd H' (l::O)) dp v->Q (.ref t) H'
def XV(K:Fr)(ks:List Bool)(F:List D->Option Ro):Sp:=fun vs H Q _=>∃O ds r,(∀a∈O,H a≠none)/\yG K O H ks ds vs/\F ds=some r/\AS K H O Q r
def tO(K:Fr)(dm:DR):TS:=fun E U H=>∃H0 O0 Z O r,Rel K H0 O0 Z U H O/\dm Z=some r/\AS K H0 O0 E.rt r
section
variable {X:Cx} {K:Fr} {st:Stmt} {rest:List Stmt} {s1:DS} {m ma:DR} {c e:Expr} {pos p tp rpos:Pos}
@[simp] noncomputable def k6(s1:DS)(m:DR)(Z:jg):Option Ro:=(s1 Z).bind fun r=>match r with
 | .nx Z1=>m Z1
 | _=>none
@[simp] noncomputable def Im(dt:DT)(ma m:DR)(Z:jg):Option Ro:=(dt Z).bind fun k=>if k=true then ma Z else m Z
def Gh(h1:PS X st (tS K s1))(h2:jP X rest (tO K m)):jP X (st::rest) (tO K (k6 s1 m)):=Yu (Yq h1 h2) fun D U H xx=>by
 obtain⟨H0,O0,Z,O,r,R,ed,f⟩:=xx;obtain⟨r1,e1,e2⟩:=j6 ed;refine⟨H0,O0,Z,O,r1,R,e1,?_⟩;cases r1 with
 | nx Z1=>exact fun U' H' O' R' t=>⟨H0,O0,Z1,O',r,R',e2,f⟩
 | _=>cases e2
def lR(hc:PT X c (tT K dt))(ha:jP X a (tO K ma))(h2:jP X rest (tO K m)):jP X (.If c a [] pos::rest) (tO K (Im dt ma m)):=Yu (Yq (QV hc ha Kv) h2) fun D U H xx=>by
 obtain⟨H0,O0,Z,O,r,R,ed,f⟩:=xx;obtain⟨k,e1,e2⟩:=j6 ed;refine⟨H0,O0,Z,O,k,R,e1,fun H' s=>?_⟩;cases k with
 | true=>rw[if_pos rfl]at e2;exact zI ⟨H0,O0,Z,O,r,R.grow s,e2,f⟩
 | false=>rw[if_neg Bool.false_ne_true]at e2;exact zH ⟨H0,O0,Z,O,r,R.grow s,e2,f⟩
@[simp] noncomputable def EH(_:jg):Option Ro:=some .non
def ii:jP X [.Return (some (.Constant .none kk p)) pos] (tO K EH):=Yu (Kw (UC (Bf (K:=K)))) fun D U H xx=>by
 obtain⟨H0,O0,Z,O,r,R,ed,f⟩:=xx;cases ed;exact⟨H0,O0,Z,O,.non,R,rfl,fun v H' s r=>by rw[j8]at r;subst r;exact f H' (R.keep.trans s)⟩
@[simp] noncomputable def AU(d1:DE)(i:Nat)(d3:DE)(Z:jg):Option Ro:=(d1 Z).bind fun a=>(d3 Z).bind fun dp=>match a,Z[i]? with
 | .int k,some (.ow _ (.lst ds))=>some (.tp k ds dp)
 | _,_=>none
theorem ij{e1 e3:Expr}{x:Str}{xp:Pos}{x1 i:Nat}{d1 d3:DE}(h1:PE X e1 (tE K d1))(h2:PE X (.Name x xp) (zo i))(h3:PE X e3 (tE K d3))(n1:starEach [e1,.Name x xp,e3] X.env=(false,eval e1 X.env)::starEach [.Name x xp,e3] X.env)(n2:starEach [.Name x xp,e3] X.env=(false,eval (.Name x xp) X.env)::starEach [e3] X.env)(n3:starEach [e3] X.env=(false,eval e3 X.env)::starEach [] X.env):
  jP X [.Return (some (.Tuple [e1,.Name x xp,e3] x1 tp)) pos] (tO K (AU d1 i d3)):=Yu (Kw (UC (Xa (JE h1 (JE h2 (JE h3 Yr n3) n2) n1)))) fun D U H xx=>by
 obtain⟨H0,O0,Z,O,r,R,ed,f⟩:=xx;obtain⟨a,q1,ed⟩:=j6 ed;obtain⟨dp,q3,ed⟩:=j6 ed;cases a with
 | int k=>
  cases hi:Z[i]? with
  | none=>rw[hi]at ed;cases ed
  | some sl=>
   rw[hi]at ed;cases sl with
   | ow q o=>
    cases o with
    | lst ds=>
     cases ed;refine⟨H0,O0,Z,O,_,R,q1,fun v1 H1 s1 rv1=>?_⟩;rw[j8]at rv1;subst rv1;have R1:=R.grow s1;obtain⟨l,_,hs,ow,lo,h0⟩:=R1.ow i _ _ hi;refine⟨_,hs,H0,O0,Z,O,dp,R1,q3,fun v3 H2 s2 rv3=>⟨by show 3<=sizeLine;decide,fun t ht=>?_⟩⟩;have s3:=s2.trans (jB ht (.tup [.int k,.ref l,v3]));have sb:∀a∈l::O0,a∈O:=fun a h=>(uTa h).elim (fun z=>z▸lo) (R.sub a);exact(f:AS K H0 O0 D.rt (.tp k ds dp)) t l v3 _ (R1.keep.trans s3) h0 (R1.keep.none (s2.none ht)) jS (ow.same (s3 l) ((ji s3).trans (Jo sb))) (rv3.same ((ji (jB ht _)).trans (Jo sb)))
    | _=>cases ed
   | _=>cases ed
 | _=>cases ed
variable {P:Program} {w:World} {mg:Tx} {base:Heap} {x qual:Str} {f:Addr} {fd:FuncData} {N ps:List Str} {k n:Nat} {ks:List Bool} {body:DR}
def Qk(ks:List Bool)(n:Nat)(body:DR):List D->Option Ro:=fun ds=>body (ZX ks ds n)
def lS(F:Fun K x qual st f fd)(S:FnScope N ps (defScope st))(hk:ks.length=ps.length)(hn:N.length - ps.length=n)
  (hb:∀(cdv:Value) (A:Around) (outer:List Env) (s:Shared) (H:Hp) (E:XK),Room k (A.deeper (envOfC qual (defScope st) s.heap.objs.size f cdv))->jP (ZV Yj P w K mg base N qual (defScope st) f cdv A outer s H E).nox (defBody st) (tO K body)):
  FnOk P w K mg base Yj (k+1) f fd ps (XV K ks (Qk ks n body)):=by
 refine F.ok S (fun vs H Q E h=>?_) fun cdv A outer s H vs Q E hr h=>?_
 ·obtain⟨O,ds,d,_,ak,_⟩:=h;have:=ak.len
  lia
 ·obtain⟨O,ds,r,al,ak,e,q⟩:=h;refine⟨_,hb cdv A outer s H E hr,?_⟩;have hl:N.length - vs.length=n:=by have:=ak.len;lia
  unfold L2.za;rw[hl];exact⟨H,O,_,O,r,xz ak al,e,q⟩
end
@[simp] def Ql(F:List D->Option Ro):List D->Option D:=fun as=>(F as).map Ro.toD
def Lv{P:Program}{w:World}{K K':Fr}{mg:Tx}{base:Heap}{k:Nat}{x:Str}{ps:List Str}{ks:List Bool}{F:List D->Option Ro}(G:FnI P w K' mg base k x ps (XV K ks F)):FnI P w K' mg base k x ps (K3 K ks (Ql F)):=by
 obtain⟨f,fd,ok,b,kp,hm⟩:=G.ex;refine⟨⟨f,fd,ok.imp fun vs H Q E h=>?_,b,kp,hm⟩⟩;obtain⟨O,ds,d,al,ak,e,q⟩:=h;obtain⟨r,e1,rfl⟩:=Option.map_eq_some_iff.mp e;refine⟨O,ds,r,al,ak,e1,?_⟩;cases r with
 | non=>exact fun H' s=>q _ H' s (by rw[Ro.toD,j8])
 | tp k ds dp=>
  intro t l v H' s hl ht et ow rp;obtain⟨us,hu,ru⟩:=ow;have sb:∀b∈O,b∈l::O:=fun b h=>wMa _ h;refine q _ H' s ?_;rw[Ro.toD,j8];refine⟨t,[.int k,.ref l,v],rfl,Jr.of (by rw[J3 fun z=>al t z ht];exact et),j4.cons (by rw[j8]) (j4.cons ?_ (j4.cons (rp.same (Jo sb)) j4.nil))⟩;rw[j8];exact⟨l,us,rfl,by rw[J3 fun z=>al l z hl];exact hu,ru.same (Jo sb)⟩
def WR:D->Option Int
 | .lst (.lst m::_)=>AM m
 | _=>none
def lT(H H':Hp)(l:Addr)(v:V):Prop:=∃p q qs ys,v=.ref p/\p≠l/\H' p=some (.lst (.ref q::qs))/\H' q=some (.lst ys)/\H q=none
def Io(K:Fr)(F:List D->Option Ro)(l:DA):TE:=fun U H Q=>∃H0 O0 Z O as r,Rel K H0 O0 Z U H O/\Yk l Z=some as/\F as=some r/\Yw as=true/\(match r with
 | .non=>∀H',j7 H H'->Q .non H'
 | .tp k ds dp=>(WR dp).isSome=true/\∀(t l:Addr) (v:V) (H':Hp),j7 H H'->H l=none->H t=none->H' t=some (.tup [.int k,.ref l,v])->JL K H' (jd H' (l::O)) l (.lst ds)->j8 K (jd H' (l::O)) dp v->lT H H' l v->Q (.ref t) H')
section
variable {X:Cx} {K:Fr} {e:Expr} {es:List Expr} {pos p:Pos} {l:DA} {ks:List Bool} {x:Str} {ps:List Str} {k:Nat}
theorem EI{F:List D->Option Ro}(G:FnI X.prog X.w X.K X.mg X.base k x ps (XV K ks F))(hr:Room k X.A)(ha:PA X (e::es) (Ze K l))(hl:(l.map (·.1)).all id=true)(hk:ks.length=l.length)(hg:Gl X x)(hdb:(x==("__debug__" : Str))=false)
  (he:starEach (e::es) X.env=(false,eval e X.env)::starEach es X.env) (hpl:(backTo pos (starEach es X.env)).any (·.1)=false) (hK:X.K=K):PE X (.Call (.Name x p) (e::es) [] pos) (Io K F l):=by
 subst hK;refine jF (HZ (xm G hr (HY ha) hg hdb he hpl)) fun U H Q xx=>?_;obtain⟨H0,O0,Z,O,as,r,R,e1,e2,ns,q⟩:=xx;refine⟨H0,O0,Z,O,as,R,e1,fun vs H1 s1 r1 n hn=>?_⟩
 (try dsimp only)
 rw[uFa];have R1:=R.grow s1;have rr:=WO hl r1;have hds:ks.length=as.length:=by
  have:=r1.len;rw[vYa]at this
  lia
 obtain⟨F',fo,r2⟩:=ZM ns rr
 let S:=(List.range n).filter fun a=>WM (H1 a)&&decide (a∉F')
 have sd:j7 (K9 F' (jd H1 O)) (jd H1 (O++S)):=fun b u h=>by
  obtain⟨h1,h2⟩:=WN h;obtain⟨h3,h4⟩:=Js h1;rw[J3 fun z=>?_]
  ·exact h4
  ·rcases uWa z with z | z
   ·exact h3 z
   ·have:=(uUa z).2;rw[Bool.and_eq_true]at this;rcases h2 with h2 | h2
    ·rw[J3 h3,this.1]at h2;cases h2
    ·exact vCa this.2 h2
 refine⟨O++S,as,r,fun a ha z=>?_,WP hds (r2.same sd),e2,?_⟩
 ·rcases uWa ha with ha | ha
  ·exact R1.al a ha z
  ·have:=(uUa ha).2;rw[z]at this;cases this
 cases r with
 | non=>exact fun H' s _=>q H' (s1.trans s)
 | tp k ds dp=>
  obtain⟨h6,q⟩:=q;intro t l0 v H' s hl0 ht et ow rp T;have sb:∀a∈l0::O,a∈l0::(O++S):=fun a h=>(uTa h).elim (fun z=>z▸wNa) fun z=>wMa _ (vIa _ z);refine q t l0 v H' (s1.trans s) (s1.none hl0) (s1.none ht) et (ow.same (fun _ z=>z) (Jo sb)) (rp.same (Jo sb)) ?_;unfold WR at h6;split at h6
  ·rw[j8]at rp;obtain⟨p1,xs,rfl,hp1,ry⟩:=rp;rw[j4]at ry;obtain⟨v0,r',rfl,a1,_⟩:=ry;rw[j8]at a1;obtain⟨q0,ys,rfl,hq0,rm⟩:=a1;obtain⟨a,ha6⟩:=Option.isSome_iff_exists.mp h6;obtain⟨b,ws,_,_,w1,w2,w3,_⟩:=Ex ha6 rm;obtain⟨z1,z2⟩:=Js hp1;obtain⟨y1,y2⟩:=Js hq0;refine⟨p1,q0,_,ys,rfl,fun z=>z1 (z▸wNa),z2,y2,s1.none (Classical.byContradiction fun hne=>?_)⟩;cases hu:H1 q0 with
   | none=>exact hne hu
   | some u=>
    have e0:=s q0 u hu;rw[y2]at e0;cases e0;have mF:q0∈F':=Classical.byContradiction fun y=>y1 (wMa _ (vJa _ (List.mem_filter.mpr ⟨List.mem_range.mpr (hn q0 _ hu),by rw[hu,Bool.and_eq_true];exact⟨rfl,decide_eq_true y⟩⟩)));obtain⟨m',xs',g1,g2,g3⟩:=fo q0 mF;have:=(Js g1).2;rw[hu]at this;cases this;obtain⟨ws',w1',w2'⟩:=HX g3 g2 w1;exact w2' (by rw[T.1 _ _ _ (s.tup (Jx.tup w1')) (Jx.tup w2)];exact w3)
  ·cases h6
end
def Rel.un{K:Fr}{H0 H:Hp}{O0 O:List Addr}{Z:jg}{U:L2.St}(R:Rel K H0 O0 Z U H O)(i:Nat)(v:Option V):Rel K H0 O0 (Z.set i .un) (U.set i v) H O where
 len:=by rw[List.length_set,List.length_set];exact R.len
 lo:=R.lo.up (fun j ls e=>UR (by intro _ z;cases z) e) (fun a _ z=>GT (by intro _ _ z;cases z) R.len z) (fun a h _=>⟨h,fun u z=>z⟩) (j7.refl _)
 sub:=R.sub
 fr:=R.fr
 al0:=R.al0
 al:=R.al
 keep:=R.keep
 cl:=fun j d' e=>by
  rcases jR e with⟨rfl,e',hi⟩ | ⟨ne,e'⟩
  ·cases e'
  ·rw[Jy ne];exact R.cl j d' e'
 bo:=fun j d' e=>by
  rcases jR e with⟨rfl,e',hi⟩ | ⟨ne,e'⟩
  ·cases e'
  ·rw[Jy ne];exact R.bo j d' e'
 ow:=fun j q' d' e=>by
  rcases jR e with⟨rfl,e',hi⟩ | ⟨ne,e'⟩
  ·cases e'
  ·rw[Jy ne];exact R.ow j q' d' e'
 dist:=fun j k q1 q2 ds es l e1 e2 s1 s2=>by
  rcases jR e1 with⟨rfl,e',hi⟩ | ⟨ne,e1'⟩
  ·cases e'
  ·rcases jR e2 with⟨rfl,e',hi⟩ | ⟨ne2,e2'⟩
   ·cases e'
   ·rw[Jy ne]at s1;rw[Jy ne2]at s2;exact R.dist j k q1 q2 ds es l e1' e2' s1 s2
abbrev DQ:=jg->Option (Option D)
def Ke(K:Fr)(g:DQ)(T:TS):TS:=fun E U H=>∃H0 O0 Z O o,Rel K H0 O0 Z U H O/\g Z=some o/\(match o with
 | some d=>∀v H',j7 H0 H'->j8 K (jd H' O0) d v->E.rt v H'
 | none=>∀H',j7 H H'->T E U H')
@[simp] noncomputable def EJ(_:jg):Option (Option D):=some none
@[simp] noncomputable def Um(dt:DT)(s:DS)(g:DQ)(Z:jg):Option (Option D):=(dt Z).bind fun k=>if k=true then(s Z).bind fun r=>(match r with
 | .rt d=>some (some d)
 | _=>none)else g Z
section
variable {X:Cx} {K:Fr} {rest b:List Stmt} {T:TS} {c:Expr} {p:Pos}
def XW(h:jP X rest T):jP X rest (Ke K EJ T):=Yu h fun D U H xx=>by
 obtain⟨H0,O0,Z,O,o,R,ed,f⟩:=xx;cases ed;exact f H (j7.refl _)
def ik(hc:PT X c (tT K dt))(hb:jP X b (tS K s))(h:jP X rest (Ke K g T)):jP X (.If c b [] p::rest) (Ke K (Um dt s g) T):=Yu (Yq (QV hc hb Kv) h) fun D U H xx=>by
 obtain⟨H0,O0,Z,O,o,R,ed,f⟩:=xx;obtain⟨k,e1,e2⟩:=j6 ed;refine⟨H0,O0,Z,O,k,R,e1,fun H' s'=>?_⟩;cases k with
 | true=>
  rw[if_pos rfl]at e2;obtain⟨r,e3,e4⟩:=j6 e2;cases r with
  | rt d=>cases e4;exact zI ⟨H0,O0,Z,O,_,R.grow s',e3,f⟩
  | _=>cases e4
 | false=>
  rw[if_neg Bool.false_ne_true]at e2;refine zH ⟨H0,O0,Z,O,o,R.grow s',e2,?_⟩;cases o with
  | some d=>exact f
  | none=>exact fun H2 s2=>f H2 (s'.trans s2)
def Lw:Ro->Bool
 | .non=>true
 | .tp _ _ dp=>(WR dp).isSome
noncomputable def EK(n i j k l:Nat):Bool:=decide (i < n/\j < n/\k < n/\l < n/\k≠l)
def uJ(i iC iS iP:Nat)(F:List D->Option Ro)(l:DA)(g1 g2:DQ)(rs:DS):DS:=fun Z=>(Yk l Z).bind fun as=>(F as).bind fun r=>(g1 (Z.set i (.cl r.toD))).bind fun o1=>match o1 with
 | some d=>if Yw as=true/\Lw r=true then some (.rt d)else none
 | none=>(match r with
  | .non=>none
  | .tp k ds dp=>(g2 ((((Z.set i (.cl r.toD)).set iC (.cl (.int k))).set iS (.cl (.lst ds))).set iP (.cl dp))).bind fun o2=>if Yw as=true/\(WR dp).isSome=true/\ds.length < sizeLine/\EK Z.length i iC iS iP=true then(match o2 with
   | some d=>some (.rt d)
   | none=>rs ((((Z.set i .un).set iC (.cl (.int k))).set iS .un).set iP .un))else none)
theorem CA{st1 st4 stA stB:Stmt}{l1 l3 l5:List Stmt}{i iC iS iP:Nat}{F:List D->Option Ro}{l:DA}{g1 g2:DQ}{rs:DS}{n7:Int}
  (h1:PS X st1 (zq (Io K F l) (Yh i))) (hG1:∀T,jP X (st4::l3) T->jP X l1 (Ke K g1 T)) (h4:PS X st4 (zq (zo i) (D8 K 3 (W0 (Yh iC) (W0 (Yh iS) (W0 (Yh iP) L2.D7))))))
  (hG2:∀T,jP X (stA::stB::l5) T->jP X l3 (Ke K g2 T)) (hA:PS X stA (kO (Xh K "list" gY (zo iS) (Vj (tC (.int n7)) UH)))) (hB:PS X stB (kO (DW K "list" Xj (Q6 (Af K) (zo iP) (tC (.int 0)))))) (hr:jP X l5 (tS K rs)):
  jP X (st1::l1) (tS K (uJ i iC iS iP F l g1 g2 rs)):=Yu (Yq h1 (hG1 _ (Yq h4 (hG2 _ (Yq hA (Yq hB hr)))))) fun D U H xx=>by
 obtain⟨H0,O0,Z,O,rr,R,ed,f⟩:=xx;obtain⟨as,e1,ed⟩:=j6 ed;obtain⟨r,e2,ed⟩:=j6 ed;obtain⟨o1,e3,ed⟩:=j6 ed;cases r with
 | non=>
  cases o1 with
  | none=>cases ed
  | some d=>
   dsimp only at ed;split at ed
   ·rename_i hh;cases ed;refine⟨H0,O0,Z,O,as,.non,R,e1,e2,hh.1,fun H' s=>?_⟩;exact⟨H0,O0,_,O,some d,(R.grow s).set (d:=.non) (v:=.non) (by rw[j8]) i,e3,f⟩
   ·cases ed
 | tp k ds dp=>
  have hns:Yw as=true/\(WR dp).isSome=true:=by
   cases o1 with
   | some d=>
    dsimp only at ed;split at ed
    ·rename_i hh;exact hh
    ·cases ed
   | none=>
    obtain⟨o2,_,ed⟩:=j6 ed;split at ed
    ·rename_i hh;exact⟨hh.1,hh.2.1⟩
    ·cases ed
  refine⟨H0,O0,Z,O,as,.tp k ds dp,R,e1,e2,hns.1,hns.2,fun t a v H' s ha ht et ow rp nw=>?_⟩;obtain⟨us,hu,ru⟩:=ow;have ra:a∉O:=R.new ha;have rt':t∉O:=R.new ht;have sb:∀b∈O,b∈a::O:=fun b h=>wMa _ h;have rl:j8 K (jd H' O) (.lst ds) (.ref a):=by
   rw[j8];exact⟨a,us,rfl,by rw[J3 ra];exact hu,ru.same (Jo sb)⟩
  have rpO:j8 K (jd H' O) dp v:=rp.same (Jo sb);have R1:=R.grow s;have R2:=R1.set (d:=.tup [.int k,.lst ds,dp]) (v:=.ref t) (by
   rw[j8];exact⟨t,[.int k,.ref a,v],rfl,Jr.of (by rw[J3 rt'];exact et),j4.cons (by rw[j8]) (j4.cons rl (j4.cons rpO j4.nil))⟩) i
  refine⟨H0,O0,_,O,o1,R2,e3,?_⟩;cases o1 with
  | some d=>
   dsimp only at ed;split at ed
   ·cases ed;exact f
   ·cases ed
  | none=>
   obtain⟨o2,e4,ed⟩:=j6 ed;split at ed
   ·rename_i hh;obtain⟨_,_,hz,hI⟩:=hh;obtain⟨i1,i2,i3,i4,i5⟩:=vCa hI;intro H2 s2;have len:=R.len;refine⟨.ref t,zE (by rw[len];exact i1),t,[.int k,.ref a,v],rfl,Jr.of (s2 _ _ et),rfl,_,_,rfl,_,_,rfl,_,_,rfl,rfl,?_⟩;have sA:=ji (O:=O) s2;have R3:=((((R2.grow s2).set (d:=.int k) (v:=.int k) (by rw[j8]) iC).set (d:=.lst ds) (v:=.ref a) (rl.same sA) iS).set (d:=dp) (v:=v) (rpO.same sA) iP)
    refine⟨H0,O0,_,O,o2,R3,e4,?_⟩;cases o2 with
    | some d=>cases ed;exact f
    | none=>
     intro H3 s3;have s23:=s2.trans s3;obtain⟨p,q,qs,ys,rfl,npa,hp,hq,hqn⟩:=nw;have h3a:=s23 _ _ hu;have h3p:=s23 _ _ hp;have h3q:=s23 _ _ hq;refine⟨.ref a,?_,.inl ⟨rfl,us,jC.of h3a⟩,a,us,.int n7,rfl,rfl,h3a,by rw[ru.len];exact hz,?_⟩
     ·rw[Jy i5];exact zE (by rw[List.length_set,List.length_set,len];exact i3)
     ·have h4p:upd H3 a (.lst (us++[.int n7])) p=some (.lst (.ref q::qs)):=by rw[jr npa];exact h3p
      have h4q:∃zs,upd H3 a (.lst (us++[.int n7])) q=some (.lst zs):=by
       by_cases z:q=a
       ·exact⟨_,by rw[z];exact jS⟩
       ·exact⟨ys,by rw[jr z];exact h3q⟩
      obtain⟨zs,h4q⟩:=h4q;refine⟨.ref p,zE (by rw[List.length_set,List.length_set,List.length_set,len];exact i4),p,_,0,.ref q,rfl,rfl,jC.of h4p,(by unfold atI u6;rw[if_pos (by decide),if_pos (by rw[vXa];lia)];rfl),.inl ⟨rfl,zs,jC.of h4q⟩,q,zs,rfl,rfl,h4q,?_⟩;have sF:j7 H (upd (upd H3 a (.lst (us++[.int n7]))) q (.lst [])):=((s.trans s23).upd ha _).upd hqn _;have R5:=((((R.grow sF).un i (some (.ref t))).set (d:=.int k) (v:=.int k) (by rw[j8]) iC).un iS (some (.ref a))).un iP (some (.ref p));exact⟨H0,O0,_,O,rr,R5,ed,f.mono (ji sF)⟩
   ·cases ed
end
end DS
set_option backward.match.sparseCases false
namespace CP
open PySem PySem.Spec PyProof.Rows L2 DS
inductive GI where
 | con (i:Int)
 | fE (k:Nat) (ps:List Str) (ks:List Bool) (F:List D->Option D)
 | fF (k:Nat) (ps:List Str) (ks:List Bool) (F:List D->Option OD)
 | mk (k:Nat) (ps:List Str) (ks:List Bool) (F:Addr->List D->Option OD) (G:List D->Option OD)
 | fT (k:Nat) (ps:List Str) (ks:List Bool) (F:List D->Option Ro)
 | blt
structure Gm where
 N:List Str
 sc:Scope
 fn:Bool
 kF:Bool
 C:Addr
 gs:List (Str×GI)
 ms:List (Str×GI)
 fl:List Str
 hs:List ((Nat×Nat×Nat)×List Nat)
 sh:List (Nat×Nat)
 ow:List Nat
inductive Dn where
 | E (d:DE) | F (d:DO)
noncomputable def Dn.e:Dn->DE
 | .E d=>d
 | .F d=>dL d
noncomputable def KQ(x:Str):List Str->Option Nat
 | []=>none
 | y::r=>if x=y then some 0 else(KQ x r).map (· + 1)
noncomputable def kd(sc:Scope)(x:Str):Option NameKind:=sc.names.lookup x
noncomputable def xH(sc:Scope)(x:Str):Bool:=match kd sc x with
 | some .local=>true
 | some .cell=>true
 | some .free=>true
 | _=>false
noncomputable def WS(sc:Scope)(x:Str):Bool:=match kd sc x with
 | some .local=>true
 | some .cell=>true
 | _=>false
noncomputable def xI(sc:Scope)(x:Str):Bool:=match kd sc x with
 | some .local=>true
 | _=>false
noncomputable def XX(Γ:Gm)(x:Str):Bool:=(match kd Γ.sc x with
 | some .globalImplicit=>true
 | _=>false)&&!(x==("__debug__" : Str))
noncomputable def cG(c:Bool)(o:Option α):Option α:=if c then o else none
def slot(Γ:Gm)(x:Str):Option Nat:=(KQ x Γ.N).bind fun i=>if xH Γ.sc x&&(!(x==("__debug__" : Str))&&!(x==("__classdict__" : Str)))then some i else none
def nm(Γ:Gm):Expr->Option Nat
 | .Name x _=>slot Γ x
 | _=>none
def Kf(Γ:Gm)(x:Str):Option Nat:=(KQ x Γ.N).bind fun i=>if WS Γ.sc x&&(Γ.fn||xI Γ.sc x)then some i else none
noncomputable def Yd:Expr->Bool
 | .Starred _ _=>false
 | _=>true
structure Rc where
 n:Gm->Expr->Option Dn
 t:Gm->Expr->Option DT
 g:Gm->Nat->Expr->Option DG
section
variable (r:Rc) (Γ:Gm)
noncomputable def cV(f:Nat->DE)(e:Expr):Option DE:=match nm Γ e with
 | some i=>some (f i)
 | none=>(r.n Γ e).map Dn.e
def cA:List Bool->List Expr->Option DA
 | [],[]=>some []
 | k::ks,e::es=>if Yd e then(cV r Γ (if k then dC else dV) e).bind fun d=>(cA ks es).bind fun l=>some ((k,d)::l)else none
 | _,_=>none
def EL:Operator->Option (D->D->Option D)
 | .Add=>some jy
 | .Sub=>some Yb
 | .Mult=>some yX
 | .Mod=>some Jg
 | .FloorDiv=>some KB
 | .Pow=>some As
 | _=>none
def uK:CmpOp->Option (D->D->Option D)
 | .Eq=>some jM
 | .NotEq=>some yV
 | .Lt=>some Y3
 | .LtE=>some Jb
 | .Gt=>some yu
 | .GtE=>some Vl
 | .In=>some (UZ false)
 | .NotIn=>some (UZ true)
 | .Is=>some KC
 | .IsNot=>some ze
noncomputable def cB(f:DE->DE->DE):List Expr->Option DE
 | []=>none
 | [a]=>cV r Γ dC a
 | a::b=>(cV r Γ dV a).bind fun d=>(cB f b).bind fun d'=>some (f d d')
noncomputable def cW(f:DT->DT->DT):List Expr->Option DT
 | []=>none
 | [a]=>r.t Γ a
 | a::b=>(r.t Γ a).bind fun d=>(cW f b).bind fun d'=>some (f d d')
def AV:Option Expr->Option Qd
 | none=>some fun _=>some none
 | some e=>(cV r Γ dV e).map fun d=>fun Z=>(d Z).bind yU
noncomputable def VF(p:Pos):Option (List Nat):=Γ.hs.lookup (p.line,p.col,p.endCol)
noncomputable def Kg:Expr->Bool
 | .Call _ _ _ _=>false
 | _=>true
noncomputable def WT:Expr->Bool
 | .Slice _ _ _ _=>false
 | _=>true
def lU:Option (List Nat)->List D->Option D
 | none=>J5
 | some []=>Kb
 | some (_::_)=>Gf
def AW(x:Str)(n:Option (List Nat)):Option (List D->Option D):=if x = "len" then some (lU n)else if x = "tuple" then some yK else if x = "all" then some Yt else if x = "max" then some vP else if x = "sum" then some k4 else if x = "any" then some ga else none
def AX(x:Str)(h:Bool):Option (List D->Option OD):=if x = "list" then some (if h then ua else uE)else if x = "dict" then some vV else none
def BE(x:Str):Bool:=XX Γ x&&(match Γ.gs.lookup x with | some .blt=>true | _=>false)
noncomputable def AY(x:Str):Option String:=if x = "list" then some "list" else if x = "tuple" then some "tuple" else if x = "bool" then some "bool" else if x = "str" then some "str" else if x = "int" then some "int" else none
def EM(e:Expr):Option DI:=(cV r Γ dP e).map fun d=>match VF Γ e.pos with
 | some (_::_)=>K7 d
 | _=>jz d
def EN(tup:Bool)(x:Str)(as:List Expr):Option DI:=
 if BE Γ x then(match as with
  | [a]=>if x = "range" then cG (Yd a) ((cV r Γ dV a).map Yl)
   else if x = "enumerate" then cG (Yd a&&tup) ((cV r Γ dP a).map Vo)
   else if x = "reversed" then cG (Yd a) ((cV r Γ dP a).map xC)else none
  | [a,b]=>if x = "zip" then cG (Yd a&&Yd b&&tup) ((cV r Γ dP a).bind fun d=>(cV r Γ dP b).map fun d'=>xt d d')else none
  | _=>none)else none
noncomputable def Gi:Expr->Bool
 | .Tuple _ _ _=>true
 | _=>false
noncomputable def uL:Expr->Bool
 | .Set _ _ _=>false
 | _=>true
def EO(tg e f:Expr)(as:List Expr)(ks:List Keyword)(p:Pos):Option DI:=match f with
 | .Name x _=>(match ks with
  | []=>(match EN r Γ (Gi tg) x as with
   | some d=>some d
   | none=>EM r Γ e)
  | _::_=>none)
 | .Attribute a m ap=>(match as,ks with
  | [],[]=>cG (m==("items" : Str)&&Gi tg&&Kg a&&ap.endLine==p.line) ((cV r Γ dP a).map ZL)
  | _,_=>none)
 | _=>none
def cI(tg:Expr)(e:Expr):Option DI:=match e with
 | .Call f as ks p=>EO r Γ tg e f as ks p
 | _=>cG (uL e) (EM r Γ e)
noncomputable def EQ(scope sc:Scope):Scope:={ scope with names:=scope.names.map fun(n,k)=>if k==.free&&sc.kind==.function&&sc.names.lookup n==some .cell then(n,.cell)else(n,k) }
noncomputable def gb:Nat->Expr->List Str
 | 0,_=>[]
 | _+1,.Name x _=>[x]
 | n+1,.Tuple es _ _=>(es.map (gb n)).flatten
 | _,_=>[]
noncomputable def gc:List Str->Bool
 | []=>true
 | x::r=>!(r.contains x)&&gc r
noncomputable def WU:List Nat->Bool
 | []=>true
 | x::r=>!(r.contains x)&&WU r
noncomputable def xJ(scope:Scope)(p:Str×Nat):Bool:=(match Γ.N[p.2]? with
  | some y=>y==p.1
  | none=>false)&&(match kd Γ.sc p.1 with
  | some .cell=>true
  | some .free=>true
  | _=>false)&&(match kd scope p.1 with
  | some .free=>true
  | _=>false)
noncomputable def BF(scope:Scope):Bool:=(match scope.kind with | .function=>true | _=>false)&&(scope.names.all fun y=>y.2 != .local||scope.names.lookup y.1==some .local)&&(scope.names.all fun y=>y.2 != .cell) &&
 (scope.names.all fun y=>y.2 != .free||Γ.sc.names.lookup y.1==some .cell||Γ.sc.names.lookup y.1==some .free)
def vX(p:Pos):List (Str×Nat):=((VF Γ p).getD []).map fun j=>(Γ.N.getD j "",j)
def Zz(own:List Str)(caps:Tj)(scope:Scope):Gm:={ Γ with N:=own++caps.map (·.1),sc:=EQ scope Γ.sc,fn:=false }
def ER(elt tg iter:Expr)(ifs:List Expr)(scope:Scope)(p:Pos):Option DO:=
 let own:=gb 5 tg
 let caps:=vX Γ p
 let Δ:=Zz Γ own caps scope
 cG (BF Γ scope&&caps.all (xJ Γ scope)&&gc Δ.N&&WU (caps.map fun z:Str×Nat=>z.2)&&uL iter)
  ((cI r Γ tg iter).bind fun di=>(r.g Δ own.length tg).bind fun g=>(match ifs with
   | []=>some jx
   | [c]=>r.t Δ c
   | _=>none).bind fun dc=>(cV r Δ dC elt).bind fun de=>some (JO own.length (caps.map fun z:Str×Nat=>z.2) di g dc de))
def ES(es:List Expr):Option Dn:=match es with
 | [a,t]=>(match t with
  | .Name t _=>cG (Yd a&&BE Γ t) ((AY t).bind fun T=>(cV r Γ dV a).map fun d=>.E (d1 (JG T) d))
  | _=>none)
 | _=>none
def BG(x:Str)(es:List Expr)(p:Pos):Option Dn:=cG (XX Γ x&&!es.isEmpty) (match Γ.gs.lookup x with
 | some (.fE _ _ ks F)=>(cA r Γ ks es).map fun l=>.E (ja F l)
 | some (.fF _ _ ks F)=>(cA r Γ ks es).map fun l=>.F (Jm F l)
 | some (.fT _ _ ks F)=>(cA r Γ ks es).map fun l=>.E (ja (Ql F) l)
 | some (.mk _ _ ks _ G)=>(cA r Γ ks es).map fun l=>.F (xu G l)
 | some .blt=>if x = "isinstance" then ES r Γ es
  else(cA r Γ (es.map fun _=>false) es).bind fun l=>(match AW x (VF Γ p)with
   | some f=>some (.E (ja f l))
   | none=>(AX x (VF Γ p).isSome).map fun f=>.F (Jm f l))
 | _=>none)
noncomputable def ET:Const->Option Dn
 | .int i=>some (.E (dK (.int i)))
 | .bool i=>some (.E (dK (.bl i)))
 | .none=>some (.E (dK .non))
 | .str i=>some (.E (dK (.str i)))
 | _=>none
def EU(op:UnaryOp)(a:Expr):Option Dn:=match op with
 | .USub=>(cV r Γ dV a).map fun d=>.E (VE d)
 | .Not=>(cV r Γ dV a).map fun d=>.E (xo d)
 | _=>none
def Ip(a:Expr)(op:Operator)(b:Expr)(p:Pos):Option Dn:=(cV r Γ dV a).bind fun d=>(cV r Γ dV b).bind fun d'=>(match VF Γ p with
  | some _=>(match op with
   | .Add=>some (.F (Bg KF d d'))
   | _=>none)
  | none=>(EL op).map fun f=>.E (d2 f d d'))
def lV:CmpOp->Option (D->D->Option D)
 | .In=>some (G_ false)
 | .NotIn=>some (G_ true)
 | .Is=>some xD
 | .IsNot=>some Ge
 | _=>none
def BH(p:Pos)(o:CmpOp):Option (D->D->Option D):=if (VF Γ p).isSome then lV o else uK o
def Iq(a:Expr)(os:List CmpOp)(bs:List Expr)(p:Pos):Option DE:=match os,bs with
 | [o],[b]=>cG (!behindInMarks o b) ((cV r Γ dV a).bind fun d=>(cV r Γ dV b).bind fun d'=>(BH Γ p o).map fun f=>d2 f d d')
 | [o,o'],[b,c]=>cG (!lastMarks [o,o'] [b,c]) ((cV r Γ dV a).bind fun d=>(cV r Γ dV b).bind fun d'=>(cV r Γ dV c).bind fun d''=>(uK o).bind fun f=>(uK o').map fun f'=>Jc f f' d d' d'')
 | [o,o',o''],[b,c,e]=>cG (!lastMarks [o,o',o''] [b,c,e]) ((cV r Γ dV a).bind fun d=>(cV r Γ dV b).bind fun d'=>(cV r Γ dV c).bind fun d''=>(cV r Γ dV e).bind fun d3=>
   (uK o).bind fun f=>(uK o').bind fun f'=>(uK o'').map fun f''=>G8 f f' f'' d d' d'' d3)
 | _,_=>none
def Ir(a b:Expr)(p:Pos):Option Dn:=match b with
 | .Slice lo hi st _=>(match st with
  | none=>(cV r Γ dV a).bind fun d=>(AV r Γ lo).bind fun x=>(AV r Γ hi).map fun y=>(match VF Γ p with
   | some _=>.E (W5 d x y)
   | none=>.F (zf d x y))
  | some _=>none)
 | b=>cG (WT b) ((cV r Γ dV a).bind fun d=>(cV r Γ dV b).map fun d'=>.E (d2 (if (VF Γ p).isSome then JS else j9) d d'))
def BI(elt:Expr)(gs:List Comprehension)(scope:Scope)(p:Pos):Option DO:=match gs with
 | [⟨tg,iter,ifs,a⟩]=>cG (a==0) (ER r Γ elt tg iter ifs scope p)
 | _=>none
def EV(kx vx:Expr)(gs:List Comprehension)(scope:Scope)(p:Pos):Option DO:=match gs with
 | [⟨t1,i1,f1,a1⟩,⟨t2,i2,f2,a2⟩]=>
  let own:=gb 5 t1++gb 5 t2
  let caps:=vX Γ p
  let Δ:=Zz Γ own caps scope
  cG (BF Γ scope&&caps.all (xJ Γ scope)&&gc Δ.N&&WU (caps.map fun z:Str×Nat=>z.2)&&uL i1&&uL i2&&f1.isEmpty&&f2.isEmpty&&a1==0&&a2==0)
   ((cI r Γ t1 i1).bind fun di=>(r.g Δ own.length t1).bind fun g1=>(cI r Δ t2 i2).bind fun di2=>(r.g Δ own.length t2).bind fun g2=>(cV r Δ dC kx).bind fun dk=>(cV r Δ dC vx).map fun dv=>Qh own.length (caps.map fun z:Str×Nat=>z.2) di g1 di2 g2 dk dv)
 | _=>none
def EW(elt:Expr)(gs:List Comprehension)(scope:Scope)(p:Pos):Option DO:=match gs with
 | [⟨t1,i1,f1,a1⟩]=>
  let own:=gb 5 t1
  let caps:=vX Γ p
  let Δ:=Zz Γ own caps scope
  cG (BF Γ scope&&caps.all (xJ Γ scope)&&gc Δ.N&&WU (caps.map fun z:Str×Nat=>z.2)&&uL i1&&f1.isEmpty&&a1==0)
   ((cI r Γ t1 i1).bind fun di=>(r.g Δ own.length t1).bind fun g1=>(cV r Δ dC elt).map fun de=>Qi own.length (caps.map fun z:Str×Nat=>z.2) di g1 de)
 | _=>none
noncomputable def AZ(sc:Scope)(x:Str):Bool:=match kd sc x with
 | some .cell=>true
 | _=>false
def EX(a:Expr)(m:Str)(ap:Pos)(es:List Expr)(p:Pos):Option Dn:=match es with
 | []=>(match a with
  | .Name x np=>cG (ap.endLine==p.line) ((cV r Γ dV (.Name x np)).bind fun d=>match Γ.ms.lookup m with
   | some (.fE _ _ _ F)=>some (.E (d1 (Vp Γ.C m F) d))
   | _=>none)
  | _=>none)
 | [e1,e2]=>cG (m==("get" : Str)&&Kg a&&Yd e1&&Yd e2&&ap.endLine==p.line) ((cV r Γ dV a).bind fun da=>(cV r Γ dC e1).bind fun db=>(cV r Γ dC e2).map fun dc=>.E (xG da db dc))
 | _=>none
def Iu(f:Expr)(es:List Expr)(ks:List Keyword)(p:Pos):Option Dn:=match ks with
 | []=>(match f with
  | .Name x _=>BG r Γ x es p
  | .Attribute a m ap=>EX r Γ a m ap es p
  | _=>none)
 | [⟨some k,b,_⟩]=>(match f,es with
  | .Name x _,[a]=>cG (x==("min" : Str)&&k==("default" : Str)&&BE Γ x&&Yd a) ((cV r Γ dV a).bind fun d=>(cV r Γ dV b).map fun d'=>.E (d2 Kc d d'))
  | _,_=>none)
 | _=>none
def cN(e:Expr):Option Dn:=match e with
 | .Name x _=>cG (XX Γ x) (match Γ.gs.lookup x with
  | some (.con i)=>some (.E (dK (.int i)))
  | _=>none)
 | .Constant c _ _=>ET c
 | .UnaryOp op a _=>EU r Γ op a
 | .BinOp a op b p=>Ip r Γ a op b p
 | .Compare a os bs p=>(Iq r Γ a os bs p).map .E
 | .BoolOp op vs _=>(match op with
  | .And=>(cB r Γ Jt vs).map .E
  | .Or=>(cB r Γ UU vs).map .E)
 | .IfExp c a b _=>(r.t Γ c).bind fun t=>(cV r Γ dC a).bind fun d=>(cV r Γ dC b).map fun d'=>.E (GU t d d')
 | .Tuple es _ _=>cG (Nat.ble es.length 1000) ((cA r Γ (es.map fun _=>true) es).map fun l=>.E (yk l))
 | .List es _=>cG (Nat.ble es.length 1000) ((cA r Γ (es.map fun _=>true) es).map fun l=>.F (JN l))
 | .Dict ks vs _=>(match ks,vs with
  | [],[]=>some (.F Vs)
  | _,_=>none)
 | .Attribute a f _=>cG (Kg a&&Γ.fl.contains f) ((cV r Γ dV a).map fun d=>.E (d1 (jK Γ.C f) d))
 | .Subscript a b p=>Ir r Γ a b p
 | .ListComp elt gs scope p=>(BI r Γ elt gs scope p).map .F
 | .Call f es ks p=>Iu r Γ f es ks p
 | _=>none
noncomputable def BJ:Expr->Bool
 | .UnaryOp .Not _ _=>false
 | .BoolOp _ _ _=>false
 | .IfExp _ _ _ _=>false
 | .Compare _ _ _ _=>false
 | _=>true
def Iv(a:Expr)(os:List CmpOp)(bs:List Expr)(p:Pos):Option DT:=match os,bs with
 | [o],[b]=>cG (!behindInMarks o b) ((cV r Γ dV a).bind fun d=>(cV r Γ dV b).bind fun d'=>(BH Γ p o).map fun f=>jm (d2 f d d'))
 | [o,o'],[b,c]=>cG (!lastMarks [o,o'] [b,c]) ((cV r Γ dV a).bind fun d=>(cV r Γ dV b).bind fun d'=>(cV r Γ dV c).bind fun d''=>(uK o).bind fun f=>(uK o').map fun f'=>jm (Jc f f' d d' d''))
 | _,_=>none
def cT(e:Expr):Option DT:=match e with
 | .Compare a os bs p=>Iv r Γ a os bs p
 | .UnaryOp op a p=>(match op with
  | .Not=>(r.t Γ a).map J1
  | op=>cG (BJ (.UnaryOp op a p)) ((cV r Γ dV (.UnaryOp op a p)).map jZ))
 | .BoolOp op vs _=>(match op with
  | .And=>cW r Γ Je vs
  | .Or=>cW r Γ JR vs)
 | e=>cG (BJ e) ((cV r Γ dV e).map jZ)
def BK(k:Nat):List Expr->Option Xv
 | []=>some gZ
 | e::es=>cG (Yd e) ((r.g Γ k e).bind fun g=>(BK k es).map fun gs=>gC g gs)
def EY(k:Nat):Expr->Option DG
 | .Name x _=>(Kf Γ x).bind fun i=>cG (Nat.blt i k) (some (gN i))
 | .Tuple es _ _=>(BK r Γ k es).map fun gs=>gT es.length gs
 | _=>none
end
def rc:Nat->Rc
 | 0=>⟨fun _ _=>none,fun _ _=>none,fun _ _ _=>none⟩
 | n+1=>⟨cN (rc n),cT (rc n),EY (rc n)⟩
noncomputable def EZ:Stmt->Nat
 | .Return _ p=>p.line
 | .Assign _ _ p=>p.line
 | .AugAssign _ _ _ p=>p.line
 | .For _ _ _ _ p=>p.line
 | .While _ _ _ p=>p.line
 | .If _ _ _ p=>p.line
 | .Expr _ p=>p.line
 | _=>0
section
variable (r:Rc) (q:Gm->List Stmt->Option DS.DS) (Γ:Gm)
noncomputable def cF(e:Expr):Option DO:=match r.n Γ e with
 | some (.F d)=>some d
 | _=>none
noncomputable def uM:Expr->Bool
 | .ListComp _ _ _ _=>false
 | .SetComp _ _ _ _=>false
 | .DictComp _ _ _ _ _=>false
 | _=>true
def BL(scope:Scope)(x:Str)(np vp:Pos):Bool:=(match Γ.sc.kind with | .function=>true | _=>false)&&xI Γ.sc x&&np.line==vp.line&&!(scope.names.any fun(n,k)=>n==x&&(k==.local||k==.cell))
def Iw(x:Str)(np:Pos)(e:Expr):Option DS.DS:=(Kf Γ x).bind fun i=>match e with
 | .ListComp elt gs scope p=>(BI r Γ elt gs scope p).bind fun d=>cG (BL Γ scope x np p) (some (if Γ.ow.contains i then J_ i d else jp i (dL d)))
 | .SetComp elt gs scope p=>cG (BL Γ scope x np p) ((EW r Γ elt gs scope p).map fun d=>jp i (dL d))
 | .DictComp kx vx gs scope p=>cG (AZ Γ.sc x) ((EV r Γ kx vx gs scope p).map fun d=>jp i (dL d))
 | e=>cG (uM e) (if Γ.ow.contains i then(cF r Γ e).map (J_ i)else(cV r Γ dC e).map (jp i))
def E_(t e:Expr):Option DS.DS:=match t with
 | .Name x np=>Iw r Γ x np e
 | .Attribute o f _=>(nm Γ o).bind fun i=>cG (uM e&&Γ.fl.contains f) ((cV r Γ dC e).map fun d=>Vr i Γ.C f d)
 | .Subscript o j p=>(nm Γ o).bind fun i=>cG (uM e&&WT j) (if (VF Γ p).isSome then(cV r Γ dC j).bind fun dx=>(cV r Γ dC e).map fun d=>vT i dx d
   else(cV r Γ dV j).bind fun dx=>(cV r Γ dC e).map fun d=>Ga i dx d)
 | .Tuple es n p=>cG (uM e&&!Gi e) ((cV r Γ dC e).bind fun d=>(r.g Γ Γ.N.length (.Tuple es n p)).map fun g=>vR d g)
 | _=>none
def f9(t:Expr)(op:Operator)(e:Expr):Option DS.DS:=match t with
 | .Name x _=>(Kf Γ x).bind fun i=>(cV r Γ dV e).bind fun d=>(match op with
  | .Add=>some (xw i (fun i j=>i+j) d)
  | .Sub=>some (xw i (fun i j=>i - j) d)
  | _=>none)
 | _=>none
def Ix(f:Expr)(es:List Expr)(ks:List Keyword)(p:Pos):Option DS.DS:=match f,es,ks with
 | .Attribute o m ap,[e],[]=>(nm Γ o).bind fun i=>cG (m==("append" : Str)&&Yd e&&ap.endLine==p.line) ((cV r Γ dC e).map fun d=>yg i d)
 | _,_,_=>none
def Iy(e:Expr):Option DS.DS:=match e with
 | .Call f es ks p=>(match Ix r Γ f es ks p with
  | some d=>some d
  | none=>(cV r Γ dV (.Call f es ks p)).map vz)
 | e=>cG (uM e) ((cV r Γ dV e).map vz)
def cS(s:Stmt):Option DS.DS:=match s with
 | .Assign ts e _=>(match ts with
  | [t]=>E_ r Γ t e
  | _=>none)
 | .AugAssign t op e _=>f9 r Γ t op e
 | .Expr e _=>Iy r Γ e
 | .Return o _=>(match o with
  | none=>some (je (dK .non))
  | some e=>(match nm Γ e with
   | some i=>if Γ.ow.contains i then some (zL i)else some (je (dC i))
   | none=>if Γ.kF then(cF r Γ e).map Gb else(cV r Γ dC e).map je))
 | .If c a b _=>(r.t Γ c).bind fun t=>(q Γ a).bind fun x=>(q Γ b).map fun y=>jk t x y
 | .While c b o _=>(match o with
  | []=>(r.t Γ c).bind fun t=>(q Γ b).map fun x=>ZK t x 20000
  | _::_=>none)
 | .For tg it b o _=>(match o with
  | []=>cG (uL it) ((cI r Γ tg it).bind fun di=>(r.g Γ Γ.N.length tg).bind fun g=>(q Γ b).map fun x=>jD di g x)
  | _::_=>none)
 | _=>none
def Qm(l:Nat):List (Nat×Nat)->DS.DS->DS.DS
 | [],d=>d
 | (m,i)::r,d=>if m=l then u8 i (Qm l r d)else Qm l r d
noncomputable def lW:Stmt->Bool
 | .Raise _ _ _=>true
 | _=>false
def BM:List Stmt->Option DS.DS
 | []=>some jv
 | s::t=>if lW s then some Zw else(cS r q Γ s).bind fun d=>(match t with
  | []=>some (Qm (EZ s) Γ.sh d)
  | t=>(BM t).map fun d'=>Qm (EZ s) Γ.sh (j5 d d'))
end
def cQ(r:Rc):Nat->Gm->List Stmt->Option DS.DS
 | 0=>fun _ _=>none
 | n+1=>fun Γ=>BM r (cQ r n) Γ
section
variable (P:Program) (w:World) (K':Fr) (mg:Tx) (base:Heap) (C:Addr) (rm:Nat->Prop) (K:Fr) (x:Str)
def WV:GI->Prop
 | .con i=>∃t,mg x=some (.int i t)
 | .fE k ps ks F=>FnI P w K' mg base k x ps (K3 K ks F)/\rm k
 | .fF k ps ks F=>FnI P w K' mg base k x ps (Xy K ks F)/\rm k
 | .mk k ps ks F G=>MkI P w K' mg base k C x ps (Bp K C ks F)/\(∀p ds o,G ds=some o->F p ds=some o)/\rm (k+1)
 | .fT k ps ks F=>FnI P w K' mg base k x ps (XV K ks F)/\rm k
 | .blt=>mg x=none
def Qo:GI->Prop
 | .fE k ps _ F=>MtI P w K' mg base k C x ps (K3 K [false] F)/\rm k
 | .fF k ps _ F=>MtI P w K' mg base k C x ps (Xy K [false] F)/\rm k
 | _=>True
end
structure OkX (K:Fr) (Γ:Gm) (X:Cx):Prop where
 n:X.N=Γ.N
 sc:X.env.scope=Γ.sc
 nd:Γ.N.Nodup
 calm:X.calm=true
 k:X.K=K
 room:Room 0 X.A
 fn:Γ.fn=true->∀x,X.fn x=true
 gs:∀x g,Γ.gs.lookup x=some g->WV X.prog X.w X.K X.mg X.base Γ.C (fun k=>Room k X.A) K x g
 ms:∀x g,Γ.ms.lookup x=some g->Qo X.prog X.w X.K X.mg X.base Γ.C (fun k=>Room k X.A) K x g
 cl:Cls K Γ.C
 fl:∀f,Γ.fl.contains f=true->YY K Γ.C f
def gf(X:Cx)(K:Fr)(e:Expr):Dn->Prop
 | .E d=>PE X e (tE K d)
 | .F d=>PE X e (tF K d)
structure RcOk (r:Rc):Prop where
 n:∀{K:Fr} {Γ:Gm} {X:Cx} {e:Expr} {d:Dn},OkX K Γ X->r.n Γ e=some d->gf X K e d
 t:∀{K:Fr} {Γ:Gm} {X:Cx} {e:Expr} {d:DT},OkX K Γ X->r.t Γ e=some d->PT X e (tT K d)
 g:∀{K:Fr} {Γ:Gm} {X:Cx} {k:Nat} {e:Expr} {d:DG},OkX K Γ X->r.g Γ k e=some d->PG X e (tG K k d)
def jt(h:cG c o=some y):c=true/\o=some y:=by
 cases c with
 | true=>exact⟨rfl,h⟩
 | false=>cases h
def jf(h:o.map f=some y):∃x,o=some x/\f x=y:=by
 cases o with
 | none=>cases h
 | some x=>exact⟨x,rfl,vFa h⟩
def jl{a b:Bool}(h:(a&&b)=true):a=true/\b=true:=by simpa using h
def ZA(h:(!a)=true):a=false:=by simpa using h
set_option tactic.hygienic true
theorem k9{x:Str}:∀{l:List Str} {i:Nat},KQ x l=some i->l[i]?=some x
 | [],_,h=>by cases h
 | y::r,i,h=>by
  unfold KQ at h;split at h
  ·cases h;rename_i e;rw[e];rfl
  ·obtain⟨j,h1,h2⟩:=jf h;rw[<-h2];simpa using k9 h1
section
variable {r:Rc} {Γ:Gm} {X:Cx} {K:Fr} {x y:Str} {i:Nat} {e a b c tg:Expr} {es:List Expr} {pos:Pos} {d:DE}
def fc(h:xH sc x=true):Q3 sc x:=by
 unfold xH at h;split at h <;> first | cases h | skip
 ·exact .inl (by assumption)
 ·exact .inr (.inl (by assumption))
 ·exact .inr (.inr (by assumption))
def XY(h:WS sc x=true):UA sc x:=by
 unfold WS at h;split at h <;> first | cases h | skip
 ·exact .inl (by assumption)
 ·exact .inr (by assumption)
def XZ{sc:Scope}(h:xI sc x=true):sc.names.lookup x=some .local:=by
 unfold xI at h;split at h
 ·assumption
 ·cases h
def W9(h:OkX K Γ X)(g:XX Γ x=true):Gl X x/\(x==("__debug__" : Str))=false:=by
 obtain⟨g1,g2⟩:=jl g;refine⟨?_,ZA g2⟩;show X.env.scope.names.lookup x=_;rw[h.sc];split at g1
 ·assumption
 ·cases g1
def WW(h:OkX K Γ X)(g:BE Γ x=true):Gl X x/\X.mg x=none:=by
 obtain⟨g1,g2⟩:=jl g;refine⟨(W9 h g1).1,?_⟩;split at g2
 ·exact h.gs x _ (by assumption)
 ·cases g2
theorem A_(e:slot Γ x=some i):KQ x Γ.N=some i/\xH Γ.sc x=true/\(x==("__debug__" : Str))=false/\(x==("__classdict__" : Str))=false:=by
 obtain⟨j,e1,e2⟩:=j6 e;split at e2
 ·cases e2;rename_i hh;obtain⟨h1,h2⟩:=jl hh;obtain⟨h2,h3⟩:=jl h2;exact⟨e1,h1,ZA h2,ZA h3⟩
 ·cases e2
def JY(h:OkX K Γ X)(e:slot Γ x=some i):PE X (.Name x pos) (zo i):=by
 obtain⟨h1,h2,h3,h4⟩:=A_ e;exact pv i (by rw[h.n];exact k9 h1) (by rw[h.sc];exact fc h2) h3 h4
def Zl(h:nm Γ e=some i):∃x pos,e=.Name x pos/\slot Γ x=some i:=by
 cases e with
 | Name x p=>exact⟨_,_,rfl,h⟩
 | _=>cases h
theorem ZN(h:OkX K Γ X)(e:Kf Γ x=some i):X.N.Nodup/\X.N[i]?=some x/\UA X.env.scope x/\(X.fn x=true \/ X.env.scope.names.lookup x=some .local):=by
 obtain⟨j,e1,e2⟩:=j6 e;split at e2
 ·cases e2;rename_i hh;obtain⟨h1,h2⟩:=jl hh;refine⟨by rw[h.n];exact h.nd,by rw[h.n];exact k9 e1,by rw[h.sc];exact XY h1,?_⟩;rw[Bool.or_eq_true]at h2;rcases h2 with h2 | h2
  ·exact .inl (h.fn h2 x)
  ·exact .inr (by rw[h.sc];exact XZ h2)
 ·cases e2
def jN(h:Yd e=true):starEach (e::es) env=(false,eval e env)::starEach es env:=by
 cases e <;> first | rfl | cases h
theorem zu:∀{es:List Expr},(∀e∈es,Yd e=true)->(backTo pos (starEach es env)).any (·.1)=false
 | [],_=>rfl
 | e::es,h=>by
  rw[jN (h e List.mem_cons_self)];show(false||(backTo pos (starEach es env)).any (·.1))=false;rw[zu fun x hx=>h x (List.mem_cons_of_mem _ hx)];rfl
def u4(h:Kg e=true):attributeBase e f env (eval e env)=eval e env:=by
 cases e <;> first | rfl | cases h
def uN(h:WT b=true):Kz b:=by
 cases b <;> first | (intro _ _;rfl) | cases h
def ue(h:uL e=true):∀x,foldedSetIterable e env x=pure x:=by
 cases e <;> first | (intro _;rfl) | cases h
def vY(h:uM e=true):swapsWith e t l env=pure false:=by
 cases e <;> first | rfl | cases h
def WX{f:Nat->DE}(h:cV r Γ f e=some d):(∃i,nm Γ e=some i/\d=f i) \/∃n,r.n Γ e=some n/\d=n.e:=by
 unfold cV at h;split at h
 ·exact .inl ⟨_,by assumption,(vFa h).symm⟩
 ·obtain⟨n,h1,h2⟩:=jf h;exact .inr ⟨n,h1,h2.symm⟩
def b7{n:Dn}(h:gf X K e n):PE X e (tE K n.e):=by
 cases n with
 | E d=>exact h
 | F d=>exact eD h
variable (R:RcOk r) (h:OkX K Γ X)
include R h
theorem JM(q:cV r Γ dC e=some d):PE X e (tE K d):=by
 rcases WX q with⟨i,q1,rfl⟩ | ⟨n,q1,rfl⟩
 ·obtain⟨x,p,rfl,q2⟩:=Zl q1;exact Be i (JY h q2)
 ·exact b7 (R.n h q1)
theorem jL(q:cV r Γ dV e=some d):PE X e (tR K d):=by
 rcases WX q with⟨i,q1,rfl⟩ | ⟨n,q1,rfl⟩
 ·obtain⟨x,p,rfl,q2⟩:=Zl q1;exact F_ i (JY h q2)
 ·exact IZ (b7 (R.n h q1))
theorem uO(q:cV r Γ dP e=some d):PE X e (tP K d):=by
 rcases WX q with⟨i,q1,rfl⟩ | ⟨n,q1,rfl⟩
 ·obtain⟨x,p,rfl,q2⟩:=Zl q1;exact HC i (JY h q2)
 ·exact lC (b7 (R.n h q1))
theorem vA:∀{ks:List Bool} {es:List Expr} {l:DA},cA r Γ ks es=some l->PA X es (Ze K l)/\l.map (·.1)=ks/\(∀e∈es,Yd e=true)/\l.length=es.length
 | [],[],l,q=>by cases q;exact⟨Ht,rfl,(fun _ h=>by cases h),rfl⟩
 | k::ks,e::es,l,q=>by
  unfold cA at q;split at q
  ·rename_i hs;obtain⟨d,q1,q⟩:=j6 q;obtain⟨l',q2,q⟩:=j6 q;cases q;obtain⟨a1,a2,a3,a4⟩:=vA q2;refine⟨?_,by simp[a2],fun z hz=>?_,by simp[a4]⟩
   ·cases k with
    | true=>exact lv (JM R h q1) a1 (jN hs)
    | false=>exact lw (jL R h q1) a1 (jN hs)
   ·rcases uTa hz with rfl | hz
    ·exact hs
    ·exact a3 z hz
  ·cases q
 | [],_::_,_,q=>by cases q
 | _::_,[],_,q=>by cases q
omit R in
theorem fe(q:EL op=some f):∃t,j_ X (binaryOp op) t/\Jv K t f:=by
 have:=h.k;subst this;cases op <;> cases q
 ·exact⟨_,Cf,Hi⟩
 ·exact⟨_,Dp,hZ⟩
 ·exact⟨_,Ce,Ec⟩
 ·exact⟨_,Dr,Ha⟩
 ·exact⟨_,Ds,Hc⟩
 ·exact⟨_,cr,Hb⟩
omit R in
theorem ZO(q:uK op=some f):∃t,j_ X (compareOp op) t/\Jv K t f:=by
 have:=h.k;subst this;cases op <;> cases q
 ·exact⟨_,Eh h.room,lJ⟩
 ·exact⟨_,Ei h.room,lK⟩
 ·exact⟨_,FO,l8⟩
 ·exact⟨_,FP,ld⟩
 ·exact⟨_,FQ,lf⟩
 ·exact⟨_,FR,lg⟩
 ·exact⟨_,Dv,He⟩
 ·exact⟨_,cw,eK⟩
 ·exact⟨_,Xf,Ej⟩
 ·exact⟨_,Wm,Ej⟩
omit R in
theorem X_(q:BH Γ p op=some f):∃t,j_ X (compareOp op) t/\Jv K t f:=by
 unfold BH at q;split at q
 ·have:=h.k;subst this;cases op <;> cases q
  ·exact⟨_,Ez,ic⟩
  ·exact⟨_,Cp,EA⟩
  ·exact⟨_,XI h.room,Bx⟩
  ·exact⟨_,WJ h.room,Bx⟩
 ·exact ZO h q
theorem a8:∀{vs:List Expr} {d:DE},cB r Γ Jt vs=some d->PE X (.BoolOp .And vs pos) (tE K d)
 | [],_,q=>by cases q
 | [a],_,q=>Bj (JM R h q)
 | a::b::c,d,q=>by
  unfold cB at q;obtain⟨d1,q1,q⟩:=j6 q;obtain⟨d2,q2,q⟩:=j6 q;cases q;exact Ho (jL R h q1) (a8 q2)
theorem BN:∀{vs:List Expr} {d:DE},cB r Γ UU vs=some d->PE X (.BoolOp .Or vs pos) (tE K d)
 | [],_,q=>by cases q
 | [a],_,q=>Bj (JM R h q)
 | a::b::c,d,q=>by
  unfold cB at q;obtain⟨d1,q1,q⟩:=j6 q;obtain⟨d2,q2,q⟩:=j6 q;cases q;exact lu (jL R h q1) (BN q2)
theorem a9:∀{vs:List Expr} {d:DT},cW r Γ Je vs=some d->PW X (.BoolOp .And vs pos) (tT K d)
 | [],_,q=>by cases q
 | [a],_,q=>eQ (R.t h q)
 | a::b::c,d,q=>by
  unfold cW at q;obtain⟨d1,q1,q⟩:=j6 q;obtain⟨d2,q2,q⟩:=j6 q;cases q;exact Hn (R.t h q1) (a9 q2)
theorem BO:∀{vs:List Expr} {d:DT},cW r Γ JR vs=some d->PW X (.BoolOp .Or vs pos) (tT K d)
 | [],_,q=>by cases q
 | [a],_,q=>Hm (R.t h q)
 | a::b::c,d,q=>by
  unfold cW at q;obtain⟨d1,q1,q⟩:=j6 q;obtain⟨d2,q2,q⟩:=j6 q;cases q;exact lr (R.t h q1) (BO q2)
theorem Gj(q:AV r Γ o=some p):PO X o (Wz K p):=by
 cases o with
 | none=>cases q;exact lx
 | some e=>
  obtain⟨d,q1,rfl⟩:=jf q;exact ly (jL R h q1)
theorem ab(q:EM r Γ e=some di):PI X tg e (zF K di):=by
 obtain⟨d,q1,rfl⟩:=jf q;split
 ·exact Es (uO R h q1)
 ·exact HD (uO R h q1) h.k
omit R h in
theorem ka(t:Gi e=true):∃es n p,e=.Tuple es n p:=by
 cases e <;> first | exact⟨_,_,_,rfl⟩ | cases t
theorem fg(q:EN r Γ (Gi tg) x es=some di):PI X tg (.Call (.Name x np) es [] pos) (zF K di):=by
 unfold EN at q;split at q
 ·rename_i hb;obtain⟨g1,g2⟩:=WW h hb;split at q
  ·split at q
   ·rename_i ex;subst ex;obtain⟨s1,q⟩:=jt q;obtain⟨d,q1,rfl⟩:=jf q;exact eY g1 g2 (jL R h q1) (jN s1)
   ·split at q
    ·rename_i ex;subst ex;obtain⟨s1,q⟩:=jt q;obtain⟨u1,u2⟩:=jl s1;obtain⟨d,q1,rfl⟩:=jf q;obtain⟨_,_,_,rfl⟩:=ka u2;exact eZ g1 g2 (uO R h q1) (jN u1) h.k
    ·split at q
     ·rename_i ex;subst ex;obtain⟨s1,q⟩:=jt q;obtain⟨d,q1,rfl⟩:=jf q;exact HR g1 g2 (uO R h q1) (jN s1) h.k
     ·cases q
  ·split at q
   ·rename_i ex;subst ex;obtain⟨s1,q⟩:=jt q;obtain⟨u1,u3⟩:=jl s1;obtain⟨u1,u2⟩:=jl u1;obtain⟨d,q1,q⟩:=j6 q;obtain⟨d',q2,rfl⟩:=jf q;obtain⟨_,_,_,rfl⟩:=ka u3;exact HF g1 g2 (uO R h q1) (uO R h q2) (by rw[jN u1,jN u2];rfl) (jN u2) h.k
   ·cases q
  ·cases q
 ·cases q
theorem fh(q:EO r Γ tg (.Call f as ks p) f as ks p=some di):PI X tg (.Call f as ks p) (zF K di):=by
 unfold EO at q;cases f with
 | Name x p'=>
  cases ks with
  | nil=>
   dsimp only at q;split at q
   ·cases q;exact fg R h (by assumption)
   ·exact ab R h q
  | cons _ _=>cases q
 | Attribute a m ap=>
  rcases as with _ | ⟨_,_⟩ <;> rcases ks with _ | ⟨_,_⟩ <;> try (cases q;done)
  ·obtain⟨z,q⟩:=jt q;obtain⟨z,z4⟩:=jl z;obtain⟨z,z3⟩:=jl z;obtain⟨z1,z2⟩:=jl z;obtain⟨d,q1,rfl⟩:=jf q;have e1:=vLa z1;subst e1;obtain⟨_,_,_,rfl⟩:=ka z2;exact Cn (uO R h q1) (u4 z3) z4
 | _=>cases q
theorem Kh(q:cI r Γ tg e=some di):PI X tg e (zF K di):=by
 cases e with
 | Call f as ks p=>exact fh R h q
 | _=>exact ab R h (jt q).2
end
theorem Gk:∀{l:List Str},gc l=true->l.Nodup
 | [],_=>List.nodup_nil
 | x::r,h=>by
  obtain⟨h1,h2⟩:=jl h;refine List.nodup_cons.mpr ⟨fun z=>?_,Gk h2⟩;rw[List.contains_iff_mem.mpr z]at h1;cases h1
theorem Gn:∀{l:List Nat},WU l=true->l.Nodup
 | [],_=>List.nodup_nil
 | x::r,h=>by
  obtain⟨h1,h2⟩:=jl h;refine List.nodup_cons.mpr ⟨fun z=>?_,Gn h2⟩;rw[List.contains_iff_mem.mpr z]at h1;cases h1
structure LcP (X:Cx) (K:Fr) (elt tg iter:Expr) (ifs:List Expr) (scope:Scope) (own:List Str) (caps:Tj) (di:DI) (g:DG) (dc:DT) (de:DE):Prop where
 S:CScope X scope
 cp:Caps X scope caps
 i:PI X tg iter (zF K di)
 g:∀s3 H3 ex',PG (X.comp (L2.cN own caps) scope s3 H3 ex') tg (tG K own.length g)
 t:∀s3 H3 ex',ZW (X.comp (L2.cN own caps) scope s3 H3 ex') ifs (tT K dc)
 e:∀s3 H3 ex',PE (X.comp (L2.cN own caps) scope s3 H3 ex') elt (tE K de)
 nd:(caps.map (·.2)).Nodup
 fs:∀x,foldedSetIterable iter X.env x=pure x
section
variable {r:Rc} {Γ:Gm} {X:Cx} {K:Fr} {x y:Str} {i:Nat} {e a b c tg:Expr} {es:List Expr} {pos:Pos} {d:DE}
def yE{own:List Str}{caps:Tj}{scope:Scope}(h:OkX K Γ X)(hn:gc (Zz Γ own caps scope).N=true){s3:Shared}{H3:Hp}{ex':List Addr}:OkX K (Zz Γ own caps scope) (X.comp (L2.cN own caps) scope s3 H3 ex') where
 n:=rfl
 sc:=by
  show relabel scope X.env=EQ scope Γ.sc;rw[<-h.sc];rfl
 nd:=Gk hn
 calm:=h.calm
 k:=h.k
 room:=h.room
 fn:=fun z=>by cases z
 gs:=h.gs
 ms:=h.ms
 cl:=h.cl
 fl:=h.fl
def xK{scope:Scope}(h:OkX K Γ X)(q:BF Γ scope=true):CScope X scope:=by
 obtain⟨q,q4⟩:=jl q;obtain⟨q,q3⟩:=jl q;obtain⟨q1,q2⟩:=jl q;refine⟨?_,q2,q3,by rw[h.sc];exact q4⟩;split at q1
 ·assumption
 ·cases q1
theorem Go{scope:Scope}(h:OkX K Γ X):∀{caps:Tj},caps.all (xJ Γ scope)=true->Caps X scope caps
 | [],_=>.nil
 | (y,j)::r,q=>by
  rw[List.all_cons]at q;obtain⟨q1,q2⟩:=jl q;obtain⟨q1,q5⟩:=jl q1;obtain⟨q3,q4⟩:=jl q1;refine .cons ?_ ?_ ?_ (Go h q2)
  ·rw[h.n];dsimp only at q3;split at q3
   ·rename_i z hz;rw[hz,eq_of_beq q3]
   ·cases q3
  ·show X.env.scope.names.lookup y=_ \/ X.env.scope.names.lookup y=_;rw[h.sc];split at q4
   ·exact .inl (by assumption)
   ·exact .inr (by assumption)
   ·cases q4
  ·split at q5
   ·assumption
   ·cases q5
variable (R:RcOk r) (h:OkX K Γ X)
include R h
theorem fj{elt iter:Expr}{ifs:List Expr}{scope:Scope}{p:Pos}{d:DO}(q:ER r Γ elt tg iter ifs scope p=some d):
  ∃own caps di g dc de,d=JO own.length (caps.map (·.2)) di g dc de/\LcP X K elt tg iter ifs scope own caps di g dc de:=by
 unfold ER at q;dsimp only at q;obtain⟨z,q⟩:=jt q;obtain⟨z,z5⟩:=jl z;obtain⟨z,z4⟩:=jl z;obtain⟨z,z3⟩:=jl z;obtain⟨z1,z2⟩:=jl z;obtain⟨di,q1,q⟩:=j6 q;obtain⟨g,q2,q⟩:=j6 q;obtain⟨dc,q3,q⟩:=j6 q;obtain⟨de,q4,q⟩:=j6 q;refine⟨_,_,di,g,dc,de,(vFa q).symm,xK h z1,Go h z2,Kh R h q1,fun _ _ _=>R.g (yE h z3) q2,fun _ _ _=>?_,fun _ _ _=>JM R (yE h z3) q4,Gn z4,ue z5⟩;split at q3
 ·cases q3;exact lE
 ·exact lG (R.t (yE h z3) q3)
 ·cases q3
omit R in
theorem CB{n:Option (List Nat)}{l:DA}{f:List D->Option D}{np:Pos}(q:AW x n=some f)(g1:Gl X x)(g2:X.mg x=none)(ha:PA X (e::es) (Ze K l))(he:starEach (e::es) X.env=(false,eval e X.env)::starEach es X.env)(hpl:(backTo pos (starEach es X.env)).any (·.1)=false):
  PE X (.Call (.Name x np) (e::es) [] pos) (tE K (ja f l)):=by
 have:=h.k;subst this;unfold AW at q;split at q
 ·rename_i ex;subst ex;cases q;rcases n with _ | ⟨_ | _⟩
  ·exact jF (Ys Wn g1 g2 PySem.boot_len ha (by decide) (by decide) he hpl) (ZI Hy)
  ·exact jF (Ys XJ g1 g2 PySem.boot_len ha (by decide) (by decide) he hpl) (ZI ED)
  ·exact jF (Ys XT g1 g2 PySem.boot_len ha (by decide) (by decide) he hpl) (ZI EE)
 split at q
 ·rename_i ex;subst ex;cases q;exact jF (Vk wV g1 g2 PyProof.Rows.boot_tuple ha (by decide) (by decide) he hpl) (ZI C6)
 split at q
 ·rename_i ex;subst ex;cases q;exact jF (Ys (Ap h.calm) g1 g2 PyProof.Rows.boot_all ha (by decide) (by decide) he hpl) (ZI HA)
 split at q
 ·rename_i ex;subst ex;cases q;exact jF (Ys (X7 h.calm) g1 g2 PyProof.Rows.boot_max ha (by decide) (by decide) he hpl) (ZI Hz)
 split at q
 ·rename_i ex;subst ex;cases q;exact jF (Ys (AI h.calm) g1 g2 PyProof.Rows.boot_sum ha (by decide) (by decide) he hpl) (ZI HS)
 split at q
 ·rename_i ex;subst ex;cases q;exact jF (Ys (AN h.calm) g1 g2 PyProof.Rows.boot_any ha (by decide) (by decide) he hpl) (ZI H_)
 ·cases q
omit R in
theorem CD{l:DA}{b:Bool}{f:List D->Option OD}{np:Pos}(q:AX x b=some f)(g1:Gl X x)(g2:X.mg x=none)(ha:PA X (e::es) (Ze K l))(he:starEach (e::es) X.env=(false,eval e X.env)::starEach es X.env)(hpl:(backTo pos (starEach es X.env)).any (·.1)=false):
  PE X (.Call (.Name x np) (e::es) [] pos) (tF K (Jm f l)):=by
 have:=h.k;subst this;unfold AX at q;split at q
 ·rename_i ex;subst ex;cases q;cases b
  ·exact jF (Vk Wo g1 g2 PyProof.Rows.boot_list ha (by decide) (by decide) he hpl) (KG eU)
  ·exact jF (Vk (xA h.calm) g1 g2 PyProof.Rows.boot_list ha (by decide) (by decide) he hpl) (KG Cm)
 split at q
 ·rename_i ex;subst ex;cases q;exact jF (Vk (xE h.calm h.room) g1 g2 PyProof.Rows.boot_dict ha (by decide) (by decide) he hpl) (KG Ct)
 ·cases q
omit R h in
theorem CF(q:AY t=some T):bootBuiltins t=some (.type T)/\t≠ "__name__" /\(t==("__debug__" : Str))=false:=by
 unfold AY at q
 repeat (split at q;· rename_i ex;subst ex;cases q;exact⟨by first | exact PyProof.Rows.boot_list | exact PyProof.Rows.boot_tuple | exact PyProof.Rows.boot_bool | exact PyProof.Rows.boot_str | exact PyProof.Rows.boot_int,by decide,by decide⟩)
 cases q
theorem CG{n:Dn}{np:Pos}(g1:Gl X "isinstance")(g2:X.mg "isinstance" = none)(q:ES r Γ es=some n):gf X K (.Call (.Name "isinstance" np) es [] pos) n:=by
 rcases es with _ | ⟨a,_ | ⟨t,_ | ⟨_,_⟩⟩⟩ <;> try (cases q;done)
 cases t with
 | Name t p'=>
   obtain⟨z,q⟩:=jt q;obtain⟨z3,z4⟩:=jl z;obtain⟨T,q1,q⟩:=j6 q;obtain⟨d,q2,rfl⟩:=jf q;obtain⟨b1,b2,b3⟩:=CF q1;obtain⟨k1,k2⟩:=WW h z4;exact HL (Ys Aq g1 g2 PyProof.Rows.boot_isinstance (JE (jL R h q2) (JE (cm (v:=.ty T) k1 k2 b1 rfl b2 b3) Yr) (jN z3)) (by decide) (by decide) (jN z3)) h.k
 | _=>cases q
theorem b9{n:Dn}{np:Pos}(q0:BG r Γ x es pos=some n):gf X K (.Call (.Name x np) es [] pos) n:=by
 obtain⟨z,q⟩:=jt q0;clear q0;obtain⟨z1,z2⟩:=jl z;obtain⟨g1,g3⟩:=W9 h z1;cases es with
 | nil=>cases z2
 | cons e es=>
 split at q
 ·rename_i hl;obtain⟨l,q1,rfl⟩:=jf q;obtain⟨a1,a2,a3,_⟩:=vA R h q1;obtain⟨G,hr⟩:=h.gs _ _ hl;exact Xz G hr a1 a2 g1 g3 (jN (a3 _ wNa)) (zu fun z hz=>a3 z (wMa _ hz))
 ·rename_i hl;obtain⟨l,q1,rfl⟩:=jf q;obtain⟨a1,a2,a3,_⟩:=vA R h q1;obtain⟨G,hr⟩:=h.gs _ _ hl;exact E2 G hr a1 a2 g1 g3 (jN (a3 _ wNa)) (zu fun z hz=>a3 z (wMa _ hz))
 ·rename_i hl;obtain⟨l,q1,rfl⟩:=jf q;obtain⟨a1,a2,a3,_⟩:=vA R h q1;obtain⟨G,hr⟩:=h.gs _ _ hl;exact Xz (Lv G) hr a1 a2 g1 g3 (jN (a3 _ wNa)) (zu fun z hz=>a3 z (wMa _ hz))
 ·rename_i hl;obtain⟨l,q1,rfl⟩:=jf q;obtain⟨a1,a2,a3,_⟩:=vA R h q1;obtain⟨G,hF,hr⟩:=h.gs _ _ hl;exact E3 G hF hr a1 a2 g1 g3 (jN (a3 _ wNa)) (zu fun z hz=>a3 z (wMa _ hz))
 ·rename_i hl;have g2:X.mg x=none:=h.gs _ _ hl;split at q
  ·rename_i ex;subst ex;exact CG R h g1 g2 q
  ·obtain⟨l,q1,q⟩:=j6 q;obtain⟨a1,a2,a3,_⟩:=vA R h q1;have s1:=jN (es:=es) (env:=X.env) (a3 _ wNa);have s2:=zu (pos:=pos) (env:=X.env) fun z hz=>a3 z (wMa _ hz);split at q
   ·rename_i hb;cases q;exact CB h hb g1 g2 a1 s1 s2
   ·obtain⟨f,q2,rfl⟩:=jf q;exact CD h q2 g1 g2 a1 s1 s2
 ·cases q
omit R h in
theorem zw:∀{l:DA} {es:List Expr},l.map (·.1)=(es.map fun _=>true)->(l.map (·.1)).all id=true:=fun {l es} q=>by
 rw[q];simp
omit R h in
theorem CH(hl:(ap.endLine==cp.line)=true):eval (.Call (.Attribute (.Name x p) m ap) [] [] cp) env=(do
   let ov<-eval (.Name x p) env
   standAt ap.atName
   let (f,first)<-holding [ov] (getMethod ov m (do return (<-importBound (.Name x p) env).getD true))
   callWith cp f first (backTo cp (starEach [] env)) (backToKw cp (keywordEach [] env))):=by
 have e:methodCallPos true (.Name x p) env ap cp=pure cp:=by unfold methodCallPos;rw[hl];rfl
 have f:methodCallForm 0 (backTo cp (starEach [] env)) (backToKw cp (keywordEach [] env))=true:=rfl;show(do
  let ov<-eval (.Name x p) env
  standAt ap.atName
  methodCall (.Name x p) m ap cp env ov 0 (backTo cp (starEach [] env)) (backToKw cp (keywordEach [] env)))=_
 unfold methodCall;rw[f,e];rfl
omit R h in
theorem fq{c:Const}{k:Nat}{n:Dn}(q:ET c=some n):gf X K (.Constant c k pos) n:=by
 unfold ET at q;split at q <;> cases q
 ·exact hU
 ·exact I_
 ·exact Bf
 ·exact hV
theorem fv{op:UnaryOp}{n:Dn}(q:EU r Γ op a=some n):gf X K (.UnaryOp op a pos) n:=by
 unfold EU at q;split at q
 ·obtain⟨d,q1,rfl⟩:=jf q;exact Hr (jL R h q1)
 ·obtain⟨d,q1,rfl⟩:=jf q;exact Hq (jL R h q1)
 ·cases q
theorem fw{op:Operator}{n:Dn}(q:Ip r Γ a op b pos=some n):gf X K (.BinOp a op b pos) n:=by
 obtain⟨d,q1,q⟩:=j6 q;obtain⟨d',q2,q⟩:=j6 q;split at q
 ·split at q
  ·cases q;exact l7 DZ Hh (jL R h q1) (jL R h q2)
  ·cases q
 ·obtain⟨f,q3,rfl⟩:=jf q;obtain⟨t,o1,o2⟩:=fe h q3;exact l6 o1 o2 (jL R h q1) (jL R h q2)
theorem fz{os:List CmpOp}{bs:List Expr}{d:DE}(q:Iq r Γ a os bs pos=some d):PE X (.Compare a os bs pos) (tE K d):=by
 rcases os with _ | ⟨o,_ | ⟨o',_ | ⟨o'',_ | ⟨_,_⟩⟩⟩⟩ <;> rcases bs with _ | ⟨b,_ | ⟨c,_ | ⟨e,_ | ⟨_,_⟩⟩⟩⟩ <;> try (cases q;done)
 ·obtain⟨z,q⟩:=jt q;obtain⟨d,q1,q⟩:=j6 q;obtain⟨d',q2,q⟩:=j6 q;obtain⟨f,q3,rfl⟩:=jf q;obtain⟨t,o1,o2⟩:=X_ h q3;exact hW o1 o2 (jL R h q1) (jL R h q2) (ZA z)
 ·obtain⟨z,q⟩:=jt q;obtain⟨d,q1,q⟩:=j6 q;obtain⟨d',q2,q⟩:=j6 q;obtain⟨d'',q3,q⟩:=j6 q;obtain⟨f,p1,q⟩:=j6 q;obtain⟨f',p2,rfl⟩:=jf q;obtain⟨t,o1,o2⟩:=ZO h p1;obtain⟨t',o1',o2'⟩:=ZO h p2;exact C4 o1 o1' o2 o2' (jL R h q1) (jL R h q2) (jL R h q3) (ZA z)
 ·obtain⟨z,q⟩:=jt q;obtain⟨d,q1,q⟩:=j6 q;obtain⟨d',q2,q⟩:=j6 q;obtain⟨d'',q3,q⟩:=j6 q;obtain⟨d3,q4,q⟩:=j6 q;obtain⟨f,p1,q⟩:=j6 q;obtain⟨f',p2,q⟩:=j6 q;obtain⟨f'',p3,rfl⟩:=jf q;obtain⟨t,o1,o2⟩:=ZO h p1;obtain⟨t',o1',o2'⟩:=ZO h p2;obtain⟨t'',o1'',o2''⟩:=ZO h p3;exact Av o1 o1' o1'' o2 o2' o2'' (jL R h q1) (jL R h q2) (jL R h q3) (jL R h q4) (ZA z)
theorem fA{n:Dn}(q:Ir r Γ a b pos=some n):gf X K (.Subscript a b pos) n:=by
 have hK:=h.k;have fb:∀{b},cG (WT b) ((cV r Γ dV a).bind fun d=>(cV r Γ dV b).map fun d'=>.E (d2 (if (VF Γ pos).isSome then JS else j9) d d'))=some n->gf X K (.Subscript a b pos) n:=fun q=>by
  obtain⟨z,q⟩:=jt q;obtain⟨d,q1,q⟩:=j6 q;obtain⟨d',q2,rfl⟩:=jf q;subst hK;split
  ·exact eF (En h.room) HP (jL R h q1) (jL R h q2) (uN z)
  ·exact eF DN lj (jL R h q1) (jL R h q2) (uN z)
 cases b with
 | Slice lo hi st p=>
  cases st with
  | none=>
   obtain⟨d,q1,q⟩:=j6 q;obtain⟨u,q2,q⟩:=j6 q;obtain⟨v,q3,rfl⟩:=jf q;split
   ·exact Hx (jL R h q1) (Gj R h q2) (Gj R h q3) hK
   ·exact Hw (jL R h q1) (Gj R h q2) (Gj R h q3) hK
  | some _=>cases q
 | _=>exact fb q
theorem ad{elt:Expr}{gs:List Comprehension}{scope:Scope}{d:DO}(q:BI r Γ elt gs scope pos=some d):
  ∃tg iter ifs own caps di g dc de,gs=[⟨tg,iter,ifs,0⟩]/\d=JO own.length (caps.map (·.2)) di g dc de/\LcP X K elt tg iter ifs scope own caps di g dc de:=by
 unfold BI at q;split at q
 ·obtain⟨z,q⟩:=jt q;have z0:=vLa z;subst z0;obtain⟨own,caps,di,g,dc,de,rfl,L⟩:=fj R h q;exact⟨_,_,_,own,caps,di,g,dc,de,rfl,rfl,L⟩
 ·cases q
theorem fG{kx vx:Expr}{gs:List Comprehension}{scope:Scope}{d:DO}(q:EV r Γ kx vx gs scope pos=some d):PE X (.DictComp kx vx gs scope pos) (tF K d):=by
 have hK:=h.k;subst hK;rcases gs with _ | ⟨⟨t1,i1,f1,a1⟩,_ | ⟨⟨t2,i2,f2,a2⟩,_ | ⟨_,_⟩⟩⟩ <;> try (cases q;done)
 unfold EV at q;dsimp only at q;obtain⟨z,q⟩:=jt q;obtain⟨z,y4⟩:=jl z;obtain⟨z,y3⟩:=jl z;obtain⟨z,y2⟩:=jl z;obtain⟨z,y1⟩:=jl z;obtain⟨z,z6⟩:=jl z;obtain⟨z,z5⟩:=jl z;obtain⟨z,z4⟩:=jl z;obtain⟨z,z3⟩:=jl z;obtain⟨z1,z2⟩:=jl z;obtain⟨di,q1,q⟩:=j6 q;obtain⟨g1,q2,q⟩:=j6 q;obtain⟨di2,q3,q⟩:=j6 q;obtain⟨g2,q4,q⟩:=j6 q;obtain⟨dk,q5,q⟩:=j6 q;obtain⟨dv,q6,rfl⟩:=jf q;have e1:=List.isEmpty_iff.mp y1;have e2:=List.isEmpty_iff.mp y2;have e3:=vLa y3;have e4:=vLa y4;subst e1 e2 e3 e4;exact jF (HW (gb 5 t1++gb 5 t2) (vX Γ pos) (xK h z1) (Go h z2) h.calm (Kh R h q1) (fun _ _ _=>R.g (yE h z3) q2) (fun s3 H3 x' A=>HV h.calm rfl (Kh R (yE h z3) q3) (R.g (yE h z3) q4) (ue z6) (HU (Y:=X.comp (L2.cN (gb 5 t1++gb 5 t2) (vX Γ pos)) scope s3 H3 x') rfl h.room (JM R (yE h z3) q5) (JM R (yE h z3) q6))) (ue z5)) (Ew (Gn z4))
theorem fH{m:Str}{ap:Pos}{n:Dn}(q:EX r Γ a m ap es pos=some n):gf X K (.Call (.Attribute a m ap) es [] pos) n:=by
 unfold EX at q;rcases es with _ | ⟨e1,_ | ⟨e2,_ | ⟨_,_⟩⟩⟩ <;> try (cases q;done)
 ·cases a with
  | Name x np=>
   obtain⟨z,q⟩:=jt q;obtain⟨d,q1,q⟩:=j6 q;split at q
   ·rename_i hl;cases q;obtain⟨M,hr⟩:=h.ms _ _ hl;exact C8 (jL R h q1) h.cl M hr (CH z) h.k
   ·cases q
  | _=>cases q
 ·obtain⟨z,q⟩:=jt q;obtain⟨z,z5⟩:=jl z;obtain⟨z,z4⟩:=jl z;obtain⟨z,z3⟩:=jl z;obtain⟨z1,z2⟩:=jl z;obtain⟨da,q1,q⟩:=j6 q;obtain⟨db,q2,q⟩:=j6 q;obtain⟨dc,q3,rfl⟩:=jf q;have em:=vLa z1;have hK:=h.k;subst em hK;exact EF (B6 PySem.F.plainAttrs_dict PySem.F.slot_dict_get PySem.F.type_dict_get (Cu h.room) (jL R h q1) (JE (JM R h q2) (JE (JM R h q3) Yr (jN z4)) (jN z3)) (u4 z2) (by rw[jN z3,jN z4];rfl) z5 (jN z3) (by rw[jN z4];rfl))
theorem im{n:Dn}(q:cN r Γ e=some n):gf X K e n:=by
 have hK:=h.k;unfold cN at q;cases e with
 | Name x p=>
  obtain⟨z,q⟩:=jt q;obtain⟨g1,g2⟩:=W9 h z;split at q
  ·rename_i hl;cases q;exact eE (Lp (h.gs _ _ hl) g1 g2)
  ·cases q
 | Constant c k p=>
  exact fq q
 | UnaryOp op a p=>
  exact fv R h q
 | BinOp a op b p=>
  exact fw R h q
 | Compare a os bs p=>
  obtain⟨d,q1,rfl⟩:=jf q;exact fz R h q1
 | BoolOp op vs p=>
  dsimp only at q;cases op
  ·obtain⟨d,q1,rfl⟩:=jf q;exact a8 R h q1
  ·obtain⟨d,q1,rfl⟩:=jf q;exact BN R h q1
 | IfExp c a b p=>
  obtain⟨t,q1,q⟩:=j6 q;obtain⟨d,q2,q⟩:=j6 q;obtain⟨d',q3,rfl⟩:=jf q;exact Hs (R.t h q1) (JM R h q2) (JM R h q3)
 | Tuple es k p=>
  obtain⟨z,q⟩:=jt q;obtain⟨l,q1,rfl⟩:=jf q;obtain⟨a1,a2,_,a4⟩:=vA R h q1;exact Hu a1 (zw a2) (by rw[a4];rw[Nat.ble_eq]at z⊢;exact wSa z (by decide))
 | List es p=>
  obtain⟨z,q⟩:=jt q;obtain⟨l,q1,rfl⟩:=jf q;obtain⟨a1,a2,_,a4⟩:=vA R h q1;exact Hv a1 (zw a2) (by rw[a4];rw[Nat.ble_eq]at z⊢;exact wSa z (by decide))
 | Dict ks vs p=>
  cases ks <;> cases vs <;> cases q;exact Er
 | Attribute a f p=>
  obtain⟨z,q⟩:=jt q;obtain⟨z1,z2⟩:=jl z;obtain⟨d,q1,rfl⟩:=jf q;exact HB (jL R h q1) h.cl (h.fl _ z2) (u4 z1) hK
 | Subscript a b p=>
  exact fA R h q
 | ListComp elt gs sc p=>
  obtain⟨d,q1,rfl⟩:=jf q;obtain⟨_,_,_,own,caps,di,g,dc,de,rfl,rfl,L⟩:=ad R h q1;exact lH own caps L.S L.cp h.calm L.i L.g L.t L.e L.nd L.fs
 | Call f es ks p=>
  dsimp only at q;unfold Iu at q;rcases ks with _ | ⟨⟨_ | k,b,_⟩,_ | ⟨_,_⟩⟩ <;> try (cases q;done)
  ·cases f with
   | Name x p=>exact b9 R h q
   | Attribute a m p=>exact fH R h q
   | _=>cases q
  ·rcases es with _ | ⟨a,_ | ⟨_,_⟩⟩ <;> cases f <;> try (cases q;done)
   ·obtain⟨z,q⟩:=jt q;obtain⟨z,z4⟩:=jl z;obtain⟨z,z3⟩:=jl z;obtain⟨z1,z2⟩:=jl z;obtain⟨d,q1,q⟩:=j6 q;obtain⟨d',q2,rfl⟩:=jf q;have e1:=vLa z1;have e2:=vLa z2;subst e1 e2;obtain⟨g1,g2⟩:=WW h z3;exact EG h.calm g1 g2 (jL R h q1) (jL R h q2) (jN z4) h.k
 | _=>
  cases q
omit R h in
theorem io(z:BJ e=true):∀whole,isTrue e env whole=(do let v<-whole;standAt e.pos;holding [v] (truthy v)):=by
 cases e <;> first | (intro _;rfl) | cases z | skip
 rename_i op _ _;cases op <;> first | (intro _;rfl) | cases z
theorem fJ{os:List CmpOp}{bs:List Expr}{t:DT}(q:Iv r Γ a os bs pos=some t):PT X (.Compare a os bs pos) (tT K t):=by
 rcases os with _ | ⟨o,_ | ⟨o',_ | ⟨_,_⟩⟩⟩ <;> rcases bs with _ | ⟨b,_ | ⟨c,_ | ⟨_,_⟩⟩⟩ <;> try (cases q;done)
 ·obtain⟨z,q⟩:=jt q;obtain⟨d,q1,q⟩:=j6 q;obtain⟨d',q2,q⟩:=j6 q;obtain⟨f,q3,rfl⟩:=jf q;obtain⟨t,o1,o2⟩:=X_ h q3;exact Hk o1 o2 (jL R h q1) (jL R h q2) (ZA z)
 ·obtain⟨z,q⟩:=jt q;obtain⟨d,q1,q⟩:=j6 q;obtain⟨d',q2,q⟩:=j6 q;obtain⟨d'',q3,q⟩:=j6 q;obtain⟨f,p1,q⟩:=j6 q;obtain⟨f',p2,rfl⟩:=jf q;obtain⟨t,o1,o2⟩:=ZO h p1;obtain⟨t',o1',o2'⟩:=ZO h p2;exact C5 o1 o1' o2 o2' (jL R h q1) (jL R h q2) (jL R h q3) (ZA z)
theorem ip{t:DT}(q:cT r Γ e=some t):PT X e (tT K t):=by
 have fb:∀{e},cG (BJ e) ((cV r Γ dV e).map jZ)=some t->PT X e (tT K t):=fun q=>by
  obtain⟨z,q⟩:=jt q;obtain⟨d,q1,rfl⟩:=jf q;exact Hj (jL R h q1) h.k (io z)
 cases e with
 | Compare a os bs p=>exact fJ R h q
 | UnaryOp op a p=>
  cases op with
  | Not=>
   obtain⟨t,q1,rfl⟩:=jf q;exact Hl (R.t h q1)
  | _=>exact fb q
 | BoolOp op vs p=>
  cases op with
  | And=>exact eR (a9 R h q)
  | Or=>exact eR (BO R h q)
 | _=>exact fb q
omit R h in
theorem WY(z:Yd e=true):(assignEach (e::es) env)=(false,assign e env)::assignEach es env:=by
 cases e <;> first | rfl | cases z
theorem ae{k:Nat}:∀{es:List Expr} {gs:Xv},BK r Γ k es=some gs->UD X es (Xw K k gs)/\(assignEach es X.env).length=es.length/\(assignEach es X.env).findIdx? (·.1)=none
 | [],_,q=>by cases q;exact⟨HG,rfl,rfl⟩
 | e::es,gs,q=>by
  unfold BK at q;obtain⟨z,q⟩:=jt q;obtain⟨g,q1,q⟩:=j6 q;obtain⟨gs',q2,rfl⟩:=jf q;obtain⟨a1,a2,a3⟩:=ae q2;refine⟨E1 (R.g h q1) a1 (by rw[WY z];rfl),by rw[WY z];simp[a2],?_⟩;rw[WY z,List.findIdx?_cons,a3];rfl
theorem fL{k:Nat}{g:DG}(q:EY r Γ k e=some g):PG X e (tG K k g):=by
 unfold EY at q;cases e with
 | Name x p=>
  obtain⟨i,q1,q⟩:=j6 q;obtain⟨z,q⟩:=jt q;cases q;obtain⟨s1,s2,s3,s4⟩:=ZN h q1;exact e_ (gX s1 s2 s3 s4) (Nat.blt_eq.mp z)
 | Tuple es k p=>
  obtain⟨gs,q1,rfl⟩:=jf q;obtain⟨a1,a2,a3⟩:=ae R h q1;exact HH _ h.calm a1 a2 a3 h.k
 | _=>
  cases q
end
theorem ZB:∀n:Nat,RcOk (rc n)
 | 0=>⟨(fun _ q=>by cases q),(fun _ q=>by cases q),(fun _ q=>by cases q)⟩
 | n+1=>⟨fun h q=>im (ZB n) h q,fun h q=>ip (ZB n) h q,fun h q=>fL (ZB n) h q⟩
section
variable {r:Rc} {Γ:Gm} {X:Cx} {K:Fr} {x y:Str} {i:Nat} {e a b c tg:Expr} {es:List Expr} {pos:Pos} {d:DE}
def xL(h:OkX K Γ X)(z:BL Γ scope x np p=true):swapsWith (.ListComp elt [⟨tg,iter,ifs,aa⟩] scope p) (some (.Name x np)) l X.env=pure true:=by
 obtain⟨z,z4⟩:=jl z;obtain⟨z,z3⟩:=jl z;obtain⟨z1,z2⟩:=jl z;have k1:Γ.sc.kind=.function:=by
  split at z1
  ·assumption
  ·cases z1
 have e1:X.env.blockKind=.function:=by
  unfold Env.blockKind;rw[h.sc,k1];rfl
 have e2:X.env.kindOf x=some .local:=by
  show X.env.scope.names.lookup x=_;rw[h.sc];exact XZ z2
 show(pure (X.env.blockKind==.function&&X.env.kindOf x==some .local&&np.line==p.line&&!(scope.names.any fun(n,k)=>n==x&&(k==.local||k==.cell))):Sem Bool)=pure true;rw[e1,e2,z3,z4];rfl
def af(z:WT j=true):∀v,assign (.Subscript o j pos) env v=(do
   let ov<-holding [v] (eval o env)
   let iv<-holding [v,ov] (eval j env)
   standAt pos
   holding [v,ov,iv] (setItem ov iv v)
   release [v,ov,iv] []):=by
 cases j <;> first | (intro _;rfl) | cases z
def Ki(h:uM e=true):swapsWithSole [tg] e l env=pure false:=by
 unfold swapsWithSole;exact vY h
def ah:swappedStores [.Subscript o j p] e env=pure none:=by
 cases e <;> rfl
def aj(z:(!Gi e)=true):swappedStores [.Tuple es n p] e env=pure none:=by
 cases e <;> first | rfl | cases z
def fM(h:OkX K Γ X)(z:AZ Γ.sc x=true):swapsWith (.DictComp kx vx gs scope p) (some (.Name x np)) l X.env=pure false:=by
 have e2:X.env.kindOf x=some .cell:=by
  show X.env.scope.names.lookup x=_;rw[h.sc];unfold AZ at z;split at z
  ·assumption
  ·cases z
 show(pure (X.env.blockKind==.function&&X.env.kindOf x==some .local&&np.line==p.line&&!(scope.names.any fun(n,k)=>n==x&&(k==.local||k==.cell))):Sem Bool)=pure false;rw[e2];cases X.env.blockKind==.function <;> rfl
variable (R:RcOk r) (h:OkX K Γ X)
include R h
theorem BP{d:DO}(q:cF r Γ e=some d):PE X e (tF K d):=by
 unfold cF at q;split at q
 ·rename_i hn;cases q;exact R.n h hn
 ·cases q
theorem fN{elt:Expr}{gs:List Comprehension}{scope:Scope}{np p:Pos}{d:DO}{i:Nat}(s0:Kf Γ x=some i)(z:BL Γ scope x np p=true)(q:EW r Γ elt gs scope p=some d):PS X (.Assign [.Name x np] (.SetComp elt gs scope p) pos) (tS K (jp i (dL d))):=by
 obtain⟨s1,s2,s3,s4⟩:=ZN h s0;have hK:=h.k;subst hK;rcases gs with _ | ⟨⟨t1,i1,f1,a1⟩,_ | ⟨_,_⟩⟩ <;> try (cases q;done)
 have hz:=xL (tg:=t1) (elt:=elt) (iter:=i1) (ifs:=[]) (aa:=0) (l:=pos.line) h z;unfold EW at q;dsimp only at q;obtain⟨z,q⟩:=jt q;obtain⟨z,y3⟩:=jl z;obtain⟨z,y1⟩:=jl z;obtain⟨z,z5⟩:=jl z;obtain⟨z,z4⟩:=jl z;obtain⟨z,z3⟩:=jl z;obtain⟨z1,z2⟩:=jl z;obtain⟨di,q1,q⟩:=j6 q;obtain⟨g1,q2,q⟩:=j6 q;obtain⟨de,q5,rfl⟩:=jf q;have e1:=List.isEmpty_iff.mp y1;have e3:=vLa y3;subst e1 e3;exact W6 (vQ (vQ (AQ (tb:=fun A=>EB X.K A (tE X.K de)) (gb 5 t1) (vX Γ p) s1 s2 s3 (xK h z1) (Go h z2) h.calm (Kh R h q1) (fun _ _ _=>R.g (yE h z3) q2) (fun s3 H3 x' A=>ie (Y:=X.comp (L2.cN (gb 5 t1) (vX Γ p)) scope s3 H3 x') rfl h.room (JM R (yE h z3) q5)) (ue z5) hz s4) (EC (Gn z4))) WB)
theorem fP{np:Pos}{d:DS.DS}(q0:Iw r Γ x np e=some d):PS X (.Assign [.Name x np] e pos) (tS K d):=by
 obtain⟨i,s0,q0⟩:=j6 q0;obtain⟨s1,s2,s3,s4⟩:=ZN h s0;have fb:∀{e},cG (uM e) (if Γ.ow.contains i then(cF r Γ e).map (J_ i)else(cV r Γ dC e).map (jp i))=some d->PS X (.Assign [.Name x np] e pos) (tS K d):=fun q0=>by
  obtain⟨z,q0⟩:=jt q0;split at q0
  ·obtain⟨d0,q1,rfl⟩:=jf q0;exact Bq (kQ s1 s2 s3 (BP R h q1) (vY z) s4)
  ·obtain⟨d0,q1,rfl⟩:=jf q0;exact W6 (kQ s1 s2 s3 (JM R h q1) (vY z) s4)
 cases e with
 | ListComp elt gs scope p=>
  obtain⟨d0,q1,q0⟩:=j6 q0;obtain⟨z2,q0⟩:=jt q0;cases q0;obtain⟨_,_,_,own,caps,di,g,dc,de,rfl,rfl,L⟩:=ad R h q1;split
  ·exact Ca own caps s1 s2 s3 L.S L.cp h.calm L.i L.g L.t L.e L.nd L.fs (xL h z2) s4
  ·exact Cb own caps s1 s2 s3 L.S L.cp h.calm L.i L.g L.t L.e L.nd L.fs (xL h z2) s4
 | SetComp elt gs scope p=>
  obtain⟨z,q0⟩:=jt q0;obtain⟨d0,q1,rfl⟩:=jf q0;exact fN R h s0 z q1
 | DictComp kx vx gs scope p=>
  obtain⟨z,q0⟩:=jt q0;obtain⟨d0,q1,rfl⟩:=jf q0;exact W6 (kQ s1 s2 s3 (eD (fG R h q1)) (fM h z) s4)
 | _=>exact fb q0
theorem fQ{t:Expr}{d:DS.DS}(q0:E_ r Γ t e=some d):PS X (.Assign [t] e pos) (tS K d):=by
 unfold E_ at q0;cases t with
 | Name x p=>
  exact fP R h q0
 | Attribute o f p=>
  obtain⟨i,s9,q9⟩:=j6 q0;clear q0;obtain⟨x,p,rfl,s0⟩:=Zl s9;obtain⟨z,q0⟩:=jt q9;obtain⟨z1,z2⟩:=jl z;obtain⟨d0,q1,rfl⟩:=jf q0;exact El (Dz (JY h s0) (JM R h q1) (vY z1)) h.cl (h.fl _ z2) h.k
 | Subscript o j p=>
  obtain⟨i,s9,q9⟩:=j6 q0;clear q0;obtain⟨x,p,rfl,s0⟩:=Zl s9;obtain⟨z,q0⟩:=jt q9;obtain⟨z1,z2⟩:=jl z;have hK:=h.k;subst hK;split at q0
  ·obtain⟨dx,q1,q0⟩:=j6 q0;obtain⟨d0,q2,rfl⟩:=jf q0;exact HQ (kP (JM R h q2) (X1 (JY h s0) (JM R h q1) (Ci h.room) (af z2)) (Ki z1) ah)
  ·obtain⟨dx,q1,q0⟩:=j6 q0;obtain⟨d0,q2,rfl⟩:=jf q0;exact E8 (kP (JM R h q2) (X1 (JY h s0) (jL R h q1) Ag (af z2)) (Ki z1) ah)
 | Tuple es k p=>
  obtain⟨z,q0⟩:=jt q0;obtain⟨z1,z2⟩:=jl z;obtain⟨d0,q1,q0⟩:=j6 q0;obtain⟨g,q2,rfl⟩:=jf q0;exact HI (kP (JM R h q1) (R.g h q2) (Ki z1) (aj z2))
 | _=>
  cases q0
theorem fU{t:Expr}{op:Operator}{d:DS.DS}(q0:f9 r Γ t op e=some d):PS X (.AugAssign t op e pos) (tS K d):=by
 unfold f9 at q0;cases t with
 | Name x p=>
  obtain⟨i,s0,q0⟩:=j6 q0;obtain⟨d0,q1,q0⟩:=j6 q0;obtain⟨s1,s2,s3,s4⟩:=ZN h s0;split at q0
  ·cases q0;exact Br (X3 s1 s2 s3 (jL R h q1) Db s4)
  ·cases q0;exact Br (X3 s1 s2 s3 (jL R h q1) Dc s4)
  ·cases q0
 | _=>
  cases q0
theorem fW{f:Expr}{es:List Expr}{ks:List Keyword}{p:Pos}{d:DS.DS}(q0:Ix r Γ f es ks p=some d):PS X (.Expr (.Call f es ks p) pos) (tS K d):=by
 cases f <;> try (cases q0;done)
 rcases es with _ | ⟨e,_ | ⟨_,_⟩⟩ <;> rcases ks with _ | ⟨_,_⟩ <;> try (cases q0;done)
 ·obtain⟨i,s9,q9⟩:=j6 q0;clear q0;obtain⟨x,np,rfl,s0⟩:=Zl s9;obtain⟨z,q0⟩:=jt q9;obtain⟨z,z3⟩:=jl z;obtain⟨z1,z2⟩:=jl z;obtain⟨d0,q1,rfl⟩:=jf q0;have e1:=vLa z1;have hK:=h.k;subst e1 hK;exact Az (VX (eB (JY h s0) (JE (JM R h q1) Yr (jN z2)) rfl (by rw[jN z2];rfl) z3 (jN z2)))
theorem BQ{q:Gm->List Stmt->Option DS.DS}{s:Stmt}{d:DS.DS}(Q:∀l d,q Γ l=some d->jP X l (tS K d))(hp:PassesOwn (model X.prog X.w) X.A X.env X.xe)(q0:cS r q Γ s=some d):PS X s (tS K d):=by
 unfold cS at q0;cases s with
 | Assign ts e p=>
  dsimp only at q0;split at q0
  ·exact fQ R h q0
  ·cases q0
 | AugAssign t op e p=>
  exact fU R h q0
 | Expr e p=>
  have fb:∀{e},cG (uM e) ((cV r Γ dV e).map vz)=some d->PS X (.Expr e p) (tS K d):=fun q0=>by
   obtain⟨z,q0⟩:=jt q0;obtain⟨d0,q1,rfl⟩:=jf q0;exact XA (VX (jL R h q1) (vY z))
  dsimp only at q0;unfold Iy at q0;cases e with
  | Call f es ks p'=>
   dsimp only at q0;split at q0
   ·cases q0;exact fW R h (by assumption)
   ·obtain⟨d0,q1,rfl⟩:=jf q0;exact XA (VX (jL R h q1) (vY rfl))
  | _=>exact fb q0
 | Return o p=>
  dsimp only at q0;split at q0
  ·cases q0;exact Eb
  ·split at q0
   ·rename_i hn;obtain⟨x,p,rfl,hs⟩:=Zl hn;split at q0
    ·cases q0;exact Ea (JY h hs)
    ·cases q0;exact Bs (Be _ (JY h hs))
   ·split at q0
    ·obtain⟨d0,q1,rfl⟩:=jf q0;exact E9 (BP R h q1)
    ·obtain⟨d0,q1,rfl⟩:=jf q0;exact Bs (JM R h q1)
 | If c a b p=>
  obtain⟨t,q1,q0⟩:=j6 q0;obtain⟨u,q2,q0⟩:=j6 q0;obtain⟨v,q3,rfl⟩:=jf q0;exact lI (R.t h q1) (Q _ _ q2) (Q _ _ q3)
 | While c b o p=>
  dsimp only at q0;split at q0
  ·obtain⟨t,q1,q0⟩:=j6 q0;obtain⟨u,q2,rfl⟩:=jf q0;exact C9 _ hp (R.t h q1) (Q _ _ q2)
  ·cases q0
 | For tg it b o p=>
  dsimp only at q0;split at q0
  ·obtain⟨z,q0⟩:=jt q0;obtain⟨di,q1,q0⟩:=j6 q0;obtain⟨g,q2,q0⟩:=j6 q0;obtain⟨u,q3,rfl⟩:=jf q0;exact HJ hp h.calm (Kh R h q1) (R.g h q2) (Q _ _ q3) (ue z)
  ·cases q0
 | _=>
  cases q0
omit R h in
theorem Kj{l:Nat}{st:List Stmt}:∀{sh:List (Nat×Nat)} {d:DS.DS},jP X st (tS K d)->jP X st (tS K (Qm l sh d))
 | [],_,h=>h
 | (m,i)::r,d,h=>by
  unfold Qm;split
  ·exact Ay i (Kj h)
  ·exact Kj h
theorem ao{q:Gm->List Stmt->Option DS.DS}(Q:∀l d,q Γ l=some d->jP X l (tS K d))(hp:PassesOwn (model X.prog X.w) X.A X.env X.xe):∀{l:List Stmt} {d:DS.DS},BM r q Γ l=some d->jP X l (tS K d)
 | [],_,q0=>by cases q0;exact E4
 | s::t,d,q0=>by
  unfold BM at q0;split at q0
  ·cases q0;exact Ax
  ·obtain⟨d1,q1,q0⟩:=j6 q0;have h1:=BQ R h Q hp q1;split at q0
   ·cases q0;exact Kj (E5 h1)
   ·obtain⟨d2,q2,rfl⟩:=jf q0;exact Kj (vJ h1 (ao Q hp q2))
theorem xM(hp:PassesOwn (model X.prog X.w) X.A X.env X.xe):∀(n:Nat) {l:List Stmt} {d:DS.DS},cQ r n Γ l=some d->jP X l (tS K d)
 | 0,_,_,q=>by cases q
 | n+1,_,_,q=>ao R h (fun l d q=>xM hp n q) hp q
end
structure De where
 x:Str
 q:Str
 st:Stmt
 ps:List Str
 lo:List Str
 ks:List Bool
 b:DS.DS
 hs:List ((Nat×Nat×Nat)×List Nat)
 sh:List (Nat×Nat)
 ow:List Nat
structure Tb where
 C:Addr
 gs:List (Str×GI)
 ms:List (Str×GI)
 fl:List Str
def gm(T:Tb)(d:De)(kF:Bool):Gm:={ N:=d.ps++d.lo,sc:=defScope d.st,fn:=true,kF:=kF,C:=T.C,gs:=T.gs,ms:=T.ms,fl:=T.fl,hs:=d.hs,sh:=d.sh,ow:=d.ow }
def BR(N ps:List Str)(sc:Scope):Bool:=(match sc.kind with | .function=>true | _=>false)&&!sc.isCoroutine&&!sc.isGenerator&&gc N&&ps.all (WS sc)&&sc.names.all fun y=>match y.2 with | .free=>false | _=>true
def uP{ps lo:List Str}{sc:Scope}(h:BR (ps++lo) ps sc=true):FnScope (ps++lo) ps sc:=by
 obtain⟨h,h6⟩:=jl h;obtain⟨h,h5⟩:=jl h;obtain⟨h,h4⟩:=jl h;obtain⟨h,h3⟩:=jl h;obtain⟨h1,h2⟩:=jl h;refine⟨?_,ZA h2,ZA h3,Gk h4,by simp,fun x hx=>XY (List.all_eq_true.mp h5 x hx),fun y hy e=>?_⟩
 ·split at h1
  ·assumption
  ·cases h1
 ·have:=List.all_eq_true.mp h6 y hy;rw[e]at this;cases this
def Bd(x q:Str)(st:Stmt)(ps:List Str):Prop:=∀(kV doc pm:Value) (an:Option Addr) (cdv ct:Value) (us:List Value),us.length=ps.length->bindArgs (PySem.W.fnOf x q (defArgs st) (defBody st) (defScope st) .none kV doc pm an cdv ct) ⟨us,[]⟩=pure (ps.zip us)
def wL(T:Tb)(d:De)(kF:Bool):Option DS.DS:=cG (BR (d.ps++d.lo) d.ps (defScope d.st)) (cQ (rc 30) 30 (gm T d kF) (defBody d.st))
structure TOk (P:Program) (w:World) (K:Fr) (mg:Tx) (base:Heap) (n:Nat) (T:Tb):Prop where
 gs:∀p∈T.gs,WV P w K mg base T.C (·<=n) K p.1 p.2
 ms:∀p∈T.ms,Qo P w K mg base T.C (·<=n) K p.1 p.2
 cl:Cls K T.C
 fl:∀f∈T.fl,YY K T.C f
section
variable {P:Program} {w:World} {K:Fr} {mg:Tx} {base:Heap} {f C:Addr} {fd:FuncData} {n:Nat} {T:Tb} {d:De} {g:GI} {x:Str}
def WV.mono{r r':Nat->Prop}(m:∀k,r k->r' k)(h:WV P w K mg base C r K x g):WV P w K mg base C r' K x g:=by
 cases g with
 | con i=>exact h
 | blt=>exact h
 | fE k ps ks F=>exact⟨h.1,m _ h.2⟩
 | fF k ps ks F=>exact⟨h.1,m _ h.2⟩
 | mk k ps ks F G=>exact⟨h.1,h.2.1,m _ h.2.2⟩
 | fT k ps ks F=>exact⟨h.1,m _ h.2⟩
def Qo.mono{r r':Nat->Prop}(m:∀k,r k->r' k)(h:Qo P w K mg base C r K x g):Qo P w K mg base C r' K x g:=by
 cases g with
 | con i=>exact h
 | blt=>exact h
 | fE k ps ks F=>exact⟨h.1,m _ h.2⟩
 | fF k ps ks F=>exact⟨h.1,m _ h.2⟩
 | mk k ps ks F G=>exact h
 | fT k ps ks F=>exact h
def TOk.mono{m:Nat}(h:TOk P w K mg base n T)(l:n<=m):TOk P w K mg base m T:=
 ⟨fun p hp=>(h.gs p hp).mono fun _ z=>wSa z l,fun p hp=>(h.ms p hp).mono fun _ z=>wSa z l,h.cl,h.fl⟩
set_option tactic.hygienic false
set_option tactic.hygienic true in
theorem ke{α:Type}{x:Str}{g:α}:∀{l:List (Str×α)},l.lookup x=some g->(x,g)∈l
 | [],h=>by cases h
 | (y,g')::r,h=>by
  rw[List.lookup_cons]at h;split at h
  ·rename_i e;cases h;rw[eq_of_beq e];exact wNa
  ·exact wMa _ (ke h)
def fX{kF:Bool}{cdv:Value}{A:Around}{outer:List Env}{s:Shared}{H:Hp}{E:XK}(h:TOk P w K mg base n T)(S:FnScope (d.ps++d.lo) d.ps (defScope d.st))(hr:Room n (A.deeper (envOfC d.q (defScope d.st) s.heap.objs.size f cdv))):
  OkX K (gm T d kF) (ZV Yj P w K mg base (d.ps++d.lo) d.q (defScope d.st) f cdv A outer s H E).nox where
 n:=rfl
 sc:=rfl
 nd:=S.nd
 calm:=rfl
 k:=rfl
 room:=hr.mono (Nat.zero_le _)
 fn:=fun _ _=>rfl
 gs:=fun x g e=>(h.gs _ (ke e)).mono fun k z=>hr.mono z
 ms:=fun x g e=>(h.ms _ (ke e)).mono fun k z=>hr.mono z
 cl:=h.cl
 fl:=fun f e=>h.fl f (List.contains_iff_mem.mp e)
def KR{kF:Bool}{b:DS.DS}{cdv:Value}{A:Around}{outer:List Env}{s:Shared}{H:Hp}{E:XK}(h:TOk P w K mg base n T)(c:wL T d kF=some b)(hr:Room n (A.deeper (envOfC d.q (defScope d.st) s.heap.objs.size f cdv))):
  jP (ZV Yj P w K mg base (d.ps++d.lo) d.q (defScope d.st) f cdv A outer s H E).nox (defBody d.st) (tS K b):=by
 obtain⟨c1,c2⟩:=jt c;exact xM (ZB 30) (fX h (uP c1) hr) PassesOwn.never 30 c2
def Iz(h:TOk P w K mg base n T)(F:Fun K d.x d.q d.st f fd)(c:wL T d false=some d.b)(hk:d.ks.length=d.ps.length):FnOk P w K mg base Yj (n+1) f fd d.ps (K3 K d.ks (J7 d.ks d.lo.length d.b)):=
 Em F (uP (jt c).1) hk (by simp) fun cdv A outer s H E hr=>KR h c hr
def IA(h:TOk P w K mg base n T)(F:Fun K d.x d.q d.st f fd)(c:wL T d true=some d.b)(hk:d.ks.length=d.ps.length):FnOk P w K mg base Yj (n+1) f fd d.ps (Xy K d.ks (u9 d.ks d.lo.length d.b)):=
 lL F (uP (jt c).1) hk (by simp) fun cdv A outer s H E hr=>KR h c hr
def Lx(h:TOk P w K mg base n T)(F:Fun K d.x d.q d.st f fd)(c:wL T d false=some d.b)(hk:d.ks.length+1=d.ps.length):FnOk P w K mg base Yj (n+1) f fd d.ps (Bp K C d.ks (XC C d.ks d.lo.length d.b)):=
 lM F (uP (jt c).1) hk (by simp) fun cdv A outer s H E hr=>KR h c hr
def At(K:Fr)(x q:Str)(st:Stmt):Prop:=∃f fd,W.nsIn K mainGlobals x=some (some (.ref f))/\Fun K x q st f fd
def aq(K:Fr)(C:Addr)(x q:Str)(st:Stmt):Prop:=∃f fd,W.findIn K (.ref C) x=some (some (.ref f))/\W.isFn K (.ref f)=true/\Fun K x q st f fd
def iq{q:Str}{st:Stmt}(a:W.nsIn K mainGlobals x=some (some (.ref f)))(F:Fun K x q st f fd):At K x q st:=⟨f,fd,a,F⟩
def fY{q:Str}{st:Stmt}(a:W.findIn K (.ref C) x=some (some (.ref f)))(i:W.isFn K (.ref f)=true)(F:Fun K x q st f fd):aq K C x q st:=⟨f,fd,a,i,F⟩
def G0(K:Fr)(x:Str):GI->Prop
 | .con i=>∃t,W.nsIn K mainGlobals x=some (some (.int i t))
 | .blt=>W.nsIn K mainGlobals x=some none
 | _=>False
def ir(XG:∀x v,W.nsIn K mainGlobals x=some (some v)->mg x=some v)(XN:∀x,W.nsIn K mainGlobals x=some none->mg x=none)(h:G0 K x g):WV P w K mg base C rm K x g:=by
 cases g with
 | con i=>obtain⟨t,h⟩:=h;exact⟨t,XG _ _ h⟩
 | blt=>exact XN _ h
 | _=>exact h.elim
noncomputable def Tb.ag(T:Tb)(x:Str)(i:GI):Tb:={ T with gs:=(x,i)::T.gs }
noncomputable def Tb.am(T:Tb)(x:Str)(i:GI):Tb:={ T with ms:=(x,i)::T.ms }
def TOk.ag{m:Nat}(h:TOk P w K mg base n T)(l:n<=m)(q:WV P w K mg base T.C (·<=m) K x g):TOk P w K mg base m (T.ag x g):=
 ⟨fun p hp=>by
  rcases uTa hp with rfl | hp
  ·exact q
  ·exact(h.mono l).gs p hp,(h.mono l).ms,h.cl,h.fl⟩
def TOk.am(h:TOk P w K mg base n T)(l:n<=m)(q:Qo P w K mg base T.C (·<=m) K x g):TOk P w K mg base m (T.am x g):=
 ⟨(h.mono l).gs,fun p hp=>by
  rcases uTa hp with rfl | hp
  ·exact q
  ·exact(h.mono l).ms p hp,h.cl,h.fl⟩
def De.E(d:De)(n:Nat):GI:=.fE (n+1) d.ps d.ks (J7 d.ks d.lo.length d.b)
def De.F(d:De)(n:Nat):GI:=.fF (n+1) d.ps d.ks (u9 d.ks d.lo.length d.b)
structure Ck (T:Tb) (d:De) (kF:Bool):Prop where
 c:wL T d kF=some d.b
 k:(d.ks.length==d.ps.length)=true
 b:Bd d.x d.q d.st d.ps
variable (XG:∀x v,W.nsIn K mainGlobals x=some (some v)->mg x=some v)
include XG
theorem TOk.E(h:TOk P w K mg base n T)(a:At K d.x d.q d.st)(c:Ck T d false):TOk P w K mg base (n+2) (T.ag d.x (d.E n)):=by
 obtain⟨f,fd,a1,F⟩:=a;exact h.ag (vKa _ _) ⟨⟨f,fd,Iz h F c.c (vLa c.k),F.binds c.b,F.kp,XG _ _ a1⟩,vMa _⟩
theorem TOk.F(h:TOk P w K mg base n T)(a:At K d.x d.q d.st)(c:Ck T d true):TOk P w K mg base (n+2) (T.ag d.x (d.F n)):=by
 obtain⟨f,fd,a1,F⟩:=a;exact h.ag (vKa _ _) ⟨⟨f,fd,IA h F c.c (vLa c.k),F.binds c.b,F.kp,XG _ _ a1⟩,vMa _⟩
omit XG in
theorem TOk.mE(h:TOk P w K mg base n T)(a:aq K T.C d.x d.q d.st)(c:Ck T d false)(k:d.ks=[false]):TOk P w K mg base (n+2) (T.am d.x (d.E n)):=by
 obtain⟨f,fd,a1,a2,F⟩:=a;exact h.am (vKa _ _) ⟨⟨f,fd,k▸Iz h F c.c (vLa c.k),F.binds c.b,⟨a1,a2,F.kp⟩⟩,vMa _⟩
omit XG in
theorem TOk.mF(h:TOk P w K mg base n T)(a:aq K T.C d.x d.q d.st)(c:Ck T d true)(k:d.ks=[false]):TOk P w K mg base (n+2) (T.am d.x (d.F n)):=by
 obtain⟨f,fd,a1,a2,F⟩:=a;exact h.am (vKa _ _) ⟨⟨f,fd,k▸IA h F c.c (vLa c.k),F.binds c.b,⟨a1,a2,F.kp⟩⟩,vMa _⟩
theorem TOk.I(h:TOk P w K mg base n T)(a:aq K T.C d.x d.q d.st)(hx:d.x = "__init__")(c:wL T d false=some d.b)(k:(d.ks.length+1==d.ps.length)=true)(b:Bd d.x d.q d.st d.ps)(mk:W.makesIn K T.C=true)(kc:W.keepIn K (.ref T.C)=true)
  (aC:W.nsIn K mainGlobals x=some (some (.ref T.C))) (hG:∀p ds o,G ds=some o->XC T.C d.ks d.lo.length d.b p ds=some o):TOk P w K mg base (n+2) (T.ag x (.mk (n+1) d.ps d.ks (XC T.C d.ks d.lo.length d.b) G)):=by
 obtain⟨f,fd,a1,a2,F⟩:=a;refine h.ag (vKa _ _) ⟨⟨f,fd,Lx h F c (vLa k),F.binds b,⟨mk,?_,a2,kc⟩,XG _ _ aC⟩,hG,wPa _⟩;rw[hx]at a1;exact a1
end
noncomputable def sN(s:Stmt):Str:=match s with
 | .FunctionDef n _ _ _ _ _ _ _ _ _=>n
 | .ClassDef n _ _ _ _ _ _ _ _ _ _=>n
 | _ => ""
def KS(st:Stmt):List Str:=(defArgs st).args.map (·.arg)
def lX(st:Stmt):List Str:=((defScope st).names.filter fun y=>WS (defScope st) y.1&&!(KS st).contains y.1).map (·.1)
def fZ(st:Stmt):Bool:=(defArgs st).posonlyargs.isEmpty&&(defArgs st).kwonlyargs.isEmpty&&(defArgs st).vararg.isNone&&(defArgs st).kwarg.isNone&&gc (KS st)
theorem ar:∀(l:List Str) (us:List Value) (pre:List (Str×Value)),us.length=l.length->l.Nodup->(∀n∈l,pre.lookup n=none)->(l.filterMap fun n=>((pre++l.zip us).lookup n).map (n,·))=l.zip us/\(∀n∈l,((pre++l.zip us).lookup n).isNone=false)
 | [],us,pre,_,_,_=>by simp
 | n::l,[],pre,h,_,_=>by cases h
 | n::l,u::us,pre,h,nd,hp=>by
  obtain⟨n1,n2⟩:=List.nodup_cons.mp nd;have e:pre++(n::l).zip (u::us)=(pre++[(n,u)])++l.zip us:=by simp
  have q:((pre++[(n,u)])++l.zip us).lookup n=some u:=by
   rw[List.lookup_append,List.lookup_append,hp n List.mem_cons_self];simp
  obtain⟨i1,i2⟩:=ar l us (pre++[(n,u)]) (by simpa using h) n2 fun m hm=>by
   rw[List.lookup_append,hp m (List.mem_cons_of_mem _ hm)];have:m≠n:=fun z=>n1 (z▸hm);have b:(m==n)=false:=beq_eq_false_iff_ne.mpr this;simp[List.lookup_cons,b]
  rw[e];refine⟨by rw[List.filterMap_cons,q,i1];rfl,fun m hm=>?_⟩;rcases uTa hm with rfl | hm
  ·rw[q];rfl
  ·exact i2 m hm
def Gp{x q:Str}{st:Stmt}(h:fZ st=true):Bd x q st (KS st):=by
 intro kV doc pm an cdv ct us hl;unfold fZ at h;unfold KS at *;obtain⟨h,h5⟩:=jl h;obtain⟨h,h4⟩:=jl h;obtain⟨h,h3⟩:=jl h;obtain⟨h1,h2⟩:=jl h;generalize hA:defArgs st=A at *;obtain⟨a1,a2,a3,a4,a5,a6,a7⟩:=A;dsimp only at h1 h2 h3 h4 h5 hl⊢;rw[List.isEmpty_iff]at h1 h2;cases a3 with
 | some _=>cases h3
 | none=>?_
 cases a6 with
 | some _=>cases h4
 | none=>?_
 subst h1 h2;obtain⟨z1,z2⟩:=ar (a2.map (·.arg)) us [] hl (Gk h5) fun _ _=>rfl;rw[uQa]at z1 z2;unfold bindArgs W.fnOf;have e0:seqItems? .none=pure none:=rfl;simp only[List.map_nil,List.nil_append,List.append_nil,List.forIn_nil,pure_bind,e0,Option.getD_none,Option.isNone_none,Bool.and_true];generalize a2.map (·.arg)=l at *;have e1:l.filter (fun n=>((l.zip us).lookup n).isNone)=[]:=by
  rw[List.filter_eq_nil_iff];intro n hn;rw[z2 n hn]
  decide
 simp[e1,z1,hl]
structure Df where
 st:Stmt
 q:Str
 f:Addr
 m:Bool
 kF:Bool
 ks:List Bool
 b:DS.DS
 hs:List ((Nat×Nat×Nat)×List Nat):=[]
 sh:List (Nat×Nat):=[]
 ow:List Nat:=[]
def Df.de(d:Df):De:=⟨sN d.st,d.q,d.st,KS d.st,lX d.st,d.ks,d.b,d.hs,d.sh,d.ow⟩
def Tb.add(T:Tb)(n:Nat)(d:Df):Tb:=cond d.m (T.am (sN d.st) (cond d.kF (d.de.F n) (d.de.E n))) (T.ag (sN d.st) (cond d.kF (d.de.F n) (d.de.E n)))
def Tb.adds:Tb->Nat->List Df->Tb
 | T,_,[]=>T
 | T,n,d::l=>(T.add n d).adds (n+2) l
def Tb.chks:Tb->Nat->List Df->List (Option DS.DS×Bool)
 | _,_,[]=>[]
 | T,n,d::l=>(wL T d.de d.kF,fZ d.st&&(d.ks.length==(KS d.st).length&&(!d.m||d.ks==[false])))::(T.add n d).chks (n+2) l
noncomputable def xN(l:List Df):List (Option DS.DS×Bool):=l.map fun d=>(some d.b,true)
noncomputable def Ly(o:Option Obj):Value:=match o with
 | some ⟨_,_,.func fd,_⟩=>fd.pyModule
 | _=>.none
noncomputable def gh(K:Fr)(C:Addr)(d:Df):Option (Option Value)×Option Obj×Bool:=(cond d.m (W.findIn K (.ref C) (sN d.st)) (W.nsIn K mainGlobals (sN d.st)),K.lookup d.f,W.codeIn K (.ref (d.f - 1)) d.q&&(W.keepIn K (.ref d.f)&&W.isFn K (.ref d.f)))
def gi(K:Fr)(d:Df):Option (Option Value)×Option Obj×Bool:=(some (some (.ref d.f)),some ⟨.type "function",none,.func (W.fnOf (sN d.st) d.q (defArgs d.st) (defBody d.st) (defScope d.st) .none .none .none (Ly (K.lookup d.f)) none (.ref (d.f - 1)) .none),#[]⟩,true)
section
variable {P:Program} {w:World} {K:Fr} {mg:Tx} {base:Heap} {C:Addr} {d:Df}
def Wa(h:gh K C d=gi K d)(m:d.m=false):At K (sN d.st) d.q d.st:=by
 have h1:=congrArg (·.1) h;have h2:=congrArg (·.2.1) h;have h3:=congrArg (·.2.2) h;dsimp only[gh,gi]at h1 h2 h3;rw[m]at h1;obtain⟨h3,h4⟩:=jl h3;exact iq h1 (Xk h2 h3 (jl h4).1)
def WZ(h:gh K C d=gi K d)(m:d.m=true):aq K C (sN d.st) d.q d.st:=by
 have h1:=congrArg (·.1) h;have h2:=congrArg (·.2.1) h;have h3:=congrArg (·.2.2) h;dsimp only[gh,gi]at h1 h2 h3;rw[m]at h1;obtain⟨h3,h4⟩:=jl h3;exact fY h1 (jl h4).2 (Xk h2 h3 (jl h4).1)
theorem TOk.adds(XG:∀x v,W.nsIn K mainGlobals x=some (some v)->mg x=some v):∀(l:List Df) {n:Nat} {T:Tb},TOk P w K mg base n T->T.chks n l=xN l->l.map (gh K T.C)=l.map (gi K)->TOk P w K mg base (n+2 * l.length) (T.adds n l)
 | [],n,T,h,_,_=>h
 | d::l,n,T,h,c,a=>by
  obtain⟨c1,c2⟩:=List.cons.inj c;obtain⟨a1,a2⟩:=List.cons.inj a;have c3:=congrArg (·.1) c1;obtain⟨b1,b2⟩:=jl (congrArg (·.2) c1);obtain⟨b2,b3⟩:=jl b2;dsimp only at c3;have e:n+2 * (d::l).length=n+2+2 * l.length:=by rw[vXa];lia
  have h':TOk P w K mg base (n+2) (T.add n d):=by
   unfold Tb.add;cases hm:d.m
   ·cases hk:d.kF <;> rw[hk]at c3
    ·exact TOk.E XG h (Wa a1 hm) ⟨c3,b2,Gp b1⟩
    ·exact TOk.F XG h (Wa a1 hm) ⟨c3,b2,Gp b1⟩
   ·rw[hm]at b3;have b3:d.ks=[false]:=by simpa using b3
    cases hk:d.kF <;> rw[hk]at c3
    ·exact TOk.mE (d:=d.de) h (WZ a1 hm) ⟨c3,b2,Gp b1⟩ b3
    ·exact TOk.mF (d:=d.de) h (WZ a1 hm) ⟨c3,b2,Gp b1⟩ b3
  have eC:(T.add n d).C=T.C:=by unfold Tb.add;cases d.m <;> rfl
  rw[e];exact TOk.adds XG l h' c2 (by rw[eC];exact a2)
noncomputable def Qp(o:Option (Option Value)):Option (Option Int):=match o with
 | some (some (.int i _))=>some (some i)
 | some none=>some none
 | _=>none
noncomputable def BS(g:GI):Option (Option Int):=match g with
 | .con i=>some (some i)
 | .blt=>some none
 | _=>none
theorem W_:∀{l:List α},l.map f=l.map g->∀x∈l,f x=g x
 | [],_,_,h=>by cases h
 | a::l,e,x,h=>by
  obtain⟨e1,e2⟩:=List.cons.inj e;rcases uTa h with rfl | h
  ·exact e1
  ·exact W_ e2 x h
def iu{gs:List (Str×GI)}(h:gs.map (fun p=>(Qp (W.nsIn K mainGlobals p.1),(BS p.2).isSome))=gs.map fun p=>(BS p.2,true)):∀p∈gs,G0 K p.1 p.2:=fun p hp=>by
 have e:=W_ h p hp;have e1:=congrArg (·.1) e;have e2:=congrArg (·.2) e;dsimp only at e1 e2;obtain⟨x,g⟩:=p;dsimp only at e1 e2⊢;cases g with
 | con i=>
  have e1:Qp (W.nsIn K mainGlobals x)=some (some i):=e1;unfold Qp at e1;split at e1
  ·cases e1;exact⟨_,by assumption⟩
  ·cases e1
  ·cases e1
 | blt=>
  have e1:Qp (W.nsIn K mainGlobals x)=some none:=e1;unfold Qp at e1;split at e1
  ·cases e1
  ·assumption
  ·cases e1
 | _=>cases e2
end
section
variable {Γ:Gm} {X:Cx} {K:Fr} (h:OkX K Γ X) (hp:PassesOwn (model X.prog X.w) X.A X.env X.xe)
include h hp
theorem f_{l:List Stmt}{d:DS.DS}(a:cQ (rc 30) 30 Γ l=some d):jP X l (tS K d):=xM (ZB 30) h hp 30 a
theorem gj{s:Stmt}{d:DS.DS}(a:cS (rc 30) (cQ (rc 30) 30) Γ s=some d):PS X s (tS K d):=BQ (ZB 30) h (fun _ _ q=>f_ h hp q) hp a
omit hp in
theorem IB{c:Expr}{dt:DT}(a:(rc 30).t Γ c=some dt):PT X c (tT K dt):=(ZB 30).t h a
theorem Qq{t:List Stmt}(a:(rc 30).t Γ c=some dt)(b:cQ (rc 30) 30 Γ l=some d)(H:∀T,jP X t T->jP X l' (Ke K g T)):∀T,jP X t T->jP X (.If c l [] p::l') (Ke K (Um dt d g) T):=fun T hT=>ik (IB h a) (f_ h hp b) (H T hT)
omit hp in
theorem Lz(a:(cV (rc 30) Γ dC e1).bind (fun d1=>(slot Γ x).bind fun i=>(cV (rc 30) Γ dC e3).map fun d3=>AU d1 i d3)=some m)(n1:(Yd e1&&Yd e3)=true):jP X [.Return (some (.Tuple [e1,.Name x xp,e3] x1 tp)) pos] (tO K m):=by
 obtain⟨d1,a4,q0⟩:=j6 a;obtain⟨i,a3,q0⟩:=j6 q0;obtain⟨d3,a5,rfl⟩:=jf q0;obtain⟨y1,y2⟩:=jl n1;exact ij (JM (ZB 30) h a4) (JY h a3) (JM (ZB 30) h a5) (jN y1) (jN rfl) (jN y2)
theorem lY(a5:Γ.gs.lookup g=some (.fT k ps' ks F))(a6:Kf Γ x=some i)(w3:(XX Γ g&&ks.all id&&ap.endLine==cp7.line&&ap8.endLine==cp8.line)=true)(a7:cA (rc 30) Γ ks (ea::es)=some l)
  (hG1:∀T,jP X (.Assign [.Tuple [.Name y1 p1,.Name y2 p2,.Name y3 p3] n tp] (.Name y yp) ps4::l3) T->jP X l1 (Ke K g1 T)) (s4:slot Γ y=some i) (c2:Kf Γ y1=some iC) (c4:Kf Γ y2=some iS) (c6:Kf Γ y3=some iP)
  (hG2:∀T,jP X (.Expr (.Call (.Attribute (.Name z zp) "append" ap) [.Constant (.int n7) k7 p7] [] cp7) ps7::.Expr (.Call (.Attribute (.Subscript (.Name u up) (.Constant (.int 0) k8 p8) sp8) "clear" ap8) [] [] cp8) ps8::l5) T->jP X l3 (Ke K g2 T)) (b2:slot Γ z=some iS) (b8:slot Γ u=some iP) (hr:cQ (rc 30) 30 Γ l5=some rs):
  jP X (.Assign [.Name x np] (.Call (.Name g gp) (ea::es) [] cp) ps::l1) (tS K (uJ i iC iS iP F l g1 g2 rs)):=by
 obtain⟨w,w8⟩:=jl w3;obtain⟨w,w7⟩:=jl w;obtain⟨w1,w2⟩:=jl w;obtain⟨e1,e2⟩:=W9 h w1;obtain⟨s1,s2,s3,s4'⟩:=ZN h a6;obtain⟨G,hr'⟩:=h.gs _ _ a5;obtain⟨d1,d2,d3,d4⟩:=vA (ZB 30) h a7;obtain⟨n1,n2,n3,n4⟩:=ZN h c2;obtain⟨m1,m2,m3,m4⟩:=ZN h c4;obtain⟨o1,o2,o3,o4⟩:=ZN h c6;have hK:=h.k;subst hK;exact CA (kQ s1 s2 s3 (EI G hr' d1 (by rw[d2];exact w2) (by show ks.length=l.length;have d2:l.map (·.1)=ks:=d2;rw[<-d2,vYa]) e1 e2 (jN (d3 _ wNa)) (zu fun z hz=>d3 z (wMa _ hz)) h.k) (vY rfl) s4') hG1
  (kP (JY h s4) (X0 h.calm (uB (gX n1 n2 n3 n4) (uB (gX m1 m2 m3 m4) (uB (gX o1 o2 o3 o4) Q5)))) (Ki rfl) (aj rfl)) hG2
  (VX (eB (JY h b2) (JE Wh Yr) rfl rfl w7)) (VX (DX PySem.F.plainAttrs_list PySem.F.slot_list_clear PySem.F.type_list_clear Ah (B4 Q9 (JY h b8) Wh (uN rfl)) rfl w8)) (f_ h hp hr)
end
section
variable {P:Program} {w:World} {K:Fr} {mg:Tx} {base:Heap} {f C:Addr} {fd:FuncData} {n:Nat} {T:Tb} {d:De}
def TOk.O(XG:∀x v,W.nsIn K mainGlobals x=some (some v)->mg x=some v)(h:TOk P w K mg base n T)(a:At K d.x d.q d.st)(S:BR (d.ps++d.lo) d.ps (defScope d.st)=true)(hk:d.ks.length=d.ps.length)(b:Bd d.x d.q d.st d.ps)(c:∀X,OkX K (gm T d false) X->PassesOwn (model X.prog X.w) X.A X.env X.xe->jP X (defBody d.st) (tO K dm)):TOk P w K mg base (n+2) (T.ag d.x (.fT (n+1) d.ps d.ks (Qk d.ks d.lo.length dm))):=by
 obtain⟨f,fd,a1,F⟩:=a;have S:=uP S;have ok:FnOk P w K mg base Yj (n+1) f fd d.ps (XV K d.ks (Qk d.ks d.lo.length dm)):=lS F S hk (by simp) fun cdv A outer s H E hr=>c _ (fX h S hr) PassesOwn.never;exact h.ag (vKa _ _) ⟨⟨f,fd,ok,F.binds b,F.kp,XG _ _ a1⟩,vMa _⟩
def LA(h:TOk P w K mg base n T)(F:Fun K d.x d.q d.st f fd)(S:BR (d.ps++d.lo) d.ps (defScope d.st)=true)(hk:d.ks.length=d.ps.length)(c:∀X,OkX K (gm T d false) X->PassesOwn (model X.prog X.w) X.A X.env X.xe->jP X (defBody d.st) (tS K b)):FnOk P w K mg base Yj (n+1) f fd d.ps (K3 K d.ks (J7 d.ks d.lo.length b)):=
 Em F (uP S) hk (by simp) fun cdv A outer s H E hr=>c _ (fX h (uP S) hr) PassesOwn.never
end
end CP
namespace DS
open PySem L2
def J6(I:Nat->jg->Prop)(h:∀i d Z,items[i]?=some d->I i Z->∃Z1 Z2,g d Z=some Z1/\s Z1=some (.nx Z2)/\I (i+1) Z2):∀{Z:jg},I 0 Z->∃Z',jU g s items Z=some (.nx Z')/\I items.length Z':=by
 induction items generalizing I with
 | nil=>intro Z h0;exact⟨Z,rfl,h0⟩
 | cons d ds ih=>
  intro Z h0;obtain⟨Z1,Z2,e1,e2,i2⟩:=h 0 d Z rfl h0;obtain⟨Z',e3,i3⟩:=ih (fun i=>I (i+1)) (fun i d' Z hd hi=>h (i+1) d' Z (by simpa using hd) hi) i2;exact⟨Z',by rw[jU,e1];show(s Z1).bind _=_;rw[e2];exact e3,i3⟩
theorem vZ(I:jg->Prop)(p:D->Bool)(r:Rs)(hr:(∃d,r=.rt d) \/∃o,r=.rf o)(h:∀d∈items,∀Z,I Z->∃Z1,g d Z=some Z1/\((p d=true/\s Z1=some r) \/ (p d=false/\∃Z2,s Z1=some (.nx Z2)/\I Z2))):∀{Z:jg},I Z->
  (items.any p=true/\jU g s items Z=some r) \/ (items.any p=false/\∃Z',I Z'/\jU g s items Z=some (.nx Z')):=by
 induction items with
 | nil=>intro Z h0;exact .inr ⟨rfl,Z,h0,rfl⟩
 | cons d ds ih=>
  intro Z h0;obtain⟨Z1,e1,z⟩:=h d wNa Z h0;rcases z with⟨hp,e2⟩ | ⟨hp,Z2,e2,i2⟩
  ·refine .inl ⟨by rw[List.any_cons,hp];rfl,?_⟩;rw[jU,e1];show(s Z1).bind _=_;rw[e2];rcases hr with⟨d,rfl⟩ | ⟨o,rfl⟩ <;> rfl
  ·rcases ih (fun d' hd=>h d' (wMa _ hd)) i2 with⟨a1,a2⟩ | ⟨a1,Z',a2,a3⟩
   ·refine .inl ⟨by rw[List.any_cons,a1,Bool.or_true],?_⟩;rw[jU,e1];show(s Z1).bind _=_;rw[e2];exact a2
   ·refine .inr ⟨by rw[List.any_cons,hp,a1];rfl,Z',a2,?_⟩;rw[jU,e1];show(s Z1).bind _=_;rw[e2];exact a3
def bb{r:Rs}(I:Nat->jg->Prop)(ZQ:Nat->Rs->Prop)(h:∀i d Z,items[i]?=some d->I i Z->∃Z1,g d Z=some Z1/\((∃Z2,s Z1=some (.nx Z2)/\I (i+1) Z2) \/∃d',s Z1=some (.rt d')/\ZQ i (.rt d'))):∀{Z:jg},I 0 Z->(∃Z',jU g s items Z=some (.nx Z')/\I items.length Z') \/∃i d',i < items.length/\jU g s items Z=some (.rt d')/\ZQ i (.rt d'):=by
 induction items generalizing I ZQ with
 | nil=>intro Z h0;exact .inl ⟨Z,rfl,h0⟩
 | cons d ds ih=>
  intro Z h0;obtain⟨Z1,e1,z⟩:=h 0 d Z rfl h0;rcases z with⟨Z2,e2,i2⟩ | ⟨d',e2,z⟩
  ·rcases ih (fun i=>I (i+1)) (fun i=>ZQ (i+1)) (fun i d' Z hd hi=>h (i+1) d' Z (by simpa using hd) hi) i2 with⟨Z',e3,i3⟩ | ⟨i,d',hi,e3,z⟩
   ·exact .inl ⟨Z',by rw[jU,e1];show(s Z1).bind _=_;rw[e2];exact e3,i3⟩
   ·exact .inr ⟨i+1,d',by simpa using hi,by rw[jU,e1];show(s Z1).bind _=_;rw[e2];exact e3,z⟩
  ·exact .inr ⟨0,d',by simp,by simp[jU,e1,e2],z⟩
theorem jX(em:α->D)(f:α->D):∀{xs:List α},(∀x∈xs,∃Z1,g (em x) Z=some Z1/\dc Z1=some true/\de Z1=some (f x))->Ji g dc de (xs.map em) Z=some (xs.map f)
 | [],_=>rfl
 | x::xs,h=>by
  obtain⟨Z1,e1,e2,e3⟩:=h x wNa;have ih:=jX em f (xs:=xs) fun y hy=>h y (wMa _ hy);simp[Ji,e1,e2,e3,ih]
theorem Kk(I:jg->Prop)(m:jg->Nat)(h:∀Z,I Z->dt Z=some false \/ (dt Z=some true/\∃Z2,s Z=some (.nx Z2)/\I Z2/\m Z2 < m Z)):∀{n:Nat} {Z:jg},I Z->m Z < n->∃Z',ZK dt s n Z=some (.nx Z')/\I Z'/\dt Z'=some false
 | 0,Z,_,hn=>vDa hn (Nat.not_lt_zero _)
 | n+1,Z,hi,hn=>by
  rcases h Z hi with e | ⟨e,Z2,e2,i2,hm⟩
  ·exact⟨Z,by simp[ZK,e],hi,e⟩
  ·obtain⟨Z',e3,i3,f3⟩:=Kk I m h (n:=n) i2 (by omega);exact⟨Z',by simp[ZK,e,e2,e3],i3,f3⟩
noncomputable def t3(t:T3):D:=.tup [.int t.1,.int t.2.1,.int t.2.2]
structure Bk where
 size:Int
 kinds:List T3
 shuns:List T3
 bars:List T3
 dues:List T3
noncomputable def jW(b:Bk):D:=.tup [.int b.size,.lst (b.kinds.map t3),.lst (b.shuns.map t3),.lst (b.bars.map t3),.lst (b.dues.map t3)]
noncomputable def jj(C:Addr)(b:Bk):D:=.ins C ["size", "kind_rows", "shun_rows", "bar_rows", "due_rows"] [.int b.size,.tup (b.kinds.map t3),.tup (b.shuns.map t3),.tup (b.bars.map t3),.tup (b.dues.map t3)]
structure Sd where
 place:Int
 kind:Int
 len:Int
 before:Int
 waits:List Int
 met:List Bool
noncomputable def j3(s:Sd):D:=.tup [.int s.place,.int s.kind,.int s.len,.int s.before,.tup (s.waits.map .int),.tup (s.met.map .bl)]
noncomputable def yx(ks:List T3)(k:Int):T3:=ks.getD k.toNat (0,0,0)
def Yx(h0:0<=k)(h:xs[k.toNat]?=some x):atI xs k=some x:=by
 have hk:=(uSa h).1;unfold atI u6;rw[if_pos h0,if_pos (by omega)];exact h
def Jz{xs:List α}{k:Int}(h0:0<=k)(h1:k < (xs.length:Int)):atI (xs.map f) k=some (f (xs.getD k.toNat d)):=by
 have hk:k.toNat < xs.length:=by omega
 refine Yx h0 ?_;rw[uAa,uBa,uCa hk];rfl
def Y5{ks:List T3}(h0:0<=k)(h1:k < (ks.length:Int)):atI (ks.map t3) k=some (t3 (yx ks k)):=Jz h0 h1
def qc{n:Nat}{k:Int}(h0:0<=k)(h1:k < (n:Int)):u6 n k=some k.toNat:=by unfold u6;rw[if_pos h0,if_pos h1]
def jo(h:n<=10000):n < sizeLine:=wRa h (by decide)
noncomputable def fK(t:T3):Bool:=decide (1<=t.1)&&(decide (t.1<=t.2.1)&&(decide (t.2.1<=4)&&(decide (0<=t.2.2)&&decide (t.2.2<=4))))
noncomputable def fS(m:Int)(t:T3):Bool:=decide (0<=t.1)&&(decide (t.1 < m)&&(decide (0<=t.2.1)&&(decide (t.2.1 < m)&&(decide (1<=t.2.2)&&decide (t.2.2<=2)))))
noncomputable def fB(m s:Int)(t:T3):Bool:=decide (0<=t.1)&&(decide (t.1 < m)&&(decide (1<=t.2.1)&&(decide (t.2.1<=t.2.2)&&decide (t.2.2<=s))))
noncomputable def fC(s k h b d:Int):Bool:=decide (1<=s)&&(decide (s<=30)&&(decide (1<=k)&&(decide (k<=4)&&(decide (h<=20)&&(decide (b<=12)&&decide (d<=3))))))
def fR(s:Int)(k h b d:List T3):Bool:=k.all fK&&(h.all (fS k.length)&&(b++d).all (fB k.length s))
def qd(b:Bk):Bool:=fC b.size b.kinds.length b.shuns.length b.bars.length b.dues.length&&fR b.size b.kinds b.shuns b.bars b.dues
noncomputable def gk(C:Addr)(b:Bk):OD:=.ins C ["size", "kind_rows", "shun_rows", "bar_rows", "due_rows"] [.int b.size,.tup (b.kinds.map t3),.tup (b.shuns.map t3),.tup (b.bars.map t3),.tup (b.dues.map t3)]
noncomputable def BU:D->Option T3
 | .tup [.int x,.int y,.int z]=>some (x,y,z)
 | _=>none
def KT:List D->Option (List T3)
 | []=>some []
 | d::l=>(BU d).bind fun t=>(KT l).bind fun ts=>some (t::ts)
def F2(t:T3):BU (t3 t)=some t:=rfl
theorem qe:∀ts:List T3,KT (ts.map t3)=some ts
 | []=>rfl
 | t::ts=>by rw[vWa,KT,F2,qe ts];rfl
def F5(h:BU d=some t):d=t3 t:=by
 cases d with
 | tup l=>
  rcases l with _ | ⟨a,_ | ⟨b,_ | ⟨c,_ | ⟨e,r⟩⟩⟩⟩ <;> try cases h
  all_goals (cases a <;> try cases h)
  all_goals (cases b <;> try cases h)
  all_goals (cases c <;> try cases h)
  rfl
 | _=>cases h
theorem Qr:∀{l:List D} {ts:List T3},KT l=some ts->l=ts.map t3
 | [],_,h=>by cases h;rfl
 | d::l,ts,h=>by
  rw[KT]at h;obtain⟨t,e1,h⟩:=j6 h;obtain⟨r,e2,h⟩:=j6 h;cases h;rw[vWa,<-F5 e1,<-Qr e2]
noncomputable def gI:D->Option Int
 | .int s=>some s
 | _=>none
def gL:D->Option (List T3)
 | .lst l=>KT l
 | _=>none
def iw(h:gI d=some s):d=.int s:=by
 cases d <;> cases h;rfl
def Wb(h:gL d=some ts):d=.lst (ts.map t3):=by
 cases d with
 | lst l=>rw[Qr h]
 | _=>cases h
def KU(C:Addr):List D->Option OD
 | [s,k,h,b,d]=>(gI s).bind fun s=>(gL k).bind fun k'=>(gL h).bind fun h'=>(gL b).bind fun b'=>(gL d).bind fun d'=>if qd ⟨s,k',h',b',d'⟩=true then some (gk C ⟨s,k',h',b',d'⟩)else none
 | _=>none
def F7(h:KU C ds=some o):∃b:Bk,qd b=true/\ds=[.int b.size,.lst (b.kinds.map t3),.lst (b.shuns.map t3),.lst (b.bars.map t3),.lst (b.dues.map t3)]/\gk C b=o:=by
 rcases ds with _ | ⟨s,_ | ⟨k,_ | ⟨hh,_ | ⟨b,_ | ⟨d,_ | ⟨e,r⟩⟩⟩⟩⟩⟩ <;> try cases h
 have h:((gI s).bind fun s=>(gL k).bind fun k'=>(gL hh).bind fun h'=>(gL b).bind fun b'=>(gL d).bind fun d'=>if qd ⟨s,k',h',b',d'⟩=true then some (gk C ⟨s,k',h',b',d'⟩)else none)=some o:=h;obtain⟨s0,e0,h⟩:=j6 h;obtain⟨k',e1,h⟩:=j6 h;obtain⟨h',e2,h⟩:=j6 h;obtain⟨b',e3,h⟩:=j6 h;obtain⟨d',e4,h⟩:=j6 h;by_cases ok:qd ⟨s0,k',h',b',d'⟩=true
 ·rw[if_pos ok]at h;rw[iw e0,Wb e1,Wb e2,Wb e3,Wb e4];exact⟨_,ok,rfl,vFa h⟩
 ·rw[if_neg ok]at h;cases h
@[simp] theorem LB(s:Sd):j9 (j3 s) (.int 0)=some (.int s.place):=rfl
@[simp] theorem LC(s:Sd):j9 (j3 s) (.int 1)=some (.int s.kind):=rfl
@[simp] theorem LD(s:Sd):j9 (j3 s) (.int 2)=some (.int s.len):=rfl
@[simp] theorem LE(s:Sd):j9 (j3 s) (.int 3)=some (.int s.before):=rfl
@[simp] theorem LF(s:Sd):j9 (j3 s) (.int 4)=some (.tup (s.waits.map .int)):=rfl
@[simp] theorem LG(s:Sd):j9 (j3 s) (.int 5)=some (.tup (s.met.map .bl)):=rfl
@[simp] theorem LL(t:T3):j9 (t3 t) (.int 0)=some (.int t.1):=rfl
@[simp] theorem LM(t:T3):j9 (t3 t) (.int 1)=some (.int t.2.1):=rfl
@[simp] theorem LN(t:T3):j9 (t3 t) (.int 2)=some (.int t.2.2):=rfl
@[simp] theorem LO(b:Bk):j9 (jW b) (.int 0)=some (.int b.size):=rfl
@[simp] theorem LP(b:Bk):j9 (jW b) (.int 1)=some (.lst (b.kinds.map t3)):=rfl
@[simp] theorem LQ(b:Bk):j9 (jW b) (.int 2)=some (.lst (b.shuns.map t3)):=rfl
@[simp] theorem LR(b:Bk):j9 (jW b) (.int 3)=some (.lst (b.bars.map t3)):=rfl
@[simp] theorem LS(b:Bk):j9 (jW b) (.int 4)=some (.lst (b.dues.map t3)):=rfl
@[simp] theorem LT(t:T3):Vm (t3 t)=false:=rfl
@[simp] theorem LH(s:Sd):Vm (j3 s)=false:=rfl
end DS
namespace M
open DS
@[simp] noncomputable abbrev fV(n:Nat):Bool×DE:=(false,dV n)
@[simp] noncomputable abbrev tC(n:Nat):Bool×DE:=(true,dC n)
@[simp] noncomputable abbrev dN(i:Int):DE:=dK (.int i)
@[simp high] theorem m9(a:Sl)(l:jg):(a::l)[0]?=some a:=rfl
@[simp high] theorem me(a x:Sl)(l:jg):List.set (a::l) 0 x=x::l:=rfl
@[elab_as_elim] theorem LU{α:Type}{motive:List α->Prop}(us:List α)(hl:us.length=0)(h:motive []):motive us:=by
 cases us with
 | nil=>exact h 
 | cons y us=>simp at hl
@[elab_as_elim] theorem LV{α:Type}{motive:List α->Prop}(us:List α)(hl:us.length=1)(h:∀x0,motive [x0]):motive us:=by
 cases us with
 | nil=>simp at hl
 | cons x0 us=>
  cases us with
  | nil=>exact h x0
  | cons y us=>simp at hl
@[elab_as_elim] theorem LW{α:Type}{motive:List α->Prop}(us:List α)(hl:us.length=2)(h:∀x0 x1,motive [x0,x1]):motive us:=by
 cases us with
 | nil=>simp at hl
 | cons x0 us=>
  cases us with
  | nil=>simp at hl
  | cons x1 us=>
   cases us with
   | nil=>exact h x0 x1
   | cons y us=>simp at hl
@[elab_as_elim] theorem LX{α:Type}{motive:List α->Prop}(us:List α)(hl:us.length=3)(h:∀x0 x1 x2,motive [x0,x1,x2]):motive us:=by
 cases us with
 | nil=>simp at hl
 | cons x0 us=>
  cases us with
  | nil=>simp at hl
  | cons x1 us=>
   cases us with
   | nil=>simp at hl
   | cons x2 us=>
    cases us with
    | nil=>exact h x0 x1 x2
    | cons y us=>simp at hl
@[elab_as_elim] theorem LY{α:Type}{motive:List α->Prop}(us:List α)(hl:us.length=4)(h:∀x0 x1 x2 x3,motive [x0,x1,x2,x3]):motive us:=by
 cases us with
 | nil=>simp at hl
 | cons x0 us=>
  cases us with
  | nil=>simp at hl
  | cons x1 us=>
   cases us with
   | nil=>simp at hl
   | cons x2 us=>
    cases us with
    | nil=>simp at hl
    | cons x3 us=>
     cases us with
     | nil=>exact h x0 x1 x2 x3
     | cons y us=>simp at hl
@[elab_as_elim] theorem LZ{α:Type}{motive:List α->Prop}(us:List α)(hl:us.length=5)(h:∀x0 x1 x2 x3 x4,motive [x0,x1,x2,x3,x4]):motive us:=by
 cases us with
 | nil=>simp at hl
 | cons x0 us=>
  cases us with
  | nil=>simp at hl
  | cons x1 us=>
   cases us with
   | nil=>simp at hl
   | cons x2 us=>
    cases us with
    | nil=>simp at hl
    | cons x3 us=>
     cases us with
     | nil=>simp at hl
     | cons x4 us=>
      cases us with
      | nil=>exact h x0 x1 x2 x3 x4
      | cons y us=>simp at hl
@[elab_as_elim] theorem L_{α:Type}{motive:List α->Prop}(us:List α)(hl:us.length=6)(h:∀x0 x1 x2 x3 x4 x5,motive [x0,x1,x2,x3,x4,x5]):motive us:=by
 cases us with
 | nil=>simp at hl
 | cons x0 us=>
  cases us with
  | nil=>simp at hl
  | cons x1 us=>
   cases us with
   | nil=>simp at hl
   | cons x2 us=>
    cases us with
    | nil=>simp at hl
    | cons x3 us=>
     cases us with
     | nil=>simp at hl
     | cons x4 us=>
      cases us with
      | nil=>simp at hl
      | cons x5 us=>
       cases us with
       | nil=>exact h x0 x1 x2 x3 x4 x5
       | cons y us=>simp at hl
@[elab_as_elim] theorem m7{α:Type}{motive:List α->Prop}(us:List α)(hl:us.length=7)(h:∀x0 x1 x2 x3 x4 x5 x6,motive [x0,x1,x2,x3,x4,x5,x6]):motive us:=by
 cases us with
 | nil=>simp at hl
 | cons x0 us=>
  cases us with
  | nil=>simp at hl
  | cons x1 us=>
   cases us with
   | nil=>simp at hl
   | cons x2 us=>
    cases us with
    | nil=>simp at hl
    | cons x3 us=>
     cases us with
     | nil=>simp at hl
     | cons x4 us=>
      cases us with
      | nil=>simp at hl
      | cons x5 us=>
       cases us with
       | nil=>simp at hl
       | cons x6 us=>
        cases us with
        | nil=>exact h x0 x1 x2 x3 x4 x5 x6
        | cons y us=>simp at hl
def sq(h:s1 Z=some (.nx Z1))(k:s2 Z1=r):j5 s1 s2 Z=r:=by rw[j5,h];exact k
def Vu(h:s1 Z=some (.rt d)):j5 s1 s2 Z=some (.rt d):=by rw[j5,h];rfl
def ZP(h:t Z=some true)(k:s1 Z=r):jk t s1 s2 Z=r:=by rw[jk,h];exact k
def JA(h:t Z=some false)(k:s2 Z=r):jk t s1 s2 Z=r:=by rw[jk,h];exact k
def fE(h:b (ZX ks ds n)=some (.rt d)):J7 ks n b ds=some d:=by rw[J7,h];rfl
end M
noncomputable section
namespace M
open PySem L2 DS
def zx:=(gN 6)
def y0(C:Addr):=(jk (jm (d2 yu (dV 5) (dN 0))) (j5 (yg 2 (d2 Jg (dV 5) (dN 1009)))
 (jp 5 (d2 KB (dV 5) (dN 1009)))) jv)
def yY:=(gN 4)
def yZ(C:Addr):=(j5 (jp 3 (d2 Jg (d2 jy (d2 jy (d2 yX (dV 3) (dN 48271)) (d2 Jg (dV 4) (dN 1000003))) (dN 11)) (dN 2147483647)))
 (j5 (jp 5 (d2 Yb (dV 4) (d2 As (dN 10) (dN 18))))
 (j5 (jk (jm (d2 Y3 (dV 5) (dN 0))) (yg 2 (d2 Jg (dV 4) (dN 9973))) jv)
 (jD (Yl (dN 60)) zx (y0 C)))))
def ya(C:Addr):=(jm (d2 Y3 (ja J5 [(fV 2)]) (dV 1)))
def zy(C:Addr):=(j5 (jp 3 (d2 Jg (d2 jy (d2 jy (d2 jy (d2 yX (dV 3) (dV 3)) (d2 yX (dN 69621) (dV 3))) (d2 yX (dN 7) (ja J5 [(fV 2)]))) (dN 5)) (dN 2147483629)))
 (yg 2 (d2 Jg (d2 KB (dV 3) (dN 1013)) (dN 9973))))
def Zm(C:Addr):=(j5 (J_ 2 (JN []))
 (j5 (jp 3 (dN 29))
 (j5 (jD (jz (dL (zf (dV 0) (fun _=>some none) (fun Z=>((dN 63) Z).bind yU)))) yY (yZ C))
 (j5 (ZK (ya C) (zy C) 20000)
 (Gb (zf (dV 2) (fun _=>some none) (fun Z=>((dV 1) Z).bind yU)))))))
def Zn(C:Addr):=u9 [false,false] 5 (Zm C)
def v_:=(gN 5)
def zA(C:Addr):=(j5 (jp 6 (d2 jy (dN 1) (d2 Jg (d2 j9 (dV 3) (d2 jy (d2 yX (dN 3) (dV 5)) (dN 1))) (dV 1))))
 (yg 4 (yk [(true,(d2 Jg (d2 j9 (dV 3) (d2 yX (dN 3) (dV 5))) (dV 0))),(tC 6),(true,(d2 jy (dV 6) (d2 Jg (d2 j9 (dV 3) (d2 jy (d2 yX (dN 3) (dV 5)) (dN 2))) (d2 jy (d2 Yb (dV 1) (dV 6)) (dN 1)))))])))
def Zo(C:Addr):=(j5 (J_ 4 (JN []))
 (j5 (jD (Yl (dV 2)) v_ (zA C))
 (zL 4)))
def YL(C:Addr):=u9 [false,false,false,false] 3 (Zo C)
def Uo:=(gN 5)
def ZY(C:Addr):=(j5 (jp 6 (d2 jy (dN 1) (d2 j9 (dL (JN [(true,(dN 0)),(true,(dN 0)),(true,(dN 1)),(true,(dN 0)),(true,(dN 2)),(true,(dN 3)),(true,(dN 1))])) (d2 Jg (d2 j9 (dV 0) (d2 jy (dN 2) (dV 5))) (dN 7)))))
 (j5 (jp 7 (d2 j9 (dL (JN [(true,(dN 0)),(true,(dN 1)),(true,(dN 2)),(true,(dN 0)),(true,(dN 3)),(true,(dN 4)),(true,(dN 1))])) (d2 Jg (d2 j9 (dV 0) (d2 jy (dN 10) (dV 5))) (dN 7))))
 (j5 (jk (JR (Je (jm (d2 jM (dV 2) (dN 4))) (jm (d2 yu (dV 3) (dN 6)))) (jm (d2 yu (dV 3) (dN 12)))) (jp 7 (d2 Jg (dV 7) (dN 3))) jv)
 (yg 4 (yk [(tC 6),(true,(d2 jy (dV 6) (d2 Jg (d2 j9 (dV 0) (d2 jy (dN 6) (dV 5))) (d2 Yb (dN 5) (dV 6))))),(tC 7)])))))
def Up:=(gN 5)
def ZZ(C:Addr):=(j5 (jp 9 (d2 jy (d2 jy (dN 44) (d2 yX (dN 3) (d2 Jg (dV 5) (dN 5)))) (d2 KB (dV 5) (dN 5))))
 (yg 8 (yk [(true,(d2 Jg (d2 j9 (dV 0) (dV 9)) (dV 2))),(true,(d2 Jg (d2 j9 (dV 0) (d2 jy (dV 9) (dN 1))) (dV 2))),(true,(d2 jy (dN 1) (d2 Jg (d2 j9 (dV 0) (d2 jy (dV 9) (dN 2))) (dN 2))))])))
def VG(C:Addr):=(j5 (jp 2 (d2 j9 (dL (JN [(true,(dN 2)),(true,(dN 3)),(true,(dN 3)),(true,(dN 2)),(true,(dN 1)),(true,(dN 4)),(true,(dN 3))])) (d2 Jg (d2 j9 (dV 0) (dN 0)) (dN 7))))
 (j5 (jp 3 (d2 jy (dN 1) (d2 Jg (d2 j9 (dV 0) (dN 1)) (dV 1))))
 (j5 (J_ 4 (JN []))
 (j5 (jD (Yl (dV 2)) Uo (ZY C))
 (j5 (J_ 8 (JN []))
 (j5 (jD (Yl (d2 j9 (dL (JN [(true,(dN 0)),(true,(dN 0)),(true,(dN 1)),(true,(dN 2)),(true,(dN 3)),(true,(dN 0)),(true,(dN 20))])) (d2 Jg (d2 j9 (dV 0) (dN 14)) (dN 7)))) Up (ZZ C))
 (j5 (jp 10 (dL (JO 1 [0] (Yl (dN 36)) (gN 0) jx (d2 jy (d2 j9 (dV 1) (d2 jy (dN 16) (d2 Jg (d2 yX (dN 5) (dV 0)) (dN 9)))) (d2 yX (dN 7) (dV 0))))))
 (j5 (jp 11 (dL (Jm (YL C) [(fV 2),(fV 3),(false,(d2 j9 (dL (JN [(true,(dN 0)),(true,(dN 1)),(true,(dN 0)),(true,(dN 2)),(true,(dN 12)),(true,(dN 0))])) (d2 Jg (d2 j9 (dV 0) (dN 15)) (dN 6)))),(fV 10)])))
 (j5 (jp 12 (d2 j9 (dL (JN [(true,(dN 0)),(true,(dN 1)),(true,(dN 0)),(true,(dN 2)),(true,(dN 3)),(true,(dN 1))])) (d2 Jg (d2 j9 (dV 0) (dN 25)) (dN 6))))
 (j5 (jk (Je (jm (d2 yu (dV 3) (dN 5))) (jm (d2 yu (dV 2) (dN 2)))) (jp 12 (d2 Jg (dV 12) (dN 3))) jv)
 (u8 4 (u8 8 (je (yk [(tC 3),(tC 4),(tC 8),(tC 11),(true,(dL (Jm (YL C) [(fV 2),(fV 3),(fV 12),(false,(dL (zf (dV 0) (fun Z=>((dN 26) Z).bind yU) (fun Z=>((dN 35) Z).bind yU))))])))]))))))))))))))
def VH(C:Addr):=J7 [false,false] 11 (VG C)
def Z_(C:Addr):=(j5 (jk (JR (J1 (jm (Jc Jb Jb (dN 1) (dV 0) (dN 30)))) (J1 (jm (Jc Jb Jb (dN 1) (ja J5 [(fV 1)]) (dN 4))))) (je (dK (.bl false))) jv)
 (je (Jt (d2 Jb (ja J5 [(fV 2)]) (dN 20)) (Jt (d2 Jb (ja J5 [(fV 3)]) (dN 12)) (d2 Jb (ja J5 [(fV 4)]) (dN 3))))))
def v4(C:Addr):=J7 [false,false,false,false,false] 0 (Z_ C)
def VI(C:Addr):=(j5 (jk (jm (d2 yV (ja J5 [(fV 0)]) (dN 3))) (je (dK (.bl false))) jv)
 (j5 (vR (dC 0) (gT 3 (gC (gN 1) (gC (gN 2) (gC (gN 3) gZ)))))
 (je (Jt (G8 Jb Jb Jb (dN 1) (dV 1) (dV 2) (dN 4)) (Jc Jb Jb (dN 0) (dV 3) (dN 4))))))
def ZC(C:Addr):=J7 [true] 3 (VI C)
def VJ(C:Addr):=(j5 (jk (jm (d2 yV (ja J5 [(fV 0)]) (dN 3))) (je (dK (.bl false))) jv)
 (j5 (vR (dC 0) (gT 3 (gC (gN 2) (gC (gN 3) (gC (gN 4) gZ)))))
 (je (Jt (Jc Jb Y3 (dN 0) (dV 2) (dV 1)) (Jt (Jc Jb Y3 (dN 0) (dV 3) (dV 1)) (Jc Jb Jb (dN 1) (dV 4) (dN 2)))))))
def ZD(C:Addr):=J7 [true,false] 3 (VJ C)
def VL(C:Addr):=(j5 (jk (jm (d2 yV (ja J5 [(fV 0)]) (dN 3))) (je (dK (.bl false))) jv)
 (j5 (vR (dC 0) (gT 3 (gC (gN 3) (gC (gN 4) (gC (gN 5) gZ)))))
 (je (Jt (Jc Jb Y3 (dN 0) (dV 3) (dV 1)) (G8 Jb Jb Jb (dN 1) (dV 4) (dV 5) (dV 2))))))
def ZE(C:Addr):=J7 [true,false,false] 3 (VL C)
def VM(C:Addr):=(j5 (jp 5 (ja J5 [(fV 1)]))
 (j5 (jk (J1 (jZ (ja Yt [(false,(dL (JO 1 [] (jz (dP 1)) (gN 0) jx (ja (ZC C) [(tC 0)]))))]))) (je (dK (.bl false))) jv)
 (j5 (jk (J1 (jZ (ja Yt [(false,(dL (JO 1 [5] (jz (dP 2)) (gN 0) jx (ja (ZD C) [(tC 0),(fV 1)]))))]))) (je (dK (.bl false))) jv)
 (je (ja Yt [(false,(dL (JO 1 [5,0] (jz (dL (Bg KF (dV 3) (dV 4)))) (gN 0) jx (ja (ZE C) [(tC 0),(fV 1),(fV 2)]))))])))))
def VN(C:Addr):=J7 [false,false,false,false,false] 1 (VM C)
def y_(C:Addr):=(j5 (jk (J1 (jZ (ja (v4 C) [(fV 1),(fV 2),(fV 3),(fV 4),(fV 5)]))) Zw jv)
 (j5 (jk (J1 (jZ (ja (VN C) [(fV 1),(fV 2),(fV 3),(fV 4),(fV 5)]))) Zw jv)
 (j5 (Vr 0 C "size" (dC 1))
 (j5 (Vr 0 C "kind_rows" (ja yK [(fV 2)]))
 (j5 (Vr 0 C "shun_rows" (ja yK [(fV 3)]))
 (j5 (Vr 0 C "bar_rows" (ja yK [(fV 4)]))
 (Vr 0 C "due_rows" (ja yK [(fV 5)]))))))))
def yH(C:Addr):=XC C [true,false,false,false,false] 0 (y_ C)
def yb(C:Addr):=DS.KU C
def VO(C:Addr):=(Gb (xu (yb C) [(true,(d2 j9 (dV 0) (dN 0))),(false,(dL (Jm uE [(false,(d2 j9 (dV 0) (dN 1)))]))),(false,(dL (Jm uE [(false,(d2 j9 (dV 0) (dN 2)))]))),(false,(dL (Jm uE [(false,(d2 j9 (dV 0) (dN 3)))]))),(false,(dL (Jm uE [(false,(d2 j9 (dV 0) (dN 4)))])))]))
def VP(C:Addr):=u9 [false] 0 (VO C)
def Uq:=(gN 3)
def zh(C:Addr):=(j5 (yg 2 (d2 Jg (d2 j9 (dV 1) (dV 3)) (ja J5 [(false,(d2 j9 (dV 0) (dN 1)))])))
 (jk (Je (jm (d2 jM (d2 Jg (d2 j9 (dV 1) (dN 40)) (dN 2)) (dN 1))) (Je (jm (d2 yu (dV 3) (dN 0))) (jm (d2 yu (d2 Jg (d2 KB (d2 j9 (dV 1) (dV 3)) (dN 7)) (dN 3)) (dN 0))))) (Ga 2 (dV 3) (d2 j9 (dV 2) (d2 Yb (dV 3) (dN 1)))) jv))
def VQ(C:Addr):=(j5 (J_ 2 (JN []))
 (j5 (jD (Yl (d2 j9 (dV 0) (dN 0))) Uq (zh C))
 (zL 2)))
def VR(C:Addr):=u9 [false,false] 2 (VQ C)
def zN(C:Addr):=(j5 (jk (jm (d2 jM (d2 Jg (d2 j9 (dV 1) (dN 40)) (dN 3)) (dN 0))) (Gb (JO 1 [] (Yl (d2 j9 (dV 0) (dN 0))) (gN 0) jx (dN 1))) jv)
 (Gb (JO 1 [1] (Yl (d2 j9 (dV 0) (dN 0))) (gN 0) jx (d2 jy (dN 1) (d2 Jg (d2 j9 (dV 1) (dV 0)) (dN 9))))))
def zO(C:Addr):=u9 [false,false] 0 (zN C)
def V0(C:Addr):=(je (ja J5 [(false,(d1 (jK C "kind_rows") (dV 0)))]))
def yM(C:Addr):=J7 [false] 0 (V0 C)
def gn(C:Addr):=(je (Jc Jb Y3 (dN 0) (dV 1) (d1 (Vp C "many" (yM C)) (dV 0))))
def Vv(C:Addr):=J7 [false,false] 0 (gn C)
def YT(C:Addr):=(je (ja Yt [(false,(dL (JO 1 [0] (jz (dP 1)) (gN 0) jx (ja (Vv C) [(fV 1),(fV 0)]))))]))
def YU(C:Addr):=J7 [false,false] 0 (YT C)
def VS(C:Addr):=(j5 (jk (J1 (jZ (ja (YU C) [(fV 0),(fV 1)]))) Zw jv)
 (jk (jm (d2 yu (ja J5 [(fV 1)]) (d1 (jK C "size") (dV 0)))) Zw jv))
def ZF(C:Addr):=J7 [false,false] 0 (VS C)
def V1(C:Addr):=(j5 (vz (ja (ZF C) [(fV 0),(fV 1)]))
 (j5 (jk (jm (d2 Y3 (ja J5 [(fV 1)]) (d1 (jK C "size") (dV 0)))) Zw jv)
 (j5 (jk (jm (d2 yV (ja J5 [(fV 2)]) (d1 (jK C "size") (dV 0)))) Zw jv)
 (jk (J1 (jZ (ja Yt [(false,(dL (JO 1 [] (jz (dP 2)) (gN 0) jx (Jc Jb Jb (dN 1) (dV 0) (dN 9)))))]))) Zw jv))))
def zP(C:Addr):=J7 [false,false,false] 0 (V1 C)
def v5(C:Addr):=(j5 (jp 1 (d2 yX (yk [(true,(dN 0))]) (d1 (Vp C "many" (yM C)) (dV 0))))
 (j5 (jp 2 (d2 yX (yk [(true,(dK (.bl false)))]) (ja J5 [(false,(d1 (jK C "due_rows") (dV 0)))])))
 (je (yk [(true,(dN 0)),(true,(VE (dN 1))),(true,(dN 0)),(true,(VE (dN 1))),(tC 1),(tC 2)]))))
def yn(C:Addr):=J7 [false] 2 (v5 C)
def Ur:=(gT 3 (gC (gN 4) (gC (gN 5) (gC (gN 6) gZ))))
def Us(C:Addr):=(jk (Je (jm (d2 jM (dV 4) (dV 2))) (jm (Jc Jb Jb (dV 5) (dV 3) (dV 6)))) (je (dK (.bl true))) jv)
def GH(C:Addr):=(j5 (jp 3 (d2 jy (d2 j9 (dV 1) (dN 0)) (dN 1)))
 (j5 (jD (jz (d1 (jK C "bar_rows") (dV 0))) Ur (Us C))
 (je (dK (.bl false)))))
def GJ(C:Addr):=J7 [false,false,false] 4 (GH C)
def gq(C:Addr):=(je (Jt (d2 jM (d2 j9 (dV 1) (dN 1)) (dV 2)) (d2 Vl (d2 j9 (dV 1) (dN 2)) (d2 j9 (d2 j9 (d1 (jK C "kind_rows") (dV 0)) (dV 2)) (dN 1)))))
def gr(C:Addr):=J7 [false,false,false] 0 (gq C)
def uQ(C:Addr):=(j5 (jp 3 (d2 j9 (dV 1) (dN 1)))
 (j5 (jk (JR (jm (d2 jM (dV 3) (dV 2))) (jm (d2 jM (dV 3) (VE (dN 1))))) (je (dK (.bl false))) jv)
 (je (d2 Y3 (d2 j9 (dV 1) (dN 2)) (d2 j9 (d2 j9 (d1 (jK C "kind_rows") (dV 0)) (dV 3)) (dN 0))))))
def uR(C:Addr):=J7 [false,false,false] 1 (uQ C)
def uS(C:Addr):=(je (Jt (d2 yV (d2 j9 (dV 0) (dN 1)) (dV 1)) (d2 yV (d2 j9 (d2 j9 (dV 0) (dN 4)) (dV 1)) (dN 0))))
def uT(C:Addr):=J7 [false,false] 0 (uS C)
def uf:=(gT 3 (gC (gN 3) (gC (gN 4) (gC (gN 5) gZ))))
def Zp(C:Addr):=(j5 (jp 6 (GU (jm (d2 jM (dV 5) (dN 1))) (d2 j9 (dV 1) (dN 1)) (d2 j9 (dV 1) (dN 3))))
 (jk (Je (jm (d2 jM (dV 4) (dV 2))) (jm (d2 jM (dV 6) (dV 3)))) (je (dK (.bl true))) jv))
def gt(C:Addr):=(j5 (jD (jz (d1 (jK C "shun_rows") (dV 0))) uf (Zp C))
 (je (dK (.bl false))))
def gu(C:Addr):=J7 [false,false,false] 4 (gt C)
def gw:=(gT 2 (gC (gN 5) (gC (gN 6) gZ)))
def V2(C:Addr):=(j5 (vR (dC 5) (gT 3 (gC (gN 7) (gC (gN 8) (gC (gN 9) gZ)))))
 (yg 4 (UU (dV 6) (Jt (d2 jM (dV 7) (dV 2)) (Jc Jb Jb (dV 8) (dV 3) (dV 9))))))
def uU(C:Addr):=(j5 (jp 3 (d2 jy (d2 j9 (dV 1) (dN 0)) (dN 1)))
 (j5 (J_ 4 (JN []))
 (j5 (jD (xt (d1 (jK C "due_rows") (dV 0)) (d2 j9 (dV 1) (dN 5))) gw (V2 C))
 (je (ja yK [(fV 4)])))))
def vB(C:Addr):=J7 [false,false,false] 7 (uU C)
def ug:=(gT 2 (gC (gN 4) (gC (gN 5) gZ)))
def uh(C:Addr):=(jk (Je (jm (d2 jM (d2 j9 (dV 4) (dN 2)) (dV 3))) (J1 (jZ (dV 5)))) (je (dK (.bl true))) jv)
def gx(C:Addr):=(j5 (jp 3 (d2 jy (d2 j9 (dV 1) (dN 0)) (dN 1)))
 (j5 (jD (xt (d1 (jK C "due_rows") (dV 0)) (ja (vB C) [(fV 0),(fV 1),(fV 2)])) ug (uh C))
 (je (dK (.bl false)))))
def gy(C:Addr):=J7 [false,false,false] 3 (gx C)
def uV(C:Addr):=(j5 (jk (jm (d2 jM (d2 j9 (dV 0) (dN 1)) (dV 1))) (je (d2 jy (d2 j9 (dV 0) (dN 2)) (dN 1))) jv)
 (je (dN 1)))
def vC(C:Addr):=J7 [false,false] 0 (uV C)
def kf(C:Addr):=(j5 (jk (jm (d2 yV (d2 jy (d2 j9 (dV 1) (dN 0)) (dN 1)) (d1 (jK C "size") (dV 0)))) (je (dK (.bl false))) jv)
 (je (d2 Y3 (ja (vC C) [(fV 1),(fV 2)]) (d2 j9 (d2 j9 (d1 (jK C "kind_rows") (dV 0)) (dV 2)) (dN 0)))))
def kg(C:Addr):=J7 [false,false,false] 0 (kf C)
def kh(C:Addr):=(j5 (jk (jZ (ja (GJ C) [(fV 0),(fV 1),(fV 2)])) (je (dK (.str "barred"))) jv)
 (j5 (jk (jZ (ja (gr C) [(fV 0),(fV 1),(fV 2)])) (je (dK (.str "long"))) jv)
 (j5 (jk (jZ (ja (uR C) [(fV 0),(fV 1),(fV 2)])) (je (dK (.str "short"))) jv)
 (j5 (jk (jZ (ja (uT C) [(fV 1),(fV 2)])) (je (dK (.str "early"))) jv)
 (j5 (jk (jZ (ja (gu C) [(fV 0),(fV 1),(fV 2)])) (je (dK (.str "shun"))) jv)
 (j5 (jk (jZ (ja (gy C) [(fV 0),(fV 1),(fV 2)])) (je (dK (.str "due"))) jv)
 (j5 (jk (jZ (ja (kg C) [(fV 0),(fV 1),(fV 2)])) (je (dK (.str "cut"))) jv)
 (je (dK .non)))))))))
def ki(C:Addr):=J7 [false,false,false] 0 (kh C)
def V3(C:Addr):=(j5 (jp 3 (d2 j9 (dV 1) (dN 1)))
 (j5 (J_ 4 (JO 1 [] (jz (d2 j9 (dV 1) (dN 4))) (gN 0) jx (ja vP [(false,(d2 Yb (dV 0) (dN 1))),(false,(dN 0))])))
 (j5 (jk (jm (d2 yV (dV 3) (VE (dN 1)))) (Ga 4 (dV 3) (ja vP [(false,(d2 Yb (d2 j9 (d2 j9 (d1 (jK C "kind_rows") (dV 0)) (dV 3)) (dN 2)) (dN 1))),(false,(dN 0))])) jv)
 (j5 (Ga 4 (dV 2) (dN 0))
 (je (ja yK [(fV 4)]))))))
def V4(C:Addr):=J7 [false,false,false] 2 (V3 C)
def V5(C:Addr):=(j5 (jp 3 (ja (vC C) [(fV 1),(fV 2)]))
 (j5 (jp 4 (ja (V4 C) [(fV 0),(fV 1),(fV 2)]))
 (j5 (jp 5 (ja (vB C) [(fV 0),(fV 1),(fV 2)]))
 (je (yk [(true,(d2 jy (d2 j9 (dV 1) (dN 0)) (dN 1))),(tC 2),(tC 3),(true,(d2 j9 (dV 1) (dN 1))),(tC 4),(tC 5)])))))
def zQ(C:Addr):=J7 [false,false,true] 3 (V5 C)
def gz(C:Addr):=(j5 (jk (JR (jm (d2 Vl (d2 j9 (dV 1) (dN 0)) (d1 (jK C "size") (dV 0)))) (jm (d2 ze (ja (ki C) [(fV 0),(fV 1),(fV 2)]) (dK .non)))) (je (dK .non)) jv)
 (je (ja (zQ C) [(fV 0),(fV 1),(tC 2)])))
def gA(C:Addr):=J7 [false,false,true] 0 (gz C)
def ui:=(gN 3)
def YM(C:Addr):=(j5 (jp 4 (ja (gA C) [(fV 0),(fV 1),(tC 3)]))
 (jk (jm (d2 ze (dV 4) (dK .non))) (yg 2 (yk [(tC 3),(tC 4)])) jv))
def V6(C:Addr):=(j5 (J_ 2 (JN []))
 (j5 (jD (Yl (d1 (Vp C "many" (yM C)) (dV 0))) ui (YM C))
 (zL 2)))
def Yy(C:Addr):=u9 [false,false] 3 (V6 C)
def zR:=(gT 2 (gC (gN 7) (gC (gN 8) gZ)))
def yz(C:Addr):=(vT 5 (dC 8) (dK (.bl true)))
def zS:=(gN 6)
def yA(C:Addr):=(j5 (vT 4 (dC 6) (dL (Jm (Yy C) [(fV 0),(fV 6)])))
 (jD (jz (d2 JS (dV 4) (dV 6))) zR (yz C)))
def Vw(C:Addr):=(jZ (dV 3))
def Yn(C:Addr):=(j5 (J_ 4 Vs)
 (j5 (J_ 5 Vs)
 (j5 (jD (jz (dP 3)) zS (yA C))
 (u8 4 (j5 (yg 2 (dC 4))
 (jp 3 (dL (Jm ua [(fV 5)]))))))))
def v6(C:Addr):=(j5 (J_ 2 (JN []))
 (j5 (jp 3 (dL (JN [(tC 1)])))
 (j5 (ZK (Vw C) (Yn C) 20000)
 (zL 2))))
def zk(C:Addr):=u9 [false,true] 7 (v6 C)
def v8(C:Addr):=(j5 (jp 4 (d2 j9 (dV 2) (dN 0)))
 (j5 (jk (jm (d2 jM (d2 j9 (dV 0) (dV 4)) (dV 3))) (je (dN 0)) jv)
 (je (d2 j9 (dV 1) (dV 4)))))
def JF(C:Addr):=J7 [false,false,false,false] 1 (v8 C)
def Zq:=(gT 2 (gC (gN 7) (gC (gN 8) gZ)))
def yN(C:Addr):=(jk (jm (d2 jM (d2 j9 (dV 7) (dN 0)) (d1 (jK C "size") (dV 0)))) (vT 5 (dC 7) (dN 0)) (j5 (jp 9 (dL (JO 2 [5,1,2,7] (jz (dP 8)) (gT 2 (gC (gN 0) (gC (gN 1) gZ))) jx (d2 jy (d2 JS (dV 2) (dV 1)) (ja (JF C) [(fV 3),(fV 4),(fV 5),(fV 0)])))))
 (vT 5 (dC 7) (d2 Kc (dV 9) (dV 4)))))
def Zr:=(gN 6)
def yO(C:Addr):=(jD (ZL (dP 6)) Zq (yN C))
def V7(C:Addr):=(j5 (jp 4 (d2 jy (ja k4 [(fV 2)]) (dN 1)))
 (j5 (J_ 5 Vs)
 (j5 (jD (xC (dP 3)) Zr (yO C))
 (zL 5))))
def V8(C:Addr):=u9 [false,false,false,false] 6 (V7 C)
def YV:=(gT 2 (gC (gN 5) (gC (gN 6) gZ)))
def Jq(C:Addr):=(jk (jm (d2 jM (d2 jy (d2 JS (dV 3) (dV 6)) (ja (JF C) [(fV 1),(fV 2),(fV 4),(fV 5)])) (d2 JS (dV 3) (dV 4)))) (je (yk [(tC 5),(tC 6)])) jv)
def zT(C:Addr):=(j5 (jD (jz (dL (Jm (Yy C) [(fV 0),(fV 4)]))) YV (Jq C))
 (je (dK .non)))
def zU(C:Addr):=J7 [false,false,false,false,false] 2 (zT C)
def JB(C:Addr):=(jm (d2 Y3 (ja J5 [(fV 4)]) (d1 (jK C "size") (dV 0))))
def yB(C:Addr):=(j5 (vR (ja (zU C) [(fV 0),(fV 1),(fV 2),(fV 3),(fV 5)]) (gT 2 (gC (gN 6) (gC (gN 5) gZ))))
 (yg 4 (dC 6)))
def zB(C:Addr):=(j5 (J_ 4 (JN []))
 (j5 (jp 5 (ja (yn C) [(fV 0)]))
 (j5 (ZK (JB C) (yB C) 20000)
 (zL 4))))
def zC(C:Addr):=u9 [false,false,false,false] 3 (zB C)
def uW(C:Addr):=(k6 (vz (ja (zP C) [(fV 0),(fV 1),(fV 2)]))
 (k6 (jp 3 (ja (yn C) [(fV 0)]))
 (k6 (jp 4 (dL (Jm (zk C) [(fV 0),(tC 3)])))
 (Im (jm (d2 Jb (ja J5 [(fV 4)]) (d1 (jK C "size") (dV 0)))) EH
 (k6 (jp 5 (dL (Jm (V8 C) [(fV 0),(fV 1),(fV 2),(fV 4)])))
 (k6 (J_ 6 (Jm (zC C) [(fV 0),(fV 1),(fV 2),(fV 5)]))
 (k6 (jp 7 (dL (JO 1 [5] (jz (dP 4)) (gN 0) jx (dL (JO 1 [1] (K7 (dP 0)) (gN 0) jx (yk [(tC 0),(true,(d2 JS (dV 1) (dV 0)))]))))))
 (AU (d2 JS (dV 5) (dV 3)) 6 (dC 7)))))))))
def Yz(C:Addr):=Qk [true,true,true] 5 (uW C)
def vF:=(gN 3)
def vG(C:Addr):=(j5 (jp 4 (ja (ki C) [(fV 0),(fV 2),(fV 3)]))
 (j5 (jk (jm (d2 ze (dV 4) (dK .non))) (je (yk [(tC 2),(tC 4)])) jv)
 (jp 2 (ja (zQ C) [(fV 0),(fV 2),(tC 3)]))))
def kj(C:Addr):=(j5 (jp 2 (ja (yn C) [(fV 0)]))
 (j5 (jD (jz (dP 1)) vF (vG C))
 (je (yk [(tC 2),(true,(dK .non))]))))
def km(C:Addr):=J7 [false,false] 3 (kj C)
def uX(C:Addr):=(j5 (vz (ja (ZF C) [(fV 0),(fV 1)]))
 (j5 (vR (ja (km C) [(fV 0),(fV 1)]) (gT 2 (gC (gN 2) (gC (gN 3) gZ))))
 (j5 (jk (jm (d2 ze (dV 3) (dK .non))) Zw jv)
 (je (dC 2)))))
def uY(C:Addr):=J7 [false,false] 2 (uX C)
def zV:=(gT 2 (gC (gN 4) (gC (gN 5) gZ)))
def yC(C:Addr):=(jk (jm (d2 jM (d2 j9 (dV 4) (dN 0)) (d1 (jK C "size") (dV 0)))) (vT 2 (dC 4) (dN 1)) (vT 2 (dC 4) (ja k4 [(false,(dL (JO 2 [2] (jz (dP 5)) (gT 2 (gC (gN 0) (gC (gN 1) gZ))) jx (d2 JS (dV 2) (dV 1)))))])))
def zW:=(gN 3)
def yD(C:Addr):=(jD (ZL (dP 3)) zV (yC C))
def vc(C:Addr):=(j5 (J_ 2 Vs)
 (j5 (jD (xC (dL (Jm (zk C) [(fV 0),(tC 1)]))) zW (yD C))
 (zL 2)))
def vd(C:Addr):=u9 [false,true] 4 (vc C)
def qf(C:Addr):=(j5 (jp 2 (ja (uY C) [(fV 0),(fV 1)]))
 (je (d2 JS (dL (Jm (vd C) [(fV 0),(tC 2)])) (dV 2))))
def Kl(C:Addr):=J7 [false,false] 1 (qf C)
def V9(C:Addr):=(je (Jt (d1 (JG "int") (dV 0)) (xo (d1 (JG "bool") (dV 0)))))
def yc(C:Addr):=J7 [false] 0 (V9 C)
def yP(C:Addr):=(Je (jm (d2 Jb (dV 2) (dV 1))) (jm (d2 jM (d2 j9 (dV 0) (d2 Yb (dV 1) (dV 2))) (d2 j9 (dV 0) (dV 1)))))
def Va(C:Addr):=(xw 2 (fun i j=>i+j) (dN 1))
def uZ(C:Addr):=(j5 (jp 2 (dN 1))
 (j5 (ZK (yP C) (Va C) 20000)
 (je (dC 2))))
def zX(C:Addr):=J7 [false,false] 1 (uZ C)
def Ye:=(gT 3 (gC (gN 7) (gC (gN 8) (gC (gN 9) gZ))))
def Yg(C:Addr):=(jk (Je (jm (d2 jM (dV 8) (dV 3))) (Je (jm (d2 Vl (dV 2) (dV 9))) (jm (d2 jM (d2 j9 (dV 1) (d2 Yb (dV 2) (dV 9))) (dV 7))))) (je (dK (.str "shun"))) jv)
def vm(C:Addr):=(j5 (jp 3 (d2 j9 (dV 1) (dV 2)))
 (j5 (jp 4 (ja (zX C) [(fV 1),(fV 2)]))
 (j5 (jk (jm (d2 yu (dV 4) (d2 j9 (d2 j9 (d2 j9 (dV 0) (dN 1)) (dV 3)) (dN 1)))) (je (dK (.str "long"))) jv)
 (j5 (jk (Je (jm (d2 yu (dV 2) (dN 0))) (jm (d2 jM (dV 4) (dN 1)))) (j5 (jp 5 (d2 j9 (d2 j9 (dV 0) (dN 1)) (d2 j9 (dV 1) (d2 Yb (dV 2) (dN 1)))))
 (jk (jm (d2 Y3 (ja (zX C) [(fV 1),(false,(d2 Yb (dV 2) (dN 1)))]) (d2 j9 (dV 5) (dN 0)))) (je (dK (.str "short"))) jv)) jv)
 (j5 (jk (jm (d2 jM (dV 4) (dN 1))) (j5 (jp 6 (ja vP [(false,(dN 0)),(false,(d2 Yb (dV 2) (d2 j9 (d2 j9 (d2 j9 (dV 0) (dN 1)) (dV 3)) (dN 2))))]))
 (jk (jm (d2 (UZ false) (dV 3) (dL (zf (dV 1) (fun Z=>((dV 6) Z).bind yU) (fun Z=>((dV 2) Z).bind yU))))) (je (dK (.str "early"))) jv)) jv)
 (j5 (jD (jz (d2 j9 (dV 0) (dN 2))) Ye (Yg C))
 (je (dK .non))))))))
def vn(C:Addr):=J7 [false,false,false] 7 (vm C)
def uj:=(gN 4)
def uk(C:Addr):=(jk (Je (jm (d2 jM (d2 j9 (dV 4) (dN 0)) (dV 3))) (jm (Jc Jb Jb (d2 j9 (dV 4) (dN 1)) (d2 jy (dV 2) (dN 1)) (d2 j9 (dV 4) (dN 2))))) (je (dK (.str "barred"))) jv)
def ul:=(gN 6)
def um(C:Addr):=(jk (Je (jm (d2 jM (d2 j9 (dV 6) (dN 2)) (d2 jy (dV 2) (dN 1)))) (jm (d2 (UZ true) (d2 j9 (dV 6) (dN 0)) (dL (zf (dV 1) (fun Z=>((d2 Yb (d2 j9 (dV 6) (dN 1)) (dN 1)) Z).bind yU) (fun Z=>((d2 jy (dV 2) (dN 1)) Z).bind yU)))))) (je (dK (.str "due"))) jv)
def gB(C:Addr):=(j5 (jp 3 (d2 j9 (dV 1) (dV 2)))
 (j5 (jD (jz (d2 j9 (dV 0) (dN 3))) uj (uk C))
 (j5 (jp 5 (ja (vn C) [(fV 0),(fV 1),(fV 2)]))
 (j5 (jk (jm (d2 ze (dV 5) (dK .non))) (je (dC 5)) jv)
 (j5 (jD (jz (d2 j9 (dV 0) (dN 4))) ul (um C))
 (j5 (jk (Je (jm (d2 jM (d2 jy (dV 2) (dN 1)) (d2 j9 (dV 0) (dN 0)))) (jm (d2 Y3 (ja (zX C) [(fV 1),(fV 2)]) (d2 j9 (d2 j9 (d2 j9 (dV 0) (dN 1)) (dV 3)) (dN 0))))) (je (dK (.str "cut"))) jv)
 (je (dK .non))))))))
def gD(C:Addr):=J7 [false,false,false] 4 (gB C)
def Vx:=(gN 2)
def Vy(C:Addr):=(j5 (jp 3 (ja (gD C) [(fV 0),(fV 1),(fV 2)]))
 (jk (jm (d2 ze (dV 3) (dK .non))) (je (yk [(true,(d2 jy (dV 2) (dN 1))),(tC 3)])) jv))
def Ut(C:Addr):=(j5 (jD (Yl (ja J5 [(fV 1)])) Vx (Vy C))
 (je (dK .non)))
def Uu(C:Addr):=J7 [false,false] 2 (Ut C)
def VT(C:Addr):=(je (GU (jm (d2 jM (d2 j9 (dV 0) (dV 2)) (dV 3))) (dN 0) (d2 j9 (dV 1) (dV 2))))
def Y6(C:Addr):=J7 [false,false,false,false] 0 (VT C)
def YA(C:Addr):=(j5 (jk (JR (J1 (jZ (d1 (JG "list") (dV 4)))) (JR (jm (d2 yV (ja J5 [(fV 4)]) (d2 j9 (dV 0) (dN 0)))) (J1 (jZ (ja (yc C) [(fV 3)]))))) (je (dK (.bl false))) jv)
 (j5 (jk (J1 (jZ (ja Yt [(false,(dL (JO 1 [0] (jz (dP 4)) (gN 0) jx (Jt (ja (yc C) [(fV 0)]) (Jc Jb Y3 (dN 0) (dV 0) (ja J5 [(false,(d2 j9 (dV 1) (dN 1)))]))))))]))) (je (dK (.bl false))) jv)
 (j5 (jk (jm (d2 ze (ja (Uu C) [(fV 0),(fV 4)]) (dK .non))) (je (dK (.bl false))) jv)
 (je (d2 jM (dV 3) (ja k4 [(false,(dL (JO 1 [1,2,4] (Yl (d2 j9 (dV 0) (dN 0))) (gN 0) jx (ja (Y6 C) [(fV 1),(fV 2),(fV 0),(false,(d2 j9 (dV 3) (dV 0)))]))))]))))))
def YB(C:Addr):=J7 [false,false,false,false,false] 0 (YA C)
def YW:=(gN 2)
def yI(C:Addr):=(jk (JR (J1 (jZ (d1 (JG "int") (dV 2)))) (jZ (d1 (JG "bool") (dV 2)))) (je (dK (.bl false))) jv)
def zY(C:Addr):=(j5 (jk (JR (J1 (jZ (d1 (JG "tuple") (dV 1)))) (jm (d2 yV (ja J5 [(fV 1)]) (dN 6)))) (je (dK (.bl false))) jv)
 (j5 (jk (JR (J1 (jZ (d1 (JG "tuple") (d2 j9 (dV 1) (dN 4))))) (J1 (jZ (d1 (JG "tuple") (d2 j9 (dV 1) (dN 5)))))) (je (dK (.bl false))) jv)
 (j5 (jk (JR (jm (d2 yV (ja J5 [(false,(d2 j9 (dV 1) (dN 4)))]) (ja J5 [(false,(d2 j9 (dV 0) (dN 1)))]))) (jm (d2 yV (ja J5 [(false,(d2 j9 (dV 1) (dN 5)))]) (ja J5 [(false,(d2 j9 (dV 0) (dN 4)))])))) (je (dK (.bl false))) jv)
 (j5 (jD (jz (d2 jy (W5 (dV 1) (fun _=>some none) (fun Z=>((dN 4) Z).bind yU)) (d2 j9 (dV 1) (dN 4)))) YW (yI C))
 (je (ja Yt [(false,(dL (JO 1 [] (jz (d2 j9 (dV 1) (dN 5))) (gN 0) jx (d1 (JG "bool") (dV 0)))))]))))))
def zZ(C:Addr):=J7 [false,false] 1 (zY C)
def Y0:=(gN 3)
def JU(C:Addr):=(j5 (jk (JR (J1 (jZ (d1 (JG "tuple") (dV 3)))) (JR (jm (d2 yV (ja J5 [(fV 3)]) (dN 2))) (J1 (jZ (ja (yc C) [(false,(d2 j9 (dV 3) (dN 1)))]))))) (je (dK (.bl false))) jv)
 (jk (J1 (jZ (ja (zZ C) [(fV 0),(false,(d2 j9 (dV 3) (dN 0)))]))) (je (dK (.bl false))) jv))
def z_:=(gN 2)
def Y1(C:Addr):=(j5 (jk (J1 (jZ (d1 (JG "list") (dV 2)))) (je (dK (.bl false))) jv)
 (jD (jz (dP 2)) Y0 (JU C)))
def YC(C:Addr):=(j5 (jk (J1 (jZ (d1 (JG "list") (dV 1)))) (je (dK (.bl false))) jv)
 (j5 (jD (jz (dP 1)) z_ (Y1 C))
 (je (dK (.bl true)))))
def ZR(C:Addr):=J7 [false,false] 2 (YC C)
def Z0:=(gT 3 (gC (gN 7) (gC (gN 8) (gC (gN 9) gZ))))
def Z4(C:Addr):=(jk (Je (jm (d2 jM (dV 8) (dV 2))) (jm (d2 jM (d2 j9 (dL (JN [(tC 3),(tC 5)])) (d2 Yb (dV 9) (dN 1))) (dV 7)))) (je (dK (.bl true))) jv)
def ZS(C:Addr):=(j5 (vR (W5 (dV 1) (fun Z=>((dN 1) Z).bind yU) (fun Z=>((dN 5) Z).bind yU)) (gT 4 (gC (gN 3) (gC (gN 4) (gC (gN 5) (gC (gN 6) gZ))))))
 (j5 (jk (Je (jm (d2 jM (dV 2) (dV 3))) (jm (d2 Vl (dV 4) (d2 j9 (d2 j9 (d2 j9 (dV 0) (dN 1)) (dV 2)) (dN 1))))) (je (dK (.bl true))) jv)
 (j5 (jk (Je (jm (d2 yV (dV 2) (dV 3))) (JR (Je (jm (d2 yV (dV 3) (VE (dN 1)))) (jm (d2 Y3 (dV 4) (d2 j9 (d2 j9 (d2 j9 (dV 0) (dN 1)) (dV 3)) (dN 0))))) (jm (d2 yu (d2 j9 (dV 6) (dV 2)) (dN 0))))) (je (dK (.bl true))) jv)
 (j5 (jD (jz (d2 j9 (dV 0) (dN 2))) Z0 (Z4 C))
 (je (dK (.bl false)))))))
def ZT(C:Addr):=J7 [false,false,false] 7 (ZS C)
def gE:=(gT 2 (gC (gN 5) (gC (gT 3 (gC (gN 6) (gC (gN 7) (gC (gN 8) gZ)))) gZ)))
def Z8(C:Addr):=(j5 (yg 4 (UU (d2 j9 (dV 2) (dV 5)) (Jt (d2 jM (dV 6) (dV 3)) (Jc Jb Jb (dV 7) (dV 1) (dV 8)))))
 (jk (Je (jm (d2 jM (dV 8) (dV 1))) (J1 (jZ (d2 j9 (dV 4) (dV 5))))) (je (dK .non)) jv))
def u_(C:Addr):=(j5 (J_ 4 (JN []))
 (j5 (jD (Vo (d2 j9 (dV 0) (dN 4))) gE (Z8 C))
 (zL 4)))
def U4(C:Addr):=J7 [false,false,false,false] 5 (u_ C)
def Uv:=(gT 3 (gC (gN 11) (gC (gN 12) (gC (gN 13) gZ))))
def ve(C:Addr):=(jk (Je (jm (d2 jM (dV 11) (dV 2))) (jm (Jc Jb Jb (dV 12) (dV 9) (dV 13)))) (je (dK .non)) jv)
def Uw:=(gT 2 (gC (gN 16) (gC (gT 3 (gC (gN 17) (gC (gN 18) (gC (gN 19) gZ)))) gZ)))
def Ux(C:Addr):=(j5 (jp 20 (d2 j9 (dV 7) (dV 16)))
 (j5 (jk (jm (d2 jM (dV 16) (dV 4))) (jp 20 (dC 19)) jv)
 (yg 15 (GU (jm (d2 jM (dV 16) (dV 2))) (dN 0) (ja vP [(false,(dN 0)),(false,(d2 Yb (dV 20) (dN 1)))])))))
def GK(C:Addr):=(j5 (vR (dC 1) (gT 6 (gC (gN 3) (gC (gN 4) (gC (gN 5) (gC (gN 6) (gC (gN 7) (gC (gN 8) gZ))))))))
 (j5 (jp 9 (d2 jy (dV 3) (dN 1)))
 (j5 (jp 10 (GU (jm (d2 jM (dV 2) (dV 4))) (d2 jy (dV 5) (dN 1)) (dN 1)))
 (j5 (jk (jm (d2 yu (dV 9) (d2 j9 (dV 0) (dN 0)))) (je (dK .non)) jv)
 (j5 (jD (jz (d2 j9 (dV 0) (dN 3))) Uv (ve C))
 (j5 (jk (jZ (ja (ZT C) [(fV 0),(fV 1),(fV 2)])) (je (dK .non)) jv)
 (j5 (jp 14 (ja (U4 C) [(fV 0),(fV 9),(fV 8),(fV 2)]))
 (j5 (jk (jm (d2 KC (dV 14) (dK .non))) (je (dK .non)) jv)
 (j5 (jk (Je (jm (d2 jM (dV 9) (d2 j9 (dV 0) (dN 0)))) (jm (d2 Y3 (dV 10) (d2 j9 (d2 j9 (d2 j9 (dV 0) (dN 1)) (dV 2)) (dN 0))))) (je (dK .non)) jv)
 (j5 (J_ 15 (JN []))
 (j5 (jD (Vo (d2 j9 (dV 0) (dN 1))) Uw (Ux C))
 (je (yk [(tC 9),(tC 2),(tC 10),(tC 4),(true,(ja yK [(fV 15)])),(true,(ja yK [(fV 14)]))])))))))))))))
def GL(C:Addr):=J7 [false,true,true] 18 (GK C)
def Zg:=(gN 6)
def Zi(C:Addr):=(j5 (jp 7 (ja (GL C) [(fV 0),(tC 3),(tC 6)]))
 (jk (jm (d2 ze (dV 7) (dK .non))) (j5 (jk (jm (d2 (G_ true) (dV 7) (dV 5))) (je (dK (.bl false))) jv)
 (jk (jm (d2 yu (dV 4) (d2 jy (d2 JS (dV 5) (dV 7)) (ja (Y6 C) [(fV 1),(fV 2),(false,(d2 j9 (dV 3) (dN 0))),(fV 6)])))) (je (dK (.bl false))) jv)) jv))
def vo(C:Addr):=(j5 (jk (jm (d2 jM (d2 j9 (dV 3) (dN 0)) (d2 j9 (dV 0) (dN 0)))) (je (d2 Jb (dV 4) (dN 0))) jv)
 (j5 (jD (Yl (ja J5 [(false,(d2 j9 (dV 0) (dN 1)))])) Zg (Zi C))
 (je (dK (.bl true)))))
def vq(C:Addr):=J7 [false,false,false,true,false,false] 2 (vo C)
def Vb(C:Addr):=(je (yk [(true,(dN 0)),(true,(VE (dN 1))),(true,(dN 0)),(true,(VE (dN 1))),(true,(ja yK [(false,(dL (JO 1 [] (jz (d2 j9 (dV 0) (dN 1))) (gN 0) jx (dN 0))))])),(true,(ja yK [(false,(dL (JO 1 [] (jz (d2 j9 (dV 0) (dN 4))) (gN 0) jx (dK (.bl false)))))]))]))
def Vc(C:Addr):=J7 [false] 0 (Vb C)
def uo:=(gT 2 (gC (gN 8) (gC (gN 9) gZ)))
def Zs(C:Addr):=(j5 (jk (JR (jm (d2 yV (d2 j9 (dV 8) (dN 0)) (dV 7))) (jm (d2 yu (dV 7) (d2 j9 (dV 0) (dN 0))))) (je (dK (.bl false))) jv)
 (jk (J1 (jZ (ja (vq C) [(fV 0),(fV 1),(fV 2),(tC 8),(fV 9),(false,(d2 j9 (dV 6) (d2 jy (dV 7) (dN 1))))]))) (je (dK (.bl false))) jv))
def YN:=(gT 2 (gC (gN 7) (gC (gN 5) gZ)))
def yQ(C:Addr):=(j5 (jk (jm (d2 yV (ja Kb [(false,(d2 j9 (dV 6) (dV 7)))]) (ja J5 [(fV 5)]))) (je (dK (.bl false))) jv)
 (jD (jz (dP 5)) uo (Zs C)))
def gF(C:Addr):=(j5 (jk (jm (d2 jM (dV 3) (dL (JN [])))) (je (dK (.bl false))) jv)
 (j5 (jp 6 (dL (Bg KF (dL (JO 1 [] (jz (dP 3)) (gN 0) jx (dL (Jm vV [(fV 0)])))) (dL (JN [(true,(dL Vs))])))))
 (j5 (jD (Vo (dP 3)) YN (yQ C))
 (je (d2 Vl (xG (d2 j9 (dV 6) (dN 0)) (ja (Vc C) [(fV 0)]) (d2 Yb (dV 4) (dN 1))) (dV 4))))))
def Vd(C:Addr):=J7 [false,false,false,false,false] 5 (gF C)
def GM(C:Addr):=(j5 (jp 2 (dL (Qi 2 [] (jz (dP 0)) (gT 2 (gC (gN 0) (gC (gN 1) gZ))) (dC 0))))
 (je (Jt (d2 jM (ja Gf [(fV 2)]) (ja J5 [(fV 0)])) (ja Yt [(false,(dL (JO 2 [1] (jz (dP 0)) (gT 2 (gC (gN 0) (gC (gN 1) gZ))) jx (d2 jM (d2 j9 (dV 0) (dN 0)) (dV 2)))))]))))
def GN(C:Addr):=J7 [false,false] 1 (GM C)
def uq:=(gT 2 (gC (gN 7) (gC (gN 8) gZ)))
def ur(C:Addr):=(jk (JR (jm (d2 (G_ true) (dV 8) (dV 4))) (jm (d2 yu (dV 6) (d2 jy (d2 JS (dV 4) (dV 8)) (ja (JF C) [(fV 1),(fV 2),(fV 5),(fV 7)]))))) (je (dK (.bl false))) jv)
def gG(C:Addr):=(j5 (vR (dC 3) (gT 2 (gC (gN 5) (gC (gN 6) gZ))))
 (j5 (jk (Je (jm (d2 jM (d2 j9 (dV 5) (dN 0)) (d1 (jK C "size") (dV 0)))) (jm (d2 yu (dV 6) (dN 0)))) (je (dK (.bl false))) jv)
 (j5 (jD (jz (dL (Jm (Yy C) [(fV 0),(fV 5)]))) uq (ur C))
 (je (dK (.bl true))))))
def Z9(C:Addr):=J7 [false,false,false,true,false] 4 (gG C)
def Yo:=(gT 2 (gC (gN 6) (gC (gN 7) gZ)))
def JP(C:Addr):=(j5 (jk (J1 (jZ (ja (GN C) [(fV 7),(fV 6)]))) (je (dK (.bl false))) jv)
 (j5 (jp 8 (dL (Qh 3 [] (jz (dL (zf (dV 3) (fun Z=>((d2 jy (dV 6) (dN 1)) Z).bind yU) (fun Z=>((d2 jy (dV 6) (dN 2)) Z).bind yU)))) (gN 0) (jz (dP 0)) (gT 2 (gC (gN 1) (gC (gN 2) gZ))) (dC 1) (dC 2))))
 (jk (J1 (jZ (ja Yt [(false,(dL (JO 1 [0,1,2,8] (jz (dP 7)) (gN 0) jx (ja (Z9 C) [(fV 1),(fV 2),(fV 3),(tC 0),(fV 4)]))))]))) (je (dK (.bl false))) jv)))
def Uy(C:Addr):=(j5 (vz (ja (zP C) [(fV 0),(fV 1),(fV 2)]))
 (j5 (jp 5 (ja (yn C) [(fV 0)]))
 (j5 (jk (JR (J1 (jZ (dV 3))) (J1 (jZ (ja ga [(false,(dL (JO 2 [5,4] (jz (d2 j9 (dV 3) (dN 0))) (gT 2 (gC (gN 0) (gC (gN 1) gZ))) jx (Jt (d2 jM (dV 0) (dV 2)) (d2 Vl (dV 1) (dV 3))))))])))) (je (dK (.bl false))) jv)
 (j5 (jD (Vo (dP 3)) Yo (JP C))
 (je (dK (.bl true)))))))
def vf(C:Addr):=J7 [false,false,false,false,false] 4 (Uy C)
def xO(C:Addr):=(j5 (jp 1 (dL (Jm (Zn C) [(fV 0),(false,(dN 180))])))
 (j5 (jp 2 (ja (VH C) [(fV 1),(false,(d2 j9 (dL (JN [(true,(dN 8)),(true,(dN 8)),(true,(dN 8)),(true,(dN 8)),(true,(dN 8)),(true,(dN 30))])) (d2 Jg (d2 j9 (dV 1) (dN 59)) (dN 6))))]))
 (j5 (jp 3 (dL (Jm (VP C) [(fV 2)])))
 (j5 (jp 4 (dL (Jm (VR C) [(fV 2),(false,(dL (zf (dV 1) (fun Z=>((dN 60) Z).bind yU) (fun _=>some none))))])))
 (j5 (jp 5 (dL (Jm (zO C) [(fV 2),(false,(dL (zf (dV 1) (fun Z=>((dN 110) Z).bind yU) (fun _=>some none))))])))
 (uJ 6 7 8 9 (Yz C) [(tC 3),(tC 4),(tC 5)]
 (Um (jm (d2 KC (dV 6) (dK .non))) (je (d2 jM (ja (Kl C) [(fV 3),(false,(dL (JN [])))]) (dN 0)))
 (Um (JR (J1 (jZ (d1 (JG "tuple") (dV 6)))) (JR (jm (d2 yV (ja J5 [(fV 6)]) (dN 3))) (jm (d2 jM (ja (Kl C) [(fV 3),(false,(dL (JN [])))]) (dN 0))))) (je (dK (.bl false)))
 EJ))
 (Um (JR (J1 (jZ (ja (YB C) [(fV 2),(fV 4),(fV 5),(fV 7),(fV 8)]))) (J1 (jZ (ja (ZR C) [(fV 2),(fV 9)])))) (je (dK (.bl false)))
 (Um (J1 (jZ (ja (Vd C) [(fV 2),(fV 4),(fV 5),(fV 9),(fV 7)]))) (je (dK (.bl false)))
 (Um (jm (d2 Ge (ja (vf C) [(fV 3),(fV 4),(fV 5),(fV 9),(fV 7)]) (dK (.bl true)))) (je (dK (.bl false)))
 (Um (jm (d2 Ge (ja (vf C) [(fV 3),(fV 4),(fV 5),(fV 9),(false,(d2 jy (dV 7) (dN 1)))]) (dK (.bl false)))) (je (dK (.bl false)))
 EJ))))
 (j5 (jp 10 (ja (Ql (Yz C)) [(tC 3),(tC 4),(tC 5)]))
 (j5 (jk (JR (jm (d2 yV (d2 j9 (dV 10) (dN 0)) (dV 7))) (J1 (jZ (ja (YB C) [(fV 2),(fV 4),(fV 5),(fV 7),(false,(d2 j9 (dV 10) (dN 1)))])))) (je (dK (.bl false))) jv)
 (je (ja (Vd C) [(fV 2),(fV 4),(fV 5),(false,(d2 j9 (dV 10) (dN 2))),(fV 7)]))))))))))
def xP(C:Addr):=J7 [false] 10 (xO C)
def qg(C:Addr)(t:T3):ZC C [t3 t]=some (.bl (fK t)):=by
 obtain⟨x,y,z⟩:=t;unfold fK;simp only[ZC,VI,t3];by_cases h1:1<=x
 ·by_cases h2:x<=y
  ·by_cases h3:y<=4
   ·by_cases h4:0<=z <;> simp[h1,h2,h3,h4]
   ·simp[h1,h2,h3]
  ·simp[h1,h2]
 ·simp[h1]
def qh(C:Addr)(t:T3)(m:Int):ZD C [t3 t,.int m]=some (.bl (fS m t)):=by
 obtain⟨x,y,z⟩:=t;unfold fS;simp only[ZD,VJ,t3];by_cases h1:0<=x
 ·by_cases h2:x < m
  ·by_cases h3:0<=y
   ·by_cases h4:y < m
    ·by_cases h5:1<=z <;> simp[h1,h2,h3,h4,h5]
    ·simp[h1,h2,h3,h4]
   ·simp[h1,h2,h3]
  ·simp[h1,h2]
 ·simp[h1]
def qi(C:Addr)(t:T3)(m s:Int):ZE C [t3 t,.int m,.int s]=some (.bl (fB m s t)):=by
 obtain⟨x,y,z⟩:=t;unfold fB;simp only[ZE,VL,t3];by_cases h1:0<=x
 ·by_cases h2:x < m
  ·by_cases h3:1<=y
   ·by_cases h4:y<=z <;> simp[h1,h2,h3,h4]
   ·simp[h1,h2,h3]
  ·simp[h1,h2]
 ·simp[h1]
def KW(C:Addr)(s:Int)(k h b d:List D):v4 C [.int s,.lst k,.lst h,.lst b,.lst d]=some (.bl (fC s k.length h.length b.length d.length)):=by
 unfold fC;simp only[v4,Z_];by_cases h1:1<=s
 ·by_cases h2:s<=30
  ·by_cases h3:(1:Int)<=k.length
   ·by_cases h4:(k.length:Int)<=4
    ·by_cases h5:(h.length:Int)<=20
     ·by_cases h6:(b.length:Int)<=12 <;> simp[h1,h2,h3,h4,h5,h6]
     ·simp[h1,h2,h3,h4,h5]
    ·simp[h1,h2,h3,h4]
   ·simp[h1,h2,h3]
  ·simp[h1,h2]
 ·simp[h1]
theorem YD{α:Type}(f:α->Bool):∀l:List α,uF (l.map fun x=>D.bl (f x))=some (l.map f)
 | []=>rfl
 | x::l=>by simp[YD f l]
def au{α:Type}(f:α->Bool)(l m:List α):uF (l.map (fun x=>D.bl (f x))++m.map fun x=>D.bl (f x))=some (l.map f++m.map f):=by rw[<-uDa,YD,uDa]
def U9{α:Type}(f:α->Bool)(l:List α):((l.map f).all id)=l.all f:=by
 induction l with
 | nil=>rfl
 | cons t ts ih=>simp only[List.map_cons,List.all_cons,ih,id]
def qj(C:Addr)(s:Int)(k h b d:List T3)(hk:k.length<=100)(hh:h.length<=100)(hb:b.length<=100)(hd:d.length<=100):VN C [.int s,.lst (k.map t3),.lst (h.map t3),.lst (b.map t3),.lst (d.map t3)]=some (.bl (fR s k h b d)):=by
 have sz:∀n,n<=200->n<=sizeLine:=fun n hn=>wQa (jo (by lia));have c1:∀Z:jg,Ji (gN 0) jx (ja (ZC C) [(true,dC 0)]) (k.map t3) (.un::Z)=some (k.map fun t=>D.bl (fK t)):=fun Z=>jX t3 _ fun t _=>⟨_,rfl,rfl,by simp[qg]⟩
 have c2:∀Z:jg,Ji (gN 0) jx (ja (ZD C) [(true,dC 0),(false,dV 1)]) (h.map t3) (.un::.cl (.int k.length)::Z)=some (h.map fun t=>D.bl (fS k.length t)):=fun Z=>jX t3 _ fun t _=>⟨_,rfl,rfl,by simp[qh]⟩
 have c3:∀Z:jg,Ji (gN 0) jx (ja (ZE C) [(true,dC 0),(false,dV 1),(false,dV 2)]) ((b++d).map t3) (.un::.cl (.int k.length)::.bo (.int s)::Z)=some ((b++d).map fun t=>D.bl (fB k.length s t)):=fun Z=>jX t3 _ fun t _=>⟨_,rfl,rfl,by simp[qi]⟩
 rw[uDa]at c3;unfold fR;have e3:b.length+d.length<=sizeLine:=sz _ (by lia);simp only[VN,VM];by_cases h1:k.all fK=true
 ·by_cases h2:h.all (fS k.length)=true
  ·simp[c1,c2,c3,YD,au,U9,List.all_append,sz _ (Nat.le_trans hk (by decide:100<=200)),sz _ (Nat.le_trans hh (by decide:100<=200)),e3,h1,h2]
  ·simp[c1,c2,YD,U9,sz _ (Nat.le_trans hk (by decide:100<=200)),sz _ (Nat.le_trans hh (by decide:100<=200)),h1,h2]
 ·simp[c1,YD,U9,sz _ (Nat.le_trans hk (by decide:100<=200)),h1]
structure OkB (b:Bk):Prop where
 s1:1<=b.size
 s2:b.size<=30
 k1:1<=b.kinds.length
 k2:b.kinds.length<=4
 h2:b.shuns.length<=20
 b2:b.bars.length<=12
 d2:b.dues.length<=3
 ks:∀t∈b.kinds,fK t=true
 hs:∀t∈b.shuns,fS b.kinds.length t=true
 bs:∀t∈b.bars,fB b.kinds.length b.size t=true
 ds:∀t∈b.dues,fB b.kinds.length b.size t=true
def KY{b:Bk}:qd b=true↔OkB b:=by
 unfold qd fC fR;simp only[Bool.and_eq_true,decide_eq_true_eq,List.all_eq_true,List.mem_append];constructor
 ·rintro⟨⟨a1,a2,a3,a4,a5,a6,a7⟩,b1,b2,b3⟩;exact⟨a1,a2,by lia,by lia,by lia,by lia,by lia,b1,b2,fun t h=>b3 t (.inl h),fun t h=>b3 t (.inr h)⟩
 ·intro h;exact⟨⟨h.s1,h.s2,by have:=h.k1;lia,by have:=h.k2;lia,by have:=h.h2;lia,by have:=h.b2;lia,by have:=h.d2;lia⟩,h.ks,h.hs,fun t ht=>ht.elim (h.bs t) (h.ds t)⟩
def CI(C p:Addr)(b:Bk)(h:OkB b):yH C p [.int b.size,.lst (b.kinds.map t3),.lst (b.shuns.map t3),.lst (b.bars.map t3),.lst (b.dues.map t3)]=some (gk C b):=by
 have hb:=KY.mpr h;unfold qd at hb;rw[Bool.and_eq_true]at hb;have e1:=KW C b.size (b.kinds.map t3) (b.shuns.map t3) (b.bars.map t3) (b.dues.map t3);simp only[List.length_map]at e1;rw[hb.1]at e1;have e2:=qj C b.size b.kinds b.shuns b.bars b.dues (by have:=h.k2;lia) (by have:=h.h2;lia) (by have:=h.b2;lia) (by have:=h.d2;lia);rw[hb.2]at e2;have n1:("size" : Str)≠ "kind_rows" := by decide
 have n2:("size" : Str)≠ "shun_rows" := by decide
 have n3:("size" : Str)≠ "bar_rows" := by decide
 have n4:("size" : Str)≠ "due_rows" := by decide
 have n5:("kind_rows" : Str)≠ "shun_rows" := by decide
 have n6:("kind_rows" : Str)≠ "bar_rows" := by decide
 have n7:("kind_rows" : Str)≠ "due_rows" := by decide
 have n8:("shun_rows" : Str)≠ "bar_rows" := by decide
 have n9:("shun_rows" : Str)≠ "due_rows" := by decide
 have n0:("bar_rows" : Str)≠ "due_rows" := by decide
 simp only[yH,y_,gk];simp[e1,e2,n1,n2,n3,n4,n5,n6,n7,n8,n9,n0]
def Gw(C p:Addr)(ds:List D)(o:OD)(h:yb C ds=some o):yH C p ds=some o:=by
 obtain⟨b,ok,rfl,rfl⟩:=F7 h;exact CI C p b (KY.mp ok)
def CJ(C:Addr)(b:Bk)(h:OkB b):yb C [.int b.size,.lst (b.kinds.map t3),.lst (b.shuns.map t3),.lst (b.bars.map t3),.lst (b.dues.map t3)]=some (gk C b):=by
 unfold yb KU;simp[gI,gL,qe,KY.mpr h]
def CK(C:Addr)(b:Bk)(h:OkB b):VP C [jW b]=some (gk C b):=by
 have e:=CJ C b h;simp only[VP,VO];simp[e]
def bc(C:Addr)(b:Bk):(gk C b).toD=jj C b:=rfl
def CL(C:Addr)(b:Bk):yM C [jj C b]=some (.int b.kinds.length):=by
 have n1:(("kind_rows" : Str) == "size")=false:=by decide
 simp only[yM,V0,jj];simp[jK,List.lookup,n1]
@[simp] theorem wM(C:Addr)(b:Bk):Vp C "many" (yM C) (jj C b)=some (.int b.kinds.length):=by
 have e:=CL C b;unfold Vp jj at *;have n:("many" : Str)∉(["size", "kind_rows", "shun_rows", "bar_rows", "due_rows"]:List Str):=by decide
 simp only[n,not_false_eq_true,and_self,if_true];exact e
@[simp] theorem be(C:Addr)(b:Bk):jK C "size" (jj C b)=some (.int b.size):=by unfold jK jj;simp[List.lookup]
@[simp] theorem av(C:Addr)(b:Bk):jK C "kind_rows" (jj C b)=some (.tup (b.kinds.map t3)):=by
 have n1:(("kind_rows" : Str) == "size")=false:=by decide
 unfold jK jj;simp[List.lookup,n1]
@[simp] theorem aw(C:Addr)(b:Bk):jK C "shun_rows" (jj C b)=some (.tup (b.shuns.map t3)):=by
 have n1:(("shun_rows" : Str) == "size")=false:=by decide
 have n2:(("shun_rows" : Str) == "kind_rows")=false:=by decide
 unfold jK jj;simp[List.lookup,n1,n2]
@[simp] theorem bg(C:Addr)(b:Bk):jK C "bar_rows" (jj C b)=some (.tup (b.bars.map t3)):=by
 have n1:(("bar_rows" : Str) == "size")=false:=by decide
 have n2:(("bar_rows" : Str) == "kind_rows")=false:=by decide
 have n3:(("bar_rows" : Str) == "shun_rows")=false:=by decide
 unfold jK jj;simp[List.lookup,n1,n2,n3]
@[simp] theorem kn(C:Addr)(b:Bk):jK C "due_rows" (jj C b)=some (.tup (b.dues.map t3)):=by
 have n1:(("due_rows" : Str) == "size")=false:=by decide
 have n2:(("due_rows" : Str) == "kind_rows")=false:=by decide
 have n3:(("due_rows" : Str) == "shun_rows")=false:=by decide
 have n4:(("due_rows" : Str) == "bar_rows")=false:=by decide
 unfold jK jj;simp[List.lookup,n1,n2,n3,n4]
def xQ(C:Addr)(b:Bk)(n:Int):Vv C [jj C b,.int n]=some (.bl (decide (0<=n)&&decide (n < (b.kinds.length:Int)))):=by
 have e:=wM C b;simp only[Vv,gn];by_cases h:0<=n <;> simp[e,h]
def KZ(C:Addr)(b:Bk)(row:List Int)(hl:row.length<=1000):YU C [jj C b,.lst (row.map .int)]=some (.bl (row.all fun n=>decide (0<=n)&&decide (n < (b.kinds.length:Int)))):=by
 have c1:∀Z:jg,Ji (gN 0) jx (ja (Vv C) [(false,dV 1),(false,dV 0)]) (row.map D.int) (.un::.bo (jj C b)::Z)=some (row.map fun n=>D.bl (decide (0<=n)&&decide (n < (b.kinds.length:Int)))):=fun Z=>jX D.int _ fun t _=>⟨_,rfl,rfl,by simp[xQ]⟩
 have sz:row.length<=sizeLine:=wQa (jo (by lia));have e:=YD (fun n:Int=>decide (0<=n)&&decide (n < (b.kinds.length:Int))) row;simp only[YU,YT];simp only[J7,ZX,je,ja,Yk,dL,JO,jz,dP,JZ];simp[c1,sz,e,U9]
def xR(b:Bk)(row:List Int):Prop:=(∀n∈row,0<=n/\n < (b.kinds.length:Int))/\(row.length:Int)<=b.size
def gH(C:Addr)(b:Bk)(row:List Int)(ok:OkB b)(h:xR b row):ZF C [jj C b,.lst (row.map .int)]=some .non:=by
 have h2:=ok.s2;have hl:=h.2;have e:=KZ C b row (by lia);have e2:(row.all fun n=>decide (0<=n)&&decide (n < (b.kinds.length:Int)))=true:=by
  rw[List.all_eq_true];intro n hn;have:=h.1 n hn;simp[this.1,this.2]
 rw[e2]at e;have e3:=be C b;have e4:¬(b.size < (row.length:Int)):=by lia
 simp only[ZF,VS];simp[e,e3,e4]
noncomputable def jb(b:Bk):Sd:=⟨0,-1,0,-1,List.replicate b.kinds.length 0,List.replicate b.dues.length false⟩
def Ua(C:Addr)(b:Bk)(ok:OkB b):yn C [jj C b]=some (j3 (jb b)):=by
 have e:=wM C b;have e3:=kn C b;have h1:=ok.k2;have h2:=ok.d2;have c1:(b.kinds.length:Int)<=1000:=by lia
 have c2:(b.dues.length:Int)<=1000:=by lia
 simp only[yn,v5];simp[e,e3,c1,c2,j3,jb]
noncomputable def mx(i j:Int):Int:=if j > i then j else i
noncomputable def YE(s:Sd)(k:Int):Int:=if s.kind=k then s.len+1 else 1
def JH(b:Bk)(s:Sd)(k:Int):List Int:=(if s.kind=-1 then s.waits.map (fun x=>mx (x - 1) 0)else(s.waits.map (fun x=>mx (x - 1) 0)).set s.kind.toNat (mx ((yx b.kinds s.kind).2.2 - 1) 0)).set k.toNat 0
noncomputable def yR(k pl:Int)(t:T3):Bool:=decide (t.1=k)&&(decide (t.2.1<=pl)&&decide (pl<=t.2.2))
def JD(b:Bk)(s:Sd)(k:Int):List Bool:=List.zipWith (fun t m=>m||yR k (s.place+1) t) b.dues s.met
def jG(b:Bk)(s:Sd)(k:Int):Sd:=⟨s.place+1,k,YE s k,s.kind,JH b s k,JD b s k⟩
def Y7(b:Bk)(s:Sd)(k:Int):Bool:=b.bars.any (yR k (s.place+1))
def YO(b:Bk)(s:Sd)(k:Int):Bool:=decide (s.kind=k)&&decide (s.len>=(yx b.kinds k).2.1)
def YF(b:Bk)(s:Sd)(k:Int):Bool:=!(decide (s.kind=k)||decide (s.kind=-1))&&decide (s.len < (yx b.kinds s.kind).1)
noncomputable def yS(s:Sd)(k:Int):Bool:=!decide (s.kind=k)&&!decide (s.waits.getD k.toNat 0=0)
noncomputable def YG(s:Sd)(k:Int)(t:T3):Bool:=decide (t.2.1=k)&&decide ((if t.2.2=1 then s.kind else s.before)=t.1)
def Vz(b:Bk)(s:Sd)(k:Int):Bool:=b.shuns.any (YG s k)
def YX(b:Bk)(s:Sd)(k:Int):Bool:=(List.zip b.dues (JD b s k)).any fun p=>decide (p.1.2.2=s.place+1)&&!p.2
def vg(b:Bk)(s:Sd)(k:Int):Bool:=decide (s.place+1=b.size)&&decide (YE s k < (yx b.kinds k).1)
def Jf(b:Bk)(s:Sd)(k:Int):Option Str:=
 if Y7 b s k=true then some "barred" else if YO b s k=true then some "long" else if YF b s k=true then some "short" else if yS s k=true then some "early" else if Vz b s k=true then some "shun" else if YX b s k=true then some "due" else if vg b s k=true then some "cut" else none
noncomputable def oS:Option Str->D
 | none=>.non
 | some x=>.str x
structure Fit (b:Bk) (s:Sd):Prop where
 c0:-1<=s.kind
 c1:s.kind < (b.kinds.length:Int)
 w:s.waits.length=b.kinds.length
 m:s.met.length=b.dues.length
def JX(b:Bk)(k:Int):Prop:=0<=k/\k < (b.kinds.length:Int)
def GO(C:Addr)(s:Sd)(k:Int):vC C [j3 s,.int k]=some (.int (YE s k)):=by
 unfold YE;simp only[vC,uV];by_cases e:s.kind=k <;> simp[e]
def any_map{α:Type}(em:α->D)(p:D->Bool)(q:α->Bool)(h:∀x,p (em x)=q x)(l:List α):(l.map em).any p=l.any q:=by
 induction l with
 | nil=>rfl
 | cons x l ih=>rw[vWa,List.any_cons,List.any_cons,h,ih]
def Qs(q:T3->Bool)(d:D):Bool:=match BU d with
 | some t=>q t
 | none=>false
def Za(q:T3->Bool)(t:T3):Qs q (t3 t)=q t:=rfl
def Km{t:DT}{s1:DS.DS}{Z:jg}{r:Rs}{I:jg->Prop}{k:Bool}(h:t Z=some k)(hr:s1 Z=some r)(hI:I Z):(k=true/\jk t s1 jv Z=some r) \/ (k=false/\∃Z2,jk t s1 jv Z=some (.nx Z2)/\I Z2):=by
 cases k
 ·exact .inr ⟨rfl,Z,JA h rfl,hI⟩
 ·exact .inl ⟨rfl,ZP h hr⟩
def ay(C:Addr)(b:Bk)(s:Sd)(k:Int):GJ C [jj C b,j3 s,.int k]=some (.bl (Y7 b s k)):=by
 have L:=vZ (g:=Ur) (s:=Us C) (items:=b.bars.map t3) (fun Z=>∃x y z,Z=[.bo (jj C b),.bo (j3 s),.bo (.int k),.cl (.int (s.place+1)),x,y,z]) (Qs (yR k (s.place+1))) (.rt (.bl true)) (.inl ⟨_,rfl⟩) ?_ ⟨.un,.un,.un,rfl⟩
 ·rw[any_map t3 _ (yR k (s.place+1)) (Za _)]at L;unfold Y7;have e:=bg C b;rcases L with⟨L1,L2⟩ | ⟨L1,Z',_,L2⟩ <;> rw[L1]
  ·exact fE (sq (by simp <;> rfl) (Vu (by rw[jD];simp[L2])))
  ·exact fE (sq (by simp <;> rfl) (sq (by rw[jD];simp[L2] <;> rfl) rfl))
 ·rintro d hd Z ⟨x,y,z,rfl⟩;obtain⟨t,_,rfl⟩:=uVa hd;obtain⟨u,v,w⟩:=t;refine⟨_,rfl,?_⟩;rw[Za];unfold yR;exact Km (by by_cases h1:u=k <;> by_cases h2:v<=s.place+1 <;> simp[h1,h2]) rfl ⟨_,_,_,rfl⟩
def CM(C:Addr)(b:Bk)(s:Sd)(k:Int)(h:JX b k):gr C [jj C b,j3 s,.int k]=some (.bl (YO b s k)):=by
 unfold YO;simp only[gr,gq];by_cases h1:s.kind=k <;> simp[h1,Y5 h.1 h.2]
def bh(C:Addr)(b:Bk)(s:Sd)(k:Int)(X:Fit b s):uR C [jj C b,j3 s,.int k]=some (.bl (YF b s k)):=by
 unfold YF;simp only[uR,uQ];by_cases h1:s.kind=k
 ·simp[h1]
 ·by_cases h2:s.kind=-1
  ·rw[h2]at h1;simp[h1,h2]
  ·simp[h1,h2,Y5 (ks:=b.kinds) (k:=s.kind) (by have:=X.c0;lia) X.c1]
def bi(C:Addr)(s:Sd)(k:Int)(h0:0<=k)(h1:k < (s.waits.length:Int)):uT C [j3 s,.int k]=some (.bl (yS s k)):=by
 unfold yS;have e2:=Jz (f:=D.int) (xs:=s.waits) (d:=0) h0 h1;simp only[uT,uS];by_cases h1:s.kind=k <;> simp[h1,e2]
def CN(C:Addr)(b:Bk)(s:Sd)(k:Int):gu C [jj C b,j3 s,.int k]=some (.bl (Vz b s k)):=by
 have L:=vZ (g:=uf) (s:=Zp C) (items:=b.shuns.map t3) (fun Z=>∃x y z u,Z=[.bo (jj C b),.bo (j3 s),.bo (.int k),x,y,z,u]) (Qs (YG s k)) (.rt (.bl true)) (.inl ⟨_,rfl⟩) ?_ ⟨.un,.un,.un,.un,rfl⟩
 ·rw[any_map t3 _ (YG s k) (Za _)]at L;unfold Vz;have e:=aw C b;rcases L with⟨L1,L2⟩ | ⟨L1,Z',_,L2⟩ <;> rw[L1]
  ·exact fE (Vu (by rw[jD];simp[L2]))
  ·exact fE (sq (by rw[jD];simp[L2] <;> rfl) rfl)
 ·rintro d hd Z ⟨x,y,z,u0,rfl⟩;obtain⟨t,_,rfl⟩:=uVa hd;obtain⟨u,v,w⟩:=t;refine⟨_,rfl,?_⟩;rw[Za];unfold YG;unfold Zp;rw[sq (s2:=jk _ _ _) (Z1:=[.bo (jj C b),.bo (j3 s),.bo (.int k),.cl (.int u),.cl (.int v),.cl (.int w),.cl (.int (if w=1 then s.kind else s.before))]) (by by_cases h1:w=1 <;> simp[h1]) rfl];exact Km (by by_cases h2:v=k <;> simp[h2]) rfl ⟨_,_,_,_,rfl⟩
def ko{b:Bk}{s:Sd}{k:Int}(X:Fit b s):(JD b s k).length=b.dues.length:=by
 unfold JD;rw[List.length_zipWith,X.m]
 lia
def CO{b:Bk}{s:Sd}{i:Nat}{d:D}(h:(List.zipWith (fun p q=>D.tup [p,q]) (b.dues.map t3) (s.met.map D.bl))[i]?=some d):∃t m,b.dues[i]?=some t/\s.met[i]?=some m/\d=.tup [t3 t,.bl m]:=by
 rw[List.getElem?_zipWith,uAa,uAa]at h;cases h1:b.dues[i]? with
 | none=>rw[h1]at h;cases h
 | some t=>
  cases h2:s.met[i]? with
  | none=>rw[h1,h2]at h;cases h
  | some m=>rw[h1,h2]at h;cases h;exact⟨t,m,rfl,rfl,rfl⟩
def gJ{α:Type}{xs:List α}{i:Nat}{t:α}(h:xs[i]?=some t):xs.take (i+1)=xs.take i++[t]:=by
 rw[List.take_add_one,h];rfl
def az(C:Addr)(b:Bk)(s:Sd)(k:Int)(ok:OkB b)(X:Fit b s):vB C [jj C b,j3 s,.int k]=some (.tup ((JD b s k).map .bl)):=by
 have hl:=ko (k:=k) X;have hd2:=ok.d2;have L:=J6 (g:=gw) (s:=V2 C) (items:=List.zipWith (fun p q=>D.tup [p,q]) (b.dues.map t3) (s.met.map D.bl)) (fun i Z=>∃x y z u v,Z=[.bo (jj C b),.bo (j3 s),.bo (.int k),.cl (.int (s.place+1)),.ow none (.lst (((JD b s k).take i).map .bl)),x,y,z,u,v]) ?_ ⟨.un,.un,.un,.un,.un,rfl⟩
 ·obtain⟨Z',L1,x,y,z,u,v,rfl⟩:=L;have e:=kn C b;have hx:(List.zipWith (fun p q=>D.tup [p,q]) (b.dues.map t3) (s.met.map D.bl)).length=(JD b s k).length:=by
   rw[List.length_zipWith,vYa,vYa,X.m,hl];lia
  rw[hx,List.take_length,List.take_zero,uJa]at L1;simp only[vB,uU];simp[-List.zipWith_map,L1]
 ·rintro i d Z hi ⟨x,y,z,u,v,rfl⟩;obtain⟨t,m,h1,h2,rfl⟩:=CO hi;have hg:(JD b s k)[i]?=some (m||yR k (s.place+1) t):=by
   unfold JD;rw[List.getElem?_zipWith,h1,h2]
  have hlt:i < b.dues.length:=(uSa h1).1;have hz:((JD b s k).take i).length < sizeLine:=jo (by rw[uOa];lia);have hz':min i (JD b s k).length < sizeLine:=jo (by lia);obtain⟨p,q,r⟩:=t;rw[gJ hg];unfold yR;refine⟨_,_,rfl,?_,.cl (t3 (p,q,r)),.cl (.bl m),.cl (.int p),.cl (.int q),.cl (.int r),rfl⟩;simp only[V2];cases m with
  | true=>simp[t3,hz']
  | false=>
   by_cases e1:p=k
   ·by_cases e2:q<=s.place+1 <;> simp[t3,hz',e1,e2]
   ·simp[t3,hz',e1]
def F8(C:Addr)(b:Bk)(s:Sd)(k:Int)(ok:OkB b)(X:Fit b s):gy C [jj C b,j3 s,.int k]=some (.bl (YX b s k)):=by
 have e1:=az C b s k ok X;have L:=vZ (g:=ug) (s:=uh C) (items:=(List.zip b.dues (JD b s k)).map fun p=>D.tup [t3 p.1,.bl p.2]) (fun Z=>∃x y,Z=[.bo (jj C b),.bo (j3 s),.bo (.int k),.cl (.int (s.place+1)),x,y]) (fun d=>match d with | .tup [t,.bl m]=>Qs (fun t=>decide (t.2.2=s.place+1)&&!m) t | _=>false) (.rt (.bl true)) (.inl ⟨_,rfl⟩) ?_ ⟨.un,.un,rfl⟩
 ·rw[any_map (fun p:T3×Bool=>D.tup [t3 p.1,.bl p.2]) _ (fun p=>decide (p.1.2.2=s.place+1)&&!p.2) (fun p=>rfl)]at L;have ez:(List.zip b.dues (JD b s k)).map (fun p=>D.tup [t3 p.1,.bl p.2])=List.zipWith (fun p q=>D.tup [p,q]) (b.dues.map t3) ((JD b s k).map D.bl):=by
   rw[List.zipWith_map,List.zip,List.map_zipWith]
  rw[ez]at L;unfold YX;have e:=kn C b;rcases L with⟨L1,L2⟩ | ⟨L1,Z',_,L2⟩ <;> rw[L1]
  ·exact fE (sq (by simp <;> rfl) (Vu (by rw[jD];simp[-List.zipWith_map,L2,e1])))
  ·exact fE (sq (by simp <;> rfl) (sq (by rw[jD];simp[-List.zipWith_map,L2,e1] <;> rfl) rfl))
 ·rintro d hd Z ⟨x,y,rfl⟩;obtain⟨⟨t,m⟩,_,rfl⟩:=uVa hd;obtain⟨u,v,w⟩:=t;refine⟨_,rfl,?_⟩;simp only[Za];exact Km (by by_cases h1:w=s.place+1 <;> simp[h1]) rfl ⟨_,_,rfl⟩
def Fa(C:Addr)(b:Bk)(s:Sd)(k:Int)(h:JX b k):kg C [jj C b,j3 s,.int k]=some (.bl (vg b s k)):=by
 unfold vg;simp only[kg,kf];by_cases h1:s.place+1=b.size <;> simp[h1,GO,Y5 h.1 h.2]
def wN(C:Addr)(b:Bk)(s:Sd)(k:Int)(ok:OkB b)(X:Fit b s)(h:JX b k):ki C [jj C b,j3 s,.int k]=some (oS (Jf b s k)):=by
 have e1:=ay C b s k;have e2:=CM C b s k h;have e3:=bh C b s k X;have e4:=bi C s k h.1 (by rw[X.w];exact h.2);have e5:=CN C b s k;have e6:=F8 C b s k ok X;have e7:=Fa C b s k h;unfold Jf;refine fE ?_;unfold kh;have go:∀{t:DT} {s2:DS.DS} {Z:jg} {k:Bool} {w:Str} {o:Option Str},t Z=some k->s2 Z=some (.rt (oS o))->j5 (jk t (je (dK (.str w))) jv) s2 Z=some (.rt (oS (if k=true then some w else o))):=fun {t s2 Z k w o} h1 h2=>by
  cases k
  ·exact sq (JA h1 rfl) h2
  ·exact Vu (ZP h1 rfl)
 exact go (by simp[e1]) (go (by simp[e2]) (go (by simp[e3]) (go (by simp[e4]) (go (by simp[e5]) (go (by simp[e6]) (go (by simp[e7]) rfl))))))
def bj(C:Addr)(b:Bk)(s:Sd)(k:Int)(ok:OkB b)(X:Fit b s)(h:JX b k):V4 C [jj C b,j3 s,.int k]=some (.tup ((JH b s k).map .int)):=by
 have e:=av C b;have c1:Ji (gN 0) jx (ja vP [(false,d2 Yb (dV 0) (dK (D.int 1))),(false,dK (D.int 0))]) (s.waits.map D.int) [.un]=some (s.waits.map fun x=>D.int (mx (x - 1) 0)):=jX D.int _ fun t _=>⟨_,rfl,rfl,by simp[mx]⟩
 have hk2:=ok.k2;have hw:=X.w;have sz:s.waits.length<=sizeLine:=wQa (jo (by lia));have i1:∀n:Nat,n=s.waits.length->u6 n k=some k.toNat:=fun n hn=>qc h.1 (by have:=h.2;lia);simp only[V4,V3,JH];by_cases h1:s.kind=-1
 ·simp[c1,sz,h1,i1,List.map_set];rfl
 ·have i2:u6 s.waits.length s.kind=some s.kind.toNat:=qc (by have:=X.c0;lia) (by have:=X.c1;lia);simp[c1,sz,h1,i1,i2,List.map_set,Y5 (ks:=b.kinds) (k:=s.kind) (by have:=X.c0;lia) X.c1];rfl
def qk(C:Addr)(b:Bk)(s:Sd)(k:Int)(ok:OkB b)(X:Fit b s)(h:JX b k):zQ C [jj C b,j3 s,.int k]=some (j3 (jG b s k)):=by
 simp only[zQ,V5];simp[GO,bj C b s k ok X h,az C b s k ok X];rfl
def Ub(b:Bk)(s:Sd)(k:Int):(JH b s k).length=s.waits.length:=by
 unfold JH;split <;> simp
set_option tactic.hygienic true in
theorem Fit.next{b:Bk}{s:Sd}(X:Fit b s){k:Int}(h:JX b k):Fit b (jG b s k):=⟨by have:=h.1;show -1<=k;lia,h.2,by show(JH b s k).length=_;rw[Ub,X.w],ko X⟩
def Fit.empty(b:Bk):Fit b (jb b):=⟨by show -1<=(-1:Int);decide,by show(-1:Int) < _;lia,by simp[jb],by simp[jb]⟩
def jV(b:Bk):Sd->List Int->Sd×Option Str
 | s,[]=>(s,none)
 | s,k::r=>match Jf b s k with
  | some w=>(s,some w)
  | none=>jV b (jG b s k) r
set_option tactic.hygienic true in
theorem aA(C:Addr)(b:Bk)(row:List Int)(ok:OkB b)(h:∀n∈row,JX b n):km C [jj C b,.lst (row.map .int)]=some (.tup [j3 (jV b (jb b) row).1,oS (jV b (jb b) row).2]):=by
 have key:∀(r:List Int) (s:Sd) (x y:Sl),Fit b s->(∀n∈r,JX b n)->∃x' y',jU vF (vG C) (r.map D.int) [.bo (jj C b),.bo (.lst (row.map .int)),.cl (j3 s),x,y]=some (match jV b s r with
   | (s',none)=>.nx [.bo (jj C b),.bo (.lst (row.map .int)),.cl (j3 s'),x',y']
   | (s',some w)=>.rt (.tup [j3 s',.str w])):=by
  intro r;induction r with
  | nil=>intro s x y _ _;exact⟨x,y,rfl⟩
  | cons k r ih=>
   intro s x y X hr;have hk:=hr k wNa;have e:=wN C b s k ok X hk;cases hb:Jf b s k with
   | some w=>
    rw[hb]at e;refine⟨.un,.un,?_⟩;have e':jV b s (k::r)=(s,some w):=by unfold jV;rw[hb]
    rw[e'];simp[jU,vF,vG,e,oS]
   | none=>
    rw[hb]at e;have e2:=qk C b s k ok X hk;obtain⟨x',y',q⟩:=ih (jG b s k) (.cl (.int k)) (.cl .non) (X.next hk) fun n hn=>hr n (wMa _ hn);refine⟨x',y',?_⟩;have e':jV b s (k::r)=jV b (jG b s k) r:=by rw[jV,hb]
    rw[e',<-q];simp[jU,vF,vG,e,e2,oS]
 obtain⟨x',y',q⟩:=key row (jb b) .un .un (Fit.empty b) h;simp only[km,kj];have e0:=Ua C b ok;revert q;generalize jV b (jb b) row=z;obtain⟨s',w⟩:=z;intro q;cases w <;> simp[e0,q,oS]
def Jn{a b:Int}(h:0 < b):0<=a % b/\a % b < b:=⟨Int.emod_nonneg _ (by lia),Int.emod_lt_of_pos _ h⟩
def Zt{α β:Type}(f:α->β)(xs:List α)(lo hi:Option Int):Jp (xs.map f) lo hi=(Jp xs lo hi).map f:=by
 unfold Jp;rw[vYa,List.map_take,List.map_drop]
def qo{α:Type}(xs:List α)(lo hi:Option Int):(Jp xs lo hi).length<=xs.length:=by
 unfold Jp;rw[uOa,uNa]
 lia
def Fb{α:Type}(xs:List α)(n:Nat):Jp xs (some (n:Int)) none=xs.drop n:=by
 unfold Jp;have e:HT.sIx xs.length xs.length none=xs.length:=rfl;rw[HT.sIx_nat,e];by_cases h:n<=xs.length
 ·rw[Nat.min_eq_left h,List.take_of_length_le (by rw[uNa];lia)]
 ·rw[Nat.min_eq_right (by lia),List.drop_of_length_le (by lia),List.drop_of_length_le (by lia)];simp
def Fc{α:Type}(xs:List α)(n:Nat):Jp xs none (some (n:Int))=xs.take n:=by
 unfold Jp;have e:HT.sIx xs.length 0 none=0:=rfl;rw[HT.sIx_nat,e,List.drop_zero,Nat.sub_zero];by_cases h:n<=xs.length
 ·rw[Nat.min_eq_left h]
 ·rw[Nat.min_eq_right (by lia),List.take_of_length_le (by lia),List.take_of_length_le (by lia)]
def kq{α:Type}(xs:List α)(n m:Nat)(h1:n<=xs.length)(h2:m<=xs.length):Jp xs (some (n:Int)) (some (m:Int))=(xs.drop n).take (m - n):=by
 unfold Jp;rw[HT.sIx_nat,HT.sIx_nat,Nat.min_eq_left h1,Nat.min_eq_left h2]
def vH{i j:Int}(h1:-(2 ^ 64) < i)(h2:i < 2 ^ 64):US i j=true:=by
 have e:(2:Int) ^ 64=18446744073709551616:=by decide
 rw[e]at h1 h2;unfold US;rw[Bool.or_eq_true,Nat.blt_eq];exact .inl (by lia)
def xS(C:Addr)(ns:List Int)(m:Int)(h63:ns.length<=63)(m0:0<=m)(m1:m<=1000):∃ms:List Int,Zn C [.scr ns,.int m]=some (.lst (ms.map .int))/\(ms.length:Int)=m:=by
 have Zz:∀(v x seed:Int) (ms:List Int) (x6:Sl) (c:Nat),ms.length<=c->c<=5000->∃(ms':List Int) (v':Int) (x6':Sl),jU zx (y0 C) (Jd 0 60) [.bo (.scr ns),.bo (.int m),.ow none (.lst (ms.map .int)),.cl (.int seed),.cl (.int x),.cl (.int v),x6]=some (.nx [.bo (.scr ns),.bo (.int m),.ow none (.lst (ms'.map .int)),.cl (.int seed),.cl (.int x),.cl (.int v'),x6'])/\ms'.length<=c+60:=by
  intro v x seed ms x6 c hc hc2;have L:=J6 (g:=zx) (s:=y0 C) (items:=Jd 0 60) (fun i Z=>∃(ms':List Int) (v':Int) (x6':Sl),Z=[.bo (.scr ns),.bo (.int m),.ow none (.lst (ms'.map .int)),.cl (.int seed),.cl (.int x),.cl (.int v'),x6']/\ms'.length<=c+i) ?_ ⟨ms,v,x6,rfl,hc⟩
  ·obtain⟨Z',L1,ms',v',x6',rfl,hl⟩:=L;exact⟨ms',v',x6',L1,hl⟩
  ·rintro i d Z hi ⟨ms',v',x6',rfl,hl⟩;have hi60:i < 60:=by have:=(uSa hi).1;simpa[Jd]using this
   have hz:ms'.length < sizeLine:=jo (by lia);by_cases h0:0 < v'
   ·refine⟨_,[.bo (.scr ns),.bo (.int m),.ow none (.lst ((ms'++[v' % 1009]).map .int)),.cl (.int seed),.cl (.int x),.cl (.int (v' / 1009)),.cl d],rfl,?_,ms'++[v' % 1009],v' / 1009,.cl d,rfl,by simp;lia⟩;simp[y0,h0,hz]
   ·refine⟨_,[.bo (.scr ns),.bo (.int m),.ow none (.lst (ms'.map .int)),.cl (.int seed),.cl (.int x),.cl (.int v'),.cl d],rfl,?_,ms',v',.cl d,rfl,by lia⟩;simp[y0,h0]
 have L:=J6 (g:=yY) (s:=yZ C) (items:=(Jp ns none (some 63)).map D.int) (fun i Z=>∃(ms:List Int) (seed:Int) (x4 x5 x6:Sl),Z=[.bo (.scr ns),.bo (.int m),.ow none (.lst (ms.map .int)),.cl (.int seed),x4,x5,x6]/\0<=seed/\seed < 2147483648/\ms.length<=i * 61) ?_ ⟨[],29,.un,.un,.un,rfl,by decide,by decide,by simp⟩
 ·obtain⟨Z',L1,ms,seed,x4,x5,x6,rfl,s0,s1,hl⟩:=L;have hc:=qo ns none (some 63);rw[vYa]at hl;have hl:ms.length<=4000:=by lia
  obtain⟨Z2,W1,⟨ms2,seed2,rfl,t0,t1,hl2⟩,W2⟩:=Kk (dt:=ya C) (s:=zy C) (fun Z=>∃(ms:List Int) (seed:Int),Z=[.bo (.scr ns),.bo (.int m),.ow none (.lst (ms.map .int)),.cl (.int seed),x4,x5,x6]/\0<=seed/\seed < 2147483648/\ms.length<=4000) (fun Z=>match Z with | [_,_,.ow _ (.lst l),_,_,_,_]=>6000 - l.length | _=>0) (fun Z=>by
    rintro⟨ms,seed,rfl,s0,s1,hl⟩;by_cases h:(ms.length:Int) < m
    ·right;refine⟨by simp[ya,h],?_⟩;have b1:=Jn (a:=seed * seed+69621 * seed+7 * (ms.length:Int)+5) (b:=2147483629) (by decide);have hz:ms.length < sizeLine:=jo (by lia);refine⟨[.bo (.scr ns),.bo (.int m),.ow none (.lst ((ms++[(seed * seed+69621 * seed+7 * (ms.length:Int)+5) % 2147483629 / 1013 % 9973]).map .int)),.cl (.int ((seed * seed+69621 * seed+7 * (ms.length:Int)+5) % 2147483629)),x4,x5,x6],?_,⟨_,_,rfl,b1.1,by lia,by simp;lia⟩,by simp;lia⟩;simp[zy,vH (i:=seed) (j:=seed) (by lia) (by lia),vH (i:=69621) (j:=seed) (by decide) (by decide),vH (i:=7) (j:=(ms.length:Int)) (by decide) (by decide),hz]
    ·left;simp[ya,h]) (n:=20000) ⟨ms,seed,rfl,s0,s1,hl⟩ (by simp;lia)
  have hm:m<=(ms2.length:Int):=by
   simp[ya]at W2
   lia
  refine⟨ms2.take m.toNat,?_,by rw[uOa];lia⟩;simp only[Zn,Zm];have em:m=((m.toNat:Nat):Int):=by lia
  have ec:Jp (ms2.map D.int) none (some m)=(ms2.take m.toNat).map D.int:=by
   have z:=Fc ms2 m.toNat
   rw[<-em]at z;rw[Zt,z]
  rw[uJa]at L1;have s60:Ju 60=true:=by decide
  simp[Zt,L1,W1]at ec⊢;simp[ec]
 ·rintro i d Z hi ⟨ms,seed,x4,x5,x6,rfl,s0,s1,hl⟩;have hlt:i < 63:=by
   have h1:=(uSa hi).1;have h2:=qo ns none (some 63);rw[vYa]at h1
   lia
  obtain⟨x,rfl⟩:∃x,d=D.int x:=by
   rw[uAa]at hi;cases q:(Jp ns none (some 63))[i]? with
   | none=>rw[q]at hi;cases hi
   | some z=>rw[q]at hi;exact⟨z,(vFa hi).symm⟩
  have b1:=Jn (a:=seed * 48271+x % 1000003+11) (b:=2147483647) (by decide);have s60:Ju 60=true:=by decide
  have hz:ms.length < sizeLine:=jo (by lia);by_cases h0:x - 10 ^ 18 < 0
  ·obtain⟨ms',v',x6',e,hl'⟩:=Zz (x - 10 ^ 18) x ((seed * 48271+x % 1000003+11) % 2147483647) (ms++[x % 9973]) x6 (i * 61+1) (by simp;lia) (by lia);refine⟨_,[.bo (.scr ns),.bo (.int m),.ow none (.lst (ms'.map .int)),.cl (.int ((seed * 48271+x % 1000003+11) % 2147483647)),.cl (.int x),.cl (.int v'),x6'],rfl,?_,ms',_,_,_,_,rfl,b1.1,by lia,by lia⟩;rw[uDa]at e;simp only[yZ,yY];simp at e h0;simp[vH (i:=seed) (j:=48271) (by lia) (by lia),h0,hz,e,s60]
  ·obtain⟨ms',v',x6',e,hl'⟩:=Zz (x - 10 ^ 18) x ((seed * 48271+x % 1000003+11) % 2147483647) ms x6 (i * 61+1) (by lia) (by lia);refine⟨_,[.bo (.scr ns),.bo (.int m),.ow none (.lst (ms'.map .int)),.cl (.int ((seed * 48271+x % 1000003+11) % 2147483647)),.cl (.int x),.cl (.int v'),x6'],rfl,?_,ms',_,_,_,_,rfl,b1.1,by lia,by lia⟩;simp only[yZ,yY];simp at e h0;have h0':¬(x - 1000000000000000000 < 0):=by lia
   simp[vH (i:=seed) (j:=48271) (by lia) (by lia),h0',hz,e,s60]
def Kn{ds:List Int}{k:Int}(h0:0<=k)(h1:k < (ds.length:Int)):∃v:Int,atI (ds.map D.int) k=some (.int v):=⟨_,Jz (d:=0) h0 h1⟩
def zD{α:Type}{p:α->Prop}{ts:List α}{t:α}(h:∀x∈ts,p x)(ht:p t):∀x∈ts++[t],p x:=fun x hx=>by
 rcases uWa hx with z | z
 ·exact h x z
 ·have e:x=t:=by simpa using z
  rw[e];exact ht
def K_{lo:Int}{n i:Nat}{d:D}(h:(Jd lo n)[i]?=some d):i < n/\d=.int (lo+i):=by
 unfold Jd at h;rw[uAa]at h;cases q:(List.range n)[i]? with
 | none=>rw[q]at h;cases h
 | some j=>
  rw[q]at h;obtain⟨h1,h2⟩:=uSa q;rw[List.getElem_range]at h2;rw[List.length_range]at h1;exact⟨h1,by rw[<-Option.some.inj h,h2]⟩
def Ko(C:Addr)(m s n:Int)(ds:List Int)(m1:1<=m)(s1:1<=s)(s2:s<=1000)(n0:0<=n)(n1:n<=20)(hn:3 * n<=(ds.length:Int)):∃ts:List T3,YL C [.int m,.int s,.int n,.lst (ds.map .int)]=some (.lst (ts.map t3))/\(ts.length:Int)=n/\∀t∈ts,fB m s t=true:=by
 have L:=J6 (g:=v_) (s:=zA C) (items:=Jd 0 n.toNat) (fun i Z=>∃(ts:List T3) (x y:Sl),Z=[.bo (.int m),.bo (.int s),.bo (.int n),.bo (.lst (ds.map .int)),.ow none (.lst (ts.map t3)),x,y]/\ts.length=i/\∀t∈ts,fB m s t=true) ?_ ⟨[],.un,.un,rfl,rfl,fun _ h=>by cases h⟩
 ·obtain⟨Z',L1,ts,x,y,rfl,hl,ht⟩:=L;have hr:(Jd 0 n.toNat).length=n.toNat:=by simp[Jd]
  rw[hr]at hl;refine⟨ts,?_,by lia,ht⟩;simp only[YL,Zo];rw[uJa]at L1;have e1:Ju n=true:=yv (by lia) (by lia);simp[e1,L1]
 ·rintro i d Z hi ⟨ts,x,y,rfl,hl,ht⟩;obtain⟨hi1,rfl⟩:=K_ hi;have c3:US 3 (0+(i:Int))=true:=vH (by decide) (by decide);obtain⟨v1,a1⟩:=Kn (ds:=ds) (k:=3 * (0+(i:Int))+1) (by lia) (by lia);obtain⟨v0,a0⟩:=Kn (ds:=ds) (k:=3 * (0+(i:Int))) (by lia) (by lia);obtain⟨v2,a2⟩:=Kn (ds:=ds) (k:=3 * (0+(i:Int))+2) (by lia) (by lia);have f1:=Jn (a:=v1) (b:=s) (by lia);have f3:=Jn (a:=v2) (b:=s - (1+v1 % s)+1) (by lia);have f0:=Jn (a:=v0) (b:=m) (by lia);have hz:ts.length < sizeLine:=jo (by lia);have q1:0 < s:=by lia
  have q2:0 < m:=by lia
  have q3:0 < s - (1+v1 % s)+1:=by lia
  refine⟨_,[.bo (.int m),.bo (.int s),.bo (.int n),.bo (.lst (ds.map .int)),.ow none (.lst ((ts++[(v0 % m,1+v1 % s,1+v1 % s+v2 % (s - (1+v1 % s)+1))]).map t3)),.cl (.int (0+(i:Int))),.cl (.int (1+v1 % s))],rfl,?_,_,_,_,rfl,by simp[hl],zD ht ?_⟩
  ·simp only[zA];simp at a0 a1 a2 c3;simp[c3,a0,a1,a2,q1,q2,q3,hz,t3]
  ·unfold fB;simp only[Bool.and_eq_true,decide_eq_true_eq]
   lia
structure Few (b:Bk):Prop where
 c1:b.kinds.length=4->6 < b.size->∀t∈b.kinds,t.2.2<=2
 c2:2 < b.kinds.length->5 < b.size->b.dues.length<=2
def Uc{ns:List Int}{k lo hi:Int}(h0:0<=k)(h1:k < (ns.length:Int))(hb:∀v∈ns,lo<=v/\v<=hi):∃v,atI (ns.map D.int) k=some (.int v)/\lo<=v/\v<=hi:=by
 have hk:k.toNat < ns.length:=by lia
 refine⟨ns.getD k.toNat 0,Jz h0 h1,?_⟩;rw[uBa,uCa hk];exact hb _ (List.getElem_mem hk)
def Fd{i c:Nat}{m:Int}(h:i < m.toNat)(h4:m<=c):i < c:=by lia
def iy{le:Int}(h:le<=3):0 < 5 - (1+le)/\1+le < 5:=by lia
def iz{le x r:Int}(l0:0<=le)(l3:le<=3)(hx:0<=x/\x < 5 - (1+le))(r0:0<=r)(r4:r<=4):fK (1+le,1+le+x,r)=true:=by
 unfold fK;simp only[Bool.and_eq_true,decide_eq_true_eq]
 lia
def iA{m a b c:Int}(ha:0<=a/\a < m)(hb:0<=b/\b < m)(hc:0<=c/\c < 2):fS m (a,b,1+c)=true:=by
 unfold fS;simp only[Bool.and_eq_true,decide_eq_true_eq]
 lia
def lZ{x mo:Int}(h:0<=x/\x < mo)(h9:mo<=30):1<=1+x/\1+x<=1000/\1+x<=30:=by lia
def l_{k:Nat}{m:Int}(h:k=m.toNat)(h1:1<=m)(h4:m<=4):1<=k/\k<=4/\(k:Int)=m:=by lia
def L0{k c:Nat}{n:Int}(h:k=n.toNat)(h1:n<=c):k<=c:=by lia
def xT{k c:Nat}{n:Int}(h:(k:Int)=n)(h1:n<=c):k<=c:=by lia
def Fe{n a b:Int}(h:n<=a)(e:3 * a<=b):3 * n<=b:=by lia
def L3{k:Nat}{m:Int}(c:k=4)(e:(k:Int)=m):m=4:=by lia
def L4{k:Nat}{m:Int}(c:2 < k)(e:(k:Int)=m):2 < m:=by lia
def BV{n:Int}(h0:0<=n)(h1:n<=20):Ju n=true:=yv (by lia) (by lia)
def CQ(C:Addr)(ds:List Int)(mo:Int)(hn:62<=ds.length)(hn2:ds.length<=1000)(mo1:1<=mo)(mo2:mo<=30):∃b:Bk,VH C [.lst (ds.map .int),.int mo]=some (jW b)/\OkB b/\Few b:=by
 have at0:∀k:Int,0<=k->k < 62->∃v:Int,atI (ds.map D.int) k=some (.int v):=fun k h0 h1=>Kn h0 (by lia);have at1:∀(i:Nat) (k:Int),i < 4->0<=k->k<=10->∃v:Int,atI (ds.map D.int) (k+(0+(i:Int)))=some (.int v):=fun i k h h0 h1=>at0 _ (by lia) (by lia);have at2:∀i:Nat,i < 20->0<=44+3 * ((0+(i:Int)) % 5)+(0+(i:Int)) / 5/\44+3 * ((0+(i:Int)) % 5)+(0+(i:Int)) / 5+2 < 62:=fun i h=>by lia
 have yx:∀x:Int,0<=x/\x+2 < 62->(∃v:Int,atI (ds.map D.int) x=some (.int v))/\(∃v:Int,atI (ds.map D.int) (x+1)=some (.int v))/\∃v:Int,atI (ds.map D.int) (x+2)=some (.int v):=fun x h=>⟨at0 _ h.1 (by lia),at0 _ (by lia) (by lia),at0 _ (by lia) h.2⟩
 have lc:(Jp ds (some 26) (some 35)).length=9:=by
  have:=kq ds 26 35 (by lia) (by lia);rw[show((26:Nat):Int)=26 from rfl,show((35:Nat):Int)=35 from rfl]at this;rw[this,uOa,uNa]
  lia
 obtain⟨u0,a0⟩:=at0 0 (by decide) (by decide);obtain⟨u1,a1⟩:=at0 1 (by decide) (by decide);obtain⟨u14,a14⟩:=at0 14 (by decide) (by decide);obtain⟨u15,a15⟩:=at0 15 (by decide) (by decide);obtain⟨u25,a25⟩:=at0 25 (by decide) (by decide);have g0:=Jn (a:=u0) (b:=7) (by decide);have g1:=Jn (a:=u1) (b:=mo) mo1;have gs:=lZ g1 mo2;have g14:=Jn (a:=u14) (b:=7) (by decide);have g15:=Jn (a:=u15) (b:=6) (by decide);have g25:=Jn (a:=u25) (b:=6) (by decide);obtain⟨m,pm,m1,m4⟩:=Uc (ns:=[2,3,3,2,1,4,3]) (k:=u0 % 7) (lo:=1) (hi:=4) g0.1 g0.2 (by decide);obtain⟨nh,ph,nh0,nh1⟩:=Uc (ns:=[0,0,1,2,3,0,20]) (k:=u14 % 7) (lo:=0) (hi:=20) g14.1 g14.2 (by decide);obtain⟨nb,pb,nb0,nb1⟩:=Uc (ns:=[0,1,0,2,12,0]) (k:=u15 % 6) (lo:=0) (hi:=12) g15.1 g15.2 (by decide);obtain⟨nd,pd,nd0,nd1⟩:=Uc (ns:=[0,1,0,2,3,1]) (k:=u25 % 6) (lo:=0) (hi:=3) g25.1 g25.2 (by decide);clear g0 g14 g15 g25;have K1:=J6 (g:=Uo) (s:=ZY C) (items:=Jd 0 m.toNat) (fun i Z=>∃(ts:List T3) (x5 x6 x7:Sl),Z=[.bo (.lst (ds.map .int)),.bo (.int mo),.cl (.int m),.cl (.int (1+u1 % mo)),.ow none (.lst (ts.map t3)),x5,x6,x7,.un,.un,.un,.un,.un]/\ts.length=i/\(∀t∈ts,fK t=true)/\(m=4/\6 < 1+u1 % mo \/ 12 < 1+u1 % mo->∀t∈ts,t.2.2<=2)) ?_ ⟨[],.un,.un,.un,rfl,rfl,fun _ h=>(by cases h),fun _ _ h=>by cases h⟩
 rotate_left
 ·rintro i d Z hi ⟨ts,x5,x6,x7,rfl,hl,ht,hc⟩;obtain⟨hi1,rfl⟩:=K_ hi;have i4:=Fd (c:=4) hi1 m4;obtain⟨w2,b2⟩:=at1 i 2 i4 (by decide) (by decide);obtain⟨w6,b6⟩:=at1 i 6 i4 (by decide) (by decide);obtain⟨w10,b10⟩:=at1 i 10 i4 (by decide) (by decide);have e2:=Jn (a:=w2) (b:=7) (by decide);have e10:=Jn (a:=w10) (b:=7) (by decide);obtain⟨le,pl,le0,le3⟩:=Uc (ns:=[0,0,1,0,2,3,1]) (k:=w2 % 7) (lo:=0) (hi:=3) e2.1 e2.2 (by decide);obtain⟨re,pr,re0,re4⟩:=Uc (ns:=[0,1,2,0,3,4,1]) (k:=w10 % 7) (lo:=0) (hi:=4) e10.1 e10.2 (by decide);clear e2 e10;obtain⟨q5,q5'⟩:=iy le3;have e6:=Jn (a:=w6) (b:=5 - (1+le)) q5;have e3:=Jn (a:=re) (b:=3) (by decide);have hz:ts.length < sizeLine:=jo (by rw[hl];exact wSa (wQa i4) (by decide));have fin:=fun r=>iz (r:=r) le0 le3 e6;simp at b2 b6 b10 pl pr;unfold ZY;by_cases h2:m=4/\6 < 1+u1 % mo \/ 12 < 1+u1 % mo
  ·exact⟨_,_,rfl,sq (by simp[b2,pl] <;> rfl) (sq (by simp[b10,pr] <;> rfl) (sq (ZP (by by_cases z:m=4 <;> by_cases y:6 < 1+u1 % mo <;> by_cases x:12 < 1+u1 % mo <;> simp[z,y,x]at h2⊢) (by simp <;> rfl)) (by simp[b6,q5,q5',hz] <;> rfl))),ts++[(1+le,1+le+w6 % (5 - (1+le)),re % 3)],.cl (.int (0+(i:Int))),.cl (.int (1+le)),.cl (.int (re % 3)),by simp[t3],by simp[hl],zD ht (fin _ e3.1 (Int.le_trans (Int.le_of_lt e3.2) (by decide))),fun z=>zD (hc z) (Int.le_of_lt_add_one e3.2)⟩
  ·exact⟨_,_,rfl,sq (by simp[b2,pl] <;> rfl) (sq (by simp[b10,pr] <;> rfl) (sq (JA (by by_cases z:m=4 <;> by_cases y:6 < 1+u1 % mo <;> by_cases x:12 < 1+u1 % mo <;> simp[z,y,x]at h2⊢) rfl) (by simp[b6,q5,q5',hz] <;> rfl))),ts++[(1+le,1+le+w6 % (5 - (1+le)),re)],.cl (.int (0+(i:Int))),.cl (.int (1+le)),.cl (.int re),by simp[t3],by simp[hl],zD ht (fin _ re0 re4),fun z=>vDa z h2⟩
 obtain⟨Zk,K2,ks,x5,x6,x7,rfl,lk,hk,hkc⟩:=K1;have hrk:(Jd 0 m.toNat).length=m.toNat:=by simp[Jd]
 rw[hrk]at lk;have S1:=J6 (g:=Up) (s:=ZZ C) (items:=Jd 0 nh.toNat) (fun i Z=>∃(ts:List T3) (x5 x9:Sl),Z=[.bo (.lst (ds.map .int)),.bo (.int mo),.cl (.int m),.cl (.int (1+u1 % mo)),.ow none (.lst (ks.map t3)),x5,x6,x7,.ow none (.lst (ts.map t3)),x9,.un,.un,.un]/\ts.length=i/\∀t∈ts,fS m t=true) ?_ ⟨[],x5,.un,rfl,rfl,fun _ h=>by cases h⟩
 rotate_left
 ·rintro i d Z hi ⟨ts,x5,x9,rfl,hl,ht⟩;obtain⟨hi1,rfl⟩:=K_ hi;have i20:=Fd (c:=20) hi1 nh1;obtain⟨⟨w0,b0⟩,⟨w1,b1⟩,w2,b2⟩:=yx _ (at2 i i20);have qm:0 < m:=m1;have e0:=Jn (a:=w0) qm;have e1:=Jn (a:=w1) qm;have e2:=Jn (a:=w2) (b:=2) (by decide);have hz:ts.length < sizeLine:=jo (by rw[hl];exact wSa (wQa i20) (by decide));have c3:US 3 ((0+(i:Int)) % 5)=true:=vH (by decide) (by decide);refine⟨_,[.bo (.lst (ds.map .int)),.bo (.int mo),.cl (.int m),.cl (.int (1+u1 % mo)),.ow none (.lst (ks.map t3)),.cl (.int (0+(i:Int))),x6,x7,.ow none (.lst ((ts++[(w0 % m,w1 % m,1+w2 % 2)]).map t3)),.cl (.int (44+3 * ((0+(i:Int)) % 5)+(0+(i:Int)) / 5)),.un,.un,.un],rfl,?_,_,_,_,rfl,by simp[hl],zD ht (iA e0 e1 e2)⟩;simp only[ZZ];simp at b0 b1 b2 c3;simp[c3,b0,b1,b2,qm,hz,t3]
 obtain⟨Zh,S2,hs,x5',x9,rfl,lh,hh⟩:=S1;have hrh:(Jd 0 nh.toNat).length=nh.toNat:=by simp[Jd]
 rw[hrh]at lh;obtain⟨ws,W1,W2⟩:∃ws:List Int,Ji (gN 0) jx (d2 jy (d2 j9 (dV 1) (d2 jy (dK (.int 16)) (d2 Jg (d2 yX (dK (.int 5)) (dV 0)) (dK (.int 9))))) (d2 yX (dK (.int 7)) (dV 0))) (Jd 0 36) [.un,.bo (.lst (ds.map .int))]=some (ws.map D.int)/\ws.length=36:=by
  have:=jX (g:=gN 0) (dc:=jx) (de:=d2 jy (d2 j9 (dV 1) (d2 jy (dK (.int 16)) (d2 Jg (d2 yX (dK (.int 5)) (dV 0)) (dK (.int 9))))) (d2 yX (dK (.int 7)) (dV 0))) (Z:=[.un,.bo (.lst (ds.map .int))]) (fun i:Nat=>D.int (0+(i:Int))) (fun i:Nat=>D.int (ds.getD (16+5 * (0+(i:Int)) % 9).toNat 0+7 * (0+(i:Int)))) (xs:=List.range 36) fun i hi=>by
   have hi:=List.mem_range.mp hi;have d9:=Jn (a:=5 * (0+(i:Int))) (b:=9) (by decide);have a:=Jz (f:=D.int) (xs:=ds) (d:=0) (k:=16+5 * (0+(i:Int)) % 9) (by lia) (by lia);have c5:US 5 (0+(i:Int))=true:=vH (by decide) (by decide);have c7:US 7 (0+(i:Int))=true:=vH (by decide) (by decide);refine⟨_,rfl,rfl,?_⟩;simp at a c5 c7;simp[c5,c7,a]
  refine⟨(List.range 36).map fun(i:Nat)=>ds.getD (16+5 * (0+(i:Int)) % 9).toNat 0+7 * (0+(i:Int)),?_,by simp⟩;rw[List.map_map];exact this
 obtain⟨bs,B1,B2,B3⟩:=Ko C m (1+u1 % mo) nb ws m1 gs.1 gs.2.1 nb0 (Int.le_trans nb1 (by decide)) (by rw[W2];exact Fe nb1 (by decide));have ec:Jp (ds.map D.int) (some 26) (some 35)=(Jp ds (some 26) (some 35)).map D.int:=Zt _ _ _ _;have e3:=Jn (a:=nd) (b:=3) (by decide);obtain⟨ek1,ek4,ek⟩:=l_ lk m1 m4;have fin:∀n:Int,0<=n->n<=3->∀dd:List T3,(dd.length:Int)=n->(∀t∈dd,fB m (1+u1 % mo) t=true)->OkB ⟨1+u1 % mo,ks,hs,bs,dd⟩:=fun n n0 n3 dd hd hd2=>by
  refine⟨gs.1,gs.2.2,ek1,ek4,L0 lh nh1,xT B2 nb1,xT hd n3,hk,?_,?_,?_⟩
  ·show∀t∈hs,fS (ks.length:Int) t=true;rw[ek];exact hh
  ·show∀t∈bs,fB (ks.length:Int) _ t=true;rw[ek];exact B3
  ·show∀t∈dd,fB (ks.length:Int) _ t=true;rw[ek];exact hd2
 have s1:Ju m=true:=BV (Int.le_trans (by decide) m1) (Int.le_trans m4 (by decide));have s2:Ju nh=true:=BV nh0 nh1;have z36:(36:Nat)<=sizeLine:=by decide
 have s3:Ju 36=true:=by decide
 have hrw:(Jd 0 36).length=36:=by simp[Jd]
 have qmo:0 < mo:=mo1;rw[uJa]at K2 S2;simp only[VH,VG];simp only[List.map_cons,List.map_nil]at pm ph pb pd;obtain⟨n,n0,n3,n2,hn⟩:∃n:Int,0<=n/\n<=3/\(5 < 1+u1 % mo->2 < m->n<=2)/\jk (Je (jm (d2 yu (dV 3) (dK (.int 5)))) (jm (d2 yu (dV 2) (dK (.int 2))))) (jp 12 (d2 Jg (dV 12) (dK (.int 3)))) jv [.bo (.lst (ds.map .int)),.bo (.int mo),.cl (.int m),.cl (.int (1+u1 % mo)),.ow none (.lst (ks.map t3)),x5',x6,x7,.ow none (.lst (hs.map t3)),x9,.cl (.lst (ws.map .int)),.cl (.lst (bs.map t3)),.cl (.int nd)]=some (.nx [.bo (.lst (ds.map .int)),.bo (.int mo),.cl (.int m),.cl (.int (1+u1 % mo)),.ow none (.lst (ks.map t3)),x5',x6,x7,.ow none (.lst (hs.map t3)),x9,.cl (.lst (ws.map .int)),.cl (.lst (bs.map t3)),.cl (.int n)]):=by
  by_cases c1:5 < 1+u1 % mo/\2 < m
  ·exact⟨nd % 3,e3.1,Int.le_of_lt e3.2,fun _ _=>Int.le_of_lt_add_one e3.2,ZP (by simp[c1.1,c1.2]) (by simp <;> rfl)⟩
  ·refine⟨nd,nd0,nd1,fun y z=>vDa ⟨y,z⟩ c1,JA ?_ rfl⟩;by_cases z:5 < 1+u1 % mo
   ·have y:¬2 < m:=fun y=>c1 ⟨z,y⟩;simp[z,y]
   ·simp[z]
 obtain⟨dd,D1,D2,D3⟩:=Ko C m (1+u1 % mo) n (Jp ds (some 26) (some 35)) m1 gs.1 gs.2.1 n0 (Int.le_trans n3 (by decide)) (by rw[lc];exact Fe n3 (by decide));refine⟨⟨1+u1 % mo,ks,hs,bs,dd⟩,fE ?_,fin n n0 n3 dd D2 D3,fun c h6=>hkc (.inl ⟨L3 c ek,h6⟩),fun c h5=>xT D2 (n2 h5 (L4 c ek))⟩;exact sq (by simp[a0,pm] <;> rfl) (sq (by simp[a1,qmo] <;> rfl) (sq (by simp <;> rfl) (sq (by simp[s1,K2] <;> rfl) (sq (by simp <;> rfl) (sq (by simp[a14,ph,s2,S2] <;> rfl) (sq (by simp[s3,W1,z36,hrw] <;> rfl) (sq (by simp[a15,pb,B1] <;> rfl) (sq (by simp[a25,pd] <;> rfl) (sq hn (by simp[ec,D1,jW] <;> rfl))))))))))
def zw{α:Type}(l:List α):uF (l.map fun _=>D.bl true)=some (l.map fun _=>true):=YD (fun _=>true) l
def bm(C:Addr)(b:Bk)(ok:OkB b):Vc C [jW b]=some (j3 (jb b)):=by
 have c1:Ji (gN 0) jx (dK (.int 0)) (b.kinds.map t3) [.un]=some (b.kinds.map fun _=>D.int 0):=jX t3 _ fun t _=>⟨_,rfl,rfl,rfl⟩
 have c2:Ji (gN 0) jx (dK (.bl false)) (b.dues.map t3) [.un]=some (b.dues.map fun _=>D.bl false):=jX t3 _ fun t _=>⟨_,rfl,rfl,rfl⟩
 have h1:b.kinds.length<=sizeLine:=wQa (jo (by have:=ok.k2;lia));have h2:b.dues.length<=sizeLine:=wQa (jo (by have:=ok.d2;lia));simp only[Vc,Vb];simp[c1,c2,h1,h2,jb,j3];exact⟨List.map_const' ..,List.map_const' ..⟩
structure Form (b:Bk) (s:Sd):Prop extends Fit b s where
 wn:∀x∈s.waits,0<=x
def ZG(b:Bk)(s:Sd)(k:Int):Bool:=YO b s k||(YF b s k||(yS s k||Vz b s k))
def qp{xs:List Int}{k:Int}(h0:0<=k)(h1:k < (xs.length:Int)):xs.getD k.toNat 0∈xs:=by
 have hk:k.toNat < xs.length:=by lia
 rw[uBa,uCa hk];exact List.getElem_mem hk
def Ff(s:Sd):k_ (j3 s) (some 1) (some 5)=some (.tup [.int s.kind,.int s.len,.int s.before,.tup (s.waits.map .int)]):=by
 have sh:HT.sIx 6 0 (some 1)=1:=by decide
 have sh2:HT.sIx 6 6 (some 5)=5:=by decide
 simp[k_,j3,Jp,sh,sh2]
def aB(C:Addr)(b:Bk)(s:Sd)(k:Int)(ok:OkB b)(X:Form b s)(h:JX b k):ZT C [jW b,j3 s,.int k]=some (.bl (ZG b s k)):=by
 have hw:k < (s.waits.length:Int):=by rw[X.w];exact h.2
 have hx:=X.wn _ (qp h.1 hw);have ew:=Jz (f:=D.int) (xs:=s.waits) (d:=0) h.1 hw;have ea:yS s k=(!decide (s.kind=k)&&decide (0 < s.waits.getD k.toNat 0)):=by
  unfold yS;by_cases z:s.waits.getD k.toNat 0=0
  ·rw[z];rfl
  ·rw[decide_eq_false z,decide_eq_true (show 0 < s.waits.getD k.toNat 0 by lia)];rfl
 have ek:=Y5 h.1 h.2;revert hx ew ea;generalize s.waits.getD k.toNat 0=wv;intro hx ew ea
 let R:Sl->Sl->Sl->jg:=fun x y z=>[.bo (jW b),.bo (j3 s),.bo (.int k),.cl (.int s.kind),.cl (.int s.len),.cl (.int s.before),.cl (.tup (s.waits.map .int)),x,y,z]
 have L:=vZ (g:=Z0) (s:=Z4 C) (items:=b.shuns.map t3) (fun Z=>∃x y z,Z=R x y z) (Qs (YG s k)) (.rt (.bl true)) (.inl ⟨_,rfl⟩) ?_ ⟨.un,.un,.un,rfl⟩
 ·rw[any_map t3 _ (YG s k) (Za _)]at L;have t1:(Je (jm (d2 jM (dV 2) (dV 3))) (jm (d2 Vl (dV 4) (d2 j9 (d2 j9 (d2 j9 (dV 0) (dN 1)) (dV 2)) (dN 1))))) (R .un .un .un)=some (YO b s k):=by
   unfold YO;by_cases e:s.kind=k
   ·simp[R,e,ek]
   ·have e':¬k=s.kind:=fun z=>e z.symm;simp[R,e,e']
  have t2:(Je (jm (d2 yV (dV 2) (dV 3))) (JR (Je (jm (d2 yV (dV 3) (VE (dN 1)))) (jm (d2 Y3 (dV 4) (d2 j9 (d2 j9 (d2 j9 (dV 0) (dN 1)) (dV 3)) (dN 0))))) (jm (d2 yu (d2 j9 (dV 6) (dV 2)) (dN 0))))) (R .un .un .un)=some (YF b s k||yS s k):=by
   rw[ea];unfold YF;by_cases e:s.kind=k
   ·simp[R,e]
   ·have e':¬k=s.kind:=fun z=>e z.symm;by_cases e2:s.kind=-1
    ·have e3:¬k=-1:=fun z=>e (e2.trans z.symm);have e5:¬-1=k:=fun z=>e (e2.trans z);simp[R,e2,ew,e3,e5]
    ·have ek2:=Y5 (ks:=b.kinds) (k:=s.kind) (by have:=X.c0;lia) X.c1;by_cases e4:s.len < (yx b.kinds s.kind).1
     ·simp[R,e,e',e2,ek2,e4]
     ·simp[R,e,e',e2,ek2,e4,ew]
  have eT:ZG b s k=(YO b s k||((YF b s k||yS s k)||Vz b s k)):=by unfold ZG;rw[Bool.or_assoc]
  rw[eT];refine fE (sq (Z1:=R .un .un .un) (by simp[R,Ff s,yU]) ?_);cases hl:YO b s k with
  | true=>rw[hl]at t1;exact Vu (ZP t1 rfl)
  | false=>
   rw[hl]at t1;refine sq (JA t1 rfl) ?_;cases hs:(YF b s k||yS s k)with
   | true=>rw[hs]at t2;exact Vu (ZP t2 rfl)
   | false=>
    rw[hs]at t2;refine sq (JA t2 rfl) ?_;have hS:Vz b s k=b.shuns.any (YG s k):=rfl;rcases L with⟨L1,L2⟩ | ⟨L1,Z',_,L2⟩
    ·rw[hS,L1];exact Vu (by rw[jD];simp[R]at L2⊢;exact L2)
    ·rw[hS,L1];exact sq (Z1:=Z') (by rw[jD];simp[R]at L2⊢;exact L2) rfl
 ·rintro d hd Z ⟨x,y,z,rfl⟩;obtain⟨t,ht,rfl⟩:=uVa hd;have hf:=ok.hs t ht;obtain⟨u,v,w⟩:=t;unfold fS at hf;simp only[Bool.and_eq_true,decide_eq_true_eq]at hf;refine⟨R (.cl (.int u)) (.cl (.int v)) (.cl (.int w)),rfl,?_⟩;rw[Za];have ev:atI [D.int s.kind,D.int s.before] (w - 1)=some (.int (if w=1 then s.kind else s.before)):=by
   have:w=1 \/ w=2:=by lia
   rcases this with rfl | rfl <;> rfl
  unfold YG;exact Km (I:=fun Z=>∃x y z,Z=R x y z) (by by_cases h2:v=k <;> simp[R,h2,ev]) rfl ⟨_,_,_,rfl⟩
def kr{b:Bk}{s:Sd}{k:Int}{i:Nat}{t:T3}{m:Bool}(ht:b.dues[i]?=some t)(hm:s.met[i]?=some m):(JD b s k)[i]?=some (m||yR k (s.place+1) t):=by
 unfold JD;rw[List.getElem?_zipWith,ht,hm]
def qr{l:List T3}{i:Nat}{d:D}(h:(Ym 0 (l.map t3))[i]?=some d):∃t,l[i]?=some t/\d=.tup [.int (i:Int),t3 t]:=by
 obtain⟨d',h1,h2⟩:=UX 0 _ i d h;rw[uAa]at h1;cases q:l[i]? with
 | none=>rw[q]at h1;cases h1
 | some t=>
  rw[q]at h1;cases h1;exact⟨t,rfl,by rw[h2,Nat.zero_add]⟩
def CS(C:Addr)(b:Bk)(s:Sd)(k:Int)(ok:OkB b)(X:Fit b s):U4 C [jW b,.int (s.place+1),.tup (s.met.map .bl),.int k]=some (if YX b s k=true then .non else .lst ((JD b s k).map .bl)):=by
 have hl:=ko (k:=k) X;have hd2:=ok.d2;have L:=bb (r:=.nx []) (g:=gE) (s:=Z8 C) (items:=Ym 0 (b.dues.map t3)) (fun i Z=>(∃x5 x6 x7 x8,Z=[.bo (jW b),.bo (.int (s.place+1)),.bo (.tup (s.met.map .bl)),.bo (.int k),.ow none (.lst (((JD b s k).take i).map .bl)),x5,x6,x7,x8])/\∀j,j < i->∀t m,b.dues[j]?=some t->(JD b s k)[j]?=some m->(decide (t.2.2=s.place+1)&&!m)=false)
  (fun i r=>r=.rt .non/\∃t m,b.dues[i]?=some t/\(JD b s k)[i]?=some m/\(decide (t.2.2=s.place+1)&&!m)=true) ?_ ⟨⟨.un,.un,.un,.un,rfl⟩,fun j hj=>by lia⟩
 ·have hz:∀i t m,b.dues[i]?=some t->(JD b s k)[i]?=some m->(t,m)∈List.zip b.dues (JD b s k):=fun i t m h1 h2=>wYa (i:=i) (by rw[List.getElem?_zip_eq_some];exact⟨h1,h2⟩);simp only[U4,u_];rcases L with⟨Z',L1,⟨x5,x6,x7,x8,rfl⟩,L2⟩ | ⟨i,d',hi,L1,L2,t,m,h1,h2,h3⟩
  ·rw[ZJ,vYa,<-hl,List.take_length]at L1;have hd:YX b s k=false:=by
    unfold YX;rw[List.any_eq_false];rintro⟨t,m⟩ hm;obtain⟨i,hi⟩:=List.mem_iff_getElem?.mp hm;rw[List.getElem?_zip_eq_some]at hi;have hi':i < b.dues.length:=(uSa hi.1).1;have:=L2 i (by rw[ZJ,vYa];exact hi') t m hi.1 hi.2;rw[this];exact vNa
   rw[hd];rw[List.take_zero,uJa]at L1;simp[L1]
  ·cases L2;have hd:YX b s k=true:=by
    unfold YX;rw[List.any_eq_true];exact⟨(t,m),hz i t m h1 h2,h3⟩
   rw[hd];rw[List.take_zero,uJa]at L1;simp[L1]
 ·rintro i d Z hi ⟨⟨x5,x6,x7,x8,rfl⟩,hj⟩;obtain⟨t,ht,rfl⟩:=qr hi;have hlt:i < b.dues.length:=(uSa ht).1;have hm:s.met[i]?=some (s.met[i]'(by have:=X.m;lia)):=by simp
  revert hm;generalize s.met[i]'(by have:=X.m;lia)=m;intro hm;have hg:=kr (k:=k) ht hm;have ea:atI (s.met.map D.bl) (i:Int)=some (.bl m):=Yx (by lia) (by rw[uAa];simp[hm]);have lenT:((JD b s k).take i).length=i:=by rw[uOa];lia
  revert lenT;generalize hT:(JD b s k).take i=L;intro lenT;have hz':L.length < sizeLine:=jo (by lia);have eb:∀c:Bool,atI (L.map D.bl++[.bl c]) (i:Int)=some (.bl c):=fun c=>Yx (by lia) (by
   rw[List.getElem?_append_right (by rw[vYa];lia),vYa];have:(i:Int).toNat - L.length=0:=by lia
   rw[this];rfl)
  obtain⟨p,q,r⟩:=t
  let R:List Bool->jg:=fun l=>[.bo (jW b),.bo (.int (s.place+1)),.bo (.tup (s.met.map .bl)),.bo (.int k),.ow none (.lst (l.map .bl)),.cl (.int (i:Int)),.cl (.int p),.cl (.int q),.cl (.int r)]
  have key:∀c:Bool,(m||yR k (s.place+1) (p,q,r))=c->(((r=s.place+1/\c=false)/\Z8 C (R L)=some (.rt .non)) \/ (¬(r=s.place+1/\c=false)/\Z8 C (R L)=some (.nx (R (L++[c]))))):=by
   intro c hc;have ev:(UU (d2 j9 (dV 2) (dV 5)) (Jt (d2 jM (dV 6) (dV 3)) (Jc Jb Jb (dV 7) (dV 1) (dV 8)))) (R L)=some (.bl c):=by
    rw[<-hc];unfold yR;cases m with
    | true=>simp[R,ea]
    | false=>
     by_cases e1:p=k
     ·by_cases e2:q<=s.place+1 <;> simp[R,ea,e1,e2]
     ·simp[R,ea,e1]
   have e4:yg 4 (UU (d2 j9 (dV 2) (dV 5)) (Jt (d2 jM (dV 6) (dV 3)) (Jc Jb Jb (dV 7) (dV 1) (dV 8)))) (R L)=some (.nx (R (L++[c]))):=by
    generalize (UU (d2 j9 (dV 2) (dV 5)) (Jt (d2 jM (dV 6) (dV 3)) (Jc Jb Jb (dV 7) (dV 1) (dV 8))))=dd at ev⊢;simp[R]at ev;simp[R,ev,hz']
   by_cases e0:r=s.place+1/\c=false
   ·exact .inl ⟨e0,sq e4 (ZP (by simp[R,eb,e0.1,e0.2]) rfl)⟩
   ·refine .inr ⟨e0,sq e4 (JA ?_ rfl)⟩;by_cases e1:r=s.place+1
    ·have:c=true:=by cases c <;> simp_all
     simp[R,eb,e1,this]
    ·simp[R,e1]
  refine⟨_,rfl,?_⟩;rcases key _ rfl with⟨⟨e1,e2⟩,e3⟩ | ⟨e1,e3⟩
  ·exact .inr ⟨_,e3,rfl,_,_,ht,hg,by rw[e2];simp[e1]⟩
  ·refine .inl ⟨_,e3,⟨_,_,_,_,by rw[gJ hg,hT]⟩,fun j hj' t m h1 h2=>?_⟩;by_cases ej:j < i
   ·exact hj j ej t m h1 h2
   ·have ej:j=i:=by lia
    subst ej;rw[ht]at h1;rw[hg]at h2;cases h1;cases h2;rw[Bool.eq_false_iff];intro z;simp only[Bool.and_eq_true,decide_eq_true_eq,Bool.not_eq_true']at z;exact e1 z
def yh(b:Bk)(s:Sd)(k:Int):Option Sd:=if s.place>=b.size then none else if (Jf b s k).isSome=true then none else some (jG b s k)
def GP:Option Sd->D
 | none=>.non
 | some s=>j3 s
noncomputable def ut(b:Bk)(s:Sd)(k:Int)(i:Nat)(t:T3)(x:Int):Int:=if (i:Int)=k then 0 else mx ((if (i:Int)=s.kind then t.2.2 else x) - 1) 0
def Qt{b:Bk}{s:Sd}{k:Int}{i:Nat}{t:T3}{x:Int}(X:Fit b s)(h:JX b k)(ht:b.kinds[i]?=some t)(hx:s.waits[i]?=some x):(JH b s k)[i]?=some (ut b s k i t x):=by
 have hi:i < s.waits.length:=(uSa hx).1;have k0:=h.1;have e3:∀j:Int,0<=j->j.toNat=i->yx b.kinds j=t:=fun j h0 h1=>by
  unfold yx;rw[h1,uBa,ht];rfl
 unfold JH ut;by_cases e1:(i:Int)=k
 ·have e1':k.toNat=i:=by lia
  rw[if_pos e1,e1',List.getElem?_set];rw[if_pos rfl,if_pos (by split <;> simp <;> lia)]
 ·have e1':k.toNat≠i:=by lia
  rw[if_neg e1,List.getElem?_set,if_neg e1'];by_cases e2:s.kind=-1
  ·rw[if_pos e2,if_neg (by lia),uAa,hx];rfl
  ·have c0:=X.c0;rw[if_neg e2,List.getElem?_set];by_cases e4:(i:Int)=s.kind
   ·have e4':s.kind.toNat=i:=by lia
    rw[if_pos e4',if_pos e4,if_pos (by rw[vYa];lia),e3 s.kind (by lia) e4']
   ·have e4':¬s.kind.toNat=i:=by lia
    rw[if_neg e4',if_neg e4,uAa,hx];rfl
def Fg(w:Int):(if w - 1 > 0 then w - 1 else 0)=mx (w - 1) 0:=by
 unfold mx;split <;> split <;> lia
def VU(b:Bk)(s:Sd)(k:Int):(Jf b s k).isSome=(Y7 b s k||(ZG b s k||(YX b s k||vg b s k))):=by
 unfold Jf ZG;cases Y7 b s k <;> cases YO b s k <;> cases YF b s k <;> cases yS s k <;> cases Vz b s k <;> cases YX b s k <;> cases vg b s k <;> rfl
def bn(C:Addr)(b:Bk)(s:Sd)(k:Int)(ok:OkB b)(X:Form b s)(h:JX b k):GL C [jW b,j3 s,.int k]=some (GP (yh b s k)):=by
 have ek:=Y5 h.1 h.2;have e1:=aB C b s k ok X h;have e2:=CS C b s k ok X.toFit;have hk2:=ok.k2;have er:∀Z:jg,(GU (jm (d2 jM (dV 2) (dV 4))) (d2 jy (dV 5) (dK (.int 1))) (dK (.int 1))) (.bo (jW b)::.cl (j3 s)::.cl (.int k)::.cl (.int s.place)::.cl (.int s.kind)::.cl (.int s.len)::Z)=some (.int (YE s k)):=fun Z=>by
  unfold YE;by_cases z:s.kind=k
  ·simp[z]
  ·have z':¬k=s.kind:=fun y=>z y.symm;simp[z,z']
 have L:=vZ (g:=Uv) (s:=ve C) (items:=b.bars.map t3) (fun Z=>∃x y z,Z=[.bo (jW b),.cl (j3 s),.cl (.int k),.cl (.int s.place),.cl (.int s.kind),.cl (.int s.len),.cl (.int s.before),.cl (.tup (s.waits.map .int)),.cl (.tup (s.met.map .bl)),.cl (.int (s.place+1)),.cl (.int (YE s k)),x,y,z,.un,.un,.un,.un,.un,.un,.un]) (Qs (yR k (s.place+1))) (.rt .non) (.inl ⟨_,rfl⟩) ?_ ⟨.un,.un,.un,rfl⟩
 ·rw[any_map t3 _ (yR k (s.place+1)) (Za _)]at L;have L2:=fun(x y z:Sl)=>J6 (g:=Uw) (s:=Ux C) (items:=Ym 0 (b.kinds.map t3)) (fun i Z=>∃x16 x17 x18 x19 x20,Z=[.bo (jW b),.cl (j3 s),.cl (.int k),.cl (.int s.place),.cl (.int s.kind),.cl (.int s.len),.cl (.int s.before),.cl (.tup (s.waits.map .int)),.cl (.tup (s.met.map .bl)),.cl (.int (s.place+1)),.cl (.int (YE s k)),x,y,z,.cl (.lst ((JD b s k).map .bl)),.ow none (.lst (((JH b s k).take i).map .int)),x16,x17,x18,x19,x20]) (by
   rintro i d Z hi ⟨x16,x17,x18,x19,x20,rfl⟩;obtain⟨t,ht,rfl⟩:=qr hi;have hlt:i < b.kinds.length:=(uSa ht).1;have hw:s.waits[i]?=some (s.waits[i]'(by have:=X.w;lia)):=by simp
   revert hw;generalize s.waits[i]'(by have:=X.w;lia)=w;intro hw;have hg:=Qt X.toFit h ht hw;have ea:atI (s.waits.map D.int) (i:Int)=some (.int w):=Yx (by lia) (by rw[uAa];simp[hw]);have lenT:((JH b s k).take i).length<=i:=by rw[uOa];lia
   rw[gJ hg];revert lenT;generalize (JH b s k).take i=T;intro lenT;have hz':T.length < sizeLine:=jo (by lia);obtain⟨p,q,r⟩:=t
   let Q:List Int->Sl->jg:=fun l e=>[.bo (jW b),.cl (j3 s),.cl (.int k),.cl (.int s.place),.cl (.int s.kind),.cl (.int s.len),.cl (.int s.before),.cl (.tup (s.waits.map .int)),.cl (.tup (s.met.map .bl)),.cl (.int (s.place+1)),.cl (.int (YE s k)),x,y,z,.cl (.lst ((JD b s k).map .bl)),.ow none (.lst (l.map .int)),.cl (.int (i:Int)),.cl (.int p),.cl (.int q),.cl (.int r),e]
   refine⟨Q T x20,Q (T++[ut b s k i (p,q,r) w]) (.cl (.int (if (i:Int)=s.kind then r else w))),rfl,sq (Z1:=Q T (.cl (.int w))) (by simp[Q,ea]) (sq (Z1:=Q T (.cl (.int (if (i:Int)=s.kind then r else w)))) (by by_cases c1:(i:Int)=s.kind <;> simp[Q,c1]) ?_),_,_,_,_,_,rfl⟩;unfold ut;show yg 15 _ (Q T (.cl (.int (if (i:Int)=s.kind then r else w))))=some (.nx (Q (T++[if (i:Int)=k then 0 else mx ((if (i:Int)=s.kind then r else w) - 1) 0]) (.cl (.int (if (i:Int)=s.kind then r else w)))));generalize (if (i:Int)=s.kind then r else w)=v;by_cases c2:(i:Int)=k
   ·simp[Q,c2,hz']
   ·have em:=Fg v;simp at em;simp[Q,c2,hz',em]) ⟨.un,.un,.un,.un,.un,rfl⟩
  have hwl:(Ym 0 (b.kinds.map t3)).length=(JH b s k).length:=by rw[ZJ,vYa,Ub,X.w]
  unfold yh;rw[VU];have hb0:Y7 b s k=b.bars.any (yR k (s.place+1)):=rfl
  let R:Sl->Sl->Sl->Sl->Sl->Sl->Sl->Sl->Sl->Sl->jg:=fun x y z m l x16 x17 x18 x19 x20=>[.bo (jW b),.cl (j3 s),.cl (.int k),.cl (.int s.place),.cl (.int s.kind),.cl (.int s.len),.cl (.int s.before),.cl (.tup (s.waits.map .int)),.cl (.tup (s.met.map .bl)),.cl (.int (s.place+1)),.cl (.int (YE s k)),x,y,z,m,l,x16,x17,x18,x19,x20]
  refine fE (sq rfl (sq rfl (sq (Z1:=R .un .un .un .un .un .un .un .un .un .un) (by
   show jp 10 _ (.bo (jW b)::.cl (j3 s)::.cl (.int k)::.cl (.int s.place)::.cl (.int s.kind)::.cl (.int s.len)::[.cl (.int s.before),.cl (.tup (s.waits.map .int)),.cl (.tup (s.met.map .bl)),.cl (.int (s.place+1)),.un,.un,.un,.un,.un,.un,.un,.un,.un,.un,.un])=_;rw[jp,er];rfl) ?_)))
  by_cases c0:s.place>=b.size
  ·rw[if_pos c0];have c0':b.size < s.place+1:=by lia
   exact Vu (ZP (by simp[R,c0']) rfl)
  ·rw[if_neg c0];have c0':¬b.size < s.place+1:=by lia
   refine sq (JA (by simp[R,c0']) rfl) ?_;rcases L with⟨L1,Lb⟩ | ⟨L1,Z',⟨x,y,z,rfl⟩,Lb⟩
   ·rw[hb0,L1];exact Vu (by rw[jD];exact Lb)
   ·rw[hb0,L1];refine sq (Z1:=R x y z .un .un .un .un .un .un .un) (by rw[jD];exact Lb) ?_;cases ht:ZG b s k with
    | true=>
     rw[ht]at e1;exact Vu (ZP (by simp[R,e1]) rfl)
    | false=>
     rw[ht]at e1;refine sq (JA (by simp[R,e1]) rfl) ?_;cases hd:YX b s k with
     | true=>
      rw[hd]at e2;exact sq (Z1:=R x y z (.cl .non) .un .un .un .un .un .un) (by simp[R]at e2⊢;simp[e2]) (Vu (ZP (by simp[R]) rfl))
     | false=>
      rw[hd]at e2;refine sq (Z1:=R x y z (.cl (.lst ((JD b s k).map .bl))) .un .un .un .un .un .un) (by simp[R]at e2⊢;simp[e2]) (sq (JA (by simp[R]) rfl) ?_);obtain⟨Z2,M1,x16,x17,x18,x19,x20,rfl⟩:=L2 x y z;rw[hwl,List.take_length,List.take_zero,uJa]at M1;have tc:(Je (jm (d2 jM (dV 9) (d2 j9 (dV 0) (dN 0)))) (jm (d2 Y3 (dV 10) (d2 j9 (d2 j9 (d2 j9 (dV 0) (dN 1)) (dV 2)) (dN 0))))) (R x y z (.cl (.lst ((JD b s k).map .bl))) .un .un .un .un .un .un)=some (vg b s k):=by
       unfold vg;by_cases c5:s.place+1=b.size
       ·simp[R,c5,ek]
       ·simp[R,c5]
      cases hc:vg b s k with
      | true=>rw[hc]at tc;exact Vu (ZP tc rfl)
      | false=>
       rw[hc]at tc;refine sq (JA tc rfl) (sq rfl (sq (by rw[jD];exact M1) ?_));simp[GP,j3,jG]
 ·rintro d hd Z ⟨x,y,z,rfl⟩;obtain⟨t,_,rfl⟩:=uVa hd;obtain⟨u,v,w⟩:=t;refine⟨_,rfl,?_⟩;rw[Za];unfold yR;simp only[ve];by_cases h1:u=k
  ·by_cases h2:v<=s.place+1
   ·by_cases h3:s.place+1<=w <;> simp[h1,h2,h3]
   ·simp[h1,h2]
  ·simp[h1]
theorem gK:∀l:List Int,yL (l.map D.int)=0
 | []=>rfl
 | x::l=>by rw[vWa,yL,gK l];rfl
theorem wO:∀l m:List Int,l.length=m.length->YR (l.map D.int) (m.map D.int)=some (decide (l=m))
 | [],[],_=>rfl
 | [],_::_,h=>by simp at h
 | _::_,[],h=>by simp at h
 | x::l,y::m,h=>by
  rw[vWa,vWa,YR,wO l m (by simpa using h),Zf];simp only[Option.bind_some,Option.some.injEq];by_cases h1:x=y <;> by_cases h2:l=m <;> simp[h1,h2]
def BW(x:Int):0<=mx x 0:=by unfold mx;split <;> lia
def Ud{xs:List Int}{i:Nat}{x y:Int}(h:y∈xs.set i x):y∈xs \/ y=x:=List.mem_or_eq_of_mem_set h
set_option tactic.hygienic true
theorem Form.next{b:Bk}{s:Sd}(X:Form b s){k:Int}(h:JX b k):Form b (jG b s k):=by
 refine⟨X.toFit.next h,fun x hx=>?_⟩;have hx:x∈JH b s k:=hx;unfold JH at hx;have hm:∀x∈s.waits.map (fun x=>mx (x - 1) 0),0<=x:=fun x hx=>by
  obtain⟨y,_,rfl⟩:=uVa hx;exact BW _
 rcases Ud hx with hx | rfl
 ·split at hx
  ·exact hm x hx
  ·rcases Ud hx with hx | rfl
   ·exact hm x hx
   ·exact BW _
 ·lia
def Form.empty(b:Bk):Form b (jb b):=⟨Fit.empty b,fun x hx=>by
 have:=List.eq_of_mem_replicate hx
 lia⟩
theorem Kp{b:Bk}{k:Int}:∀{row:List Int} {s0 s:Sd},jV b s0 row=(s,none)->Jf b s k=none->jV b s0 (row++[k])=(jG b s k,none)
 | [],s0,s,h,hb=>by
  cases h;rw[uQa,jV,hb];rfl
 | n::row,s0,s,h,hb=>by
  rw[jV]at h;rw[List.cons_append,jV];cases q:Jf b s0 n with
  | some w=>rw[q]at h;cases h
  | none=>rw[q]at h;exact Kp h hb
set_option tactic.hygienic false
set_option tactic.hygienic true in
theorem JV{b:Bk}{s s':Sd}{k:Int}(h:yh b s k=some s'):Jf b s k=none/\s'=jG b s k/\s.place < b.size:=by
 unfold yh at h;split at h
 ·cases h
 ·split at h
  ·cases h
  ·rename_i h1 h2;cases h;refine⟨?_,rfl,by lia⟩;cases q:Jf b s k with
   | none=>rfl
   | some w=>rw[q]at h2;exact vDa rfl h2
noncomputable def ra(row:List Int)(i:Nat):Int:=row.getD i 0
def Zb{row:List Int}{i:Nat}(h:i < row.length):row[i]?=some (ra row i):=by
 unfold ra;rw[uBa,uCa h];rfl
def vI{row:List Int}{i:Nat}{k:Int}(h:i < row.length)(hk:k=(i:Int)):atI (row.map D.int) k=some (.int (ra row i)):=by
 subst hk;refine Yx (by lia) ?_;rw[uAa,Int.toNat_natCast,Zb h];rfl
def runN(row:List Int):Nat->Nat
 | 0=>1
 | i+1=>if ra row (i+1)=ra row i then runN row i+1 else 1
def bp(row:List Int)(i:Nat):1<=runN row i:=by
 cases i with
 | zero=>exact wPa _
 | succ i=>unfold runN;split <;> lia
theorem qt(row:List Int):∀(i sz:Nat),1<=sz->sz<=i+1->(∀j,j < sz->ra row (i - j)=ra row i)->¬(sz<=i/\ra row (i - sz)=ra row i)->runN row i=sz
 | 0,sz,h1,h2,_,_=>by unfold runN;lia
 | i+1,sz,h1,h2,h3,h4=>by
  unfold runN;by_cases e:ra row (i+1)=ra row i
  ·rw[if_pos e];have h5:2<=sz:=by
    by_cases z:sz=1
    ·exact vDa ⟨by lia,by rw[z];exact e.symm⟩ h4
    ·lia
   have ih:=qt row i (sz - 1) (by lia) (by lia) (fun j hj=>by
    have:=h3 (j+1) (by lia);rw[show i+1 - (j+1)=i - j by lia]at this;rw[this,e]) (fun z=>h4 ⟨by lia,by rw[show i+1 - sz=i - (sz - 1) by lia,z.2,e]⟩)
   lia
  ·rw[if_neg e];by_cases z:sz=1
   ·lia
   ·exact vDa (by have:=h3 1 (by lia);rw[show i+1 - 1=i by lia]at this;exact this.symm) e
def qu(C:Addr)(row:List Int)(i:Nat)(h:i < row.length)(hl:row.length<=1000){k:Int}(hk:k=(i:Int)):zX C [.lst (row.map .int),.int k]=some (.int (runN row i)):=by
 subst hk;obtain⟨Z',e1,⟨sz,rfl,h1,h2,h3⟩,e2⟩:=Kk (dt:=yP C) (s:=Va C) (fun Z=>∃sz:Nat,Z=[.bo (.lst (row.map .int)),.bo (.int (i:Int)),.cl (.int (sz:Int))]/\1<=sz/\sz<=i+1/\∀j,j < sz->ra row (i - j)=ra row i) (fun Z=>match Z with | [_,_,.cl (.int z)]=>i+2 - z.toNat | _=>0) (fun Z=>by
   rintro⟨sz,rfl,h1,h2,h3⟩;have a0:=vI (row:=row) (k:=(i:Int)) h rfl;by_cases c1:sz<=i
   ·have c1':(sz:Int)<=(i:Int):=by lia
    have a1:=vI (row:=row) (i:=i - sz) (k:=(i:Int) - (sz:Int)) (by lia) (by lia);by_cases c2:ra row (i - sz)=ra row i
    ·right;refine⟨by simp[yP,a0,a1,c1,c2],[.bo (.lst (row.map .int)),.bo (.int (i:Int)),.cl (.int ((sz+1:Nat):Int))],by simp[Va],⟨sz+1,rfl,by lia,by lia,fun j hj=>?_⟩,?_⟩
     ·by_cases ej:j=sz
      ·rw[ej];exact c2
      ·exact h3 j (by lia)
     ·show i+2 - ((sz+1:Nat):Int).toNat < i+2 - (sz:Int).toNat
      lia
    ·left;simp[yP,a0,a1,c1,c2]
   ·left;simp[yP,c1]) (n:=20000) (Z:=[.bo (.lst (row.map .int)),.bo (.int (i:Int)),.cl (.int ((1:Nat):Int))]) ⟨1,rfl,wPa _,by lia,fun j hj=>congrArg (ra row) (by lia)⟩ (by show i+2 - ((1:Nat):Int).toNat < 20000;lia)
 have er:=qt row i sz h1 h2 h3 (fun z=>by
  have a0:=vI (row:=row) (k:=(i:Int)) h rfl;have a1:=vI (row:=row) (i:=i - sz) (k:=(i:Int) - (sz:Int)) (by lia) (by lia);simp[yP,a0,a1,z.1,z.2]at e2)
 rw[er];simp only[zX,uZ];simp at e1;simp[e1]
noncomputable def uu(row:List Int):Nat->Int->Option Nat
 | 0,_=>none
 | i+1,c=>if ra row i=c then some i else uu row i c
def Ue(b:Bk)(row:List Int)(i:Nat)(c:Int):Int:=match uu row i c with
 | none=>0
 | some j=>if j+1=i then 0 else mx ((yx b.kinds c).2.2 - ((i:Int) - 1 - (j:Int))) 0
def vh(row:List Int):Nat->T3->Bool
 | 0,_=>false
 | i+1,t=>vh row i t||yR (ra row i) ((i:Int)+1) t
theorem qv{row:List Int}:∀{i j:Nat} {c:Int},uu row i c=some j->j < i/\ra row j=c
 | 0,j,c,h=>by cases h
 | i+1,j,c,h=>by
  unfold uu at h;split at h
  ·cases h;exact⟨by lia,by assumption⟩
  ·have:=qv h;exact⟨by lia,this.2⟩
theorem kt{row:List Int}:∀{i:Nat} {c:Int},uu row i c=none->∀j,j < i->ra row j≠c
 | 0,c,h,j,hj=>by lia
 | i+1,c,h,j,hj=>by
  unfold uu at h;split at h
  ·cases h
  ·by_cases e:j=i
   ·rw[e];assumption
   ·exact kt h j (by lia)
theorem ky{row:List Int}:∀{i j:Nat} {c:Int},uu row i c=some j->∀m,j < m->m < i->ra row m≠c
 | 0,j,c,h,m,h1,h2=>by lia
 | i+1,j,c,h,m,h1,h2=>by
  unfold uu at h;split at h
  ·cases h;lia
  ·by_cases e:m=i
   ·rw[e];assumption
   ·exact ky h m h1 (by lia)
structure StOf (b:Bk) (row:List Int) (i:Nat) (s:Sd):Prop where
 pl:s.place=(i:Int)
 kd:s.kind=if i=0 then -1 else ra row (i - 1)
 ln:s.len=if i=0 then 0 else(runN row (i - 1):Int)
 bf:s.before=if i < 2 then -1 else ra row (i - 2)
 ws:∀c:Nat,c < b.kinds.length->s.waits[c]?=some (Ue b row i (c:Int))
 ms:∀(j:Nat) (t:T3),b.dues[j]?=some t->s.met[j]?=some (vh row i t)
 fo:Form b s
def StOf.empty(b:Bk)(row:List Int):StOf b row 0 (jb b):=⟨rfl,rfl,rfl,rfl,fun c hc=>by simp[jb,hc,Ue,uu],fun j t ht=>by
 have:=(uSa ht).1;simp[jb,this,vh],Form.empty b⟩
def StOf.run{b:Bk}{row:List Int}{i:Nat}{s:Sd}(R:StOf b row i s)(h0:0<=ra row i):YE s (ra row i)=(runN row i:Int):=by
 unfold YE;rw[R.kd,R.ln];cases i with
 | zero=>
  rw[if_pos rfl,if_neg (show¬(-1:Int)=ra row 0 by lia)];rfl
 | succ i=>
  have er:runN row (i+1)=if ra row (i+1)=ra row i then runN row i+1 else 1:=rfl
  simp only[Nat.add_sub_cancel,if_neg (Nat.succ_ne_zero i)];rw[er];by_cases e:ra row i=ra row (i+1)
  ·rw[if_pos e,if_pos e.symm];lia
  ·rw[if_neg e,if_neg (fun z=>e z.symm)];rfl
def aD(b:Bk)(row:List Int)(i:Nat)(s:Sd)(R:StOf b row i s)(c:Nat)(t:T3)(ht:b.kinds[c]?=some t):ut b s (ra row i) c t (Ue b row i (c:Int))=Ue b row (i+1) (c:Int):=by
 have e3:yx b.kinds (c:Int)=t:=by
  unfold yx;rw[Int.toNat_natCast,uBa,ht];rfl
 have el:uu row (i+1) (c:Int)=if ra row i=(c:Int)then some i else uu row i (c:Int):=rfl
 unfold ut Ue;rw[e3,el];by_cases e1:(c:Int)=ra row i
 ·rw[if_pos e1,if_pos (show ra row i=(c:Int) from e1.symm)];simp
 ·rw[if_neg e1,if_neg (show¬ra row i=(c:Int) from fun z=>e1 z.symm)];rw[R.kd];cases hl:uu row i (c:Int)with
  | none=>
   have hn:=kt hl;by_cases e2:i=0
   ·subst e2;simp[mx]
   ·have h2:=hn (i - 1) (by lia);rw[if_neg e2];rw[if_neg (fun z=>h2 z.symm)];simp[mx]
  | some j=>
   obtain⟨h1,h2⟩:=qv hl;have e2:¬i=0:=by lia
   rw[if_neg e2];by_cases e4:j+1=i
   ·have e5:(c:Int)=ra row (i - 1):=by rw[<-h2];congr 1;lia
    simp only[if_pos e5,if_neg (show¬j+1=i+1 by lia)];congr 1
    lia
   ·have e5:¬(c:Int)=ra row (i - 1):=fun z=>ky hl (i - 1) (by lia) (by lia) z.symm;simp only[if_neg e5,if_neg e4,if_neg (show¬j+1=i+1 by lia)];unfold mx;split <;> split <;> split <;> lia
set_option tactic.hygienic true in
theorem StOf.next{b:Bk}{row:List Int}{i:Nat}{s:Sd}(R:StOf b row i s)(h:JX b (ra row i)):StOf b row (i+1) (jG b s (ra row i)) where
 pl:=by show s.place+1=_;rw[R.pl];lia
 kd:=by simp;rfl
 ln:=by simp;exact R.run h.1
 bf:=by
  show s.kind=_;rw[R.kd];by_cases e:i=0
  ·rw[if_pos e,if_pos (by lia)]
  ·rw[if_neg e,if_neg (by lia)];rfl
 ws:=fun c hc=>by
  have hx:=R.ws c hc;have ht:b.kinds[c]?=some b.kinds[c]:=by simp[hc]
  rw[<-aD b row i s R c _ ht];exact Qt R.fo.toFit h ht hx
 ms:=fun j t ht=>by
  have:=kr (k:=ra row i) ht (R.ms j t ht);rw[R.pl]at this;exact this
 fo:=R.fo.next h
theorem wP:∀l:List Int,KK (l.map D.int)=some (l.map V.int)
 | []=>rfl
 | x::l=>by rw[vWa,KK,wP l];rfl
def bq(k:Int)(l:List Int):Qa (.int k) (l.map V.int)=decide (k∈l):=by
 unfold Qa;induction l with
 | nil=>simp
 | cons x l ih=>
  rw[vWa,List.any_cons,ih];by_cases e:x=k
  ·simp[GA,e]
  ·have e':¬k=x:=fun z=>e z.symm;simp[GA,e,e']
def Qu(neg:Bool)(k:Int)(l:List Int):UZ neg (.int k) (.lst (l.map D.int))=some (.bl (if neg then !decide (k∈l)else decide (k∈l))):=by
 simp[UZ,wP,bq]
def Qw{row:List Int}{f e:Nat}{k:Int}(he:e<=row.length):k∈(row.drop f).take (e - f)↔∃j,f<=j/\j < e/\ra row j=k:=by
 rw[List.mem_iff_getElem?];constructor
 ·rintro⟨n,hn⟩;rw[List.getElem?_take]at hn;split at hn
  ·rw[List.getElem?_drop]at hn;refine⟨f+n,by lia,by lia,?_⟩;have:=Zb (row:=row) (i:=f+n) (by lia);rw[this]at hn;exact vFa hn
  ·cases hn
 ·rintro⟨j,h1,h2,rfl⟩;refine⟨j - f,?_⟩;rw[List.getElem?_take,if_pos (by lia),List.getElem?_drop,show f+(j - f)=j by lia];exact Zb (by lia)
def qw{b:Bk}{k:Int}(h:JX b k)(ok:OkB b):fK (yx b.kinds k)=true:=by
 refine ok.ks _ ?_;unfold yx;have hk:k.toNat < b.kinds.length:=by have:=h.1;have:=h.2;lia
 rw[uBa,uCa hk];exact List.getElem_mem hk
structure NoB (b:Bk) (s:Sd) (k:Int):Prop where
 ba:Y7 b s k=false
 lo:YO b s k=false
 sh:YF b s k=false
 ea:yS s k=false
 su:Vz b s k=false
 du:YX b s k=false
 cu:vg b s k=false
def L5{b:Bk}{s:Sd}{k:Int}(h:Jf b s k=none):NoB b s k:=by
 have:=VU b s k;rw[h]at this;have this:(Y7 b s k||(ZG b s k||(YX b s k||vg b s k)))=false:=this.symm;simp only[ZG,Bool.or_eq_false_iff]at this;exact⟨this.1,this.2.1.1,this.2.1.2.1,this.2.1.2.2.1,this.2.1.2.2.2,this.2.2.1,this.2.2.2⟩
section
variable {b:Bk} {row:List Int} {i:Nat} {s:Sd} (R:StOf b row i s) (ok:OkB b) (hr:∀n∈row,JX b n) (hi:i < row.length)
include R ok hr hi
theorem br{f:Nat}(hf:(f:Int)=if (i:Int) - (yx b.kinds (ra row i)).2.2 > 0 then(i:Int) - (yx b.kinds (ra row i)).2.2 else 0)(hne:s.kind≠ra row i)(he:yS s (ra row i)=false):ra row i∉(row.drop f).take (i - f):=by
 have hk:=hr (ra row i) (wYa (Zb hi));have hw:=R.ws (ra row i).toNat (by have:=hk.1;have:=hk.2;lia)
 have ek:((ra row i).toNat:Int)=ra row i:=by have:=hk.1;lia
 rw[ek]at hw;unfold yS at he;rw[decide_eq_false hne,Bool.not_false,Bool.true_and,uBa,hw]at he;have z:Ue b row i (ra row i)=0:=by simpa using he
 rw[Qw (by lia)];rintro⟨j',g1,g2,g3⟩;unfold Ue at z;have hkd:=R.kd;cases hl:uu row i (ra row i)with
 | none=>exact kt hl j' g2 g3
 | some j=>
  rw[hl]at z;obtain⟨h1,h2⟩:=qv hl;have e4:¬j+1=i:=fun y=>hne (by
   rw[hkd,if_neg (by lia),<-h2];congr 1
   lia)
  simp only[if_neg e4]at z;have:j'<=j:=by
   by_cases y:j'<=j
   ·exact y
   ·exact vDa g3 (ky hl j' (by lia) g2)
  unfold mx at z;split at hf <;> split at z <;> lia
theorem CT(C:Addr)(hl:row.length<=1000)(B:NoB b s (ra row i)):vn C [jW b,.lst (row.map .int),.int (i:Int)]=some .non:=by
 have hk:=hr (ra row i) (wYa (Zb hi));have fk:=qw hk ok;unfold fK at fk;simp only[Bool.and_eq_true,decide_eq_true_eq]at fk;have a0:=vI (row:=row) (k:=(i:Int)) hi rfl;have e1:=qu C row i hi hl (k:=(i:Int)) rfl;have ek:=Y5 hk.1 hk.2;have hrun:=R.run hk.1;have hkd:=R.kd;have hln:=R.ln;have hlo:=B.lo;have hsh:=B.sh;unfold YE at hrun;unfold YO at hlo
 let Q:Sl->Sl->Sl->Sl->Sl->jg:=fun x5 x6 x y z=>[.bo (jW b),.bo (.lst (row.map .int)),.bo (.int (i:Int)),.cl (.int (ra row i)),.cl (.int (runN row i)),x5,x6,x,y,z]
 have fin:∀x5 x6:Sl,(j5 (jD (jz (d2 j9 (dV 0) (dN 2))) Ye (Yg C)) (je (dK .non))) (Q x5 x6 .un .un .un)=some (.rt .non):=fun x5 x6=>by
  obtain⟨Z',L,x,y,z,rfl⟩:=J6 (g:=Ye) (s:=Yg C) (items:=b.shuns.map t3) (fun _ Z=>∃x y z,Z=Q x5 x6 x y z) (by
   rintro j d Z hd ⟨x,y,z,rfl⟩;rw[uAa]at hd;obtain⟨t,hq,rfl⟩:=Option.map_eq_some_iff.mp hd;have ht:=wYa hq;have hf:=ok.hs t ht;have hn:YG s (ra row i) t=false:=by
    have:=List.any_eq_false.mp (show b.shuns.any (YG s (ra row i))=false from B.su) t ht;simpa using this
   obtain⟨u,v,w⟩:=t;unfold fS at hf;simp only[Bool.and_eq_true,decide_eq_true_eq]at hf;refine⟨_,Q x5 x6 (.cl (.int u)) (.cl (.int v)) (.cl (.int w)),rfl,JA ?_ rfl,_,_,_,rfl⟩;unfold YG at hn;by_cases h2:v=ra row i
   ·have hbf:=R.bf;by_cases h1:w=1
    ·subst h1;by_cases h3:1<=i
     ·have a1:=vI (row:=row) (i:=i - 1) (k:=(i:Int) - 1) (by lia) (by lia);rw[if_neg (by lia)]at hkd;have h3':(1:Int)<=(i:Int):=by lia
      have h3'':0 < i:=by lia
      simp[h2,hkd]at hn;simp[Q,h2,h3,h3',h3'',a1,hn]
     ·have h3':i=0:=by lia
      simp[Q,h2,h3']
    ·have h1:w=2:=by lia
     subst h1;by_cases h3:2<=i
     ·have a1:=vI (row:=row) (i:=i - 2) (k:=(i:Int) - 2) (by lia) (by lia);rw[if_neg (by lia)]at hbf;have h3':(2:Int)<=(i:Int):=by lia
      simp[h2,hbf]at hn;simp[Q,h2,h3',a1,hn]
     ·have h3':¬(2:Int)<=(i:Int):=by lia
      simp[Q,h2,h3']
   ·simp[Q,h2]) (Z:=Q x5 x6 .un .un .un) ⟨_,_,_,rfl⟩
  exact sq L rfl
 have c1:¬(yx b.kinds (ra row i)).2.1 < (runN row i:Int):=fun c=>by
  by_cases z:s.kind=ra row i
  ·rw[if_pos z]at hrun;rw[decide_eq_true z,Bool.true_and,decide_eq_false_iff_not]at hlo
   lia
  ·rw[if_neg z]at hrun
   lia
 refine fE (sq (by simp[a0] <;> rfl) (sq (Z1:=Q .un .un .un .un .un) (by simp[e1] <;> rfl) (sq (JA (by simp[Q,ek,c1]) rfl) ?_)));by_cases c2:s.kind=ra row i
 ·have r1:¬(runN row i:Int)=1:=fun z=>by
   rw[if_pos c2]at hrun;by_cases e:i=0
   ·rw[if_pos e]at hkd;have:=hk.1;lia
   ·rw[if_neg e]at hln;have:=bp row (i - 1);lia
  have r1':¬runN row i=1:=fun z=>r1 (by lia);exact sq (JA (by by_cases c3:0 < i <;> simp[Q,c3,r1,r1']) rfl) (sq (JA (by simp[Q,r1,r1']) rfl) (fin _ _))
 ·have r1:runN row i=1:=by rw[if_neg c2]at hrun;lia
  obtain⟨f,hf⟩:∃f:Nat,(f:Int)=if (i:Int) - (yx b.kinds (ra row i)).2.2 > 0 then(i:Int) - (yx b.kinds (ra row i)).2.2 else 0:=⟨(if (i:Int) - (yx b.kinds (ra row i)).2.2 > 0 then(i:Int) - (yx b.kinds (ra row i)).2.2 else 0).toNat,by split <;> lia⟩
  have hea:=br R ok hr hi hf c2 B.ea;have hfi:f<=i:=by split at hf <;> lia
  have ec:Jp (row.map D.int) (some (f:Int)) (some (i:Int))=((row.drop f).take (i - f)).map D.int:=by
   rw[Zt,kq row f i (by lia) (by lia)]
  have ein:=Qu false (ra row i) ((row.drop f).take (i - f));rw[decide_eq_false hea]at ein
  have emx:vP [.int 0,.int ((i:Int) - (yx b.kinds (ra row i)).2.2)]=some (.int (f:Int)):=by rw[hf];rfl
  generalize (row.drop f).take (i - f)=cut at ec ein
  by_cases c3:i=0
  ·exact sq (JA (by simp[Q,c3]) rfl) (sq (ZP (by simp[Q,r1]) (sq (Z1:=Q .un (.cl (.int (f:Int))) .un .un .un) (by simp[-vP,Q,ek,emx]) (JA (by simp[-UZ,Q,ec,ein]) rfl))) (fin _ _))
  ·rw[if_neg c3]at hkd hln;have a1:=vI (row:=row) (i:=i - 1) (k:=(i:Int) - 1) (by lia) (by lia);have hk1:=hr (ra row (i - 1)) (wYa (Zb (by lia)));have ek1:=Y5 hk1.1 hk1.2;have e1':=qu C row (i - 1) (by lia) hl (k:=(i:Int) - 1) (by lia);have c3':0 < i:=by lia
   have c4:¬(runN row (i - 1):Int) < (yx b.kinds (ra row (i - 1))).1:=by
    unfold YF at hsh;have n1:¬s.kind=-1:=by rw[hkd];have:=hk1.1;lia
    rw[decide_eq_false c2,decide_eq_false n1,hln,hkd]at hsh;exact of_decide_eq_false hsh
   exact sq (ZP (by simp[Q,c3',r1]) (sq (Z1:=Q (.cl (t3 (yx b.kinds (ra row (i - 1))))) .un .un .un .un) (by simp[Q,a1,ek1]) (JA (by simp[Q,e1',c4]) rfl))) (sq (ZP (by simp[Q,r1]) (sq (Z1:=Q (.cl (t3 (yx b.kinds (ra row (i - 1))))) (.cl (.int (f:Int))) .un .un .un) (by simp[-vP,Q,ek,emx]) (JA (by simp[-UZ,Q,ec,ein]) rfl))) (fin _ _))
end
theorem qx(row:List Int)(t:T3):∀n:Nat,vh row n t=true↔∃j,j < n/\yR (ra row j) ((j:Int)+1) t=true
 | 0=>by simp[vh]
 | n+1=>by
  unfold vh;rw[Bool.or_eq_true,qx row t n];constructor
  ·rintro(⟨j,h1,h2⟩ | h)
   ·exact⟨j,by lia,h2⟩
   ·exact⟨n,by lia,h⟩
  ·rintro⟨j,h1,h2⟩;by_cases e:j=n
   ·subst e;exact .inr h2
   ·exact .inl ⟨j,by lia,h2⟩
def CU{row:List Int}{i f:Nat}{t:T3}(hi:i < row.length)(hf:(f:Int)=t.2.1 - 1)(hl:t.2.2=(i:Int)+1):vh row (i+1) t=decide (t.1∈(row.drop f).take (i+1 - f)):=by
 have key:vh row (i+1) t=true↔t.1∈(row.drop f).take (i+1 - f):=by
  rw[qx,Qw (by lia)];constructor
  ·rintro⟨j,h1,h2⟩;unfold yR at h2;simp only[Bool.and_eq_true,decide_eq_true_eq]at h2;exact⟨j,by lia,h1,h2.1.symm⟩
  ·rintro⟨j,h1,h2,h3⟩;refine⟨j,h2,?_⟩;unfold yR;simp only[Bool.and_eq_true,decide_eq_true_eq];exact⟨h3.symm,by lia,by lia⟩
 by_cases z:t.1∈(row.drop f).take (i+1 - f)
 ·rw[decide_eq_true z,key.mpr z]
 ·rw[decide_eq_false z];cases h:vh row (i+1) t with
  | true=>exact vDa (key.mp h) z
  | false=>rfl
def bt(row:List Int)(i:Nat)(t:T3):Bool:=decide (t.2.2=(i:Int)+1)&&!vh row (i+1) t
def CV{b:Bk}{row:List Int}{i:Nat}{s:Sd}(R:StOf b row i s):List.zip b.dues (JD b s (ra row i))=b.dues.map fun t=>(t,vh row (i+1) t):=by
 apply List.ext_getElem?;intro j;rw[uAa,List.zip,List.getElem?_zipWith];cases h:b.dues[j]? with
 | none=>rfl
 | some t=>
  have:=kr (k:=ra row i) h (R.ms j t h);rw[R.pl]at this;rw[this];rfl
def Fh{b:Bk}{row:List Int}{i:Nat}{s:Sd}(R:StOf b row i s):YX b s (ra row i)=b.dues.any (bt row i):=by
 unfold YX;rw[CV R,List.any_map,R.pl];rfl
section
variable {b:Bk} {row:List Int} {i:Nat} {s:Sd} (C:Addr) (ok:OkB b) (hr:∀n∈row,JX b n) (hl:row.length<=1000)
include ok hr hl
theorem bu(R:StOf b row i s)(hi:i < row.length)(B:NoB b s (ra row i)):gD C [jW b,.lst (row.map .int),.int (i:Int)]=some .non:=by
 have hk:=hr (ra row i) (wYa (Zb hi));have a0:=vI (row:=row) (k:=(i:Int)) hi rfl;have e1:=qu C row i hi hl (k:=(i:Int)) rfl;have ek:=Y5 hk.1 hk.2;have hrun:=R.run hk.1;have en:=CT R ok hr hi C hl B;obtain⟨Z',L,x,rfl⟩:=J6 (g:=uj) (s:=uk C) (items:=b.bars.map t3) (fun _ Z=>∃x,Z=[.bo (jW b),.bo (.lst (row.map .int)),.bo (.int (i:Int)),.cl (.int (ra row i)),x,.un,.un]) (by
  rintro j d Z hd ⟨x,rfl⟩;rw[uAa]at hd;obtain⟨t,hq,rfl⟩:=Option.map_eq_some_iff.mp hd;have hn:yR (ra row i) ((i:Int)+1) t=false:=by
   have h:=B.ba;unfold Y7 at h;rw[R.pl]at h;simpa using List.any_eq_false.mp h t (wYa hq)
  obtain⟨u,v,w⟩:=t;refine⟨_,_,rfl,JA ?_ rfl,_,rfl⟩;unfold yR at hn;by_cases h1:u=ra row i
  ·by_cases h2:v<=(i:Int)+1
   ·simp[h1,h2]at hn;have h3:¬(i:Int)+1<=w:=by lia
    simp[h1,h2,h3]
   ·simp[h1,h2]
  ·simp[h1]) (Z:=[.bo (jW b),.bo (.lst (row.map .int)),.bo (.int (i:Int)),.cl (.int (ra row i)),.un,.un,.un]) ⟨.un,rfl⟩
 obtain⟨Z',M,y,rfl⟩:=J6 (g:=ul) (s:=um C) (items:=b.dues.map t3) (fun _ Z=>∃y,Z=[.bo (jW b),.bo (.lst (row.map .int)),.bo (.int (i:Int)),.cl (.int (ra row i)),x,.cl .non,y]) (by
  rintro j d Z hd ⟨y,rfl⟩;rw[uAa]at hd;obtain⟨t,hq,rfl⟩:=Option.map_eq_some_iff.mp hd;have ht:=wYa hq;have hn:bt row i t=false:=by
   have h:=B.du;rw[Fh R]at h;simpa using List.any_eq_false.mp h t ht
  have hf:=ok.ds t ht;unfold fB at hf;simp only[Bool.and_eq_true,decide_eq_true_eq]at hf;unfold bt at hn;refine⟨_,_,rfl,JA ?_ rfl,_,rfl⟩;by_cases h1:t.2.2=(i:Int)+1
  ·obtain⟨f,hf'⟩:∃f:Nat,(f:Int)=t.2.1 - 1:=⟨(t.2.1 - 1).toNat,by lia⟩
   have hm:=CU hi hf' h1;have ec:Jp (row.map D.int) (some (t.2.1 - 1)) (some ((i:Int)+1))=((row.drop f).take (i+1 - f)).map D.int:=by
    rw[<-hf',show(i:Int)+1=((i+1:Nat):Int) by lia,Zt,kq row f (i+1) (by lia) (by lia)]
   have ein:=Qu true t.1 ((row.drop f).take (i+1 - f));rw[<-hm]at ein
   generalize (row.drop f).take (i+1 - f)=cut at ec ein
   rw[decide_eq_true h1,Bool.true_and]at hn;have hn:vh row (i+1) t=true:=by simpa using hn
   rw[hn]at ein
   simp[-UZ,h1,ec,ein]
  ·simp[h1]) (Z:=[.bo (jW b),.bo (.lst (row.map .int)),.bo (.int (i:Int)),.cl (.int (ra row i)),x,.cl .non,.un]) ⟨.un,rfl⟩
 have hc:=B.cu;unfold vg at hc;rw[R.pl,hrun]at hc;refine fE (sq (by simp[a0] <;> rfl) ?_);refine sq L (sq (Z1:=[.bo (jW b),.bo (.lst (row.map .int)),.bo (.int (i:Int)),.cl (.int (ra row i)),x,.cl .non,.un]) (by simp[en]) ?_);refine sq (JA rfl rfl) (sq M (sq (JA ?_ rfl) rfl));by_cases c1:(i:Int)+1=b.size
 ·have c2:¬(runN row i:Int) < (yx b.kinds (ra row i)).1:=by
   rw[decide_eq_true c1,Bool.true_and]at hc;exact of_decide_eq_false hc
  simp[e1,ek,c1,c2]
 ·simp[c1]
omit ok hr hl in
theorem bv(hi:i < row.length):jV b s (row.drop i)=match Jf b s (ra row i)with
  | some w=>(s,some w)
  | none=>jV b (jG b s (ra row i)) (row.drop (i+1)):=by
 have e:row.drop i=ra row i::row.drop (i+1):=by
  have h:=Zb hi;rw[List.drop_eq_getElem_cons hi];rw[uCa hi]at h;rw[Option.some.inj h]
 rw[e,jV];all_goals (cases Jf b s (ra row i) <;> rfl)
omit ok hr hl in
theorem Uf{n i:Nat}{d:D}(h:(Jd 0 n)[i]?=some d):i < n/\d=.int (i:Int):=by
 unfold Jd at h;rw[uAa]at h;by_cases z:i < n
 ·rw[List.getElem?_range z]at h;refine⟨z,?_⟩;have:=vFa h;rw[<-this];simp
 ·rw[List.getElem?_eq_none (by simp;lia)]at h;cases h
set_option tactic.hygienic true in
theorem xU{s':Sd}(hw:jV b (jb b) row=(s',none)):Uu C [jW b,.lst (row.map .int)]=some .non:=by
 obtain⟨Z',L,x,y,rfl,_⟩:=J6 (g:=Vx) (s:=Vy C) (items:=Jd 0 row.length) (fun i Z=>∃x y,Z=[.bo (jW b),.bo (.lst (row.map .int)),x,y]/\∃s,StOf b row i s/\jV b s (row.drop i)=(s',none)) (by
  rintro i d Z hd ⟨x,y,rfl,s,R,hw⟩;obtain⟨hi,rfl⟩:=Uf hd;have hk:=hr (ra row i) (wYa (Zb hi));rw[bv hi]at hw;cases hb:Jf b s (ra row i)with
  | some w=>rw[hb]at hw;cases hw
  | none=>
   rw[hb]at hw;have e:=bu C ok hr hl R hi (L5 hb);exact⟨_,[.bo (jW b),.bo (.lst (row.map .int)),.cl (.int (i:Int)),.cl .non],rfl,sq (by simp[e] <;> rfl) (JA rfl rfl),_,_,rfl,_,R.next hk,hw⟩) (Z:=[.bo (jW b),.bo (.lst (row.map .int)),.un,.un]) ⟨_,_,rfl,jb b,StOf.empty b row,hw⟩
 have z1:Ju (row.length:Int)=true:=yv (by lia) (by lia);exact fE (sq (by simp[z1,L] <;> rfl) rfl)
end
def Q0(C:Addr)(b:Bk)(row:List Int)(ok:OkB b)(h:xR b row){s:Sd}(hw:jV b (jb b) row=(s,none)):uY C [jj C b,.lst (row.map .int)]=some (j3 s):=by
 have e1:=gH C b row ok h;have e2:=aA C b row ok h.1;rw[hw]at e2;simp only[uY,uX];simp[e1,e2,oS]
theorem kz:∀l:List Bool,yL (l.map D.bl)=0
 | []=>rfl
 | x::l=>by rw[vWa,yL,kz l];rfl
theorem qy:∀l m:List Bool,l.length=m.length->YR (l.map D.bl) (m.map D.bl)=some (decide (l=m))
 | [],[],_=>rfl
 | [],_::_,h=>by simp at h
 | _::_,[],h=>by simp at h
 | x::l,y::m,h=>by
  rw[vWa,vWa,YR,qy l m (by simpa using h),Zf];simp only[Option.bind_some,Option.some.injEq];by_cases h1:x=y <;> by_cases h2:l=m <;> simp[h1,h2]
noncomputable def wa(s t:Sd):Bool:=(s.place==t.place)&&((s.kind==t.kind)&&((s.len==t.len)&&((s.before==t.before)&&(decide (s.waits=t.waits)&&decide (s.met=t.met)))))
def bw{s t:Sd}:wa s t=true↔s=t:=by
 unfold wa;simp only[Bool.and_eq_true,beq_iff_eq,decide_eq_true_eq];constructor
 ·rintro⟨h1,h2,h3,h4,h5,h6⟩;obtain⟨a1,a2,a3,a4,a5,a6⟩:=s;obtain⟨b1,b2,b3,b4,b5,b6⟩:=t;simp only at h1 h2 h3 h4 h5 h6;subst h1 h2 h3 h4 h5 h6;rfl
 ·rintro rfl;exact⟨rfl,rfl,rfl,rfl,rfl,rfl⟩
def Fi{s t:Sd}(hw:s.waits.length=t.waits.length)(hm:s.met.length=t.met.length):Zf (j3 s) (j3 t)=some (wa s t):=by
 unfold j3 wa;simp only[Zf,YR,wO _ _ hw,qy _ _ hm,Option.bind_some,List.length_cons,List.length_nil,List.length_map,hw,hm,beq_self_eq_true,Bool.and_true]
def Fj(s:Sd):dep (j3 s)<=20:=by
 simp[j3,dep,yL,gK,kz]
def iB{s t:Sd}(hw:s.waits.length=t.waits.length)(hm:s.met.length=t.met.length):jM (j3 s) (j3 t)=some (.bl (wa s t)):=by
 have q:UY (j3 s) (j3 t)=true:=rfl;unfold jM KJ;rw[if_pos q,if_pos ⟨q,Fj s⟩,Fi hw hm];rfl
def xV(C:Addr)(b:Bk)(s:Sd)(k:Int)(ok:OkB b)(X:Fit b s)(h:JX b k):gA C [jj C b,j3 s,.int k]=some (GP (yh b s k)):=by
 have e1:=wN C b s k ok X h;have e2:=qk C b s k ok X h;unfold yh;simp only[gA,gz];by_cases c:s.place>=b.size
 ·have c':b.size<=s.place:=c;rw[if_pos c];simp[c',GP]
 ·have c':¬b.size<=s.place:=c;rw[if_neg c];cases hb:Jf b s k with
  | none=>rw[hb]at e1;simp[c',e1,e2,oS,GP]
  | some w=>rw[hb]at e1;simp[c',e1,oS,GP]
noncomputable instance:DecidableEq Sd:=fun _ _=>Classical.propDecidable _
noncomputable def kB(b:Bool):KD:=.i (if b then 1 else 0)
noncomputable def kS(s:Sd):KD:=.t [.i s.place,.i s.kind,.i s.len,.i s.before,.t (s.waits.map .i),.t (s.met.map kB)]
theorem qz:∀l:List Int,zd (l.map D.int)=some (l.map KD.i)
 | []=>by rw[uJa,zd];rfl
 | x::l=>by rw[vWa,zd,yW,qz l];rfl
theorem Qx:∀l:List Bool,zd (l.map D.bl)=some (l.map kB)
 | []=>by rw[uJa,zd];rfl
 | x::l=>by rw[vWa,zd,yW,Qx l];rfl
theorem Qy:∀l:List Int,yq (l.map KD.i)=0
 | []=>rfl
 | x::l=>by rw[vWa,yq,Qy l];rfl
theorem Qz:∀l:List Bool,yq (l.map kB)=0
 | []=>rfl
 | x::l=>by rw[vWa,yq,Qz l];rfl
def Zc(s:Sd):J8 (j3 s)=some (kS s):=by
 have e:yW (j3 s)=some (kS s):=by
  unfold j3 kS;simp[yW,zd,qz,Qx]
 have d:(kS s).dep<=8:=by
  unfold kS;simp[KD.dep,yq,Qy,Qz]
 show(yW (j3 s)).bind _=_;rw[e];simp[d]
theorem Ug{α β:Type}{f:α->β}(h:∀a b,f a=f b->a=b):∀{l m:List α},l.map f=m.map f->l=m
 | [],[],_=>rfl
 | [],_::_,e=>by cases e
 | _::_,[],e=>by cases e
 | a::l,b::m,e=>by
  rw[vWa,vWa]at e;injection e with e1 e2;rw[h _ _ e1,Ug h e2]
def Kq{s t:Sd}(h:kS s=kS t):s=t:=by
 unfold kS at h;simp only[KD.t.injEq,List.cons.injEq,KD.i.injEq]at h;obtain⟨h1,h2,h3,h4,h5,h6,_⟩:=h;have e5:=Ug (fun a b e=>by injection e) h5;have e6:=Ug (fun a b e=>by cases a <;> cases b <;> first | rfl | (unfold kB at e;simp at e)) h6;obtain⟨a1,a2,a3,a4,a5,a6⟩:=s;obtain⟨b1,b2,b3,b4,b5,b6⟩:=t;simp only at h1 h2 h3 h4 e5 e6;subst h1 h2 h3 h4 e5 e6;rfl
theorem Gq:∀l:List Sd,jI (l.map j3)=some (l.map kS)
 | []=>rfl
 | s::l=>by rw[vWa,jI,Zc,Gq l];rfl
def Zd{l:List Sd}{s:Sd}:kS s∈l.map kS↔s∈l:=by
 rw[List.mem_map];constructor
 ·rintro⟨t,h,e⟩;rw[<-Kq e];exact h
 ·exact fun h=>⟨s,h,rfl⟩
theorem QA{f:Sd->D}{s:Sd}:∀{l:List Sd},s∈l->JT (l.map kS) (l.map f) (kS s)=some (f s)
 | [],h=>by cases h
 | t::l,h=>by
  rw[vWa,vWa,JT];by_cases e:t=s
  ·rw[if_pos (by rw[e]),e]
  ·rw[if_neg (fun z=>e (Kq z))];rcases uTa h with z | z
   ·exact vDa z.symm e
   ·exact QA z
def ZU{f:Sd->D}{s:Sd}{l:List Sd}(h:s∈l):JS (.dct (l.map j3) (l.map f)) (j3 s)=some (f s):=by
 show(J8 (j3 s)).bind _=_;rw[Zc];show(jI (l.map j3)).bind _=_;rw[Gq];exact QA h
theorem qA{f:Sd->D}{s:Sd}:∀l:List Sd,U_ (l.map kS) (l.map f) (kS s) (f s)=l.map f
 | []=>by rw[uJa,uJa,U_];all_goals (intros;contradiction)
 | t::l=>by
  rw[vWa,vWa,U_,qA l];by_cases e:t=s
  ·rw[if_pos (by rw[e]),e]
  ·rw[if_neg (fun z=>e (Kq z))]
noncomputable def jH(l:List Sd)(s:Sd):List Sd:=if s∈l then l else l++[s]
def uv{i:Nat}{q:Option Addr}{l:List Sd}{f:Sd->D}{s:Sd}{dk de:DE}{Z:jg}(h:Z[i]?=some (.ow q (.dct (l.map j3) (l.map f))))(hd:de Z=some (f s))(hk:dk Z=some (j3 s))(hl:l.length < sizeLine):
  vT i dk de Z=some (.nx (Z.set i (.ow q (.dct ((jH l s).map j3) ((jH l s).map f))))):=by
 rw[vT,h];simp only[hd,hk,Option.bind_some,Zc,Gq,List.length_map,hl,if_true];unfold zg zM jH;by_cases e:s∈l
 ·rw[if_pos (Zd.mpr e),if_pos (Zd.mpr e),if_pos e,qA]
 ·rw[if_neg (fun z=>e (Zd.mp z)),if_neg (fun z=>e (Zd.mp z)),if_neg e,uDa,uDa];rfl
def kC{l:List Sd}{s t:Sd}:t∈jH l s↔t∈l \/ t=s:=by
 unfold jH;split
 ·constructor
  ·exact .inl
  ·rintro(h | rfl)
   ·exact h
   ·assumption
 ·simp
def Uh(l:List Sd)(s:Sd):l.length<=(jH l s).length/\(jH l s).length<=l.length+1:=by
 unfold jH;split <;> simp
set_option tactic.hygienic true in
theorem CW{l:List Sd}{s:Sd}(h:l.Nodup):(jH l s).Nodup:=by
 unfold jH;split
 ·exact h
 ·rename_i e;exact List.nodup_append.mpr ⟨h,by simp,fun a ha b hb z=>by simp at hb;rw[hb]at z;exact e (z▸ha)⟩
theorem YH{t:Sd}:∀{xs l:List Sd},t∈xs.foldl jH l↔t∈l \/ t∈xs
 | [],l=>by simp
 | x::xs,l=>by
  rw[List.foldl_cons,YH,kC,List.mem_cons];constructor
  ·rintro((h | h) | h)
   ·exact .inl h
   ·exact .inr (.inl h)
   ·exact .inr (.inr h)
  ·rintro(h | h | h)
   ·exact .inl (.inl h)
   ·exact .inl (.inr h)
   ·exact .inr h
theorem Zu:∀(xs l:List Sd),l.length<=(xs.foldl jH l).length/\(xs.foldl jH l).length<=l.length+xs.length
 | [],l=>by simp
 | x::xs,l=>by
  have h1:=Zu xs (jH l x);have h2:=Uh l x;rw[List.foldl_cons,vXa]
  lia
theorem QB:∀{xs l:List Sd},l.Nodup->(xs.foldl jH l).Nodup
 | [],_,h=>h
 | x::xs,l,h=>QB (xs:=xs) (CW h)
def vt(b:Bk)(s:Sd)(n:Nat):List (Int×Sd):=(List.range n).filterMap fun(c:Nat)=>(yh b s (c:Int)).map fun t=>((c:Int),t)
def jh(b:Bk)(s:Sd):List (Int×Sd):=vt b s b.kinds.length
def pD(p:Int×Sd):D:=.tup [.int p.1,j3 p.2]
def kD(b:Bk)(s:Sd)(n:Nat):vt b s (n+1)=vt b s n++(match yh b s (n:Int)with | some t=>[((n:Int),t)] | none=>[]):=by
 unfold vt;rw[List.range_succ,List.filterMap_append];cases e:yh b s (n:Int) <;> simp[e]
def Gr(b:Bk)(s:Sd)(n:Nat):(vt b s n).length<=n:=by
 unfold vt;exact wSa (List.length_filterMap_le _ _) (by simp)
def yo{b:Bk}{s:Sd}{n:Nat}{p:Int×Sd}(h:p∈vt b s n):∃c:Nat,c < n/\p.1=(c:Int)/\yh b s (c:Int)=some p.2:=by
 unfold vt at h;obtain⟨c,hc,e⟩:=List.mem_filterMap.mp h;obtain⟨t,e1,rfl⟩:=Option.map_eq_some_iff.mp e;exact⟨c,List.mem_range.mp hc,rfl,e1⟩
def kE(C:Addr)(b:Bk)(s:Sd)(ok:OkB b)(X:Fit b s):Yy C [jj C b,j3 s]=some (.lst ((jh b s).map pD)):=by
 have k2:=ok.k2;have z1:Ju (b.kinds.length:Int)=true:=yv (by lia) (by lia);obtain⟨Z1,L1,y3,y4,rfl⟩:=J6 (g:=ui) (s:=YM C) (items:=Jd 0 b.kinds.length) (fun i Z=>∃y3 y4:Sl,Z=[.bo (jj C b),.bo (j3 s),.ow none (.lst ((vt b s i).map pD)),y3,y4]) (by
  rintro i d Z hd ⟨y3,y4,rfl⟩;obtain⟨hi,rfl⟩:=Uf hd;have e1:=xV C b s (i:Int) ok X ⟨by lia,by lia⟩;have hl:=Gr b s i;have z3:(vt b s i).length < sizeLine:=jo (by lia);cases hs:yh b s (i:Int)with
  | none=>
   rw[hs]at e1;refine⟨_,_,rfl,?_,.cl (.int (i:Int)),.cl .non,rfl⟩;rw[kD,hs,uFa];simp only[YM];simp[e1,GP]
  | some t=>
   rw[hs]at e1;refine⟨_,_,rfl,?_,.cl (.int (i:Int)),.cl (j3 t),rfl⟩;rw[kD,hs,uDa];have en:Vm (j3 t)=false:=rfl;simp only[YM];simp[e1,GP,en,z3,pD]) (Z:=[.bo (jj C b),.bo (j3 s),.ow none (.lst ((vt b s 0).map pD)),.un,.un]) ⟨.un,.un,rfl⟩
 rw[show(Jd 0 b.kinds.length).length=b.kinds.length by simp[Jd]]at L1;simp only[Yy,V6];have e0:(vt b s 0).map pD=[]:=rfl;rw[e0]at L1;simp[z1,L1];rfl
def zm(b:Bk)(ss:List Sd):List Sd:=(ss.flatMap fun s=>(jh b s).map (·.2)).foldl jH []
def jc(b:Bk)(s:Sd):Nat->List Sd
 | 0=>[s]
 | n+1=>zm b (jc b s n)
def yd(b:Bk)(s:Sd):D:=.lst ((jh b s).map pD)
def JW(b:Bk)(ss:List Sd):D:=.dct (ss.map j3) (ss.map (yd b))
noncomputable def VA:Sd->D:=fun _=>.bl true
set_option tactic.hygienic true in
theorem yF{b:Bk}{s t:Sd}{c:Nat}(X:Fit b s)(hc:c < b.kinds.length)(h:yh b s (c:Int)=some t):Fit b t/\t.place=s.place+1/\s.place < b.size:=by
 obtain⟨_,rfl,h3⟩:=JV h;exact⟨X.next ⟨by lia,by lia⟩,rfl,h3⟩
def ye{b:Bk}{ss:List Sd}{t:Sd}:t∈zm b ss↔∃s∈ss,∃p∈jh b s,p.2=t:=by
 unfold zm;rw[YH];simp[List.mem_flatMap]
def CY(b:Bk)(ss:List Sd):(zm b ss).Nodup:=QB List.nodup_nil
theorem qB(b:Bk)(s:Sd):∀n,(jc b s n).Nodup
 | 0=>by simp[jc]
 | n+1=>CY b _
theorem JQ{b:Bk}{s:Sd}(X:Fit b s):∀n,∀t∈jc b s n,Fit b t/\t.place=s.place+n/\(0 < n->t.place<=b.size)
 | 0,t,h=>by
  simp[jc]at h;subst h;exact⟨X,by simp,fun z=>vDa z (by lia)⟩
 | n+1,t,h=>by
  obtain⟨u,hu,p,hp,rfl⟩:=ye.mp h;obtain⟨c,hc,e1,e2⟩:=yo hp;obtain⟨f1,f2,f3⟩:=JQ X n u hu;obtain⟨g1,g2,g3⟩:=yF f1 hc e2;exact⟨g1,by rw[g2,f2];lia,fun _=>by rw[g2];lia⟩
def CZ{b:Bk}{s:Sd}(X:Fit b s){n:Nat}(h:b.size < s.place+n):jc b s (n+1)=[]:=by
 rw[List.eq_nil_iff_forall_not_mem];intro t ht;have:=(JQ X (n+1) t ht).2;have h1:=this.1;have h2:=this.2 (by lia)
 lia
theorem iG(C:Addr)(b:Bk)(r0 r1 r2 r3 r4 r6:Sl)(ps:List (Int×Sd))(l:List Sd)(hl:(l++ps.map (·.2)).length < 10000000 \/ ((ps.map (·.2)).foldl jH l).length < 10000000)(x7 x8:Sl):∃y7 y8:Sl,jU zR (yz C) (ps.map pD) [r0,r1,r2,r3,r4,.ow none (.dct (l.map j3) (l.map VA)),r6,x7,x8]=
  some (.nx [r0,r1,r2,r3,r4,.ow none (.dct (((ps.map (·.2)).foldl jH l).map j3) (((ps.map (·.2)).foldl jH l).map VA)),r6,y7,y8]):=by
 induction ps generalizing l x7 x8 with
 | nil=>exact⟨x7,x8,rfl⟩
 | cons p ps ih=>
  have hlen:l.length < sizeLine:=by
   have:=Zu ((p::ps).map (·.2)) l;have e:(10000000:Nat) < sizeLine:=by decide
   rcases hl with hl | hl
   ·simp at hl;lia
   ·lia
  have e1:yz C [r0,r1,r2,r3,r4,.ow none (.dct (l.map j3) (l.map VA)),r6,.cl (.int p.1),.cl (j3 p.2)]=some (.nx [r0,r1,r2,r3,r4,.ow none (.dct ((jH l p.2).map j3) ((jH l p.2).map VA)),r6,.cl (.int p.1),.cl (j3 p.2)]):=by
   unfold yz;rw[uv (l:=l) (f:=VA) (s:=p.2) (q:=none) rfl rfl rfl hlen];rfl
  obtain⟨y7,y8,e2⟩:=ih (jH l p.2) (by
   have:=Uh l p.2;rcases hl with hl | hl
   ·left;simp at hl⊢;lia
   ·right;exact hl) (.cl (.int p.1)) (.cl (j3 p.2))
  refine⟨y7,y8,?_⟩;rw[vWa,vWa,List.foldl_cons,jU];have e0:zR (pD p) [r0,r1,r2,r3,r4,.ow none (.dct (l.map j3) (l.map VA)),r6,x7,x8]=some [r0,r1,r2,r3,r4,.ow none (.dct (l.map j3) (l.map VA)),r6,.cl (.int p.1),.cl (j3 p.2)]:=rfl;rw[e0];show(yz C _).bind _=_;rw[e1];exact e2
def bx(xs ys l:List Sd):(xs.foldl jH l).length<=((xs++ys).foldl jH l).length:=by
 rw[List.foldl_append];exact(Zu ys _).1
theorem iH(C:Addr)(b:Bk)(ok:OkB b)(r1 r2 r3:Sl)(all:List Sd)(hfit:∀t∈all,Fit b t)(hnd:all.Nodup)(hb:(zm b all).length < 10000000)(ha:all.length < 10000000):∀(ss pre:List Sd),pre++ss=all->∀x6 x7 x8:Sl,∃y6 y7 y8:Sl,
  jU zS (yA C) (ss.map j3) [.bo (jj C b),r1,r2,r3,.ow none (.dct (pre.map j3) (pre.map (yd b))),.ow none (.dct (((pre.flatMap fun s=>(jh b s).map (·.2)).foldl jH []).map j3) (((pre.flatMap fun s=>(jh b s).map (·.2)).foldl jH []).map VA)),x6,x7,x8]=
  some (.nx [.bo (jj C b),r1,r2,r3,.ow none (.dct (all.map j3) (all.map (yd b))),.ow none (.dct ((zm b all).map j3) ((zm b all).map VA)),y6,y7,y8]):=by
 intro ss;induction ss with
 | nil=>
  intro pre e x6 x7 x8;rw[uFa]at e;subst e;exact⟨x6,x7,x8,rfl⟩
 | cons s ss ih=>
  intro pre e x6 x7 x8;have hs:s∈all:=by rw[<-e];simp
  have X:=hfit s hs;have e1:=kE C b s ok X;have hp:pre.length < sizeLine:=by
   have:pre.length<=all.length:=by rw[<-e];simp
   have e:(10000000:Nat) < sizeLine:=by decide
   lia
  have hins:jH pre s=pre++[s]:=by
   unfold jH;rw[if_neg];intro z;rw[<-e,List.nodup_append]at hnd;exact hnd.2.2 s z s wNa rfl
  have hf:(((jh b s).map (·.2)).foldl jH ((pre.flatMap fun s=>(jh b s).map (·.2)).foldl jH []))=(((pre++[s]).flatMap fun s=>(jh b s).map (·.2)).foldl jH []):=by
   rw[List.flatMap_append,List.foldl_append];simp
  obtain⟨y7,y8,e2⟩:=iG C b (.bo (jj C b)) r1 r2 r3 (.ow none (.dct ((pre++[s]).map j3) ((pre++[s]).map (yd b)))) (.cl (j3 s)) (jh b s) ((pre.flatMap fun s=>(jh b s).map (·.2)).foldl jH []) (by
   right;rw[hf];refine wRa ?_ hb;have e9:all=(pre++[s])++ss:=by rw[<-e];simp
   unfold zm;rw[e9,List.flatMap_append (xs:=pre++[s]) (ys:=ss)];exact bx _ _ _) x7 x8
  rw[hf]at e2;obtain⟨z6,z7,z8,e3⟩:=ih (pre++[s]) (by rw[<-e];simp) (.cl (j3 s)) y7 y8;refine⟨z6,z7,z8,?_⟩;rw[vWa,jU];show(yA C _).bind _=_;have e4:yA C [.bo (jj C b),r1,r2,r3,.ow none (.dct (pre.map j3) (pre.map (yd b))),.ow none (.dct (((pre.flatMap fun s=>(jh b s).map (·.2)).foldl jH []).map j3) (((pre.flatMap fun s=>(jh b s).map (·.2)).foldl jH []).map VA)),.cl (j3 s),x7,x8]=
    some (.nx [.bo (jj C b),r1,r2,r3,.ow none (.dct ((pre++[s]).map j3) ((pre++[s]).map (yd b))),.ow none (.dct ((((pre++[s]).flatMap fun s=>(jh b s).map (·.2)).foldl jH []).map j3) ((((pre++[s]).flatMap fun s=>(jh b s).map (·.2)).foldl jH []).map VA)),.cl (j3 s),y7,y8]):=by
   unfold yA;rw[j5,uv (l:=pre) (f:=yd b) (s:=s) (q:=none) rfl (by simp[e1,yd]) rfl hp,hins];have g:JS (.dct ((pre++[s]).map j3) ((pre++[s]).map (yd b))) (j3 s)=some (yd b s):=ZU (by simp);simp only[Option.bind_some,jD,jz,d2,dV,List.set_cons_succ,List.set_cons_zero,List.getElem?_cons_succ,List.getElem?_cons_zero,OD.toD,g];rw[yd,Xu,uEa];exact e2
  have e5:zS (j3 s) [.bo (jj C b),r1,r2,r3,.ow none (.dct (pre.map j3) (pre.map (yd b))),.ow none (.dct (((pre.flatMap fun s=>(jh b s).map (·.2)).foldl jH []).map j3) (((pre.flatMap fun s=>(jh b s).map (·.2)).foldl jH []).map VA)),x6,x7,x8]=some [.bo (jj C b),r1,r2,r3,.ow none (.dct (pre.map j3) (pre.map (yd b))),.ow none (.dct (((pre.flatMap fun s=>(jh b s).map (·.2)).foldl jH []).map j3) (((pre.flatMap fun s=>(jh b s).map (·.2)).foldl jH []).map VA)),.cl (j3 s),x7,x8]:=rfl;simp only[List.set_cons_succ,List.set_cons_zero];rw[e4];exact e3
structure Lim (b:Bk) (s:Sd):Prop where
 fit:Fit b s
 p0:0<=s.place
 p1:s.place<=b.size
 tot:∀n,((List.range n).flatMap (jc b s)).length < 10000000
def Lim.len{b:Bk}{s:Sd}(L:Lim b s)(n:Nat):(jc b s n).length < 10000000:=by
 have:=L.tot (n+1);rw[List.range_succ,List.flatMap_append]at this;simp at this
 lia
def ym(b:Bk)(s:Sd)(n:Nat):List D:=(List.range n).map fun j=>JW b (jc b s j)
def gM(b:Bk)(s:Sd)(n:Nat):ym b s (n+1)=ym b s n++[JW b (jc b s n)]:=by
 unfold ym;rw[List.range_succ,uDa];rfl
def Ve(b:Bk)(s:Sd)(n:Nat):(ym b s n).length=n:=by simp[ym]
def iI(C:Addr)(b:Bk)(ok:OkB b)(s:Sd)(L:Lim b s)(n:Nat)(hn:n<=1000)(x4 x5 x6 x7 x8:Sl):∃y4 y5 y6 y7 y8:Sl,Yn C [.bo (jj C b),.cl (j3 s),.ow none (.lst (ym b s n)),.cl (.lst ((jc b s n).map j3)),x4,x5,x6,x7,x8]=
  some (.nx [.bo (jj C b),.cl (j3 s),.ow none (.lst (ym b s (n+1))),.cl (.lst ((jc b s (n+1)).map j3)),y4,y5,y6,y7,y8]):=by
 obtain⟨y6,y7,y8,e⟩:=iH C b ok (.cl (j3 s)) (.ow none (.lst (ym b s n))) (.cl (.lst ((jc b s n).map j3))) (jc b s n) (fun t ht=>(JQ L.fit n t ht).1) (qB b s n) (L.len (n+1)) (L.len n) (jc b s n) [] rfl x6 x7 x8;have z:(ym b s n).length < sizeLine:=by rw[Ve];exact jo (by lia)
 simp only[List.map_nil,List.flatMap_nil,List.foldl_nil]at e;refine⟨.cl (JW b (jc b s n)),.ow none (.dct ((zm b (jc b s n)).map j3) ((zm b (jc b s n)).map VA)),y6,y7,y8,?_⟩;rw[gM];simp only[Yn];simp[e,z,ua,JW,jc]
noncomputable def L6(Z:jg):Nat:=match Z[2]? with
 | some (Sl.ow _ (OD.lst l))=>100 - l.length
 | _=>0
def gO(C:Addr)(b:Bk)(ok:OkB b)(s:Sd)(L:Lim b s):∃n,zk C [jj C b,j3 s]=some (.lst (ym b s n))/\n<=32/\jc b s n=[]/\∀j,j < n->jc b s j≠[]:=by
 have s2:=ok.s2;obtain⟨Z1,W1,⟨n,hn,hne,y4,y5,y6,y7,y8,rfl⟩,hq⟩:=Kk (dt:=Vw C) (s:=Yn C)
  (fun Z=>∃n,n<=32/\(∀j,j < n->jc b s j≠[])/\∃y4 y5 y6 y7 y8:Sl,Z=[.bo (jj C b),.cl (j3 s),.ow none (.lst (ym b s n)),.cl (.lst ((jc b s n).map j3)),y4,y5,y6,y7,y8])
  (fun Z=>L6 Z) (by
   rintro Z ⟨n,hn,hne,y4,y5,y6,y7,y8,rfl⟩;by_cases h:jc b s n=[]
   ·left;rw[h];rfl
   ·right;have hn':n < 32:=by
     have h1:=L.p0;by_cases q:n < 32
     ·exact q
     ·have e:n=31+1:=by lia
      subst e;exact vDa (CZ L.fit (by lia)) h
    obtain⟨z4,z5,z6,z7,z8,e⟩:=iI C b ok s L n (by lia) y4 y5 y6 y7 y8;refine⟨?_,_,e,⟨n+1,by lia,(fun j hj=>by
     by_cases q:j < n
     ·exact hne j q
     ·rw[show j=n by lia];exact h),z4,z5,z6,z7,z8,rfl⟩,?_⟩
    ·cases hl:jc b s n with
     | nil=>exact vDa hl h
     | cons a l=>rfl
    ·show 100 - (ym b s (n+1)).length < 100 - (ym b s n).length;rw[Ve,Ve]
     lia) (n:=20000) (Z:=[.bo (jj C b),.cl (j3 s),.ow none (.lst (ym b s 0)),.cl (.lst ((jc b s 0).map j3)),.un,.un,.un,.un,.un]) ⟨0,by lia,(fun j hj=>vDa hj (Nat.not_lt_zero _)),.un,.un,.un,.un,.un,rfl⟩ (by show 100 - (ym b s 0).length < 20000;lia)
 have e:jc b s n=[]:=by
  cases hl:jc b s n with
  | nil=>rfl
  | cons a l=>rw[hl]at hq;cases hq
 refine⟨n,?_,hn,e,hne⟩;simp only[zk,v6];have e0:ym b s 0=[]:=rfl;have e1:(jc b s 0).map j3=[j3 s]:=rfl;rw[e0,e1]at W1;simp[W1]
def qC(b:Bk)(t:Sd):D:=.tup [j3 t,yd b t]
theorem gP(b:Bk):∀l:List Sd,List.zipWith (fun k v=>D.tup [k,v]) (l.map j3) (l.map (yd b))=l.map (qC b)
 | []=>rfl
 | s::l=>by rw[vWa,vWa,List.zipWith_cons_cons,gP b l];rfl
def wb(b:Bk):Nat->Sd->Int
 | 0,_=>1
 | f+1,s=>((jh b s).map fun p=>wb b f p.2).sum
def Jh(b:Bk)(s:Sd):Int:=wb b (b.size - s.place).toNat s
def cD(b:Bk)(s:Sd):D:=.int (Jh b s)
def Gu{b:Bk}{s:Sd}(h:s.place=b.size):Jh b s=1:=by
 unfold Jh;rw[h,Int.sub_self];rfl
def Vf{b:Bk}{s:Sd}(X:Fit b s)(h:s.place < b.size):Jh b s=((jh b s).map fun p=>Jh b p.2).sum:=by
 have e:(b.size - s.place).toNat=(b.size - (s.place+1)).toNat+1:=by lia
 unfold Jh;rw[e,wb];congr 1;refine List.map_congr_left fun p hp=>?_;obtain⟨c,hc,e1,e2⟩:=yo hp;rw[(yF X hc e2).2.1]
theorem kG{α:Type}(f:α->Int):∀l:List α,YJ (l.map fun x=>D.int (f x))=some (l.map f)
 | []=>rfl
 | x::l=>by rw[vWa,YJ,kG f l];rfl
def C_(C:Addr)(b:Bk)(ok:OkB b)(r1 x3:Sl)(t:Sd)(X:Fit b t)(hp:t.place<=b.size)(l:List Sd)(hl:l.length < 10000000)(hs:∀p∈jh b t,p.2∈l):
  yC C [.bo (jj C b),r1,.ow none (.dct (l.map j3) (l.map (cD b))),x3,.cl (j3 t),.cl (yd b t)]=some (.nx [.bo (jj C b),r1,.ow none (.dct ((jH l t).map j3) ((jH l t).map (cD b))),x3,.cl (j3 t),.cl (yd b t)]):=by
 have hl':l.length < sizeLine:=by
  have e:(10000000:Nat) < sizeLine:=by decide
  lia
 have ef:jK C "size" (jj C b)=some (.int b.size):=by simp[jK,jj]
 unfold yC;rw[jk];by_cases h:t.place=b.size
 ·have e0:jm (d2 jM (d2 j9 (dV 4) (dK (.int 0))) (d1 (jK C "size") (dV 0))) [.bo (jj C b),r1,.ow none (.dct (l.map j3) (l.map (cD b))),x3,.cl (j3 t),.cl (yd b t)]=some true:=by
   simp[ef,h]
  rw[e0];simp only[Option.bind_some,if_true];rw[uv (l:=l) (f:=cD b) (s:=t) (q:=none) rfl (by simp[cD,Gu h]) rfl hl'];rfl
 ·have e0:jm (d2 jM (d2 j9 (dV 4) (dK (.int 0))) (d1 (jK C "size") (dV 0))) [.bo (jj C b),r1,.ow none (.dct (l.map j3) (l.map (cD b))),x3,.cl (j3 t),.cl (yd b t)]=some false:=by
   simp[ef,h]
  have e1:Ji (gT 2 (gC (gN 0) (gC (gN 1) gZ))) jx (d2 JS (dV 2) (dV 1)) ((jh b t).map pD) [.un,.un,.ow none (.dct (l.map j3) (l.map (cD b)))]=some ((jh b t).map fun p=>cD b p.2):=
   jX pD _ fun p hq=>⟨[.cl (.int p.1),.cl (j3 p.2),.ow none (.dct (l.map j3) (l.map (cD b)))],rfl,rfl,by
    have:=ZU (f:=cD b) (hs p hq);simp[this]⟩
  have e2:(jh b t).length<=sizeLine:=wSa (Gr b t _) (wQa (jo (by have:=ok.k2;lia)));rw[e0];simp only[Option.bind_some,Bool.false_eq_true,if_false];rw[uv (l:=l) (f:=cD b) (s:=t) (q:=none) rfl (by
   simp only[yd];simp[e1,e2];show(YJ ((jh b t).map fun p=>cD b p.2)).bind _=_;unfold cD;rw[kG fun p:Int×Sd=>Jh b p.2];rw[Vf X (by lia)];rfl) rfl hl']
  rfl
theorem QC(C:Addr)(b:Bk)(ok:OkB b)(r1 x3:Sl)(up:List Sd):∀(ts l:List Sd),(∀t∈ts,Fit b t/\t.place<=b.size/\∀p∈jh b t,p.2∈up)->(∀t∈up,t∈l)->l.length+ts.length < 10000000->∀x4 x5:Sl,∃y4 y5:Sl,
  jU zV (yC C) (ts.map (qC b)) [.bo (jj C b),r1,.ow none (.dct (l.map j3) (l.map (cD b))),x3,x4,x5]=
  some (.nx [.bo (jj C b),r1,.ow none (.dct ((ts.foldl jH l).map j3) ((ts.foldl jH l).map (cD b))),x3,y4,y5])
 | [],l,_,_,_,x4,x5=>⟨x4,x5,rfl⟩
 | t::ts,l,h,hu,hl,x4,x5=>by
  obtain⟨f1,f2,f3⟩:=h t wNa;have hlen:=Uh l t;rw[vXa]at hl;have e1:=C_ C b ok r1 x3 t f1 f2 l (by lia) fun p hp=>hu _ (f3 p hp);obtain⟨y4,y5,e2⟩:=QC C b ok r1 x3 up ts (jH l t) (fun u hu=>h u (wMa _ hu)) (fun u hv=>kC.mpr (.inl (hu u hv))) (by lia) (.cl (j3 t)) (.cl (yd b t));refine⟨y4,y5,?_⟩;rw[vWa,List.foldl_cons,jU];have e0:zV (qC b t) [.bo (jj C b),r1,.ow none (.dct (l.map j3) (l.map (cD b))),x3,x4,x5]=some [.bo (jj C b),r1,.ow none (.dct (l.map j3) (l.map (cD b))),x3,.cl (j3 t),.cl (yd b t)]:=rfl;rw[e0];show(yC C _).bind _=_;rw[e1];exact e2
theorem QD(C:Addr)(b:Bk)(ok:OkB b)(s:Sd)(L:Lim b s)(r1:Sl):∀(m:Nat) (l:List Sd),(∀t∈jc b s m,t∈l)->l.length+((List.range m).flatMap (jc b s)).length < 10000000->∀x3 x4 x5:Sl,∃(l':List Sd) (y3 y4 y5:Sl),
  jU zW (yD C) (ym b s m).reverse [.bo (jj C b),r1,.ow none (.dct (l.map j3) (l.map (cD b))),x3,x4,x5]=
  some (.nx [.bo (jj C b),r1,.ow none (.dct (l'.map j3) (l'.map (cD b))),y3,y4,y5])/\(∀t∈l,t∈l')/\∀j,j<=m->∀t∈jc b s j,t∈l'
 | 0,l,h,_,x3,x4,x5=>⟨l,x3,x4,x5,rfl,fun t ht=>ht,fun j hj t ht=>by
  have e:j=0:=by lia
  subst e;exact h t ht⟩
 | m+1,l,h,hl,x3,x4,x5=>by
  rw[List.range_succ,List.flatMap_append,vZa]at hl;simp only[List.flatMap_cons,List.flatMap_nil,List.append_nil]at hl;obtain⟨y4,y5,e1⟩:=QC C b ok r1 (.cl (JW b (jc b s m))) (jc b s (m+1)) (jc b s m) l (fun t ht=>⟨(JQ L.fit m t ht).1,by
   by_cases q:0 < m
   ·exact(JQ L.fit m t ht).2.2 q
   ·have:=(JQ L.fit m t ht).2.1;have:=L.p1
    lia,fun p hp=>ye.mpr ⟨t,ht,p,hp,rfl⟩⟩) h (by lia) x4 x5
  have hf:=Zu (jc b s m) l;obtain⟨l',z3,z4,z5,e2,e3,e6⟩:=QD C b ok s L r1 m ((jc b s m).foldl jH l) (fun t ht=>YH.mpr (.inr ht)) (by lia) (.cl (JW b (jc b s m))) y4 y5;refine⟨l',z3,z4,z5,?_,fun t ht=>e3 t (YH.mpr (.inl ht)),fun j hj t ht=>?_⟩
  rotate_left
  ·by_cases q:j<=m
   ·exact e6 j q t ht
   ·have e:j=m+1:=by lia
    subst e;exact e3 t (YH.mpr (.inl (h t ht)))
  rw[gM,List.reverse_append,List.reverse_singleton,List.singleton_append,jU];have e0:zW (JW b (jc b s m)) [.bo (jj C b),r1,.ow none (.dct (l.map j3) (l.map (cD b))),x3,x4,x5]=some [.bo (jj C b),r1,.ow none (.dct (l.map j3) (l.map (cD b))),.cl (JW b (jc b s m)),x4,x5]:=rfl;have e4:yD C [.bo (jj C b),r1,.ow none (.dct (l.map j3) (l.map (cD b))),.cl (JW b (jc b s m)),x4,x5]=some (.nx [.bo (jj C b),r1,.ow none (.dct ((((jc b s m)).foldl jH l).map j3) ((((jc b s m)).foldl jH l).map (cD b))),.cl (JW b (jc b s m)),y4,y5]):=by
   unfold yD;rw[jD];have e5:ZL (dP 3) [.bo (jj C b),r1,.ow none (.dct (l.map j3) (l.map (cD b))),.cl (JW b (jc b s m)),x4,x5]=some ((jc b s m).map (qC b)):=by
    rw[ZL];show ub (JW b (jc b s m))=_;rw[JW,wF,gP]
   rw[e5,uEa];exact e1
  rw[e0];show(yD C _).bind _=_;rw[e4];exact e2
def aE(C:Addr)(b:Bk)(ok:OkB b)(s:Sd)(L:Lim b s):∃l:List Sd,vd C [jj C b,j3 s]=some (.dct (l.map j3) (l.map (cD b)))/\s∈l/\∀p∈jh b s,p.2∈l:=by
 obtain⟨n,e1,_,e2,_⟩:=gO C b ok s L;obtain⟨l,y3,y4,y5,e3,_,e4⟩:=QD C b ok s L (.cl (j3 s)) n [] (fun t ht=>by rw[e2]at ht;cases ht) (by have:=L.tot n;simpa using this) .un .un .un;have h0:s∈jc b s 0:=by simp[jc]
 have hn:0 < n:=by
  cases n with
  | zero=>rw[e2]at h0;cases h0
  | succ n=>lia
 refine⟨l,?_,e4 0 (by lia) s h0,fun p hp=>e4 1 hn p.2 (ye.mpr ⟨s,h0,p,hp,rfl⟩)⟩;simp only[vd,vc];rw[uJa,uJa]at e3;simp[e1,uH,e3]
def d6(C:Addr)(b:Bk)(ok:OkB b)(row:List Int)(h:xR b row){s:Sd}(hw:jV b (jb b) row=(s,none))(L:Lim b s):Kl C [jj C b,.lst (row.map .int)]=some (.int (Jh b s)):=by
 have e1:=Q0 C b row ok h hw;obtain⟨l,e2,e3,_⟩:=aE C b ok s L;have e4:=ZU (f:=cD b) e3;simp only[Kl,qf];simp[e1,e2,e4,cD]
def cs(b:Bk)(ps:List (Int×Sd)):Int:=(ps.map fun p=>Jh b p.2).sum
def vK(b:Bk)(p:Int×Sd)(ps:List (Int×Sd)):cs b (p::ps)=Jh b p.2+cs b ps:=by
 unfold cs;rw[vWa,List.sum_cons]
def Fk(b:Bk)(ps qs:List (Int×Sd)):cs b (ps++qs)=cs b ps+cs b qs:=by
 unfold cs;rw[uDa,List.sum_append]
theorem qD(b:Bk):∀(f:Nat) (s:Sd),0<=wb b f s
 | 0,s=>by rw[wb];decide
 | f+1,s=>by
  rw[wb];generalize jh b s=ps;induction ps with
  | nil=>simp
  | cons p ps ih=>
   have:=qD b f p.2;rw[vWa,List.sum_cons]
   lia
def vL(b:Bk)(s:Sd):0<=Jh b s:=qD b _ s
theorem Kr(b:Bk):∀ps:List (Int×Sd),0<=cs b ps
 | []=>by simp[cs]
 | p::ps=>by
  have h1:=vL b p.2;have h2:=Kr b ps;rw[vK]
  lia
def wQ(b:Bk):List (Int×Sd)->Int->Option ((Int×Sd)×Int)
 | [],_=>none
 | p::ps,x=>if x < Jh b p.2 then some (p,x)else wQ b ps (x - Jh b p.2)
theorem QE(b:Bk):∀(ps:List (Int×Sd)) (x:Int),0<=x->x < cs b ps->∃pre p post y,ps=pre++p::post/\wQ b ps x=some (p,y)/\0<=y/\y < Jh b p.2/\x=cs b pre+y
 | [],x,h0,h1=>by simp[cs]at h1;lia
 | p::ps,x,h0,h1=>by
  rw[vK]at h1;by_cases c:x < Jh b p.2
  ·exact⟨[],p,ps,x,rfl,by rw[wQ,if_pos c],h0,c,by simp[cs]⟩
  ·obtain⟨pre,q,post,y,e1,e2,e3,e4,e5⟩:=QE b ps (x - Jh b p.2) (by lia) (by lia);exact⟨p::pre,q,post,y,by rw[e1];rfl,by rw[wQ,if_neg c];exact e2,e3,e4,by rw[vK];lia⟩
theorem BX(b:Bk){p:Int×Sd}{post:List (Int×Sd)}{y:Int}(h0:0<=y)(h:y < Jh b p.2):∀pre:List (Int×Sd),wQ b (pre++p::post) (cs b pre+y)=some (p,y)
 | []=>by
  rw[uQa,wQ,if_pos (by simp[cs];lia)];simp[cs]
 | q::pre=>by
  have h1:=Kr b pre;rw[List.cons_append,wQ,vK,if_neg (by lia),show Jh b q.2+cs b pre+y - Jh b q.2=cs b pre+y by lia];exact BX b h0 h pre
theorem qE(b:Bk)(s:Sd):∀n,(vt b s n).Pairwise (fun p q=>p.1 < q.1)/\∀p∈vt b s n,p.1 < (n:Int)
 | 0=>⟨List.Pairwise.nil,fun p hp=>by cases hp⟩
 | n+1=>by
  obtain⟨h1,h2⟩:=qE b s n;rw[kD];cases hs:yh b s (n:Int)with
  | none=>
   rw[uFa];exact⟨h1,fun p hp=>by have:=h2 p hp;lia⟩
  | some t=>
   refine⟨List.pairwise_append.mpr ⟨h1,List.pairwise_singleton _ _,fun p hp q hq=>?_⟩,fun p hp=>?_⟩
   ·rw[List.mem_singleton]at hq;subst hq;exact h2 p hp
   ·rcases uWa hp with hp | hp
    ·have:=h2 p hp;lia
    ·rw[List.mem_singleton]at hp;subst hp;show(n:Int) < _
     lia
def qF{pre post:List (Int×Sd)}{p:Int×Sd}(h:(pre++p::post).Pairwise (fun p q=>p.1 < q.1)):(pre++p::post).filter (fun q=>decide (q.1 < p.1))=pre:=by
 obtain⟨_,h2,h3⟩:=List.pairwise_append.mp h;rw[List.filter_append];have e1:pre.filter (fun q=>decide (q.1 < p.1))=pre:=List.filter_eq_self.mpr fun q hq=>decide_eq_true (h3 q hq p wNa);have e2:(p::post).filter (fun q=>decide (q.1 < p.1))=[]:=List.filter_eq_nil_iff.mpr fun q hq=>by
  rcases uTa hq with rfl | hq
  ·simp
  ·have:=(List.pairwise_cons.mp h2).1 q hq;simp
   lia
 rw[e1,e2,uFa]
def Ui(b:Bk):Sd->List Int->Int
 | _,[]=>0
 | s,k::r=>cs b ((jh b s).filter fun p=>decide (p.1 < k))+Ui b (jG b s k) r
def uw(b:Bk):Nat->Sd->Int->List Int
 | 0,_,_=>[]
 | f+1,s,x=>match wQ b (jh b s) x with
  | some (p,y)=>p.1::uw b f p.2 y
  | none=>[]
theorem BZ{b:Bk}:∀(f:Nat) (s:Sd) (x:Int),Fit b s->s.place+(f:Int)=b.size->0<=x->x < Jh b s->(uw b f s x).length=f/\(∃s',jV b s (uw b f s x)=(s',none))/\(∀k∈uw b f s x,JX b k)/\Ui b s (uw b f s x)=x
 | 0,s,x,X,hf,h0,h1=>by
  rw[Gu (by lia)]at h1;exact⟨rfl,⟨s,rfl⟩,(fun k hk=>vDa hk (by simp[uw])),by show(0:Int)=x;lia⟩
 | f+1,s,x,X,hf,h0,h1=>by
  have e:=Vf (b:=b) X (by lia);rw[e]at h1;obtain⟨pre,p,post,y,e1,e2,e3,e4,e5⟩:=QE b (jh b s) x h0 h1;have hp:p∈jh b s:=by rw[e1];simp
  obtain⟨c,hc,g1,g2⟩:=yo hp;obtain⟨b1,b2,b3⟩:=JV g2;have X2:=(yF X hc g2).1;have pl:=(yF X hc g2).2.1;obtain⟨i1,⟨s',i2⟩,i3,i4⟩:=BZ f p.2 y X2 (by lia) e3 e4;have es:uw b (f+1) s x=p.1::uw b f p.2 y:=by rw[uw,e2]
  rw[es];refine⟨by rw[vXa,i1],⟨s',?_⟩,?_,?_⟩
  ·rw[jV,g1,b1];show jV b (jG b s (c:Int)) _=_;rw[<-b2];exact i2
  ·intro k hk;rcases uTa hk with rfl | hk
   ·rw[g1];exact⟨by lia,by lia⟩
   ·exact i3 k hk
  ·rw[Ui,show jG b s p.1=p.2 by rw[g1,<-b2],i4];have ha:=(qE b s b.kinds.length).1;have ha:(jh b s).Pairwise (fun p q=>p.1 < q.1):=ha;rw[e1]at ha⊢;rw[qF ha];exact e5.symm
theorem aF{b:Bk}:∀(ext:List Int) (s s':Sd),Fit b s->s.place+(ext.length:Int)=b.size->(∀k∈ext,JX b k)->jV b s ext=(s',none)->0<=Ui b s ext/\Ui b s ext < Jh b s/\uw b ext.length s (Ui b s ext)=ext
 | [],s,s',X,hp,_,_=>by
  rw[Gu (by simpa using hp)];exact⟨by show(0:Int)<=0;decide,by show(0:Int) < 1;decide,rfl⟩
 | k::r,s,s',X,hp,hk,hw=>by
  rw[vXa]at hp;have kk:=hk k wNa;rw[jV]at hw;cases hb:Jf b s k with
  | some w=>rw[hb]at hw;cases hw
  | none=>
   rw[hb]at hw;have hw:jV b (jG b s k) r=(s',none):=hw;have ek:((k.toNat:Nat):Int)=k:=by have:=kk.1;lia
   have es:yh b s ((k.toNat:Nat):Int)=some (jG b s k):=by
    rw[ek];unfold yh;rw[if_neg (by lia),hb];rfl
   have hc:k.toNat < b.kinds.length:=by have:=kk.1;have:=kk.2;lia
   have X2:=(yF X hc es).1;have pl:=(yF X hc es).2.1;obtain⟨i1,i2,i3⟩:=aF r (jG b s k) s' X2 (by lia) (fun z hz=>hk z (wMa _ hz)) hw;have hm:(k,jG b s k)∈jh b s:=by
    unfold jh vt;exact List.mem_filterMap.mpr ⟨k.toNat,List.mem_range.mpr hc,by rw[es,ek];rfl⟩
   obtain⟨pre,post,e1⟩:=List.append_of_mem hm;have ha:(jh b s).Pairwise (fun p q=>p.1 < q.1):=(qE b s b.kinds.length).1;have hfl:(jh b s).filter (fun p=>decide (p.1 < k))=pre:=by
    rw[e1]at ha⊢;exact qF (p:=(k,jG b s k)) ha
   have hpre:=Kr b pre;have hpost:=Kr b post;have e:=Vf (b:=b) X (by lia);have e:Jh b s=cs b (jh b s):=e;rw[Ui,hfl];refine⟨by lia,?_,?_⟩
   ·rw[e,e1,Fk,vK];show cs b pre+Ui b (jG b s k) r < cs b pre+(Jh b (jG b s k)+cs b post)
    lia
   ·rw[vXa,uw,e1,BX b (p:=(k,jG b s k)) i1 i2 pre];show k::uw b r.length (jG b s k) (Ui b (jG b s k) r)=_;rw[i3]
theorem qG:∀(N:Nat) (l:List Nat),l.Nodup->(∀x∈l,x < N)->l.length<=N
 | 0,l,_,h=>by
  cases l with
  | nil=>simp
  | cons x l=>exact vDa (h x wNa) (Nat.not_lt_zero _)
 | N+1,l,nd,h=>by
  by_cases e:N∈l
  ·have h1:=qG N (l.erase N) (nd.erase N) fun x hx=>by
    have h2:=(nd.mem_erase_iff).mp hx;have h3:=h x h2.2;have h4:=h2.1
    lia
   rw[List.length_erase_of_mem e]at h1
   lia
  ·have h1:=qG N l nd fun x hx=>by
    have h3:=h x hx;by_cases q:x=N
    ·rw[q]at hx;exact vDa hx e
    ·lia
   lia
noncomputable def Vg(B:Nat):List Nat->Nat
 | []=>0
 | x::l=>x+B * Vg B l
theorem qH{B:Nat}(hB:0 < B):∀{l:List Nat},(∀x∈l,x < B)->Vg B l < B ^ l.length
 | [],_=>by simp[Vg]
 | x::l,h=>by
  have h1:=h x wNa;have h2:=qH hB fun y hy=>h y (wMa _ hy);rw[Vg,vXa,uMa,Nat.mul_comm _ B];have h3:B * (Vg B l+1)<=B * B ^ l.length:=Nat.mul_le_mul_left B h2;rw[Nat.mul_add]at h3
  lia
theorem wc{B:Nat}(hB:0 < B):∀{l m:List Nat},(∀x∈l,x < B)->(∀x∈m,x < B)->l.length=m.length->Vg B l=Vg B m->l=m
 | [],[],_,_,_,_=>rfl
 | [],_::_,_,_,h,_=>by simp at h
 | _::_,[],_,_,h,_=>by simp at h
 | x::l,y::m,hl,hm,h,e=>by
  rw[Vg,Vg]at e;have h1:=hl x wNa;have h2:=hm y wNa;have ex:x=y:=by
   have e1:(x+B * Vg B l) % B=x:=by rw[Nat.add_mul_mod_self_left,Nat.mod_eq_of_lt h1]
   have e2:(y+B * Vg B m) % B=y:=by rw[Nat.add_mul_mod_self_left,Nat.mod_eq_of_lt h2]
   rw[<-e1,<-e2,e]
  subst ex;have el:Vg B l=Vg B m:=Nat.eq_of_mul_eq_mul_left hB (Nat.add_left_cancel e);rw[wc hB (fun y hy=>hl y (List.mem_cons_of_mem _ hy)) (fun y hy=>hm y (List.mem_cons_of_mem _ hy)) (by simpa using h) el]
theorem qI{α:Type}:∀{l m:List α} {i:Nat} {x:α},l[i]?=some x->m[i]?=some x->l.eraseIdx i=m.eraseIdx i->l=m
 | [],_,_,_,h,_,_=>by simp at h
 | _::_,[],_,_,_,h,_=>by simp at h
 | a::l,c::m,0,x,h1,h2,h3=>by
  simp at h1 h2 h3;rw[h1,h2,h3]
 | a::l,c::m,i+1,x,h1,h2,h3=>by
  simp at h1 h2 h3;rw[h3.1,qI h1 h2 h3.2]
structure Sm (b:Bk) (B:Nat) (s:Sd):Prop where
 fit:Fit b s
 l0:0<=s.len
 l1:s.len<=4
 b0:-1<=s.before
 b1:s.before < 4
 ws:∀x∈s.waits,0<=x/\x < (B:Int)
 w0:s.waits[s.kind.toNat]?=some 0
def IC(B:Nat)(s:Sd):Nat:=Vg B ((s.waits.map Int.toNat).eraseIdx s.kind.toNat)
def IE(s:Sd):Nat:=Vg 2 (s.met.map fun x=>if x=true then 1 else 0)
def aG(b:Bk)(B:Nat)(s:Sd):Nat:=((((s.kind+1).toNat * 5+s.len.toNat) * 5+(s.before+1).toNat) * B ^ (b.kinds.length - 1)+IC B s) * 2 ^ b.dues.length+IE s
section
variable {b:Bk} {B:Nat} {s t:Sd}
def Sm.w(S:Sm b B s):∀x∈(s.waits.map Int.toNat).eraseIdx s.kind.toNat,x < B:=fun x hx=>by
 obtain⟨y,hy,rfl⟩:=uVa (List.mem_of_mem_eraseIdx hx);have:=S.ws y hy
 lia
def bA(s:Sd):∀x∈s.met.map fun x=>if x=true then 1 else 0,x < 2:=fun x hx=>by
 obtain⟨y,hy,rfl⟩:=uVa hx;cases y <;> decide
def Sm.wl(S:Sm b B s):((s.waits.map Int.toNat).eraseIdx s.kind.toNat).length=b.kinds.length - 1:=by
 have h:=(uSa S.w0).1;rw[List.length_eraseIdx_of_lt (by rw[vYa];exact h),vYa,S.fit.w]
def qJ(hB:0 < B)(S:Sm b B s):IC B s < B ^ (b.kinds.length - 1):=by
 have h:=qH hB S.w;rw[S.wl]at h;exact h
def qK(S:Sm b B s):IE s < 2 ^ b.dues.length:=by
 have h:=qH (B:=2) (by decide) (bA s);rw[vYa,S.fit.m]at h;exact h
def aH{a c W w N:Nat}(h:a < c)(hw:w < W)(e:c * W<=N):a * W+w < N:=by
 have h1:(a+1) * W<=c * W:=Nat.mul_le_mul_right W h;rw[Nat.add_mul]at h1
 lia
def Fl(ok:OkB b)(hB:0 < B)(S:Sm b B s){N:Nat}(hN:(b.kinds.length+1) * 25 * B ^ (b.kinds.length - 1) * 2 ^ b.dues.length<=N):aG b B s < N:=by
 have h3:=S.fit.c0;have h4:=S.fit.c1;have h6:=S.l0;have h7:=S.l1;have h8:=S.b0;have h9:=S.b1;exact aH (aH (c:=(b.kinds.length+1) * 25) (by lia) (qJ hB S) (wPa _)) (qK S) hN
def Wc{m a b c d:Nat}(h1:b < m)(h2:d < m)(e:a * m+b=c * m+d):a=c/\b=d:=by
 have e1:=congrArg (· % m) e;have e2:=congrArg (· / m) e;have p:0 < m:=wRa (Nat.zero_le _) h1;simp only[Nat.mul_comm a m,Nat.mul_comm c m,Nat.mul_add_mod,Nat.mul_add_div p,Nat.mod_eq_of_lt h1,Nat.mod_eq_of_lt h2,Nat.div_eq_of_lt h1,Nat.div_eq_of_lt h2,Nat.add_zero]at e1 e2;exact⟨e2,e1⟩
def QF{x y:Int}(hx:-1<=x)(hy:-1<=y)(e:(x+1).toNat=(y+1).toNat):x=y:=by lia
def bB{x y:Int}(hx:0<=x)(hy:0<=y)(e:x.toNat=y.toNat):x=y:=by lia
def aI{x:Int}(h:x < 4):(x+1).toNat < 5:=by lia
def QG{x:Int}(h:x<=4):x.toNat < 5:=by lia
def d8{B:Nat}:∀l m:List Int,(∀x∈l,0<=x/\x < (B:Int))->(∀x∈m,0<=x/\x < (B:Int))->l.map Int.toNat=m.map Int.toNat->l=m:=by
 intro l;induction l with
 | nil=>intro m _ _ h;cases m with | nil=>rfl | cons _ _=>simp at h
 | cons x l ih=>
  intro m hl hm h;cases m with
  | nil=>simp at h
  | cons y m=>
   rw[vWa,vWa]at h;injection h with h1 h2;have a1:=hl x wNa;have a2:=hm y wNa;rw[ih m (fun z hz=>hl z (List.mem_cons_of_mem _ hz)) (fun z hz=>hm z (List.mem_cons_of_mem _ hz)) h2,show x=y by lia]
def dg(hB:0 < B)(S:Sm b B s)(T:Sm b B t)(hp:s.place=t.place)(e:aG b B s=aG b B t):s=t:=by
 unfold aG at e;obtain⟨e,em⟩:=Wc (qK S) (qK T) e;obtain⟨e,ew⟩:=Wc (qJ hB S) (qJ hB T) e;obtain⟨e,e5⟩:=Wc (aI S.b1) (aI T.b1) e;obtain⟨e6,e7⟩:=Wc (QG S.l1) (QG T.l1) e;have eb:=QF S.b0 T.b0 e5;have ek:=QF S.fit.c0 T.fit.c0 e6;have el:=bB S.l0 T.l0 e7;have w1:=wc hB S.w T.w (by rw[S.wl,T.wl]) ew;have m1:=wc (by decide) (bA s) (bA t) (by rw[vYa,vYa,S.fit.m,T.fit.m]) em;have m2:s.met=t.met:=Ug (fun a b e=>by cases a <;> cases b <;> first | rfl | (simp at e)) m1;rw[<-ek]at w1;have w2:s.waits=t.waits:=d8 _ _ S.ws T.ws (qI (by rw[uAa,S.w0];rfl) (by rw[uAa,ek,T.w0];rfl) w1);obtain⟨a1,a2,a3,a4,a5,a6⟩:=s;obtain⟨c1,c2,c3,c4,c5,c6⟩:=t;simp only at hp ek el eb w2 m2;subst hp ek el eb w2 m2;rfl
def Sm.empty(ok:OkB b)(hB:0 < B):Sm b B (jb b):=⟨Fit.empty b,by show(0:Int)<=0;decide,by show(0:Int)<=4;decide,by show(-1:Int)<=-1;decide,by show(-1:Int) < 4;decide,fun x hx=>by
 simp[jb]at hx
 lia,by
 show(List.replicate b.kinds.length (0:Int))[(-1:Int).toNat]?=some 0;rw[List.getElem?_replicate,if_pos];exact ok.k1⟩
set_option tactic.hygienic true in
theorem Sm.stand(ok:OkB b)(hR:∀t∈b.kinds,t.2.2<=(B:Int))(S:Sm b B s){k:Int}(h:JX b k)(hb:Jf b s k=none):Sm b B (jG b s k):=by
 have hk:=S.fit.c0;have hk1:=S.fit.c1;have k2:=ok.k2;have nl:YO b s k=false:=by
  have:=VU b s k;rw[hb]at this;have this:(Y7 b s k||(ZG b s k||(YX b s k||vg b s k)))=false:=this.symm;simp only[ZG,Bool.or_eq_false_iff]at this;exact this.2.1.1
 have f1:=qw h ok;unfold fK at f1;simp only[Bool.and_eq_true,decide_eq_true_eq]at f1;have B0:0 < (B:Int):=by
  have:=S.ws 0 (wYa S.w0)
  lia
 refine⟨S.fit.next h,?_,?_,hk,by show s.kind < 4;lia,?_,?_⟩
 ·show 0<=YE s k;unfold YE;have:=S.l0;split <;> lia
 ·show YE s k<=4;unfold YE;split
  ·rename_i e;unfold YO at nl;rw[decide_eq_true e,Bool.true_and,decide_eq_false_iff_not]at nl
   lia
  ·lia
 ·intro x hx;have hx:x∈JH b s k:=hx;unfold JH at hx;have base:∀y∈s.waits.map (fun x=>mx (x - 1) 0),0<=y/\y < (B:Int):=fun y hy=>by
   obtain⟨z,hz,rfl⟩:=uVa hy;have:=S.ws z hz;unfold mx;split <;> lia
  rcases Ud hx with hx | hx
  ·by_cases e:s.kind=-1
   ·rw[if_pos e]at hx;exact base x hx
   ·rw[if_neg e]at hx;rcases Ud hx with hx | hx
    ·exact base x hx
    ·have hi:s.kind.toNat < b.kinds.length:=by lia
     have f2:=hR (yx b.kinds s.kind) (by
      unfold yx;rw[uBa,uCa hi];exact List.getElem_mem hi)
     rw[hx];unfold mx;split <;> lia
  ·lia
 ·show(JH b s k)[k.toNat]?=some 0;have hl:=Ub b s k;have h1:=h.1;have h2:=h.2;have hw:=S.fit.w;unfold JH at hl⊢;rw[List.getElem?_set_self];rw[List.length_set]at hl
  lia
theorem qL(ok:OkB b)(hR:∀t∈b.kinds,t.2.2<=(B:Int))(S:Sm b B s):∀n,∀t∈jc b s n,Sm b B t
 | 0,t,h=>by
  simp[jc]at h;subst h;exact S
 | n+1,t,h=>by
  obtain⟨u,hu,p,hp,rfl⟩:=ye.mp h;obtain⟨c,hc,e1,e2⟩:=yo hp;obtain⟨h1,h2,h3⟩:=JV e2;rw[h2];exact(qL ok hR S n u hu).stand ok hR ⟨by lia,by lia⟩ h1
def Uj(ok:OkB b)(hB:0 < B)(hR:∀t∈b.kinds,t.2.2<=(B:Int))(S:Sm b B s){N:Nat}(hN:(b.kinds.length+1) * 25 * B ^ (b.kinds.length - 1) * 2 ^ b.dues.length<=N)(n:Nat):(jc b s n).length<=N:=by
 have h:=qG N ((jc b s n).map (aG b B)) (by
  have nd:=qB b s n;have hs:=qL ok hR S n;have hp:∀t∈jc b s n,t.place=s.place+n:=fun t ht=>(JQ S.fit n t ht).2.1;revert nd hs hp;generalize jc b s n=l;intro nd hs hp;induction l with
  | nil=>simp
  | cons x l ih=>
   rw[List.nodup_cons]at nd;rw[vWa,List.nodup_cons];refine⟨fun z=>?_,ih nd.2 (fun t ht=>hs t (wMa _ ht)) (fun t ht=>hp t (wMa _ ht))⟩;obtain⟨y,hy,e⟩:=uVa z;have:=dg hB (hs y (wMa _ hy)) (hs x wNa) (by rw[hp y (List.mem_cons_of_mem _ hy),hp x List.mem_cons_self]) e;subst this;exact nd.1 hy) (fun x hx=>by
   obtain⟨y,hy,rfl⟩:=uVa hx;exact Fl ok hB (qL ok hR S n y hy) hN)
 rw[vYa]at h;exact h
end
def bC{b:Bk}(ok:OkB b)(ss:List Sd):(zm b ss).length<=4 * ss.length:=by
 have h1:=(Zu (ss.flatMap fun s=>(jh b s).map (·.2)) []).2;have h2:∀ss:List Sd,(ss.flatMap fun s=>(jh b s).map (·.2)).length<=4 * ss.length:=fun ss=>by
  induction ss with
  | nil=>simp
  | cons s ss ih=>
   have:=Gr b s b.kinds.length;have:=ok.k2;have e:(jh b s).length=(vt b s b.kinds.length).length:=rfl;rw[List.flatMap_cons,vZa,vYa,vXa]
   lia
 have:=h2 ss;rw[List.length_nil,Nat.zero_add]at h1;exact wSa h1 this
theorem QH{b:Bk}(ok:OkB b)(s:Sd):∀n,(jc b s n).length<=4 ^ n
 | 0=>by simp[jc]
 | n+1=>by
  have h1:=QH ok s n;have h2:=bC ok (jc b s n);rw[jc,uMa]
  lia
def wd{b:Bk}{s:Sd}(X:Fit b s){m:Nat}(h:b.size<=s.place+m):jc b s (m+1)=[]:=by
 cases e:jc b s (m+1)with
 | nil=>rfl
 | cons t l=>
  have ht:t∈jc b s (m+1):=by rw[e];exact wNa
  obtain⟨u,hu,p,hp,rfl⟩:=ye.mp ht;obtain⟨c,hc,e1,e2⟩:=yo hp;obtain⟨h1,h2,h3⟩:=JV e2;have:=(JQ X m u hu).2.1
  lia
def dh:∀d:Nat,d<=3->((d<=2->125 * 2 ^ 3 * 2 ^ d<=6400/\100 * 4 ^ 2 * 2 ^ d<=6400)/\75 * 4 * 2 ^ d<=6400/\50 * 2 ^ d<=6400):=by decide
def QI{b:Bk}(ok:OkB b)(F:Few b)(n:Nat):(jc b (jb b) n).length<=6400:=by
 by_cases h6:b.size<=6
 ·by_cases hn:n<=6
  ·have h1:4 ^ n<=4 ^ 6:=Nat.pow_le_pow_right (by decide) hn;exact wSa (QH ok (jb b) n) (wSa h1 (by decide))
  ·obtain⟨m,rfl⟩:∃m,n=m+1:=⟨n - 1,by lia⟩
   rw[wd (Fit.empty b) (m:=m) (by show b.size<=0+(m:Int);lia)];exact Nat.zero_le _
 ·have k1:=ok.k1;have k2:=ok.k2;have hd:=dh b.dues.length ok.d2;have r4:∀t∈b.kinds,t.2.2<=((4:Nat):Int):=fun t ht=>by
   have f1:=ok.ks t ht;unfold fK at f1;simp only[Bool.and_eq_true,decide_eq_true_eq]at f1;exact f1.2.2.2.2
  have cs:b.kinds.length=4 \/ b.kinds.length=3 \/ b.kinds.length=2 \/ b.kinds.length=1:=by lia
  rcases cs with c | c | c | c
  ·exact Uj (B:=2) ok (by decide) (F.c1 c (by lia)) (Sm.empty ok (by decide)) (by rw[c];exact(hd.1 (F.c2 (by lia) (by lia))).1) n
  ·exact Uj (B:=4) ok (by decide) r4 (Sm.empty ok (by decide)) (by rw[c];exact(hd.1 (F.c2 (by lia) (by lia))).2) n
  ·exact Uj (B:=4) ok (by decide) r4 (Sm.empty ok (by decide)) (by rw[c];exact hd.2.1) n
  ·exact Uj (B:=4) ok (by decide) r4 (Sm.empty ok (by decide)) (by rw[c];exact hd.2.2) n
theorem B_{b:Bk}(ok:OkB b)(F:Few b):∀n,((List.range n).flatMap (jc b (jb b))).length<=6400 * (min n 32)
 | 0=>by simp
 | n+1=>by
  have ih:=B_ ok F n;have s2:=ok.s2;rw[List.range_succ,List.flatMap_append,vZa];simp only[List.flatMap_cons,List.flatMap_nil,List.append_nil];by_cases hn:n+1<=32
  ·have h1:=QI ok F n
   lia
  ·obtain⟨m,rfl⟩:∃m,n=m+1:=⟨n - 1,by lia⟩
   rw[wd (Fit.empty b) (m:=m) (by show b.size<=0+(m:Int);lia)];simp only[List.length_nil]
   lia
def gQ{b:Bk}(ok:OkB b)(F:Few b):Lim b (jb b):=by
 have s1:=ok.s1;refine⟨Fit.empty b,by show(0:Int)<=0;decide,by show(0:Int)<=b.size;lia,fun n=>?_⟩;have h1:=B_ ok F n
 lia
noncomputable def jY(row costs:List Int)(i k:Int):Int:=if row.getD i.toNat 0=k then 0 else costs.getD i.toNat 0
section
variable (b:Bk) (row costs:List Int) (dead:Int)
def bD:Nat->Sd->Int
 | 0,_=>0
 | f+1,s=>(YS ((jh b s).map fun p=>bD f p.2+jY row costs s.place p.1)).getD dead
def Ja(s:Sd):Int:=bD b row costs dead (b.size - s.place).toNat s
def nD(s:Sd):D:=.int (Ja b row costs dead s)
end
variable {b:Bk} {row costs:List Int} {dead:Int}
def Gv{s:Sd}(h:s.place=b.size):Ja b row costs dead s=0:=by
 unfold Ja;rw[h,Int.sub_self];rfl
def Vh{s:Sd}(X:Fit b s)(h:s.place < b.size):Ja b row costs dead s=(YS ((jh b s).map fun p=>Ja b row costs dead p.2+jY row costs s.place p.1)).getD dead:=by
 have e:(b.size - s.place).toNat=(b.size - (s.place+1)).toNat+1:=by lia
 unfold Ja;rw[e,bD];congr 2;refine List.map_congr_left fun p hp=>?_;obtain⟨c,hc,e1,e2⟩:=yo hp;rw[(yF X hc e2).2.1]
def we(C:Addr)(s:Sd)(k:Int)(h0:0<=s.place)(h1:s.place < (row.length:Int))(h2:s.place < (costs.length:Int)):JF C [.lst (row.map .int),.lst (costs.map .int),j3 s,.int k]=some (.int (jY row costs s.place k)):=by
 have e1:=Jz (f:=D.int) (xs:=row) (d:=0) h0 h1;have e2:=Jz (f:=D.int) (xs:=costs) (d:=0) h0 h2;simp only[JF,v8];by_cases c:row.getD s.place.toNat 0=k
 ·simp[-List.getD_eq_getElem?_getD,e1,c,jY]
 ·simp[-List.getD_eq_getElem?_getD,e1,e2,c,jY]
theorem wf:∀l:List Int,YJ (l.map D.int)=some l
 | []=>rfl
 | x::l=>by rw[vWa,YJ,wf l];rfl
section
variable (C:Addr) (ok:OkB b) (hr:(row.length:Int)=b.size) (hc:(costs.length:Int)=b.size)
include ok hr hc
theorem iJ(r3 x6:Sl)(t:Sd)(X:Fit b t)(h0:0<=t.place)(hp:t.place<=b.size)(l:List Sd)(hl:l.length < 10000000)(hs:∀p∈jh b t,p.2∈l)(x9:Sl):∃y9:Sl,
  yN C [.bo (jj C b),.bo (.lst (row.map .int)),.bo (.lst (costs.map .int)),r3,.cl (.int dead),.ow none (.dct (l.map j3) (l.map (nD b row costs dead))),x6,.cl (j3 t),.cl (yd b t),x9]=
   some (.nx [.bo (jj C b),.bo (.lst (row.map .int)),.bo (.lst (costs.map .int)),r3,.cl (.int dead),.ow none (.dct ((jH l t).map j3) ((jH l t).map (nD b row costs dead))),x6,.cl (j3 t),.cl (yd b t),y9]):=by
 have hl':l.length < sizeLine:=by
  have e:(10000000:Nat) < sizeLine:=by decide
  lia
 have ef:jK C "size" (jj C b)=some (.int b.size):=by simp[jK,jj]
 unfold yN;rw[jk];by_cases h:t.place=b.size
 ·refine⟨x9,?_⟩;have e0:jm (d2 jM (d2 j9 (dV 7) (dK (.int 0))) (d1 (jK C "size") (dV 0))) [.bo (jj C b),.bo (.lst (row.map .int)),.bo (.lst (costs.map .int)),r3,.cl (.int dead),.ow none (.dct (l.map j3) (l.map (nD b row costs dead))),x6,.cl (j3 t),.cl (yd b t),x9]=some true:=by
   simp[ef,h]
  rw[e0];simp only[Option.bind_some,if_true];rw[uv (l:=l) (f:=nD b row costs dead) (s:=t) (q:=none) rfl (by simp[nD,Gv h]) rfl hl'];rfl
 ·refine⟨.cl (.lst ((jh b t).map fun p=>.int (Ja b row costs dead p.2+jY row costs t.place p.1))),?_⟩;have e0:jm (d2 jM (d2 j9 (dV 7) (dK (.int 0))) (d1 (jK C "size") (dV 0))) [.bo (jj C b),.bo (.lst (row.map .int)),.bo (.lst (costs.map .int)),r3,.cl (.int dead),.ow none (.dct (l.map j3) (l.map (nD b row costs dead))),x6,.cl (j3 t),.cl (yd b t),x9]=some false:=by
   simp[ef,h]
  have e1:Ji (gT 2 (gC (gN 0) (gC (gN 1) gZ))) jx (d2 jy (d2 JS (dV 2) (dV 1)) (ja (JF C) [(false,(dV 3)),(false,(dV 4)),(false,(dV 5)),(false,(dV 0))])) ((jh b t).map pD) [.un,.un,.ow none (.dct (l.map j3) (l.map (nD b row costs dead))),.bo (.lst (row.map .int)),.bo (.lst (costs.map .int)),.cl (j3 t)]=some ((jh b t).map fun p=>.int (Ja b row costs dead p.2+jY row costs t.place p.1)):=
   jX pD _ fun p hq=>⟨[.cl (.int p.1),.cl (j3 p.2),.ow none (.dct (l.map j3) (l.map (nD b row costs dead))),.bo (.lst (row.map .int)),.bo (.lst (costs.map .int)),.cl (j3 t)],rfl,rfl,by
    have g:=ZU (f:=nD b row costs dead) (hs p hq);have g2:=we (row:=row) (costs:=costs) C t p.1 h0 (by lia) (by lia);simp[g,g2,nD]⟩
  have e2:(jh b t).length<=sizeLine:=wSa (Gr b t _) (wQa (jo (by have:=ok.k2;lia)));rw[e0];simp only[Option.bind_some,Bool.false_eq_true,if_false];have e3:jp 9 (dL (JO 2 [5,1,2,7] (jz (dP 8)) (gT 2 (gC (gN 0) (gC (gN 1) gZ))) jx (d2 jy (d2 JS (dV 2) (dV 1)) (ja (JF C) [(false,(dV 3)),(false,(dV 4)),(false,(dV 5)),(false,(dV 0))])))) [.bo (jj C b),.bo (.lst (row.map .int)),.bo (.lst (costs.map .int)),r3,.cl (.int dead),.ow none (.dct (l.map j3) (l.map (nD b row costs dead))),x6,.cl (j3 t),.cl (yd b t),x9]=
    some (.nx [.bo (jj C b),.bo (.lst (row.map .int)),.bo (.lst (costs.map .int)),r3,.cl (.int dead),.ow none (.dct (l.map j3) (l.map (nD b row costs dead))),x6,.cl (j3 t),.cl (yd b t),.cl (.lst ((jh b t).map fun p=>.int (Ja b row costs dead p.2+jY row costs t.place p.1)))]):=by
   generalize (d2 jy (d2 JS (dV 2) (dV 1)) (ja (JF C) [(false,(dV 3)),(false,(dV 4)),(false,(dV 5)),(false,(dV 0))]))=dd at e1⊢;simp only[yd];simp[e1,e2,JZ]
  rw[j5,e3];simp only[Option.bind_some];rw[uv (l:=l) (f:=nD b row costs dead) (s:=t) (q:=none) rfl (by
   simp[kG (fun p:Int×Sd=>Ja b row costs dead p.2+jY row costs t.place p.1),nD,Vh (dead:=dead) X (by lia)]) rfl hl']
  rfl
theorem c8(r3 x6:Sl)(up:List Sd):∀(ts l:List Sd),(∀t∈ts,Fit b t/\0<=t.place/\t.place<=b.size/\∀p∈jh b t,p.2∈up)->(∀t∈up,t∈l)->l.length+ts.length < 10000000->∀x7 x8 x9:Sl,∃y7 y8 y9:Sl,
  jU Zq (yN C) (ts.map (qC b)) [.bo (jj C b),.bo (.lst (row.map .int)),.bo (.lst (costs.map .int)),r3,.cl (.int dead),.ow none (.dct (l.map j3) (l.map (nD b row costs dead))),x6,x7,x8,x9]=
  some (.nx [.bo (jj C b),.bo (.lst (row.map .int)),.bo (.lst (costs.map .int)),r3,.cl (.int dead),.ow none (.dct ((ts.foldl jH l).map j3) ((ts.foldl jH l).map (nD b row costs dead))),x6,y7,y8,y9])
 | [],l,_,_,_,x7,x8,x9=>⟨x7,x8,x9,rfl⟩
 | t::ts,l,h,hu,hl,x7,x8,x9=>by
  obtain⟨f1,f0,f2,f3⟩:=h t wNa;have hlen:=Uh l t;rw[vXa]at hl;obtain⟨z9,e1⟩:=iJ (dead:=dead) C ok hr hc r3 x6 t f1 f0 f2 l (by lia) (fun p hp=>hu _ (f3 p hp)) x9;obtain⟨y7,y8,y9,e2⟩:=c8 r3 x6 up ts (jH l t) (fun u hu=>h u (wMa _ hu)) (fun u hv=>kC.mpr (.inl (hu u hv))) (by lia) (.cl (j3 t)) (.cl (yd b t)) z9;refine⟨y7,y8,y9,?_⟩;rw[vWa,List.foldl_cons,jU];have e0:Zq (qC b t) [.bo (jj C b),.bo (.lst (row.map .int)),.bo (.lst (costs.map .int)),r3,.cl (.int dead),.ow none (.dct (l.map j3) (l.map (nD b row costs dead))),x6,x7,x8,x9]=some [.bo (jj C b),.bo (.lst (row.map .int)),.bo (.lst (costs.map .int)),r3,.cl (.int dead),.ow none (.dct (l.map j3) (l.map (nD b row costs dead))),x6,.cl (j3 t),.cl (yd b t),x9]:=rfl;rw[e0];show(yN C _).bind _=_;rw[e1];exact e2
theorem c9(s:Sd)(L:Lim b s)(r3:Sl):∀(m:Nat) (l:List Sd),(∀t∈jc b s m,t∈l)->l.length+((List.range m).flatMap (jc b s)).length < 10000000->∀x6 x7 x8 x9:Sl,∃(l':List Sd) (y6 y7 y8 y9:Sl),
  jU Zr (yO C) (ym b s m).reverse [.bo (jj C b),.bo (.lst (row.map .int)),.bo (.lst (costs.map .int)),r3,.cl (.int dead),.ow none (.dct (l.map j3) (l.map (nD b row costs dead))),x6,x7,x8,x9]=
  some (.nx [.bo (jj C b),.bo (.lst (row.map .int)),.bo (.lst (costs.map .int)),r3,.cl (.int dead),.ow none (.dct (l'.map j3) (l'.map (nD b row costs dead))),y6,y7,y8,y9])/\(∀t∈l,t∈l')/\∀j,j<=m->∀t∈jc b s j,t∈l'
 | 0,l,h,_,x6,x7,x8,x9=>⟨l,x6,x7,x8,x9,rfl,fun t ht=>ht,fun j hj t ht=>by
  have e:j=0:=by lia
  subst e;exact h t ht⟩
 | m+1,l,h,hl,x6,x7,x8,x9=>by
  rw[List.range_succ,List.flatMap_append,vZa]at hl;simp only[List.flatMap_cons,List.flatMap_nil,List.append_nil]at hl;have p0:=L.p0;obtain⟨y7,y8,y9,e1⟩:=c8 (dead:=dead) C ok hr hc r3 (.cl (JW b (jc b s m))) (jc b s (m+1)) (jc b s m) l (fun t ht=>⟨(JQ L.fit m t ht).1,by have:=(JQ L.fit m t ht).2.1;lia,by
   by_cases q:0 < m
   ·exact(JQ L.fit m t ht).2.2 q
   ·have:=(JQ L.fit m t ht).2.1;have:=L.p1
    lia,fun p hp=>ye.mpr ⟨t,ht,p,hp,rfl⟩⟩) h (by lia) x7 x8 x9
  have hf:=Zu (jc b s m) l;obtain⟨l',z6,z7,z8,z9,e2,e3,e6⟩:=c9 s L r3 m ((jc b s m).foldl jH l) (fun t ht=>YH.mpr (.inr ht)) (by lia) (.cl (JW b (jc b s m))) y7 y8 y9;refine⟨l',z6,z7,z8,z9,?_,fun t ht=>e3 t (YH.mpr (.inl ht)),fun j hj t ht=>?_⟩
  rotate_left
  ·by_cases q:j<=m
   ·exact e6 j q t ht
   ·have e:j=m+1:=by lia
    subst e;exact e3 t (YH.mpr (.inl (h t ht)))
  rw[gM,List.reverse_append,List.reverse_singleton,List.singleton_append,jU];have e0:Zr (JW b (jc b s m)) [.bo (jj C b),.bo (.lst (row.map .int)),.bo (.lst (costs.map .int)),r3,.cl (.int dead),.ow none (.dct (l.map j3) (l.map (nD b row costs dead))),x6,x7,x8,x9]=some [.bo (jj C b),.bo (.lst (row.map .int)),.bo (.lst (costs.map .int)),r3,.cl (.int dead),.ow none (.dct (l.map j3) (l.map (nD b row costs dead))),.cl (JW b (jc b s m)),x7,x8,x9]:=rfl;have e4:yO C [.bo (jj C b),.bo (.lst (row.map .int)),.bo (.lst (costs.map .int)),r3,.cl (.int dead),.ow none (.dct (l.map j3) (l.map (nD b row costs dead))),.cl (JW b (jc b s m)),x7,x8,x9]=some (.nx [.bo (jj C b),.bo (.lst (row.map .int)),.bo (.lst (costs.map .int)),r3,.cl (.int dead),.ow none (.dct (((jc b s m).foldl jH l).map j3) (((jc b s m).foldl jH l).map (nD b row costs dead))),.cl (JW b (jc b s m)),y7,y8,y9]):=by
   unfold yO;rw[jD];have e5:ZL (dP 6) [.bo (jj C b),.bo (.lst (row.map .int)),.bo (.lst (costs.map .int)),r3,.cl (.int dead),.ow none (.dct (l.map j3) (l.map (nD b row costs dead))),.cl (JW b (jc b s m)),x7,x8,x9]=some ((jc b s m).map (qC b)):=by
    rw[ZL];show ub (JW b (jc b s m))=_;rw[JW,wF,gP]
   rw[e5,uEa];exact e1
  rw[e0];show(yO C _).bind _=_;rw[e4];exact e2
theorem w_(s:Sd)(L:Lim b s)(n:Nat)(e2:jc b s n=[]):∃l:List Sd,V8 C [jj C b,.lst (row.map .int),.lst (costs.map .int),.lst (ym b s n)]=some (.dct (l.map j3) (l.map (nD b row costs (costs.sum+1))))/\∀j,j<=n->∀t∈jc b s j,t∈l:=by
 obtain⟨l,y6,y7,y8,y9,e3,_,e4⟩:=c9 (dead:=costs.sum+1) C ok hr hc s L (.bo (.lst (ym b s n))) n [] (fun t ht=>by rw[e2]at ht;cases ht) (by have:=L.tot n;simpa using this) .un .un .un .un;refine⟨l,?_,e4⟩;simp only[V8,V7];rw[uJa,uJa]at e3;simp[wf,uH,e3]
end
end M
namespace M
open PySem L2 DS
theorem qM:∀(l:List Int) (x:Int),vW x l<=x/\∀y∈l,vW x l<=y
 | [],x=>⟨vEa _,fun y hy=>vDa hy (by simp)⟩
 | z::l,x=>by
  obtain⟨h1,h2⟩:=qM l (if z < x then z else x);have e:vW x (z::l)=vW (if z < x then z else x) l:=rfl;rw[e];have h3:(if z < x then z else x)<=x/\(if z < x then z else x)<=z:=by split <;> lia
  refine⟨by lia,fun y hy=>?_⟩;rcases uTa hy with rfl | hy
  ·lia
  ·exact h2 y hy
theorem QJ:∀(l:List Int) (x:Int),vW x l=x \/ vW x l∈l
 | [],x=>.inl rfl
 | z::l,x=>by
  have e:vW x (z::l)=vW (if z < x then z else x) l:=rfl;rw[e];rcases QJ l (if z < x then z else x)with h | h
  ·rw[h];split
   ·exact .inr wNa
   ·exact .inl rfl
  ·exact .inr (wMa _ h)
def QK{l:List Int}{m y:Int}(h:YS l=some m)(hy:y∈l):m<=y:=by
 cases l with
 | nil=>cases h
 | cons x l=>
  cases h;rcases uTa hy with rfl | hy
  ·exact(qM l y).1
  ·exact(qM l x).2 y hy
def qN{l:List Int}{m:Int}(h:YS l=some m):m∈l:=by
 cases l with
 | nil=>cases h
 | cons x l=>
  cases h;rcases QJ l x with h | h
  ·rw[h];exact wNa
  ·exact wMa _ h
def Yp(row costs:List Int):Int->List Int->Int
 | _,[]=>0
 | i,k::r=>jY row costs i k+Yp row costs (i+1) r
variable {b:Bk} {row costs:List Int} {dead:Int}
def QL{s:Sd}{k:Int}(kk:JX b k)(hb:Jf b s k=none)(hp:s.place < b.size):(k,jG b s k)∈jh b s:=by
 have ek:((k.toNat:Nat):Int)=k:=by have:=kk.1;lia
 have es:yh b s ((k.toNat:Nat):Int)=some (jG b s k):=by
  rw[ek];unfold yh;rw[if_neg (by lia),hb];rfl
 have hc:k.toNat < b.kinds.length:=by have:=kk.1;have:=kk.2;lia
 exact List.mem_filterMap.mpr ⟨k.toNat,List.mem_range.mpr hc,by rw[es,ek];rfl⟩
set_option tactic.hygienic true in
theorem aJ:∀(ext:List Int) (s s':Sd),Fit b s->s.place+(ext.length:Int)=b.size->(∀k∈ext,JX b k)->jV b s ext=(s',none)->Ja b row costs dead s<=Yp row costs s.place ext
 | [],s,s',X,hp,_,_=>by
  rw[Gv (by simpa using hp)];exact vEa _
 | k::r,s,s',X,hp,hk,hw=>by
  rw[vXa]at hp;have kk:=hk k wNa;rw[jV]at hw;cases hb:Jf b s k with
  | some w=>rw[hb]at hw;cases hw
  | none=>
   rw[hb]at hw;have hw:jV b (jG b s k) r=(s',none):=hw;have hm:=QL kk hb (by lia);have X2:Fit b (jG b s k):=X.next kk;have pl:(jG b s k).place=s.place+1:=rfl;have ih:=aJ r (jG b s k) s' X2 (by lia) (fun z hz=>hk z (wMa _ hz)) hw;rw[Vh X (by lia),Yp];cases hmin:YS ((jh b s).map fun p=>Ja b row costs dead p.2+jY row costs s.place p.1)with
   | none=>
    exfalso;cases he:jh b s with
    | nil=>rw[he]at hm;cases hm
    | cons a l=>rw[he]at hmin;cases hmin
   | some m=>
    have:m<=Ja b row costs dead (jG b s k)+jY row costs s.place k:=QK hmin (List.mem_map.mpr ⟨_,hm,rfl⟩)
    rw[pl]at ih;show m<=_
    lia
theorem QM{b:Bk}:∀{ps:List (Int×Sd)},cs b ps=0->∀p∈ps,Jh b p.2=0
 | [],_,p,hp=>by cases hp
 | q::ps,h,p,hp=>by
  rw[vK]at h;have h1:=vL b q.2;have h2:=Kr b ps;rcases uTa hp with rfl | hp
  ·lia
  ·exact QM (by lia) p hp
def wg(hc:∀c∈costs,0<=c)(i k:Int):0<=jY row costs i k:=by
 unfold jY;split
 ·exact vEa _
 ·by_cases h:i.toNat < costs.length
  ·rw[uBa,uCa h];exact hc _ (List.getElem_mem h)
  ·rw[uBa,List.getElem?_eq_none (by lia)];exact vEa _
theorem kH(hc:∀c∈costs,0<=c):∀(f:Nat) (s:Sd),Fit b s->s.place+(f:Int)=b.size->Jh b s=0->dead<=Ja b row costs dead s
 | 0,s,X,hp,h=>by
  rw[Gu (by lia)]at h
  lia
 | f+1,s,X,hp,h=>by
  have e:=Vf (b:=b) X (by lia);have e:Jh b s=cs b (jh b s):=e;rw[h]at e;rw[Vh X (by lia)];cases hmin:YS ((jh b s).map fun p=>Ja b row costs dead p.2+jY row costs s.place p.1)with
  | none=>exact vEa _
  | some m=>
   obtain⟨p,hp1,rfl⟩:=uVa (qN hmin);obtain⟨c,hcc,g1,g2⟩:=yo hp1;have sf:=yF X hcc g2;have ih:=kH hc f p.2 sf.1 (by have:=sf.2.1;lia) (QM e.symm p hp1);have:=wg (row:=row) hc s.place p.1;show dead<=Ja b row costs dead p.2+jY row costs s.place p.1
   lia
theorem aK:∀{l:List Int},(∀c∈l,0<=c)->0<=l.sum
 | [],_=>vEa _
 | x::l,h=>by
  rw[List.sum_cons];have h1:=h x wNa;have h2:=aK fun c (hc:c∈l)=>h c (wMa _ hc)
  lia
theorem qO(hc:∀c∈costs,0<=c):∀(ext:List Int) (i:Nat),i+ext.length<=costs.length->Yp row costs (i:Int) ext<=(costs.drop i).sum
 | [],i,_=>by
  show 0<=_;exact aK fun c h=>hc c (List.mem_of_mem_drop h)
 | k::r,i,h=>by
  rw[vXa]at h;have hi:i < costs.length:=by lia
  have ih:=qO hc r (i+1) (by lia);rw[List.drop_eq_getElem_cons hi,List.sum_cons,Yp];have ht:jY row costs (i:Int) k<=costs[i]:=by
   unfold jY;split
   ·exact hc _ (List.getElem_mem hi)
   ·rw[Int.toNat_natCast,uBa,uCa hi];exact vEa _
  have e:((i:Int)+1)=((i+1:Nat):Int):=by lia
  rw[e]
  lia
end M
namespace M
open PySem L2 DS
variable {b:Bk} {row costs:List Int} {dead:Int}
theorem qP{s:Sd}:∀(ext:List Int) (j:Nat) (t t':Sd),t∈jc b s j->t.place+(ext.length:Int)<=b.size->(∀k∈ext,JX b k)->jV b t ext=(t',none)->t'∈jc b s (j+ext.length)
 | [],j,t,t',ht,_,_,hw=>by cases hw;exact ht
 | k::r,j,t,t',ht,hp,hk,hw=>by
  rw[vXa]at hp;rw[jV]at hw;cases hb:Jf b t k with
  | some w=>rw[hb]at hw;cases hw
  | none=>
   rw[hb]at hw;have hw:jV b (jG b t k) r=(t',none):=hw;have hm:=QL (hk k wNa) hb (by lia);have pl:(jG b t k).place=t.place+1:=rfl;have:=qP r (j+1) (jG b t k) t' (ye.mpr ⟨t,ht,_,hm,rfl⟩) (by lia) (fun z hz=>hk z (wMa _ hz)) hw;rw[vXa,show j+(r.length+1)=j+1+r.length by lia];exact this
theorem wj{s:Sd}:∀(j:Nat) (t:Sd),t∈jc b s j->∃ext:List Int,ext.length=j/\(∀k∈ext,JX b k)/\jV b s ext=(t,none)
 | 0,t,h=>by
  simp[jc]at h;subst h;exact⟨[],rfl,(fun k hk=>vDa hk (by simp)),rfl⟩
 | j+1,t,h=>by
  obtain⟨u,hu,p,hp,rfl⟩:=ye.mp h;obtain⟨c,hc,e1,e2⟩:=yo hp;obtain⟨b1,b2,b3⟩:=JV e2;obtain⟨ext,h1,h2,h3⟩:=wj j u hu;refine⟨ext++[(c:Int)],by rw[vZa,h1];rfl,zD h2 ⟨by lia,by lia⟩,?_⟩;rw[b2];exact Kp h3 b1
def wk{s:Sd}(X:Fit b s){m:Nat}(hm:s.place+(m:Int)=b.size):jc b s m=[]↔Jh b s=0:=by
 constructor
 ·intro h;refine Classical.byContradiction fun c=>?_;have:=vL b s;obtain⟨i1,⟨s',i2⟩,i3,_⟩:=BZ m s 0 X hm (vEa 0) (by lia);have:=qP (s:=s) (uw b m s 0) 0 s s' (by simp[jc]) (by rw[i1];lia) i3 i2;rw[i1,Nat.zero_add,h]at this;cases this
 ·intro h;rw[List.eq_nil_iff_forall_not_mem];intro t ht;obtain⟨ext,h1,h2,h3⟩:=wj m t ht;obtain⟨n1,n2,_⟩:=aF ext s t X (by rw[h1];exact hm) h2 h3
  lia
theorem kK{s:Sd}{n:Nat}(h:jc b s n=[]):∀m,jc b s (n+m)=[]
 | 0=>h
 | m+1=>by
  show zm b (jc b s (n+m))=[]
  rw[kK h m];rfl
section
variable (b row costs dead)
def kL(s:Sd)(p:Int×Sd):Bool:=decide (Ja b row costs dead p.2+jY row costs s.place p.1=Ja b row costs dead s)
def Zj:Nat->Sd->List Int
 | 0,_=>[]
 | f+1,s=>match (jh b s).find? (kL b row costs dead s)with
  | some p=>p.1::Zj f p.2
  | none=>[]
end
def wR{s:Sd}(X:Fit b s)(hp:s.place < b.size)(hc:0 < Jh b s):∃p,(jh b s).find? (kL b row costs dead s)=some p/\p∈jh b s/\Ja b row costs dead p.2+jY row costs s.place p.1=Ja b row costs dead s:=by
 cases hf:(jh b s).find? (kL b row costs dead s)with
 | some p=>exact⟨p,rfl,List.mem_of_find?_eq_some hf,by
   have h:kL b row costs dead s p=true:=List.find?_some hf;exact vCa h⟩
 | none=>
  exfalso;rw[List.find?_eq_none]at hf;have e:=Vf (b:=b) X hp;cases hs:jh b s with
  | nil=>rw[e,hs]at hc;simp at hc
  | cons q l=>
   have e2:=Vh (row:=row) (costs:=costs) (dead:=dead) X hp;cases hmin:YS ((jh b s).map fun p=>Ja b row costs dead p.2+jY row costs s.place p.1)with
   | none=>rw[hs]at hmin;cases hmin
   | some m=>
    rw[hmin]at e2;obtain⟨p,hp1,hp2⟩:=uVa (qN hmin);exact hf p hp1 (decide_eq_true (by rw[hp2,e2];rfl))
theorem ca(hcc:∀c∈costs,0<=c):∀(f:Nat) (s:Sd),Fit b s->s.place+(f:Int)=b.size->0 < Jh b s->Ja b row costs dead s < dead->(Zj b row costs dead f s).length=f/\(∃s',jV b s (Zj b row costs dead f s)=(s',none))/\(∀k∈Zj b row costs dead f s,JX b k)/\Yp row costs s.place (Zj b row costs dead f s)=Ja b row costs dead s
 | 0,s,X,hp,hc,hd=>⟨rfl,⟨s,rfl⟩,(fun k hk=>vDa hk (by simp[Zj])),by rw[Gv (by lia)];rfl⟩
 | f+1,s,X,hp,hc,hd=>by
  obtain⟨p,e1,e2,e3⟩:=wR (row:=row) (costs:=costs) (dead:=dead) X (by lia) hc;obtain⟨c,hcl,g1,g2⟩:=yo e2;obtain⟨b1,b2,b3⟩:=JV g2;have sf:=yF X hcl g2;have pl:=sf.2.1;have ht:=wg (row:=row) hcc s.place p.1;have hpc:0 < Jh b p.2:=by
   have h0:=vL b p.2;refine Classical.byContradiction fun z=>?_;have:=kH (row:=row) (dead:=dead) hcc f p.2 sf.1 (by lia) (by lia)
   lia
  obtain⟨i1,⟨s',i2⟩,i3,i4⟩:=ca hcc f p.2 sf.1 (by lia) hpc (by lia);have es:Zj b row costs dead (f+1) s=p.1::Zj b row costs dead f p.2:=by rw[Zj,e1]
  rw[es];refine⟨by rw[vXa,i1],⟨s',?_⟩,?_,?_⟩
  ·rw[jV,g1,b1];show jV b (jG b s (c:Int)) _=_;rw[<-b2];exact i2
  ·intro k hk;rcases uTa hk with rfl | hk
   ·rw[g1];exact⟨by lia,by lia⟩
   ·exact i3 k hk
  ·rw[Yp,<-pl,i4]
   lia
section
variable (C:Addr) (ok:OkB b) (hr:(row.length:Int)=b.size) (hc:(costs.length:Int)=b.size)
include ok hr hc
theorem QN(r0:Sl)(l:List Sd)(s:Sd)(hs:s∈l)(h0:0<=s.place)(h1:s.place < b.size):∀(ps:List (Int×Sd)),(∀p∈ps,p.2∈l)->∀(x5 x6:Sl),∃y5 y6:Sl,
  jU YV (Jq C) (ps.map pD) [r0,.bo (.lst (row.map .int)),.bo (.lst (costs.map .int)),.bo (.dct (l.map j3) (l.map (nD b row costs dead))),.bo (j3 s),x5,x6]=
  match ps.find? (kL b row costs dead s)with
  | some p=>some (.rt (.tup [.int p.1,j3 p.2]))
  | none=>some (.nx [r0,.bo (.lst (row.map .int)),.bo (.lst (costs.map .int)),.bo (.dct (l.map j3) (l.map (nD b row costs dead))),.bo (j3 s),y5,y6])
 | [],_,x5,x6=>⟨x5,x6,rfl⟩
 | p::ps,h,x5,x6=>by
  have g:=ZU (f:=nD b row costs dead) (h p wNa);have g1:=ZU (f:=nD b row costs dead) hs;have g2:=we (row:=row) (costs:=costs) C s p.1 h0 (by lia) (by lia);obtain⟨y5,y6,e⟩:=QN r0 l s hs h0 h1 ps (fun q hq=>h q (wMa _ hq)) (.cl (.int p.1)) (.cl (j3 p.2));refine⟨y5,y6,?_⟩;rw[vWa,jU,List.find?_cons];have e0:YV (pD p) [r0,.bo (.lst (row.map .int)),.bo (.lst (costs.map .int)),.bo (.dct (l.map j3) (l.map (nD b row costs dead))),.bo (j3 s),x5,x6]=some [r0,.bo (.lst (row.map .int)),.bo (.lst (costs.map .int)),.bo (.dct (l.map j3) (l.map (nD b row costs dead))),.bo (j3 s),.cl (.int p.1),.cl (j3 p.2)]:=rfl;rw[e0];show(Jq C _).bind _=_;cases hf:kL b row costs dead s p with
  | true=>
   have hf:=vCa hf;have e1:Jq C [r0,.bo (.lst (row.map .int)),.bo (.lst (costs.map .int)),.bo (.dct (l.map j3) (l.map (nD b row costs dead))),.bo (j3 s),.cl (.int p.1),.cl (j3 p.2)]=some (.rt (.tup [.int p.1,j3 p.2])):=by
    simp only[Jq];simp[g,g1,g2,nD,hf]
   rw[e1];rfl
  | false=>
   have hf:=of_decide_eq_false hf;have e1:Jq C [r0,.bo (.lst (row.map .int)),.bo (.lst (costs.map .int)),.bo (.dct (l.map j3) (l.map (nD b row costs dead))),.bo (j3 s),.cl (.int p.1),.cl (j3 p.2)]=some (.nx [r0,.bo (.lst (row.map .int)),.bo (.lst (costs.map .int)),.bo (.dct (l.map j3) (l.map (nD b row costs dead))),.bo (j3 s),.cl (.int p.1),.cl (j3 p.2)]):=by
    simp only[Jq];simp[g,g1,g2,nD,hf]
   rw[e1];exact e
theorem bE(l:List Sd)(s:Sd)(X:Fit b s)(hs:s∈l)(h0:0<=s.place)(h1:s.place < b.size)(hl:∀p∈jh b s,p.2∈l)(p:Int×Sd)(hp:(jh b s).find? (kL b row costs dead s)=some p):zU C [jj C b,.lst (row.map .int),.lst (costs.map .int),.dct (l.map j3) (l.map (nD b row costs dead)),j3 s]=some (.tup [.int p.1,j3 p.2]):=by
 have e5:=kE C b s ok X;obtain⟨y5,y6,e⟩:=QN (dead:=dead) C ok hr hc (.bo (jj C b)) l s hs h0 h1 (jh b s) hl .un .un;rw[hp]at e;simp only[zU,zT];simp[e5,e]
theorem qQ(hcc:∀c∈costs,0<=c)(s0:Sd)(l:List Sd)(hl:∀j,∀t∈jc b s0 j,t∈l):∀(m n:Nat) (r:List Int) (t:Sd) (j:Nat),(r.length:Int)+(m:Int)=b.size->m < n->Fit b t->t.place=(r.length:Int)->t∈jc b s0 j->0 < Jh b t->Ja b row costs dead t < dead->∀x6:Sl,∃y5 y6:Sl,
  ZK (JB C) (yB C) n [.bo (jj C b),.bo (.lst (row.map .int)),.bo (.lst (costs.map .int)),.bo (.dct (l.map j3) (l.map (nD b row costs dead))),.ow none (.lst (r.map .int)),.cl (j3 t),x6]=
  some (.nx [.bo (jj C b),.bo (.lst (row.map .int)),.bo (.lst (costs.map .int)),.bo (.dct (l.map j3) (l.map (nD b row costs dead))),.ow none (.lst ((r++Zj b row costs dead m t).map .int)),y5,y6])
 | m,0,_,_,_,_,hn,_,_,_,_,_,x6=>vDa hn (Nat.not_lt_zero _)
 | 0,n+1,r,t,j,hm,hn,X,hp,ht,h1,hd,x6=>by
  have ef:jK C "size" (jj C b)=some (.int b.size):=by simp[jK,jj]
  have hq:JB C [.bo (jj C b),.bo (.lst (row.map .int)),.bo (.lst (costs.map .int)),.bo (.dct (l.map j3) (l.map (nD b row costs dead))),.ow none (.lst (r.map .int)),.cl (j3 t),x6]=some false:=by
   have:¬(r.length:Int) < b.size:=by lia
   simp only[JB];simp[ef,Y3,this]
  refine⟨.cl (j3 t),x6,?_⟩;rw[ZK,hq,Zj,uFa];rfl
 | m+1,n+1,r,t,j,hm,hn,X,hp,ht,h1,hd,x6=>by
  have s2:=ok.s2;have ef:jK C "size" (jj C b)=some (.int b.size):=by simp[jK,jj]
  have hq:JB C [.bo (jj C b),.bo (.lst (row.map .int)),.bo (.lst (costs.map .int)),.bo (.dct (l.map j3) (l.map (nD b row costs dead))),.ow none (.lst (r.map .int)),.cl (j3 t),x6]=some true:=by
   have:(r.length:Int) < b.size:=by lia
   simp only[JB];simp[ef,Y3,this]
  have hst:∀p∈jh b t,p.2∈jc b s0 (j+1):=fun p hp=>ye.mpr ⟨t,ht,p,hp,rfl⟩;obtain⟨p,e1,e2,e3⟩:=wR (row:=row) (costs:=costs) (dead:=dead) X (by lia) h1;have ev:=bE (dead:=dead) C ok hr hc l t X (hl _ _ ht) (by lia) (by lia) (fun p hp=>hl _ _ (hst p hp)) p e1;obtain⟨c,hcl,g1,g2⟩:=yo e2;have sf:=yF X hcl g2;have pl:=sf.2.1;have htl:=wg (row:=row) hcc t.place p.1;have hpc:0 < Jh b p.2:=by
   have h0:=vL b p.2;refine Classical.byContradiction fun z=>?_;have:=kH (row:=row) (dead:=dead) hcc m p.2 sf.1 (by lia) (by lia)
   lia
  have zl:r.length < sizeLine:=jo (by lia);have ew:yB C [.bo (jj C b),.bo (.lst (row.map .int)),.bo (.lst (costs.map .int)),.bo (.dct (l.map j3) (l.map (nD b row costs dead))),.ow none (.lst (r.map .int)),.cl (j3 t),x6]=some (.nx [.bo (jj C b),.bo (.lst (row.map .int)),.bo (.lst (costs.map .int)),.bo (.dct (l.map j3) (l.map (nD b row costs dead))),.ow none (.lst ((r++[p.1]).map .int)),.cl (j3 p.2),.cl (.int p.1)]):=by
   simp only[yB];simp[ev,zl]
  obtain⟨y5,y6,ih⟩:=qQ hcc s0 l hl m n (r++[p.1]) p.2 (j+1) (by simp;lia) (by lia) sf.1 (by simp;lia) (hst p e2) hpc (by lia) (.cl (.int p.1));refine⟨y5,y6,?_⟩;rw[ZK,hq,uEa,if_pos rfl,ew];show ZK _ _ n _=_;rw[ih,Zj,e1,List.append_assoc];rfl
end
end M
namespace M
open PySem L2 DS
variable {b:Bk} {row costs:List Int}
section
variable (C:Addr) (ok:OkB b) (hr:(row.length:Int)=b.size) (hk:∀n∈row,JX b n) (hc:(costs.length:Int)=b.size) (hcc:∀c∈costs,1<=c/\c<=9)
include ok hr hk hc hcc
theorem wm:zP C [jj C b,.lst (row.map .int),.lst (costs.map .int)]=some .non:=by
 have s2:=ok.s2;have e1:=gH C b row ok ⟨hk,by lia⟩;have ef:jK C "size" (jj C b)=some (.int b.size):=by simp[jK,jj]
 have e2:Ji (gN 0) jx (Jc Jb Jb (dK (.int 1)) (dV 0) (dK (.int 9))) (costs.map D.int) [.un]=some (costs.map fun _=>.bl true):=jX D.int _ fun c hx=>⟨[.cl (.int c)],rfl,rfl,by
  have h:=hcc c hx;simp[Jb,h.1,h.2]⟩
 have e3:Yt [.lst (costs.map fun _=>D.bl true)]=some (.bl true):=by
  show(uF _).bind _=_;rw[zw];simp
 have z:costs.length<=sizeLine:=wQa (jo (by lia));have n1:¬(row.length:Int) < b.size:=by lia
 simp only[zP,V1];simp[-Yt,e1,ef,hc,hr,n1,e2,e3,z,Y3]
theorem qR(hcnt:0 < Jh b (jb b)):Ja b row costs (costs.sum+1) (jb b) < costs.sum+1:=by
 have s1:=ok.s1;have X:=Fit.empty b;have hp:(jb b).place+(((b.size).toNat:Nat):Int)=b.size:=by show(0:Int)+_=_;lia
 obtain⟨t,ht⟩:∃t,t∈jc b (jb b) b.size.toNat:=by
  cases e:jc b (jb b) b.size.toNat with
  | nil=>
   have:=(wk X hp).mp e
   lia
  | cons t l=>exact⟨t,wNa⟩
 obtain⟨ext,i1,i3,i2⟩:=wj _ _ ht;have h1:=aJ (row:=row) (costs:=costs) (dead:=costs.sum+1) ext (jb b) t X (by rw[i1];exact hp) i3 i2;have h2:=qO (row:=row) (costs:=costs) (fun c h=>by have:=hcc c h;lia) ext 0 (by lia);rw[List.drop_zero]at h2;have h3:Yp row costs (jb b).place ext=Yp row costs ((0:Nat):Int) ext:=rfl
 lia
theorem aL(F:Few b)(hcnt:Jh b (jb b)=0):Yz C [jj C b,.lst (row.map .int),.lst (costs.map .int)]=some .non:=by
 have s1:=ok.s1;have e1:=wm C ok hr hk hc hcc;have e2:=Ua C b ok;obtain⟨n,e3,_,e4,e5⟩:=gO C b ok (jb b) (gQ ok F);have hn:(n:Int)<=b.size:=by
  refine Classical.byContradiction fun c=>?_;have hl:=(wk (b:=b) (Fit.empty b) (m:=b.size.toNat) (by show(0:Int)+_=_;lia)).mpr hcnt;exact e5 b.size.toNat (by lia) hl
 have ef:jK C "size" (jj C b)=some (.int b.size):=by simp[jK,jj]
 simp only[Yz,uW,Qk];simp[e1,e2,e3,ef,Ve,Jb,hn]
theorem aM(F:Few b)(hcnt:0 < Jh b (jb b)):∃n:Nat,n<=32/\b.size < (n:Int)/\jc b (jb b) n=[]/\Yz C [jj C b,.lst (row.map .int),.lst (costs.map .int)]=some (.tp (Ja b row costs (costs.sum+1) (jb b)) ((Zj b row costs (costs.sum+1) b.size.toNat (jb b)).map .int) (.lst ((List.range n).map fun j=>.lst ((jc b (jb b) j).map fun t=>.tup [j3 t,nD b row costs (costs.sum+1) t])))):=by
 have s1:=ok.s1;have s2:=ok.s2;have e1:=wm C ok hr hk hc hcc;have e2:=Ua C b ok;have L:=gQ ok F;obtain⟨n,e3,n32,e4,e5⟩:=gO C b ok (jb b) L;have hn:¬(n:Int)<=b.size:=fun c=>by
  have h1:=kK e4 (b.size.toNat - n);rw[show n+(b.size.toNat - n)=b.size.toNat by lia]at h1;have hl:=(wk (b:=b) (Fit.empty b) (m:=b.size.toNat) (by show(0:Int)+_=_;lia)).mp h1
  lia
 obtain⟨l,e6,e7⟩:=w_ (row:=row) (costs:=costs) C ok hr hc (jb b) L n e4;have hl:∀j,∀t∈jc b (jb b) j,t∈l:=fun j t ht=>by
  by_cases q:j<=n
  ·exact e7 j q t ht
  ·have:=kK e4 (j - n);rw[show n+(j - n)=j by lia]at this;rw[this]at ht;cases ht
 have h0:jb b∈jc b (jb b) 0:=by simp[jc]
 have hlt:=qR ok hr hk hc hcc hcnt;obtain⟨y5,y6,e8⟩:=qQ (dead:=costs.sum+1) C ok hr hc (fun c h=>by have:=hcc c h;lia) (jb b) l hl b.size.toNat 20000 [] (jb b) 0 (by simp;lia) (by lia) (Fit.empty b) rfl h0 hcnt hlt .un;rw[uQa,uJa]at e8;have e9:zC C [jj C b,.lst (row.map .int),.lst (costs.map .int),.dct (l.map j3) (l.map (nD b row costs (costs.sum+1)))]=some (.lst ((Zj b row costs (costs.sum+1) b.size.toNat (jb b)).map .int)):=by
  simp only[zC,zB];simp[e2,e8]
 have g:=ZU (f:=nD b row costs (costs.sum+1)) (hl 0 _ h0);have ein:∀j,Ji (gN 0) jx (yk [(tC 0),(true,(d2 JS (dV 1) (dV 0)))]) ((jc b (jb b) j).map j3) [.un,.cl (.dct (l.map j3) (l.map (nD b row costs (costs.sum+1))))]=some ((jc b (jb b) j).map fun t=>.tup [j3 t,nD b row costs (costs.sum+1) t]):=fun j=>
  jX j3 _ fun t ht=>⟨[.cl (j3 t),.cl (.dct (l.map j3) (l.map (nD b row costs (costs.sum+1))))],rfl,rfl,by
   have:=ZU (f:=nD b row costs (costs.sum+1)) (hl j t ht);simp[this]⟩
 have eout:Ji (gN 0) jx (dL (JO 1 [1] (K7 (dP 0)) (gN 0) jx (yk [(tC 0),(true,(d2 JS (dV 1) (dV 0)))]))) (ym b (jb b) n) [.un,.cl (.dct (l.map j3) (l.map (nD b row costs (costs.sum+1))))]=some ((List.range n).map fun j=>.lst ((jc b (jb b) j).map fun t=>.tup [j3 t,nD b row costs (costs.sum+1) t])):=by
  unfold ym;refine jX _ _ fun j hj=>⟨[.cl (JW b (jc b (jb b) j)),.cl (.dct (l.map j3) (l.map (nD b row costs (costs.sum+1))))],rfl,rfl,?_⟩
  have zj:(jc b (jb b) j).length<=sizeLine:=by
   have:=L.len j;have e:(10000000:Nat) < sizeLine:=by decide
   lia
  have ek:=ein j;revert ek;generalize (yk [(tC 0),(true,(d2 JS (dV 1) (dV 0)))])=dd;intro ek;simp[JW,K6,ek,zj,JZ]
 have ef:jK C "size" (jj C b)=some (.int b.size):=by simp[jK,jj]
 have zn:n<=sizeLine:=wQa (jo (by lia));refine⟨n,n32,by lia,e4,?_⟩;simp only[Yz,uW,Qk];revert eout;generalize (dL (JO 1 [1] (K7 (dP 0)) (gN 0) jx (yk [(tC 0),(true,(d2 JS (dV 1) (dV 0)))])))=dd;intro eout;simp[e1,e2,e3,ef,Ve,Jb,hn,e6,e9,eout,zn,g,JZ];rfl
end
end M
namespace M
open PySem L2 DS
def bF(C:Addr)(b:Bk)(ok:OkB b)(ds:List Int)(hd:41<=ds.length):∃row:List Int,VR C [jW b,.lst (ds.map .int)]=some (.lst (row.map .int))/\(row.length:Int)=b.size/\∀n∈row,JX b n:=by
 have s1:=ok.s1;have s2:=ok.s2;have k1:=ok.k1;have z62:Ju b.size=true:=yv (by lia) (by lia);have a40:=Jz (f:=D.int) (xs:=ds) (d:=0) (k:=40) (by decide) (by lia);generalize ds.getD (40:Int).toNat 0=v40 at a40;obtain⟨Z1,L1,r,x3,rfl,hr,hk⟩:=J6 (g:=Uq) (s:=zh C) (items:=Jd 0 b.size.toNat)
  (fun i Z=>∃(r:List Int) (x3:Sl),Z=[.bo (jW b),.bo (.lst (ds.map .int)),.ow none (.lst (r.map .int)),x3]/\r.length=i/\∀n∈r,JX b n) (by
  rintro i d Z hd' ⟨r,x3,rfl,hr,hk⟩;obtain⟨hi,rfl⟩:=Uf hd';have hi2:(i:Int) < (ds.length:Int):=by lia
  have ai:=Jz (f:=D.int) (xs:=ds) (d:=0) (k:=(i:Int)) (by lia) hi2;generalize ds.getD (i:Int).toNat 0=v at ai;have pk:0 < b.kinds.length:=by lia
  have m1:=Jn (a:=v) (b:=(b.kinds.length:Int)) (by lia);have zr:r.length < sizeLine:=jo (by lia);have hk1:∀n∈r++[v % (b.kinds.length:Int)],JX b n:=zD hk ⟨m1.1,by lia⟩;generalize ez:v % (b.kinds.length:Int)=z at hk1;have em:r.map D.int++[D.int z]=(r++[z]).map D.int:=by rw[uDa];rfl
  by_cases c:(v40 % 2=1/\0 < (i:Int))/\0 < v / 7 % 3
  ·obtain⟨⟨c1,c2⟩,c3⟩:=c;have hl1:(i:Int) - 1 < ((r++[z]).length:Int):=by rw[vZa,hr];simp;lia
   have ap:=Jz (f:=D.int) (xs:=r++[z]) (d:=0) (k:=(i:Int) - 1) (by lia) hl1;have hy:JX b ((r++[z]).getD ((i:Int) - 1).toNat 0):=hk1 _ (qp (by lia) hl1);generalize (r++[z]).getD ((i:Int) - 1).toNat 0=y at ap hy;have ix:∀n:Nat,n=i+1->u6 n (i:Int)=some i:=fun n hn=>by
    have:=qc (n:=n) (k:=(i:Int)) (by lia) (by lia);rwa [Int.toNat_natCast]at this
   refine⟨_,_,rfl,?_,(r++[z]).set i y,.cl (.int (i:Int)),rfl,by rw[List.length_set,vZa,hr];rfl,fun n hn=>?_⟩
   ·simp only[zh];have c2':0 < i:=by lia
    have zi:i < sizeLine:=hr▸zr;have es:((r++[z]).map D.int).set i (D.int y)=((r++[z]).set i y).map D.int:=by rw[List.map_set]
    simp[-List.map_append,-List.map_set,ai,a40,pk,ez,zi,em,c1,c2',c3,ap,ix,hr,yu,es]
   ·rcases List.mem_or_eq_of_mem_set hn with hn | rfl
    ·exact hk1 n hn
    ·exact hy
  ·refine⟨_,_,rfl,?_,r++[z],.cl (.int (i:Int)),rfl,by rw[vZa,hr];rfl,hk1⟩;simp only[zh];by_cases c1:v40 % 2=1
   ·by_cases c2:0 < i
    ·have c3:¬0 < v / 7 % 3:=fun z=>c ⟨⟨c1,by lia⟩,z⟩;simp[ai,a40,pk,ez,zr,c1,c2,c3,yu]
    ·simp[ai,a40,pk,ez,zr,c1,c2,yu]
   ·simp[ai,a40,pk,ez,zr,c1,yu]) (Z:=[.bo (jW b),.bo (.lst (ds.map .int)),.ow none (.lst []),.un]) ⟨[],.un,rfl,rfl,fun n hn=>vDa hn (by simp)⟩
 rw[show(Jd 0 b.size.toNat).length=b.size.toNat by simp[Jd]]at hr;refine⟨r,?_,by lia,hk⟩;simp only[VR,VQ];simp[z62,L1]
def bG(C:Addr)(b:Bk)(ok:OkB b)(ds:List Int)(hd:41<=ds.length):∃costs:List Int,zO C [jW b,.lst (ds.map .int)]=some (.lst (costs.map .int))/\(costs.length:Int)=b.size/\∀c∈costs,1<=c/\c<=9:=by
 have s1:=ok.s1;have s2:=ok.s2;have z62:Ju b.size=true:=yv (by lia) (by lia);have zz:(Jd 0 b.size.toNat).length<=sizeLine:=by rw[Jd,vYa,List.length_range];exact wQa (jo (by lia))
 have a40:=Jz (f:=D.int) (xs:=ds) (d:=0) (k:=40) (by decide) (by lia);generalize ds.getD (40:Int).toNat 0=v40 at a40;by_cases c:v40 % 3=0
 ·have e1:Ji (gN 0) jx (dK (.int 1)) (Jd 0 b.size.toNat) [.un]=some ((List.range b.size.toNat).map fun _=>.int 1):=jX _ _ fun i hi=>⟨_,rfl,rfl,rfl⟩
  refine⟨(List.range b.size.toNat).map fun _=>1,?_,by simp;lia,fun c hc=>?_⟩
  ·have em:((List.range b.size.toNat).map fun _=>(1:Int)).map D.int=(List.range b.size.toNat).map fun _=>D.int 1:=by rw[List.map_map];rfl
   rw[em];simp only[zO,zN];simp[a40,c,z62,e1,zz,JZ]
  ·obtain⟨_,_,rfl⟩:=uVa hc
   decide
 ·have e1:Ji (gN 0) jx (d2 jy (dK (.int 1)) (d2 Jg (d2 j9 (dV 1) (dV 0)) (dK (.int 9)))) (Jd 0 b.size.toNat) [.un,.bo (.lst (ds.map .int))]=some ((List.range b.size.toNat).map fun(i:Nat)=>.int (1+ds.getD i 0 % 9)):=jX _ _ fun i hi=>⟨[.cl (.int (0+(i:Int))),.bo (.lst (ds.map .int))],rfl,rfl,by
   rw[List.mem_range]at hi;have ai:=Jz (f:=D.int) (xs:=ds) (d:=0) (k:=(i:Int)) (by lia) (by lia);rw[Int.toNat_natCast]at ai;simp[-List.getD_eq_getElem?_getD,ai]⟩
  refine⟨(List.range b.size.toNat).map fun(i:Nat)=>1+ds.getD i 0 % 9,?_,by simp;lia,fun c hc=>?_⟩
  ·have em:((List.range b.size.toNat).map fun(i:Nat)=>1+ds.getD i 0 % 9).map D.int=(List.range b.size.toNat).map fun(i:Nat)=>D.int (1+ds.getD i 0 % 9):=by rw[List.map_map];rfl
   rw[em];simp only[zO,zN];generalize (d2 jy (dK (.int 1)) (d2 Jg (d2 j9 (dV 1) (dV 0)) (dK (.int 9))))=dd at e1⊢;simp[-List.getD_eq_getElem?_getD,a40,c,z62,e1,zz,JZ]
  ·obtain⟨i,_,rfl⟩:=uVa hc;have:=Jn (a:=ds.getD i 0) (b:=9) (by decide)
   lia
def QO(C:Addr)(row costs:List Int)(k x:Int)(h0:0<=k)(h1:k < (row.length:Int))(h2:k < (costs.length:Int)):Y6 C [.lst (row.map .int),.lst (costs.map .int),.int k,.int x]=some (.int (jY row costs k x)):=by
 have e1:=Jz (f:=D.int) (xs:=row) (d:=0) h0 h1;have e2:=Jz (f:=D.int) (xs:=costs) (d:=0) h0 h2;simp only[Y6,VT];by_cases c:row.getD k.toNat 0=x
 ·simp[-List.getD_eq_getElem?_getD,e1,c,jY]
 ·simp[-List.getD_eq_getElem?_getD,e1,e2,c,jY]
theorem wS(row costs:List Int):∀(ext:List Int) (i:Nat),Yp row costs (i:Int) ext=((List.range ext.length).map fun(k:Nat)=>jY row costs ((i+k:Nat):Int) (ext.getD k 0)).sum
 | [],i=>rfl
 | x::r,i=>by
  have ih:=wS row costs r (i+1);rw[Yp,vXa,List.range_succ_eq_map,vWa,List.sum_cons,List.map_map,show((i:Int)+1)=((i+1:Nat):Int) by lia,ih];congr 1;congr 1;refine List.map_congr_left fun k _=>?_;show _=jY row costs ((i+(k+1):Nat):Int) ((x::r).getD (k+1) 0);rw[show i+(k+1)=i+1+k by lia];rfl
noncomputable abbrev Pr:=Sd×Int
def J0(p:Pr):D:=.tup [j3 p.1,.int p.2]
noncomputable def st(m:List Pr):List Sd:=m.map (·.1)
def Jw(m:List Pr):List D:=m.map fun p=>j3 p.1
noncomputable def JI(m:List Pr):List D:=m.map fun p=>.int p.2
def Fm(m:List Pr):Jw m=(st m).map j3:=by unfold Jw st;rw[List.map_map];rfl
def gR(m:List Pr):jI (Jw m)=some ((st m).map kS):=by rw[Fm,Gq]
noncomputable def lk:List Pr->Sd->Option Int
 | [],_=>none
 | p::m,s=>if p.1=s then some p.2 else lk m s
theorem wo(s:Sd):∀m:List Pr,JT ((st m).map kS) (JI m) (kS s)=(lk m s).map D.int
 | []=>by rw[st,JI,lk];rfl
 | p::m=>by
  have ih:=wo s m;show JT (kS p.1::(st m).map kS) (D.int p.2::JI m) (kS s)=_;rw[JT,lk,ih];by_cases e:p.1=s
  ·rw[if_pos (by rw[e]),if_pos e];rfl
  ·rw[if_neg fun z=>e (Kq z),if_neg e]
theorem qS{s:Sd}:∀{m:List Pr},(lk m s).isSome=true↔s∈st m
 | []=>by simp[lk,st]
 | p::m=>by
  have ih:=qS (s:=s) (m:=m);show(lk (p::m) s).isSome=true↔s∈p.1::st m;rw[lk,List.mem_cons];by_cases e:p.1=s
  ·rw[if_pos e];simp[e]
  ·rw[if_neg e,ih];exact⟨.inr,fun z=>z.resolve_left fun y=>e y.symm⟩
def cb{m:List Pr}{s:Sd}{v:Int}(h:lk m s=some v):JS (.dct (Jw m) (JI m)) (j3 s)=some (.int v):=by
 show(J8 (j3 s)).bind _=_;rw[Zc];show(jI (Jw m)).bind _=_;rw[gR];show JT ((st m).map kS) (JI m) (kS s)=_;rw[wo,h];rfl
def Fo(m:List Pr)(s:Sd)(y:Int):xF (.dct (Jw m) (JI m)) (j3 s) (.int y)=some (.int ((lk m s).getD y)):=by
 show((J8 (j3 s)).bind fun q=>(jI (Jw m)).bind fun qs=>some ((JT qs (JI m) q).getD (.int y)))=_;rw[Zc,gR];show some ((JT ((st m).map kS) (JI m) (kS s)).getD (.int y))=_;rw[wo];cases lk m s <;> rfl
def ce(m:List Pr)(s:Sd):G_ true (j3 s) (.dct (Jw m) (JI m))=some (.bl (!(lk m s).isSome)):=by
 show((J8 (j3 s)).bind fun q=>(jI (Jw m)).bind fun qs=>some (D.bl (xor true (decide (q∈qs)))))=_;rw[Zc,gR];show some (D.bl (xor true (decide (kS s∈(st m).map kS))))=_;by_cases h:s∈st m
 ·rw[decide_eq_true (Zd.mpr h),qS.mpr h];rfl
 ·rw[decide_eq_false fun z=>h (Zd.mp z),Bool.eq_false_iff.mpr fun z=>h (qS.mp z)];rfl
def qT(m:List Pr):(st m).length=m.length:=List.length_map _
def wq{m l:List Pr}{p:Pr}(h:(st (m++p::l)).Nodup):p.1∉st m/\(st ((m++[p])++l)).Nodup:=by
 refine⟨fun z=>?_,by simpa using h⟩;unfold st at h z;rw[uDa,List.nodup_append]at h;exact h.2.2 p.1 z p.1 wNa rfl
def aN{m:List Pr}{p:Pr}(e:p.1∉st m):zg ((st m).map kS) (Jw m) (kS p.1) (j3 p.1)=Jw (m++[p]):=by
 unfold zg;rw[if_neg fun z=>e (Zd.mp z)];unfold Jw;rw[uDa];rfl
def aO{m:List Pr}{p:Pr}(e:p.1∉st m):zM ((st m).map kS) (JI m) (kS p.1) (.int p.2)=JI (m++[p]):=by
 unfold zM;rw[if_neg fun z=>e (Zd.mp z)];unfold JI;rw[uDa];rfl
theorem qU:∀l m:List Pr,(st (m++l)).Nodup->Y_ (l.map J0) (Jw m) (JI m)=some (Jw (m++l),JI (m++l))
 | [],m,_=>by rw[uFa];rfl
 | p::l,m,h=>by
  obtain⟨h1,h2⟩:=wq h;rw[vWa,Y_];show((J8 (j3 p.1)).bind fun x=>(jI (Jw m)).bind fun qs=>Y_ (l.map J0) (zg qs (Jw m) x (j3 p.1)) (zM qs (JI m) x (.int p.2)))=_;rw[Zc,gR];show Y_ _ (zg ((st m).map kS) (Jw m) (kS p.1) (j3 p.1)) (zM ((st m).map kS) (JI m) (kS p.1) (.int p.2))=_;rw[aN h1,aO h1,qU l _ h2];simp
def Fp{l:List Pr}(h:(st l).Nodup):vV [.lst (l.map J0)]=some (.dct (Jw l) (JI l)):=by
 have:=qU l [] h;show(Y_ (l.map J0) [] []).bind _=_;rw[show Jw []=[] from rfl,show JI []=[] from rfl]at this;rw[this];rfl
abbrev g2:DG:=gT 2 (gC (gN 0) (gC (gN 1) gZ))
abbrev g3:DG:=gT 2 (gC (gN 1) (gC (gN 2) gZ))
theorem cf:∀(l m:List Pr) (x y:Sl),m.length+l.length<=8192->(st (m++l)).Nodup->Ka g2 (dC 0) (l.map J0) [x,y] ((st m).map kS)=some ((st (m++l)).map kS)
 | [],m,x,y,_,_=>by rw[uFa];rfl
 | p::l,m,x,y,h,nd=>by
  obtain⟨h1,h2⟩:=wq nd;rw[vXa]at h;have g:g2 (J0 p) [x,y]=some [.cl (j3 p.1),.cl (.int p.2)]:=rfl;rw[vWa,Ka,g,uEa];show((J8 (j3 p.1)).bind _)=_;rw[Zc,uEa,if_pos ⟨by rw[vYa,qT];lia,rfl,fun z=>h1 (Zd.mp z)⟩];have e:(st m).map kS++[kS p.1]=(st (m++[p])).map kS:=by unfold st;simp
  rw[e,cf l _ _ _ (by rw[vZa,uIa];lia) h2];simp
def Fq(C:Addr){l:List Pr}{k:Int}(hl:l.length<=8000)(nd:(st l).Nodup)(pl:∀p∈l,p.1.place=k):GN C [.lst (l.map J0),.int k]=some (.bl true):=by
 have e1:=cf l [] .un .un (by simp;lia) nd;have e2:Ji g2 jx (d2 jM (d2 j9 (dV 0) (dN 0)) (dV 2)) (l.map J0) [.un,.un,.bo (.int k)]=some (l.map fun _=>.bl true):=jX J0 _ fun p hp=>⟨[.cl (j3 p.1),.cl (.int p.2),.bo (.int k)],rfl,rfl,by simp[pl p hp]⟩
 have e3:=zw l;have z:l.length<=sizeLine:=wQa (jo (by lia));have n2:(st l).length < 2 ^ 24:=by rw[qT];lia
 have e5:Gf [.sz (st l).length]=some (.int l.length):=(if_pos n2).trans (by rw[qT]);have e4:Qi 2 [] (jz (dP 0)) g2 (dC 0) [.bo (.lst (l.map J0)),.bo (.int k),.un]=some (.sz (st l).length):=by
  unfold Qi;show((Ka g2 (dC 0) (l.map J0) [.un,.un] ((st []).map kS)).bind _)=_;rw[e1];simp
 refine fE (sq (Z1:=[.bo (.lst (l.map J0)),.bo (.int k),.cl (.sz (st l).length)]) ?_ ?_)
 ·show jp 2 (dL (Qi 2 [] (jz (dP 0)) g2 (dC 0))) [.bo (.lst (l.map J0)),.bo (.int k),.un]=_;simp[e4]
 ·show je (Jt (d2 jM (ja Gf [(fV 2)]) (ja J5 [(fV 0)])) (ja Yt [(false,(dL (JO 2 [1] (jz (dP 0)) g2 jx (d2 jM (d2 j9 (dV 0) (dN 0)) (dV 2)))))])) [.bo (.lst (l.map J0)),.bo (.int k),.cl (.sz (st l).length)]=_;generalize (d2 jM (d2 j9 (dV 0) (dN 0)) (dV 2))=dd at e2⊢;simp[e5,e2,e3,z,JZ]
structure Gs (b:Bk) (s:Sd):Prop extends Form b s where
 p0:0<=s.place
 p1:s.place<=b.size
def qV{b:Bk}{s:Sd}{p:Int×Sd}(h:p∈jh b s):s.place < b.size:=by
 obtain⟨c,_,_,e⟩:=yo h;exact(JV e).2.2
structure POk (b:Bk) (row costs:List Int) (m:List Pr) (p:Pr):Prop where
 z:p.1.place=b.size->p.2<=0
 s:∀q∈jh b p.1,∃v,lk m q.2=some v/\p.2<=v+jY row costs p.1.place q.1
section
variable {b:Bk} {row costs:List Int} {m:List Pr} {p:Pr} (C:Addr) (ok:OkB b) (hr:(row.length:Int)=b.size) (hc:(costs.length:Int)=b.size) (X:Gs b p.1) (P:POk b row costs m p)
include ok hr hc X P
theorem Fs:Z9 C [jj C b,.lst (row.map .int),.lst (costs.map .int),J0 p,.dct (Jw m) (JI m)]=some (.bl true):=by
 obtain⟨s,n⟩:=p;have e1:=kE C b s ok X.toFit;have ef:jK C "size" (jj C b)=some (.int b.size):=by simp[jK,jj]
 obtain⟨Z',L,x,y,rfl⟩:=J6 (g:=uq) (s:=ur C) (items:=(jh b s).map pD) (fun _ Z=>∃x y,Z=[.bo (jj C b),.bo (.lst (row.map .int)),.bo (.lst (costs.map .int)),.cl (J0 (s,n)),.bo (.dct (Jw m) (JI m)),.cl (j3 s),.cl (.int n),x,y]) (by
  rintro i d Z hd ⟨x,y,rfl⟩;rw[uAa]at hd;obtain⟨⟨k,t⟩,hq,rfl⟩:=Option.map_eq_some_iff.mp hd;have hq:=wYa hq;obtain⟨v,hl,hv⟩:=P.s _ hq;have hv:n<=v+jY row costs s.place k:=hv;have lt:s.place < b.size:=qV hq;have p0:0<=s.place:=X.p0;have e2:=we (row:=row) (costs:=costs) C s k p0 (by lia) (by lia);have e3:=ce m t;have e4:=cb hl;have q':¬v+jY row costs s.place k < n:=by lia
  rw[show lk m t=some v from hl]at e3;refine⟨_,_,rfl,JA ?_ rfl,_,_,rfl⟩;simp[e3,e4,e2,yu,q']) (Z:=[.bo (jj C b),.bo (.lst (row.map .int)),.bo (.lst (costs.map .int)),.cl (J0 (s,n)),.bo (.dct (Jw m) (JI m)),.cl (j3 s),.cl (.int n),.un,.un]) ⟨.un,.un,rfl⟩
 refine fE (sq rfl (sq (JA ?_ rfl) (sq (by rw[jD];simp[e1,L] <;> rfl) rfl)));by_cases q1:s.place=b.size
 ·have q2:¬0 < n:=by have:n<=0:=P.z q1;lia
  simp[ef,q1,q2,yu]
 ·simp[ef,q1]
theorem dj:vq C [jW b,.lst (row.map .int),.lst (costs.map .int),j3 p.1,.int p.2,.dct (Jw m) (JI m)]=some (.bl true):=by
 obtain⟨s,n⟩:=p;have p0:0<=s.place:=X.p0;have k2:=ok.k2;have z1:Ju (b.kinds.length:Int)=true:=yv (by lia) (by lia);by_cases q:s.place=b.size
 ·have c:n<=0:=P.z q;exact fE (Vu (ZP (by simp[q]) (by simp[Jb,c])))
 ·let Q:Sl->Sl->jg:=fun x y=>[.bo (jW b),.bo (.lst (row.map .int)),.bo (.lst (costs.map .int)),.cl (j3 s),.bo (.int n),.bo (.dct (Jw m) (JI m)),x,y]
  obtain⟨Z',L,x,y,rfl⟩:=J6 (g:=Zg) (s:=Zi C) (items:=Jd 0 b.kinds.length) (fun _ Z=>∃x y,Z=Q x y) (by
   rintro i d Z hd ⟨x,y,rfl⟩;obtain⟨hi,rfl⟩:=Uf hd;have e1:=bn C b s (i:Int) ok X.toForm ⟨by lia,by lia⟩;cases hs:yh b s (i:Int)with
   | none=>
    rw[hs]at e1;exact⟨_,Q (.cl (.int (i:Int))) (.cl .non),rfl,sq (Z1:=Q (.cl (.int (i:Int))) (.cl .non)) (by simp[Q,e1,GP]) (JA (by simp[Q]) rfl),_,_,rfl⟩
   | some u=>
    rw[hs]at e1;have lt:=(JV hs).2.2;obtain⟨v,hl,hv⟩:=P.s ((i:Int),u) (List.mem_filterMap.mpr ⟨i,List.mem_range.mpr hi,by rw[hs];rfl⟩);have hv:n<=v+jY row costs s.place (i:Int):=hv;have e2:=QO C row costs s.place (i:Int) p0 (by lia) (by lia);have e3:=ce m u;have e4:=cb hl;rw[show lk m u=some v from hl]at e3;have c':¬v+jY row costs s.place (i:Int) < n:=by lia
    exact⟨_,Q (.cl (.int (i:Int))) (.cl (j3 u)),rfl,sq (Z1:=Q (.cl (.int (i:Int))) (.cl (j3 u))) (by simp[Q,e1,GP]) (ZP (by simp[Q,j3]) (sq (JA (by simp[Q,e3]) rfl) (JA (by simp[Q,e4,e2,yu,c']) rfl))),_,_,rfl⟩) (Z:=Q .un .un) ⟨_,_,rfl⟩
  simp only[Q]at L;exact fE (sq (JA (by simp[q]) rfl) (sq (by rw[jD];simp[L,z1] <;> rfl) rfl))
end
def dw{α:Type}(xs:List α)(n:Nat):Jp xs (some ((n:Int)+1)) (some ((n:Int)+2))=(xs.drop (n+1)).take 1:=by
 unfold Jp;rw[show(n:Int)+1=((n+1:Nat):Int) by lia,show(n:Int)+2=((n+2:Nat):Int) by lia,HT.sIx_nat,HT.sIx_nat];by_cases h:n+1<=xs.length
 ·rw[Nat.min_eq_left h];by_cases h2:n+2<=xs.length
  ·rw[Nat.min_eq_left h2];congr 1
   lia
  ·rw[Nat.min_eq_right (by lia),List.drop_of_length_le (by lia)];simp
 ·rw[Nat.min_eq_right (by lia),Nat.min_eq_right (by lia),List.drop_of_length_le (by lia),List.drop_of_length_le (by lia)];simp
def tD(tb:List (List Pr)):List D:=tb.map fun l=>D.lst (l.map J0)
theorem Ft:∀(l m:List Pr) (d:D) (x y:Sl),YK x=true->YK y=true->m.length+l.length<=9000->(st (m++l)).Nodup->∃Z,GF g3 (dC 1) (dC 2) (l.map J0) [.cl d,x,y] (Jw m) (JI m)=some (Z,Jw (m++l),JI (m++l))
 | [],m,d,x,y,_,_,_,_=>⟨_,by rw[uFa];rfl⟩
 | p::l,m,d,x,y,hx,hy,h,nd=>by
  obtain⟨h1,h2⟩:=wq nd;rw[vXa]at h;obtain⟨Z,e⟩:=Ft l (m++[p]) d (.cl (j3 p.1)) (.cl (.int p.2)) rfl rfl (by rw[vZa,uIa];lia) h2;rw[List.append_assoc,List.singleton_append]at e;refine⟨Z,?_⟩;rw[<-e,vWa,GF];have g:g3 (J0 p) [.cl d,x,y]=some [.cl d,.cl (j3 p.1),.cl (.int p.2)]:=rfl;have z:(Jw m).length < sizeLine:=by unfold Jw;rw[vYa];exact jo (by lia)
  rw[g,uEa];show((J8 (j3 p.1)).bind fun x=>(jI (Jw m)).bind fun qs=>if (Jw m).length < sizeLine/\([.cl d,.cl (j3 p.1),.cl (.int p.2)]:jg).all YK=true then GF g3 (dC 1) (dC 2) (l.map J0) [.cl d,.cl (j3 p.1),.cl (.int p.2)] (zg qs (Jw m) x (j3 p.1)) (zM qs (JI m) x (.int p.2))else none)=_;rw[Zc,gR,uEa,uEa,if_pos ⟨z,rfl⟩,aN h1,aO h1]
structure Tt (b:Bk) (row costs:List Int) (tb:List (List Pr)):Prop where
 len:∀l∈tb,l.length<=8000/\(st l).Nodup
 gs:∀l∈tb,∀p∈l,Gs b p.1
 few:tb.length<=100
 pr:∀(i:Nat) (f:List Pr),tb[i]?=some f->∀p∈f,p.1.place=(i:Int)/\POk b row costs (tb.getD (i+1) []) p
def iK(tb:List (List Pr))(i:Nat)(hs:∀l∈tb,l.length<=8000/\(st l).Nodup)(r0 r1 r2 r4 r5 r7 r8:Sl):Qh 3 [] (jz (dL (zf (dV 3) (fun Z=>((d2 jy (dV 6) (dN 1)) Z).bind yU) (fun Z=>((d2 jy (dV 6) (dN 2)) Z).bind yU)))) (gN 0) (jz (dP 0)) g3 (dC 1) (dC 2) [r0,r1,r2,.bo (.lst (tD tb)),r4,r5,.cl (.int (i:Int)),r7,r8]=some (.dct (Jw (tb.getD (i+1) [])) (JI (tb.getD (i+1) []))):=by
 have e0:jz (dL (zf (dV 3) (fun Z=>((d2 jy (dV 6) (dN 1)) Z).bind yU) (fun Z=>((d2 jy (dV 6) (dN 2)) Z).bind yU))) [r0,r1,r2,.bo (.lst (tD tb)),r4,r5,.cl (.int (i:Int)),r7,r8]=some (((tb.drop (i+1)).take 1).map fun l=>D.lst (l.map J0)):=by
  have:=dw (tD tb) i;unfold tD at this⊢;rw[<-List.map_drop,<-List.map_take]at this;simp[this,yU]
 unfold Qh;rw[e0,uEa,if_pos (show(JZ 3 [] _).all YK=true from rfl)];show(wH (gN 0) (jz (dP 0)) g3 (dC 1) (dC 2) _ [.un,.un,.un] [] []).bind _=_;rw[uBa];cases h:tb[i+1]? with
 | none=>rw[List.drop_of_length_le (List.getElem?_eq_none_iff.mp h)];rfl
 | some l=>
  obtain⟨hl,he⟩:=uSa h;rw[List.drop_eq_getElem_cons hl,he,List.take_succ_cons,List.take_zero];obtain⟨Z,e⟩:=Ft l [] (.lst (l.map J0)) .un .un rfl rfl (by have:=hs l (wYa h);simp;lia) (hs l (wYa h)).2;rw[vWa,uJa,wH];show((GF g3 (dC 1) (dC 2) (l.map J0) [.cl (.lst (l.map J0)),.un,.un] (Jw []) (JI [])).bind _).bind _=_;rw[e];rfl
def aP(x:List Pr×Nat):D:=.tup [.int (x.2:Int),.lst (x.1.map J0)]
theorem qW:∀(tb:List (List Pr)) (n:Nat),Ym n (tD tb)=(tb.zipIdx n).map aP
 | [],n=>rfl
 | l::tb,n=>by
  show D.tup [.int n,.lst (l.map J0)]::Ym (n+1) (tD tb)=_;rw[qW tb (n+1)];rfl
def QP{tb:List (List Pr)}{f:List Pr}{i:Nat}(h:(f,i)∈tb.zipIdx):tb[i]?=some f:=by
 have:=List.mem_zipIdx_iff_getElem?.mp h;simpa using this
section
variable {b:Bk} {row costs:List Int} {tb:List (List Pr)} {v cost:Int} (C:Addr) (ok:OkB b) (hr:(row.length:Int)=b.size) (hc:(costs.length:Int)=b.size) (T:Tt b row costs tb)
include ok hr hc T
theorem Fu(r5 x8:Sl)(f:List Pr)(i:Nat)(hf:tb[i]?=some f):∃y8,JP C [.bo (jj C b),.bo (.lst (row.map .int)),.bo (.lst (costs.map .int)),.bo (.lst (tD tb)),.bo (.int cost),r5,.cl (.int (i:Int)),.cl (.lst (f.map J0)),x8]=some (.nx [.bo (jj C b),.bo (.lst (row.map .int)),.bo (.lst (costs.map .int)),.bo (.lst (tD tb)),.bo (.int cost),r5,.cl (.int (i:Int)),.cl (.lst (f.map J0)),y8]):=by
 have hm:=wYa hf;have hl:=T.len f hm;have hp:=T.pr i f hf;have e1:=Fq C hl.1 hl.2 fun p h=>(hp p h).1;have e2:=iK tb i T.len (.bo (jj C b)) (.bo (.lst (row.map .int))) (.bo (.lst (costs.map .int))) (.bo (.int cost)) r5 (.cl (.lst (f.map J0))) x8;have e3:Ji (gN 0) jx (ja (Z9 C) [(fV 1),(fV 2),(fV 3),(tC 0),(fV 4)]) (f.map J0) [.un,.bo (jj C b),.bo (.lst (row.map .int)),.bo (.lst (costs.map .int)),.cl (.dct (Jw (tb.getD (i+1) [])) (JI (tb.getD (i+1) [])))]=some (f.map fun _=>.bl true):=jX J0 _ fun p h=>⟨[.cl (J0 p),.bo (jj C b),.bo (.lst (row.map .int)),.bo (.lst (costs.map .int)),.cl (.dct (Jw (tb.getD (i+1) [])) (JI (tb.getD (i+1) [])))],rfl,rfl,by
  have:=Fs C ok hr hc (T.gs f hm p h) (hp p h).2;generalize tb.getD (i+1) []=mm at this⊢;simp[this]⟩
 have e4:=zw f;have z:f.length<=sizeLine:=wQa (jo (by lia));generalize tb.getD (i+1) []=mm at e2 e3;refine⟨.cl (.dct (Jw mm) (JI mm)),?_⟩;simp only[JP];generalize (ja (Z9 C) [(fV 1),(fV 2),(fV 3),(tC 0),(fV 4)])=dd at e3⊢;generalize (Qh 3 [] _ _ _ _ _ _)=dq at e2⊢;simp[e1,e2,e3,e4,z]
theorem qX(hk:∀n∈row,JX b n)(hcc:∀c∈costs,1<=c/\c<=9)(h0:tb[0]?=some [(jb b,v)]):vf C [jj C b,.lst (row.map .int),.lst (costs.map .int),.lst (tD tb),.int cost]=some (.bl (decide (cost<=v))):=by
 have e1:=wm C ok hr hk hc hcc;have e2:=Ua C b ok
 let Q:Sl->Sl->Sl->Sl->jg:=fun r5 x6 x7 x8=>[.bo (jj C b),.bo (.lst (row.map .int)),.bo (.lst (costs.map .int)),.bo (.lst (tD tb)),.bo (.int cost),r5,x6,x7,x8]
 have zt:(tD tb).length<=sizeLine:=by unfold tD;rw[vYa];exact wQa (jo (by have:=T.few;lia))
 obtain⟨Z',L,x,y,z,rfl⟩:=J6 (g:=Yo) (s:=JP C) (items:=tb.zipIdx.map aP) (fun _ Z=>∃x y z,Z=Q (.cl (j3 (jb b))) x y z) (by
  rintro i d Z hd ⟨x,y,z,rfl⟩;rw[uAa]at hd;obtain⟨⟨f,j⟩,hq,rfl⟩:=Option.map_eq_some_iff.mp hd;obtain⟨y8,e⟩:=Fu (cost:=cost) C ok hr hc T (.cl (j3 (jb b))) z f j (QP (wYa hq));exact⟨_,_,rfl,e,_,_,_,rfl⟩) (Z:=Q (.cl (j3 (jb b))) .un .un .un) ⟨_,_,_,rfl⟩
 have hfor:(jD (Vo (dP 3)) Yo (JP C)) (Q (.cl (j3 (jb b))) .un .un .un)=jU Yo (JP C) (tb.zipIdx.map aP) (Q (.cl (j3 (jb b))) .un .un .un):=by
  rw[jD,<-qW];simp[Q,zt]
 have a0:atI (tD tb) 0=some (.lst [J0 (jb b,v)]):=Yx (by decide) (by unfold tD;rw[uAa,show(0:Int).toNat=0 from rfl,h0];rfl);have n0:(tD tb).isEmpty=false:=by
  cases tb with
  | nil=>cases h0
  | cons _ _=>rfl
 have es:wa (jb b) (jb b)=true:=bw.mpr rfl;have e3:Ji g2 jx (Jt (d2 jM (dV 0) (dV 2)) (d2 Vl (dV 1) (dV 3))) [J0 (jb b,v)] [.un,.un,.cl (j3 (jb b)),.bo (.int cost)]=some [.bl (decide (cost<=v))]:=jX J0 (fun p:Pr=>D.bl (decide (cost<=p.2))) (xs:=[(jb b,v)]) fun p hp=>⟨[.cl (j3 p.1),.cl (.int p.2),.cl (j3 (jb b)),.bo (.int cost)],rfl,rfl,by
  rw[List.mem_singleton.mp hp];have:=iB (s:=jb b) (t:=jb b) rfl rfl;rw[es]at this;simp[-jM,this,Vl]⟩
 have ea:ga [.lst [.bl (decide (cost<=v))]]=some (.bl (decide (cost<=v))):=by simp[ga]
 have ht:(JR (J1 (jZ (dV 3))) (J1 (jZ (ja ga [(false,(dL (JO 2 [5,4] (jz (d2 j9 (dV 3) (dN 0))) g2 jx (Jt (d2 jM (dV 0) (dV 2)) (d2 Vl (dV 1) (dV 3))))))])))) (Q (.cl (j3 (jb b))) .un .un .un)=some (!decide (cost<=v)):=by
  have z1:(1:Nat)<=sizeLine:=by decide
  generalize (Jt (d2 jM (dV 0) (dV 2)) (d2 Vl (dV 1) (dV 3)))=dd at e3⊢;simp[-ga,Q,n0,a0,e3,ea,z1]
 refine fE (sq (Z1:=Q .un .un .un .un) (by simp[vz,e1] <;> rfl) (sq (Z1:=Q (.cl (j3 (jb b))) .un .un .un) (by simp[Q,e2]) ?_));by_cases q:cost<=v
 ·rw[decide_eq_true q]at ht⊢;exact sq (JA ht rfl) (sq (hfor.trans L) rfl)
 ·rw[decide_eq_false q]at ht⊢;exact Vu (ZP ht rfl)
end
theorem QQ:∀l:List Sd,yL (l.map j3)<=5
 | []=>by simp
 | s::l=>by
  have:=QQ l;have e:dep (j3 s)<=5:=by simp[j3,dep,yL,gK,kz]
  rw[vWa,yL]
  lia
theorem QR:∀l:List Pr,yL (l.map J0)<=6
 | []=>by simp
 | p::l=>by
  have h1:=QR l;have h2:yL [j3 p.1]<=5:=QQ [p.1];have e:dep (J0 p)<=6:=by
   have h3:dep (j3 p.1)<=5:=by rw[yL]at h2;lia
   show max (dep (j3 p.1)) (max 0 0)+1<=6
   lia
  rw[vWa,yL]
  lia
theorem QS:∀tb:List (List Pr),yL (tD tb)<=7
 | []=>by simp[tD]
 | l::tb=>by
  have h1:=QS tb;have h2:=QR l;show max (yL (l.map J0)+1) (yL (tD tb))<=7
  lia
def Fv(tb:List (List Pr)):dep (.lst (tD tb))<=20:=by rw[dep];have:=QS tb;lia
def Fw{l:List D}(h:dep (.lst l)<=20):jM (.lst l) (.lst [])=some (.bl l.isEmpty)/\yV (.lst l) (.lst [])=some (.bl (!l.isEmpty)):=by
 have e0:UY (D.lst l) (D.lst [])=true:=rfl;have h1:Zf (D.lst l) (D.lst [])=some l.isEmpty:=by
  rw[Zf];cases l with
  | nil=>rfl
  | cons s l=>rw[if_neg (by simp)];rfl
 unfold jM yV KJ;refine⟨?_,?_⟩;all_goals rw[if_pos e0,if_pos ⟨e0,h⟩,h1];rfl
def tbl(tb:List (List Pr)):List D:=(tb.map fun l=>D.dct (Jw (l)) (JI (l)))++[.dct [] []]
section
variable {tb:List (List Pr)} {f:List Pr} {i:Nat}
def aQ(hf:tb[i]?=some f):atI (tbl tb) (i:Int)=some (.dct (Jw f) (JI f)):=by
 refine Yx (by lia) ?_;unfold tbl;have hi:=(uSa hf).1;rw[Int.toNat_natCast,uRa (by rw[vYa];exact hi),uAa,hf];rfl
def Fx(hf:tb[i]?=some f):atI (tbl tb) ((i:Int)+1)=some (.dct (Jw (tb.getD (i+1) [])) (JI (tb.getD (i+1) []))):=by
 have hi:=(uSa hf).1;refine Yx (by lia) ?_;rw[show((i:Int)+1).toNat=i+1 by lia];unfold tbl;rw[uBa];by_cases h:i+1 < tb.length
 ·rw[uRa (by rw[vYa];exact h),uAa];simp[h]
 ·rw[List.getElem?_append_right (by rw[vYa];lia),vYa,List.getElem?_eq_none_iff.mpr (by lia:tb.length<=i+1),show i+1 - tb.length=0 by lia];rfl
end
section
variable {b:Bk} {row costs:List Int} {tb:List (List Pr)} {v cost:Int} (C:Addr) (ok:OkB b) (hr:(row.length:Int)=b.size) (hc:(costs.length:Int)=b.size) (T:Tt b row costs tb)
include ok hr hc T
theorem bH(h0:tb[0]?=some [(jb b,v)])(hv:cost<=v):Vd C [jW b,.lst (row.map .int),.lst (costs.map .int),.lst (tD tb),.int cost]=some (.bl true):=by
 have e2:=bm C b ok
 let Q:Sl->Sl->Sl->Sl->Sl->jg:=fun x5 x6 x7 x8 x9=>[.bo (jW b),.bo (.lst (row.map .int)),.bo (.lst (costs.map .int)),.bo (.lst (tD tb)),.bo (.int cost),x5,x6,x7,x8,x9]
 have hn:jM (.lst (tD tb)) (.lst [])=some (.bl false):=by
  rw[(Fw (Fv tb)).1];cases tb with
  | nil=>cases h0
  | cons _ _=>rfl
 have e1:Ji (gN 0) jx (dL (Jm vV [(fV 0)])) (tD tb) [.un]=some (tb.map fun l=>D.dct (Jw l) (JI l)):=jX (fun l:List Pr=>D.lst (l.map J0)) _ fun l hl=>⟨[.cl (.lst (l.map J0))],rfl,rfl,by simp[Fp (T.len l hl).2]⟩
 have zt:(tD tb).length<=sizeLine:=by unfold tD;rw[vYa];exact wQa (jo (by have:=T.few;lia))
 have zb:tb.length+1<=sizeLine:=wQa (jo (by have:=T.few;lia));have turn:∀(f:List Pr) (i:Nat) (x8 x9:Sl),tb[i]?=some f->∃y8 y9,yQ C (Q (.cl (.lst (f.map J0))) (.cl (.lst (tbl tb))) (.cl (.int (i:Int))) x8 x9)=some (.nx (Q (.cl (.lst (f.map J0))) (.cl (.lst (tbl tb))) (.cl (.int (i:Int))) y8 y9)):=fun f i x8 x9 hf=>by
  have a1:=aQ hf;have a2:=Fx hf;have hm:=wYa hf;have kl:(Jw f).length=f.length:=List.length_map _;obtain⟨Z',L,y8,y9,rfl⟩:=J6 (g:=uo) (s:=Zs C) (items:=f.map J0) (fun _ Z=>∃y8 y9,Z=Q (.cl (.lst (f.map J0))) (.cl (.lst (tbl tb))) (.cl (.int (i:Int))) y8 y9) (by
   rintro j d Z hd ⟨x,y,rfl⟩;rw[uAa]at hd;obtain⟨p,hq,rfl⟩:=Option.map_eq_some_iff.mp hd;have hp:=wYa hq;have X:=T.gs f hm p hp;obtain⟨c1,P⟩:=T.pr i f hf p hp;have p1:=X.p1;have e1:=dj C ok hr hc X P;have c2:¬b.size < (i:Int):=by lia
   refine⟨_,Q (.cl (.lst (f.map J0))) (.cl (.lst (tbl tb))) (.cl (.int (i:Int))) (.cl (j3 p.1)) (.cl (.int p.2)),rfl,?_,_,_,rfl⟩;simp only[Zs];generalize tb.getD (i+1) []=mm at a2 e1;simp[Q,c1,c2,a2,e1,yu]) (Z:=Q (.cl (.lst (f.map J0))) (.cl (.lst (tbl tb))) (.cl (.int (i:Int))) x8 x9) ⟨x8,x9,rfl⟩
  exact⟨y8,y9,sq (JA (by simp[Q,a1,kl]) rfl) L⟩
 obtain⟨Z',L,x5,x7,x8,x9,rfl⟩:=J6 (g:=YN) (s:=yQ C) (items:=tb.zipIdx.map aP) (fun _ Z=>∃x5 x7 x8 x9,Z=Q x5 (.cl (.lst (tbl tb))) x7 x8 x9) (by
  rintro i d Z hd ⟨x5,x7,x8,x9,rfl⟩;rw[uAa]at hd;obtain⟨⟨f,j⟩,hq,rfl⟩:=Option.map_eq_some_iff.mp hd;obtain⟨y8,y9,e⟩:=turn f j x8 x9 (QP (wYa hq));exact⟨_,_,rfl,e,_,_,_,_,rfl⟩) (Z:=Q .un (.cl (.lst (tbl tb))) .un .un .un) ⟨_,_,_,_,rfl⟩
 have hfor:(jD (Vo (dP 3)) YN (yQ C)) (Q .un (.cl (.lst (tbl tb))) .un .un .un)=jU YN (yQ C) (tb.zipIdx.map aP) (Q .un (.cl (.lst (tbl tb))) .un .un .un):=by
  rw[jD,<-qW];simp[Q,zt]
 have a0:=aQ h0;have g0:=Fo [(jb b,v)] (jb b) (cost - 1);have l0:lk [(jb b,v)] (jb b)=some v:=by rw[lk,if_pos rfl]
 rw[l0]at g0;refine fE (sq (JA (by simp[-jM,hn]) rfl) (sq (Z1:=Q .un (.cl (.lst (tbl tb))) .un .un .un) ?_ (sq (hfor.trans L) ?_)))
 ·generalize (dL (Jm vV [(fV 0)]))=dd at e1⊢;simp[Q,e1,zt,zb,Vs,KF,tbl]
 ·have a0:atI (tbl tb) 0=some (.dct (Jw [(jb b,v)]) (JI [(jb b,v)])):=a0;generalize Jw [(jb b,v)]=kk at a0 g0;generalize JI [(jb b,v)]=vv at a0 g0;simp[Q,a0,e2,g0,Vl,hv]
end
def IG:Wu Kd.i "int" = some true:=rfl
def IH:Wu Kd.i "bool" = some false:=rfl
def LJ:Wu Kd.b "bool" = some true:=rfl
def Q1(C:Addr)(b:Bk)(s:Sd)(ok:OkB b)(X:Fit b s):zZ C [jW b,j3 s]=some (.bl true):=by
 have k2:=ok.k2;have d2':=ok.d2;have hw:=X.w;have hm:=X.m;obtain⟨Z1,L1,y,rfl⟩:=J6 (g:=YW) (s:=yI C) (items:=([s.place,s.kind,s.len,s.before]++s.waits).map D.int) (fun i Z=>∃y:Sl,Z=[.bo (jW b),.bo (j3 s),y]) (by
  rintro i d Z hd ⟨y,rfl⟩;rw[uAa]at hd;obtain⟨x,_,rfl⟩:=Option.map_eq_some_iff.mp hd;refine⟨_,[.bo (jW b),.bo (j3 s),.cl (.int x)],rfl,?_,_,rfl⟩;simp only[yI];simp[IG,IH]) (Z:=[.bo (jW b),.bo (j3 s),.un]) ⟨_,rfl⟩
 have hc:=jX (g:=gN 0) (dc:=jx) (de:=d1 (JG "bool") (dV 0)) (Z:=[.un]) D.bl (fun _:Bool=>D.bl true) (xs:=s.met) (fun x _=>by
  refine⟨_,rfl,rfl,?_⟩;simp[LJ])
 have ha:=YD (fun _:Bool=>true) s.met;have zl:s.met.length<=sizeLine:=wQa (jo (by lia));have zl2:b.dues.length<=sizeLine:=wQa (jo (by lia));have i1:JG "tuple" (j3 s)=some (.bl true):=rfl;have i2:J5 [j3 s]=some (.int 6):=rfl;have i3:k_ (j3 s) none (some 4)=some (.tup [.int s.place,.int s.kind,.int s.len,.int s.before]):=rfl;have z5:(4:Nat)+b.kinds.length<=sizeLine:=wQa (jo (by lia));have L1':jU YW (yI C) (D.int s.place::D.int s.kind::D.int s.len::D.int s.before::s.waits.map D.int) [.bo (jW b),.bo (j3 s),.un]=some (.nx [.bo (jW b),.bo (j3 s),y]):=by
  simpa using L1
 have f1:∀l:List D,JG "tuple" (.tup l)=some (.bl true):=fun _=>rfl;have f2:∀l:List D,J5 [.tup l]=some (.int l.length):=fun _=>rfl;have f3:∀l:List D,J5 [.lst l]=some (.int l.length):=fun _=>rfl;simp only[zZ,zY];simp[-JG,-J5,f1,f2,f3,i1,i2,i3,hw,hm,z5,L1',hc,ha,zl2]
def qY(C:Addr)(k:Int):yc C [.int k]=some (.bl true):=by
 simp only[yc,V9];simp[IG,IH]
section
variable {b:Bk} {row costs:List Int} (C:Addr) (ok:OkB b)
include ok
theorem bI(hr:(row.length:Int)=b.size)(hc:(costs.length:Int)=b.size){z:List Int}(hz:(z.length:Int)=b.size)(hk:∀k∈z,JX b k){s':Sd}(hw:jV b (jb b) z=(s',none)):YB C [jW b,.lst (row.map .int),.lst (costs.map .int),.int (Yp row costs 0 z),.lst (z.map .int)]=some (.bl true):=by
 have s1:=ok.s1;have s2:=ok.s2;have ej:=xU C ok hk (by lia) hw;have ew:=qY C;have e1:Ji (gN 0) jx (Jt (ja (yc C) [(fV 0)]) (Jc Jb Y3 (dN 0) (dV 0) (ja J5 [(false,(d2 j9 (dV 1) (dN 1)))]))) (z.map D.int) [.un,.bo (jW b)]=some (z.map fun _=>.bl true):=jX D.int _ fun k hx=>⟨[.cl (.int k),.bo (jW b)],rfl,rfl,by
  have h:=hk k hx;simp[ew,Jb,Y3,h.1,h.2]⟩
 have e3:Yt [.lst (z.map fun _=>D.bl true)]=some (.bl true):=by
  show(uF _).bind _=_;rw[zw];simp
 have e4:Ji (gN 0) jx (ja (Y6 C) [(fV 1),(fV 2),(fV 0),(false,(d2 j9 (dV 3) (dV 0)))]) (Jd 0 b.size.toNat) [.un,.bo (.lst (row.map .int)),.bo (.lst (costs.map .int)),.bo (.lst (z.map .int))]=some (((List.range b.size.toNat).map fun k:Nat=>jY row costs (k:Int) (z.getD k 0)).map D.int):=by
  rw[List.map_map];exact jX (fun i:Nat=>D.int (0+(i:Int))) (fun i:Nat=>D.int (jY row costs (i:Int) (z.getD i 0))) (xs:=List.range b.size.toNat) fun i hi=>⟨[.cl (.int (i:Int)),.bo (.lst (row.map .int)),.bo (.lst (costs.map .int)),.bo (.lst (z.map .int))],by rw[Int.zero_add];rfl,rfl,by
   have hi:=List.mem_range.mp hi;have a:=Jz (f:=D.int) (xs:=z) (d:=0) (k:=(i:Int)) (by lia) (by lia);have t:=QO C row costs (i:Int) (z.getD i 0) (by lia) (by lia) (by lia);rw[Int.toNat_natCast]at a;simp[-List.getD_eq_getElem?_getD,a,t]⟩
 have e5:=wS row costs z 0;rw[show z.length=b.size.toNat by lia]at e5;simp only[Nat.zero_add]at e5;have e5:Yp row costs 0 z=((List.range b.size.toNat).map fun k:Nat=>jY row costs (k:Int) (z.getD k 0)).sum:=e5;have hl:((z.map D.int).length:Int)=b.size:=by rw[vYa];exact hz
 have i5:JG "list" (.lst (z.map .int))=some (.bl true):=rfl;have zl:z.length<=sizeLine:=wQa (jo (by lia));have zs:(Jd 0 b.size.toNat).length<=sizeLine:=wQa (jo (by simp[Jd];lia));have s6:Ju b.size=true:=yv (by lia) (by lia);rw[e5];have e6:=wf ((List.range b.size.toNat).map fun k:Nat=>jY row costs (k:Int) (z.getD k 0));generalize ((List.range b.size.toNat).map fun k:Nat=>jY row costs (k:Int) (z.getD k 0))=tl at e4 e6⊢;refine fE ?_;unfold YA;generalize (Jt (ja (yc C) [(fV 0)]) (Jc Jb Y3 (dN 0) (dV 0) (ja J5 [(false,(d2 j9 (dV 1) (dN 1)))])))=d1' at e1⊢;generalize (ja (Y6 C) [(fV 1),(fV 2),(fV 0),(false,(d2 j9 (dV 3) (dV 0)))])=d2' at e4⊢;refine sq (JA ?_ rfl) (sq (JA ?_ rfl) (sq (JA ?_ rfl) ?_))
 ·simp[-JG,i5,hz,ew]
 ·simp[-Yt,e1,e3,zl,JZ]
 ·simp[ej]
 ·simp[s6,zs,JZ,e4,e6]
theorem bJ{tb:List (List Pr)}(h:∀l∈tb,∀p∈l,Fit b p.1):ZR C [jW b,.lst (tD tb)]=some (.bl true):=by
 have i5:∀l:List D,JG "list" (.lst l)=some (.bl true):=fun _=>rfl;have Zz:∀l∈tb,∀x:Sl,∃y:Sl,jU Y0 (JU C) (l.map J0) [.bo (jW b),.bo (.lst (tD tb)),.cl (.lst (l.map J0)),x]=some (.nx [.bo (jW b),.bo (.lst (tD tb)),.cl (.lst (l.map J0)),y]):=fun l hl x=>by
  obtain⟨Z1,L1,y,rfl⟩:=J6 (g:=Y0) (s:=JU C) (items:=l.map J0) (fun i Z=>∃y:Sl,Z=[.bo (jW b),.bo (.lst (tD tb)),.cl (.lst (l.map J0)),y]) (by
   rintro i d Z hd ⟨y,rfl⟩;rw[uAa]at hd;obtain⟨p,hp,rfl⟩:=Option.map_eq_some_iff.mp hd;have e1:=Q1 C b p.1 ok (h l hl p (wYa hp));have e2:=qY C p.2;have i4:JG "tuple" (J0 p)=some (.bl true):=rfl;have i3:J5 [J0 p]=some (.int 2):=rfl;have i1:j9 (J0 p) (.int 1)=some (.int p.2):=rfl;have i0:j9 (J0 p) (.int 0)=some (j3 p.1):=rfl;refine⟨_,[.bo (jW b),.bo (.lst (tD tb)),.cl (.lst (l.map J0)),.cl (J0 p)],rfl,?_,_,rfl⟩;unfold JU;exact sq (JA (by simp[-JG,-J5,i4,i3,i1,e2]) rfl) (JA (by simp[i0,e1]) rfl)) (Z:=[.bo (jW b),.bo (.lst (tD tb)),.cl (.lst (l.map J0)),x]) ⟨_,rfl⟩
  exact⟨y,L1⟩
 obtain⟨Z1,L1,y,y',rfl⟩:=J6 (g:=z_) (s:=Y1 C) (items:=tD tb) (fun i Z=>∃y y':Sl,Z=[.bo (jW b),.bo (.lst (tD tb)),y,y']) (by
  rintro i d Z hd ⟨y,y',rfl⟩;unfold tD at hd;rw[uAa]at hd;obtain⟨l,hl,rfl⟩:=Option.map_eq_some_iff.mp hd;obtain⟨w,e1⟩:=Zz l (wYa hl) y';refine⟨_,[.bo (jW b),.bo (.lst (tD tb)),.cl (.lst (l.map J0)),w],rfl,?_,_,_,rfl⟩;unfold Y1;exact sq (Z1:=[.bo (jW b),.bo (.lst (tD tb)),.cl (.lst (l.map J0)),y']) (JA (by simp[-JG,i5]) rfl) (by simpa using e1)) (Z:=[.bo (jW b),.bo (.lst (tD tb)),.un,.un]) ⟨_,_,rfl⟩
 refine fE ?_;unfold YC;exact sq (Z1:=[.bo (jW b),.bo (.lst (tD tb)),.un,.un]) (JA (by simp[-JG,i5]) rfl) (sq (by simpa using L1) rfl)
end
def VB(b:Bk)(n:Nat)(val:Sd->Int):List (List Pr):=(List.range n).map fun j=>(jc b (jb b) j).map fun s=>(s,val s)
set_option tactic.hygienic true in
theorem qZ{b:Bk}{s:Sd}(X:Form b s):∀n,∀t∈jc b s n,Form b t
 | 0,t,h=>by
  simp[jc]at h;subst h;exact X
 | n+1,t,h=>by
  obtain⟨u,hu,p,hp,rfl⟩:=ye.mp h;obtain⟨c,hc,e1,e2⟩:=yo hp;obtain⟨_,e,_⟩:=JV e2;rw[e];exact(qZ X n u hu).next ⟨by lia,by lia⟩
theorem aR{val:Sd->Int}{s:Sd}:∀{l:List Sd},s∈l->lk (l.map fun s=>(s,val s)) s=some (val s)
 | t::l,h=>by
  rw[vWa,lk];by_cases e:t=s
  ·rw[if_pos e,e]
  ·rw[if_neg e];exact aR ((uTa h).resolve_left fun z=>e z.symm)
def Fy{val:Sd->Int}(l:List Sd):st (l.map fun s=>(s,val s))=l:=by
 unfold st;rw[List.map_map];exact List.map_id l
section
variable {b:Bk} {row costs:List Int} {n:Nat} {val:Sd->Int}
def wt{i:Nat}{f:List Pr}(h:(VB b n val)[i]?=some f):i < n/\f=(jc b (jb b) i).map fun s=>(s,val s):=by
 unfold VB at h;rw[uAa]at h;obtain⟨j,hj,rfl⟩:=Option.map_eq_some_iff.mp h;obtain⟨h1,h2⟩:=uSa hj;rw[List.getElem_range]at h2;rw[List.length_range]at h1;subst h2;exact⟨h1,rfl⟩
def aS{i:Nat}(h:i < n):(VB b n val)[i]?=some ((jc b (jb b) i).map fun s=>(s,val s)):=by
 unfold VB;rw[uAa,List.getElem?_range h];rfl
def Fz{dead:Int}(ok:OkB b)(F:Few b)(n32:n<=32)(hz:jc b (jb b) n=[]):Tt b row costs (VB b n (Ja b row costs dead)):=by
 refine⟨fun l hl=>?_,fun l hl p hp=>?_,by unfold VB;rw[vYa,List.length_range];lia,fun i f hf p hp=>?_⟩
 ·obtain⟨i,hi⟩:=List.getElem?_of_mem hl;rw[(wt hi).2,vYa,Fy];have:=QI ok F i;exact⟨by lia,qB b (jb b) i⟩
 ·obtain⟨i,hi⟩:=List.getElem?_of_mem hl;rw[(wt hi).2]at hp;obtain⟨s,hs,rfl⟩:=uVa hp;have h1:s.place=0+(i:Int):=(JQ (Fit.empty b) i s hs).2.1;refine⟨qZ (Form.empty b) i s hs,by show 0<=s.place;lia,?_⟩;show s.place<=b.size;cases i with
  | zero=>have:=ok.s1;lia
  | succ m=>
   refine Classical.byContradiction fun z=>?_;rw[wd (Fit.empty b) (m:=m) (by show b.size<=0+(m:Int);lia)]at hs;cases hs
 ·obtain⟨hi,rfl⟩:=wt hf;obtain⟨s,hs,rfl⟩:=uVa hp;obtain⟨X,h1,_⟩:=JQ (Fit.empty b) i s hs;have h1:s.place=0+(i:Int):=h1;refine⟨by show s.place=(i:Int);lia,fun e=>?_,fun q hq=>?_⟩
  ·show Ja b row costs dead s<=0;rw[Gv e];exact vEa _
  ·have hq2:q.2∈jc b (jb b) (i+1):=ye.mpr ⟨s,hs,q,hq,rfl⟩;have hi1:i+1 < n:=by
    refine Classical.byContradiction fun z=>?_;have:i+1=n:=by lia
    rw[this,hz]at hq2;cases hq2
   rw[uBa,aS hi1];refine⟨_,aR hq2,?_⟩;show Ja b row costs dead s<=_;rw[Vh X (qV hq)];cases hmin:YS ((jh b s).map fun p=>Ja b row costs dead p.2+jY row costs s.place p.1)with
   | none=>
    exfalso;cases he:jh b s with
    | nil=>rw[he]at hq;cases hq
    | cons a l=>rw[he]at hmin;cases hmin
   | some m=>exact QK hmin (List.mem_map.mpr ⟨_,hq,rfl⟩)
def FA:(.lst ((List.range n).map fun j=>.lst ((jc b (jb b) j).map fun t=>.tup [j3 t,nD b row costs (costs.sum+1) t])):D)=.lst (tD (VB b n (Ja b row costs (costs.sum+1)))):=by
 unfold tD VB;rw[List.map_map];congr 1;refine List.map_congr_left fun j _=>?_;show D.lst _=D.lst _;rw[List.map_map];rfl
end
theorem QT:∀l:List T3,Yw (l.map t3)=true
 | []=>rfl
 | t::l=>by rw[vWa,Yw,QT l];simp[t3]
theorem wT:∀l:List Int,Yw (l.map D.int)=true
 | []=>rfl
 | t::l=>by rw[vWa,Yw,wT l];simp
theorem bK:∀l:List Int,XR (l.map D.int)=true
 | []=>rfl
 | t::l=>rfl
def QU{dt:DT}{s:DS.DS}{g:DQ}{Z:jg}{x:Option (Option D)}(h:dt Z=some false)(k:g Z=x):Um dt s g Z=x:=by rw[Um,h];exact k
def LK{dt:DT}{s:DS.DS}{g:DQ}{Z:jg}{d:D}(h:dt Z=some true)(k:s Z=some (.rt d)):Um dt s g Z=some (some d):=by rw[Um,h];show(s Z).bind _=_;rw[k];rfl
def FB{i iC iS iP:Nat}{F:List D->Option Ro}{l:DA}{g1 g2:DQ}{rs:DS.DS}{Z:jg}{as:List D}{d:D}(e1:Yk l Z=some as)(e2:F as=some .non)(e3:g1 (Z.set i (.cl .non))=some (some d))(c:Yw as=true):uJ i iC iS iP F l g1 g2 rs Z=some (.rt d):=by
 unfold uJ;rw[e1,uEa,e2,uEa];show(g1 (Z.set i (.cl .non))).bind _=_;rw[e3];exact if_pos ⟨c,rfl⟩
def iL{i iC iS iP:Nat}{F:List D->Option Ro}{l:DA}{g1 g2:DQ}{rs:DS.DS}{Z:jg}{as ds:List D}{k:Int}{dp:D}{r:Option Rs}(e1:Yk l Z=some as)(e2:F as=some (.tp k ds dp))(e3:g1 (Z.set i (.cl (.tup [.int k,.lst ds,dp])))=some none)
  (e4:g2 ((((Z.set i (.cl (.tup [.int k,.lst ds,dp]))).set iC (.cl (.int k))).set iS (.cl (.lst ds))).set iP (.cl dp))=some none) (c:Yw as=true) (c6:(WR dp).isSome=true) (cl:ds.length < sizeLine) (ci:EK Z.length i iC iS iP=true) (e5:rs ((((Z.set i .un).set iC (.cl (.int k))).set iS .un).set iP .un)=r):uJ i iC iS iP F l g1 g2 rs Z=r:=by
 unfold uJ;rw[e1,uEa,e2,uEa];show(g1 (Z.set i (.cl (.tup [.int k,.lst ds,dp])))).bind _=_;rw[e3];show(g2 ((((Z.set i (.cl (.tup [.int k,.lst ds,dp]))).set iC (.cl (.int k))).set iS (.cl (.lst ds))).set iP (.cl dp))).bind _=_;rw[e4];show(if _ then rs _ else none)=_;rw[if_pos ⟨c,c6,cl,ci⟩];exact e5
def bL(C:Addr)(ns:List Int)(h:ns.length<=63):xP C [.scr ns]=some (.bl true):=by
 obtain⟨ms,e1,hm⟩:=xS C ns 180 h (by decide) (by decide);have hml:ms.length=180:=by lia
 have tl:∀l:List D,(OD.lst l).toD=.lst l:=fun _=>rfl;have cl:∀n:Nat,Jp (ms.map D.int) (some (n:Int)) none=(ms.drop n).map D.int:=fun n=>by rw[Zt,Fb]
 obtain⟨v,a59⟩:∃v:Int,atI (ms.map D.int) 59=some (.int v):=⟨_,Jz (f:=D.int) (xs:=ms) (d:=0) (by decide) (by lia)⟩
 have m6:=Jn (a:=v) (b:=6) (by decide);obtain⟨mo,pmo,mo1,mo2⟩:=Uc (ns:=[8,8,8,8,8,30]) (k:=v % 6) (lo:=1) (hi:=30) m6.1 m6.2 (by decide);have pmo:atI [D.int 8,D.int 8,D.int 8,D.int 8,D.int 8,D.int 30] (v % 6)=some (.int mo):=pmo;obtain⟨b,eb,ok,F⟩:=CQ C ms mo (by lia) (by lia) mo1 mo2;have em:=CK C b ok;obtain⟨row,er,hr,hk⟩:=bF C b ok (ms.drop 60) (by rw[uNa];lia);obtain⟨costs,ec,hc,hcc⟩:=bG C b ok (ms.drop 110) (by rw[uNa];lia);have s1:=ok.s1;have s2:=ok.s2;have L:=gQ ok F;have ew:=d6 C b ok [] ⟨fun n hn=>vDa hn (by simp),by show((0:Nat):Int)<=_;lia⟩ rfl L;rw[uJa]at ew;have c60:Jp (ms.map D.int) (some 60) none=(ms.drop 60).map D.int:=cl 60;have c110:Jp (ms.map D.int) (some 110) none=(ms.drop 110).map D.int:=cl 110;generalize ms.drop 60=m60 at er c60;generalize ms.drop 110=m110 at ec c110
 let R:Sl->Sl->Sl->Sl->Sl->jg:=fun x6 x7 x8 x9 x10=>[.bo (.scr ns),.cl (.lst (ms.map .int)),.cl (jW b),.cl (jj C b),.cl (.lst (row.map .int)),.cl (.lst (costs.map .int)),x6,x7,x8,x9,x10]
 have ea:∀x6 x7 x8 x9 x10:Sl,Yk [(tC 3),(tC 4),(tC 5)] (R x6 x7 x8 x9 x10)=some [jj C b,.lst (row.map .int),.lst (costs.map .int)]:=fun _ _ _ _ _=>rfl;have na:Yw [jj C b,.lst (row.map .int),.lst (costs.map .int)]=true:=by simp[jj,QT,wT,bK]
 refine fE (sq (Z1:=[.bo (.scr ns),.cl (.lst (ms.map .int)),.un,.un,.un,.un,.un,.un,.un,.un,.un]) (by simp[-OD.toD,tl,e1])
  (sq (Z1:=[.bo (.scr ns),.cl (.lst (ms.map .int)),.cl (jW b),.un,.un,.un,.un,.un,.un,.un,.un]) (by simp[a59,pmo,eb])
  (sq (Z1:=[.bo (.scr ns),.cl (.lst (ms.map .int)),.cl (jW b),.cl (jj C b),.un,.un,.un,.un,.un,.un,.un]) (by simp[-OD.toD,em,bc])
  (sq (Z1:=[.bo (.scr ns),.cl (.lst (ms.map .int)),.cl (jW b),.cl (jj C b),.cl (.lst (row.map .int)),.un,.un,.un,.un,.un,.un]) (by simp[-OD.toD,tl,c60,er,yU])
  (sq (Z1:=R .un .un .un .un .un) (by simp[-OD.toD,tl,c110,ec,yU,R]) ?_)))))
 by_cases hcnt:Jh b (jb b)=0
 ·have eM:=aL C ok hr hk hc hcc F hcnt;rw[hcnt]at ew;exact FB (ea _ _ _ _ _) eM (LK (by simp[R]) (by simp[R,ew])) na
 ·have hpos:0 < Jh b (jb b):=by have:=vL b (jb b);lia
  obtain⟨n,n32,hn,hz,eM⟩:=aM C ok hr hk hc hcc F hpos;rw[FA]at eM;have n0:0 < n:=by lia
  have hlt:=qR ok hr hk hc hcc hpos;obtain⟨z1,⟨s',z2⟩,z3,z4⟩:=ca (row:=row) (costs:=costs) (dead:=costs.sum+1) (fun c hx=>by have:=hcc c hx;lia) b.size.toNat (jb b) (Fit.empty b) (by show(0:Int)+_=_;lia) hpos hlt;have T:Tt b row costs (VB b n (Ja b row costs (costs.sum+1))):=Fz ok F n32 hz;have t0:(VB b n (Ja b row costs (costs.sum+1)))[0]?=some [(jb b,Ja b row costs (costs.sum+1) (jb b))]:=aS n0;have z4:Yp row costs 0 (Zj b row costs (costs.sum+1) b.size.toNat (jb b))=Ja b row costs (costs.sum+1) (jb b):=z4;have eS:=bI C ok hr hc (z:=Zj b row costs (costs.sum+1) b.size.toNat (jb b)) (by lia) z3 z2;rw[z4]at eS;have eP:=bJ C ok (tb:=VB b n (Ja b row costs (costs.sum+1))) fun l hl p hp=>(T.gs l hl p hp).toFit;have eL:=bH C ok hr hc T t0 (vEa _);have eH:=qX (cost:=Ja b row costs (costs.sum+1) (jb b)) C ok hr hc T hk hcc t0;have eH1:=qX (cost:=Ja b row costs (costs.sum+1) (jb b)+1) C ok hr hc T hk hcc t0;rw[decide_eq_true (Int.le_refl _)]at eH;rw[decide_eq_false (by lia)]at eH1;have h6:(WR (.lst (tD (VB b n (Ja b row costs (costs.sum+1)))))).isSome=true:=by
   obtain⟨m,rfl⟩:∃m,n=m+1:=⟨n - 1,by lia⟩
   unfold tD VB;rw[List.range_succ_eq_map];rfl
  have zc:(Zj b row costs (costs.sum+1) b.size.toNat (jb b)).length < sizeLine:=jo (by lia);generalize Ja b row costs (costs.sum+1) (jb b)=cost at eM eS eL eH eH1;generalize tD (VB b n (Ja b row costs (costs.sum+1)))=pr at eM eP eL eH eH1 h6;generalize Zj b row costs (costs.sum+1) b.size.toNat (jb b)=sh at eM eS zc;have i4:∀l:List D,JG "tuple" (.tup l)=some (.bl true):=fun _=>rfl;have j0:∀x y z:D,atI [x,y,z] 0=some x:=fun _ _ _=>Yx (by decide) rfl;have j1:∀x y z:D,atI [x,y,z] 1=some y:=fun _ _ _=>Yx (by decide) rfl;have j2:∀x y z:D,atI [x,y,z] 2=some z:=fun _ _ _=>Yx (by decide) rfl;have eM2:Ql (Yz C) [jj C b,.lst (row.map .int),.lst (costs.map .int)]=some (.tup [.int cost,.lst (sh.map .int),.lst pr]):=by rw[Ql,eM];rfl
  refine iL (ea _ _ _ _ _) eM (QU (by simp[R]) (QU (by simp[-JG,R,i4,ew,hcnt]) rfl)) (QU (by simp[R,eS,eP]) (QU (by simp[R,eL]) (QU (by simp[R,eH]) (QU (by simp[R,eH1]) rfl)))) na h6 (by rw[vYa];exact zc) rfl ?_;refine sq (Z1:=R .un (.cl (.int cost)) .un .un (.cl (.tup [.int cost,.lst (sh.map .int),.lst pr]))) (by simp[-Ql,R,eM2]) (sq (JA (by simp[R,j0,j1,eS]) rfl) (by simp[R,j2,eL]))
end M
noncomputable section
namespace M
open PySem L2 DS CP
noncomputable def top(i:Nat):Stmt:=PySem.Challenge.pw_moonseat_k18_whole_mending_and_prices.main.body.getD i (.Pass ⟨0,0,0,0⟩)
def dF(i f k:Nat)(ks:List Nat)(b:DS.DS)(hs:List ((Nat×Nat×Nat)×List Nat):=[])(sh:List (Nat×Nat):=[])(ow:List Nat:=[]):Df:=⟨top i,sN (top i),f,false,k==1,ks.map (Nat.beq 1),b,hs,sh,ow⟩
def dM(i j:Nat)(q:Str)(f k:Nat)(ks:List Nat)(b:DS.DS)(hs:List ((Nat×Nat×Nat)×List Nat):=[])(sh:List (Nat×Nat):=[])(ow:List Nat:=[]):Df:=⟨inClass (top i) j,q,f,true,k==1,ks.map (Nat.beq 1),b,hs,sh,ow⟩
noncomputable def T0(C:Addr):Tb:=⟨C,[("LEAST_COST",.con 1),("MOST_COST",.con 9),("MOST_SIZE",.con 30),("MOST_KINDS",.con 4),("MOST_SHUNS",.con 20),("MOST_BARS",.con 12),("MOST_DUES",.con 3),("MOST_RUN",.con 4),("MOST_REST",.con 4),("MOST_FAR",.con 2),("all",.blt),("any",.blt),("bool",.blt),("dict",.blt),("enumerate",.blt),("int",.blt),("isinstance",.blt),("len",.blt),("list",.blt),("max",.blt),("min",.blt),("range",.blt),("reversed",.blt),("sum",.blt),("tuple",.blt),("zip",.blt)],[],["size", "kind_rows", "shun_rows", "bar_rows", "due_rows"]⟩
def l1(C:Addr):List Df:=[dF 62 410 1 [0,0] (Zm C) [] [] [2],
 dF 64 424 1 [0,0,0,0] (Zo C) [] [] [4],
 dF 65 429 0 [0,0] (VG C) [((328,16,82),[0])] [(333,4),(333,8)] [4,8],
 dF 58 342 0 [0,0,0,0,0] (Z_ C),
 dF 55 321 0 [1] (VI C),
 dF 56 328 0 [1,0] (VJ C),
 dF 57 335 0 [1,0,0] (VL C),
 dF 59 347 0 [0,0,0,0,0] (VM C) [((259,15,54),[5]),((261,54,65),[]),((261,15,66),[5,0])]]
def k1(C:Addr):(T0 C).chks 0 (l1 C)=xN (l1 C):=by kernel_rfl
def T1(C:Addr):Tb:=(T0 C).adds 0 (l1 C)
def JJ(C:Addr):Df:=dM 60 0 "Rules.__init__" 361 0 [1,0,0,0,0] (y_ C) [] [] [0]
def kM(C:Addr):wL (T1 C) (JJ C).de false=some (y_ C):=by kernel_rfl
def T2(C:Addr):Tb:=(T1 C).ag "Rules" (.mk 17 (JJ C).de.ps (JJ C).de.ks (yH C) (yb C))
def l3(C:Addr):List Df:=[dF 66 436 1 [0] (VO C),
 dF 71 471 1 [0,0] (VQ C) [] [] [2],
 dF 72 476 1 [0,0] (zN C) [((388,11,74),[1])],
 dM 60 5 "Rules.many" 396 0 [0] (V0 C),
 dF 26 223 0 [0,0] (gn C),
 dF 27 228 0 [0,0] (YT C) [((122,15,57),[0])],
 dF 28 235 0 [0,0] (VS C),
 dF 34 254 0 [0,0,0] (V1 C),
 dF 9 113 0 [0] (v5 C),
 dF 14 146 0 [0,0,0] (GH C),
 dF 15 153 0 [0,0,0] (gq C),
 dF 16 160 0 [0,0,0] (uQ C),
 dF 17 167 0 [0,0] (uS C),
 dF 18 174 0 [0,0,0] (gt C),
 dF 12 132 0 [0,0,0] (uU C) [] [] [4],
 dF 19 181 0 [0,0,0] (gx C),
 dF 10 120 0 [0,0] (uV C),
 dF 20 188 0 [0,0,0] (kf C),
 dF 21 195 0 [0,0,0] (kh C),
 dF 11 125 0 [0,0,0] (V3 C) [] [] [4],
 dF 13 139 0 [0,0,1] (V5 C),
 dF 22 202 0 [0,0,1] (gz C),
 dF 23 209 1 [0,0] (V6 C) [] [] [2],
 dF 24 216 1 [0,1] (v6 C) [((112,12,23),[]),((113,31,42),[]),((114,16,29),[]),((116,16,28),[])] [(115,4)] [2,4,5],
 dF 35 261 0 [0,0,0,0] (v8 C),
 dF 36 266 1 [0,0,0,0] (V7 C) [((164,16,30),[]),((166,24,38),[]),((166,23,103),[5,1,2,7]),((167,16,30),[])] [] [5],
 dF 37 273 0 [0,0,0,0,0] (zT C) [((171,11,25),[]),((171,68,82),[])],
 dF 38 280 1 [0,0,0,0] (zB C) [] [] [4]]
def k3(C:Addr):(T2 C).chks 18 (l3 C)=xN (l3 C):=by kernel_rfl
def T3(C:Addr):Tb:=(T2 C).adds 18 (l3 C)
def Y2(C:Addr):Df:=dF 39 285 0 [1,1,1] jv [((189,52,57),[9]),((189,23,37),[]),((189,14,58),[1]),((189,13,79),[5]),((190,12,26),[])] [] [6]
def bM(C:Addr)(X:Cx)(h:OkX K (gm (T3 C) (Y2 C).de false) X)(p:PassesOwn (model X.prog X.w) X.A X.env X.xe):jP X (defBody (Y2 C).de.st) (tO K (uW C)):=
 Gh (gj h p (by kernel_rfl)) (Gh (gj h p (by kernel_rfl)) (Gh (gj h p (by kernel_rfl)) (lR (IB h (by kernel_rfl)) ii (Gh (gj h p (by kernel_rfl)) (Gh (gj h p (by kernel_rfl)) (Gh (gj h p (by kernel_rfl)) (Lz h (by kernel_rfl) rfl)))))))
def T4(C:Addr):Tb:=(T3 C).ag "mended" (.fT 75 (Y2 C).de.ps (Y2 C).de.ks (Yz C))
def l5(C:Addr):List Df:=[dF 29 242 0 [0,0] (kj C),
 dF 30 249 0 [0,0] (uX C),
 dF 44 307 1 [0,1] (vc C) [((220,16,28),[]),((222,16,28),[]),((222,36,49),[]),((222,35,75),[2])] [] [2],
 dF 45 314 0 [0,0] (qf C) [((226,11,43),[])],
 dF 63 417 0 [0] (V9 C),
 dF 67 443 0 [0,0] (uZ C),
 dF 68 450 0 [0,0,0] (vm C),
 dF 69 457 0 [0,0,0] (gB C),
 dF 70 464 0 [0,0] (Ut C),
 dF 78 514 0 [0,0,0,0] (VT C),
 dF 81 531 0 [0,0,0,0,0] (YA C) [((471,15,110),[0]),((475,28,133),[1,2,4])],
 dF 77 507 0 [0,0] (zY C) [((438,20,34),[])],
 dF 82 538 0 [0,0] (YC C),
 dF 74 488 0 [0,0,0] (ZS C) [((392,54,69),[])],
 dF 75 495 0 [0,0,0,0] (u_ C) [] [] [4],
 dF 76 502 0 [0,1,1] (GK C) [] [] [15],
 dF 79 521 0 [0,0,0,1,0,0] (vo C) [((450,15,44),[]),((452,28,51),[])],
 dF 73 481 0 [0] (Vb C),
 dF 80 526 0 [0,0,0,0,0] (gF C) [((458,18,73),[]),((460,11,36),[])],
 dF 40 290 0 [0,0] (GM C) [((193,45,91),[1]),((193,11,22),[1])],
 dF 41 297 0 [0,0,0,1,0] (gG C) [((199,43,56),[]),((199,11,30),[])],
 dF 42 302 0 [0,0,0,0,0] (Uy C) [((205,29,95),[5,4]),((211,19,82),[0,1,2,8])]]
def k5(C:Addr):(T4 C).chks 76 (l5 C)=xN (l5 C):=by kernel_rfl
def T5(C:Addr):Tb:=(T4 C).adds 76 (l5 C)
def VC(C:Addr):Df:=dF 83 545 0 [0] (xO C) [((504,7,93),[]),((506,7,98),[])] [] [8]
def iM(C:Addr)(X:Cx)(h:OkX K (gm (T5 C) (VC C).de false) X)(p:PassesOwn (model X.prog X.w) X.A X.env X.xe):jP X (defBody (VC C).de.st) (tS K (xO C)):=
 vJ (gj h p (by kernel_rfl)) (vJ (gj h p (by kernel_rfl)) (vJ (gj h p (by kernel_rfl)) (vJ (gj h p (by kernel_rfl)) (vJ (gj h p (by kernel_rfl)) (lY (k:=75) (ps':=(Y2 C).de.ps) (ks:=(Y2 C).de.ks) h p (by kernel_rfl) (by kernel_rfl) (by kernel_rfl) (by kernel_rfl) (Qq h p (by kernel_rfl) (by kernel_rfl) (Qq h p (by kernel_rfl) (by kernel_rfl) fun _=>XW)) (by kernel_rfl) (by kernel_rfl) (by kernel_rfl) (by kernel_rfl) (Qq h p (by kernel_rfl) (by kernel_rfl) (Qq h p (by kernel_rfl) (by kernel_rfl) (Qq h p (by kernel_rfl) (by kernel_rfl) (Qq h p (by kernel_rfl) (by kernel_rfl) fun _=>XW)))) (by kernel_rfl) (by kernel_rfl) (by kernel_rfl))))))
end M
set_option maxHeartbeats 0
noncomputable def PySem.W.Fast.tw13764695105229136712:PySem.Program:=PySem.Challenge.pw_moonseat_k18_whole_mending_and_prices
theorem PySem.W.Fast.te13764695105229136712:PySem.Challenge.pw_moonseat_k18_whole_mending_and_prices=PySem.W.Fast.tw13764695105229136712:=rfl
namespace Hd
noncomputable section
open PySem PySem.W PyProof.Rows L2 M CP
noncomputable abbrev pw:=PySem.Challenge.pw_moonseat_k18_whole_mending_and_prices
theorem prm:((fun(_:Params->Obj)=>true) boot_o_0)=true:=by first | k_qdec | rfl
noncomputable def de(P:Params)(x:Str)(t:Nat)(v:Value):DictEntry:=⟨PyData.keyHash P x,.str x t,v⟩
noncomputable def f3(a b:Int)(r:Nat)(l:List Value):List Value:=.int a 0::.int b 0::.ref r::l
noncomputable def fC(n q:Str)(a b c:Nat)(l x1 x2 x3 x4:Int)(r1:Nat)(z:Bool)(k:Int)(r2:Nat)(m:Int)(e:Nat):Data:=.fields #[.str n a,.str q b,.str "/claim/cut.py" c,.int l 0,.int x1 0,.int x2 0,.int x3 0,.int x4 0,.ref r1,.bool z,.int k 0,.ref r2,.none,.none,.none,.none,.int m 0,.int l 0,.str "/claim/cut.py" e]
noncomputable def oU(l:List Value):Obj:=⟨.type "tuple",none,.seq (List.toArray l) 0,#[]⟩
def oF(n q:Str)(s:Stmt)(m:Str)(t cd:Nat):Obj:=⟨.type "function",none,.func (fnOf n q (defArgs s) (defBody s) (defScope s) .none .none .none (.str m t) none (.ref cd) .none),#[]⟩
def oT(n q:Str)(s:Stmt):Obj:=⟨.none,none,.func { name:=n,qualname:=q,params:=defArgs s,body:=.stmts (defBody s),scope:=defScope s,globals:=0,closure:=[],defaults:=.none,kwdefaults:=.none,doc:=.none,pyModule:=.none,annotations:=none,code:=.none,closureTuple:=.none,builtins:=0 },#[]⟩
noncomputable def ins2:BT->Nat->Obj->BT
 | .nil,_,o=>.node o .nil .nil
 | .node v l r,i,o=>match Nat.beq i 0 with
  | true=>.node o l r
  | false=>match Nat.beq (i % 2) 1 with
   | true=>.node v (ins2 l (i / 2) o) r
   | false=>.node v l (ins2 r (i / 2 - 1) o)
def putAll(t:BT)(l:List (Nat×Obj)):BT:=l.foldl (fun t q=>ins2 t q.1 q.2) t
noncomputable def env:Env:={ scope:=pw.main.scope,locals:=mainNs,globals:=mainNs,cells:=[],code:=.ref 13,frame:=some 14 }
noncomputable def bd:List Stmt:=behindTheImports pw
def cE:Code:=.body bd env
noncomputable def oD(l:List DictEntry)(k:Nat):Obj:=⟨.type "dict",none,.dict (List.toArray l) k,#[]⟩
noncomputable def oX(c d:Nat)(m:Str)(t:Nat):Obj:=⟨.type "frame",none,.plain,#[some (.ref c),some (.ref 3),some (.ref d),none,some (.str m t),none,some (.ref 0)]⟩
noncomputable def oS(a:Nat):Obj:=⟨.type "super",none,.fields #[.ref a,.ref a,.ref a],#[]⟩
noncomputable def oB(a:Nat):Obj:=⟨.type "builtin_function_or_method",none,.fields #[.builtin "object.__init_subclass__",.ref a],#[]⟩
noncomputable def oP:Obj:=⟨.type "builtin_function_or_method",none,.fields #[.builtin "type.__prepare__",.type "type"],#[]⟩
noncomputable def oE(d:Data):Obj:=⟨.type "code",none,d,#[]⟩
noncomputable def oK(n:Str)(b o:List Value)(s:Nat)(u:List Value)(f:Option Value)(t t':Nat)(w:String):Obj:=⟨.type "type",none,.cls { name:=n,bases:=b,mro:=o,ns:=s,qualname:=n,hasDict:=true,slotNames:=[],subclasses:=u,abstract:=false,collection:=none,hasDel:=false },#[f,none,some (.str n t),some (.str n t'),some (.builtin w),some (.bool true)]⟩
noncomputable def oW(t:Nat):List Str->List Value
 | []=>[]
 | x::l=>.str x t::oW (t+1) l
def oV(t:Nat)(l:List Str):Obj:=oU (oW t l)
def o0:Obj:=oU []
noncomputable def o1:Obj:=⟨.none,none,.fields #[],#[]⟩
noncomputable def nz:Nat->List Obj->List (Nat×Obj)
 | _,[]=>[]
 | n,o::l=>(n,o)::nz (n+1) l
def vN(s:Stmt):List Str:=((defScope s).names.filter fun y=>y.2==.local).map (·.1)
def oC(n q:Str)(s:Stmt)(a r:Nat)(l:List Value)(m:Nat):Obj:=oE (.fields (List.toArray (.str n a::.str q (a+1)::.str "/claim/cut.py" (a+2)::.int s.pos.line 0::.int (defArgs s).args.length 0::.int 0 0::.int 0 0::.int 3 0::.ref r::.bool true::.int 181 0::.ref (r+1)::.none::List.append l [.int m 0,.int s.pos.line 0,.str "/claim/cut.py" (m+1)])))
def fO(q:Str)(m:Str)(u:Nat)(s:Stmt)(v:Bool)(a t:Nat):List Obj:=match v with
 | true=>[o0,o1,oV (t+3) (vN s),o0,oT (sN s) q s,oC (sN s) q s t a [.ref (a+2),.ref (a+3),.ref (a+4)] (t+3+(vN s).length),oF (sN s) q s m u (a+5)]
 | false=>[o0,o1,oT (sN s) q s,oC (sN s) q s t a [.none,.none,.ref (a+2)] (t+3),oF (sN s) q s m u (a+3)]
def cO(P:Params)(m:Str)(u:Nat)(s:Stmt)(a t:Nat):List Obj:=
 [oU [.ref 24],oP,oD [de P "__module__" (t+7) (.str m u),de P "__qualname__" (t+9) (.str (sN s) (t+8)),de P "__firstlineno__" (t+11) (.int s.pos.line (t+10)),de P "__static_attributes__" (t+12) (.ref (a+7))] 4,o0,o1,
  oE (fC (sN s) (sN s) (t+2) (t+3) (t+4) s.pos.line 0 0 0 0 (a+3) false 181 (a+4) ↑(t+5) (t+6)),oX (a+5) (a+2) m u,o0,
  oD [de P "__module__" (t+7) (.str m u),de P "__firstlineno__" (t+11) (.int s.pos.line (t+10)),de P "__static_attributes__" (t+12) (.ref (a+7)),de P "__doc__" (t+13) .none] 2,
  oK (sN s) [.ref 24] [.ref (a+9),.ref 24,.type "ValueError",.type "Exception",.type "BaseException",.type "object"] (a+8) [] (some (.ref a)) t (t+8) "ValueError.__new__",oS (a+9),oB (a+9)]
noncomputable abbrev It:=Nat×Bool×Nat×Nat
def iO(m:Str)(u:Nat)(y:It):List Obj:=fO (sN (top y.1)) m u (top y.1) y.2.1 y.2.2.1 y.2.2.2
noncomputable def iF(y:It):Nat:=y.2.2.1+cond y.2.1 6 4
def iE(P:Params)(y:It):DictEntry:=de P (sN (top y.1)) (y.2.2.2+5+cond y.2.1 (vN (top y.1)).length 0) (.ref (iF y))
noncomputable def kI(y:It):List Nat:=cond y.2.1 [y.2.2.1,y.2.2.1+2,y.2.2.1+3,y.2.2.1+5,y.2.2.1+6] [y.2.2.1,y.2.2.1+3,y.2.2.1+4]
def iT(y:It)(l:List Value):List Value:=f3 (top y.1).pos.line 0 (iF y - 1) l
def jO(P:Params)(m:Str)(u:Nat)(y:Nat×Nat×Nat):List Obj:=cO P m u (top y.1) y.2.1 y.2.2
def jE(P:Params)(y:Nat×Nat×Nat):DictEntry:=de P (sN (top y.1)) (y.2.2+15) (.ref (y.2.1+9))
def jT(y:Nat×Nat×Nat)(l:List Value):List Value:=f3 (top y.1).pos.line 0 (y.2.1+5) l
noncomputable def kJ(y:Nat×Nat×Nat):List Nat:=[y.2.1,y.2.1+7,y.2.1+8,y.2.1+9]
noncomputable def vE(u:List Value):Obj:=oK "VerseError" [.type "ValueError"] [.ref 24,.type "ValueError",.type "Exception",.type "BaseException",.type "object"] 23 u (some (.ref 15)) 189 197 "ValueError.__new__"
noncomputable def i1:List (Nat×Nat×Nat):=[(2,28,207),(3,40,223),(4,52,239)]
noncomputable def i2:List (Nat×Nat×Nat):=[(5,64,255),(6,76,271)]
noncomputable def i3:List It:=[(9,true,107,316),(10,true,114,325),(11,false,121,333),(12,true,126,339),(13,true,133,355),(14,true,140,367),(15,true,147,380),(16,true,154,389),(17,true,161,399)]
noncomputable def i4:List It:=[(18,true,168,407),(19,true,175,420),(20,true,182,432),(21,true,189,441),(22,true,196,450),(23,true,203,459),(24,true,210,470)]
noncomputable def i5:List It:=[(26,true,217,487),(27,false,224,495),(28,true,229,501),(29,true,236,509),(30,true,243,520)]
noncomputable def i6:List It:=[(34,false,250,536),(35,true,255,542),(36,false,262,553),(37,true,267,559),(38,true,274,572),(39,false,281,585),(40,false,286,591),(41,true,291,597),(42,false,298,612)]
noncomputable def i7:List It:=[(44,false,303,620),(45,true,308,626)]
noncomputable def i8:List It:=[(55,true,315,653),(56,true,322,663),(57,true,329,674),(58,true,336,686),(59,false,343,697)]
noncomputable def i9:List It:=[(62,true,404,777),(63,true,411,790),(64,true,418,797),(65,false,425,810),(66,true,430,816),(67,true,437,823),(68,true,444,832),(69,true,451,848),(70,true,458,861),(71,true,465,871),(72,false,472,881),(73,false,477,887),(74,true,482,893),(75,true,489,909),(76,true,496,924),(77,false,503,951),(78,true,508,957),(79,true,515,967)]
noncomputable def i10:List It:=[(80,false,522,981),(81,false,527,987),(82,true,532,993),(83,true,539,1003)]
def n0(P:Params)(u:List Value):List Obj:=(List.append [oU [.type "ValueError"],oP,oD [de P "__module__" 196 (.str "moonseat.errors" 187),de P "__qualname__" 198 (.str "VerseError" 197),de P "__firstlineno__" 200 (.int 2 199),de P "__static_attributes__" 201 (.ref 22)] 4,o0,o1,oE (fC "VerseError" "VerseError" 191 192 193 2 0 0 0 0 18 false 181 19 194 195),oX 20 17 "moonseat.errors" 187,o0,oD [de P "__module__" 196 (.str "moonseat.errors" 187),de P "__firstlineno__" 200 (.int 2 199),de P "__static_attributes__" 201 (.ref 22),de P "__weakref__" 203 (.ref 25),de P "__doc__" 204 .none] 3,vE u,⟨.type "getset_descriptor",none,(.fields #[.str "__weakref__" 202,.ref 24,.builtin "ExceptionGroup.__weakref__",.none]),#[]⟩,oS 24,oB 24] (i1.flatMap (jO P "moonseat.errors" 187)))
def n1(P:Params)(u:List Value):List Obj:=(List.append (i2.flatMap (jO P "moonseat.errors" 187)) (List.append [oU [.ref 24],oP,oD [de P "__module__" 294 (.str "moonseat.errors" 187),de P "__qualname__" 296 (.str "Broken" 295),de P "__firstlineno__" 298 (.int 14 297),de P "__init__" 307 (.ref 101),de P "__static_attributes__" 310 (.ref 102)] 5,o0,⟨.none,none,(.fields #[.int 16 0,.int 4 0,.ref 100]),#[]⟩,oE (fC "Broken" "Broken" 289 290 291 14 0 0 0 0 91 false 181 92 292 293),oX 93 90 "moonseat.errors" 187] (List.append (fO "Broken.__init__" "moonseat.errors" 187 (inClass (top 7) 0) true 95 299) (List.append [oV 308 ["place", "word"],oD [de P "__module__" 294 (.str "moonseat.errors" 187),de P "__firstlineno__" 298 (.int 14 297),de P "__init__" 307 (.ref 101),de P "__static_attributes__" 310 (.ref 102),de P "__doc__" 311 .none] 2,oK "Broken" [.ref 24] [.ref 104,.ref 24,.type "ValueError",.type "Exception",.type "BaseException",.type "object"] 103 [] (some (.ref 88)) 287 295 "ValueError.__new__",oS 104,oB 104] (i3.flatMap (iO "moonseat.stands" 314))))))
noncomputable def n2(P:Params)(u:List Value):List Obj:=(List.append (i4.flatMap (iO "moonseat.stands" 314)) (List.append (i5.flatMap (iO "moonseat.sheets" 485)) (List.append (i6.flatMap (iO "moonseat.mends" 530)) (List.append (i7.flatMap (iO "moonseat.ahead" 618)) (i8.flatMap (iO "moonseat.rules" 635))))))
def n3(P:Params)(u:List Value):List Obj:=(List.append [o0,oP,oD [de P "__module__" 710 (.str "moonseat.rules" 635),de P "__qualname__" 712 (.str "Rules" 711),de P "__firstlineno__" 714 (.int 262 713),de P "__init__" 726 (.ref 361),de P "kinds" 733 (.ref 368),de P "shuns" 740 (.ref 375),de P "bars" 747 (.ref 382),de P "dues" 754 (.ref 389),de P "many" 761 (.ref 396),de P "__static_attributes__" 767 (.ref 397)] 10,o0,⟨.none,none,(.fields (List.toArray (f3 264 4 360 (f3 275 4 367 (f3 278 4 374 (f3 281 4 381 (f3 284 4 388 (f3 287 4 395 ([]))))))))),#[]⟩,oE (fC "Rules" "Rules" 705 706 707 262 0 0 0 0 351 false 181 352 708 709),oX 353 350 "moonseat.rules" 635] (List.append (fO "Rules.__init__" "moonseat.rules" 635 (inClass (top 60) 0) true 355 715) (List.append (fO "Rules.kinds" "moonseat.rules" 635 (inClass (top 60) 1) true 362 727) (List.append (fO "Rules.shuns" "moonseat.rules" 635 (inClass (top 60) 2) true 369 734) (List.append (fO "Rules.bars" "moonseat.rules" 635 (inClass (top 60) 3) true 376 741) (List.append (fO "Rules.dues" "moonseat.rules" 635 (inClass (top 60) 4) true 383 748) (List.append (fO "Rules.many" "moonseat.rules" 635 (inClass (top 60) 5) true 390 755) (List.append [oV 762 ["bar_rows", "due_rows", "kind_rows", "shun_rows", "size"],oD [de P "__module__" 710 (.str "moonseat.rules" 635),de P "__firstlineno__" 714 (.int 262 713),de P "__init__" 726 (.ref 361),de P "kinds" 733 (.ref 368),de P "shuns" 740 (.ref 375),de P "bars" 747 (.ref 382),de P "dues" 754 (.ref 389),de P "many" 761 (.ref 396),de P "__static_attributes__" 767 (.ref 397),de P "__dict__" 769 (.ref 400),de P "__weakref__" 771 (.ref 401),de P "__doc__" 772 .none] 4,oK "Rules" [.type "object"] [.ref 399,.type "object"] 398 [] (none) 703 711 "object.__new__",⟨.type "getset_descriptor",none,(.fields #[.str "__dict__" 768,.ref 399,.builtin "function.__dict__",.builtin "function.__dict__#set"]),#[]⟩,⟨.type "getset_descriptor",none,(.fields #[.str "__weakref__" 770,.ref 399,.builtin "ExceptionGroup.__weakref__",.none]),#[]⟩,oS 399,oB 399] (i9.flatMap (iO "law_moonseat_k18_whole_mending_and_prices" 775))))))))))
def n4(P:Params)(u:List Value):List Obj:=(i10.flatMap (iO "law_moonseat_k18_whole_mending_and_prices" 775))
def E(P:Params):List DictEntry:=(List.append [de P "__doc__" 166 .none,de P "__package__" 167 .none,de P "__loader__" 168 (.builtin "__main__.__loader__#opaque"),de P "__spec__" 169 .none,de P "__annotations__" 170 (.ref 6),de P "__builtins__" 171 (.ref 4),de P "__file__" 173 (.str "/claim/cut.py" 172),de P "__cached__" 174 .none,de P "VerseError" 206 (.ref 24)] (List.append (i1.map (jE P)) (List.append (i2.map (jE P)) (List.append [de P "Broken" 313 (.ref 104)] (List.append (i3.map (iE P)) (List.append (i4.map (iE P)) (List.append (i5.map (iE P)) (List.append [de P "LEAST_COST" 533 (.int 1 532),de P "MOST_COST" 535 (.int 9 534)] (List.append (i6.map (iE P)) (List.append (i7.map (iE P)) (List.append [de P "MOST_SIZE" 638 (.int 30 637),de P "MOST_KINDS" 640 (.int 4 639),de P "MOST_SHUNS" 642 (.int 20 641),de P "MOST_BARS" 644 (.int 12 643),de P "MOST_DUES" 646 (.int 3 645),de P "MOST_RUN" 648 (.int 4 647),de P "MOST_REST" 650 (.int 4 649),de P "MOST_FAR" 652 (.int 2 651)] (List.append (i8.map (iE P)) (List.append [de P "Rules" 774 (.ref 399)] (List.append (i9.map (iE P)) (i10.map (iE P))))))))))))))))
def mT(k:Nat):Obj:=⟨.none,none,.fields (List.toArray (List.take (3 * k) (f3 2 0 20 (i1.foldr jT (i2.foldr jT (f3 14 0 93 (i3.foldr iT (i4.foldr iT (i5.foldr iT (i6.foldr iT (i7.foldr iT (i8.foldr iT (f3 262 0 353 (i9.foldr iT (i10.foldr iT []))))))))))))))),#[]⟩
def mD(P:Params)(x:Str)(t k:Nat):Obj:=oD (de P "__name__" 165 (.str x t)::(E P).take k) (k+1)
def lA(P:Params):List Obj:=[boot_o_0 P,boot_o_1 P,boot_o_2 P,boot_o_3 P,boot_o_4 P,boot_o_5 P,boot_o_6 P,boot_o_7 P,boot_o_8 P,boot_o_9 P,boot_o_10 P,o0,o1,oE (fC "<module>" "<module>" 182 183 184 1 0 0 0 0 11 false 181 12 185 186),oX 13 3 "__main__" 164]
noncomputable def hA(P:Params):Heap:=⟨⟨lA P⟩,{}⟩
def t0(P:Params):BT:=putAll .nil (nz 0 (lA P))
def t1(P:Params):BT:=putAll (t0 P) ((3,mD P "moonseat.errors" 187 12)::(12,mT 4)::nz 15 (n0 P [.ref 37,.ref 49,.ref 61]))
def t2(P:Params):BT:=putAll (t1 P) ((3,mD P "moonseat.stands" 314 24)::(12,mT 16)::(24,vE [.ref 37,.ref 49,.ref 61,.ref 73,.ref 85,.ref 104])::nz 64 (n1 P [.ref 37,.ref 49,.ref 61,.ref 73,.ref 85,.ref 104]))
def t3(P:Params):BT:=putAll (t2 P) ((3,mD P "moonseat.rules" 635 62)::(12,mT 44)::nz 168 (n2 P []))
def t4(P:Params):BT:=putAll (t3 P) ((3,mD P "law_moonseat_k18_whole_mending_and_prices" 775 81)::(12,mT 63)::nz 348 (n3 P []))
def t5(P:Params):BT:=putAll (t4 P) ((3,mD P "law_moonseat_k18_whole_mending_and_prices" 775 85)::(12,mT 67)::nz 522 (n4 P []))
def lF(P:Params):List Obj:=(List.append [boot_o_0 P,boot_o_1 P,boot_o_2 P,mD P "law_moonseat_k18_whole_mending_and_prices" 775 85,boot_o_4 P,boot_o_5 P,boot_o_6 P,boot_o_7 P,boot_o_8 P,boot_o_9 P,boot_o_10 P,o0,mT 67,oE (fC "<module>" "<module>" 182 183 184 1 0 0 0 0 11 false 181 12 185 186),oX 13 3 "__main__" 164] (List.append (n0 P [.ref 37,.ref 49,.ref 61,.ref 73,.ref 85,.ref 104]) (List.append (n1 P [.ref 37,.ref 49,.ref 61,.ref 73,.ref 85,.ref 104]) (List.append (n2 P [.ref 37,.ref 49,.ref 61,.ref 73,.ref 85,.ref 104]) (List.append (n3 P [.ref 37,.ref 49,.ref 61,.ref 73,.ref 85,.ref 104]) (n4 P [.ref 37,.ref 49,.ref 61,.ref 73,.ref 85,.ref 104]))))))
noncomputable def hF(P:Params):Heap:=⟨⟨lF P⟩,{}⟩
def kA:List Addr:=(List.append [2,3,15,22,23,24,25] (List.append (i1.flatMap kJ) (List.append (i2.flatMap kJ) (List.append [88,95,97,98,100,101,102,103,104] (List.append (i3.flatMap kI) (List.append (i4.flatMap kI) (List.append (i5.flatMap kI) (List.append (i6.flatMap kI) (List.append (i7.flatMap kI) (List.append (i8.flatMap kI) (List.append [355,357,358,360,361,362,364,365,367,368,369,371,372,374,375,376,378,379,381,382,383,385,386,388,389,390,392,393,395,396,397,398,399,400,401] (List.append (i9.flatMap kI) (i10.flatMap kI)))))))))))))
def K(P:Params):Frag:=kA.map fun a=>(a,(lF P).getD a o0)
def kOk:∀P,kA=(K P).map (·.1):=fun _=>by kernel_rfl
def sts0:List Stmt:=(List.range' 0 5).map top
def sts1:List Stmt:=(List.range' 5 13).map top
def sts2:List Stmt:=(List.range' 18 42).map top
def sts3:List Stmt:=(List.range' 60 20).map top
def sts4:List Stmt:=(List.range' 80 4).map top
def q:Program:={ pw with main:={ pw.main with body:=((List.append (List.range' 1 7) (List.append (List.range' 9 16) (List.append (List.range' 26 5) (List.append (List.range' 32 11) (List.append (List.range' 44 2) (List.append (List.range' 47 14) (List.range' 62 22)))))))).map top } }
noncomputable abbrev Xt:Shared->Bool:=fun s=>xlAt q [] s&&recOk (RowW.records (OpenRow.toRowW (OpenLaw.row PySem.Challenge.rw_moonseat_k18_whole_mending_and_prices))) s
noncomputable def G2(p:Program)(w:World)(m:Nat)(an:Option Value)(n:Nat)(s:Shared)(t:Thread):=segRun treeTable p w m an 1 n s t
lay_quick G2
def g2{p:Program}{w:World}{m:Nat}{an:Option Value}{n:Nat}{s:Shared}{t:Thread}{r}(e:PySem.W.Fast.tw10880070632800087129 p w m an n s t=r):segRun treeTable p w m an 1 n s t=r:=by rw[<-PySem.W.Fast.te10880070632800087129]at e;exact e
noncomputable def G3(p:Program)(w:World)(m:Nat)(an:Option Value)(n:Nat)(s:SharedT)(t:Thread):=segRunT treeTable p w m an 1 n s t
lay_quick G3
def g3{p:Program}{w:World}{m:Nat}{an:Option Value}{n:Nat}{s:SharedT}{t:Thread}{r}(e:PySem.W.Fast.tw4145583888436359099 p w m an n s t=r):segRunT treeTable p w m an 1 n s t=r:=by rw[<-PySem.W.Fast.te4145583888436359099]at e;exact e
noncomputable def G4(p:Program)(w:World)(m:Nat)(an:Option Value)(n:Nat)(s:Shared)(t:Thread):=topRun treeTable p w m an n s t
lay_quick G4
def g4{p:Program}{w:World}{m:Nat}{an:Option Value}{n:Nat}{s:Shared}{t:Thread}{r}(e:PySem.W.Fast.tw6531939937263253831 p w m an n s t=r):topRun treeTable p w m an n s t=r:=by rw[<-PySem.W.Fast.te6531939937263253831]at e;exact e
noncomputable def G7(p:Program)(g h:Heap)(s:Shared):=(staticsOk (importedModules p.main.body) g h&&namesBound p h&&gensDone s&&laidKept g h)
lay_quick G7
def g7{p:Program}{g h:Heap}{s:Shared}{r}(e:PySem.W.Fast.tw9566738594451217396 p g h s=r):(staticsOk (importedModules p.main.body) g h&&namesBound p h&&gensDone s&&laidKept g h)=r:=by rw[<-PySem.W.Fast.te9566738594451217396]at e;exact e
noncomputable def G9(h:Heap):=(h.isNs mainGlobals&&(Array.mk []:Array GenState).size==0,h.objs.size,h.nsMap mainGlobals "__annotations__")
lay_quick G9
def g9{h:Heap}{r}(e:PySem.W.Fast.tw14578262778655688011 h=r):(h.isNs mainGlobals&&(Array.mk []:Array GenState).size==0,h.objs.size,h.nsMap mainGlobals "__annotations__")=r:=by rw[<-PySem.W.Fast.te14578262778655688011]at e;exact e
noncomputable def G5(q:Program)(R:WRecords)(md:List Str)(s:Shared):=(openSeen q [] md (fun s=>xlAt q [] s&&recOk R s) true s)
noncomputable def G6(q:Program):=openGood q []
lay_quick G5 G6
def g5{q:Program}{R:WRecords}{md:List Str}{s:Shared}{α:Type}(f:_->α)(e:f (PySem.W.Fast.tw5989712690265804088 q R md s)=f (PySem.W.Fast.tw12956129408465502666 q)):f (openSeen q [] md (fun s=>xlAt q [] s&&recOk R s) true s)=f (openGood q []):=by rw[<-PySem.W.Fast.te5989712690265804088,<-PySem.W.Fast.te12956129408465502666]at e;exact e
noncomputable def Lpre(w:World)(os:OsState):=topGo treeTable pw w 11 (some (.ref 6)) 12 (⟨boot_heap w.params,Array.mk [],boot_drawn,boot_toks,os⟩:Shared) (topStub pw)
def Rpre(w:World)(os:OsState):=some ((⟨hA w.params,Array.mk [],{},187,os⟩:Shared),(⟨denote treeTable cE,cE,(⟨0,0,0,0⟩:Pos),[topFrame (⟨0,0,0,0⟩:Pos)]⟩:Thread))
lay_quick Lpre Rpre
def Qpre:Lpre=Rpre:=PySem.W.Fast.te10476676399240795362.trans ((by kernel_rfl:PySem.W.Fast.tw10476676399240795362=PySem.W.Fast.tw9996742816549557572).trans PySem.W.Fast.te9996742816549557572.symm)
def Ppre(w:World)(os:OsState):topGo treeTable pw w 11 (some (.ref 6)) 12 (⟨boot_heap w.params,Array.mk [],boot_drawn,boot_toks,os⟩:Shared) (topStub pw)=some ((⟨hA w.params,Array.mk [],{},187,os⟩:Shared),(⟨denote treeTable cE,cE,(⟨0,0,0,0⟩:Pos),[topFrame (⟨0,0,0,0⟩:Pos)]⟩:Thread)):=congrFun (congrFun Qpre w) os
def Pblk(w:World)(os:OsState):segRun treeTable pw w 11 (some (.ref 6)) 1 1 (⟨hA w.params,Array.mk [],{},187,os⟩:Shared) (blockOf bd env cE (⟨0,0,0,0⟩:Pos) [topFrame (⟨0,0,0,0⟩:Pos)])=some (Flow.next,SharedT.abs (⟨t0 w.params,15,{},Array.mk [],{},187,os⟩:SharedT),cE,(⟨0,0,0,0⟩:Pos)):=g2 (by kernel_rfl)
def P0(w:World)(os:OsState):segRunT treeTable pw w 11 (some (.ref 6)) 1 835 (⟨t0 w.params,15,{},Array.mk [],{},187,os⟩:SharedT) (piecesOf sts0 env cE (⟨0,0,0,0⟩:Pos) [topFrame (⟨0,0,0,0⟩:Pos)])=some (Flow.next,(⟨t1 w.params,64,{},Array.mk [],{},255,os⟩:SharedT),cE,(⟨8,0,9,8⟩:Pos)):=g3 (by kernel_rfl)
def P1(w:World)(os:OsState):segRunT treeTable pw w 11 (some (.ref 6)) 1 970 (⟨t1 w.params,64,{},Array.mk [],{},255,os⟩:SharedT) (piecesOf sts1 env cE (⟨8,0,9,8⟩:Pos) [topFrame (⟨0,0,0,0⟩:Pos)])=some (Flow.next,(⟨t2 w.params,168,{},Array.mk [],{},407,os⟩:SharedT),cE,(⟨60,0,61,51⟩:Pos)):=g3 (by kernel_rfl)
def P2(w:World)(os:OsState):segRunT treeTable pw w 11 (some (.ref 6)) 1 995 (⟨t2 w.params,168,{},Array.mk [],{},407,os⟩:SharedT) (piecesOf sts2 env cE (⟨60,0,61,51⟩:Pos) [topFrame (⟨0,0,0,0⟩:Pos)])=some (Flow.next,(⟨t3 w.params,348,{},Array.mk [],{},703,os⟩:SharedT),cE,(⟨255,0,261,67⟩:Pos)):=g3 (by kernel_rfl)
def P3(w:World)(os:OsState):segRunT treeTable pw w 11 (some (.ref 6)) 1 987 (⟨t3 w.params,348,{},Array.mk [],{},703,os⟩:SharedT) (piecesOf sts3 env cE (⟨255,0,261,67⟩:Pos) [topFrame (⟨0,0,0,0⟩:Pos)])=some (Flow.next,(⟨t4 w.params,522,{},Array.mk [],{},981,os⟩:SharedT),cE,(⟨444,0,454,15⟩:Pos)):=g3 (by kernel_rfl)
def P4(w:World)(os:OsState):segRunT treeTable pw w 11 (some (.ref 6)) 1 124 (⟨t4 w.params,522,{},Array.mk [],{},981,os⟩:SharedT) (piecesOf sts4 env cE (⟨444,0,454,15⟩:Pos) [topFrame (⟨0,0,0,0⟩:Pos)])=some (Flow.next,(⟨t5 w.params,546,{},Array.mk [],{},1020,os⟩:SharedT),cE,(⟨488,0,513,90⟩:Pos)):=g3 (by kernel_rfl)
def Pfin(w:World)(os:OsState):topRun treeTable pw w 11 (some (.ref 6)) 2 (SharedT.abs (⟨t5 w.params,546,{},Array.mk [],{},1020,os⟩:SharedT)) (⟨doneF .next,cE,(⟨488,0,513,90⟩:Pos),[topFrame (⟨0,0,0,0⟩:Pos)]⟩:Thread)=some (⟨hF w.params,Array.mk [],{},1020,os⟩:Shared):=g4 (by kernel_rfl)
def Pc0(w:World)(os:OsState):(openSeen q [] (importedModules pw.main.body) Xt true (⟨hF w.params,Array.mk [],{},1020,os⟩:Shared)).1=(openGood q []).1:=g5 (·.1) (by kernel_rfl)
def Pc1(w:World)(os:OsState):(openSeen q [] (importedModules pw.main.body) Xt true (⟨hF w.params,Array.mk [],{},1020,os⟩:Shared)).2.1=(openGood q []).2.1:=g5 (·.2.1) (by kernel_rfl)
def Pc2(w:World)(os:OsState):(openSeen q [] (importedModules pw.main.body) Xt true (⟨hF w.params,Array.mk [],{},1020,os⟩:Shared)).2.2.1=(openGood q []).2.2.1:=g5 (·.2.2.1) (by kernel_rfl)
def Pc3(w:World)(os:OsState):(openSeen q [] (importedModules pw.main.body) Xt true (⟨hF w.params,Array.mk [],{},1020,os⟩:Shared)).2.2.2.1=(openGood q []).2.2.2.1:=g5 (·.2.2.2.1) (by kernel_rfl)
def Pc4(w:World)(os:OsState):(openSeen q [] (importedModules pw.main.body) Xt true (⟨hF w.params,Array.mk [],{},1020,os⟩:Shared)).2.2.2.2.1=(openGood q []).2.2.2.2.1:=g5 (·.2.2.2.2.1) (by kernel_rfl)
def Pc5(w:World)(os:OsState):(openSeen q [] (importedModules pw.main.body) Xt true (⟨hF w.params,Array.mk [],{},1020,os⟩:Shared)).2.2.2.2.2.1=(openGood q []).2.2.2.2.2.1:=g5 (·.2.2.2.2.2.1) (by kernel_rfl)
def Pc6(w:World)(os:OsState):(openSeen q [] (importedModules pw.main.body) Xt true (⟨hF w.params,Array.mk [],{},1020,os⟩:Shared)).2.2.2.2.2.2.1=(openGood q []).2.2.2.2.2.2.1:=g5 (·.2.2.2.2.2.2.1) (by kernel_rfl)
def Pc7(w:World)(os:OsState):(openSeen q [] (importedModules pw.main.body) Xt true (⟨hF w.params,Array.mk [],{},1020,os⟩:Shared)).2.2.2.2.2.2.2.1=(openGood q []).2.2.2.2.2.2.2.1:=g5 (·.2.2.2.2.2.2.2.1) (by kernel_rfl)
def Pc8(w:World)(os:OsState):(openSeen q [] (importedModules pw.main.body) Xt true (⟨hF w.params,Array.mk [],{},1020,os⟩:Shared)).2.2.2.2.2.2.2.2=(openGood q []).2.2.2.2.2.2.2.2:=g5 (·.2.2.2.2.2.2.2.2) (by kernel_rfl)
def Pa(w:World)(os:OsState):(staticsOk (importedModules pw.main.body) (boot_heap w.params) (hF w.params)&&namesBound pw (hF w.params)&&gensDone (⟨hF w.params,Array.mk [],{},1020,os⟩:Shared)&&laidKept (boot_heap w.params) (hF w.params))=true:=g7 (by kernel_rfl)
def Py(w:World)(os:OsState):kA.map ((⟨hF w.params,Array.mk [],{},1020,os⟩:Shared)).heap.get?=(K w.params).map fun p=>some p.2:=by kernel_rfl
def Pz(w:World):((boot_heap w.params).isNs mainGlobals&&(Array.mk []:Array GenState).size==0,(boot_heap w.params).objs.size,(boot_heap w.params).nsMap mainGlobals "__annotations__")=(true,11,(some (.ref 6))):=g9 (by kernel_rfl)
def run(w:World)(os:OsState):topRun treeTable pw w 11 (some (.ref 6)) (12+(1+(835+(970+(995+(987+(124+2))))))) (⟨boot_heap w.params,Array.mk [],boot_drawn,boot_toks,os⟩:Shared) (topStub pw)=some (⟨hF w.params,Array.mk [],{},1020,os⟩:Shared):=
 go_top (Ppre w os) (piece_block (Pblk w os) (piece_app (l:=sts0) (segRun_of (P0 w os)) (piece_app (l:=sts1) (segRun_of (P1 w os)) (piece_app (l:=sts2) (segRun_of (P2 w os)) (piece_app (l:=sts3) (segRun_of (P3 w os)) (piece_app (l:=sts4) (segRun_of (P4 w os)) (piece_nil (Pfin w os))))))))
def opn:opening pw=plainProg pw.main.scope.names:=by kernel_rfl
def fen(s:Shared):fenceModules? pw s=some s:=by kernel_rfl
def left:LeftO pw q [] Xt (Hook.obs (kHook K kA kOk)) (Hook.val (kHook K kA kOk)) 7938:=
 LeftO.of_pieces (H₀:=boot_heap) (H₁:=hF) (boot_open opn (by decide) fen) Pz run (by decide) fun w=>funext fun os=>Prod.ext (Pa w os) (Prod.ext (Prod.ext (Pc0 w os) (Prod.ext (Pc1 w os) (Prod.ext (Pc2 w os) (Prod.ext (Pc3 w os) (Prod.ext (Pc4 w os) (Prod.ext (Pc5 w os) (Prod.ext (Pc6 w os) (Prod.ext (Pc7 w os) (Pc8 w os))))))))) (Py w os))
end
end Hd
namespace M
open PySem L2 DS CP
def Ks(K:W.Frag):Sp:=fun vs H Q _=>∃(a:Addr) (ns:List Int),vs=[.ref a]/\jC K H a (ns.map V.int)/\ns.length<=63/\∀H',Q (.bl true) H'
def dz{K:W.Frag}{C:Addr}(vs:List V)(H:Hp)(Q:VK)(E:XK)(h:Ks K vs H Q E):K3 K [false] (xP C) vs H Q E:=by
 obtain⟨a,ns,rfl,hS,hl,q⟩:=h;have e:jd H []=H:=by funext b;rfl
 exact⟨[],[.scr ns],.bl true,(fun a h=>by cases h),⟨.inl (by rw[e];show DS.j8 K H (.scr ns) _;rw[DS.j8];exact⟨a,rfl,hS⟩),trivial⟩,bL C ns hl,fun v H' _ r=>by rw[DS.j8]at r;rw[r];exact q H'⟩
def FC{l:W.OpenLaw}{w:World}{K:W.Frag}{h:Heap}{mg:Tx}{fa:Addr}(C:Addr)(X:K.In h)(G:h.Ns mainGlobals mg)(hfa:mg "law" = some (.ref fa))
 (aC:W.nsIn K mainGlobals "Rules" = some (some (.ref C)))
 (pg:W.plainGet K C Str.empty=true)
 (hd:W.hasDictIn K C=true)
 (po:W.plainOver K C=true)
 (sa:W.findIn K (.ref C) "__setattr__" = some (some (.builtin "object.__setattr__")))
 (mk:W.makesIn K C=true)
 (kc:W.keepIn K (.ref C)=true)
 (A1:(l1 C).map (gh K (T0 C).C)=(l1 C).map (gi K))
 (A_Rules___init__:gh K (T1 C).C (JJ C)=gi K (JJ C))
 (A3:(l3 C).map (gh K (T2 C).C)=(l3 C).map (gi K))
 (A_mended:gh K (T3 C).C (Y2 C)=gi K (Y2 C))
 (A5:(l5 C).map (gh K (T4 C).C)=(l5 C).map (gi K))
 (Al:gh K C (VC C)=gi K (VC C))
 (hF:(T0 C).fl.map (W.findIn K (.ref C))=(T0 C).fl.map fun _=>some none)
 (hG:(T0 C).gs.map (fun p=>(Qp (W.nsIn K mainGlobals p.1),(BS p.2).isSome))=(T0 C).gs.map fun p=>(BS p.2,true)):
  ∃fd:FuncData,(∀(s:Shared) (v:Value),BindsTo s fd ⟨[v],[]⟩ [("_law_script",v)])/\∀base:Heap,K.In base->base.Ns mainGlobals mg->FnOk l.prog w K mg base Yj 121 fa fd ["_law_script"] (Ks K):=by
 have XG:∀x v,W.nsIn K mainGlobals x=some (some v)->mg x=some v:=fun x v a=>W.mg_of X G a;obtain⟨f_law,xP,a_law,F_law⟩:=Wa Al rfl;have e:=hfa.symm.trans (XG _ _ a_law);cases e;obtain⟨_,_,kV,dc,pm,an,cd,ct,_,rfl,_,_⟩:=F_law.ex;refine⟨W.fnOf "law" "law" (defArgs (VC C).st) (defBody (VC C).st) (defScope (VC C).st) .none kV dc pm an cd ct,fun s v=>.of_eq rfl,fun base _ _=>?_⟩;have h:TOk l.prog w K mg base 0 (T0 C):=⟨fun p hp=>ir XG (fun x a=>W.mg_none_of X G a) (iu hG p hp),(fun _ h=>by cases h),⟨pg,hd,po,sa⟩,W_ hF⟩
 have h:=TOk.adds XG (l1 C) h (k1 C) A1;have h:TOk l.prog w K mg base 18 (T2 C):=TOk.I XG (d:=(JJ C).de) h (WZ A_Rules___init__ rfl) (by kernel_rfl) (kM C) (by kernel_rfl) (Gp (by kernel_rfl)) mk kc aC (Gw C);have h:=TOk.adds XG (l3 C) h (k3 C) A3;have h:TOk l.prog w K mg base 76 (T4 C):=TOk.O XG (d:=(Y2 C).de) h (Wa A_mended rfl) (by kernel_rfl) (by kernel_rfl) (Gp (by kernel_rfl)) fun X h p=>bM C X h p;have h:=TOk.adds XG (l5 C) h (k5 C) A5;exact(LA (d:=(VC C).de) h F_law (by kernel_rfl) rfl fun X h p=>iM C X h p).imp dz
def L7{l:W.OpenLaw}{q:Program}{loose:List Str}{XP:(Str->Option Value)->Heap->Prop}{YP:World->Heap->Prop}{d:DefRec}{K:Params->W.Frag}(hn:l.most=some 63)(hdf:d.params.defaults=[])
  (hY:∀(w:World) (h:Heap),YP w h->(K w.params).In h)
  (F:∀(w:World) (mg:Tx) (fa:Addr) (h:Heap),(K w.params).In h->h.Ns mainGlobals mg->mg d.name=some (.ref fa)->
   ∃fd:FuncData,(∀(s:Shared) (u:Value),BindsTo s fd ⟨[u],[]⟩ [("_law_script",u)])/\∀base:Heap,(K w.params).In base->base.Ns mainGlobals mg->FnOk l.prog w (K w.params) mg base Yj 121 fa fd ["_law_script"] (Ks (K w.params))):
  W.WalkO q loose XP YP l.row.toRowW d [] (fun f vs=>PySem.call f vs):=
 L2.cY (n:=63) (k:=121) (x := "_law_script") (CX:=fun _=>Yj) (sp:=fun w=>Ks (K w.params)) hn (by decide) hdf ⟨rfl,by decide,by decide⟩ hY F (fun _ _ a ns hl _ hS=>⟨a,ns,rfl,hS,hl,fun _=>rfl⟩) fun _ _ _ _ _ z=>z
end M
open PySem PySem.W PyProof.Rows
set_option tactic.hygienic true in
set_option maxHeartbeats 0 in
theorem PySem.Challenge.cw_moonseat_k18_whole_mending_and_prices_holds : PySem.Challenge.rw_moonseat_k18_whole_mending_and_prices.Holds := by
 w_on;o_law
 refine holds_open (q:=Hd.q) (loose:=[]) (Xt:=Hd.Xt) (XP:=XL Hd.q []) (Yf:=Hook.obs (kHook Hd.K Hd.kA Hd.kOk)) (Ya:=Hook.val (kHook Hd.K Hd.kA Hd.kOk)) (YP:=Hook.says (kHook Hd.K Hd.kA Hd.kOk)) (N:=7938) Hd.left (Hook.of _) (Hook.keeps _) (fun s e=>xl_of s (Bool.and_eq_true_iff.mp e).1) XL.keeps (by rfl) (by rfl) (by rfl) (fun s e=>recFacts_of (Bool.and_eq_true_iff.mp e).2) (by rfl) (by assumption) (by decide +kernel) ⟨rfl,rfl,rfl,rfl,rfl,by decide +kernel⟩ ?hw ?hc
 case hw=>w_witness2
 exact M.L7 (l:=PySem.Challenge.rw_moonseat_k18_whole_mending_and_prices) rfl rfl (fun w h Y=>kIn_of Y) fun w mg fa h KX G hmg=>M.FC 399 KX G hmg (by kernel_rfl) (by kernel_rfl) (by kernel_rfl) (by kernel_rfl) (by kernel_rfl) (by kernel_rfl) (by kernel_rfl) (by kernel_rfl) (by kernel_rfl) (by kernel_rfl) (by kernel_rfl) (by kernel_rfl) (by kernel_rfl) (by kernel_rfl) (by kernel_rfl)
