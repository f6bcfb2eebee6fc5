import PyProof.Rows.All
import Wide.All
import OpenK.AllK
import Wide.FinOn
import Lean
import PyProof.EqAt
import PyProof.EqKinds
import PyProof.TupleCall
import PyProof.NeKinds
import PyProof.IsiTupleOf
import PyProof.IsiPairs
import PyProof.IsiHeapPairs
import PyProof.ConsumeWalk
import PyProof.EnumFor
import PyProof.EnumMake
import PyProof.AutoSeq1
import KE.KDictList
import KE.KDictOf
import KE.KIntText
import KE.KRevIter
import KE.KTryMore
import PyProof.AutoListH
import PyProof.ExcArgsOwn
import PyProof.ExcAttrAll.ValueError
import PyProof.FactsAll.list_3
import PyProof.FactsAll.str_0
import PyProof.FactsAll.str_5
import PyProof.FactsAll.str_6
import PyProof.FactsAll.str_7
import PyProof.InstStoreFacts
import PyProof.ListRange
import PyProof.MinMaxWalk
import PyProof.Rows.FStr
import PyProof.Rows.StrNews2
import PyProof.Rows.StrSplitJoin
import PyProof.SeqRoads
import PyProof.SumWalkG
import PyProof.FactsAll.list_2
import PySem.Challenge.RW_moonseat_k30_verses_offered
noncomputable section
set_option hygiene false
local macro_rules|`(S $x)=>`(some $x)
local macro_rules|`(L $x)=>`(List $x)
local macro_rules|`(Y $x)=>`(Option $x)
local macro_rules|`(J)=>`(none)
local macro_rules|`(B)=>`(true)
local macro_rules|`(G)=>`(false)
local macro_rules|`(#[$x,*])=>`(⟨$x,*⟩)
local macro_rules|`(#v[$x,*])=>`(List.toArray [$x,*])
set_option tactic.hygienic false
set_option bootstrap.genMatcherCode false
set_option genSizeOf false
set_option linter.all false
set_option Elab.async false
set_option maxRecDepth 100000
set_option maxHeartbeats 4000000
set_option compiler.extract_closed false
set_option genInjectivity false
section
open PySem PySem.Spec PyProof.Rows
abbrev Tq:=L (Addr×Obj)
abbrev Tz:=Value->Shared->Prop
abbrev Tj:=Str->Y Value
abbrev Tv:=L (Str×Nat)
def wAa:=@wpAny_bind
def wBa:=@wpAny_pure
def wCa:=@wpAny_mono
def wDa:=@wpAny_holding
def wHa:=@wpAny_call
def wIa:=@Heap.get?_push_of_some
def wJa:=@Heap.get?_push_size
def wKa:=@Heap.get?_update_other
def wLa:=@Heap.lt_size
def wMa:=@List.mem_cons_of_mem
def wNa:=@List.mem_cons_self
def wPa:=@Nat.le_refl
def wQa:=@Nat.le_of_lt
def wSa:=@Nat.le_trans
def wTa:=@Nat.ne_of_lt
def wUa:=@Nat.lt_irrefl
def wYa:=@List.mem_of_getElem?
def vBa:=@decide_eq_false
def vDa:=@absurd
def vEa:=@Int.le_refl
def vFa:=@Option.some.inj
def vIa:=@List.mem_append_left
def vJa:=@List.mem_append_right
def vKa:=@Nat.le_add_right
def vLa:=@eq_of_beq
def vMa:=@Nat.le_succ
def vNa:=@Bool.false_ne_true
def vOa:=@wpAny_standAt
def vTa:=@wpAny_newObj_type
def vUa:=@Heap.get?_update_self
def vWa:=@List.map_cons
def vXa:=@List.length_cons
def vYa:=@List.length_map
def vZa:=@List.length_append
def uAa:=@List.getElem?_map
def uBa:=@List.getD_eq_getElem?_getD
def uCa:=@List.getElem?_eq_getElem
def uDa:=@List.map_append
def uEa:=@Option.bind_some
def uFa:=@List.append_nil
def uIa:=@List.length_singleton
def uJa:=@List.map_nil
def uLa:=@List.size_toArray
def uNa:=@List.length_drop
def uOa:=@List.length_take
def uRa:=@List.getElem?_append_left
def uSa{α:Type _}{l:L α}{i:Nat}{a:α}(h:l[i]?=S a):∃h:i<l.length,l[i]=a:=List.getElem?_eq_some_iff.mp h
def uTa{α:Type _}{a b:α}{l:L α}(h:a∈b::l):a=b∨a∈l:=List.mem_cons.mp h
def uVa{α β:Type _}{f:α->β}{b:β}{l:L α}(h:b∈l.map f):∃a,a∈l/\f a=b:=List.mem_map.mp h
def uWa{α:Type _}{a:α}{s t:L α}(h:a∈s++t):a∈s∨a∈t:=List.mem_append.mp h
abbrev uXa:=PySem.W.Frag
def Zn{a:b}{p:Prop}(h:J=S a):p:=nomatch h
def Zs{a:b}{p:Prop}(h:S a=J):p:=nomatch h
def Zf{p:Prop}(h:G=B):p:=nomatch h
def Zt{p:Prop}(h:B=G):p:=nomatch h
def Zj{a b:c}(h:S a=S b):a=b:=vFa h
namespace L2
set_option genInjectivity true in
inductive KD where
 |i (n:Int)|s (x:Str)|t (l:L KD)
mutual
noncomputable def w8:KD->KD->Bool
 |.i n,.i m=>n==m
 |.s x,.s y=>x==y
 |.t l,.t m=>Wj l m
 |_,_=>G
noncomputable def Wj:L KD->L KD->Bool
 |[],[]=>B
 |a::l,b::m=>w8 a b&&Wj l m
 |_,_=>G
end
mutual
theorem u9:∀{a b},w8 a b=B↔a=b
 |.i n,.i m=>by show(_==_)=_↔_;simp
 |.s n,.s m=>by show(_==_)=_↔_;simp
 |.t l,.t m=>by show Wj l m=_↔_;rw[Qt];simp
 |.i _,.s _=>#[Zf,nofun]
 |.i _,.t _=>#[Zf,nofun]
 |.s _,.i _=>#[Zf,nofun]
 |.s _,.t _=>#[Zf,nofun]
 |.t _,.i _=>#[Zf,nofun]
 |.t _,.s _=>#[Zf,nofun]
theorem Qt:∀{a b},Wj a b=B↔a=b
 |[],[]=>#[λ_=>rfl,λ_=>rfl]
 |a::l,b::m=>by show(w8 a b&&Wj l m)=_↔_;rw[Bool.and_eq_true,u9,Qt];simp
 |[],_::_=>#[Zf,nofun]
 |_::_,[]=>#[Zf,nofun]
end
noncomputable instance:DecidableEq KD:=λa b=>decidable_of_iff _ u9
mutual
noncomputable def JP(h:Heap):KD->Value->Prop
 |.i n,v=>(∃t,v=.int n t)\/∃b ,v=.bool b/\n=(if b then 1 else 0)
 |.s x,v=>∃t,v=.str x t
 |.t l,v=>∃a c,v=.ref a/\h.IsTuple a c/\ye h l c.toList
noncomputable def ye(h:Heap):L KD->L Value->Prop
 |[],d=>d=[]
 |k::e,d=>∃v r,d=v::r/\JP h k v/\ye h e r
end
mutual
noncomputable def KD.dep:KD->Nat
 |.i _=>0
 |.s _=>0
 |.t l=>Yr l+1
noncomputable def Yr:L KD->Nat
 |[]=>0
 |k::a=>max k.dep (Yr a)
end
def ae:(KD.t a).dep=Yr a+1:=rfl
mutual
noncomputable def KD.drw:KD->Nat
 |.i _=>1
 |.s _=>1
 |.t l=>kr l+1
noncomputable def kr:L KD->Nat
 |[]=>0
 |k::a=>k.drw+kr a
end
mutual
noncomputable def w_(w:World):KD->Int
 |.i n=>hashInt n
 |.s x=>hashStr w x
 |.t l=>reduceHash (Builtin.Tuple.tupleHashOf (UH w l))
noncomputable def UH(w:World):L KD->L Int
 |[]=>[]
 |k::a=>w_ w k::UH w a
end
mutual
theorem JP.inj:∀{x y v},JP h x v->JP h y v->x=y
 |.i n,.i m,v,p,q=>by
  rw[JP]at q;rcases p with⟨t,rfl⟩|⟨b,rfl,rfl⟩
  ·lia
  ·simp_all
 |.s n,.s m,v,p,q=>by
  obtain⟨t,rfl⟩:=p;obtain⟨t,e⟩:=q;cases e;rfl
 |.t n,.t m,v,p,q=>by
  obtain⟨a,k,rfl,j,p⟩:=p;obtain⟨M,f,e,s,q⟩:=q;cases e;obtain⟨o,g,_,_,d⟩:=j;obtain⟨I,i,_,_,c⟩:=s;rw[g]at i;cases i;rw[d]at c;cases c;rw[ye.inj p q]
 |.i n,.s m,v,p,q=>by
  obtain⟨t,rfl⟩:=q;rcases p with⟨t,e⟩|⟨b,e,_⟩<;>cases e
 |.i n,.t m,v,p,q=>by
  obtain⟨_,_,rfl,_⟩:=q;rcases p with⟨t,e⟩|⟨b,e,_⟩<;>cases e
 |.s n,.i m,v,p,q=>by
  obtain⟨t,rfl⟩:=p;rcases q with⟨t,e⟩|⟨b,e,_⟩<;>cases e
 |.s n,.t m,v,p,q=>by
  obtain⟨t,rfl⟩:=p;obtain⟨_,_,e,_⟩:=q;cases e
 |.t n,.i m,v,p,q=>by
  obtain⟨_,_,rfl,_⟩:=p;rcases q with⟨t,e⟩|⟨b,e,_⟩<;>cases e
 |.t n,.s m,v,p,q=>by
  obtain⟨_,_,rfl,_⟩:=p;obtain⟨t,e⟩:=q;cases e
theorem ye.inj:∀{x y v},ye h x v->ye h y v->x=y
 |[],[],_,_,_=>rfl
 |[],_::_,_,p,q=>by
  subst p;obtain⟨_,_,e,_⟩:=q;cases e
 |_::_,[],_,p,q=>by
  subst q;obtain⟨_,_,e,_⟩:=p;cases e
 |x::F,y::C,_,p,q=>by
  obtain⟨v,r,rfl,z,u⟩:=p;obtain⟨A,H,e,l,w⟩:=q;cases e;rw[JP.inj z l,ye.inj u w]
end
mutual
theorem JP.keep(m:∀a b,h.IsTuple a b->c.IsTuple a b):∀{k v},JP h k v->JP c k v
 |.i _,_,p=>by exact p
 |.s _,_,p=>by exact p
 |.t l,_,p=>by
  obtain⟨a,b,rfl,o,p⟩:=p;exact#[a,_,rfl,m a _ o,ye.keep m p]
theorem ye.keep(m:∀a b,h.IsTuple a b->c.IsTuple a b):∀{k v},ye h k v->ye c k v
 |[],_,p=>by exact p
 |k::f,_,p=>by
  obtain⟨v,r,rfl,e,d⟩:=p;exact#[v,r,rfl,JP.keep m e,ye.keep m d]
end
def af(c:A.units<cLine)(h:Q (hashInt (if b then 1 else 0)) {s with toks:=s.toks+1}):wpAny (model a w) A (pyHash (.bool b)) Q E s:=by
 refine PySem.W.pyHash_slot rfl F.slot_bool_hash entry_int_hash (args_int_hash _) (beq_builtin_none _) (.inr c) ?_;cases b
 ·exact(show wpAny _ _ (do ret (<-mkInt 0)) _ _ s from wAa (wpAny_mkInt (wBa #[_,_,rfl,by
    have e:reduceHash 0=hashInt 0:=rfl;exact h])))
 ·exact(show wpAny _ _ (do ret (<-mkInt 1)) _ _ s from wAa (wpAny_mkInt (wBa #[_,_,rfl,by
    have e:reduceHash 1=hashInt 1:=rfl;exact h])))
mutual
theorem Qu:∀(k v A s) (Q:Int->Shared->Prop),JP s.heap k v->A.units+k.dep<cLine->Q (w_ w k) {s with toks:=s.toks+k.drw}->wpAny (model i w) A (pyHash v) Q E s
 |.i n,v,A,s,Q,p,d,h=>by
  rcases p with⟨t,rfl⟩|⟨b,rfl,rfl⟩
  ·exact wpAny_pyHash_int h
  ·exact af (by exact d) h
 |.s x,v,A,s,Q,p,d,h=>by
  obtain⟨t,rfl⟩:=p;exact wpAny_pyHash_str h
 |.t l,v,A,s,Q,p,d,h=>by
  rw[w_,KD.drw]at h;rw[ae]at d;obtain⟨a,y,rfl,o,p⟩:=p;obtain⟨H,g,c,n,z⟩:=o;refine PySem.W.pyHash_slot #[_,g,c] F.slot_tuple_hash F.entry_tuple_hash (F.args_tuple_hash_1 _) (beq_builtin_none _) (.inr (by lia)) ?_;refine(show wpAny _ _ (Builtin.Tuple.tupleItemsOf _ >>= _) _ _ s from wAa (wpAny_tupleItemsOf g z (wAa ?_)));rw[<-Array.forIn_toList];refine Wk l _ _ s _ _ p (by lia) λf m=>?_;show wpAny _ _ (retInt _) _ _ _;rw[m];exact wAa (wpAny_mkInt (wBa #[_,_,rfl,by simpa[Nat.add_assoc]using h]))
theorem Wk:∀(e j A s b Q),ye s.heap e j->A.units+Yr e<cLine->(∀f:Array _,f.toList=b.toList++UH w e->Q f {s with toks:=s.toks+kr e})->
  wpAny (model i w) A (forIn j b λx r=>do let h<-pyHash x;pure (ForInStep.yield (r.push h))) Q E s
 |[],j,A,s,b,Q,p,d,h=>by
  subst p;exact wBa (by simpa[kr,UH]using h b)
 |k::e,j,A,s,b,Q,p,d,h=>by
  rw[Yr]at d;obtain⟨v,r,rfl,C,u⟩:=p;rw[List.forIn_cons];refine wAa (wAa (Qu k v A s _ C (by lia) (wBa ?_)));refine Wk e r A _ _ Q u (by lia) λf m=>?_;have:=h f (by rw[m,UH];simp);rw[kr]at this;simpa[Nat.add_assoc]using this
end
section
open SeqAt
variable{s:Shared}
def ua{d:Type}[DecidableEq d]{a b:d}{c}(h:c=B↔a=b):decide (a=b)=c:=by
 cases c with
 |true=>exact decide_eq_true (h.mp rfl)
 |false=>exact vBa λz=>by simp_all
theorem ye.len:∀{ks vs},ye h ks vs->vs.length=ks.length
 |[],_,p=>by subst p;rfl
 |k::ks,_,p=>by
  obtain⟨v,r,rfl,_,a⟩:=p;simp[a.len]
theorem ye.get:∀{a vs}{j:Nat}{v},ye h a vs->vs[j]?=S v->∃k,a[j]?=S k/\JP h k v
 |[],_,_,_,p,e=>by subst p;simp at e
 |k::a,_,j,d,p,e=>by
  obtain⟨v,r,rfl,c,b⟩:=p;cases j with
  |zero=>cases e;exact#[k,rfl,c]
  |succ j=>exact b.get e
theorem wa:∀{a k},k∈a->k.dep<=Yr a
 |[],_,h=>by cases h
 |x::b,k,h=>by
  rw[Yr];rcases uTa h with rfl|h
  ·lia
  ·have:=wa h
   lia
theorem cv:∀(n:Nat) (x y:KD) (u v:Value) (A:Around),x.dep<=n->JP s.heap x u->JP s.heap y v->A.units+n<cLine->EqAt A s u v (decide (x=y))
 |n,.i a,.i b,u,v,A,m,p,q,r=>by
  rw[JP]at p;rw[JP]at q;rcases p with⟨t,rfl⟩|⟨c,rfl,rfl⟩
  ·rcases q with⟨k,rfl⟩|⟨w,rfl,rfl⟩
   ·rw[ua (c:=(a==b)) (by simp)];exact .int_int a t b k
   ·rw[ua (c:=(a==if w then 1 else 0)) (by simp)];exact .int_bool a t w
  ·rcases q with⟨k,rfl⟩|⟨w,rfl,rfl⟩
   ·rw[ua (c:=((if c then 1 else 0)==b)) (by simp)];exact .bool_int c b k
   ·rw[ua (c:=(c==w)) (by cases c<;>cases w<;>simp)];exact .bool_bool c w
 |n,.s a,.s b,u,v,A,m,p,q,r=>by
  rw[JP]at p;rw[JP]at q;obtain⟨t,rfl⟩:=p;obtain⟨k,rfl⟩:=q;rw[ua (c:=(a==b)) (by simp)];exact .str_str a t b k
 |n,.i a,.s b,u,v,A,m,p,q,r=>by
  rw[JP]at p;rw[JP]at q;obtain⟨k,rfl⟩:=q;rw[decide_eq_false (by intro z;cases z)];rcases p with⟨t,rfl⟩|⟨c,rfl,rfl⟩
  ·exact .int_str a t b k
  ·exact .bool_str c b k
 |n,.s a,.i b,u,v,A,m,p,q,r=>by
  rw[JP]at p;rw[JP]at q;obtain⟨k,rfl⟩:=p;rw[decide_eq_false (by intro z;cases z)];rcases q with⟨t,rfl⟩|⟨c,rfl,rfl⟩
  ·exact .str_int a k b t
  ·exact .str_bool a k c
 |n,.i a,.t b,u,v,A,m,p,q,r=>by
  rw[JP]at p;rw[JP]at q;obtain⟨e,f,rfl,o,_⟩:=q;rw[decide_eq_false (by intro z;cases z)];rcases p with⟨t,rfl⟩|⟨c,rfl,rfl⟩
  ·exact .int_tuple a t o (by lia)
  ·exact .bool_tuple c o (by lia)
 |n,.t a,.i b,u,v,A,m,p,q,r=>by
  rw[JP]at p;rw[JP]at q;obtain⟨e,f,rfl,o,_⟩:=p;rw[decide_eq_false (by intro z;cases z)];rcases q with⟨t,rfl⟩|⟨c,rfl,rfl⟩
  ·exact .tuple_int b t o (by lia)
  ·exact .tuple_bool c o (by lia)
 |n,.s a,.t b,u,v,A,m,p,q,r=>by
  rw[JP]at p;rw[JP]at q;obtain⟨e,f,rfl,o,_⟩:=q;obtain⟨t,rfl⟩:=p;rw[decide_eq_false (by intro z;cases z)];exact .str_tuple a t o (by lia)
 |n,.t a,.s b,u,v,A,m,p,q,r=>by
  rw[JP]at p;rw[JP]at q;obtain⟨e,f,rfl,o,_⟩:=p;obtain⟨t,rfl⟩:=q;rw[decide_eq_false (by intro z;cases z)];exact .tuple_str b t o (by lia)
 |0,.t a,.t b,u,v,A,m,p,q,r=>by rw[ae]at m;lia
 |n+1,.t a,.t b,u,v,A,m,p,q,r=>by
  rw[ae]at m;rw[JP]at p;rw[JP]at q;obtain⟨l,f,rfl,o,p⟩:=p;obtain⟨X,i,rfl,I,q⟩:=q;by_cases N:l=X
  ·subst N;obtain⟨z,g,_,_,d⟩:=o;obtain⟨z',O,_,_,P⟩:=I;rw[g]at O;cases O;rw[d]at P;cases P;rw[ye.inj p q,decide_eq_true rfl];exact .same _
  ·have l1:=p.len;have R:=q.len;have Z:=RcAt.tuples (A:=A) (e:=λj=>decide (a[j]?=b[j]?)) o I (by lia) λj H Q=>by
    have g1:f.toList[j]?=S f[j]:=by simp[H]
    have W:i.toList[j]?=S i[j]:=by simp[Q]
    obtain⟨F,M,UQ⟩:=p.get g1;obtain⟨C,T,r2⟩:=q.get W;have:=cv n F C _ _ A.in1 (wSa (wa (wYa M)) (by lia)) UQ r2 (by rw[Around.in1_units];lia);rw[M,T];have ee:decide (S F=S C)=decide (F=C):=by lia
    rw[ee];exact this
   refine .of_refs N ?_;rw[ua (c:=((List.range (min f.size i.size)).all (λj=>decide (a[j]?=b[j]?))&&f.size==i.size))]
   ·exact Z
   ·rw[Bool.and_eq_true,beq_iff_eq,List.all_eq_true];have z1:f.size=a.length:=by rw[<-l1];simp
    have z2:i.size=b.length:=by rw[<-R];simp
    rw[z1,z2];constructor
    ·rintro⟨H,Q⟩;congr 1;refine List.ext_getElem? λj=>?_;by_cases hj:j<a.length
     ·exact of_decide_eq_true (H j (by simp;lia))
     ·rw[List.getElem?_eq_none (by lia),List.getElem?_eq_none (by lia)]
    ·intro h;cases h;exact#[λj _=>by simp,rfl]
end
theorem Wl:∀(n k v A) (Q:Bool->Shared->Prop),k.dep<=n->JP s.heap k v->Q B s->wpAny (model i w) A (eqIsQuiet n v) Q E s
 |n,.i _,v,A,Q,_,p,h=>by
  rcases p with⟨t,rfl⟩|⟨b,rfl,_⟩
  ·rw[eqIsQuiet_byValue n rfl];exact wBa h
  ·rw[eqIsQuiet_byValue n rfl];exact wBa h
 |n,.s x,v,A,Q,_,p,h=>by
  obtain⟨t,rfl⟩:=p;rw[eqIsQuiet_byValue n rfl];exact wBa h
 |0,.t l,v,A,Q,j,p,h=>by rw[ae]at j;lia
 |n+1,.t l,v,A,Q,j,p,h=>by
  rw[ae]at j;obtain⟨a,O,rfl,o,p⟩:=p;obtain⟨T,g,c,m,M⟩:=o;have u:s.TypeIs (.ref a) "tuple":= #[T,g,c]
  unfold eqIsQuiet;refine wAa (wpAny_specialOf u F.slot_tuple_eq.lookup ?_);refine(show wpAny _ _ _ _ _ s from wAa (wpAny_isInstance u isSubtype_tuple_tuple ?_));refine wAa (wpAny_seqItems g M (wAa ?_));rw[Option.getD_some,<-Array.forIn_toList];have I:∀(d),(∃f,ye s.heap f d/\Yr f<=n)->wpAny (model i w) A (forIn d (J,PUnit.unit) λy r=>do
    if(!(<-eqIsQuiet n y))=B then pure (ForInStep.done (S G,PUnit.unit))else do pure _;pure (ForInStep.yield (J,PUnit.unit))) (λr z=>r=(J,PUnit.unit)/\z=s) E s:=by
   intro d;induction d with
   |nil=>intro _;exact wBa #[rfl,rfl]
   |cons y d N=>
    rintro⟨f,C,H⟩;cases f with
    |nil=>cases C
    |cons k f=>
     obtain⟨_,_,e,P,R⟩:=C;cases e;rw[Yr]at H;rw[List.forIn_cons];refine wAa (wAa (Wl n k y A _ (by lia) P ?_));exact wBa (N #[f,R,by lia])
  refine wCa (I _ #[l,p,by lia]) ?_ λ_ _ x=>x;rintro r z ⟨rfl,rfl⟩;exact wBa h
noncomputable def UI(d w):HeapKind d w KD where
 is:=λh k a=>JP h k (.ref a)/\k.dep<=8
 hash:=w_ w
 draws:=KD.drw
 room:=λA=>A.units+8<cLine
 inj:=λp q=>p.1.inj q.1
 keeps:=λp i o j=>by
  refine#[p.1.keep λb l t=>?_,p.2];obtain⟨n,g,c,m,e⟩:=t;refine#[n,(j.2 b ?_).trans g,c,m,e];rintro rfl;rw[i]at g;cases g;rw[o]at e;cases e
 pyHash:=λf p h=>Qu _ _ _ _ _ p.1 (by lia) h
 eqBool:=λf p q h=>cv 8 _ _ _ _ _ p.2 p.1 q.1 f _ _ _ _ h
 quiet:=λp h=>Wl 8 _ _ _ _ p.2 p.1 h
noncomputable abbrev Gq:=Sum Int Str
noncomputable def kt:Gq->Value->Bool
 |.inl k,v=>Value.isInt k v
 |.inr x,v=>Value.isStrOf x v
noncomputable def mY(w:World):Gq->Int
 |.inl k=>hashInt k
 |.inr x=>hashStr w x
theorem JC:∀{k} {v},kt k v=B->(∃i t,k=Sum.inl i/\v=Value.int i t)\/(∃x t,k=Sum.inr x/\v=Value.str x t)
 |.inl i,v,h=>by
  obtain⟨t,e⟩:=Value.isInt_shape h;exact .inl #[i,t,rfl,e]
 |.inr x,v,h=>by
  obtain⟨t,e⟩:=Value.isStrOf_shape h;exact .inr #[x,t,rfl,e]
def ai(x )(t ):kt (.inr x) (.str x t)=B:=by simp[kt,Value.isStrOf]
def Ek(a b ):decide ((Sum.inl a:Gq)=Sum.inl b)=(a==b):=by
 by_cases e:a=b
 ·subst e;simp
 ·simp_all
def El(a b ):decide ((Sum.inr a:Gq)=Sum.inr b)=decide (a=b):=by simp
noncomputable def yP(c )(w ):PySem.KeyKind c w Gq where
 is:=kt
 hash:=mY w
 inj:=λv a b l f=>by
  rcases JC l with⟨i,t,rfl,rfl⟩|⟨x,t,rfl,rfl⟩
  ·rcases JC f with⟨j,u,rfl,e⟩|⟨y,u,rfl,e⟩
   ·simp_all
   ·simp_all
  ·rcases JC f with⟨j,u,rfl,e⟩|⟨y,u,rfl,e⟩
   ·simp_all
   ·simp_all
 byValue:=λk v h=>by
  rcases JC h with⟨i,t,rfl,rfl⟩|⟨x,t,rfl,rfl⟩<;>rfl
 pyHash:=λd h=>by
  rcases JC d with⟨i,t,rfl,rfl⟩|⟨x,t,rfl,rfl⟩
  ·exact wpAny_pyHash_int h
  ·exact wpAny_pyHash_str h
 eqBool:=λm d h=>by
  rcases JC m with⟨i,t,rfl,rfl⟩|⟨x,t,rfl,rfl⟩
  ·rcases JC d with⟨j,u,rfl,rfl⟩|⟨y,u,rfl,rfl⟩
   ·rw[Ek]at h;exact wpAny_eqBool_int h
   ·exact SeqAt.EqAt.int_str i t y u _ _ _ _ h
  ·rcases JC d with⟨j,u,rfl,rfl⟩|⟨y,u,rfl,rfl⟩
   ·exact SeqAt.EqAt.str_int x t j u _ _ _ _ h
   ·rw[El]at h;exact wpAny_eqBool_str h
 «strs»:=λk x t v h=>by
  rcases JC h with⟨i,u,rfl,e⟩|⟨y,u,rfl,e⟩
  ·simp_all
  ·injection e with g _;subst g;cases v<;>rfl
def xG(a )(w )(k )(v ):(yP a w).is k v=kt k v:=rfl
def ZC(a )(w )(x )(t ):(yP a w).is (.inr x) (.str x t)=B:=ai x t
set_option genInjectivity true in
inductive V where
 |non|bl (b:Bool)|int (i:Int)|str (x:Str)|byt (b:Array UInt8)|flt (b:UInt64)|ref (a:Addr)|ty (n:String)
 deriving DecidableEq
noncomputable def jp:V->Value->Prop
 |.non,u=>u=Value.none
 |.bl b,u=>u=Value.bool b
 |.int i,u=>∃t,u=Value.int i t
 |.str x,u=>∃t,u=Value.str x t
 |.byt b,u=>∃t,u=Value.bytes b t
 |.flt b,u=>∃t,u=Value.float b t
 |.ref a,u=>u=Value.ref a
 |.ty n,u=>u=Value.type n
noncomputable abbrev jl:=Paired jp
noncomputable def jl.length{a}(r:jl xs a):=Paired.length r
theorem jl.get:∀{a} {b}{i:Nat} {x},jl a b->a[i]?=S x->∃u,b[i]?=S u/\jp x u
 |_,_,_,_,.nil,e=>Zn e
 |_,_,0,_,.cons r _,e=>by simp at e;subst e;exact#[_,rfl,r]
 |_,_,i+1,x,.cons _ t,e=>by
  obtain⟨u,c,d⟩:=jl.get t (by simpa using e);exact#[u,by simpa using c,d]
theorem jl.set(r:jp x u):∀{xs} {a} (i ),jl xs a->jl (xs.set i x) (a.set i u)
 |_,_,_,.nil=>.nil
 |_,_,0,.cons _ t=>.cons r t
 |_,_,i+1,.cons q t=>.cons q (jl.set r i t)
def jl.append{b a c d}(h:jl b c)(s:jl a d):jl (b++a) (c++d):=by
 induction h with
 |nil=>exact s
 |cons r _ i=>exact .cons r i
theorem jl.take:∀{xs} {a} (n ),jl xs a->jl (xs.take n) (a.take n)
 |_,_,0,_=>.nil
 |_,_,_+1,.nil=>.nil
 |_,_,n+1,.cons r t=>.cons r (jl.take n t)
theorem jl.drop:∀{xs} {a} (n ),jl xs a->jl (xs.drop n) (a.drop n)
 |_,_,0,r=>r
 |_,_,_+1,.nil=>.nil
 |_,_,n+1,.cons _ t=>jl.drop n t
noncomputable def uM:Y V->Y Value->Prop
 |S v,S u=>jp v u
 |none,none=>True
 |_,_=>False
noncomputable def KV:L (a×V)->L (a×Value)->Prop:=Paired λp q=>p.1=q.1/\jp p.2 q.2
set_option genInjectivity true in
inductive HO where
 |lst (xs:L V)
 |tup (xs:L V)
 |dK (kvs:L (Gq×V)) (ep:Nat)
 |mem (K:uXa) (l:L (KD×Bool)) (m:L KD)
 |dD (kvs:L (KD×Addr×V)) (ep:Nat)
 |set (SQ:Int->Bool) (n:Nat)
 |ins (C dx:Addr) (fs:L (Str×V))
 |own (x:Addr)
 |xd (fs:L (Str×V))
 |met (f x:Addr)
 |rng (lo hi:Int)
 |frz (o:Obj) (u:HO)
 |tbl (ps:Array Value)
 |ext (φ:Heap->Prop)
noncomputable abbrev Hp:=Addr->Y HO
noncomputable def upd(H:Hp)(a:Addr)(o:HO):Hp:=λb=>if b=a then S o else H b
def jj:upd H a o a=S o:=by unfold upd;rw[if_pos rfl]
def ja{a b}{o}(h:b≠a):upd H a o b=H b:=by unfold upd;rw[if_neg h]
def jy{H:Hp}{a b}{o}(h:H a=S o)(c:H b=J):a≠b:=by lia
noncomputable def TF:HO->Prop
 |.tup _=>True
 |.frz _ _=>True
 |_=>False
noncomputable def ku(K:uXa)(H:Hp)(a:Addr)(c:L V):=(H a=S (.tup c)\/∃o,H a=S (.frz o (.tup c)))\/
  ∃(o:Obj) (b:Array _) (n:Nat),K.lookup a=S o/\o.cls=.type "tuple"/\o.data=.seq b n/\b.size<=sizeLine/\jl c b.toList
def ku.stay{K}{H c}{a}{e}(h:ku K H a e)(d:∀b u,TF u->H b=S u->c b=S u):ku K c a e:=by
 rcases h with(h|⟨o,h⟩)|h
 ·exact .inl (.inl (d _ _ trivial h))
 ·exact .inl (.inr #[o,d _ _ trivial h])
 ·exact .inr h
mutual
noncomputable def ZW(K:uXa)(H:Hp):KD->V->Prop
 |.i n,v=>v=.int n\/∃b ,v=.bl b/\n=(if b then 1 else 0)
 |.s x,v=>v=.str x
 |.t l,v=>∃a c,v=.ref a/\ku K H a c/\vp K H l c
noncomputable def vp(K:uXa)(H:Hp):L KD->L V->Prop
 |[],c=>c=[]
 |k::d,c=>∃v r,c=v::r/\ZW K H k v/\vp K H d r
end
mutual
theorem ZW.stay{K}{H f}(d:∀b u,TF u->H b=S u->f b=S u):∀{k} {v},ZW K H k v->ZW K f k v
 |.i n,v,h=>by exact h
 |.s x,v,h=>by exact h
 |.t l,v,h=>by
  obtain⟨a,c,e,t,q⟩:=h;exact#[a,c,e,t.stay d,vp.stay d q]
theorem vp.stay{K}{H f}(d:∀b u,TF u->H b=S u->f b=S u):∀{g} {c},vp K H g c->vp K f g c
 |[],c,h=>by exact h
 |k::g,c,h=>by
  obtain⟨v,r,e,t,q⟩:=h;exact#[v,r,e,ZW.stay d t,vp.stay d q]
end
section
variable(P:Program) (w:World)
noncomputable def Jh(H:Hp)(h:Heap)(a:Addr):HO->Prop
 |.lst c=>c.length<=sizeLine/\∃(d:L _) (n:Nat),jl c d/\h.get? a=S {cls:=.type "list",data:=.seq d.toArray n}
 |.tup c=>c.length<=sizeLine/\∃d ,jl c d/\IsTup h a d.toArray
 |.dK b j=>b.length<=sizeLine/\(a==sysModules)=G/\∃s,KV b s/\∃o e,h.get? a=S o/\o.ExactDict/\o.data=.dict e j/\KeysOf (yP P w) e/\Pairs (yP P w) e.toList s/\(s.map (·.1)).Nodup
 |.mem K l m=>l.length<=sizeLine/\(a==sysModules)=G/\∃c:L (KD×Addr×Bool),
   (∀q∈c,(q.1,q.2.2)∈l/\ZW K H q.1 (.ref q.2.1)/\q.1.dep<=8)/\(∀k∈m,k∈c.map (·.1))/\
   ∃o e j,h.get? a=S o/\o.ExactDict/\o.data=.dict e j/\e.toList=(c.map λq=>(q.1,q.2.1,Value.bool q.2.2)).map (entryOfKey (UI P w))/\(c.map (·.1)).Nodup
 |.dD b j=>b.length<=sizeLine/\(a==sysModules)=G/\(b.map (·.1)).Nodup/\∃c ,
   Paired (λp q=>p.1=q.1/\p.2.1=q.2.1/\jp p.2.2 q.2.2) b c/\
   ∃o e,h.get? a=S o/\o.ExactDict/\o.data=.dict e j/\e.toList=c.map (entryOfKey (UI P w))
 |.set SQ n=>h.SetOf (intKind P w) a SQ n
 |.ins C r i=>H r=S (.own a)/\i.length<=1000/\r≠a/\h.get? a=S (PySem.W.instObj C r)/\
   ∃g,h.Ns1 r g/\(∀f,uM (i.lookup f) (g f))/\PySem.Within g (i.map (·.1))
 |.own _=>∃o,h.get? a=S o
 |.xd i=>∃g,h.Ns1 a g/\∀f,uM (i.lookup f) (g f)
 |.rng lo F=>∃t u v,h.get? a=S {cls:=.type "range",data:=.fields #v[.int lo t,.int F u,.int 1 v]}
 |.frz o u=>h.get? a=S o/\Jh H h a u
 |.tbl I=>h.get? a=S {cls:=.none,data:=.fields I}
 |.met f x=>h.get? a=S (PySem.W.methodObj (.ref f) (.ref x))
 |.ext y=>y h/\(∃o,h.get? a=S o)/\∀A z ,y A->(∀o,A.get? a=S o->z.get? a=S o)->y z
noncomputable def JS(H )(h ):=∀a o,H a=S o->Jh P w H h a o
end
section
variable{P:Program}{w:World}{H H':Hp}{h h':Heap}{a:Addr}{o:HO}
def Jh.lt(x:Jh P w H h a o):a<h.objs.size:=by
 cases o with
 |lst c=>obtain⟨_,_,_,_,e⟩:=x;exact wLa e
 |tup c=>obtain⟨_,_,_,p⟩:=x;exact p.lt
 |dK b d=>obtain⟨_,_,_,_,o,_,e,_⟩:=x;exact wLa e
 |mem K l m=>obtain⟨_,_,_,_,_,o,_,_,e,_⟩:=x;exact wLa e
 |dD b d=>obtain⟨_,_,_,_,_,o,_,e,_⟩:=x;exact wLa e
 |set SQ n=>obtain⟨o,_,_,_,e,_⟩:=x;exact wLa e
 |ins C s g=>obtain⟨_,_,_,e,_⟩:=x;exact wLa e
 |own y=>obtain⟨_,e⟩:=x;exact wLa e
 |xd g=>obtain⟨_,⟨_,_,_,e,_⟩,_⟩:=x;exact wLa e
 |rng lo j=>obtain⟨_,_,_,e⟩:=x;exact wLa e
 |frz r u=>obtain⟨e,_⟩:=x;exact wLa e
 |tbl k=>exact wLa (show h.get? a=S _ from x)
 |met f y=>exact wLa (show h.get? a=S _ from x)
 |ext i=>obtain⟨_,⟨_,e⟩,_⟩:=x;exact wLa e
theorem Jh.stay(x:Jh P w H h a o)(k:∀b u,(b=a\/H b=S (.own a))->h.get? b=S u->h'.get? b=S u)
  (R:∀b,H b=S (.own a)->H' b=S (.own a)) (W:∀b u,TF u->H b=S u->H' b=S u):Jh P w H' h' a o:=by
 induction o with
 |lst s=>obtain⟨z,I,n,r,e⟩:=x;exact#[z,_,n,r,k _ _ (.inl rfl) e]
 |tup s=>obtain⟨z,I,r,g,e,c⟩:=x;exact#[z,_,r,g,k _ _ (.inl rfl) e,c]
 |dK N j=>obtain⟨z,y,vs,r,g,i,e,c⟩:=x;exact#[z,y,vs,r,g,i,k _ _ (.inl rfl) e,c]
 |mem K l m=>
  obtain⟨z,y,s,r,Z,g,i,j,e,c⟩:=x;exact#[z,y,s,λq M=>#[(r q M).1,(r q M).2.1.stay W,(r q M).2.2],Z,g,i,j,k _ _ (.inl rfl) e,c]
 |dD N j=>obtain⟨z,y,T,s,r,g,i,e,c⟩:=x;exact#[z,y,T,s,r,g,i,k _ _ (.inl rfl) e,c]
 |set SQ n=>obtain⟨g,i,j,t,e,c⟩:=x;exact#[g,i,j,t,k _ _ (.inl rfl) e,c]
 |ins C dx X=>
  obtain⟨d,z,O,e,A,⟨F,i,j,Q,c⟩,r⟩:=x;exact#[R _ d,z,O,k _ _ (.inl rfl) e,A,#[F,i,j,k _ _ (.inr d) Q,c],r]
 |own y=>obtain⟨g,e⟩:=x;exact#[g,k _ _ (.inl rfl) e]
 |xd X=>obtain⟨A,⟨F,i,j,e,c⟩,r⟩:=x;exact#[A,#[F,i,j,k _ _ (.inl rfl) e,c],r]
 |rng lo hi=>obtain⟨t,u,v,e⟩:=x;exact#[t,u,v,k _ _ (.inl rfl) e]
 |frz g u ih=>obtain⟨e,q⟩:=x;exact#[k _ _ (.inl rfl) e,ih q]
 |tbl ps=>
  have e:=x;exact k a _ (.inl rfl) e
 |met f y=>
  have e:=x;exact k a _ (.inl rfl) e
 |ext φ=>obtain⟨p,⟨o,e⟩,st⟩:=x;exact#[st _ _ p λo q=>k _ _ (.inl rfl) q,#[o,k _ _ (.inl rfl) e],st]
noncomputable def JS.lt(x:JS P w H h)(e ):=(x a o e).lt
def JS.fresh(x:JS P w H h)(e:h.objs.size<=a):H a=J:=by
 cases q:H a with
 |none=>rfl
 |some u=>exact vDa (Nat.lt_of_lt_of_le (x.lt q) e) (wUa _)
def JS.kept(x:JS P w H h)(k:∀b u,h.get? b=S u->h'.get? b=S u):JS P w H h':=λa o e=>
 (x a o e).stay (λb u _ q=>k b u q) (λ_ q=>q) λ_ _ _ q=>q
def JS.laid(x:JS P w H h)(k:∀b u,h.get? b=S u->h'.get? b=S u)(i:h.objs.size<=a)(d:Jh P w (upd H a o) h' a o):JS P w (upd H a o) h':=λb u e=>by
 have f:=x.fresh i;by_cases g:b=a
 ·subst g;rw[jj]at e;obtain rfl:=Zj e;exact d
 ·rw[ja g]at e;exact(x b u e).stay (λc v _ q=>k c v q) (λc q=>by rw[ja (jy q f)];exact q) λc j _ q=>by rw[ja (jy q f)];exact q
end
noncomputable def Rd(H:Hp)(a:Addr)(u ):=H a=S u\/∃o,H a=S (.frz o u)
def Rd.ok{H}{h}{a}{u}(r:Rd H a u)(x:JS P w H h):Jh P w H h a u:=by
 rcases r with r|⟨o,r⟩
 ·exact x a u r
 ·obtain⟨_,q⟩:=x a _ r;exact q
noncomputable def cw:Y HO->Prop
 |S (.lst _)=>True
 |S (.dK _ _)=>True
 |S (.mem _ _ _)=>True
 |S (.dD _ _)=>True
 |S (.set _ _)=>True
 |S (.ins _ _ _)=>True
 |S (.ext _)=>True
 |_=>False
section
variable{P:Program}{w:World}{H:Hp}{h h':Heap}{x e:Addr} {o':HO}
def JS.write(A:JS P w H h)(g:cw (H x))(o:e=x\/H e=S (.own x))(k:∀b u,b≠e->h.get? b=S u->h'.get? b=S u)(j:∃u,h'.get? e=S u)
  (l:Jh P w (upd H x o') h' x o'):JS P w (upd H x o') h':=λb u q=>by
 have d:∀c y,H c=S (.own y)->c≠x:=λc y r z=>by subst z;rw[r]at g;exact g
 have f:∀c u,TF u->H c=S u->c≠x:=λc u t r z=>by
  subst z;rw[r]at g;cases u<;>first|exact t|exact g
 by_cases i:b=x
 ·subst i;rw[jj]at q;obtain rfl:=Zj q;exact l
 ·rw[ja i]at q;by_cases a:b=e
  ·have n:H b=S (.own x):=by
    rcases o with z|z
    ·exact vDa (a.trans z) i
    ·rw[a];exact z
   rw[q]at n;obtain rfl:=Zj n;obtain⟨v,s⟩:=j;exact#[v,by rw[a];exact s]
  ·refine(A b u q).stay (λc v m r=>k c v ?_ r) (λc r=>by rw[ja (d c b r)];exact r) λc p t r=>by rw[ja (f c p t r)];exact r
   rcases m with rfl|m
   ·exact a
   ·grind
end
structure Un (fs ex:L _) (H H':Hp) (h h':Heap) where
 keep:∀b o,h.get? b=S o->H b=J->b∉fs->b∉ex->h'.get? b=S o
 slot:∀b o,h.get? b=S o->H b=J->b∈fs->b∉ex->∃sl,h'.get? b=S {o with slots:=sl}
 free:∀b o,h.get? b=S o->H b=J->b∉ex->H' b=J
 there:∀b o,h.get? b=S o->b∉ex->∃o',h'.get? b=S o'
 tups:∀b xs,H b=S (.tup xs)->H' b=S (.tup xs)
 frzs:∀b o u,H b=S (.frz o u)->H' b=S (.frz o u)
 tbls:∀b ps,H b=S (.tbl ps)->∃more,H' b=S (.tbl (ps++more))
section
variable{fs fs' ex ex':L Addr}{H H1 H2:Hp}{h h1 h2 h':Heap}{a x e:Addr}{o:HO}
def Un.any(u:Un fs ex H H1 h h1){b}{c}(q:h.get? b=S c)(n:H b=J)(f:b∉ex):∃g,h1.get? b=S {c with slots:=g}:=by
 by_cases d:b∈fs
 ·exact u.slot b c q n d f
 ·exact#[_,u.keep b c q n d f]
def Un.kept(k:∀b u,h.get? b=S u->h'.get? b=S u):Un fs ex H H h h':=
 #[λb c q _ _ _=>k b c q,λb c q _ _ _=>#[_,k b c q],λ_ _ _ n _=>n,λb c q _=>#[c,k b c q],λ_ _ q=>q,λ_ _ _ q=>q,λ_ d q=>#[#v[],by rw[q];simp]]
def Un.refl:Un fs ex H H h h:=Un.kept λ_ _ q=>q
def Un.laid(k:∀b u,h.get? b=S u->h'.get? b=S u)(d:h.objs.size<=a)(c:H a=J):Un fs ex H (upd H a o) h h' where
 keep:=λb u q _ _ _=>k b u q
 slot:=λb u q _ _ _=>#[_,k b u q]
 free:=λb u q n _=>by rw[ja (Nat.ne_of_lt (Nat.lt_of_lt_of_le (Heap.lt_size q) d))];exact n
 there:=λb u q _=>#[u,k b u q]
 tups:=λb f q=>by rw[ja (jy q c)];exact q
 frzs:=λb u f q=>by rw[ja (jy q c)];exact q
 tbls:=λb g q=>#[#v[],by rw[ja (jy q c),q];simp]
def Un.write(d:cw (H x))(p:e=x\/H e=S (.own x))(k:∀b u,b≠e->h.get? b=S u->h'.get? b=S u)(g:∃u,h'.get? e=S u):Un fs ex H (upd H x o) h h':=by
 have m:∀b,H b=J->b≠x:=λb n z=>by subst z;rw[n]at d;exact d
 have i:∀b,H b=J->b≠e:=λb n z=>by simp_all
 have f:∀b u,H b=S u->¬cw (S u)->b≠x:=λb u q j z=>by subst z;rw[q]at d;exact j d
 refine#[λb u q n _ _=>k b u (i b n) q,λb u q n _ _=>#[_,k b u (i b n) q],λb u q n _=>by rw[ja (m b n)];exact n,λb u q _=>?_,
  λb l q=>by rw[ja (f b _ q λz=>z)];exact q,λb u l q=>by rw[ja (f b _ q λz=>z)];exact q,λb r q=>#[#v[],by rw[ja (f b _ q λz=>z),q];simp]]
 by_cases c:b=e
 ·subst c;exact g
 ·exact#[u,k b u c q]
end
noncomputable def Up(h:Heap)(H:Hp):=(List.range h.objs.size).filter λa=>(H a).isSome
noncomputable def uN(h:Heap)(H ):=PySem.W.hideAll h (Up h H)
def aj(h )(H ):(uN h H).objs.size=h.objs.size:=PySem.W.hideAll_size _ _
def bb(e:h.get? b=S o)(n:H b=J):(uN h H).get? b=S o:=
 PySem.W.hideAll_get _ e λa=>by
  have q:=(List.mem_filter.mp a).2;rw[n]at q;exact Zf q
def d9(e:(uN h H).get? b=S o):h.get? b=S o/\H b=J:=by
 have a:=PySem.W.of_hideAll _ e;refine#[a,?_];cases q:H b with
 |none=>rfl
 |some x=>
  have c:b∈Up h H:=List.mem_filter.mpr #[List.mem_range.mpr (wLa a),by simp[q]];have z:(uN h H).get? b=J:=PySem.W.hideAll_none _ c;rw[z]at e;exact Zn e
structure Mod (K:uXa) (mg ) (base ) where
 kin:K.In base
 glob:base.Ns mainGlobals mg
 blt:∃mb,base.Ns builtinsNs mb/\∀x:Str,x≠ "__name__" ->mb x=bootBuiltins x
 nolimit:base.NoLimit
structure Cx where
 prog:Program
 w:World
 K:uXa
 mg:Str->Y Value
 base:Heap
 A:Around
 N:L Str
 s₀:Shared
 H₀:Hp
 env:Env
 outer:L Env
 stack:L Env
 ex:L Addr
 fn:Str->Bool
 calm:Bool
 pn:L (Addr×Obj)
 xe:Value->Shared->Prop
noncomputable def JQ(l:L Env):=l.filterMap (·.frame)
noncomputable abbrev Cx.fs(X:Cx):=JQ X.outer
noncomputable def UJ(a:Scope)(x ):=a.names.lookup x=S .local\/a.names.lookup x=S .cell\/a.names.lookup x=S .free
noncomputable def Gr(a:Scope)(x ):=a.names.lookup x=S .local\/a.names.lookup x=S .cell
noncomputable def mZ(a:Env)(h:Heap)(m:Str->Y _)(x )(u:Value):=
 (a.kindOf x=S .local/\m x=S u)\/((a.kindOf x=S .cell\/a.kindOf x=S .free)/\∃c,a.cells.lookup x=S c/\h.IsCell c (S u))
structure Cx.Ok (X:Cx) where
 mod:Mod X.K X.mg X.base
 kind:X.env.scope.kind=.function
 glob:X.env.globals=mainGlobals
 blt:X.env.builtins=builtinsNs
 above:X.s₀.heap.objs.size<=X.env.locals
 inj:∀x y c,X.env.cells.lookup x=S c->X.env.cells.lookup y=S c->x=y
 has:∀x,(X.env.kindOf x=S .cell\/X.env.kindOf x=S .free)->∃c,X.env.cells.lookup x=S c
 cab:∀x c,X.fn x=B->X.env.cells.lookup x=S c->X.s₀.heap.objs.size<=c
 hd:X.calm=B->X.A.handled=J
 frames:X.A.frames=S X.stack
 stk:X.stack=X.outer\/(X.stack=X.env::X.outer/\X.env.frame=S X.env.locals)
 exf:∀b∈X.ex,b≠X.env.locals/\∀x c,X.env.cells.lookup x=S c->c≠b
 bs:∀b o,X.base.get? b=S o->X.s₀.heap.get? b=S o/\X.H₀ b=J
 bsz:X.base.objs.size<=X.s₀.heap.objs.size
 noex:∀b o,X.base.get? b=S o->b∉X.ex
 exfs:∀b∈X.ex,b∉X.fs
 funs:X.s₀.heap.FunFrames X.base X.outer
 frf:∀b∈X.fs,X.H₀ b=J
structure Inv (X:Cx) (pins ) (U:L _) (H ) (s:Shared) where
 ok:X.Ok
 os:s.os=X.s₀.os
 bare:AllBare s.gens
 base:Un X.fs X.ex X.H₀ H X.s₀.heap s.heap
 loc:∃m,s.heap.Ns X.env.locals m/\∀(i:Nat) (x ) (v ),X.N[i]?=S x->U[i]?=S (S v)->UJ X.env.scope x->∃u,jp v u/\mZ X.env s.heap m x u
 cell:∀x c,X.env.cells.lookup x=S c->∃v,s.heap.IsCell c v
 free:H X.env.locals=J
 freeC:∀x c,X.env.cells.lookup x=S c->H c=J
 pin:∀p∈X.pn++pins,s.heap.get? p.1=S p.2/\H p.1=J/\p.1≠X.env.locals/\p.1∉X.fs/\∀v,p.2.data≠.cell v
 hok:JS X.prog X.w H s.heap
 len:U.length=X.N.length
section
variable{X:Cx}{pins:Tq}{U:L (Y V)}{H H':Hp}{s:Shared} {h':Heap}
def Cx.Ok.nofr(c:X.Ok){b}{o}(e:X.base.get? b=S o):b∉X.fs:=λa=>by
 have:=(c.funs.mem a).1;rw[e]at this;exact Zs this
def Inv.bs(I:Inv X pins U H s):∀b o,X.base.get? b=S o->s.heap.get? b=S o/\H b=J:=λb o e=>
 #[I.base.keep b o (I.ok.bs b o e).1 (I.ok.bs b o e).2 (I.ok.nofr e) (I.ok.noex b o e),I.base.free b o (I.ok.bs b o e).1 (I.ok.bs b o e).2 (I.ok.noex b o e)]
def Inv.bk(I:Inv X pins U H s):∀b o,X.base.get? b=S o->s.heap.get? b=S o:=λb o e=>(I.bs b o e).1
noncomputable def Inv.mod(I:Inv X pins U H s):=I.ok.mod
noncomputable def Inv.kIn(I:Inv X pins U H s):=I.ok.mod.kin.keeps I.bk
noncomputable def Inv.lt(I:Inv X pins U H s):=let⟨_,a,_⟩:=I.loc;a.lt
noncomputable def Inv.sz(I:Inv X pins U H s):=wSa I.ok.above (wQa I.lt)
def Inv.nofs(I:Inv X pins U H s)(h:s.heap.objs.size<=a):a∉X.fs:=λc=>by
 obtain⟨_,o,b,_⟩:=I.ok.funs.mem c;exact vDa (Nat.lt_of_lt_of_le (wLa b) (wSa I.sz h)) (wUa _)
def Inv.cne(I:Inv X pins U H s):∀x c,X.env.cells.lookup x=S c->c≠X.env.locals:=λx c e z=>by
 obtain⟨v,o,d,f⟩:=I.cell x c e;obtain⟨m,⟨i,h,g,b,a,_⟩,_⟩:=I.loc;rw[z,b]at d;obtain rfl:=Zj d;rw[a]at f;cases f
def Inv.funs(I:Inv X pins U H s):s.heap.FunFrames X.base X.outer:=by
 have c:∀(l ),(∀b∈JQ l,b∈X.fs)->X.s₀.heap.FunFrames X.base l->s.heap.FunFrames X.base l:=by
  intro l;induction l with
  |nil=>intro _ _;trivial
  |cons h r j=>
   intro g t;obtain⟨n,⟨L00,o,d,m,i,p⟩,k⟩:=t;have a:=g L00 (by unfold JQ;rw[List.filterMap_cons,d];exact wNa);obtain⟨u,e⟩:=I.base.slot L00 o i (I.ok.frf L00 a) a λz=>I.ok.exfs L00 z a;exact#[n,#[L00,_,d,m,e,p],j (λb f=>g b (by unfold JQ;rw[List.filterMap_cons,d];exact wMa _ f)) k]
 exact c _ (λ_ f=>f) I.ok.funs
def Inv.stack(I:Inv X pins U H s):s.heap.FunFrames X.base X.stack:=by
 rcases I.ok.stk with e|⟨e,b⟩
 ·rw[e];exact I.funs
 ·rw[e];obtain⟨m,a,_⟩:=I.loc;refine .cons (by rw[I.ok.kind];decide) b a ?_ I.funs;exact Heap.get?_none_of_le (wSa I.ok.bsz I.ok.above)
def Inv.stkSub(I:Inv X pins U H s):∀b∈JQ X.stack,b∈X.env.locals::X.fs:=λb a=>by
 rcases I.ok.stk with e|⟨e,c⟩
 ·rw[e]at a;exact wMa _ a
 ·rw[e]at a;unfold JQ at a;rw[List.filterMap_cons,c]at a;exact a
def Inv.stkFree(I:Inv X pins U H s):∀b∈JQ X.stack,H b=J:=λb a=>by
 rcases uTa (I.stkSub b a)with e|a
 ·rw[e];exact I.free
 ·obtain⟨_,o,c,_⟩:=I.ok.funs.mem a;exact I.base.free b o c (I.ok.frf b a) λz=>I.ok.exfs b z a
def Inv.step{d'}{ch:L _}(I:Inv X pins U H s)
  (j:∀b∈ch,(b∈X.ex\/X.s₀.heap.objs.size<=b)/\b≠X.env.locals/\(∀x c,X.env.cells.lookup x=S c->c≠b)/\∀p∈X.pn++pins,p.1≠b)
  (t:∀b o,b≠X.env.locals->b∉X.fs->b∉ch->s.heap.get? b=S o->H b=J->h'.get? b=S o)
  (A:∀b o,b≠X.env.locals->b∈X.fs->b∉ch->s.heap.get? b=S o->H b=J->∃sl,h'.get? b=S {o with slots:=sl}) (f:∀b o,b∉ch->s.heap.get? b=S o->H b=J->H' b=J)
  (F:∀b o,b∉ch->s.heap.get? b=S o->∃O,h'.get? b=S O)
  (R:∀b C,H b=S (.tup C)->H' b=S (.tup C)) (P:∀b o u,H b=S (.frz o u)->H' b=S (.frz o u)) (Q:∀b ps,H b=S (.tbl ps)->∃Z,H' b=S (.tbl (ps++Z)))
  (ns:∀m,s.heap.Ns X.env.locals m->h'.Ns X.env.locals m) (hok:JS X.prog X.w H' h') (hg:AllBare g'):
  Inv X pins U H' {s with heap:=h',gens:=g',drawn:=d',toks:=t'}:=by
 have T:∀b o,X.s₀.heap.get? b=S o->b≠X.env.locals:=λb o e=>wTa (Nat.lt_of_lt_of_le (wLa e) I.ok.above);have w:∀b o,X.s₀.heap.get? b=S o->b∉X.ex->b∉ch:=λb o e a M=>by
  rcases(j b M).1 with z|z
  ·exact a z
  ·exact vDa (Nat.lt_of_lt_of_le (wLa e) z) (wUa _)
 have g:∀x c,X.env.cells.lookup x=S c->∀v,s.heap.IsCell c v->h'.IsCell c v:=λx c e v xx=>by
  obtain⟨o,N,hd⟩:=xx;have h:=λz=>(j c z).2.2.1 x c e rfl;by_cases hc:c∈X.fs
  ·obtain⟨sl,q⟩:=A c o (I.cne x c e) hc h N (I.freeC x c e);exact#[_,q,hd]
  ·exact#[o,t c o (I.cne x c e) hc h N (I.freeC x c e),hd]
 refine#[I.ok,I.os,hg,#[λb o e n M a=>?_,λb o e n M a=>?_,λb o e n a=>?_,λb o e a=>?_,λb C e=>R b C (I.base.tups b C e),λb o C e=>P b o C (I.base.frzs b o C e),λb ps e=>?_],?_,λx c e=>?_,?_,λx c e=>?_,λp hp=>?_,hok,I.len]
 ·exact t b o (T b o e) M (w b o e a) (I.base.keep b o e n M a) (I.base.free b o e n a)
 ·obtain⟨sl,y⟩:=I.base.slot b o e n M a;obtain⟨sl',W⟩:=A b _ (T b o e) M (w b o e a) y (I.base.free b o e n a);exact#[_,W]
 ·obtain⟨O,y⟩:=I.base.there b o e a;exact f b O (w b o e a) y (I.base.free b o e n a)
 ·obtain⟨O,y⟩:=I.base.there b o e a;exact F b O (w b o e a) y
 ·obtain⟨m1,y⟩:=I.base.tbls b ps e;obtain⟨m2,W⟩:=Q b _ y;exact#[_,by rw[W,Array.append_assoc]]
 ·obtain⟨m,hn,hl⟩:=I.loc;refine#[m,ns m hn,λi x v y W e3=>?_];obtain⟨u,r,l⟩:=hl i x v y W e3;refine#[u,r,?_];rcases l with l|⟨k,c,e,z⟩
  ·exact .inl l
  ·exact .inr #[k,c,e,g x c e _ z]
 ·obtain⟨v,z⟩:=I.cell x c e;exact#[v,g x c e v z]
 ·obtain⟨m,⟨o,_,_,N,_⟩,_⟩:=I.loc;exact f _ o (λz=>(j _ z).2.1 rfl) N I.free
 ·obtain⟨v,o,N,hd⟩:=I.cell x c e;exact f c o (λz=>(j c z).2.2.1 x c e rfl) N (I.freeC x c e)
 ·obtain⟨e,n,ne,nf,d⟩:=I.pin p hp;have h:=λz=>(j _ z).2.2.2 p hp rfl;exact#[t _ _ ne nf h e n,f _ _ h e n,ne,nf,d]
def Inv.un(I:Inv X pins U H s)(u:Un X.fs [] H H' s.heap h')(c:JS X.prog X.w H' h'):Inv X pins U H' {s with heap:=h',toks:=t'}:=by
 obtain⟨m,⟨o,p,w,f,r⟩,_⟩:=id I.loc;obtain⟨l,j⟩:=u.any f I.free (by simp);exact I.step (ch:=[]) (λ_ z=>nomatch z) (λb o _ d _ e n=>u.keep b o e n d (by simp)) (λb o _ d _ e n=>u.slot b o e n d (by simp)) (λb o _ e n=>u.free b o e n (by simp)) (λb o _ e=>u.there b o e (by simp)) u.tups u.frzs u.tbls (λv k=>by
  obtain⟨t,i,h,a,g⟩:=k;rw[f]at a;obtain rfl:=Zj a;exact#[_,_,_,j,g]) c I.bare
def Inv.call{A}{ch}(I:Inv X pins U H s)(u:Un (JQ X.stack) ch H H' s.heap h')(h:JS X.prog X.w H' h')(w:AllBare j)
  (f:∀b∈ch,(b∈X.ex\/X.s₀.heap.objs.size<=b)/\b≠X.env.locals/\(∀x c,X.env.cells.lookup x=S c->c≠b)/\∀p∈X.pn++pins,p.1≠b):
  Inv X pins U H' {s with heap:=h',gens:=j,drawn:=A,toks:=t'}:=by
 obtain⟨m,⟨o,C,O,i,r⟩,_⟩:=id I.loc;obtain⟨N,g⟩:=u.any i I.free λz=>(f _ z).2.1 rfl;exact I.step f (λb o g l a e n=>u.keep b o e n (λz=>(uTa (I.stkSub b z)).elim g l) a) (λb o _ _ a e n=>u.any e n a) (λb o a e n=>u.free b o e n a) (λb o a e=>u.there b o e a) u.tups u.frzs u.tbls (λM v=>by
  obtain⟨F,k,t,d,y⟩:=v;rw[i]at d;obtain rfl:=Zj d;exact#[_,_,_,g,y]) h w
def Inv.turned{a}(I:Inv X pins U H s)(k:∀b o,b≠a->s.heap.get? b=S o->h'.get? b=S o)(F:H a=J)(g:a≠X.env.locals)
  (j:a∈X.ex\/X.s₀.heap.objs.size<=a) (t:∀x c,X.env.cells.lookup x=S c->c≠a) (l:∀p∈X.pn++pins,p.1≠a):Inv X pins U H {s with heap:=h',toks:=t'}:=by
 have f:∀b u,H b=S u->b≠a:=λb u e z=>by lia
 refine I.step (ch:=[a]) (λb y=>?_) (λb o _ _ d e _=>k b o (λz=>d (by simp[z])) e) (λb o _ _ d e _=>#[_,k b o (λz=>d (by simp[z])) e]) (λ_ _ _ _ n=>n)
  (λb o d e=>#[o,k b o (λz=>d (by simp[z])) e]) (λ_ _ e=>e) (λ_ _ _ e=>e) (λb C e=>#[#v[],by rw[e];simp]) (λm h=>?_) (λb u e=>?_) I.bare
 ·have e:b=a:=by simpa using y
  subst e;exact#[j,g,t,l]
 ·obtain⟨o,A,w,i,r⟩:=h;exact#[o,A,w,k _ o (Ne.symm g) i,r]
 ·refine(I.hok b u e).stay (λc v d q=>k c v ?_ q) (λ_ q=>q) λ_ _ _ q=>q;rcases d with z|z
  ·rw[z];exact f b u e
  ·exact f c _ z
noncomputable def Inv.tok(I:Inv X pins U H s)(t ):=I.un (t':=t) Un.refl I.hok
def Inv.kept(I:Inv X pins U H s)(k:∀b u,s.heap.get? b=S u->h'.get? b=S u):Inv X pins U H {s with heap:=h',toks:=t'}:=I.un (Un.kept k) (I.hok.kept k)
def Inv.laid(I:Inv X pins U H s)(k:∀b u,s.heap.get? b=S u->h'.get? b=S u)(c:s.heap.objs.size<=a)(d:Jh X.prog X.w (upd H a o) h' a o):
  Inv X pins U (upd H a o) {s with heap:=h',toks:=t'}:=I.un (Un.laid k c (I.hok.fresh c)) (I.hok.laid k c d)
def Inv.write(I:Inv X pins U H s)(d:cw (H x))(f:e=x\/H e=S (.own x))(k:∀b u,b≠e->s.heap.get? b=S u->h'.get? b=S u)(a:∃u,h'.get? e=S u)
  (c:Jh X.prog X.w (upd H x o) h' x o):Inv X pins U (upd H x o) {s with heap:=h',toks:=g}:=I.un (Un.write d f k a) (I.hok.write d f k a c)
def Inv.weak(I:Inv X pins U H s)(c:a.length=U.length)(w:∀(i:Nat) v,a[i]?=S (S v)->U[i]?=S (S v)):Inv X pins a H s:=
 #[I.ok,I.os,I.bare,I.base,let⟨m,e,b⟩:=I.loc;#[m,e,λi x v d f g=>b i x v d (w i v f) g],I.cell,I.free,I.freeC,I.pin,I.hok,c.trans I.len]
def Inv.pins_of(I:Inv X pins U H s)(h:∀p∈a,s.heap.get? p.1=S p.2/\H p.1=J/\p.1≠X.env.locals/\p.1∉X.fs/\∀v,p.2.data≠.cell v):Inv X a U H s:=
 #[I.ok,I.os,I.bare,I.base,I.loc,I.cell,I.free,I.freeC,λp b=>(uWa b).elim (λz=>I.pin p (vIa _ z)) (h p),I.hok,I.len]
def GE{N:L Str}(c:N.Nodup){i j:Nat}{x}(a:N[i]?=S x)(b:N[j]?=S x):i=j:=by
 obtain⟨g,e⟩:=uSa a;obtain⟨f,d⟩:=uSa b;exact(List.getElem_inj c).mp (e.trans d.symm)
def wb{A}{E}{i}{x}{v}{u}{Q}(I:Inv X pins U H s)(hN:X.N.Nodup)(hi:X.N[i]?=S x)(w:Gr X.env.scope x)(r:jp v u)
  (h:∀s',Inv X pins (U.set i (S v)) H s'->(∃a,Heap.SameBut a s.heap s'.heap/\(a=X.env.locals\/X.env.cells.lookup x=S a))->Q () s') (hf:X.fn x=B\/X.env.scope.names.lookup x=S .local:=by first|exact .inl _|exact .inr _|assumption):wpAny M A (storeName X.env x u) Q E s:=by
 obtain⟨m,hn,hl⟩:=id I.loc;have hcls:(X.env.scope.kind==.class||(X.env.scope.kind==.module&&X.env.locals != X.env.globals))=G:=by rw[I.ok.kind];rfl
 have F:i<U.length:=by rw[I.len];exact(uSa hi).1
 have R:=I.cne;have l:∀{a} {h'},(∃o,s.heap.get? a=S o/\H a=J)->Heap.SameBut a _ h'->JS _ _ H h':=λha f b ob e=>by
  obtain⟨_,_,hfree⟩:=ha;refine(I.hok b ob e).stay (λc w' t q=>(f.2 c ?_).trans q) (λ_ q=>q) λ_ _ _ q=>q;rintro rfl;rcases t with rfl|t
  ·lia
  ·lia
 rcases w with T|T
 ·refine wpAny_storeName_local T hn (λh' hn' f=>?_) hcls;obtain⟨oL,_,_,hoL,_⟩:=id hn;refine h _ #[I.ok,I.os,I.bare,#[λb o e n O w=>?_,λb o e n O w=>?_,I.base.free,λb o e w=>?_,I.base.tups,I.base.frzs,I.base.tbls],#[_,hn',λj y v' g C e3=>?_],λy c e=>?_,I.free,I.freeC,λp hp=>?_,l #[oL,hoL,I.free] f,by simpa using I.len] #[_,f,.inl rfl]
  ·exact(f.2 b (wTa (Nat.lt_of_lt_of_le (wLa e) I.ok.above))).trans (I.base.keep b o e n O w)
  ·obtain⟨sl,g⟩:=I.base.slot b o e n O w;exact#[sl,(f.2 b (wTa (Nat.lt_of_lt_of_le (wLa e) I.ok.above))).trans g]
  ·obtain⟨o',g⟩:=I.base.there b o e w;exact#[o',(f.2 b (wTa (Nat.lt_of_lt_of_le (wLa e) I.ok.above))).trans g]
  ·by_cases N:j=i
   ·subst N;rw[hi]at g;obtain rfl:=Zj g;rw[List.getElem?_set_self F]at C;cases C;exact#[u,r,.inl #[T,by simp]]
   ·rw[List.getElem?_set_ne (Ne.symm N)]at C;obtain⟨u',r',q⟩:=hl j y v' g C e3;refine#[u',r',?_];rcases q with⟨k,e⟩|⟨k,c,e,z⟩
    ·refine .inl #[k,?_];have:y≠x:=λe=>N (GE hN g (e▸hi));simp[this,e]
    ·exact .inr #[k,c,e,z.sameBut f (R y c e)]
  ·obtain⟨w',z⟩:=I.cell y c e;exact#[w',z.sameBut f (R y c e)]
  ·obtain⟨e,n,ne,nf,d⟩:=I.pin p hp;exact#[(f.2 _ ne).trans e,n,ne,nf,d]
 ·have P:X.fn x=B:=by lia
  obtain⟨c,t⟩:=I.ok.has x (.inl T);obtain⟨w',z⟩:=I.cell x c t;refine wpAny_storeName_cell I.ok.kind T t z (λh' Z f=>?_);obtain⟨oc,hoc,hocd⟩:=id z;refine h _ #[I.ok,I.os,I.bare,#[λb o e n O w=>?_,λb o e n O w=>?_,I.base.free,λb o e w=>?_,I.base.tups,I.base.frzs,I.base.tbls],#[m,hn.sameBut f (Ne.symm (R x c t)),λj y v' g C e3=>?_],λy c' e=>?_,I.free,I.freeC,λp hp=>?_,l #[oc,hoc,I.freeC x c t] f,by simpa using I.len] #[c,f,.inr t]
  ·exact(f.2 b (wTa (Nat.lt_of_lt_of_le (wLa e) (I.ok.cab x c P t)))).trans (I.base.keep b o e n O w)
  ·obtain⟨sl,g⟩:=I.base.slot b o e n O w;exact#[sl,(f.2 b (wTa (Nat.lt_of_lt_of_le (wLa e) (I.ok.cab x c P t)))).trans g]
  ·obtain⟨o',g⟩:=I.base.there b o e w;exact#[o',(f.2 b (wTa (Nat.lt_of_lt_of_le (wLa e) (I.ok.cab x c P t)))).trans g]
  ·by_cases N:j=i
   ·subst N;rw[hi]at g;obtain rfl:=Zj g;rw[List.getElem?_set_self F]at C;cases C;exact#[u,r,.inr #[.inl T,c,t,Z]]
   ·rw[List.getElem?_set_ne (Ne.symm N)]at C;obtain⟨u',r',q⟩:=hl j y v' g C e3;refine#[u',r',?_];rcases q with q|⟨k,c',e,z'⟩
    ·exact .inl q
    ·refine .inr #[k,c',e,z'.sameBut f ?_];rintro rfl;exact N (GE hN g (I.ok.inj _ _ _ e t▸hi))
  ·by_cases W:c'=c
   ·subst W;exact#[_,Z]
   ·obtain⟨w2,z2⟩:=I.cell y c' e;exact#[w2,z2.sameBut f W]
  ·obtain⟨e,n,ne,nf,d⟩:=I.pin p hp;refine#[(f.2 _ ?_).trans e,n,ne,nf,d];intro q;rw[q,hoc]at e;have q':=vFa e;exact d w' (by rw[<-q'];exact hocd)
def vP(I:Inv X pins U H s)(b:X.N.Nodup)(c:X.N[i]?=S x)(d:Gr X.env.scope x)(r:jp v u)
  (h:∀a,Inv X pins (U.set i (S v)) H a->Q () a) (f:X.fn x=B\/X.env.scope.names.lookup x=S .local:=by first|exact .inl _|exact .inr _|assumption):wpAny M A (storeName X.env x u) Q E s:=
 wb I b c d r (λa e _=>h a e) f
def Inv.call'(I:Inv X pins U H s)(h:a.os=s.os)(u:Un (JQ X.stack) g H H' s.heap a.heap)(d:JS X.prog X.w H' a.heap)(i:AllBare a.gens)
  (f:∀b∈g,(b∈X.ex\/X.s₀.heap.objs.size<=b)/\b≠X.env.locals/\(∀x c,X.env.cells.lookup x=S c->c≠b)/\∀p∈X.pn++pins,p.1≠b):Inv X pins U H' a:=by
 obtain⟨h',k,j,l,m⟩:=a;have e:=h;subst e;exact I.call u d i f
end
noncomputable abbrev XK:=Value->Y Addr->Hp->Prop
noncomputable abbrev St:=L (Y V)
noncomputable abbrev VK:=V->Hp->Prop
noncomputable abbrev TE:=St->Hp->VK->Prop
noncomputable abbrev TT:=St->Hp->(Bool->Hp->Prop)->Prop
noncomputable abbrev TA:=St->Hp->(L V->Hp->Prop)->Prop
structure Ends where
 nx:St->Hp->Prop
 rt:VK
 bk:St->Hp->Prop:=λ_ _=>False
 ct:St->Hp->Prop:=λ_ _=>False
noncomputable abbrev TS:=Ends->St->Hp->Prop
noncomputable def EP(X )(a:Tq)(d:St)(Q:VK)(u:Value)(c:Shared):=∃v b,Inv X a d b c/\jp v u/\Q v b
noncomputable def TP(X )(a:Tq)(e:St)(Q:Bool->Hp->Prop)(b:Bool)(d:Shared):=∃c,Inv X a e c d/\Q b c
noncomputable def AP(X )(a:Tq)(f:St)(Q:L V->Hp->Prop)(e:L _)(d:Shared):=∃b c,Inv X a f c d/\jl b e/\Q b c
noncomputable def SP(X )(b:Tq)(D:Ends)(f:Flow)(d:Shared):=
 match f with
 |.next=>∃a c,Inv X b a c d/\D.nx a c
 |.brk=>∃a c,Inv X b a c d/\D.bk a c
 |.cont=>∃a c,Inv X b a c d/\D.ct a c
 |.ret u=>∃v a c,Inv X b a c d/\jp v u/\D.rt v c
noncomputable def PE(X )(e:Expr)(t:TE):=
 ∀(a ) (s ) (b:St) (H ) (Q ),Inv X a b H s->t b H Q->wpAny (model X.prog X.w) X.A (eval e X.env) (EP X a b Q) X.xe s
noncomputable def PT(X )(e:Expr)(t:TT):=
 ∀(a ) (s ) (b:St) (H ) (Q ),Inv X a b H s->t b H Q->wpAny (model X.prog X.w) X.A (isTrue e X.env (eval e X.env)) (TP X a b Q) X.xe s
noncomputable def PW(X )(e )(t:TT):=
 ∀(b ) (a ) (s ) (c:St) (H ) (Q ),Inv X a c H s->t c H Q->wpAny (model X.prog X.w) X.A (isTrue e X.env b) (TP X a c Q) X.xe s
def PW.pt(h:PW X e t):PT X e t:=h _
noncomputable def PA(X )(d:L _)(t:TA):=
 ∀(b ) (a ) (s ) (c:St) (H ) (Q ),Inv X a c H s->t c H Q->wpAny (model X.prog X.w) X.A (spliced (backTo b (starEach d X.env))) (AP X a c Q) X.xe s
noncomputable def PS(X )(st:Stmt)(t:TS):=
 ∀(a ) (s ) (b:St) (H ) (D ),Inv X a b H s->t D b H->wpAny (model X.prog X.w) X.A (exec st X.env) (SP X a D) X.xe s
noncomputable def Jb(X )(st:L _)(t:TS):=
 ∀(a ) (s ) (b:St) (H ) (D ),Inv X a b H s->t D b H->wpAny (model X.prog X.w) X.A (execs st X.env) (SP X a D) X.xe s
noncomputable def jv{t}{Q b:d->Shared->Prop}{M}{A}{E}{s}(h:wpAny M A t Q E s)(c:∀a s,Q a s->b a s):=wCa h c λ_ _ x=>x
section
variable{X:Cx}
noncomputable def yf(i:Nat):TE:=λa H Q=>∃v,a[i]?=S (S v)/\Q v H
noncomputable def tC(v:V):TE:=λ_ H Q=>Q v H
def vQ(n:X.N[i]?=S x)(p:UJ X.env.scope x)(f:(x==("__debug__"))=G:=by decide)(g:(x==("__classdict__"))=G:=by decide):PE X (.Name x o) (yf i):=by
 intro k s t H Q I h;obtain⟨v,e,h⟩:=h;obtain⟨m,y,w⟩:=I.loc;obtain⟨u,r,l⟩:=w i x v n e p;have b:EP X _ t Q u s:=#[v,H,I,r,h]
 rcases l with⟨d,z⟩|⟨d,c,j,a⟩
 ·exact wpAny_Name (wpAny_loadName_local I.ok.kind d y z b) f
 ·rcases d with d|d
  ·exact wpAny_Name (wpAny_loadName_cell I.ok.kind d j a b) f
  ·exact wpAny_Name (wpAny_loadName_free I.ok.kind d j a b g) f
def Em:PE X (.Constant (.int i) j a) (tC (.int i)):=λ_ _ _ H _ I h=>wpAny_Constant_int #[.int i,H,I.tok _,#[_,rfl],h]
def IA:PE X (.Constant (.bool b) j a) (tC (.bl b)):=λ_ _ _ H _ I h=>Constant_bool #[.bl b,H,I,rfl,h]
def En:PE X (.Constant .none j a) (tC .non):=λ_ _ _ H _ I h=>Constant_none #[.non,H,I,rfl,h]
def Wm:PE X (.Constant (.str x) j a) (tC (.str x)):=λ_ _ _ H _ I h=>Calls.Constant_str #[.str x,H,I.tok _,#[_,rfl],h]
noncomputable def Gl(X:Cx)(x ):=X.env.kindOf x=S .globalImplicit
def zN(I:Inv X a f H s)(c:Gl X x)(b:X.mg x=S u)(h:Q u s)
  (d:(x==("__debug__"))=G:=by decide):wpAny (model X.prog X.w) X.A (eval (.Name x e) X.env) Q E s:=
 Calls.Name_function_global I.ok.kind c (Calls.loadGlobal_global (by rw[I.ok.glob];exact I.mod.glob.keeps I.bk) b h) d
def ub(I:Inv X a l H s)(f:Gl X x)(b:X.mg x=J)(d:bootBuiltins x=S u)(h:Q u s)
  (c:x≠ "__name__":= by decide) (i:(x==("__debug__"))=G:=by decide):wpAny (model X.prog X.w) X.A (eval (.Name x g) X.env) Q E s:=by
 obtain⟨k,e,j⟩:=I.mod.blt;exact Calls.Name_function_global I.ok.kind f (Calls.loadGlobal_builtin (by rw[I.ok.glob];exact I.mod.glob.keeps I.bk) b (by rw[I.ok.blt];exact e.keeps I.bk) ((j x c).trans d) h) i
def Qw(b:Gl X x)(a:X.mg x=S u)(r:jp v u)(c:(x==("__debug__"))=G:=by decide):PE X (.Name x d) (tC v):=
 λ_ _ _ H _ I h=>zN I b a #[v,H,I,r,h] c
def Kf(c:Gl X x)(a:X.mg x=J)(e:bootBuiltins x=S u)(r:jp v u)(d:x≠ "__name__":= by decide)(b:(x==("__debug__"))=G:=by decide):PE X (.Name x f) (tC v):=
 λ_ _ _ H _ I h=>ub I c a e #[v,H,I,r,h] d b
variable{a b:Expr}{ta tb:TE}{pos:Pos}
variable{tA tB':TT}{rest:L Expr}
noncomputable def m_(t u:TT):TT:=λd H Q=>t d H λc e=>if c=B then u d e Q else Q G e
noncomputable def nK(t u:TT):TT:=λd H Q=>t d H λc e=>if c=B then Q B e else u d e Q
noncomputable def M0(t:TT):TT:=λd H Q=>t d H λc e=>Q (!c) e
def dg(f:PT X a tA):PW X (.BoolOp .And [a] pos) tA:=by
 intro i d s g H Q I h;refine isTrue_and (jv (f _ s g H Q I h) λc j e=>?_);cases c with
 |true=>exact isTrue_and_nil e
 |false=>exact e
def Eo(f:PT X a tA):PW X (.BoolOp .Or [a] pos) tA:=by
 intro i d s g H Q I h;refine isTrue_or (jv (f _ s g H Q I h) λc j e=>?_);cases c with
 |false=>exact isTrue_or_nil e
 |true=>exact e
def Ep(k:PT X a tA)(n:PW X (.BoolOp .And (b::rest) pos) tB'):PW X (.BoolOp .And (a::b::rest) pos) (m_ tA tB'):=by
 intro j i s g H Q I h;refine isTrue_and (jv (k _ s g H _ I h) λc m l=>?_);obtain⟨d,f,e⟩:=l;cases c with
 |true=>exact n j _ m g d Q f e
 |false=>exact#[d,f,e]
def IB(k:PT X a tA)(n:PW X (.BoolOp .Or (b::rest) pos) tB'):PW X (.BoolOp .Or (a::b::rest) pos) (nK tA tB'):=by
 intro j i s g H Q I h;refine isTrue_or (jv (k _ s g H _ I h) λc m l=>?_);obtain⟨d,f,e⟩:=l;cases c with
 |true=>exact#[d,f,e]
 |false=>exact n j _ m g d Q f e
def Es(f:PT X a tA):PT X (.UnaryOp .Not a pos) (M0 tA):=by
 intro d s g H Q I h;exact isTrue_not (f _ s g H (λc e=>Q _ e) I h)
noncomputable def IC(ta tb:TE):TE:=λd H Q=>ta d H λx e=>∃c,x=.bl c/\if c=B then tb d e Q else Q (.bl G) e
noncomputable def M1(ta tb:TE):TE:=λd H Q=>ta d H λx e=>∃c,x=.bl c/\if c=B then Q (.bl B) e else tb d e Q
noncomputable def IE(ta:TE):TE:=λd H Q=>ta d H λx e=>∃c,x=.bl c/\Q (.bl (!c)) e
def Et(h:PE X a t):PE X (.BoolOp f [a] pos) t:=λc s e H Q I d=>BoolOp_one (h _ s e H Q I d)
def Eu(l:PE X a ta)(j:PE X (.BoolOp .And (b::rest) pos) tb):PE X (.BoolOp .And (a::b::rest) pos) (IC ta tb):=by
 intro i s g H Q I h;refine BoolOp_and (jv (l _ s g H _ I h) λv n m=>?_);obtain⟨x,e,f,k,d⟩:=m;obtain⟨c,rfl,d⟩:=d;subst k;refine wpAny_truthy_bool ?_;cases c with
 |true=>exact j _ n g e Q f d
 |false=>exact#[.bl _,e,f,rfl,d]
def IG(l:PE X a ta)(j:PE X (.BoolOp .Or (b::rest) pos) tb):PE X (.BoolOp .Or (a::b::rest) pos) (M1 ta tb):=by
 intro i s g H Q I h;refine BoolOp_or (jv (l _ s g H _ I h) λv n m=>?_);obtain⟨x,e,f,k,d⟩:=m;obtain⟨c,rfl,d⟩:=d;subst k;refine wpAny_truthy_bool ?_;cases c with
 |false=>exact j _ n g e Q f d
 |true=>exact#[.bl _,e,f,rfl,d]
def Ev(l:PE X a ta):PE X (.UnaryOp .Not a pos) (IE ta):=by
 intro e s j H Q I h;refine UnaryOp_ (jv (l _ s j H _ I h) λv m i=>?_);obtain⟨x,f,g,k,d⟩:=i;obtain⟨c,rfl,d⟩:=d;subst k;exact not_of (wpAny_truthy_bool #[.bl _,f,g,rfl,d])
noncomputable def nL(t:TT)(ta tb:TE):TE:=λd H Q=>t d H λc e=>if c=B then ta d e Q else tb d e Q
def bc(o:PT X c tA)(m:PE X a ta)(n:PE X b tb):PE X (.IfExp c a b pos) (nL tA ta tb):=by
 intro k s e H Q I h;refine wpAny_IfExp (jv (o _ s e H _ I h) λd g l=>?_);obtain⟨j,i,f⟩:=l;cases d with
 |true=>exact m _ g e j Q i f
 |false=>exact n _ g e j Q i f
end
noncomputable def jY(K:uXa)(H )(a:Addr)(c:L V):=
 Rd H a (.lst c)\/
  ∃(o:Obj) (b:Array _) (n:Nat),K.lookup a=S o/\o.cls=.type "list"/\o.dict=J/\o.data=.seq b n/\b.size<=sizeLine/\jl c b.toList
noncomputable def yg(K:uXa)(H )(a:Addr)(c:L V):=
 Rd H a (.tup c)\/
  ∃(o:Obj) (b:Array _) (n:Nat),K.lookup a=S o/\o.cls=.type "tuple"/\o.data=.seq b n/\b.size<=sizeLine/\jl c b.toList
noncomputable def M2:Value->Y V
 |.none=>S .non
 |.bool b=>S (.bl b)
 |.int i _=>S (.int i)
 |.str x _=>S (.str x)
 |.bytes b _=>S (.byt b)
 |.float b _=>S (.flt b)
 |.ref a=>S (.ref a)
 |.type n=>S (.ty n)
 |_=>J
def jp.abs(r:jp x u):M2 u=S x:=by
 cases x with
 |non=>subst r;rfl
 |bl _=>subst r;rfl
 |int _=>obtain⟨t,rfl⟩:=r;rfl
 |str _=>obtain⟨t,rfl⟩:=r;rfl
 |byt _=>obtain⟨t,rfl⟩:=r;rfl
 |flt _=>obtain⟨t,rfl⟩:=r;rfl
 |ref _=>subst r;rfl
 |ty _=>subst r;rfl
noncomputable def jp.inj(r:jp x u)(q:jp y u):=vFa (r.abs.symm.trans q.abs)
def jl.inj{a b c}(h:jl a c):jl b c->a=b:=by
 induction h generalizing b with
 |nil=>intro h;cases h;rfl
 |cons r _ i=>
  intro h;cases h with
  |cons e d=>rw[r.inj e,i d]
section
variable{X:Cx}{pins:Tq}{U:St}{H:Hp}{s:Shared}{a:Addr}{xs ys:L V}
def jY.of{K}(h:H a=S (.lst xs)):jY K H a xs:=.inl (.inl h)
def yg.of{K}(h:H a=S (.tup xs)):yg K H a xs:=.inl (.inl h)
def Inv.list(I:Inv X pins U H s)(h:jY X.K H a xs):∃b ,jl xs b/\PlainL s.heap a b.toArray/\xs.length<=sizeLine:=by
 rcases h with h|⟨o,b,n,d,g,c,f,i,r⟩
 ·obtain⟨z,b,n,r,e⟩:=h.ok I.hok;exact#[_,r,#[_,n,e,rfl,rfl,rfl],z]
 ·refine#[_,r,#[o,n,I.kIn a o d,g,c,by simpa using f],?_];have e:=r.length;simp only[Array.length_toList]at e
  lia
def Inv.tuple(I:Inv X pins U H s)(h:yg X.K H a xs):∃b ,jl xs b/\IsTup s.heap a b.toArray/\xs.length<=sizeLine:=by
 rcases h with h|⟨o,b,n,d,c,f,g,r⟩
 ·obtain⟨z,b,r,p⟩:=h.ok I.hok;exact#[_,r,p,z]
 ·refine#[_,r,#[o,I.kIn a o d,c,n,by simpa using f],?_];have e:=r.length;simp only[Array.length_toList]at e
  lia
def Inv.list_inj(I:Inv X pins U H s)(h:jY X.K H a xs)(i:jY X.K H a ys):xs=ys:=by
 obtain⟨c,r,⟨o,n,e,_,_,d⟩,_⟩:=I.list h;obtain⟨b,j,⟨k,m,g,_,_,f⟩,_⟩:=I.list i;rw[e]at g;obtain rfl:=Zj g;rw[d]at f;injection f with l _;have:c=b:=by simp_all
 subst this;exact r.inj j
def Inv.tuple_inj(I:Inv X pins U H s)(h:yg X.K H a xs)(i:yg X.K H a ys):xs=ys:=by
 obtain⟨c,r,⟨o,e,_,n,d⟩,_⟩:=I.tuple h;obtain⟨b,j,⟨k,g,_,m,f⟩,_⟩:=I.tuple i;rw[e]at g;obtain rfl:=Zj g;rw[d]at f;injection f with l _;have:c=b:=by simp_all
 subst this;exact r.inj j
end
noncomputable abbrev Cx.wish(X:Cx)(E:Tz):={X with xe:=E}
noncomputable abbrev Cx.nox(X:Cx):=X.wish λ_ _=>False
def Cx.Ok.wish{X:Cx}(a:X.Ok)(E ):(X.wish E).Ok:=
 #[a.mod,a.kind,a.glob,a.blt,a.above,a.inj,a.has,a.cab,a.hd,a.frames,a.stk,a.exf,a.bs,a.bsz,a.noex,a.exfs,a.funs,a.frf]
def Cx.Ok.unwish{X:Cx}{E}(a:(X.wish E).Ok):X.Ok:=
 #[a.mod,a.kind,a.glob,a.blt,a.above,a.inj,a.has,a.cab,a.hd,a.frames,a.stk,a.exf,a.bs,a.bsz,a.noex,a.exfs,a.funs,a.frf]
section
variable{X:Cx}{pins:Tq}{U:St}{H:Hp}{s:Shared}{E:Tz}
def Inv.wish(I:Inv X pins U H s)(E ):Inv (X.wish E) pins U H s:=#[I.ok.wish E,I.os,I.bare,I.base,I.loc,I.cell,I.free,I.freeC,I.pin,I.hok,I.len]
def Inv.unwish(I:Inv (X.wish E) pins U H s):Inv X pins U H s:=#[I.ok.unwish,I.os,I.bare,I.base,I.loc,I.cell,I.free,I.freeC,I.pin,I.hok,I.len]
def SP.unwish(h:SP (X.wish E) pins D f c):SP X pins D f c:=by
 cases f with
 |next=>obtain⟨a,b,I,q⟩:=h;exact#[_,b,I.unwish,q]
 |brk=>obtain⟨a,b,I,q⟩:=h;exact#[_,b,I.unwish,q]
 |cont=>obtain⟨a,b,I,q⟩:=h;exact#[_,b,I.unwish,q]
 |ret u=>obtain⟨v,a,b,I,r,q⟩:=h;exact#[v,_,b,I.unwish,r,q]
def Jb.nox{st}{t}(h:Jb X.nox st t):Jb X st t:=λpins s U H D I a=>
 wCa (h _ s U H D (I.wish _) a) (λ_ _ q=>q.unwish) λ_ _ z=>False.elim z
end
section
variable{X:Cx}{st:Stmt}{rest:L Stmt}{t u:TS}{e:Expr}{te:TE}{pos:Pos}
noncomputable def IH:TS:=λD a H=>D.nx a H
noncomputable def M3(t u:TS):TS:=λD a H=>t {D with nx:=u D} a H
def Qx:Jb X [] IH:=λ_ _ a H _ I h=>wpAny_execs_nil #[a,H,I,h]
def vR(d:PS X st t)(k:Jb X rest u):Jb X (st::rest) (M3 t u):=by
 intro a s i H D I h;refine wpAny_execs_cons (jv (d _ s i H _ I h) λf j q=>?_);cases f with
 |next=>
  obtain⟨g,b,c,q⟩:=q;exact k _ j _ b D c q
 |ret v=>exact q
 |brk=>exact q
 |cont=>exact q
def uc(b:PS X st t):Jb X [st] t:=by
 intro a s c H D I h;refine wpAny_execs_cons (jv (b _ s c H D I h) λf d q=>?_);cases f with
 |next=>exact wpAny_execs_nil q
 |ret v=>exact q
 |brk=>exact q
 |cont=>exact q
def Inv.quiet(I:Inv X a b H s):interactive X.env=G:=by simp[interactive,I.ok.kind]
noncomputable def gX(te:TE):TS:=λD a H=>te a H λ_ b=>D.nx a b
def vK(i:PE X e te)(g:swapsWith e J pos.line X.env=pure G:=by rfl):PS X (.Expr e pos) (gX te):=by
 intro b s a H D I h;exact wpAny_Expr_any (jv (i _ s a H _ I h) λv j ⟨x,f,d,k,c⟩=>#[a,f,d,c]) I.quiet g
noncomputable def Ew(te:TE):TS:=λD a H=>te a H D.rt
def vS(f:PE X e te):PS X (.Return (S e) pos) (Ew te):=by
 intro b s a H D I h;exact wpAny_Return_some (jv (f _ s a H _ I h) λv j ⟨x,c,d,i,g⟩=>#[x,a,c,d,i,g])
noncomputable def II:TS:=λD _ H=>D.rt .non H
def dh:PS X (.Return J pos) II:=λ_ _ a H _ I h=>wpAny_Return_none #[.non,a,H,I,rfl,h]
noncomputable def M4(c:TT)(t u:TS):TS:=λD a H=>c a H λb d=>if b=B then t D a d else u D a d
def cx(p:PT X c r)(n:Jb X a t)(m:Jb X b u):PS X (.If c a b pos) (M4 r t u):=by
 intro l s f H D I h;refine wpAny_If (jv (p _ s f H _ I h) λd k o=>?_);obtain⟨j,i,g⟩:=o;cases d with
 |true=>exact n _ k f j D i g
 |false=>exact m _ k f j D i g
noncomputable def Ex:TS:=λ_ _ _=>False
def ao:Jb X a Ex:=λ_ _ _ _ _ _ h=>h.elim
end
noncomputable abbrev TG:=V->St->Hp->(St->Hp->Prop)->Prop
noncomputable abbrev Qy:=L V->St->Hp->(St->Hp->Prop)->Prop
noncomputable def PG(X )(a )(t:TG):=
 ∀(b ) (s ) (d:St) (H ) (v ) (u ) (Q ),Inv X b d H s->jp v u->t v d H Q->
  wpAny (model X.prog X.w) X.A (assign a X.env u) (λ_ f=>∃c e,Inv X b c e f/\Q c e) X.xe s
noncomputable def UK(X )(g:L _)(t:Qy):=
 ∀(a ) (s ) (d:St) (H ) (c ) (f ) (Q ),Inv X a d H s->jl c f->t c d H Q->
  wpAny (model X.prog X.w) X.A (assignInOrder ((assignEach g X.env).map (·.2)) f) (λ_ h=>∃b e,Inv X a b e h/\Q b e) X.xe s
noncomputable abbrev Ey:=V->V->V->Hp->(Hp->Prop)->Prop
noncomputable def xH(X )(t:Ey):=
 ∀(a ) (s ) (d:St) (H ) (o i v ) (b c u ) (Q ),Inv X a d H s->jp o b->jp i c->jp v u->t o i v H Q->
  wpAny (model X.prog X.w) X.A (setItem b c u) (λ_ f=>∃e,Inv X a d e f/\Q e) X.xe s
noncomputable abbrev Ez:=V->V->Hp->VK->Prop
noncomputable def EA(X )(c:Operator)(t:Ez):=
 ∀(a ) (s ) (b:St) (H ) (x y ) (v u ) (Q ),Inv X a b H s->jp x v->jp y u->t x y H Q->
  wpAny (model X.prog X.w) X.A (inplaceOp c v u) (EP X a b Q) X.xe s
section
variable{X:Cx}{pos:Pos}
noncomputable def yJ(i:Nat):TG:=λv a H Q=>Q (a.set i (S v)) H
def dj(b:X.N.Nodup)(c:X.N[i]?=S x)(e:Gr X.env.scope x)(d:X.fn x=B\/X.env.scope.names.lookup x=S .local:=by first|exact .inl _|exact .inr _|assumption):PG X (.Name x pos) (yJ i):=by
 intro a s j H v u Q I r h;exact wpAny_assign_Name (vP I b c e r (λg f=>#[_,H,f,h]) d)
noncomputable def M5:Qy:=λa b H Q=>a=[]/\Q b H
noncomputable def IJ(t:TG)(u:Qy):Qy:=λb d H Q=>∃v r,b=v::r/\t v d H λa c=>u r a c Q
def dl:UK X [] M5:=by
 intro a s b H c d Q I r h;obtain⟨e,h⟩:=h;subst e;cases r;exact assignInOrder_nil #[b,H,I,h]
theorem bg(g:PG X e t)(p:UK X a u)
  (j:(assignEach (e::a) X.env).map (·.2)=assign e X.env::(assignEach a X.env).map (·.2):=by rfl):UK X (e::a) (IJ t u):=by
 intro b s k H w x Q I r h;obtain⟨v,y,d,h⟩:=h;subst d;cases r with
 |cons r o=>
  rw[j];refine assignInOrder_cons (jv (g _ s k H _ _ _ I r h) λ_ c l=>?_);obtain⟨i,m,f,n⟩:=l;exact p _ c _ m _ _ Q f o n
noncomputable def M6(K:uXa)(n:Nat)(t:Qy):TG:=λv c H Q=>∃a b,v=.ref a/\yg K H a b/\b.length=n/\t b c H Q
def EB(x:X.calm=B)(h:UK X f t)
  (l:(assignEach f X.env).length=n:=by rfl) (d:(assignEach f X.env).findIdx? (·.1)=J:=by rfl):PG X (.Tuple f k pos) (M6 X.K n t):=by
 intro i s A H v u Q I r c;obtain⟨a,w,F,j,y,c⟩:=c;subst F;subst r;obtain⟨C,g,m,N⟩:=I.tuple j;refine assign_Tuple_tuple (I.ok.hd x) m (by simp[l,<-y,g.length]) d λM z=>?_;have p:=I.kept (t':=s.toks) λb o e=>z b o (wTa (wLa e)) e;exact h _ _ A H w _ Q p (by simpa using g) c
noncomputable def bh(e b:TE)(t:Ey):TG:=λv a H Q=>e a H λo d=>b a d λi f=>t o i v f λc=>Q a c
def Wn(T:PE X o R)(w:PE X i A)(l:xH X t)
  (m:∀v,assign (.Subscript o i pos) X.env v=(do
   let a<-holding [v] (eval o X.env)
   let b<-holding [v,a] (eval i X.env)
   standAt pos
   holding [v,a,b] (setItem a b v)
   release [v,a,b] []):=by intro _;rfl):PG X (.Subscript o i pos) (bh R A t):=by
 intro e s d H v u Q I r h;rw[m];refine wAa (wDa (jv (T _ s d H _ I h) λa n c=>?_));obtain⟨x,g,M,C,j⟩:=c;refine wAa (wDa (jv (w _ n d g _ M j) λb O c=>?_));obtain⟨y,f,P,z,p⟩:=c;refine wAa (vOa (wAa (wDa (jv (l _ O d f x y v a b u _ P C z r p) λ_ W c=>?_))));obtain⟨k,F,N⟩:=c;exact wpAny_release #[d,k,F,N]
noncomputable def yz(c:TE)(g:TG):TS:=λD a H=>c a H λx b=>g x a b D.nx
def ud(k:PE X e d)(o:PG X a g)(p:swapsWithSole [a] e pos.line X.env=pure G:=by rfl)(r:swappedStores [a] e X.env=pure J:=by rfl)
  (i:(assignEach [a] X.env).map (·.2)=[assign a X.env]:=by rfl):PS X (.Assign [a] e pos) (yz d g):=by
 intro c s b H D I h;refine wpAny_Assign_stores (jv (k _ s b H _ I h) λv j l=>?_) p r;obtain⟨x,m,f,t,n⟩:=l;rw[i];exact jv (o _ j b m x v _ f t n) λ_ u q=>q
def Yy(c:X.N.Nodup)(g:X.N[i]?=S x)(k:Gr X.env.scope x)(j:PE X e u)(t:swapsWith e (S (.Name x a)) pos.line X.env=pure G:=by rfl)(m:X.fn x=B\/X.env.scope.names.lookup x=S .local:=by first|exact .inl _|exact .inr _|assumption):
  PS X (.Assign [.Name x a] e pos) (yz u (yJ i)):=by
 intro b s r H D I h;refine wpAny_Assign_Name (jv (j _ s r H _ I h) λv w l=>?_) t;obtain⟨y,n,f,d,o⟩:=l;exact vP f c g k d (λz p=>#[_,n,p,o]) m
noncomputable def EC(i:Nat)(e:TE)(b:Ez):TS:=λD a H=>∃x,a[i]?=S (S x)/\e a H λy c=>b x y c λz d=>D.nx (a.set i (S z)) d
def aq(hN:X.N.Nodup)(p:X.N[i]?=S x)(o:Gr X.env.scope x)(he:PE X e N)(M:EA X A R)(hf:X.fn x=B\/X.env.scope.names.lookup x=S .local:=by first|exact .inl _|exact .inr _|assumption):
  PS X (.AugAssign (.Name x C) A e pos) (EC i N R):=by
 intro f s t H D I h;obtain⟨v,e1,h⟩:=h;obtain⟨m,T,O⟩:=I.loc;have j:UJ X.env.scope x:=by rcases o with k|k;exact .inl k;exact .inr (.inl k)
 obtain⟨u,r,l⟩:=O i x v p e1 j;refine wpAny_AugAssign_Name ?_;have go:wpAny (model X.prog X.w) X.A (eval e X.env) (λw d=>wpAny (model X.prog X.w) X.A (inplaceOp A u w) (λr g=>wpAny (model X.prog X.w) X.A (storeName X.env x r) (λ_=>SP X f D .next) X.xe g) X.xe d) X.xe s:=by
  refine jv (he _ s t H _ I h) λw F n=>?_;obtain⟨y,H1,I1,W,q1⟩:=n;refine jv (M _ F t H1 v y u w _ I1 r W q1) λz s2 n=>?_;obtain⟨zv,H2,I2,r2,P⟩:=n;exact vP I2 hN p o r2 (λs3 Z=>#[_,H2,Z,P]) hf
 rcases l with⟨a,Q⟩|⟨a,c,hc,b⟩
 ·exact wpAny_loadName_local I.ok.kind a T Q go
 ·rcases a with a|a
  ·exact wpAny_loadName_cell I.ok.kind a hc b go
  ·rcases o with k|k
   ·have:X.env.scope.names.lookup x=S _:=a;rw[k]at this;cases this
   ·have:X.env.scope.names.lookup x=S _:=a;rw[k]at this;cases this
noncomputable def ED(f:Int->Int->Int):Ez:=λx y H Q=>∃i j,x=.int i/\y=.int j/\Q (.int (f i j)) H
def EE:EA X .Add (ED λi j=>i+j):=by
 intro a s g H x y v u Q I b c h;obtain⟨i,j,d,e,q⟩:=h;subst d;subst e;obtain⟨t,rfl⟩:=b;obtain⟨f,rfl⟩:=c;exact iadd_int #[.int _,H,I.tok _,#[_,rfl],q]
def EF:EA X .Sub (ED λi j=>i-j):=by
 intro a s g H x y v u Q I b c h;obtain⟨i,j,d,e,q⟩:=h;subst d;subst e;obtain⟨t,rfl⟩:=b;obtain⟨f,rfl⟩:=c;exact isub_int #[.int _,H,I.tok _,#[_,rfl],q]
end
section
variable{X:Cx}{pos:Pos}
noncomputable def EG(c:TT)(h:TS):TS:=λD a H=>∃W:Nat->St->Hp->Prop,(∃m,W m a H)/\∀m a H,W m a H->
 c a H λb e=>if b=B then∃N ,(∀d g,N d g->∃f,f<m/\W f d g)/\h {D with nx:=N,ct:=N,bk:=D.nx} a e else D.nx a e
def bj(A:PassesOwn (model X.prog X.w) X.A X.env X.xe)(M:PT X c tc)(P:Jb X g tb):PS X (.While c g [] pos) (EG tc tb):=by
 intro u s R H D I h;obtain⟨W,⟨O,Q⟩,d⟩:=h;refine wpAny_While (codeAny_whileLoop (λn s'=>∃a y,Inv X _ a y s'/\W n a y) ?_ O #[R,H,I,Q]);rintro n s1 ⟨C,w,F,T⟩;refine wpAny_passesOwn A (jv (M _ s1 _ w _ F (d n _ w T)) λb s2 Z=>?_);obtain⟨z,x,i⟩:=Z;cases b with
 |true=>
  obtain⟨N,t,i⟩:=i;refine wpAny_passesOwn A (jv (P _ s2 _ z _ x i) λf s3 j=>?_);cases f with
  |next=>
   obtain⟨r,e,k,l⟩:=j;obtain⟨o,p,m⟩:=t _ e l;exact#[o,p,_,e,k,m]
  |cont=>
   obtain⟨r,e,k,l⟩:=j;obtain⟨o,p,m⟩:=t _ e l;exact#[o,p,_,e,k,m]
  |brk=>exact j
  |ret v=>exact j
 |false=>
  exact wpAny_execs_nil #[_,z,x,i]
end
structure It where
 go:Nat->Hp->Prop
 yld:Nat->Hp->V->Hp->Prop
 stop:Nat->Hp->Prop
noncomputable def JE(X:Cx)(pins:Tq)(H:Hp)(b ):=
 H b=J/\b≠X.env.locals/\b∉X.fs/\(b∈X.ex\/X.s₀.heap.objs.size<=b)/\(∀x c,X.env.cells.lookup x=S c->c≠b)/\∀p∈X.pn++pins,p.1≠b
def Inv.fpOk(I:Inv X pins h H s)(a:s.heap.objs.size<=b)(f:g b=J):JE X pins g b:=by
 refine#[f,Nat.ne_of_gt (Nat.lt_of_lt_of_le I.lt a),I.nofs a,.inr (wSa I.sz a),λx c e z=>?_,λp d z=>?_]
 ·obtain⟨v,q⟩:=I.cell x c e;exact vDa (Nat.lt_of_lt_of_le q.lt (by simp_all)) (wUa _)
 ·exact vDa (Nat.lt_of_lt_of_le (wLa (I.pin p d).1) (by simp_all)) (wUa _)
structure Turn (P ) (w ) (K ) (tg ) (J00:It) (fp:L _) (it ) (tn:Nat->Heap->Prop) where
 mem:it∈fp
 obj:∀i h,tn i h->∀b∈fp,∃o,h.get? b=S o/\∀v,o.data≠.cell v
 keep:∀i h h',tn i h->(∀b∈fp,∀o,h.get? b=S o->h'.get? b=S o)->tn i h'
 item:∀(X ),X.prog=P->X.w=w->X.K=K->X.calm=B->∀(i ) (pins ) (s ) (U:St) (H ) (E ),Inv X pins U H s->(∀b∈fp,JE X pins H b)->tn i s.heap->J00.go i H->
  wpAny (model P w) X.A (pyNext (.ref it)) (λr s1=>∃u,r=S u/\
   wpAny (model P w) X.A (letOwnedTupleGo tg (.ref it) u) (λ_ s2=>∃x H',Inv X pins U H' s2/\jp x u/\J00.yld i H x H'/\tn (i+1) s2.heap/\∀b∈fp,H' b=J) E s1) E s
 done:∀(X ),X.prog=P->X.w=w->X.K=K->X.calm=B->∀(i ) (pins ) (s ) (U:St) (H ) (E ),Inv X pins U H s->(∀b∈fp,JE X pins H b)->tn i s.heap->J00.stop i H->
  wpAny (model P w) X.A (pyNext (.ref it)) (λr s1=>r=J/\Inv X pins U H s1) E s
 self:∀(A ) (i ) (s ) (Q ) (E ),tn i s.heap->Q (.ref it) s->wpAny (model P w) A (pyIter (.ref it)) Q E s
noncomputable abbrev TI:=St->Hp->(It->Hp->Prop)->Prop
noncomputable def LU(X )(a:Tq)(j:St)(i:Expr)(R:It->Hp->Prop)(d:Value)(h:Shared):=
 ∃(f:Addr) (e:L _) (g:Nat->Heap->Prop) (J00:It) (c:Hp),d=.ref f/\Inv X a j c h/\Turn X.prog X.w X.K i J00 e f g/\g 0 h.heap/\(∀b∈e,JE X a c b)/\R J00 c
noncomputable def PI(X )(f b:Expr)(d:TI):=
 ∀(a ) (s ) (c:St) (H ) (R ),Inv X a c H s->d c H R->
  wpAny (model X.prog X.w) X.A (eval b X.env) (λv e=>wpAny (model X.prog X.w) X.A (pyIter v) (LU X a c f R) X.xe e) X.xe s
def kv(d:s.heap.get? f=S o)(g:o.cls=.type n)(i:o.data=.fields e)
  (b:["enumerate","zip","dict_itemiterator","dict_reverseitemiterator","odict_iterator","itertools.zip_longest","itertools.pairwise"].contains n=G) (a:Q () s):wpAny M A (letOwnedTupleGo c (.ref f) u) Q E s:=by
 cases c<;>first
  |exact wBa a
  | (cases u <;> first
    |exact wBa a
    | (refine wAa (wpAny_load d ?_)
       rw[g,i];show wpAny M A (if(["enumerate","zip","dict_itemiterator","dict_reverseitemiterator","odict_iterator","itertools.zip_longest","itertools.pairwise"].contains n&&e[0]?==S _)=B then _ else _) Q E s;rw[if_neg (by intro h;rw[b,Bool.false_and]at h;exact Zf h)];exact wBa a))
noncomputable def ar(K:uXa)(a:Addr):It:=
 #[λi H=>∃b x,jY K H a b/\b[i]?=S x,λi H x c=>c=H/\∀b,jY K H a b->b[i]?=S x,λi H=>∃b,jY K H a b/\b.length<=i]
noncomputable def EH(K:uXa)(a:Addr):It:=
 #[λi H=>∃b x,yg K H a b/\b[i]?=S x,λi H x c=>c=H/\∀b,yg K H a b->b[i]?=S x,λi H=>∃b,yg K H a b/\b.length<=i]
noncomputable def cy(lo:Int)(n:Nat):It:=#[λi _=>i<n,λi H x a=>a=H/\x=.int (lo+i),λi _=>n<=i]
def wc{K}{tg}(a f ):Turn P w K tg (ar K a) [f] f (λi h=>h.IsListIter f a i) where
 mem:=by simp
 obj:=λi h st b g=>by
  have e:b=f:=by simpa using g
  subst e;obtain⟨o,e,c,d⟩:=st;exact#[o,e,λv z=>by lia]
 keep:=λi h Z st k=>st.at λo e=>k f (by simp) o e
 item:=by
  intro X A F N W i l s U H E I n st T;subst A F N;obtain⟨xs,x,m,y⟩:=T;obtain⟨M,R,p,hz⟩:=I.list m;obtain⟨u,hu,ru⟩:=R.get y;obtain⟨t,Q,f2,C,r,O⟩:=n f (by simp);refine wpAny_pyNext_list_item st p.isList (by simpa using hu) λZ j sb=>?_;have I1:=I.turned (t':=s.toks) (λb o g e=>(sb.2 b g).trans e) t Q C r O;obtain⟨o,e,c,d⟩:=id j;exact#[u,rfl,kv e c d rfl #[x,H,I1,ru,#[rfl,λys hy=>by rw[I.list_inj hy m];exact y],j,λb g=>(n b g).1]]
 done:=by
  intro X A F N W i l s U H E I n st T;subst A F N;obtain⟨xs,m,y⟩:=T;obtain⟨M,R,p,hz⟩:=I.list m;obtain⟨t,Q,f2,C,r,O⟩:=n f (by simp);have hl:=R.length;exact wpAny_pyNext_list_end (I.ok.hd W) st p.isList (by simp;lia) λZ eb=>#[rfl,I.turned (λb o g e=>eb b o g e) t Q C r O]
 self:=λ_ _ _ _ _ st h=>wpAny_pyIter_listiter st h
def xI{K}{tg}(a f ):Turn P w K tg (EH K a) [f] f (λi h=>h.IsTupleIter f a i) where
 mem:=by simp
 obj:=λi h st b g=>by
  have e:b=f:=by simpa using g
  subst e;obtain⟨o,e,c,d⟩:=st;exact#[o,e,λv z=>by lia]
 keep:=λi h Z st k=>st.at λo e=>k f (by simp) o e
 item:=by
  intro X A F N W i l s U H E I n st T;subst A F N;obtain⟨xs,x,m,y⟩:=T;obtain⟨M,R,p,hz⟩:=I.tuple m;obtain⟨u,hu,ru⟩:=R.get y;obtain⟨t,Q,f2,C,r,O⟩:=n f (by simp);refine wpAny_pyNext_tuple_item st (show s.heap.IsTuple a _ from p) (by simpa using hu) λZ j sb=>?_;have I1:=I.turned (t':=s.toks) (λb o g e=>(sb.2 b g).trans e) t Q C r O;obtain⟨o,e,c,d⟩:=id j;exact#[u,rfl,kv e c d rfl #[x,H,I1,ru,#[rfl,λys hy=>by rw[I.tuple_inj hy m];exact y],j,λb g=>(n b g).1]]
 done:=by
  intro X A F N W i l s U H E I n st T;subst A F N;obtain⟨xs,m,y⟩:=T;obtain⟨M,R,p,hz⟩:=I.tuple m;obtain⟨t,Q,f2,C,r,O⟩:=n f (by simp);have hl:=R.length;exact wpAny_pyNext_tuple_end (I.ok.hd W) st (show s.heap.IsTuple a _ from p) (by simp;lia) λZ eb=>#[rfl,I.turned (λb o g e=>eb b o g e) t Q C r O]
 self:=λ_ _ _ _ _ st h=>wpAny_pyIter_tupleiter st h
def xJ{K}{Q}(a )(lo )(n ):Turn P w K Q (cy lo n) [a] a (λi h=>IsRangeIter h a (lo+i*1) (n-i) 1) where
 mem:=by simp
 obj:=λi h st b c=>by simp_all
 keep:=λi h p st k=>k a (by simp) _ st
 item:=by
  intro X F z A u i d s C H E I g st x;subst F z A;obtain⟨j,r,N,m,y,l⟩:=g a (by simp);have W:=Walks.range (prog:=X.prog) (w:=X.w) (I.ok.hd u) a lo 1 n;refine W.item i s _ _ x st λv p R Z f T=>?_;obtain⟨t,rfl⟩:=Z;have M:Inv X _ C H {s with heap:=p,toks:=R}:=I.turned (λb o c e=>T b o (by simpa using c) e) j r m y l;refine#[_,rfl,kv f rfl rfl rfl #[.int _,H,M,#[t,?_],#[rfl,rfl],f,λb c=>(g b c).1]];rw[Int.mul_one]
 done:=by
  intro X F z A u i d s C H E I g st x;obtain⟨j,r,N,m,y,l⟩:=g a (by simp);exact wpAny_pyNext_range_end (I.ok.hd u) st (by have:n<=i:=x;lia) λp O=>#[rfl,I.turned (λb o c e=>O b o c e) j r m y l]
 self:=λ_ _ _ _ _ st h=>wpAny_pyIter_rangeiter st h
section
variable{X:Cx}{tg:Expr}
noncomputable def IK(K:uXa)(c:TE):TI:=λd H R=>c d H λx b=>∃a,x=.ref a/\(∃e,jY K b a e)/\R (ar K a) b
def bn{d:St}{H}{s}{R}{E}{lo a}{t u v}{g}(I:Inv X c d H s)(l:-(2^62)<=lo)(m:lo<2^62)(i:-(2^62)<=a)(k:a<2^62)
  (q:R (cy lo (a-lo).toNat) H):wpAny (model X.prog X.w) X.A (pyIter (.ref s.heap.objs.size)) (LU X c d tg R) E {s with heap:=s.heap.push {cls:=.type "range",data:=.fields #v[.int lo t,.int a u,.int 1 v]},toks:=g}:=by
 refine wpAny_pyIter_range (IsRange.new ..) (small_one l m i k) ?_;have f:Inv X _ d H {s with heap:=s.heap.push {cls:=.type "range",data:=.fields #v[.int lo t,.int a u,.int 1 v]},toks:=g}:=I.kept λb o e=>wIa _ e;refine#[_,_,_,_,H,rfl,
  f.kept λb o e=>wIa _ e,xJ _ lo _,?_,λb n=>?_,q]
 ·have h:lo+((0:Nat))*1=lo:=by simp
  have j:(((a-lo).toNat:Nat))-((0:Nat))=Builtin.Range.rangeSize lo a 1:=by rw[rangeSize_one];split<;>lia
  rw[h,j];exact wJa _ rfl
 ·have e:b=(s.heap.push {cls:=.type "range",data:=.fields #v[.int lo t,.int a u,.int 1 v]}).objs.size:=by simpa using n
  subst e;exact f.fpOk (wPa _) (f.hok.fresh (wPa _))
noncomputable def IL(c:TA):TI:=λa H R=>c a H λd b=>∃j ,d=[.int j]/\-(2^62)<=j/\j<2^62/\R (cy 0 j.toNat) b
def au(v:Gl X "range")(f:X.mg "range" = J)(d:PA X [a] i)(k:starEach [a] X.env=[(G,eval a X.env)]:=by rfl):PI X tg (.Call (.Name "range" p) [a] [] g) (IL i):=by
 intro c s m H R I h;refine Call_ (ub I v f boot_range (PyProof.Rows.callWith_type1 (jv (d _ _ s m H _ I h) λy x w=>?_) k rfl));obtain⟨z,A,u,n,b⟩:=w;obtain⟨j,e,b,o,q⟩:=b;subst e;cases n with
 |cons r l=>
  cases l;obtain⟨t,rfl⟩:=r;exact call_range_1 (bn u (by lia) (by lia) b o (by simpa using q))
noncomputable def M7(h:TI)(g:TG)(k:TS):TS:=λD a H=>h a H λJ00 f=>∃W:Nat->Nat->St->Hp->Prop,(∃m,W 0 m a f)/\∀i m a H,W i m a H->
 (J00.stop i H/\D.nx a H)\/(J00.go i H/\∃N ,(∀b c,N b c->∃e,e<m/\W (i+1) e b c)/\∀x c,J00.yld i H x c->g x a c λd j=>k {D with nx:=N,ct:=N,bk:=D.nx} d j)
noncomputable def kw(a:L _)(h:Heap):=a.filterMap λb=>(h.get? b).map λo=>(b,o)
def vq(a:b∈c)(e:h.get? b=S o):(b,o)∈kw c h:=List.mem_filterMap.mpr #[b,a,by rw[e];rfl]
def av(a:p∈kw c h):p.1∈c/\h.get? p.1=S p.2:=by
 obtain⟨b,f,e⟩:=List.mem_filterMap.mp a;cases q:h.get? b with
 |none=>rw[q]at e;exact Zn e
 |some o=>
  rw[q]at e;have d:=vFa e;subst d;exact#[f,q]
def Inv.pinned(I:Inv X pins k H s)(j:∀b∈c,JE X pins H b)(h:∀b∈c,∃o,s.heap.get? b=S o/\∀v,o.data≠.cell v):Inv X (pins++kw c s.heap) k H s:=
 I.pins_of λp g=>(uWa g).elim (λz=>I.pin p (vJa _ z)) λz=>by
  obtain⟨f,e⟩:=av z;obtain⟨l,m,i,_⟩:=j _ f;obtain⟨o,a,d⟩:=h _ f;rw[e]at a;obtain rfl:=Zj a;exact#[e,l,m,i,d]
noncomputable def Inv.unpinned(I:Inv X (pins++c) b H s):=I.pins_of λp a=>I.pin p (vJa _ (vIa _ a))
def EI(F:PassesOwn (model X.prog X.w) X.A X.env X.xe)(hc:X.calm=B)(hi:PI X tg w wi)(hg:PG X tg g)(p:Jb X Q tb)
  (hs:∀x,foldedSetIterable w X.env x=pure x:=by intro _;rfl):PS X (.For tg w Q [] pos) (M7 wi g tb):=by
 intro Z s U H D I h;refine wpAny_For (jv (hi _ s U H _ I h) λv s1 h1=>jv h1 λitv s2 h2=>?_) hs;obtain⟨it,fp,tn,J00,H2,e,I2,T,st2,f2,W,⟨m0,w0⟩,C⟩:=h2;subst e;have l:∀{t},(∀b∈fp,t b=J)->∀b∈fp,JE X _ t b:=λhn b p=>#[hn b p,(f2 b p).2]
 refine codeAny_forLoop_any (λn s'=>∃i j t,Inv X _ j t s'/\tn i s'.heap/\(∀b∈fp,t b=J)/\W i n j t) ?_ m0 #[0,U,H2,I2,st2,λb p=>(f2 b p).1,w0];rintro n s3 ⟨i,U3,H3,I3,R,M,w3⟩;rcases C i n _ H3 w3 with⟨P,qn⟩|⟨go,N,hN,step⟩
 ·refine wpAny_passesOwn F (jv (T.done X rfl rfl rfl hc i _ s3 _ H3 _ I3 (l M) R P) λr s4 A=>?_);obtain⟨hr,I4⟩:=A;subst hr;exact wpAny_execs_nil #[_,H3,I4,qn]
 ·refine wpAny_passesOwn F (jv (T.item X rfl rfl rfl hc i _ s3 _ H3 _ I3 (l M) R go) λr s4 A=>?_);obtain⟨u,hr,h4⟩:=A;subst hr;refine wpAny_passesOwn F (jv h4 λ_ s5 A=>?_);obtain⟨x,H5,I5,r5,y5,z,fr5⟩:=A;have I5':=I5.pinned (l fr5) (T.obj _ _ z);refine wpAny_passesOwn F (jv (hg _ s5 _ H5 x u _ I5' r5 (step x H5 y5)) λ_ s6 A=>?_);obtain⟨U6,H6,I6,q6⟩:=A;refine wpAny_passesOwn F (jv (p _ s6 _ H6 _ I6 q6) λf s7 y=>?_);have again:∀{a} {c},Inv X _ _ c s7->N _ c->∃m,m<n/\∃i j t,Inv X Z j t s7/\tn i _/\(∀b∈fp,t b=J)/\W i m j t:=λ{a c} k O=>by
   obtain⟨m',hm,w7⟩:=hN _ c O;refine#[m',hm,_,a,c,k.unpinned,T.keep _ _ _ z λb p o e=>(k.pin _ (vJa _ (vJa _ (vq p e)))).1,λb p=>?_,w7];obtain⟨o,e,d⟩:=T.obj _ _ z b p;exact(k.pin _ (vJa _ (vJa _ (vq p e)))).2.1
  cases f with
  |next=>obtain⟨a,c,k,O⟩:=y;exact again k O
  |cont=>obtain⟨a,c,k,O⟩:=y;exact again k O
  |brk=>obtain⟨a,c,k,y⟩:=y;exact#[_,c,k.unpinned,y]
  |ret v=>obtain⟨x7,a,c,k,r7,y⟩:=y;exact#[x7,_,c,k.unpinned,r7,y]
end
noncomputable abbrev R2:=V->V->Hp->VK->Prop
noncomputable def jW(X )(f:Value->Value->Sem _)(r:R2):=
 ∀(a ) (s ) (b:St) (H ) (x y ) (v u ) (Q ),Inv X a b H s->jp x v->jp y u->r x y H Q->
  wpAny (model X.prog X.w) X.A (f v u) (EP X a b Q) X.xe s
noncomputable def EJ(X )(f:Value->Sem _)(r:V->Hp->VK->Prop):=
 ∀(a ) (s ) (b:St) (H ) (x ) (v ) (Q ),Inv X a b H s->jp x v->r x H Q->
  wpAny (model X.prog X.w) X.A (f v) (EP X a b Q) X.xe s
noncomputable def YV(X )(f:Value)(r:L V->Hp->VK->Prop):=
 ∀(a ) (s ) (c:St) (H ) (b ) (d ) (Q ),Inv X a c H s->jl b d->r b H Q->
  wpAny (model X.prog X.w) X.A (call f d) (EP X a c Q) X.xe s
noncomputable def M8(X )(r:V->Hp->(Bool->Hp->Prop)->Prop):=
 ∀(a ) (s ) (b:St) (H ) (x ) (v ) (Q ),Inv X a b H s->jp x v->r x H Q->
  wpAny (model X.prog X.w) X.A (truthy v) (TP X a b Q) X.xe s
noncomputable def Qz(r:R2)(e d:TE):TE:=λa H Q=>e a H λx c=>d a c λy b=>r x y b Q
noncomputable def nM(r:V->Hp->VK->Prop)(c:TE):TE:=λa H Q=>c a H λx b=>r x b Q
noncomputable def rI(C:Int->Int->Prop)(g:Int->Int->V):R2:=λx y H Q=>∃i j,x=.int i/\y=.int j/\C i j/\Q (g i j) H
noncomputable def vk(g:Int->Int->V):R2:=λx y H Q=>∃i j,x=.int i/\y=.int j/\Q (g i j) H
noncomputable def rU(g:Int->V):V->Hp->VK->Prop:=λx H Q=>∃i,x=.int i/\Q (g i) H
section
variable{X:Cx}{a b c:Expr}{ta tb tc:TE}{pos:Pos}
def bp(w:PE X a ta)(F:PE X b tb){d}{s}{e:St}{H}{R:V->V->Hp->Prop}(I:Inv X d e H s)
  (h:ta e H λx l=>tb e l λy g=>R x y g) {Q}{f:Value->Value->Sem Value}
  (r:∀v u k x y g,Inv X d e g k->jp x v->jp y u->R x y g->wpAny (model X.prog X.w) X.A (f v u) Q X.xe k):
  wpAny (model X.prog X.w) X.A (eval a X.env) (λv j=>wpAny (model X.prog X.w) X.A (eval b X.env) (λu i=>wpAny (model X.prog X.w) X.A (f v u) Q X.xe i) X.xe j) X.xe s:=by
 refine jv (w _ s e H _ I h) λv o m=>?_;obtain⟨x,l,A,z,p⟩:=m;refine jv (F _ o e l _ A p) λu k m=>?_;obtain⟨y,g,t,n,C⟩:=m;exact r v u k x y g t z n C
def cz(g:jW X (binaryOp i) r)(j:PE X a ta)(o:PE X b tb):PE X (.BinOp a i b pos) (Qz r ta tb):=by
 intro d s k H Q I h;exact wpAny_BinOp (bp j o I h λv u f x y n m l e q=>g _ f k n x y v u Q m l e q)
def IM(i:EJ X (unaryOp l) r)(m:PE X a ta):PE X (.UnaryOp l a pos) (nM r ta):=by
 intro e s d H Q I h;exact UnaryOp_ (jv (m _ s d H _ I h) λv f ⟨x,j,g,n,k⟩=>i _ f d j x v Q g n k)
def cD{C}{g:Int->Int->Int}
  (rule:∀(i j ) (t u ) (s ) (Q ) (E ),C i j->Q (.int (g i j) s.toks) {s with toks:=s.toks+1}->wpAny (model X.prog X.w) X.A (f (.int i t) (.int j u)) Q E s):
  jW X f (rI C λi j=>.int (g i j)):=by
 intro d s n H x y v u Q I l e h;obtain⟨i,j,rfl,rfl,k,q⟩:=h;obtain⟨t,rfl⟩:=l;obtain⟨m,rfl⟩:=e;exact rule i j t m s _ _ k #[.int _,H,I.tok _,#[_,rfl],q]
def EK{g:Int->Int->Int}
  (rule:∀(i j ) (t u ) (s ) (Q ) (E ),Q (.int (g i j) s.toks) {s with toks:=s.toks+1}->wpAny (model X.prog X.w) X.A (f (.int i t) (.int j u)) Q E s):
  jW X f (vk λi j=>.int (g i j)):=by
 intro d s m H x y v u Q I k e h;obtain⟨i,j,rfl,rfl,q⟩:=h;obtain⟨t,rfl⟩:=k;obtain⟨l,rfl⟩:=e;exact rule i j t l s _ _ #[.int _,H,I.tok _,#[_,rfl],q]
def xK{g:Int->Int->Bool}
  (rule:∀(i j ) (t u ) (s ) (Q ) (E ),Q (.bool (g i j)) s->wpAny (model X.prog X.w) X.A (f (.int i t) (.int j u)) Q E s):
  jW X f (vk λi j=>.bl (g i j)):=by
 intro d s m H x y v u Q I l e h;obtain⟨i,j,rfl,rfl,q⟩:=h;obtain⟨t,rfl⟩:=l;obtain⟨k,rfl⟩:=e;exact rule i j t k s _ _ #[.bl _,H,I,rfl,q]
noncomputable def bq(i j:Int):=0<j/\j<1073741824
noncomputable def br(i j:Int):=0<=j/\j<=1000000/\i.natAbs<2^64
noncomputable def GF(i j ):=(-(2^64)<i/\i<2^64)\/(-(2^64)<j/\j<2^64)
def GF.ok(h:GF i j):IntMulOk i j:=by
 rcases h with⟨d,e⟩|⟨d,e⟩
 ·exact .of_left (intBits_le_64 d e)
 ·exact .of_right (intBits_le_64 d e)
def EL:jW X (binaryOp .Add) (vk λi j=>.int (i+j)):=EK λ_ _ _ _ _ _ _ q=>add_int q
def EM:jW X (binaryOp .Sub) (vk λi j=>.int (i-j)):=EK λ_ _ _ _ _ _ _ q=>sub_int q
def EN:jW X (binaryOp .Mult) (rI GF λi j=>.int (i*j)):=cD λ_ _ _ _ _ _ _ d q=>mul_int q d.ok
def dr:jW X (binaryOp .FloorDiv) (rI bq λi j=>.int (i/j)):=cD λi j _ _ _ _ _ d q=>by
 have e:=d.1;have f:=d.2;exact floordiv_int (by lia) (by rw[Int.fdiv_eq_ediv_of_nonneg i (by lia)];exact q) (.inl (PyProof.noPylong_small (by lia)))
def EO:jW X (binaryOp .Mod) (rI (λ_ j=>0<j) λi j=>.int (i%j)):=cD λi j _ _ _ _ _ d q=>by
 exact mod_int' (by lia) (by rw[Int.fmod_eq_emod_of_nonneg i (by lia)];exact q)
def EQ:jW X (binaryOp .Pow) (rI br λi j=>.int (i^j.toNat)):=cD λ_ _ _ _ _ _ _ d q=>pow_int_small d.1 d.2.1 d.2.2 q
def cH{g:Int->Int}
  (rule:∀(i ) (t ) (s ) (Q ) (E ),Q (.int (g i) s.toks) {s with toks:=s.toks+1}->wpAny (model X.prog X.w) X.A (f (.int i t)) Q E s):
  EJ X f (rU λi=>.int (g i)):=by
 intro d s j H x v Q I e h;obtain⟨i,rfl,q⟩:=h;obtain⟨t,rfl⟩:=e;exact rule i t s _ _ #[.int _,H,I.tok _,#[_,rfl],q]
def ER:EJ X (unaryOp .USub) (rU λi=>.int (-i)):=cH λ_ _ _ _ _ q=>neg_int q
end
noncomputable def ES:V->V->Bool
 |.non,.non=>B|.non,.int _=>B|.int _,.non=>B|.non,.bl _=>B|.bl _,.non=>B|.non,.str _=>B|.str _,.non=>B
 |.int _,.int _=>B|.bl _,.bl _=>B|.str _,.str _=>B|.byt _,.byt _=>B
 |.int _,.str _=>B|.str _,.int _=>B|.bl _,.str _=>B|.str _,.bl _=>B
 |_,_=>G
noncomputable def ET:R2:=λx y H Q=>ES x y=B/\Q (.bl (decide (x=y))) H
noncomputable def EU:R2:=λx y H Q=>ES x y=B/\Q (.bl (!decide (x=y))) H
def ue:decide (V.int i=V.int j)=(i==j):=by
 rw[Bool.eq_iff_iff];simp
def UL:decide (V.bl i=V.bl j)=(i==j):=by
 rw[Bool.eq_iff_iff];simp
def uf:decide (V.str i=V.str j)=(i==j):=by
 rw[Bool.eq_iff_iff];simp
def QA:decide (V.byt i=V.byt j)=(i.toList==j.toList):=by
 rw[Bool.eq_iff_iff];cases i;cases j;simp
section
variable{X:Cx}{a b c:Expr}{ta tb tc:TE}{pos:Pos}
def jH(I:Inv X d g H s)(q:Q (.bl k) H)(e:k=f):EP X d g Q (.bool f) s:=by
 subst e;exact#[.bl k,H,I,rfl,q]
def xL:jW X (compareOp .Eq) ET:=by
 intro k s l H x y v u Q I g d h;obtain⟨f,q⟩:=h;cases x with
 |non=>
  cases g;cases y with
  |non=>subst d;exact PySem.EqNone.eq_none_none (jH I q rfl)
  |bl j=>subst d;exact PySem.EqNone.eq_none_bool (jH I q rfl)
  |int j=>obtain⟨e,rfl⟩:=d;exact PySem.EqNone.eq_none_int (jH I q rfl)
  |str j=>obtain⟨e,rfl⟩:=d;exact PySem.EqNone.eq_none_str (jH I q rfl)
  |_=>exact vDa (show G=B from f) vNa
 |bl i=>
  subst g;cases y with
  |non=>subst d;exact PySem.EqNone.eq_bool_none (jH I q rfl)
  |bl j=>subst d;exact eq_bool (jH I q UL)
  |str j=>obtain⟨e,rfl⟩:=d;exact PySem.EqMixed.eq_bool_str (jH I q rfl)
  |_=>exact vDa (show G=B from f) vNa
 |int i=>
  obtain⟨t,rfl⟩:=g;cases y with
  |non=>subst d;exact PySem.EqNone.eq_int_none (jH I q rfl)
  |int j=>obtain⟨e,rfl⟩:=d;exact eq_int (jH I q ue)
  |str j=>obtain⟨e,rfl⟩:=d;exact PySem.EqMixed.eq_int_str (jH I q rfl)
  |_=>exact vDa (show G=B from f) vNa
 |str i=>
  obtain⟨t,rfl⟩:=g;cases y with
  |non=>subst d;exact PySem.EqNone.eq_str_none (jH I q rfl)
  |bl j=>subst d;exact PySem.EqMixed.eq_str_bool (jH I q rfl)
  |int j=>obtain⟨e,rfl⟩:=d;exact PySem.EqMixed.eq_str_int (jH I q rfl)
  |str j=>obtain⟨e,rfl⟩:=d;exact eq_str (jH I q uf)
  |_=>exact vDa (show G=B from f) vNa
 |byt i=>
  obtain⟨t,rfl⟩:=g;cases y with
  |byt j=>obtain⟨e,rfl⟩:=d;exact PySem.W.eq_bytes (jH I q QA)
  |_=>exact vDa (show G=B from f) vNa
 |_=>cases y<;>exact vDa (show G=B from f) vNa
def IO:jW X (compareOp .NotEq) EU:=by
 intro k s l H x y v u Q I g d h;obtain⟨f,q⟩:=h;cases x with
 |non=>
  cases g;cases y with
  |non=>subst d;exact PySem.EqNone.ne_none_none (jH I q rfl)
  |bl j=>subst d;exact PySem.EqNone.ne_none_bool (jH I q rfl)
  |int j=>obtain⟨e,rfl⟩:=d;exact PySem.EqNone.ne_none_int (jH I q rfl)
  |str j=>obtain⟨e,rfl⟩:=d;exact PySem.EqNone.ne_none_str (jH I q rfl)
  |_=>exact vDa (show G=B from f) vNa
 |bl i=>
  subst g;cases y with
  |non=>subst d;exact PySem.EqNone.ne_bool_none (jH I q rfl)
  |bl j=>subst d;exact ne_bool (jH I q (congrArg _ UL))
  |str j=>obtain⟨e,rfl⟩:=d;exact PySem.EqMixed.ne_bool_str (jH I q rfl)
  |_=>exact vDa (show G=B from f) vNa
 |int i=>
  obtain⟨t,rfl⟩:=g;cases y with
  |non=>subst d;exact PySem.EqNone.ne_int_none (jH I q rfl)
  |int j=>obtain⟨e,rfl⟩:=d;exact ne_int (jH I q (congrArg _ ue))
  |str j=>obtain⟨e,rfl⟩:=d;exact PySem.EqMixed.ne_int_str (jH I q rfl)
  |_=>exact vDa (show G=B from f) vNa
 |str i=>
  obtain⟨t,rfl⟩:=g;cases y with
  |non=>subst d;exact PySem.EqNone.ne_str_none (jH I q rfl)
  |bl j=>subst d;exact PySem.EqMixed.ne_str_bool (jH I q rfl)
  |int j=>obtain⟨e,rfl⟩:=d;exact PySem.EqMixed.ne_str_int (jH I q rfl)
  |str j=>obtain⟨e,rfl⟩:=d;exact ne_str (jH I q (congrArg _ uf))
  |_=>exact vDa (show G=B from f) vNa
 |byt i=>
  obtain⟨t,rfl⟩:=g;cases y with
  |byt j=>obtain⟨e,rfl⟩:=d;exact PySem.W.ne_bytes (jH I q (congrArg _ QA))
  |_=>exact vDa (show G=B from f) vNa
 |_=>cases y<;>exact vDa (show G=B from f) vNa
def IP:jW X (compareOp .Lt) (vk λi j=>.bl (decide (i<j))):=xK λ_ _ _ _ _ _ _ q=>lt_int q
def IQ:jW X (compareOp .LtE) (vk λi j=>.bl (decide (i<=j))):=xK λ_ _ _ _ _ _ _ q=>le_int q
def IR:jW X (compareOp .Gt) (vk λi j=>.bl (decide (j<i))):=xK λ_ _ _ _ _ _ _ q=>gt_int q
def IS:jW X (compareOp .GtE) (vk λi j=>.bl (decide (j<=i))):=xK λ_ _ _ _ _ _ _ q=>ge_int q
def aw:jW X (compareOp .In) (λx y H Q=>∃i j,x=.str i/\y=.str j/\Q (.bl (!(Builtin.Str.occurrences j i 0 j.length 1).isEmpty)) H):=by
 intro d s g H x y v u Q I f e h;obtain⟨i,j,rfl,rfl,q⟩:=h;obtain⟨t,rfl⟩:=f;obtain⟨k,rfl⟩:=e;exact in_str (jH I q rfl)
def EV:jW X (compareOp .Is) (λx y H Q=>y=.non/\Q (.bl (decide (x=.non))) H):=by
 intro d s g H x y v u Q I e f h;obtain⟨rfl,q⟩:=h;subst f;refine is_none_gen (jH I q ?_);cases x<;>first
  |(exact Zn e;rfl)
  |(obtain⟨t,rfl⟩:=e;rfl)
def du:jW X (compareOp .IsNot) (λx y H Q=>y=.non/\Q (.bl (!decide (x=.non))) H):=by
 intro d s g H x y v u Q I e f h;obtain⟨rfl,q⟩:=h;subst f;refine isnot_none_gen (jH I q ?_);cases x<;>first
  |(exact Zn e;rfl)
  |(obtain⟨t,rfl⟩:=e;rfl)
def jW.or(h:jW X f r)(k:jW X f j):jW X f (λx y H Q=>r x y H Q\/j x y H Q):=by
 intro i s g H x y v u Q I e d q;rcases q with q|q
 ·exact h _ s g H x y v u Q I e d q
 ·exact k _ s g H x y v u Q I e d q
def dv(g:jW X (compareOp e) r)(j:PE X a ta)(o:PE X b tb)(p:behindInMarks e b=G):PE X (.Compare a [e] [b] pos) (Qz r ta tb):=by
 intro d s k H Q I h;exact wpAny_Compare1 (bp j o I h λv u m x y n i l f q=>g _ m k n x y v u Q i l f q) p
noncomputable def cJ(t:TE):TT:=λd H Q=>t d H λx e=>∃k,x=.bl k/\Q k e
def QB(j:jW X (compareOp f) r)(p:PE X a ta)(A:PE X b tb)(C:behindInMarks f b=G):PT X (.Compare a [f] [b] pos) (cJ (Qz r ta tb)):=by
 intro g s d H Q I h;refine wpAny_isTrue_Compare1 (jv (p _ s d H _ I h) λv o ⟨x,l,w,F,m⟩=>jv (A _ o d l _ w m) λu O ⟨y,T,R,N,t⟩=>
  jv (j _ O d T x y v u _ R F N t) λc W ⟨z,n,M,i,k,e,P⟩=>?_) C
 subst e;subst i;exact wpAny_truthy_bool #[n,M,P]
noncomputable def Wo(r i:R2)(ta tb tc:TE):TE:=λd H Q=>ta d H λx g=>tb d g λy j=>r x y j λz e=>∃k,z=.bl k/\
 (if k=B then tc d e λf h=>i y f h Q else Q (.bl G) e)
theorem bt(ho:jW X (compareOp o) r)(i:jW X (compareOp g) r')(C:PE X a ta)(O:PE X b tb)(A:PE X c tc)
  (P:lastMarks [o,g] [b,c]=G:=by with_unfolding_all rfl):PE X (.Compare a [o,g] [b,c] pos) (Wo r r' ta tb tc):=by
 intro p s f H Q I h;refine Compare_chain (jv (C _ s f H _ I h) λv s1 ⟨x,H1,I1,r1,q1⟩=>chain_link (jv (O _ s1 f H1 _ I1 q1) λu s2 ⟨y,H2,F,l,M⟩=>
  jv (ho _ s2 f H2 x y v u _ F r1 l M) λd N ⟨z,j,n,t,k,e,m⟩=>?_)) P
 subst e;subst t;refine wpAny_truthy_bool ?_;cases k with
 |false=>exact ite_ff #[.bl _,j,n,rfl,m]
 |true=>exact ite_tt (chain_last (jv (A _ N f j _ n m) λw' w ⟨z',Z,T,R,W⟩=>i _ w f Z y z' u w' Q T l R W))
theorem bu(ho:jW X (compareOp o) r)(i:jW X (compareOp g) r')(P:PE X a ta)(Z:PE X b tb)(N:PE X c tc)
  (hm:lastMarks [o,g] [b,c]=G:=by with_unfolding_all rfl):PT X (.Compare a [o,g] [b,c] pos) (cJ (Wo r r' ta tb tc)):=by
 intro p s f H Q I h;refine isTrue_chain (jv (P _ s f H _ I h) λv F ⟨x,H1,I1,r1,C⟩=>test_link (jv (Z _ F f H1 _ I1 C) λu s2 ⟨y,H2,R,j,T⟩=>
  jv (ho _ s2 f H2 x y v u _ R r1 j T) λd W ⟨z,l,n,t,k,e,m⟩=>?_)) hm
 subst e;subst t;refine wpAny_truthy_bool ?_;cases k with
 |false=>
  obtain⟨k',e',q'⟩:=m;cases e';exact ite_ff #[l,n,q']
 |true=>
  refine ite_tt (test_last (jv (N _ W f l _ n m) λw' M ⟨z',H4,I4,r4,w⟩=>jv (i _ M f H4 y z' u w' _ I4 j r4 w) λd' s5 xx=>?_));obtain⟨z2,H5,O,r5,k2,A,q5⟩:=xx;subst A;subst r5;exact wpAny_truthy_bool #[H5,O,q5]
noncomputable def bv(K:uXa)(x:V)(H:Hp)(k:Bool):Prop:=
 match x with
 |.non=>k=G
 |.bl b=>k=b
 |.int i=>k=(i != 0)
 |.str y=>y.length<=sizeLine/\k=((y.length:Int) != 0)
 |.byt y=>y.size<=sizeLine/\k=((y.size:Int) != 0)
 |.ref p=>(∃e,jY K H p e/\k=!e.isEmpty)\/(∃e,yg K H p e/\k=!e.isEmpty)\/∃d f,H p=S (.dK d f)/\k=!d.isEmpty
 |_=>False
def xM(r:KV d e):(!e.isEmpty)=!d.isEmpty:=by
 cases r<;>rfl
def kx(r:jl e d):(!d.toArray.isEmpty)=!e.isEmpty:=by
 cases r<;>simp
def ug:sizeLine<2^63:=by decide
def EW:M8 X (λx H Q=>∃k,bv X.K x H k/\Q k H):=by
 intro A s P H x v Q I g h;obtain⟨k,e,q⟩:=h;have R:=sizeLine_eq;cases x with
 |non=>
  subst g;have d:k=G:=e;subst d;exact truthy_none #[H,I,q]
 |bl b=>
  subst g;have d:k=b:=e;subst d;exact wpAny_truthy_bool #[H,I,q]
 |int i=>
  obtain⟨t,rfl⟩:=g;have d:k=(i != 0):=e;subst d;exact PySem.P.truthy_int #[H,I,q]
 |str y=>
  obtain⟨t,rfl⟩:=g;obtain⟨F,d⟩:y.length<=sizeLine/\k=((y.length:Int) != 0):=e;subst d;exact PySem.P.truthy_str (by lia) #[H,I.tok _,q]
 |byt y=>
  obtain⟨t,rfl⟩:=g;obtain⟨F,d⟩:y.size<=sizeLine/\k=((y.size:Int) != 0):=e;subst d;exact PySem.W.truthy_bytes (by lia) #[H,I.tok _,q]
 |ref p=>
  subst g;have d:=e;rcases d with⟨C,j,d⟩|⟨C,j,d⟩|⟨n,z,j,d⟩
  ·subst d;obtain⟨l,r,u,w⟩:=I.list j;have f:=r.length;exact wpAny_truthy_list u.isList (by simp only[List.size_toArray];lia) #[H,I.tok _,by rw[kx r];exact q]
  ·subst d;obtain⟨l,r,u,w⟩:=I.tuple j;have f:=r.length;exact truthy_tuple u (by simp only[List.size_toArray];lia) #[H,I.tok _,by rw[kx r];exact q]
  ·subst d;obtain⟨w,N,M,r,o,O,m⟩:=(show Jh X.prog X.w H s.heap p (.dK n z) from I.hok p _ j)
   have m:s.heap.DictOf _ p M:=#[o,O,z,m]
   have f:=Paired.length r;exact wpAny_truthy_dict N m (by lia) #[H,I.tok _,by rw[xM r];exact q]
 |_=>exact(show False from e).elim
def bw(n:PE X a ta)(m:∀d,isTrue a X.env d=(do let v<-d;standAt a.pos;holding [v] (truthy v))):
  PT X a (λe H Q=>ta e H λx f=>∃k,bv X.K x f k/\Q k f):=by
 intro g s e H Q I h;exact isTrue_plain (jv (n _ s e H _ I h) λv i ⟨x,p,o,j,l⟩=>EW _ i e p x v Q o j l) (m _)
def xN:jW X (binaryOp .Add) (λx y H Q=>∃i j,x=.str i/\y=.str j/\i.length+j.length<=sizeLine/\Q (.str (i++j)) H):=by
 intro d s l H x y v u Q I g e h;obtain⟨i,j,rfl,rfl,f,q⟩:=h;obtain⟨t,rfl⟩:=g;obtain⟨k,rfl⟩:=e;exact add_str (λk m=>#[.str _,H,I.tok _,#[_,rfl],q]) f
def W0(r:jl [x] f):∃u,f=[u]/\jp x u:=by
 cases r with
 |cons d e=>cases e;exact#[_,rfl,d]
def IT(r:jl [x,y] f):∃u d,f=[u,d]/\jp x u/\jp y d:=by
 cases r with
 |cons g e=>
  cases e with
  |cons i h=>cases h;exact#[_,_,rfl,g,i]
def ax(g:X.calm=B):YV X (.builtin "max") (λe H Q=>∃i j,e=[.int i,.int j]/\Q (.int (if j > i then j else i)) H):=by
 intro f s p H e o Q I r h;obtain⟨i,j,rfl,q⟩:=h;obtain⟨u,m,rfl,⟨t,rfl⟩,⟨n,rfl⟩⟩:=IT r;refine max_two_ints (I.ok.hd g) λv l k=>#[_,H,I.kept k,?_,q]
 by_cases d:j > i
 ·rw[if_pos d,if_pos d];exact#[_,rfl]
 ·rw[if_neg d,if_neg d];exact#[_,rfl]
end
structure ObjM (h:Heap) (x dx C ) (mA ) where
 obj:h.get? x=S (PySem.W.instObj C dx)
 ns:h.Ns1 dx mA
 ne:dx≠x
set_option tactic.hygienic true in
theorem wd{h:Heap}(n:h.Ns1 m r):∃d,h.get? m=S d/\∀b,PySem.W.lookIn b d=S (r b):=by
 obtain⟨o,f,s,k,p,i,_,g⟩:=n;refine#[o,k,λb=>?_];have e:=g b;unfold nsFind findBy at e;rw[<-Array.find?_toList]at e;unfold PySem.W.lookIn;rw[p];dsimp only;split
 ·simp_all
 ·rename_i q;rw[q]at e;have a:f.toList.any (·.refKey)=G:=by
   rw[List.any_eq_false];intro y l;obtain⟨z,t,c⟩:=i y (Array.mem_toList_iff.mp l);simp[DictEntry.refKey,c]
  have j:¬f.toList.any (·.refKey)=B:=by rw[a];exact vNa
  rw[if_neg j];exact congrArg _ e
def ObjM.look{x c C}{d}(I:ObjM h x c C d):∃b,PySem.W.InstAt h x (PySem.W.instObj C c) C (S b)/\∀a,PySem.W.lookIn a b=S (d a):=
 let⟨b,e,f⟩:=wd I.ns
 #[b,#[I.obj,rfl,rfl,e],f]
section
variable{prog:Program}{w:World}{A:Around}{E:Tz}{s:Shared}{K:uXa}{x dx C f:Addr}{mA:Tj}{name:Str}{v:Value}
def dw{Q}(X:K.In s.heap)(I:ObjM s.heap x dx C mA)(i:PySem.W.plainGet K C name=B)(e:PySem.W.hasDictIn K C=B)
  (c:PySem.W.findIn K (.ref C) name=S J) (d:mA name=S v) (a:PySem.W.handedIn v=B) (h:Q v {s with toks:=s.toks+1}):
  wpAny (model prog w) A (getAttr (.ref x) name b) Q E s:=by
 obtain⟨j,J00,g⟩:=I.look;exact PySem.W.get_value X J00 (PySem.W.plainGet_of i).1 (PySem.W.findObj_own e c rfl (by rw[g,d])) a h
def bx{Q}(X:K.In s.heap)(I:ObjM s.heap x dx C mA)(a:PySem.W.plainGet K C name=B)
  (g:PySem.W.findIn K (.ref C) name=S (S (.ref f))) (c:PySem.W.isFn K (.ref f)=B) (b:mA name=J) (h:Q (.ref f,[.ref x]) s):
  wpAny (model prog w) A (getMethod (.ref x) name i) Q E s:=by
 obtain⟨e,J00,d⟩:=I.look;exact PySem.W.method_fn X J00 (PySem.W.plainGet_of a).1 (PySem.W.plainGet_of a).2 g (beq_iff_eq.mp c) (by show(PySem.W.lookIn _ e).map _=S _;rw[d,b];rfl) h
def dz{Q}(X:K.In s.heap)(I:ObjM s.heap x dx C mA)
  (u:PySem.W.findIn K (.ref C) "__setattr__" = S (S (.builtin "object.__setattr__"))) (F:PySem.W.plainOver K C=B) (k:PySem.W.takerIn K C name=S J) (r:PySem.W.hasDictIn K C=B)
  (z:PySem.Within mA p) (t:p.length<=sizeLine)
  (h:∀d,ObjM d x dx C (λy=>if y=name then S v else mA y)->Heap.SameBut dx s.heap d->Q () {s with heap:=d,toks:=s.toks+2}):
  wpAny (model prog w) A (setAttr (.ref x) name v) Q E s:=by
 obtain⟨H,J00,N⟩:=I.look;refine PySem.W.set_plain X J00 u (PySem.W.osa_open X J00 F k λb=>?_);obtain⟨M,l,j⟩:=PySem.W.any_some r;have m:=I.obj;refine wAa (wBa (wAa (wAa (wpAny_loadPart m (wAa (PySem.W.Looks.here (PySem.W.looks_clsIn X l) ?_))))));rw[j];refine wBa (wAa (wBa (wAa ?_)));refine wpAny_nsSet1 I.ns λd c a=>?_;obtain⟨O,o,n,g,i,e⟩:=c.count (PySem.Within.cons _ v z);refine wAa (wpAny_lookBehind g (by rw[i];exact pastItsLine_dict (wSa e (by simp_all))) ?_);exact wBa (h _ #[(a.2 _ (Ne.symm I.ne)).trans I.obj,c,I.ne] a)
def bz{b}{a}(X:K.In s.heap)(e:PySem.W.makesIn K C=B)
  (j:PySem.W.findIn K (.ref C) "__init__" = S (S (.ref f))) (i:PySem.W.typeIn K (.ref f)=S (.type "function"))
  (h:codeAny (model prog w) (A.under (.builtin "type.__call__" #[.ref C::b,a])) (.call (.ref f) #[.ref (s.heap.objs.size+1)::b,a]) (PySem.W.InitBack (s.heap.objs.size+1) R)
   {s with heap:=(s.heap.push PySem.W.emptyDict).push (PySem.W.instObj C s.heap.objs.size)}):
  codeAny (model prog w) A (.call (.ref C) #[b,a]) R s:=by
 obtain⟨k,g,d,t,os⟩:=s;exact PySem.W.make_core (PySem.W.makes_of X e) (PySem.W.looks_findIn X j) (λc=>PySem.W.bind_fn X _ i) (.inl rfl) h
end
noncomputable def JT(f:Str)(v:V):L (Str×V)->L (Str×V)
 |[]=>[(f,v)]
 |(g,x)::r=>if g=f then(g,v)::r else(g,x)::JT f v r
theorem Gs(f g )(v ):∀c ,(JT f v c).lookup g=if g=f then S v else c.lookup g
 |[]=>by
  show List.lookup g [(f,v)]=_;by_cases h:g=f
  ·simp_all
  ·have a:=beq_eq_false_iff_ne.mpr h;simp only[List.lookup,a,if_neg h]
 |(k,x)::r=>by
  have d:=Gs f g v r;rw[show JT f v _=(if k=f then(k,v)::r else(k,x)::JT f v r) from rfl];by_cases b:k=f
  ·rw[if_pos b];by_cases h:g=k
   ·simp_all
   ·have a:=beq_eq_false_iff_ne.mpr h;simp only[List.lookup,a,if_neg (λe:g=f=>h (e.trans b.symm))]
  ·rw[if_neg b];by_cases h:g=k
   ·simp_all
   ·have a:=beq_eq_false_iff_ne.mpr h;simp only[List.lookup,a];exact d
theorem UM(f )(v ):∀a ,f∈(JT f v a).map (·.1)/\∀g,g∈a.map (·.1)->g∈(JT f v a).map (·.1)
 |[]=>#[by simp[JT],λg h=>by simp at h]
 |(k,x)::r=>by
  obtain⟨d,c⟩:=UM f v r;rw[show JT f v _=(if k=f then(k,v)::r else(k,x)::JT f v r) from rfl];by_cases b:k=f
  ·subst b;exact#[by simp,λg h=>by simpa using h]
  ·rw[if_neg b];refine#[?_,λg h=>?_]
   ·exact wMa _ d
   ·rcases uTa h with e|e
    ·exact List.mem_cons.mpr (.inl e)
    ·exact wMa _ (c g e)
theorem Gv(f )(v ):∀a ,(JT f v a).length<=a.length+1
 |[]=>by simp[JT]
 |(k,x)::r=>by
  have c:=Gv f v r;rw[show JT f v _=(if k=f then(k,v)::r else(k,x)::JT f v r) from rfl];by_cases b:k=f
  ·simp_all
  ·simp_all
def uM.some_of(r:uM (S v) o):∃u,o=S u/\jp v u:=by
 cases o with
 |none=>exact(show False from r).elim
 |some u=>exact#[u,rfl,r]
def uM.none_of(r:uM J o):o=J:=by
 cases o with
 |none=>rfl
 |some u=>exact(show False from r).elim
def wf(r:jp v u):PySem.W.handedIn u=B:=by
 cases v with
 |non=>cases(show u=Value.none from r);rfl
 |bl b=>cases(show u=Value.bool b from r);rfl
 |int i=>obtain⟨t,e⟩:=(show∃t,u=Value.int i t from r);subst e;rfl
 |str x=>obtain⟨t,e⟩:=(show∃t,u=Value.str x t from r);subst e;rfl
 |byt b=>obtain⟨t,e⟩:=(show∃t,u=Value.bytes b t from r);subst e;rfl
 |flt b=>obtain⟨t,e⟩:=(show∃t,u=Value.float b t from r);subst e;rfl
 |ref a=>cases(show u=Value.ref a from r);rfl
 |ty n=>cases(show u=Value.type n from r);rfl
def Kg(g:JS P w H h)(e:H a=S (.ins C i c)):∃b,ObjM h a i C b/\(∀f,uM (c.lookup f) (b f))/\PySem.Within b (c.map (·.1))/\c.length<=1000/\H i=S (.own a):=by
 obtain⟨d,z,k,j,b,n,r,q⟩:=(show Jh P w H h a _ from g a _ e)
 exact#[b,#[j,n,k],r,q,z,d]
structure Cls (K ) (C ) where
 pg:PySem.W.plainGet K C Str.empty=B
 hd:PySem.W.hasDictIn K C=B
 po:PySem.W.plainOver K C=B
 sa:PySem.W.findIn K (.ref C) "__setattr__" = S (S (.builtin "object.__setattr__"))
def Cls.get{K}{C}(c:Cls K C)(f ):PySem.W.plainGet K C f=B:=c.pg
noncomputable def yh(K:uXa)(C )(f ):=PySem.W.findIn K (.ref C) f=S J
def yh.taker{K}{C}{f}(n:yh K C f):PySem.W.takerIn K C f=S J:=by
 unfold PySem.W.takerIn;rw[show PySem.W.findIn K _ f=S _ from n];rfl
structure Meth (K ) (C ) (m ) (f ) where
 at_:PySem.W.findIn K (.ref C) m=S (S (.ref f))
 fn:PySem.W.isFn K (.ref f)=B
 kp:PySem.W.keepIn K (.ref f)=B
def xO(I:Inv X d m H s)(e:H a=S (.ins C p k))(c:Cls X.K C)(n:yh X.K C f)(l:k.lookup f=S v)
  (h:∀u i,Inv X d m H i->jp v u->Q u i):wpAny (model X.prog X.w) A (getAttr (.ref a) f b) Q E s:=by
 obtain⟨o,O,r,_,_,_⟩:=Kg I.hok e;obtain⟨u,j,g⟩:=uM.some_of (by rw[<-l];exact r f);exact dw I.kIn O (c.get f) c.hd n j (wf g) (h u _ (I.tok _) g)
def kz(I:Inv X b n H s)(e:H a=S (.ins C o f))(c:Cls X.K C)(k:Meth X.K C m g)(l:f.lookup m=J)
  (h:Q (.ref g,[.ref a]) s):wpAny (model X.prog X.w) A (getMethod (.ref a) m j) Q E s:=by
 obtain⟨i,O,r,_,_,_⟩:=Kg I.hok e;have d:=uM.none_of (by rw[<-l];exact r m);exact bx I.kIn O (c.get m) k.at_ k.fn d h
def xP(I:Inv X i t H s)(e:H a=S (.ins C l d))(c:Cls X.K C)(n:yh X.K C f)(W:d.length<1000)(P:jp y u)
  (h:∀p,Inv X i t (upd H a (.ins C l (JT f y d))) p->Q () p):wpAny (model X.prog X.w) A (setAttr (.ref a) f u) Q E s:=by
 obtain⟨w,O,r,k,_,m⟩:=Kg I.hok e;have F:(d.map (·.1)).length<=sizeLine:=by rw[vYa,sizeLine_eq];lia
 refine dz I.kIn O c.sa c.po n.taker c.hd k F λM j x=>h _ ?_;have R:∃o,M.get? l=S o:=let⟨o,_,_,T,_⟩:=j.ns;#[o,T]
 refine I.write (by rw[e];exact True.intro) (.inr m) (λb q v z=>(x.2 b v).trans z) R ?_;refine#[by rw[ja O.ne];exact m,?_,O.ne,j.obj,_,j.ns,λg=>?_,λg N=>?_]
 ·have:=Gv f y d;lia
 ·rw[Gs];by_cases q:g=f
  ·rw[if_pos q,if_pos q];exact P
  ·simp_all
 ·by_cases q:g=f
  ·rw[q];exact(UM f y d).1
  ·refine(UM f y d).2 g (k g λz=>N ?_);show(if g=f then S u else w g)=J;rw[if_neg q];exact z
def Inv.made(I:Inv X a k H s):Inv X a k (upd (upd H s.heap.objs.size (.own (s.heap.objs.size+1))) (s.heap.objs.size+1) (.ins C s.heap.objs.size []))
  {s with heap:=(s.heap.push PySem.W.emptyDict).push (PySem.W.instObj C s.heap.objs.size)}:=by
 have c:(s.heap.push PySem.W.emptyDict).get? _=S _:=wJa _ rfl;have h:((s.heap.push PySem.W.emptyDict).push (PySem.W.instObj C s.heap.objs.size)).get? (s.heap.objs.size+1)=S (PySem.W.instObj C s.heap.objs.size):=by
  have:=wJa (s.heap.push PySem.W.emptyDict) (o:=PySem.W.instObj C s.heap.objs.size) rfl;rwa [Heap.size_push]at this
 have i:(s.heap.push _).Ns _ (λ_=>J):=#[_,_,_,c,rfl,(λe j=>vDa j (by simp)),λ_=>rfl]
 have f:=I.laid (o:=.own (s.heap.objs.size+1)) (t':=s.toks) (λb u q=>wIa _ q) (wPa _) #[_,c];refine f.laid (λb u q=>wIa _ q) (Nat.le_of_eq (Heap.size_push _ _)) ?_;have d:s.heap.objs.size≠s.heap.objs.size+1:=wTa (Nat.lt_succ_self _);refine#[by rw[ja d,jj],Nat.zero_le _,d,h,λ_=>J,(Heap.Ns1.of_empty i).at λo q=>wIa _ q,λ_=>True.intro,λy g=>vDa rfl g]
def Yl(g:attributeBase e f a (eval e a)=eval e a)
  (h:wpAny (model b w) A (eval e a) (λo c=>wpAny (model b w) A (getAttr o f B) Q E c) E s):wpAny (model b w) A (eval (.Attribute e f d) a) Q E s:=
 Attribute_any_ h (by rw[arm_eval_Attribute,g])
noncomputable def EX(K:uXa)(g:TE)(f:Str):TE:=λe H Q=>g e H λx c=>∃a C d b v,x=.ref a/\c a=S (.ins C d b)/\Cls K C/\yh K C f/\b.lookup f=S v/\Q v c
noncomputable def xQ(K:uXa)(h g:TE)(f:Str):TS:=λD b H=>g b H λy i=>h b i λx d=>∃a C e c,x=.ref a/\d a=S (.ins C e c)/\Cls K C/\yh K C f/\c.length<1000/\
 D.nx b (upd d a (.ins C e (JT f y c)))
def ay(t:PE X e p)(z:attributeBase e f X.env (eval e X.env)=eval e X.env):PE X (.Attribute e f m) (EX X.K p f):=by
 intro b s y H Q I h;refine Yl z (jv (t _ s y H _ I h) λu A o=>?_);obtain⟨x,r,k,w,a,C,M,F,v,g,j,c,n,l,q⟩:=o;subst g;obtain rfl:u=Value.ref a:=w;exact xO k j c n l λN O i d=>#[v,r,i,d,q]
def Wp(v:PE X o p)(t:PE X b R)(r:swapsWith b (S (.Attribute o f d)) g.line X.env=pure G):PS X (.Assign [.Attribute o f d] b g) (xQ X.K p R f):=by
 intro i s e H D I h;refine plainObj_wpAny_Assign_Attribute (jv (t _ s e H _ I h) λu Q ⟨y,m,P,F,q⟩=>jv (v _ Q e m _ P q) λA W N=>?_) r;obtain⟨x,T,k,j,a,C,Z,fs,M,w,c,n,l,z⟩:=N;subst M;obtain rfl:A=Value.ref a:=j;exact xP k w c n l F λs3 O=>#[e,_,O,z]
structure Room (k ) (A:Around) where
 hd:A.handled=J
 dp:A.depth+3*k+5<recursionLimit
 un:A.units+16*k+200<cLine
def Room.mono(r:Room k A)(h:j<=k):Room j A:=#[r.hd,by have:=r.dp;lia,by have:=r.un;lia]
def Room.deeper{A}(r:Room (k+1) A)(a ):Room k (A.deeper a):=
 #[r.hd,by have:=r.dp;show A.depth+1+3*k+5<_;lia,by have:=r.un;show A.units+3+16*k+200<_;lia]
def xR{A:Around}:(A.under (.builtin "type.__call__" #[.ref C::a,b])).depth=A.depth+1:=by
 first|rfl|simp[guardIds]
def xS{A:Around}:(A.under (.builtin "type.__call__" #[.ref C::a,b])).units=A.units+1:=rfl
def Room.make(r:Room (k+1) A)(C )(a )(b ):Room k (A.under (.builtin "type.__call__" #[.ref C::a,b])):=
 #[r.hd,by have:=r.dp;rw[xR];lia,by have:=r.un;rw[xS];lia]
def Room.depth(r:Room k A):A.depth<recursionLimit:=by have:=r.dp;lia
def Room.units(r:Room k A):A.units+64<cLine:=by have:=r.un;lia
noncomputable def UN:TA:=λ_ H Q=>Q [] H
noncomputable def ZD(f:TE)(e:TA):TA:=λa H Q=>f a H λx c=>e a c λd b=>Q (x::d) b
section
variable{X:Cx}{e:Expr}{es:L Expr}{te:TE}{t:TA}{pos:Pos}
def Yc:PA X [] UN:=λ_ _ _ _ H Q I h=>Calls.spliced_nil #[[],H,I,.nil,h]
def Jx(o:PE X e te)(m:PA X es t)(j:starEach (e::es) X.env=(G,eval e X.env)::starEach es X.env:=by rfl):PA X (e::es) (ZD te t):=by
 intro pos a s b H Q I h;rw[j];show wpAny _ _ (spliced ((G,eval e _)::backTo _ _)) _ _ s;refine Calls.spliced_cons (jv (o _ s b H _ I h) λu n k=>?_);obtain⟨x,l,g,f,i⟩:=k;exact jv (m _ _ n b l _ g i) λy v ⟨w,r,d,p,c⟩=>#[_,r,d,.cons f p,c]
noncomputable def M9(t:TA):TE:=λc H Q=>t c H λa b=>a.length<=sizeLine/\∀p,b p=J->Q (.ref p) (upd b p (.tup a))
noncomputable def Ma(t:TA):TE:=λc H Q=>t c H λa b=>a.length<=sizeLine/\∀p,b p=J->Q (.ref p) (upd b p (.lst a))
def EY(h:PA X es t):PE X (.Tuple es j pos) (M9 t):=by
 intro a s g H Q I i;refine wpAny_Tuple_spliced (jv (h _ _ s g H _ I i) λd m ⟨k,l,c,r,z,q⟩=>#[by rw[<-r.length];exact z,?_]);have f:=c.hok.fresh (wPa _);refine#[.ref _,_,c.laid (λb u e=>wIa _ e) (wPa _) ?_,rfl,q _ f];exact#[z,d,r,#[_,wJa _ rfl,rfl,_,rfl]]
def EZ(h:PA X es t):PE X (.List es pos) (Ma t):=by
 intro c s i H Q I d;refine wpAny_List_spliced (jv (h _ _ s i H _ I d) λf j ⟨l,k,a,r,z,q⟩=>#[by rw[<-r.length];exact z,?_]);have g:=a.hok.fresh (wPa _);refine#[.ref _,_,a.laid (λb u e=>wIa _ e) (wPa _) ?_,rfl,q _ g];exact#[z,f,0,r,wJa _ rfl]
end
noncomputable abbrev Sp:=L V->Hp->VK->XK->Prop
noncomputable abbrev Wq:=L Env->Hp->Shared->XK->Value->Shared->Prop
structure Env0 (P ) (w ) (K ) (mg ) (base ) (A:Around) (outer ) (s:Shared) (H:Hp) where
 frames:A.frames=S outer
 mod:Mod K mg base
 bs:∀b o,base.get? b=S o->s.heap.get? b=S o/\H b=J
 bsz:base.objs.size<=s.heap.objs.size
 funs:s.heap.FunFrames base outer
 frf:∀b∈JQ outer,H b=J
 hok:JS P w H s.heap
 bare:AllBare s.gens
noncomputable def CE(a:L _)(P:Program)(w:World)(H )(s:Shared)(Q:VK)(u:Value)(b:Shared):=
 ∃v c,b.os=s.os/\AllBare b.gens/\Un (JQ a) [] H c s.heap b.heap/\JS P w c b.heap/\jp v u/\Q v c
noncomputable def CR(c:Wq)(a:L _)(P:Program)(w:World)(H )(s:Shared)(Q )(E )(r:Result)(b:Shared):=
 match r with
 |.ok (.ret u)=>CE a P w H s Q u b
 |.ok _=>False
 |.error e=>c a H s E e b
structure FnOk (P ) (w ) (K ) (mg ) (base ) (CX ) (k ) (f ) (fd ) (ps:L _) (sp:Sp) where
 len:∀vs H Q E,sp vs H Q E->vs.length=ps.length
 run:∀(A ) (outer ) (s ) (H ) (args ) (us ) (vs ) (Q ) (E ),Room k A->Env0 P w K mg base A outer s H->BindsTo s fd args (ps.zip us)->jl vs us->sp vs H Q E->
  codeAny (model P w) A (.call (.ref f) args) (CR CX outer P w H s Q E) s
def FnOk.imp{K}{e}{a}{g}{k}{f}{m}{l}{i c}(F:FnOk P w K e a g k f m l i)
  (h:∀b H Q E,c b H Q E->i b H Q E):FnOk P w K e a g k f m l c:=
 #[λb H Q E q=>F.len b H Q E (h _ _ _ _ q),λA d s H j o b Q E n p u t r=>F.run A _ s H _ o b Q E n p u t (h _ _ _ _ r)]
def Env0.make{K}{c}{b}{A}{a}{s}{H}(e:Env0 P w K c b A a s H)(C )(d )(f ):
  Env0 P w K c b (A.under (.builtin "type.__call__" #[.ref C::d,f])) a s H:=#[by first|exact e.frames|(simpa[Around.under,Code.envs,Code.isFrame,pushEnvs]using e.frames),e.mod,e.bs,e.bsz,e.funs,e.frf,e.hok,e.bare]
section
variable{X:Cx}{pins:Tq}{U:St}{H:Hp}{s s':Shared}
def Inv.env0(I:Inv X pins U H s):Env0 X.prog X.w X.K X.mg X.base X.A X.stack s H:=
 #[I.ok.frames,I.ok.mod,I.bs,wSa I.ok.bsz I.sz,I.stack,I.stkFree,I.hok,I.bare]
def Inv.after(I:Inv X pins U H s)(h:CE X.stack X.prog X.w H s Q u s'):EP X pins U Q u s':=by
 obtain⟨v,i,os,a,f,c,r,q⟩:=h;obtain⟨j,g,d,t,e⟩:=s';obtain rfl:e=s.os:=os;exact#[v,i,I.call f c a (λb z=>vDa z (by simp)),r,q]
end
noncomputable def xT(e:Sp)(a:L V)(E:XK)(t:TA):TE:=λd H Q=>t d H λb c=>e (b++a) c Q E
noncomputable def kB(C:Addr)(m:Str)(f:Sp)(b:L V)(E:XK)(h:TE)(t:TA):TE:=λe H Q=>h e H λx c=>∃a g d,x=.ref a/\c a=S (.ins C g d)/\d.lookup m=J/\
 t e c λi j=>f (x::(i++b)) j Q E
noncomputable def xU(C:Addr)(g:Sp)(c:L V)(E:XK)(t:TA):TE:=λe H Q=>t e H λd b=>∀x a,b x=J->b a=J->a≠x->
 g (.ref x::(d++c)) (upd (upd b a (.own x)) x (.ins C a [])) (λv f=>v=.non/\Q (.ref x) f) E
noncomputable def Jo(K:uXa)(d:FuncData)(b:L _)(c:L _):=
 ∀(s ) (a ),K.In s.heap->(a++c).length=b.length->BindsTo s d #[a,[]] (b.zip (a++c))
def Jo.all{K}{c}{b}(h:∀a ,a.length=b.length->bindArgs c #[a,[]]=pure (b.zip a)):Jo K c b []:=λs a _ d=>by
 rw[uFa]at d⊢;exact .of_eq (h a d)
noncomputable def yQ(d:Wq)(X )(E ):=∀(a ) (c:St) (H ) (s ) (e ) (b ),Inv X a c H s->d X.stack H s E e b->X.xe e b
section
variable{X:Cx}{CX:Wq}{k:Nat}{f C:Addr}{fd:FuncData}{ps:L Str}{sp:Sp}{dvs:L V}{ds:L Value}{E:XK}{x m:Str}{p pos apos:Pos}{e o:Expr}{es:L Expr}{ta:TE}{t:TA}
theorem Wr(F:FnOk X.prog X.w X.K X.mg X.base CX k f fd ps sp)(j:Room k X.A)(i:Jo X.K fd ps ds)(v:jl dvs ds)(y:yQ CX X E)
  (I:Inv X a g H s) (r:jl vs c) (h:sp (vs++dvs) H Q E):wpAny (model X.prog X.w) X.A (call (.ref f) c) (EP X a g Q) X.xe s:=by
 have d:=r.append v;have n:(c++ds).length=ps.length:=by rw[<-d.length];exact F.len _ _ _ _ h
 refine wHa (codeAny_mono (F.run _ _ s H _ _ _ Q E j I.env0 (i s c I.kIn n) d h) λr l b=>?_);cases r with
 |error e=>exact y _ g H s e l I b
 |ok w=>
  cases w with
  |ret u=>exact I.after b
  |next=>exact False.elim b
  |brk=>exact False.elim b
  |cont=>exact False.elim b
def Kh(F:FnOk X.prog X.w X.K X.mg X.base CX k f fd ps sp)(i:Room k X.A)(z:Gl X x)(w:X.mg x=S (.ref f))(n:PySem.W.keepIn X.K (.ref f)=B)(v:Jo X.K fd ps ds)(l:jl dvs ds)(j:yQ CX X E)
  (u:PA X (e::es) t) (b:(x==("__debug__"))=G:=by decide) (y:starEach (e::es) X.env=(G,eval e X.env)::starEach es X.env:=by rfl) (a:(backTo pos (starEach es X.env)).any (·.1)=G:=by rfl):
  PE X (.Call (.Name x p) (e::es) [] pos) (xT sp dvs E t):=by
 intro c s g H Q I h;refine wpAny_Call_Name_kw (zN I z w ?_ b);refine PySem.W.callWith_K I.ok.mod.kin n (jv (u _ _ s g H _ I h) λO A ⟨M,N,d,r,q⟩=>#[d.kIn,?_]) y a;exact Wr F i v l j d r q
def Ki(he:PE X o ta)(c:Cls X.K C)(j:Meth X.K C m f)(F:FnOk X.prog X.w X.K X.mg X.base CX k f fd ps sp)(N:Room k X.A)(P:Jo X.K fd ps ds)(R:jl dvs ds)(z:yQ CX X E)(A:PA X (e::es) t)
  (g:starEach (e::es) X.env=(G,eval e X.env)::starEach es X.env:=by rfl) (d:(backTo pos (starEach es X.env)).any (·.1)=G:=by rfl)
  (ht:eval (.Call (.Attribute o m apos) (e::es) [] pos) X.env=(do
   let i<-eval o X.env
   standAt apos.atName
   let(f,b)<-holding [i] (getMethod i m pl)
   callWith pos f b (backTo pos (starEach (e::es) X.env)) (backToKw pos (keywordEach [] X.env))):=by rfl):
  PE X (.Call (.Attribute o m apos) (e::es) [] pos) (kB C m sp dvs E ta t):=by
 intro y s n H Q I h;refine PySem.W.methodCall_KW (jv (he _ s n H _ I h) λu T xx=>?_) ht;obtain⟨x,H1,w,M,a,dx,fs,W,Z,l,q⟩:=xx;subst W;obtain rfl:u=Value.ref a:=M;refine kz w Z c j l ?_;refine PySem.W.callWith_K I.ok.mod.kin j.kp (jv (A _ _ T n H1 _ w q) λus s2 ⟨vs,H2,v,r,O⟩=>#[v.kIn,?_]) g d;exact Wr (vs:=.ref a::vs) F N P R z v (.cons rfl r) O
def Ws(P:PE X o ta)(c:Cls X.K C)(i:Meth X.K C m f)(F:FnOk X.prog X.w X.K X.mg X.base CX k f fd ps sp)(n:Room k X.A)(y:Jo X.K fd ps ds)(w:jl dvs ds)(O:yQ CX X E)
  (z:eval (.Call (.Attribute o m apos) [] [] pos) X.env=(do
   let j<-eval o X.env
   standAt apos.atName
   let(f,b)<-holding [j] (getMethod j m W)
   callWith pos f b (backTo pos (starEach [] X.env)) (backToKw pos (keywordEach [] X.env))):=by rfl):
  PE X (.Call (.Attribute o m apos) [] [] pos) (kB C m sp dvs E ta UN):=by
 intro g s r H Q I h;refine PySem.W.methodCall_KW (jv (P _ s r H _ I h) λu s1 N=>?_) z;obtain⟨x,R,d,v,a,Z,T,A,M,l,q⟩:=N;subst A;obtain rfl:u=Value.ref a:=v;refine kz d M c i l ?_;exact PySem.W.callWith_K0 d.kIn i.kp (Wr (vs:=[.ref a]) F n y w O d (.cons rfl .nil) q)
structure Mk (K ) (C f ) where
 makes:PySem.W.makesIn K C=B
 init:PySem.W.findIn K (.ref C) "__init__" = S (S (.ref f))
 fn:PySem.W.isFn K (.ref f)=B
 kp:PySem.W.keepIn K (.ref C)=B
theorem bA(M:Mk X.K C f)(F:FnOk X.prog X.w X.K X.mg X.base CX k f fd ps sp)(hr:Room (k+1) X.A)(y:Jo X.K fd ps ds)(w:jl dvs ds)
  (A:yQ CX X E) (I:Inv X b j H s) (r:jl n c)
  (h:∀x g,H x=J->H g=J->g≠x->sp (.ref x::(n++dvs)) (upd (upd H g (.own x)) x (.ins C g [])) (λv z=>v=.non/\Q (.ref x) z) E):
  wpAny (model X.prog X.w) X.A (call (.ref C) c) (EP X b j Q) X.xe s:=by
 have i:=h _ _ (I.hok.fresh (vMa _)) (I.hok.fresh (wPa _)) (wTa (Nat.lt_succ_self _));have d:=Inv.made (C:=C) I;have l:jl (V.ref (s.heap.objs.size+1)::(n++dvs)) _:=.cons rfl (r.append w);have R:(Value.ref (s.heap.objs.size+1)::c++ds).length=ps.length:=by
  have e:=l.length;rw[F.len _ _ _ _ i]at e;exact e.symm
 refine wHa (bz I.kIn M.makes M.init (beq_iff_eq.mp M.fn) (codeAny_mono (F.run _ _ _ _ _ _ _ _ E (hr.make C c [])
  (d.env0.make C c []) (y _ _ d.kIn R) l i) λr s' a=>?_))
 cases r with
 |error e=>exact A _ j _ _ e s' d a
 |ok W=>
  cases W with
  |ret u=>
   obtain⟨v,T,P,O,N,Z⟩:=d.after a;subst N;exact#[O,#[V.ref _,T,P,rfl,Z]]
  |next=>exact False.elim a
  |brk=>exact False.elim a
  |cont=>exact False.elim a
def QC(M:Mk X.K C f)(F:FnOk X.prog X.w X.K X.mg X.base CX k f fd ps sp)(i:Room (k+1) X.A)(y:Gl X x)(j:X.mg x=S (.ref C))(v:Jo X.K fd ps ds)(l:jl dvs ds)(n:yQ CX X E)
  (u:PA X (e::es) t) (b:(x==("__debug__"))=G:=by decide) (w:starEach (e::es) X.env=(G,eval e X.env)::starEach es X.env:=by rfl) (a:(backTo pos (starEach es X.env)).any (·.1)=G:=by rfl):
  PE X (.Call (.Name x p) (e::es) [] pos) (xU C sp dvs E t):=by
 intro c s g H Q I h;refine wpAny_Call_Name_kw (zN I y j ?_ b);refine PySem.W.callWith_K I.ok.mod.kin M.kp (jv (u _ _ s g H _ I h) λN z ⟨A,O,d,r,q⟩=>#[d.kIn,?_]) w a;exact bA M F i v l n d r q
end
structure FnScope (N P:L _) (sc:Scope) where
 kind:sc.kind=.function
 co:sc.isCoroutine=G
 gen:sc.isGenerator=G
 nd:N.Nodup
 pre:N.take P.length=P
 par:∀x∈P,sc.names.lookup x=S .local\/sc.names.lookup x=S .cell
 nofree:∀y∈sc.names,y.2≠.free
theorem wg{kindOf}{x}:∀{a} {m},(∀v,(x,v)∉a)->bindL kindOf a m x=m x
 |[],_,_=>rfl
 |(n,v)::r,m,h=>by
  unfold bindL;rw[wg λw b=>h w (List.mem_cons_of_mem _ b)];split
  ·have:x≠n:=by rintro rfl;exact h v wNa
   simp[this]
  ·rfl
theorem wh{kindOf}{x}:∀{a} {m},(∀v,(x,v)∉a)->bindC kindOf a m x=m x
 |[],_,_=>rfl
 |(n,v)::r,m,h=>by
  unfold bindC;rw[wh λw b=>h w (List.mem_cons_of_mem _ b)];split
  ·rfl
  ·have:x≠n:=by rintro rfl;exact h v wNa
   simp[this]
theorem wj{kindOf}{x}{v}:∀{P:L _} {a}{i:Nat} {m},P.Nodup->P[i]?=S x->a[i]?=S v->kindOf x=S .local->
  bindL kindOf (P.zip a) m x=S v
 |[],_,_,_,_,h,_,_=>Zn h
 |_::_,[],_,_,_,_,h,_=>Zn h
 |p::P,w::a,0,m,d,c,b,e=>by
  simp at c b;subst c;subst b;show bindL _ ((p,w)::P.zip a) m p=_;unfold bindL;rw[wg λv f=>(List.nodup_cons.mp d).1 (List.of_mem_zip f).1,if_pos e];simp
 |p::P,w::a,i+1,m,d,c,b,e=>by
  unfold bindL;exact wj (List.nodup_cons.mp d).2 (by simpa using c) (by simpa using b) e
theorem wk{kindOf}{x}{v}:∀{P:L _} {a}{i:Nat} {m},P.Nodup->P[i]?=S x->a[i]?=S v->kindOf x≠S .local->
  bindC kindOf (P.zip a) m x=S v
 |[],_,_,_,_,h,_,_=>Zn h
 |_::_,[],_,_,_,_,h,_=>Zn h
 |p::P,w::a,0,m,d,c,b,e=>by
  simp at c b;subst c;subst b;show bindC _ ((p,w)::P.zip a) m p=_;unfold bindC;rw[wh λv f=>(List.nodup_cons.mp d).1 (List.of_mem_zip f).1,if_neg e];simp
 |p::P,w::a,i+1,m,d,c,b,e=>by
  unfold bindC;exact wk (List.nodup_cons.mp d).2 (by simpa using c) (by simpa using b) e
noncomputable def YW(N:L Str)(a:L V):St:=a.map some++List.replicate (N.length-a.length) J
noncomputable def JL(CX:Wq)(P:Program)(w:World)(K:uXa)(j:Tj)(d:Heap)(N:L Str)(b:Str)(a:Scope)(f:Addr)(g:Value)(A:Around)(outer:L Env)(s:Shared)(H:Hp)(E:XK):Cx where
 prog:=P
 w:=w
 K:=K
 mg:=j
 base:=d
 A:=A.deeper (envOfC b a s.heap.objs.size f g)
 N:=N
 s₀:=s
 H₀:=H
 env:=envOfC b a s.heap.objs.size f g
 outer:=outer
 stack:=envOfC b a s.heap.objs.size f g::outer
 ex:=[]
 calm:=B
 fn:=λ_=>B
 pn:=[]
 xe:=λe h=>wpAny (model P w) (A.deeper (envOfC b a s.heap.objs.size f g)) (leaving (envOfC b a s.heap.objs.size f g) e) (λ_ c=>CX outer H s E e c) (λi c=>CX outer H s E i c) h
def Wt{a:Scope}(h:a.names.lookup x=S .cell):∃c,(cellsFrom n a.names []).lookup x=S c:=by
 have q:=PySem.W.cellsFrom_some _ n [] (.inl h);exact Option.isSome_iff_exists.mp q
def wl{P}{w}{K}{T}{m}{N C}{j}{d}{f}{O}{A}{g}{s X}{H}{E}{W}{t}
  (SQ:FnScope N C d) (hd:A.handled=J) (n:Env0 P w K T m A g s H) (hl:t.length=C.length) (r:jl t W)
  (x:InCallC s s.heap.objs.size (bindL (envOfC j d s.heap.objs.size f O).kindOf (C.zip W) λ_=>J) (cellsFrom (s.heap.objs.size+1) d.names []) (bindC (envOfC j d s.heap.objs.size f O).kindOf (C.zip W) λ_=>J) X):
  Inv (JL CX P w K T m N j d f O A g s H E) [] (YW N t) H X:=by
 have hpl:C.length<=N.length:=by have:=congrArg List.length SQ.pre;rw[uOa]at this;lia
 obtain⟨R,tk,rfl,hk⟩:=x.done;have o:∀b ,b∉(JL CX P w K T m N j d f O A g s H E).ex:=λb z=>vDa (show b∈([]) from z) (by simp);refine#[#[n.mod,SQ.kind,rfl,rfl,wPa _,λy z c R l=>?_,λy I=>?_,λy c _ h=>?_,λ_=>hd,Around.frames_deeper n.frames,.inr #[rfl,rfl],λb z=>vDa z (o b),n.bs,n.bsz,λb _ _=>o b,λb z=>vDa z (o b),n.funs,n.frf],
  rfl,n.bare,Un.kept hk,#[_,x.toInCall.ns,λi y v R l h3=>?_],λy c h=>#[_,x.cell y c h],n.hok.fresh (wPa _),λy c h=>?_,λp M=>vDa (show p∈([]) from M) (by simp),n.hok.kept hk,?_]
 ·exact name_of_addr x.apart (PySem.mem_of_lookup R) (PySem.mem_of_lookup l)
 ·rcases I with I|I
  ·exact Wt I
  ·exact vDa rfl (SQ.nofree _ (PySem.mem_of_lookup I))
 ·exact wQa (x.above y c (PySem.mem_of_lookup h))
 ·have Q:i<t.length:=by
   unfold YW at l;by_cases Q:i<t.length
   ·exact Q
   ·rw[List.getElem?_append_right (by simpa using Q)]at l;rw[List.getElem?_replicate]at l;split at l<;>cases l
  have ha:t[i]?=S v:=by
   unfold YW at l;rw[uRa (by simpa using Q),uAa]at l;cases e:t[i]? with
   |none=>rw[e]at l;exact Zn l
   |some a=>rw[e]at l;cases l;rfl
  obtain⟨u,Z,rv⟩:=r.get ha;have M:C[i]?=S y:=by
   rw[<-SQ.pre,List.getElem?_take_of_lt (by lia)];exact R
  have F:C.Nodup:=by rw[<-SQ.pre];exact SQ.nd.sublist (List.take_sublist _ _)
  refine#[u,rv,?_];rcases SQ.par y (wYa M)with k|k
  ·exact .inl #[k,wj F M Z k]
  ·obtain⟨c,e⟩:=Wt k;refine .inr #[.inl k,c,e,?_];have q:=x.cell y c e;rw[wk F M Z (by show d.names.lookup y≠_;rw[k];decide)]at q;exact q
 ·exact n.hok.fresh (wQa (x.above y c (PySem.mem_of_lookup h)))
 ·unfold YW;show _=N.length;rw[vZa,vYa,List.length_replicate]
  lia
theorem xV{P}{w}{K}{Z}{j}{k}{f}{m c}{g}{i}{a}{dV kV O pm h ct oc}{an od}
  {osl} {N ps} {sp} (lk:K.lookup f=S #[oc,od,.func (PySem.W.fnOf m c g i a dV kV O pm an h ct),osl]) (hcd:PySem.W.codeIn K h c=B) (SQ:FnScope N ps a)
  (R:∀C H Q E,sp C H Q E->C.length=ps.length)
  (F:∀(A ) (d ) (s ) (H ) (C ) (Q ) (E ),Room k (A.deeper (envOfC c a s.heap.objs.size f h))->sp C H Q E->
   ∃t,Jb (JL CX P w K Z j N c a f h A d s H E) i t/\t {nx:=λ_ p=>Q .non p,rt:=Q} (YW N C) H):
  FnOk P w K Z j CX (k+1) f (PySem.W.fnOf m c g i a dV kV O pm an h ct) ps sp:=by
 refine#[R,λA d s H args us C Q E hr X hb r W=>?_];have hl:=R _ _ _ _ W;have KX:=X.mod.kin.keeps λb o e=>(X.bs b o e).1;have lim:=X.mod.nolimit.keeps λb o e=>(X.bs b o e).1;have z:∀y∈ps.zip us,a.names.lookup y.1=S _\/(a.names.lookup y.1=S _/\((cellsFrom (s.heap.objs.size+1) _ []).lookup y.1).isSome=B):=λ⟨n,v⟩ hy=>by
  rcases SQ.par n (List.of_mem_zip hy).1 with q|q
  ·exact .inl q
  ·exact .inr #[q,PySem.W.cellsFrom_some _ _ _ (.inl q)]
 refine codeAny_call_function hr.depth (KX _ _ lk) rfl SQ.co SQ.gen rfl (PySem.W.codeRec_of KX hcd) (hb _ _ _ _ ?_);refine wpAny_newFunctionEnv_cells SQ.kind z λenv he s1 x=>?_;subst he;refine#[lim.keeps x.toInCall.keep,codeAny_func ?_];obtain⟨t,ht,hq⟩:=F A _ s H C Q E (hr.deeper _) W;have I:Inv (JL CX P w K Z _ N _ _ f _ A _ s H E) [] _ H s1:=wl SQ hr.hd X hl r x;refine wCa (ht [] s1 _ H _ I hq) (λfl s' M=>?_) λe s' M=>M;have T:∀{l} {p} {v} {u},Inv (JL CX P w K Z j N c a f h A d s H E) [] l p s'->jp v u->Q v p->CE _ P w H s Q u s':=
  λ{l p v u} J00 rv q=>#[v,p,J00.os,J00.bare,J00.base,J00.hok,rv,q]
 cases fl with
 |ret u=>
  obtain⟨v,l,p,J00,rv,q⟩:=M;exact T J00 rv q
 |next=>
  obtain⟨l,p,J00,q⟩:=M;exact T (v:=V.non) J00 rfl q
 |brk=>
  obtain⟨_,_,_,q⟩:=M;exact False.elim q
 |cont=>
  obtain⟨_,_,_,q⟩:=M;exact False.elim q
section
variable{X:Cx}{x:Str}{p pos:Pos}{e:Expr}{es:L Expr}{t:TA}{id T:String}{r:L V->Hp->VK->Prop}
noncomputable def az(r:L V->Hp->VK->Prop)(t:TA):TE:=λc H Q=>t c H λa b=>r a b Q
def zG(i:YV X (.builtin id) r)(z:Gl X x)(m:X.mg x=J)(f:bootBuiltins x=S (.builtin id))(k:PA X (e::es) t)(o:x≠ "__name__":= by decide)(a:(x==("__debug__"))=G:=by decide)
  (y:starEach (e::es) X.env=(G,eval e X.env)::starEach es X.env:=by rfl) (b:(backTo pos (starEach es X.env)).any (·.1)=G:=by rfl):PE X (.Call (.Name x p) (e::es) [] pos) (az r t):=by
 intro c s d H Q I h;refine wpAny_Call_Name_kw (ub I z m f ?_ o a);exact PyProof.Rows.callWith_builtin1 (jv (k _ _ s d H _ I h) λj l ⟨w,n,v,u,g⟩=>i _ l d n w j Q v u g) y b
def Vy(i:YV X (.type T) r)(z:Gl X x)(m:X.mg x=J)(f:bootBuiltins x=S (.type T))(k:PA X (e::es) t)(o:x≠ "__name__":= by decide)(a:(x==("__debug__"))=G:=by decide)
  (y:starEach (e::es) X.env=(G,eval e X.env)::starEach es X.env:=by rfl) (b:(backTo pos (starEach es X.env)).any (·.1)=G:=by rfl):PE X (.Call (.Name x p) (e::es) [] pos) (az r t):=by
 intro c s d H Q I h;refine wpAny_Call_Name_kw (ub I z m f ?_ o a);exact PyProof.Rows.callWith_type1 (jv (k _ _ s d H _ I h) λj l ⟨w,n,v,u,g⟩=>i _ l d n w j Q v u g) y b
end
end L2
namespace HT
section
open PySem.SeqAt
open PySem.AutoSeq1 (wpAny_loadPart')
open PySem.MeetsSeq PySem.MeetsSeq2 PySem.MeetsSeq3
end
section
variable{prog:Program}{w:World}{A:Around}{E:Tz}{s:Shared}
def cat_tup(H:IsTup s.heap t d.toArray)(C:IsTup s.heap b a.toArray)(y:d≠[])
  (F:a=[]->Q (.ref t) s) (I:a≠[]->Q (.ref s.heap.objs.size) {s with heap:=s.heap.push {cls:=.type "tuple",data:=.seq (d++a).toArray} })
  (l:d.length+a.length<=sizeLine):wpAny (model prog w) A (binaryOp .Add (.ref t) (.ref b)) Q E s:=by
 obtain⟨⟨z,m,x,v⟩,k,p,n,r⟩:=id H;obtain⟨⟨o,h,data2,g⟩,c,f,u,i⟩:=id C;simp only at p r f i;subst p r f i;have e:d.toArray++a.toArray=(d++a).toArray:=by simp
 by_cases j:a=[]
 ·exact concat_meets #[_,k,rfl] #[_,c,rfl] noFill_tuple_add seq_tuple_add PySem.F.slot_tuple_add PySem.F.entry_tuple_add (PySem.F.args_tuple_add_2 _ _)
   (tuple_addW1 t b d.toArray a.toArray n u m h v g (by simpa using y) (by simp[j])) #[k,c,F j]
 ·refine concat_meets #[_,k,rfl] #[_,c,rfl] noFill_tuple_add seq_tuple_add PySem.F.slot_tuple_add PySem.F.entry_tuple_add (PySem.F.args_tuple_add_2 _ _)
   (tuple_addW2 t b d.toArray a.toArray n u m h v g (by simpa using y) (by simpa using j) (by rw[List.size_toArray,List.size_toArray];exact l)) #[k,c,?_]
  rw[e];exact I j
def cat_tup0{k:L Value}(x:IsTup s.heap t ([]:L Value).toArray)(v:IsTup s.heap b k.toArray)(p:Q (.ref b) s):wpAny (model prog w) A (binaryOp .Add (.ref t) (.ref b)) Q E s:=by
 obtain⟨⟨r,o,h,u⟩,g,i,n,j⟩:=id x;obtain⟨⟨l,f,data2,e⟩,a,d,m,c⟩:=id v;simp only at i j d c;subst i j d c;exact concat_meets #[_,g,rfl] #[_,a,rfl] noFill_tuple_add seq_tuple_add PySem.F.slot_tuple_add PySem.F.entry_tuple_add (PySem.F.args_tuple_add_2 _ _)
  (tuple_addW0 t b _ k.toArray n m o f u e rfl) #[g,a,p]
noncomputable def sIx(n d:Nat):Y Int->Nat
 |none=>d
 |S v=>if v<0 then(v+(n:Int)).toNat else min v.toNat n
def sIx_nat(n d k:Nat):sIx n d (S (k:Int))=min k n:=by
 show(if(k:Int)<0 then((k:Int)+(n:Int)).toNat else min (k:Int).toNat n)=min k n;rw[if_neg (by lia),Int.toNat_natCast]
end
end HT
namespace L2
noncomputable abbrev TO:=St->Hp->(Y Int->Hp->Prop)->Prop
noncomputable def PO(X:Cx)(e:Y Expr)(t:TO):Prop:=
 ∀(a:Tq) (s:Shared) (b:St) (H:Hp) (Q:Y Int->Hp->Prop),Inv X a b H s->t b H Q->
  wpAny (model X.prog X.w) X.A (evalPart e X.env) (λu d=>∃o c,Inv X a b c d/\IsPart u o/\Q o c) X.xe s
noncomputable def dA:TO:=λ_ H Q=>Q J H
noncomputable def IU(t:TE):TO:=λa H Q=>t a H λx b=>∃i,x=.int i/\Q (S i) b
section
variable{X:Cx}{e:Expr}{te:TE}{lo hi:Y Expr}{tl th:TO}{pos p2:Pos}
def dB:PO X J dA:=by
 intro a s b H Q I h;rw[evalPart_none];exact wBa #[J,H,I,.none,h]
def dE(h:PE X e te):PO X (S e) (IU te):=by
 intro a s k H Q I b;rw[evalPart_some];refine jv (h a s k H _ I b) λu l g=>?_;obtain⟨x,c,f,d,j⟩:=g;obtain⟨i,rfl,q⟩:=j;obtain⟨t,rfl⟩:=d;exact#[S i,c,f,.int i t,q]
noncomputable def E_(X:Cx)(r:V->Y Int->Y Int->Hp->VK->Prop):Prop:=
 ∀(a:Tq) (s:Shared) (f:St) (H:Hp) (x:V) (v d c:Value) (lo hi:Y Int) (b:Addr) (Q:VK),Inv X a f H s->jp x v->s.heap.IsSliceOf b d c .none->IsPart d lo->IsPart c hi->r x lo hi H Q->
  ∃T id,typeLookup (.type T) "__getitem__" = pure (S (.builtin id))/\s.TypeIs v T/\wpAny (model X.prog X.w) X.A (getItem v (.ref b)) (EP X a f Q) X.xe s
noncomputable def nN(r:V->Y Int->Y Int->Hp->VK->Prop)(te:TE)(tl th:TO):TE:=λa H Q=>te a H λx d=>tl a d λl b=>th a b λu c=>r x l u c Q
def Wu{r:V->Y Int->Y Int->Hp->VK->Prop}(w:E_ X r)(Z:PE X e te)(N:PO X lo tl)(hu:PO X hi th):PE X (.Subscript e (.Slice lo hi J p2) pos) (nN r te tl th):=by
 intro a s d H Q I h;refine Subscript_ (jv (Z a s d H _ I h) λv W i=>?_);obtain⟨x,o,C,y,O⟩:=i;refine wpAny_Slice (jv (N a W d o _ C O) λg M ⟨l,k,m,F,n⟩=>jv (hu a M d k _ m n) λf c i=>?_);obtain⟨u,j,A,p,R⟩:=i;rw[evalPart_none];refine wBa ?_;have t:Inv X a d j {c with heap:=c.heap.push {cls:=.type "slice",data:=.fields #v[g,f,.none]} }:=A.kept (t':=c.toks) λb ob q=>wIa _ q;obtain⟨T,id,P,z,hg⟩:=w a {c with heap:=c.heap.push {cls:=.type "slice",data:=.fields #v[g,f,.none]} } d j x v g f l u c.heap.objs.size Q t y (Heap.IsSliceOf.new ..) F p R;show wpAny (model X.prog X.w) X.A (subscriptTail e (.Slice lo hi J p2) v (.ref c.heap.objs.size)) (EP X a d Q) X.xe {c with heap:=c.heap.push {cls:=.type "slice",data:=.fields #v[g,f,.none]} };exact tail_any (ops:=[.ref c.heap.objs.size,v]) z P hg (by with_unfolding_all rfl)
noncomputable def Kj(a:L V)(lo hi:Y Int):L V:=(a.drop (HT.sIx a.length 0 lo)).take (HT.sIx a.length a.length hi-HT.sIx a.length 0 lo)
def Qo(a:L V)(lo hi:Y Int):(Kj a lo hi).length<=a.length:=by
 unfold Kj;rw[uOa,uNa]
 lia
noncomputable def xX(K:uXa):R2:=λx y H Q=>∃a b c d,x=.ref a/\y=.ref b/\yg K H a c/\yg K H b d/\c.length+d.length<=sizeLine/\
 (c=[]->Q (.ref b) H)/\(c≠[]->d=[]->Q (.ref a) H)/\(c≠[]->d≠[]->∀p,H p=J->Q (.ref p) (upd H p (.tup (c++d))))
def jl.nil_iff(r:jl b a):a=[]↔b=[]:=by
 cases r with
 |nil=>simp
 |cons _ _=>simp
def dG:jW X (binaryOp .Add) (xX X.K):=by
 intro m s M H x y v u Q I p o h;obtain⟨a,b,j,r,rfl,rfl,t,C,k,A,g,i⟩:=h;subst p;subst o;obtain⟨F,d,n,_⟩:=I.tuple t;obtain⟨l,f,p2,_⟩:=I.tuple C;by_cases c:j=[]
 ·have e:=d.nil_iff.mpr c;subst e;exact HT.cat_tup0 n p2 #[.ref b,H,I,rfl,A c]
 replace g:=g c
 replace i:=i c
 refine HT.cat_tup n p2 (λz=>c (d.nil_iff.mp z)) (λz=>#[.ref a,H,I,rfl,g (f.nil_iff.mp z)]) (λz=>?_) (by rw[<-d.length,<-f.length];exact k);refine#[.ref s.heap.objs.size,_,I.laid (t':=s.toks) (o:=.tup (j++r)) (λb N q=>wIa _ q) (wPa _) ?_,rfl,i (λw=>z (f.nil_iff.mpr w)) _ (I.hok.fresh (wPa _))];exact#[by rw[vZa];exact k,_,d.append f,IsTup.new _ _]
end
noncomputable def Uq(n:Nat)(i:Int):Y Nat:=if 0<=i then(if i<n then S i.toNat else J)else if -(n:Int)<=i then S (i+n).toNat else J
noncomputable def atI(xs:L a)(i:Int):Y a:=(Uq xs.length i).bind λj=>xs[j]?
def QD(h:Uq n i=S j):seqIndex? i n=S j/\j<n/\-(n:Int)<=i/\i<n:=by
 unfold Uq at h;by_cases b:0<=i
 ·rw[if_pos b]at h;by_cases a:i<n
  ·rw[if_pos a]at h;have e:i.toNat=j:=vFa h;exact#[by rw[seqIndex_of b a,e],by lia,by lia,a]
  ·rw[if_neg a]at h;exact Zn h
 ·rw[if_neg b]at h;by_cases a:-(n:Int)<=i
  ·rw[if_pos a]at h;have e:(i+n).toNat=j:=vFa h;exact#[by rw[seqIndex_neg (by lia) a,e],by lia,a,by lia]
  ·rw[if_neg a]at h;exact Zn h
def Kk(h:atI a i=S v):∃j,seqIndex? i a.length=S j/\a[j]?=S v/\j<a.length/\-(a.length:Int)<=i/\i<a.length:=by
 unfold atI at h;cases e:Uq a.length i with
 |none=>rw[e]at h;exact Zn h
 |some j=>
  rw[e]at h;obtain⟨b,d,f,c⟩:=QD e;exact#[j,b,h,d,f,c]
noncomputable def gY(b:Expr):Prop:=∀o i,subscripted b G o i=operate [o,i] (getItem o i)
noncomputable def Ur(X:Cx)(r:R2):Prop:=
 ∀(c a:Expr) (b:Tq) (s:Shared) (d:St) (H:Hp) (x y:V) (v u:Value) (Q:VK),Inv X b d H s->jp x v->jp y u->r x y H Q->
  subscripted a G v u=operate [v,u] (getItem v u)->wpAny (model X.prog X.w) X.A (subscriptTail c a v u) (EP X b d Q) X.xe s
noncomputable def f9(X:Cx)(id:String)(r:V->L V->Hp->VK->Prop):Prop:=
 ∀(a:Tq) (s:Shared) (d:St) (H:Hp) (x:V) (b:L V) (v:Value) (c:L Value) (Q:VK),Inv X a d H s->jp x v->jl b c->r x b H Q->
  wpAny (model X.prog X.w) X.A (call (.builtin id) (v::c)) (EP X a d Q) X.xe s
section
variable{X:Cx}{a b:Expr}{ta tb:TE}{pos:Pos}
def Ur.or(h:Ur X r)(l:Ur X k):Ur X (λx y H Q=>r x y H Q\/k x y H Q):=by
 intro d c e s i H x y v u Q I j f q g;rcases q with q|q
 ·exact h d c e s i H x y v u Q I j f q g
 ·exact l d c e s i H x y v u Q I j f q g
def xY(f:Ur X r)(i:PE X a ta)(n:PE X b tb)(g:gY b):PE X (.Subscript a b pos) (Qz r ta tb):=by
 intro c s j H Q I h;exact Subscript_ (bp i n I h λv u e x y m l k d q=>f a b c e j m x y v u Q l k d q (g _ _))
noncomputable def fc(K:uXa):R2:=λx y H Q=>∃p c i v,x=.ref p/\y=.int i/\jY K H p c/\atI c i=S v/\Q v H
noncomputable def fe(K:uXa):R2:=λx y H Q=>∃p c i v,x=.ref p/\y=.int i/\yg K H p c/\atI c i=S v/\Q v H
noncomputable def bB:R2:=λx y H Q=>∃z i c,x=.str z/\y=.int i/\z.length<=sizeLine/\atI z.cps.toList i=S c/\Q (.str #[#v[c]]) H
def dH:Ur X (fc X.K):=by
 intro m n c s F H x y v u Q I N T h A;obtain⟨p,xs,i,z,rfl,rfl,W,Z,q⟩:=h;subst N;obtain⟨t,rfl⟩:=T;obtain⟨k,r,f,hz⟩:=I.list W;obtain⟨j,e,M,h3,P,R⟩:=Kk Z;obtain⟨w,o,l⟩:=r.get M;have O:=r.length;have hn:=ug;have d:EP X c F Q w s:=#[z,H,I,l,q]
 by_cases C:0<=i
 ·have g:i.toNat=j:=by
   rw[seqIndex_of C R]at e;exact vFa e
  exact item_listR f.isList C (by lia) (by rw[g];simpa using o) d A
 ·have g:(i+(k.toArray.size:Int)).toNat=j:=by
   rw[seqIndex_neg (by lia) P]at e;rw[uLa,<-O];exact vFa e
  exact subscriptTail_builtinR (x:=w) f.isList.typeIs slot_list_getitem.lookup
   (wpAny_getItem_list_neg (Q:=λr s'=>r=w/\EP X c F Q r s') f.isList (by lia) (by rw[uLa]<;>lia) (by lia) (by rw[g];simpa using o) #[rfl,d]) A
def ff:Ur X (fe X.K):=by
 intro f e c s l H x y v u Q I R o h N;obtain⟨p,xs,i,z,rfl,rfl,O,P,q⟩:=h;subst R;obtain⟨t,rfl⟩:=o;obtain⟨A,r,k,hz⟩:=I.tuple O;obtain⟨j,n,m,Z,W,h5⟩:=Kk P;obtain⟨w,C,g⟩:=r.get m;have M:=r.length;have T:=ug;have d:EP X c l Q w s:=#[z,H,I,g,q]
 exact subscriptTail_builtinR (x:=w) k.typeIs slot_tuple_getitem.lookup
  (getItem_tuple (j:=j) (Q:=λr F=>r=w/\EP X c l Q r F) k (by lia) (by lia) (by rw[uLa,<-M];exact n) (by simpa using C) #[rfl,d]) N
def aA:Ur X bB:=by
 intro d e g s M H x y v u Q I l n h C;obtain⟨z,i,c,rfl,rfl,O,w,q⟩:=h;obtain⟨t,rfl⟩:=l;obtain⟨F,rfl⟩:=n;obtain⟨j,f,k,N,p,m⟩:=Kk w;have o:z.cps.toList.length=z.length:=by simp[Str.length]
 rw[o]at f p m;have P:=ug;exact tail_any (typeIs_str s z t) slot_str_getitem.lookup (getItem_str (c:=c) (by
  have r:decide (i < -(2^63:Int))=G:=vBa (by lia);have A:decide (i>=2^63)=G:=vBa (by lia);rw[r,A,Bool.or_false]) (by rw[f];simpa using k) #[.str #[#v[c]],H,I.tok _,#[_,rfl],q]) C
noncomputable def LV(K:uXa):R2:=λx y H Q=>fc K x y H Q\/fe K x y H Q\/bB x y H Q
def aB:Ur X (LV X.K):=dH.or (ff.or aA)
def xZ(c:L Value)(n j:Nat)(u:Value):Obj.mapSeq (·.setIfInBounds j u) {cls:=.type "list",data:=.seq c.toArray n}={cls:=.type "list",data:=.seq (c.set j u).toArray n}:=by
 simp[Obj.mapSeq]
def Inv.lst{d:Tq}{f:St}{H:Hp}{s:Shared}{p:Addr}{xs:L V}(I:Inv X d f H s)(h:H p=S (.lst xs)):
  ∃(c:L Value) (n:Nat),jl xs c/\s.heap.get? p=S {cls:=.type "list",data:=.seq c.toArray n}/\xs.length<=sizeLine:=by
 obtain⟨z,c,n,r,e⟩:=I.hok p _ h;exact#[c,n,r,e,z]
def Inv.lstUpd{s:Shared}{i:L V}{d c:L Value}(I:Inv X g o H s)(h:H p=S (.lst w))
  (m:s.heap.get? p=S {cls:=.type "list",data:=.seq d.toArray n}) (j:f {cls:=.type "list",data:=.seq d.toArray n}={cls:=.type "list",data:=.seq c.toArray k}) (r:jl i c) (v:i.length<=sizeLine) (t:Nat):
  Inv X g o (upd H p (.lst i)) {s with heap:=s.heap.update p f,toks:=t}:=by
 have e:(s.heap.update p f).get? p=S {cls:=.type "list",data:=.seq c.toArray k}:=by
  rw[Heap.get?_update_self f m (by rw[j]<;>rfl),j]
 refine I.write (x:=p) (e:=p) (by rw[h];trivial) (.inl rfl) (λb u l q=>(wKa _ _ (Ne.symm l)).trans q) #[_,e] ?_;exact#[v,c,k,r,e]
noncomputable def cK:V->V->V->Hp->(Hp->Prop)->Prop:=λo i v H Q=>∃p c k j,o=.ref p/\i=.int k/\H p=S (.lst c)/\Uq c.length k=S j/\Q (upd H p (.lst (c.set j v)))
def bC:xH X cK:=by
 intro c s M H o i v T W u Q I O N C h;obtain⟨p,A,k,j,rfl,rfl,m,F,q⟩:=h;subst O;obtain⟨t,rfl⟩:=N;obtain⟨d,n,r,g,P⟩:=I.lst m;obtain⟨e,Z,w,x⟩:=QD F;have l:=r.length;have R:=ug;have y:Inv X c M (upd H p (.lst (A.set j v))) {s with heap:=s.heap.update p (Obj.mapSeq (·.setIfInBounds j u))}:=
  I.lstUpd m g (xZ d n j u) (r.set C j) (by rw[List.length_set];exact P) s.toks
 by_cases z:0<=k
 ·have f:k.toNat=j:=by
   rw[seqIndex_of z x]at e;exact vFa e
  exact PySem.W.ki_setAt g z (by lia) (by rw[uLa,<-l];exact x) (by rw[f];exact#[_,y,q])
 ·have f:(k+(d.toArray.size:Int)).toNat=j:=by
   rw[seqIndex_neg (by lia) w]at e;rw[uLa,<-l];exact vFa e
  exact PySem.W.ki_setBack g (by lia) (by rw[uLa,<-l];exact w) (by lia) (by rw[f];exact#[_,y,q])
def Wv(lo c:Y Int)(n:Nat):(sliceBounds lo c J n).1=((HT.sIx n 0 lo:Nat):Int)/\(sliceBounds lo c J n).2.1=((HT.sIx n n c:Nat):Int)/\(sliceBounds lo c J n).2.2=1:=by
 refine#[?_,?_,rfl]
 ·cases lo with
  |none=>simp[sliceBounds,HT.sIx]
  |some i=>
   simp only[sliceBounds,HT.sIx,Option.getD_none,show(1:Int) > 0 by decide,if_true];by_cases h:i<0
   ·simp only[h,if_true]<;>lia
   ·simp only[h,if_false]<;>lia
 ·cases c with
  |none=>simp[sliceBounds,HT.sIx]
  |some i=>
   simp only[sliceBounds,HT.sIx,Option.getD_none,show(1:Int) > 0 by decide,if_true];by_cases h:i<0
   ·simp only[h,if_true]<;>lia
   ·simp only[h,if_false]<;>lia
def wS(c:L Value)(lo d:Y Int):slicePick c.toArray lo d J=((c.drop (HT.sIx c.length 0 lo)).take (HT.sIx c.length c.length d-HT.sIx c.length 0 lo)).toArray:=by
 obtain⟨e,f,g⟩:=Wv lo d c.toArray.size;unfold slicePick;rw[e,f,g];simp only[sliceRange_one,pick_run,List.size_toArray]<;>rfl
noncomputable def Mb(K:uXa):V->Y Int->Y Int->Hp->VK->Prop:=λx lo d H Q=>∃a c,x=.ref a/\jY K H a c/\∀p,H p=J->Q (.ref p) (upd H p (.lst (Kj c lo d)))
def dI:E_ X (Mb X.K):=by
 intro g s t H x v w u lo e p Q I n m k j h;obtain⟨a,c,rfl,i,q⟩:=h;subst n;obtain⟨l,r,f,o⟩:=I.list i;have d:=r.length;refine#["list",_,slot_list_getitem.lookup,f.isList.typeIs,?_];refine wpAny_getItem_list_slice f.isList m k j .none (by simp) ?_ (by rw[List.size_toArray]<;>lia);rw[wS,<-d];refine#[.ref s.heap.objs.size,_,I.laid (t':=s.toks) (o:=.lst (Kj c lo e)) (λb y q=>wIa _ q) (wPa _) ?_,rfl,q _ (I.hok.fresh (wPa _))];exact#[wSa (Qo c lo e) o,_,0,(r.drop (HT.sIx c.length 0 lo)).take (HT.sIx c.length c.length e-HT.sIx c.length 0 lo),wJa _ rfl]
noncomputable def ZE:V->Bool
 |.non=>B
 |.bl _=>B
 |.int _=>B
 |.str _=>B
 |_=>G
noncomputable def wm:V->V->Bool
 |.non,.non=>B
 |.bl a,.bl b=>a==b
 |.bl a,.int b=>(if a then 1 else 0)==b
 |.int a,.bl b=>a==(if b then 1 else 0)
 |.int a,.int b=>a==b
 |.str a,.str b=>a==b
 |_,_=>G
def fg(f:jp y u)(c:jp x v)(g:ZE y=B)(e:ZE x=B):SeqAt.EqAt A s u v (wm y x):=by
 cases y with
 |non=>
  cases f;cases x with
  |non=>subst c;exact SeqAt.EqAt.same _
  |bl b=>subst c;exact SeqAt.EqAt.none_bool b
  |int b=>obtain⟨t,rfl⟩:=c;exact SeqAt.EqAt.none_int b t
  |str b=>obtain⟨t,rfl⟩:=c;exact SeqAt.EqAt.none_str b t
  |_=>exact vDa (show G=B from e) vNa
 |bl a=>
  subst f;cases x with
  |non=>subst c;exact SeqAt.EqAt.bool_none a
  |bl b=>subst c;exact SeqAt.EqAt.bool_bool a b
  |int b=>obtain⟨t,rfl⟩:=c;exact SeqAt.EqAt.bool_int a b t
  |str b=>obtain⟨t,rfl⟩:=c;exact SeqAt.EqAt.bool_str a b t
  |_=>exact vDa (show G=B from e) vNa
 |int a=>
  obtain⟨d,rfl⟩:=f;cases x with
  |non=>subst c;exact SeqAt.EqAt.int_none a d
  |bl b=>subst c;exact SeqAt.EqAt.int_bool a d b
  |int b=>obtain⟨t,rfl⟩:=c;exact SeqAt.EqAt.int_int a d b t
  |str b=>obtain⟨t,rfl⟩:=c;exact SeqAt.EqAt.int_str a d b t
  |_=>exact vDa (show G=B from e) vNa
 |str a=>
  obtain⟨d,rfl⟩:=f;cases x with
  |non=>subst c;exact SeqAt.EqAt.str_none a d
  |bl b=>subst c;exact SeqAt.EqAt.str_bool a d b
  |int b=>obtain⟨t,rfl⟩:=c;exact SeqAt.EqAt.str_int a d b t
  |str b=>obtain⟨t,rfl⟩:=c;exact SeqAt.EqAt.str_str a d b t
  |_=>exact vDa (show G=B from e) vNa
 |_=>exact vDa (show G=B from g) vNa
noncomputable def vT(x:V)(u:Value):Bool:=match u with
 |.none=>wm .non x
 |.bool b=>wm (.bl b) x
 |.int i _=>wm (.int i) x
 |.str z _=>wm (.str z) x
 |_=>G
def aD(r:jp y u)(f:ZE y=B):vT x u=wm y x:=by
 cases y with
 |non=>subst r;rfl
 |bl b=>subst r;rfl
 |int i=>obtain⟨t,rfl⟩:=r;rfl
 |str z=>obtain⟨t,rfl⟩:=r;rfl
 |_=>exact vDa (show G=B from f) vNa
def g_{c:L V}{d:L Value}(h:jl c d):c.all ZE=B->d.any (vT x)=c.any λy=>wm y x:=by
 induction h with
 |nil=>intro _;rfl
 |cons r _ i=>
  intro f;rw[List.all_cons,Bool.and_eq_true]at f;rw[List.any_cons,List.any_cons,aD r f.1,i f.2]
theorem vU(g:jp x v)(h:ZE x=B):∀{d:L V}{e:L Value},jl d e->d.all ZE=B->∀u∈e,SeqAt.EqAt A s u v (vT x u)
 |_,_,.nil,_=>λu c=>by cases c
 |y::d,u::e,.cons r t,f=>λi c=>by
  rw[List.all_cons,Bool.and_eq_true]at f;rcases uTa c with rfl|c
  ·rw[aD r f.1];exact fg r g f.1 h
  ·exact vU g h t f.2 i c
noncomputable def QE(x:V)(c:L V):Bool:=c.any λy=>wm y x
noncomputable def fj(K:uXa)(d:Bool):R2:=λx y H Q=>∃p c,y=.ref p/\(jY K H p c\/yg K H p c)/\ZE x=B/\c.all ZE=B/\Q (.bl (if d then !QE x c else QE x c)) H
def aE:jW X (compareOp .In) (fj X.K G):=by
 intro k s n H x y v u Q I j l h;obtain⟨p,o,rfl,d,i,e,q⟩:=h;subst l;rcases d with d|d
 ·obtain⟨c,r,g,m⟩:=I.list d;refine SeqAt.in_listAt (vT x) g.isList (λw f=>vU j i r e w (by simpa using f)) #[.bl _,H,I,rfl,?_];rw[show c.toArray.any (vT x)=c.any (vT x) by simp,g_ r e];exact q
 ·obtain⟨c,r,g,m⟩:=I.tuple d;refine SeqAt.in_tupleAt (vT x) g (λw f=>vU j i r e w (by simpa using f)) #[.bl _,H,I,rfl,?_];rw[show c.toArray.any (vT x)=c.any (vT x) by simp,g_ r e];exact q
def Ww:jW X (compareOp .NotIn) (fj X.K B):=by
 intro k s n H x y v u Q I j l h;obtain⟨p,o,rfl,d,i,e,q⟩:=h;subst l;rcases d with d|d
 ·obtain⟨c,r,g,m⟩:=I.list d;refine SeqAt.notIn_listAt (vT x) g.isList (λw f=>vU j i r e w (by simpa using f)) #[.bl _,H,I,rfl,?_];rw[show c.toArray.any (vT x)=c.any (vT x) by simp,g_ r e];exact q
 ·obtain⟨c,r,g,m⟩:=I.tuple d;refine SeqAt.notIn_tupleAt (vT x) g (λw f=>vU j i r e w (by simpa using f)) #[.bl _,H,I,rfl,?_];rw[show c.toArray.any (vT x)=c.any (vT x) by simp,g_ r e];exact q
def Wx:YV X (.builtin "len") (λj H Q=>∃p d,j=[.ref p]/\(jY X.K H p d\/yg X.K H p d)/\Q (.int d.length) H):=by
 intro k s o H j t Q I r h;obtain⟨p,d,rfl,e,q⟩:=h;obtain⟨u,rfl,m⟩:=W0 r;subst m;have n:=ug;rcases e with e|e
 ·obtain⟨f,g,i,l⟩:=I.list e;have c:=g.length;exact Calls.call_len_list i.isList (by simp only[List.size_toArray]<;>lia) #[.int d.length,H,I.tok _,#[s.toks+1,by rw[uLa,c]],q]
 ·obtain⟨f,g,i,l⟩:=I.tuple e;have c:=g.length;exact len_tuple i (by simp only[List.size_toArray]<;>lia) #[.int d.length,H,I.tok _,#[s.toks+1,by rw[uLa,c]],q]
def Wy:YV X (.builtin "len") (λd H Q=>∃z,d=[.str z]/\z.length<=sizeLine/\Q (.int z.length) H):=by
 intro c s g H d i Q I r h;obtain⟨z,rfl,e,q⟩:=h;obtain⟨u,rfl,t,rfl⟩:=W0 r;have f:=ug;exact len_str (by lia) #[.int z.length,H,I.tok _,#[_,rfl],q]
def Wz:YV X (.type "list") (λF H Q=>∃p i,F=[.ref p]/\(jY X.K H p i\/yg X.K H p i)/\∀l,H l=J->Q (.ref l) (upd H l (.lst i))):=by
 intro w s M H F O Q I r h;obtain⟨p,i,rfl,t,q⟩:=h;obtain⟨u,rfl,N⟩:=W0 r;subst N;have v:∀(c:L Value),jl i c->i.length<=sizeLine->∀(d:Heap) (f:Nat),(∀b C,s.heap.get? b=S C->d.get? b=S C)->
   d.get? s.heap.objs.size=S {cls:=.type "list",dict:=J,data:=.seq c.toArray f,slots:=#v[]}->EP X w M Q (.ref s.heap.objs.size) {s with heap:=d}:=λc g m d f k e=>
  #[.ref s.heap.objs.size,_,I.laid (t':=s.toks) k (wPa _) (show Jh X.prog X.w _ d _ (.lst i) from#[m,c,f,g,e]),rfl,q _ (I.hok.fresh (wPa _))]
 rcases t with t|t
 ·obtain⟨c,g,y,m⟩:=I.list t;have j:=g.length;obtain⟨o,z,x,n,A⟩:=y.isList;exact call_list_seq p (.inl rfl) z x A (λd f k e=>v c g m d f k e) (by simp only[List.size_toArray]<;>lia)
 ·obtain⟨c,g,y,m⟩:=I.tuple t;have j:=g.length;obtain⟨o,z,x,n,A⟩:=y;exact call_list_seq p (.inr rfl) z x A (λd f k e=>v c g m d f k e) (by simp only[List.size_toArray]<;>lia)
def wT:YV X (.type "tuple") (λn H Q=>∃p f,n=[.ref p]/\((jY X.K H p f/\∀l,H l=J->Q (.ref l) (upd H l (.tup f)))\/(yg X.K H p f/\Q (.ref p) H))):=by
 intro c s w H n A Q I r h;obtain⟨p,f,rfl,h⟩:=h;obtain⟨u,rfl,y⟩:=W0 r;subst y;rcases h with⟨k,q⟩|⟨k,q⟩
 ·obtain⟨d,i,j,v⟩:=I.list k;have m:=i.length;refine call_tuple_list j.isList (λg x=>?_) (by simp only[List.size_toArray]<;>lia);have t:Inv X c w H {s with heap:=g}:=I.kept (t':=s.toks) x;have z:Inv X c w (upd H g.objs.size (.tup f)) {s with heap:=g.push {cls:=.type "tuple",data:=.seq d.toArray} }:=
   t.laid (t':=s.toks) (λb o e=>wIa _ e) (wPa _) (show Jh X.prog X.w _ _ _ (.tup f) from#[v,d,i,IsTup.new _ _])
  exact#[.ref g.objs.size,_,z,rfl,q _ (t.hok.fresh (wPa _))]
 ·obtain⟨d,i,j,v⟩:=I.tuple k;exact call_tuple_same j #[.ref p,H,I,rfl,q]
noncomputable def fm(K:uXa)(T:String)(x:V)(H:Hp):Prop:=match x with
 |.str _=>T ="str"
 |.int _=>T ="int"
 |.ref p=>(T ="list"/\∃e,jY K H p e)\/(T ="tuple"/\∃o,K.lookup p=S o/\o.cls=.type "tuple"/\o.dict=J)\/
   (T ="dict"/\((∃c d,H p=S (.dK c d))\/(∃K l m,H p=S (.mem K l m))\/∃c d,H p=S (.dD c d)))\/(T ="set"/\∃SQ n,H p=S (.set SQ n))
 |_=>False
theorem aF{h:Tq}{M:St}{H:Hp}{s:Shared}{T:String}{x:V}{v:Value}(I:Inv X h M H s)(r:jp x v)(j:fm X.K T x H):
  s.TypeIs v T/\∀a,v=.ref a->∃w,s.heap.get? a=S w/\w.dict=J:=by
 cases x with
 |str z=>
  obtain⟨t,rfl⟩:=r;cases(show T ="str" from j);exact#[typeIs_str s z t,λ_ e=>nomatch e]
 |int i=>
  obtain⟨t,rfl⟩:=r;cases(show T ="int" from j);exact#[typeIs_int s i t,λ_ e=>nomatch e]
 |ref p=>
  subst r;rcases j with⟨rfl,N,y⟩|⟨rfl,o,d,A,k⟩|⟨rfl,d⟩|⟨rfl,SQ,n,d⟩
  ·obtain⟨C,_,u,_⟩:=I.list y;refine#[u.isList.typeIs,λa e=>?_];cases e;obtain⟨o,n,e,c,k,_⟩:=u;exact#[o,e,k]
  ·refine#[#[o,I.kIn p o d,A],λa e=>?_];cases e;exact#[o,I.kIn _ o d,k]
  ·have z:∃o,s.heap.get? p=S o/\o.ExactDict:=by
    rcases d with⟨g,F,d⟩|⟨K,g,m,d⟩|⟨g,F,d⟩
    ·obtain⟨_,_,_,_,o,_,e,f,_⟩:=I.hok p _ d;exact#[o,e,f]
    ·obtain⟨_,_,_,_,_,o,_,_,e,f,_⟩:=I.hok p _ d;exact#[o,e,f]
    ·obtain⟨_,_,_,_,_,o,_,e,f,_⟩:=I.hok p _ d;exact#[o,e,f]
   obtain⟨o,e,f⟩:=z;refine#[#[o,e,f.1],λa l=>?_];cases l;exact#[o,e,f.2.1]
  ·obtain⟨o,_,_,_,e,f,_⟩:=I.hok p _ d;refine#[#[o,e,f.1],λa l=>?_];cases l;exact#[o,e,f.2.1]
 |_=>exact False.elim j
noncomputable def fq(K:uXa)(T:String)(r:V->L V->Hp->VK->Prop)(d:TE):TE:=λe H Q=>d e H λx c=>fm K T x c/\r x [] c Q
noncomputable def cL(K:uXa)(T:String)(r:V->L V->Hp->VK->Prop)(f:TE)(t:TA):TE:=λc H Q=>f c H λx d=>fm K T x d/\t c d λe g=>r x e g Q
variable{o e:Expr}{es:L Expr}{to:TE}{t:TA}{name:Str}{apos cpos:Pos}{T id:String}{r:V->L V->Hp->VK->Prop}
def fu(p:PlainAttrs T)(g:Slot T name id)(i:typeOf (.builtin id)=pure (.type "method_descriptor"))(n:f9 X id r)(w:PE X o to)
  (f:attributeBase o name X.env (eval o X.env)=eval o X.env:=by rfl) (d:(apos.endLine==cpos.line)=B:=by rfl):PE X (.Call (.Attribute o name apos) [] [] cpos) (fq X.K T r to):=by
 intro c s l H Q I h;refine wpAny_Call_method0_late f d (jv (w c s l H _ I h) λv F C=>?_);obtain⟨x,y,k,j,u,A⟩:=C;obtain⟨z,m⟩:=aF k j u;exact#[T,id,p,g,i,z,m,Calls.callWith_builtin rfl (PySem.evalArgs_none (n c F l y x [] v [] Q k j .nil A))]
def x_(O:PlainAttrs T)(j:Slot T name id)(k:typeOf (.builtin id)=pure (.type "method_descriptor"))(F:f9 X id r)(P:PE X o to)(z:PA X (e::es) t)
  (f:attributeBase o name X.env (eval o X.env)=eval o X.env:=by rfl)
  (i:((backTo cpos (starEach (e::es) X.env)).all (λx=>!x.1)&&(backToKw cpos (keywordEach [] X.env)).all (λx=>x.1.isSome)
   && decide ((e::es).length+([]:L Keyword).length+(if([]:L Keyword).isEmpty then 0 else 1)<30))=B:=by rfl)
  (g:(apos.endLine==cpos.line)=B:=by rfl) (w:starEach (e::es) X.env=(G,eval e X.env)::starEach es X.env:=by rfl) (d:(backTo cpos (starEach es X.env)).any (·.1)=G:=by rfl):
  PE X (.Call (.Attribute o name apos) (e::es) [] cpos) (cL X.K T r to t):=by
 intro c s l H Q I h;refine wpAny_Call_method_late f i g rfl (jv (P c s l H _ I h) λv A xx=>?_);obtain⟨x,W,n,m,N,q1⟩:=xx;obtain⟨R,u⟩:=aF n m N;refine#[T,id,O,j,k,R,u,?_];have p:=z cpos c A l W _ n q1;rw[w]at p⊢;refine Calls.callWith_builtin (by show(G||(backTo cpos (starEach es X.env)).any (·.1))=G;rw[d]<;>rfl) (Calls.evalArgs_plain ?_)
 exact jv p λy Z ⟨vs,H2,M,r2,C⟩=>F c Z l H2 x vs v y Q M m r2 C
end
noncomputable def cM(X:Cx)(id:String)(r:V->L V->Hp->VK->Prop):Prop:=
 ∀(a:Tq) (s:Shared) (d:St) (H:Hp) (x:V) (b:L V) (v:Value) (c:L Value) (Q:VK),Inv X a d H s->jp x v->jl b c->r x b H Q->
  wpAny (model X.prog X.w) X.A (call (.builtin id) (v::c)) (EP X a d Q) X.xe s
def jl.one{x:V}{a:L Value}(h:jl [x] a):∃u,a=[u]/\jp x u:=by
 cases h with
 |cons r t=>cases t;exact#[_,rfl,r]
theorem jl.zero:∀{a:L Value},jl [] a->a=[]
 |_,.nil=>rfl
def jl.dropLast{b:L V}{a:L Value}(h:jl b a):jl b.dropLast a.dropLast:=by
 induction h with
 |nil=>exact .nil
 |cons r t c=>
  cases t with
  |nil=>exact .nil
  |cons q d=>exact .cons r c
def X0(l:L d):l.eraseIdx (l.length-1)=l.dropLast:=by
 induction l with
 |nil=>rfl
 |cons a r c=>
  cases r with
  |nil=>rfl
  |cons b r=>
   have e:(a::b::r).length-1=((b::r).length-1)+1:=by
    have g:(a::b::r).length=r.length+2:=rfl;have f:(b::r).length=r.length+1:=rfl
    lia
   rw[e,List.eraseIdx_cons_succ,c];all_goals rfl
section
variable{X:Cx}{pins:Tq}{U:St}{H:Hp}{s:Shared}{l b:Addr}{xs ys zs:L V}
def Inv.lset{a its':L Value}{n:Nat}{f:Array Value->Array Value}{t':Nat}(I:Inv X pins U H s)(d:H l=S (.lst xs))
  (e:s.heap.get? l=S {cls:=.type "list",data:=.seq a.toArray n}) (i:f a.toArray=its'.toArray) (g:jl ys its') (j:ys.length<=sizeLine):
  Inv X pins U (upd H l (.lst ys)) {s with heap:=s.heap.update l (Obj.mapSeq f),toks:=t'}:=by
 have q:=PySem.IsL.update e f;rw[i]at q;refine I.write (x:=l) (e:=l) (by rw[d];exact trivial) (.inl rfl) (λk u c h=>(wKa s.heap (Obj.mapSeq f) (Ne.symm c)).trans h) #[_,q] ?_;exact#[j,its',_,g,q]
def Inv.lnew(I:Inv X pins U H s)(c:jl ys a)(d:ys.length<=sizeLine):
  Inv X pins U (upd H s.heap.objs.size (.lst ys)) {s with heap:=s.heap.push {cls:=.type "list",data:=.seq a.toArray},toks:=t'}:=
 I.laid (λ_ _ q=>wIa _ q) (wPa _) #[d,a,0,c,wJa _ rfl]
def Inv.fresh(I:Inv X pins U H s):H s.heap.objs.size=J:=I.hok.fresh (wPa _)
def Inv.lstM(I:Inv X pins U H s)(c:H l=S (.lst xs)):xs.length<=sizeLine/\∃(a:L Value) (n:Nat),jl xs a/\xs.length=a.length/\s.heap.get? l=S {cls:=.type "list",data:=.seq a.toArray n}:=by
 obtain⟨z,a,n,r,e⟩:=I.hok l _ c;exact#[z,a,n,r,r.length,e]
end
section
variable{X:Cx}
noncomputable def G8:V->L V->Hp->VK->Prop:=λx b H Q=>∃l a y,x=.ref l/\b=[y]/\H l=S (.lst a)/\a.length<sizeLine/\Q .non (upd H l (.lst (a++[y])))
def aG:cM X "list.append" G8:=by
 intro c s o H x p v m Q I d f h;obtain⟨l,i,y,rfl,rfl,b,k,q⟩:=h;subst d;obtain⟨u,rfl,g⟩:=f.one;obtain⟨z,a,n,r,j,e⟩:=I.lstM b;refine call_meets F.slot_list_append #[_,e,rfl] F.entry_list_append (F.args_list_append_2 _ _) (PySem.list_append l a.toArray n u (by rw[uLa];lia)) #[e,?_];refine#[.non,_,I.lset (its':=a++[u]) b e (by simp) (r.append (.cons g .nil)) ?_,rfl,q];rw[vZa,uIa]
 lia
noncomputable def bD:V->L V->Hp->VK->Prop:=λx b H Q=>∃l a y,x=.ref l/\b=[]/\H l=S (.lst a)/\a[a.length-1]?=S y/\Q y (upd H l (.lst a.dropLast))
def fx:cM X "list.pop" bD:=by
 intro f s w H x A v t Q I g i h;obtain⟨l,p,y,rfl,rfl,d,j,q⟩:=h;subst g;have b:=i.zero;subst b;obtain⟨z,a,n,r,o,e⟩:=I.lstM d;obtain⟨u,k,m⟩:=r.get j;have c:a.toArray[a.toArray.size-1]?=S u:=by
  show a.toArray[a.length-1]?=S u;rw[<-Array.getElem?_toList,<-o];exact k
 refine call_meets F.slot_list_pop #[_,e,rfl] F.entry_list_pop (F.args_list_pop_1 _) (MeetsSeq.list_pop_last l a.toArray n u c (by rw[uLa];lia)) #[e,?_];refine#[y,_,I.lset (its':=a.dropLast) d e ?_ r.dropLast ?_,m,q]
 ·show a.toArray.eraseIdxIfInBounds (a.toArray.size-1)=a.dropLast.toArray;rw[uLa,List.eraseIdxIfInBounds_toArray,X0]
 ·rw[List.length_dropLast]
  lia
noncomputable def fy:R2:=λx y H Q=>∃l b c a,x=.ref l/\y=.ref b/\H l=S (.lst c)/\H b=S (.lst a)/\c.length+a.length<=sizeLine/\∀p,H p=J->Q (.ref p) (upd H p (.lst (c++a)))
def fz:jW X (binaryOp .Add) fy:=by
 intro d s w H x y v u Q I p f h;obtain⟨l,b,t,N,rfl,rfl,g,i,A,q⟩:=h;subst p;subst f;obtain⟨z,c,n,r,C,e⟩:=I.lstM g;obtain⟨F,a,M,o,k,m⟩:=I.lstM i;refine PySem.P.add_list e m ?_ (by rw[uLa,uLa];lia);have j:c.toArray++a.toArray=(c++a).toArray:=by simp
 rw[j];exact#[.ref _,_,I.lnew (t':=s.toks) (r.append o) (by rw[vZa];lia),rfl,q _ I.fresh]
end
end L2
namespace Att
open PySem.W PySem.Calls
def ints_of_wellAll:∀(c:L Int) (d:L Value),WellAll P h d (c.map WData.int)->IntsAre d c:=by
 intro c;induction c with
 |nil=>
  intro d w;rw[uJa]at w;cases w;exact .nil
 |cons n c e=>
  intro d w;rw[vWa]at w;cases w with
  |cons a b=>
   cases a;exact .cons _ _ (e _ b)
theorem script_of{l:OpenLaw}(x:l.most=S n){h:Heap}
  (e:l.row.toRowW.claim.pre b=B) (m:WellAll P h i b):
  ∃a s c,i=[Value.ref a]/\b=[WData.list (c.map WData.int)]/\h.get? a=S {cls:=.type "list",data:=.seq s.toArray}/\IntsAre s c/\c.length<=n:=by
 have o:WShape.hasAll [] b [.list .int]=B:=(pre_splitW e).1;have p:l.pre.holds [] {args:=b}=B:=(pre_splitW e).2;obtain⟨d,r,rfl,u,z⟩:=hasAllW_cons o;obtain rfl:=hasAllW_nil z;obtain⟨C,rfl,y⟩:=hasW_list u;obtain⟨c,rfl⟩:=items_int y;have f:c.length<=n:=by
  unfold OpenLaw.pre at p;have k:(WTm.not (.lt (.lit (.int (n:Int))) (.len (.arg 0)))).holds [] {args:=[.list (c.map .int)]}=B:=by
   have k:=(holds_andW p).1;rw[x]at k;exact k
  have j:=condW_of k (w_not (w_lt w_lit (w_len_list (w_arg rfl))));rw[vYa]at j;refine Nat.le_of_not_lt λq=>?_;have v:(n:Int)<((c.length:Nat):Int):=by lia
  first
   |(rw[decide_eq_true v]at j;exact vDa j (by decide))
   |(exact Zn j;lia)
 cases m with
 |cons t A=>
  cases A;cases t with
  |list w g=>exact#[_,_,c,rfl,rfl,w,ints_of_wellAll c _ g,f]
def post_true(l:OpenLaw)(a:L WData):l.row.toRowW.claim.post a (.bool B) a=B:=
 postW_of (r:=l.row.toRowW) (X:=(B==B))
  (show WShape.has [] (.bool B) .bool=B by first|rfl|decide|simp[WShape.has,WShape.arms,WShape.armsAll])
  (show(WTm.eq .res (.lit (.bool B))).value [] {args:=a,res:=S (.bool B),after:=a}=S (.bool (B==B)) from w_eq_bool (w_res rfl) w_lit) rfl
def attach_call{l:OpenLaw}{d:DefRec}
  (O:l.most=S n) (z:d.params.defaults=[])
  (call:∀(w:World) (c b:Shared) (u y:Tj) (j:Addr) (o:Obj) (F s e:Value) (a:Addr) (i:L Value) (v:L Int),
   Ground q h [] XP w c u y b.heap->P w b.heap->
   b.heap.get? j=S o->o.data=.func (docDef d.name d.params d.body d.scope F s e)->b.heap.CodeRec s d.name->u d.name=S (.ref j)->
   b.heap.get? a=S {cls:=.type "list",data:=.seq i.toArray}->IntsAre i v->v.length<=n->b.gens=#v[]->
   codeAny (model l.prog w) callerA (.call (.ref j) #[[.ref a],[]]) (λr t=>r=.ok (.ret (.bool B))/\OldK b.heap t.heap/\t.os=b.os/\AllBare t.gens) b):
  WalkO q h XP P l.row.toRowW d [] (λf i=>PySem.call f i):=by
 intro w c b u y G00 Y00 j o F s e R Q W hd x M C X N I as k H hrd A hlo;obtain rfl:R=.none:=Dflts.none M z;obtain rfl:Q=.none:=Dflts.noKw M;obtain⟨a,i,v,rfl,rfl,m,g,p⟩:=script_of O k A;refine enter_call (codeAny_mono (call w c b u y j o F s e a i v G00 Y00 W (fd_plain hd) x C m g p X) λr t hq=>?_);obtain⟨rfl,h2,T,h4⟩:=hq;exact#[.inl #[.bool B,.bool B,[],rfl,λ_=>rfl,.bool B,post_true l _,λ_=>#[List.Pairwise.nil,λ_ Z=>(nomatch Z)]],h2,T,h4]
end Att
namespace L2
theorem wo:∀{a:L Value}{b:L Int},IntsAre a b->jl (b.map V.int) a
 |_,_,.nil=>.nil
 |_,_,.cons n t h=>.cons #[t,rfl] (wo h)
noncomputable def bE(H:Hp):Prop:=∀b,H b=J\/∃o a,H b=S (.frz o (.lst a))
theorem bF{K:uXa}{c:Shared}{y:L Value}{W:L Int}
  (KX:K.In c.heap) (M:c.heap.Ns mainGlobals Z) (g:c.heap.Ns builtinsNs mb) (hbb:∀x:Str,x≠ "__name__" ->mb x=bootBuiltins x) (R:c.heap.NoLimit) (hg:c.gens=#v[])
  (ha:c.heap.get? a=S {cls:=.type "list",data:=.seq y.toArray}) (hi:IntsAre y W) (hl:W.length<=sizeLine) (hr:Room k callerA)
  (F:∀j:Heap,K.In j->j.Ns mainGlobals Z->FnOk P w K Z j CX k fa fd [x] sp) (t:∀(s:Shared) (u:Value),BindsTo s fd #[[u],[]] [(x,u)])
  (hsp:∀H:Hp,bE H->jY K H a (W.map V.int)->sp [.ref a] H (λv _=>v=.bl B) λ_ _ _=>False)
  (hCX:∀H e i,CX [] H c (λ_ _ _=>False) e i->False):
  codeAny (model P w) callerA (.call (.ref fa) #[[.ref a],[]]) (λr i=>r=.ok (.ret (.bool B))/\OldK c.heap i.heap/\i.os=c.os/\AllBare i.gens) c:=by
 have rv:=wo hi;have O:=hi.length;have p:∀H:Hp,bE H->jY K H a (W.map V.int)->JS P w H c.heap->(∀b,H b≠J->b=a)->(H a≠J->K.lookup a=J)->
   codeAny (model P w) callerA (.call (.ref fa) #[[.ref a],[]]) (λr i=>r=.ok (.ret (.bool B))/\OldK c.heap i.heap/\i.os=c.os/\AllBare i.gens) c:=by
  intro H hO hS C hA hK;have f:∀{b:Addr}{o:Obj},c.heap.get? b=S o->H b=J->(uN c.heap H).get? b=S o:=λe n=>bb e n;have noA:∀{b:Addr}{o:Obj}{Q:Array DictEntry}{I:Nat},c.heap.get? b=S o->o.data=.dict Q I->H b=J:=λ{b o Q I} e d=>by
   cases q:H b with
   |none=>rfl
   |some u=>
    have e':b=a:=hA b (by rw[q];simp);subst e';rw[ha]at e;obtain rfl:=Zj e;have d':Data.seq y.toArray _=Data.dict Q I:=d;cases d'
  have l:∀{b:Addr}{m:Tj},c.heap.Ns b m->(uN c.heap H).Ns b m:=λ{b m} ⟨o,Q,I,e,d,r⟩=>#[o,Q,I,f e (noA e d),d,r]
  have A:K.In (uN c.heap H):=λb o e=>f (KX b o e) (by
   cases q:H b with
   |none=>rfl
   |some u=>
    have e':b=a:=hA b (by rw[q];simp);subst e';rw[hK (by rw[q];simp)]at e;exact Zn e)
  have hM:Mod K Z (uN c.heap H):=#[A,l M,#[mb,l g,hbb],let⟨mc,h1,h2⟩:=R;#[mc,l h1,h2]]
  have e0:Env0 P w K Z (uN c.heap H) callerA [] c H:=#[rfl,hM,λb o e=>d9 e,Nat.le_of_eq (aj _ _),trivial,λb g=>vDa (show b∈([]:L Addr) from g) (by simp),C,.of_eq hg]
  refine codeAny_mono ((F _ A (l M)).run callerA [] c H #[[.ref a],[]] [.ref a] [.ref a] _ _ hr e0 (t c (.ref a)) (.cons rfl .nil) (hsp H hO hS)) λr i h=>?_;cases r with
  |error e=>exact(hCX H e i h).elim
  |ok fl=>
   cases fl with
   |next=>exact False.elim h
   |brk=>exact False.elim h
   |cont=>exact False.elim h
   |ret u=>
    obtain⟨v,H',os,T,un,N,r',q⟩:=h;have q':v=.bl B:=q;subst q';obtain rfl:u=Value.bool B:=r';refine#[rfl,OldK.of_keep λb o e=>?_,os,T];cases q:H b with
    |none=>exact un.keep b o e q (by intro z;exact vDa (show b∈([]:L Addr) from z) (by simp)) (by simp)
    |some u=>
     rcases hO b with z|⟨ob,xs,z⟩
     ·rw[q]at z;exact Zs z
     ·have z2:=un.frzs b ob _ z;obtain⟨e1,_⟩:=C b _ z;obtain⟨e2,_⟩:=N b _ z2;rw[e]at e1;obtain rfl:=Zj e1;exact e2
 cases hk:K.lookup a with
 |some o=>
  have e:=KX a o hk;rw[ha]at e;obtain rfl:=Zj e;refine p (λ_=>J) (λ_=>.inl rfl) (.inr #[_,y.toArray,_,hk,rfl,rfl,rfl,by rw[uLa,O];exact hl,by simpa using rv]) (λb u z=>by have X:(J:Y HO)=S u:=z;exact Zn X) (λb z=>vDa rfl z) λz=>vDa rfl z
 |none=>
  refine p (λb=>if b=a then S (.frz {cls:=.type "list",data:=.seq y.toArray} (.lst (W.map V.int)))else J) (λb=>?_) (.inl (.inr #[{cls:=.type "list",data:=.seq y.toArray},if_pos rfl])) (λb u z=>?_) (λb z=>?_) λ_=>hk
  ·by_cases g:b=a
   ·exact .inr #[_,_,if_pos g]
   ·exact .inl (if_neg g)
  ·by_cases g:b=a
   ·have X:=(if_pos g).symm.trans z;obtain rfl:=Zj X;subst g;exact#[ha,by rw[vYa];exact hl,y,_,rv,ha]
   ·have X:=(if_neg g).symm.trans z;exact Zn X
  ·by_cases g:b=a
   ·exact g
   ·exact vDa (if_neg g) z
noncomputable abbrev oG{K:uXa}(_:K.In h):uXa:=K
def dJ{l:PySem.W.OpenLaw}{n k:Nat}{q:Program}{g:L Str}{XP:(Str->Y Value)->Heap->Prop}{Q:World->Heap->Prop}{d:DefRec}{K:Params->uXa}{CX:World->Wq}{sp:World->Sp}{x:Str}
  (Z:l.most=S n) (I:n<=sizeLine) (C:d.params.defaults=[]) (hr:Room k callerA)
  (hY:∀(w:World) (h:Heap),Q w h->(K w.params).In h)
  (F:∀(w:World) (j:Tj) (r:Addr) (h:Heap),(K w.params).In h->h.Ns mainGlobals j->j d.name=S (.ref r)->
   ∃A:FuncData,(∀(s:Shared) (u:Value),BindsTo s A #[[u],[]] [(x,u)])/\
    ∀b:Heap,(K w.params).In b->b.Ns mainGlobals j->FnOk l.prog w (K w.params) j b (CX w) k r A [x] (sp w))
  (N:∀(w:World) (H:Hp) (a:Addr) (t:L Int),t.length<=n->bE H->jY (K w.params) H a (t.map V.int)->sp w [.ref a] H (λv _=>v=.bl B) λ_ _ _=>False)
  (y:∀(w:World) (H:Hp) (s:Shared) (e:Value) (z:Shared),CX w [] H s (λ_ _ _=>False) e z->False):
  PySem.W.WalkO q g XP Q l.row.toRowW d [] (λf P=>PySem.call f P):=by
 refine Att.attach_call Z C λw O p j mb r o pm cd doc a P t G00 Y00 ho hd hcd M m i c X=>?_;have R:=hY w _ Y00;obtain⟨A,hb,W⟩:=F w j r _ R G00.T.g M;exact bF R G00.T.g G00.T.b G00.T.builtins G00.T.nolimit X m i (wSa c I) hr W hb (λH hO T=>N w H a t c hO T) λH e z=>y w H p e z
noncomputable def inClass(s:Stmt)(j:Nat):Stmt:=match s with
 |.ClassDef _ _ _ a _ _ _ _ _ _ _=>a.getD j (.Pass #[0,0,0,0])
 |_=>.Pass #[0,0,0,0]
noncomputable def defArgs(s:Stmt):Arguments:=match s with
 |.FunctionDef _ a _ _ _ _ _ _ _ _=>a
 |_=>{posonlyargs:=[],args:=[],vararg:=J,kwonlyargs:=[],kw_defaults:=[],kwarg:=J,defaults:=[]}
noncomputable def defBody(s:Stmt):L Stmt:=match s with
 |.FunctionDef _ _ b _ _ _ _ _ _ _=>b
 |_=>[]
noncomputable def defScope(s:Stmt):Scope:=match s with
 |.FunctionDef _ _ _ _ _ _ a _ _ _=>a
 |_=>{kind:=.function,names:=[],isGenerator:=G,isCoroutine:=G}
noncomputable abbrev yG:Wq:=λ_ _ _ _ _ _=>False
noncomputable abbrev E0:XK:=λ_ _ _=>False
def X6:yQ yG X E0:=λ_ _ _ _ _ _ _ h=>h.elim
structure Fun (K:uXa) (x qual:Str) (st:Stmt) (f:Addr) (fd:FuncData):Prop where
 ex:∃(oc:Value) (od:Y Addr) (kV doc pm:Value) (an:Y Addr) (cdv ct:Value) (osl:Array (Y Value)),
  fd=PySem.W.fnOf x qual (defArgs st) (defBody st) (defScope st) .none kV doc pm an cdv ct/\K.lookup f=S #[oc,od,.func fd,osl]/\PySem.W.codeIn K cdv qual=B
 kp:PySem.W.keepIn K (.ref f)=B
section
variable{P:Program}{w:World}{K:uXa}{mg:Tj}{base:Heap}
def Fun.ok{x b:Str}{st:Stmt}{f:Addr}{m:FuncData}{N i:L Str}{k:Nat}{g:Sp}(F:Fun K x b st f m)(SQ:FnScope N i (defScope st))(e:∀vs H Q E,g vs H Q E->vs.length=i.length)
  (d:∀(c:Value) (A:Around) (a:L Env) (s:Shared) (H:Hp) (vs:L V) (Q:VK) (E:XK),Room k (A.deeper (envOfC b (defScope st) s.heap.objs.size f c))->g vs H Q E->
   ∃t,Jb (JL yG P w K mg base N b (defScope st) f c A a s H E).nox (defBody st) t/\t {nx:=λ_ n=>Q .non n,rt:=Q} (YW N vs) H):FnOk P w K mg base yG (k+1) f m i g:=by
 obtain⟨C,v,kV,p,I,y,c,z,u,rfl,o,l⟩:=F.ex;refine xV o l SQ e λA a s H vs Q E r j=>?_;obtain⟨t,h,q⟩:=d c A a s H vs Q E r j;exact#[t,h.nox,q]
def Fun.binds{x a:Str}{st:Stmt}{f:Addr}{k:FuncData}{e:L Str}(F:Fun K x a st f k)
  (h:∀(kV b d:Value) (j:Y Addr) (c i:Value) (g:L Value),g.length=e.length->bindArgs (PySem.W.fnOf x a (defArgs st) (defBody st) (defScope st) .none kV b d j c i) #[g,[]]=pure (e.zip g)):Jo K k e []:=by
 obtain⟨n,p,kV,b,d,j,c,i,l,rfl,o,m⟩:=F.ex;exact .all (h kV b d j c i)
def aH{x a:Str}{st:Stmt}{f:Addr}{m:Value}{j h:Y Addr}{e:Array (Y Value)}{kV d g b i:Value}(l:K.lookup f=S #[m,j,.func (PySem.W.fnOf x a (defArgs st) (defBody st) (defScope st) .none kV d g h b i),e])
  (c:PySem.W.codeIn K b a=B) (k:PySem.W.keepIn K (.ref f)=B):Fun K x a st f (PySem.W.fnOf x a (defArgs st) (defBody st) (defScope st) .none kV d g h b i):=#[#[m,j,kV,d,g,h,b,i,e,rfl,l,c],k]
end
def aI(h:n<=1000):n<sizeLine:=Nat.lt_of_le_of_lt h (by decide)
def pv(i:Nat)(b:X.N[i]?=S x:=by rfl)(d:UJ X.env.scope x:=by first|exact Or.inl rfl|exact Or.inr (Or.inl rfl)|exact Or.inr (Or.inr rfl))(c:(x==("__debug__" : Str))=G:=by decide)
  (a:(x==("__classdict__" : Str))=G:=by decide):PE X (.Name x e) (yf i):=vQ b d c a
def Za{A By:Prop}(h:By):if G=B then A else By:=by
 rw[if_neg Bool.false_ne_true];exact h
def Zb{A By:Prop}(h:A):if B=B then A else By:=by
 rw[if_pos rfl];exact h
noncomputable def j4(H a:Hp):Prop:=∀b o,H b=S o->a b=S o
def j4.refl(H:Hp):j4 H H:=λ_ _ h=>h
def j4.trans(a:j4 H d)(b:j4 d e):j4 H e:=λc o h=>b c o (a c o h)
def j4.free(e:j4 H a)(h:a l=Option.none):H l=Option.none:=by
 cases q:H l with
 |none=>rfl
 |some o=>
  rw[e l o q]at h;exact Zs h
def j4.seq{K:uXa}{H b:Hp}{a:Addr}{c:L V}(e:j4 H b)(h:jY K H a c):jY K b a c:=by
 rcases h with(h|⟨o,h⟩)|h
 ·exact .inl (.inl (e _ _ h))
 ·exact .inl (.inr #[o,e _ _ h])
 ·exact .inr h
end L2
namespace L2
noncomputable def zf(b:Env):L (Str×NameKind)->L (Str×Addr)->L (Str×Addr)
 |[],c=>c
 |(n,k)::r,c=>zf b r (if k==.free then(match b.cells.lookup n with|S a=>(n,a)::c|none=>c)else c)
theorem Kl:∀{ns g},(∀x c,g.lookup x=S c->b.cells.lookup x=S c)->∀x c,(zf b ns g).lookup x=S c->b.cells.lookup x=S c
 |[],_,h,x,c,e=>h x c e
 |(n,k)::r,g,h,x,c,e=>by
  refine Kl (ns:=r) ?_ x c e;intro y d q;by_cases j:(k==NameKind.free)=B
  ·rw[if_pos j]at q;cases f:b.cells.lookup n with
   |none=>rw[f]at q;exact h y d q
   |some a=>
    rw[f]at q;rw[List.lookup_cons]at q;cases i:(y==n)with
    |true=>
     rw[i]at q;have l:y=n:=by simpa using i
     have m:a=d:=by simpa using q
     rw[l,f,m]
    |false=>rw[i]at q;exact h y d q
  ·rw[if_neg j]at q;exact h y d q
theorem wq:∀{ns b x},(∃c,b.lookup x=S c)->∃c,(zf d ns b).lookup x=S c
 |[],_,_,h=>h
 |(n,k)::r,b,x,h=>by
  refine wq (ns:=r) ?_;by_cases e:(k==NameKind.free)=B
  ·rw[if_pos e];cases g:d.cells.lookup n with
   |none=>exact h
   |some a=>
    show∃c,((n,a)::b).lookup x=S c;rw[List.lookup_cons];cases f:(x==n)with
    |true=>exact#[a,rfl]
    |false=>exact h
  ·rw[if_neg e];exact h
theorem GG:∀{ns f x},(x,NameKind.free)∈ns->(∃c,b.cells.lookup x=S c)->∃c,(zf b ns f).lookup x=S c
 |(n,k)::r,f,x,d,a=>by
  rcases uTa d with e|d
  ·cases e;obtain⟨c,a⟩:=a;refine wq (ns:=r) ?_;rw[if_pos (by rfl)];rw[a];exact#[c,by simp]
  ·exact GG (ns:=r) d a
def Km(h:∀y∈d.names,y.2=.free->∃c,b.cells.lookup y.1=S c):closureFor d b=pure (zf b d.names []):=by
 have go:∀(i e),(∀y∈i,y.2=.free->∃c,b.cells.lookup y.1=S c)->
   (forIn i e λx r=>(match x with
    |(f,j)=>if(j==NameKind.free)=B then(do let a<-cellOf b f;pure (ForInStep.yield ((f,a)::r)))else pure (ForInStep.yield r)))=pure (zf b i e):=by
  intro i;induction i with
  |nil=>intro e _;rfl
  |cons p r t=>
   obtain⟨n,k⟩:=p;intro e o;rw[List.forIn_cons];by_cases g:(k==NameKind.free)=B
   ·obtain⟨c,u⟩:=o _ wNa (by simpa using g);have v:cellOf b n=pure c:=by unfold cellOf;rw[u]
    have s:zf b ((n,k)::r) e=zf b r ((n,c)::e):=by
     show zf _ r _=_;rw[if_pos g,u]
    dsimp only;rw[if_pos g,v,s,<-t _ λy l=>o y (List.mem_cons_of_mem _ l)];rfl
   ·have s:zf b ((n,k)::r) e=zf b r e:=by
     show zf _ r _=_;rw[if_neg g]
    dsimp only;rw[if_neg g,s,<-t e λy l=>o y (List.mem_cons_of_mem _ l)];rfl
 exact(congrArg (λm=>m >>= λr=>(pure r)) (go _ [] h)).trans rfl
noncomputable def Cx.comp(X:Cx)(d:L _)(a:Scope)(c:Shared)(e:Hp)(b:L _):=
 {X with N:=d,s₀:=c,H₀:=e,env:=compEnvC a (zf X.env a.names []) c.heap.objs.size X.env,outer:=X.stack,stack:=X.stack,ex:=b,fn:=λ_=>G,pn:=[],xe:=λ_ _=>False}
inductive Caps (X:Cx) (scope:Scope):L (Str×Nat)->Prop
 |nil:Caps X _ []
 |cons {j r}:X.N[j]?=S y->(X.env.kindOf y=S .cell\/X.env.kindOf y=S .free)->scope.names.lookup y=S .free->Caps X _ r->Caps X _ ((y,j)::r)
theorem Caps.get:∀{caps}{k:Nat}{y j},Caps X d caps->caps[k]?=S (y,j)->
  X.N[j]?=S y/\(X.env.kindOf y=S .cell\/X.env.kindOf y=S .free)/\d.names.lookup y=S .free
 |_,_,_,_,.nil,e=>Zn e
 |_,0,_,_,.cons a b c _,e=>by simp at e;obtain⟨rfl,rfl⟩:=e;exact#[a,b,c]
 |_,k+1,_,_,.cons _ _ _ t,e=>Caps.get t (by simpa using e)
noncomputable abbrev cN(own:L _)(caps:Tv):=own++caps.map (·.1)
noncomputable abbrev uh(own:L Str)(caps:Tv)(a:St):St:=own.map (λ_=>J)++caps.map λp=>(a[p.2]?).join
noncomputable def ZX(X)(d:L _)(t:TT):=
 ∀(a s) (b:St) (H Q),Inv X a b H s->t b H Q->
  wpAny (model X.prog X.w) X.A (forIn d B λc r=>if r=B then do let e<-isTrue c X.env (eval c X.env);pure (ForInStep.yield e)else pure (ForInStep.yield r)) (TP X a b Q) X.xe s
noncomputable def IV:TT:=λ_ H Q=>Q B H
def dQ:ZX X [] IV:=λ_ _ _ H _ I h=>wpAny_tests_nil #[H,I,h]
def dR(h:PT X c t):ZX X [c] t:=λa s b H Q I q=>wpAny_tests_one (h _ s b H Q I q)
def UO(h:(relabel b a).names.lookup x=S k):∃c,b.names.lookup x=S c/\(k=c\/(c=.free/\k=.cell)):=by
 have go:∀g:L _,(g.map λ(n,k)=>if(k==NameKind.free&&a.scope.kind==.function&&a.kindOf n==S .cell)then(n,NameKind.cell)else(n,k)).lookup x=S k->
   ∃c,g.lookup x=S c/\(k=c\/(c=.free/\k=.cell)):=by
  intro g;induction g with
  |nil=>intro q;exact Zn q
  |cons p r j=>
   obtain⟨n,d⟩:=p;intro q;have q:List.lookup x ((if(d==NameKind.free&&a.scope.kind==.function&&a.kindOf n==S _)=B then(n,NameKind.cell)else(n,d))::(r.map λ(n,k)=>if(k==NameKind.free&&a.scope.kind==.function&&a.kindOf n==S .cell)then(n,NameKind.cell)else(n,k)))=S k:=q;by_cases i:(d==NameKind.free&&a.scope.kind==.function&&a.kindOf n==S .cell)=B
   ·rw[if_pos i,List.lookup_cons]at q;rw[List.lookup_cons];cases f:(x==n)with
    |true=>
     rw[f]at q;have e:NameKind.cell=k:=by simpa using q
     refine#[d,rfl,.inr #[?_,e.symm]];simp only[Bool.and_eq_true]at i;simpa using i.1.1
    |false=>rw[f]at q;exact j q
   ·rw[if_neg i,List.lookup_cons]at q;rw[List.lookup_cons];cases f:(x==n)with
    |true=>
     rw[f]at q;have e:d=k:=by simpa using q
     exact#[d,rfl,.inl e.symm]
    |false=>rw[f]at q;exact j q
 exact go _ h
noncomputable def WA(k)(a:It)(f)(g:TG)(s:TT)(r:TE)(n:VK)(W:Nat->Nat->L V->Hp->Prop):=∀i m d H,W i m d H->
  (a.stop i H/\d.length<=sizeLine/\∀D,H D=J->n (.ref D) (upd H D (.lst d)))\/
  (a.go i H/\d.length<sizeLine/\∃N:L V->Hp->Prop,(∀h e,N h e->∃l,l<m/\W (i+1) l h e)/\
   ∀x e,a.yld i H x e->g x f e λc p=>c.drop k=f.drop k/\s c p λb j=>if b=B then r c j λy o=>N (d++[y]) o else N d j)
def dS(g:∀y∈a.names,y.2≠.cell)(i:a.kind=.function)
  (s:∀y∈a.names,y.2=.free->X.env.kindOf y.1=S .cell\/X.env.kindOf y.1=S .free)
  (I:Inv X m N H t) (j:∀b∈n,b<t.heap.objs.size/\JE X m H b):(X.comp (cN own caps) a t H n).Ok:=by
 have d:∀x c,(zf _ a.names []).lookup x=S c->X.env.cells.lookup x=S c:=Kl λ_ _ e=>Zn e;refine#[I.ok.mod,i,I.ok.glob,I.ok.blt,wPa _,λx y c F A=>I.ok.inj x y c (d x c F) (d y c A),λx l=>?_,λ_ _ z=>(Zf z),I.ok.hd,I.ok.frames,.inl rfl,λb f=>#[wTa (j b f).1,λx c h=>(j b f).2.2.2.2.2.1 x c (d x c h)],
  I.bs,wSa I.ok.bsz I.sz,λb o e f=>?_,λb f w=>?_,I.stack,I.stkFree]
 ·have q:∃k,(relabel a X.env).names.lookup x=S k/\(k=.cell\/k=.free):=by
   rcases l with l|l
   ·exact#[_,l,.inl rfl]
   ·exact#[_,l,.inr rfl]
  obtain⟨k,q,v⟩:=q;obtain⟨C,u,r⟩:=UO q;have p:=PySem.mem_of_lookup u;have M:C=.free:=by
   rcases r with e|e
   ·rcases v with z|z
    ·exact vDa (e.symm.trans z) (g _ p)
    ·simp_all
   ·exact e.1
  subst M;exact GG p (I.ok.has x (s _ p rfl))
 ·rcases(j b f).2.2.2.2.1 with z|z
  ·exact I.ok.noex b o e z
  ·exact vDa (Nat.lt_of_lt_of_le (wLa e) (wSa I.ok.bsz z)) (wUa _)
 ·rcases uTa (I.stkSub b w)with z|z
  ·exact(j b f).2.2.1 z
  ·exact(j b f).2.2.2.1 z
def X7(k:∀y∈a.names,y.2≠.cell)(h:a.kind=.function)
  (O:∀y∈a.names,y.2=.free->X.env.kindOf y.1=S .cell\/X.env.kindOf y.1=S .free) (w:Caps X a caps)
  (I:Inv X A F H n) (hf:∀b∈W,b<n.heap.objs.size/\JE X A H b) {t} (hn:Z.Ns n.heap.objs.size m) (C:∀b o,n.heap.get? b=S o->Z.get? b=S o):
  Inv (X.comp (cN own caps) a n H W) [] (uh own caps F) H {n with heap:=Z,toks:=t}:=by
 have g:∀x c,(zf _ a.names []).lookup x=S c->X.env.cells.lookup x=S c:=Kl λ_ _ e=>Zn e;have ok:=dS (own:=own) (caps:=caps) k h O I hf;refine#[ok,rfl,I.bare,Un.kept C,#[m,hn,λi x v f d e3=>?_],λx c e=>?_,I.hok.fresh (wPa _),λx c e=>I.freeC x c (g x c e),λp hp=>vDa (show p∈([]) from hp) (by simp),I.hok.kept C,by simp[Cx.comp,cN]]
 ·by_cases N:i<own.length
  ·rw[uRa (by simpa using N),uAa]at d;cases q:own[i]? with
   |none=>rw[q]at d;exact Zn d
   |some _=>rw[q]at d;cases d
  ·have f:(own++caps.map _)[i]?=S x:=f;rw[List.getElem?_append_right (by simpa using N),uAa]at d;rw[List.getElem?_append_right (by simpa using N),uAa]at f;rw[vYa]at d;cases q:caps[i-own.length]? with
   |none=>rw[q]at f;exact Zn f
   |some p=>
    obtain⟨y,j⟩:=p;rw[q]at f d;have f:=vFa f;subst f;have d:(F[j]?).join=S v:=vFa d;obtain⟨a1,a2,a3⟩:=w.get q;have sj:F[j]?=S (S v):=by
     cases z:F[j]? with
     |none=>rw[z]at d;exact Zn d
     |some M=>rw[z]at d;exact congrArg _ d
    obtain⟨m0,hn0,R⟩:=I.loc;have P:UJ X.env.scope y:=by
     rcases a2 with z|z
     ·exact .inr (.inl z)
     ·exact .inr (.inr z)
    obtain⟨u,r,l⟩:=R j y v a1 sj P;refine#[u,r,.inr #[?_,?_]]
    ·rcases e3 with z|z
     ·obtain⟨k0,q0,UQ⟩:=UO z;rw[a3]at q0;obtain rfl:=Zj q0;rcases UQ with M|M
      ·cases M
      ·cases M.2
     ·exact z
    ·rcases l with⟨hk',_⟩|⟨_,c,hc,z⟩
     ·simp_all
     ·obtain⟨c',s⟩:=GG (PySem.mem_of_lookup a3) #[c,hc];have:=g y c' s;rw[hc]at this;obtain rfl:=Zj this;obtain⟨o,Q,T⟩:=z;exact#[c,s,o,C c o Q,T]
 ·obtain⟨v,o,Q,T⟩:=I.cell x c (g x c e);exact#[v,o,C c o Q,T]
def JS.adopt(x:JS P w H h)(d:H D=J)(i:g.length<=sizeLine)(r:jl g f)(e:h.get? D=S {cls:=.type "list",data:=.seq f.toArray k}):JS P w (upd H D (.lst g)) h:=λb u q=>by
 by_cases a:b=D
 ·subst a;rw[jj]at q;obtain rfl:=Zj q;exact#[i,f,k,r,e]
 ·rw[ja a]at q;exact(x b u q).stay (λ_ _ _ z=>z) (λc z=>by rw[ja (jy z d)];exact z) λc j _ z=>by rw[ja (jy z d)];exact z
def aJ(I:Inv X pins A H i)(O:D<i.heap.objs.size)(c:JE X pins H D)(y:∀b∈h,JE X pins H b)
  (a:Inv (X.comp N f i H (D::h)) [] s m l) (p:m D=J) (M:j.length<=sizeLine) (r:jl j C) (e:l.heap.get? D=S {cls:=.type "list",data:=.seq C.toArray k}):
  Inv X pins A (upd m D (.lst j)) l:=by
 have u:=a.base;have w:∀b,b∉D::h->b≠D:=λb d z=>d (by simp_all);refine I.call' a.os #[u.keep,u.slot,λb o q n g=>?_,u.there,λb t q=>?_,λb o v q=>?_,λb x q=>?_] (a.hok.adopt p M r e) a.bare λb d=>?_
 ·rw[ja (w b g)];exact u.free b o q n g
 ·rw[ja (jy q c.1)];exact u.tups b t q
 ·rw[ja (jy q c.1)];exact u.frzs b o v q
 ·rw[ja (jy q c.1)];exact u.tbls b x q
 ·have F:JE X pins H b:=by
   rcases uTa d with z|z
   ·rw[z];exact c
   ·exact y b z
  exact#[F.2.2.2.1,F.2.1,F.2.2.2.2.1,F.2.2.2.2.2]
structure TurnX (X tg) (J00:It) (fp:L Addr) (it) (tn:Nat->Heap->Prop) where
 item:∀(i pins s) (U:St) (H E),Inv X pins U H s->(∀b∈fp,JE X pins H b)->tn i s.heap->J00.go i H->
  wpAny (model X.prog X.w) X.A (pyNext (.ref it)) (λr s1=>∃u,r=S u/\
   wpAny (model X.prog X.w) X.A (letOwnedTupleGo tg (.ref it) u) (λ_ s2=>∃x H',Inv X pins U H' s2/\jp x u/\J00.yld i H x H'/\tn (i+1) s2.heap/\∀b∈fp,H' b=J) E s1) E s
 done:∀(i pins s) (U:St) (H E),Inv X pins U H s->(∀b∈fp,JE X pins H b)->tn i s.heap->J00.stop i H->
  wpAny (model X.prog X.w) X.A (pyNext (.ref it)) (λr s1=>r=J/\Inv X pins U H s1) E s
def Turn.at{d a c e b}(T:Turn X.prog X.w X.K d a c e b)(f:X.calm=B):TurnX X d a c e b:=#[T.item X rfl rfl rfl f,T.done X rfl rfl rfl f]
def dT{C:Addr}(TX:TurnX (X.comp (cN s h) t s2 H (D::A)) tg c A it tn)
  (hg:∀s3 H3 ex',PG (X.comp (cN s h) t s3 H3 ex') tg g) (ht:∀s3 H3 ex',ZX (X.comp (cN s h) t s3 H3 ex') ifs tc) (he:∀s3 H3 ex',PE (X.comp (cN s h) t s3 H3 ex') elt te)
  (I:Inv X pins U H s2) (hD:D<s2.heap.objs.size) (fD:JE X pins H D) (nDf:D∉A) (hfl:∀b∈A,b<s2.heap.objs.size) (hf:∀b∈A,JE X pins H b) (T:Turn X.prog X.w X.K tg c A it tn) (turn:WA s.length c (uh s h U) g tc te Qv W)
  (R:Result->Shared->Prop) (hR:∀P,(∃w m,Inv X pins U w P/\P.heap.Ns s2.heap.objs.size m/\JE X pins w s2.heap.objs.size/\Qv (.ref D) w)->R (.ok .next) P)
  (n:Nat) (s4:Shared) (st:∃i vs w M k,Inv (X.comp (cN s h) t s2 H (D::A)) [] (uh s h U) w s4/\tn i s4.heap/\(∀b∈A,w b=J)/\w D=J/\
   s4.heap.get? D=S {cls:=.type "list",data:=.seq (M:L Value).toArray k}/\jl vs M/\W i n vs w):
  codeAny (model X.prog X.w) X.A (.compLoop (.ListComp elt [#[tg,iter,ifs,0]] t pos) 0 (.ref it) (.ref D) (X.comp (cN s h) t s2 H (D::A)).env) R s4:=by
 let a:=X.comp (cN s h) t s2 H (D::A)
 have stat:∀{w:Hp},w D=J->(∀b∈A,w b=J)->∀P:Shared,∀Z,Inv a [] Z w P->∀b∈D::A,JE a [] w b:=λ{w} h0 h1 P Z I' b F=>by
  have hb':b<s2.heap.objs.size:=by
   rcases uTa F with z|z
   ·rw[z];exact hD
   ·exact hfl b z
  refine#[?_,wTa hb',I'.ok.exfs b F,.inl F,(I'.ok.exf b F).2,λp hp=>vDa (show p∈([]:Tq) from hp) (by simp)];rcases uTa F with z|z
  ·rw[z];exact h0
  ·exact h1 b z
 refine codeAny_loop rfl (λn P=>∃i vs w M k,Inv a [] (uh s h U) w P/\tn i P.heap/\(∀b∈A,w b=J)/\w D=J/\
   P.heap.get? D=S {cls:=.type "list",data:=.seq (M:L Value).toArray k}/\jl vs M/\W i n vs w) ?_ n st
 rintro n s3 ⟨i,vs,H3,M,k,I3,st3,fr3,n3,g3,r3,w3⟩;refine wpAny_noted ?_;rw[compTurn_list];have F0:=stat n3 fr3 s3 _ I3;have pinD:∀{Z:St}{w:Hp}{P:Shared}{ps:Tq}{zs:L Value}{kk:Nat},Inv a ps Z w P->w D=J->P.heap.get? D=S {cls:=.type "list",data:=.seq zs.toArray kk}->Inv a (ps++[(D,{cls:=.type "list",data:=.seq zs.toArray kk})]) Z w P:=λ{Z w P ps zs kk} I' hn hg'=>
  I'.pins_of λp hp=>(uWa hp).elim (λz=>I'.pin p (vJa _ z)) λz=>by
   have e:p=(D,{cls:=.type "list",data:=.seq zs.toArray kk}):=by simpa using z
   subst e;have f:=(stat n3 fr3 s3 _ I3) D wNa;exact#[hg',hn,f.2.1,f.2.2.1,λv z=>by cases z]
 have I3p:=pinD I3 n3 g3;have F3:∀b∈A,JE a ([]++[(D,{cls:=.type "list",data:=.seq M.toArray k})]) H3 b:=λb F=>by
  obtain⟨f0,f1,f2,f3,f4,f5⟩:=F0 b (wMa _ F);refine#[f0,f1,f2,f3,f4,λp hp z=>?_];have e:p=(D,{cls:=.type "list",data:=.seq M.toArray k}):=by simpa[a,Cx.comp]using hp
  subst e;exact nDf (by rw[show D=b from z];exact F)
 rcases turn i n vs H3 w3 with⟨stop,hl,q⟩|⟨go,hl,N,hN,step⟩
 ·refine wAa (vOa (wAa (wCa (TX.done i _ s3 _ H3 (λ_ _=>False) I3p F3 st3 stop) (λr s5 h5=>?_) λ_ _ z=>z.elim)));obtain⟨hr,I5p⟩:=h5;subst hr;refine wBa (hR s5 ?_);have g5:s5.heap.get? D=S {cls:=.type "list",data:=.seq M.toArray k}:=(I5p.pin (D,_) (by simp)).1;have I5:Inv a [] (uh s h U) H3 s5:=I5p.unpinned (pins:=[]);obtain⟨m5,hm5,_⟩:=id I5.loc;refine#[_,m5,aJ I hD fD hf I5 n3 hl r3 g5,hm5,I.fpOk (wPa _) ?_,q D n3];rw[ja (Nat.ne_of_gt hD)];exact I5.free
 ·refine wAa (vOa (wAa (wCa (TX.item i _ s3 _ H3 (λ_ _=>False) I3p F3 st3 go) (λr s5 h5=>?_) λ_ _ z=>z.elim)));obtain⟨u,hr,h5⟩:=h5;subst hr;refine wAa (wCa h5 (λ_ s6 h6=>?_) λ_ _ z=>z.elim);obtain⟨x,H6,I6,r6,y6,st6,fr6⟩:=h6;have F6:∀b∈A,JE a ([]++[(D,{cls:=.type "list",data:=.seq M.toArray k})]) H6 b:=λb F=>#[fr6 b F,(F3 b F).2]
  have I6':=I6.pinned F6 (T.obj _ _ st6);refine wAa (wCa (hg s2 H (D::A) _ s6 _ H6 x u _ I6' r6 (step x H6 y6)) (λ_ s7 h7=>?_) λ_ _ z=>z.elim);obtain⟨UQ,H7,I7,d7,q7⟩:=h7;refine wAa (wCa (ht s2 H (D::A) _ s7 UQ H7 _ I7 q7) (λb s8 h8=>?_) λ_ _ z=>z.elim);obtain⟨H8,I8,q8⟩:=h8;have fin:∀{O:Shared}{Q:Hp} {vs':L V}{zs:L Value}{kk:Nat},Inv a [] UQ Q O->tn (i+1) O.heap->(∀b∈A,Q b=J)->Q D=J->O.heap.get? D=S {cls:=.type "list",data:=.seq zs.toArray kk}->jl vs' zs->N vs' Q->
    ∃m,m<n/\∃i vs w M k,Inv a [] (uh s h U) w O/\tn i O.heap/\(∀b∈A,w b=J)/\w D=J/\O.heap.get? D=S {cls:=.type "list",data:=.seq (M:L Value).toArray k}/\jl vs M/\W i m vs w:=λ{O Q vs' zs kk} I9 st9 fr9 n9 g9 r9 w9=>by
   obtain⟨m',hm,w'⟩:=hN vs' Q w9;refine#[m',hm,i+1,vs',Q,zs,kk,?_,st9,fr9,n9,g9,r9,w'];have l9:UQ.length=(uh s h U).length:=I9.len.trans (by simp[a,Cx.comp,cN,uh]);refine I9.weak l9.symm λj v e=>?_;by_cases hj:j<s.length
   ·rw[uRa (by simpa using hj),uAa]at e;cases q:s[j]? with
    |none=>rw[q]at e;exact Zn e
    |some _=>rw[q]at e;cases e
   ·have z:=congrArg (λl=>l[j-s.length]?) d7;simp only[List.getElem?_drop]at z;have ej:s.length+(j-s.length)=j:=by omega
    rw[ej]at z;exact z.trans e
  have pins8:∀{O:Shared}{Q:Hp},Inv a ([]++[(D,{cls:=.type "list",data:=.seq M.toArray k})]++kw A s6.heap) UQ Q O->tn (i+1) O.heap/\(∀b∈A,Q b=J)/\Q D=J/\O.heap.get? D=S {cls:=.type "list",data:=.seq M.toArray k}:=λ{O Q} I9=>by
   refine#[T.keep _ _ _ st6 λb F o e=>(I9.pin (b,o) (vJa _ (vJa _ (vq F e)))).1,λb F=>?_,(I9.pin (D,{cls:=.type "list",data:=.seq M.toArray k}) (vJa _ (vIa _ (by simp)))).2.1,(I9.pin (D,{cls:=.type "list",data:=.seq M.toArray k}) (vJa _ (vIa _ (by simp)))).1];obtain⟨o,e,d⟩:=T.obj _ _ st6 b F;exact(I9.pin (b,o) (vJa _ (vJa _ (vq F e)))).2.1
  cases b with
  |false=>
   obtain⟨a1,a2,a3,a4⟩:=pins8 I8;exact wBa #[rfl,fin (I8.unpinned.unpinned) a1 a2 a3 a4 r3 q8]
  |true=>
   refine wAa (wAa (wCa (he s2 H (D::A) _ s8 UQ H8 _ I8 q8) (λy O h9=>?_) λ_ _ z=>z.elim));obtain⟨v9,Q,I9,r9,q9⟩:=h9;obtain⟨a1,a2,a3,a4⟩:=pins8 I9;have hlz:M.toArray.size<=sizeLine:=by
    have:=r3.length;simp only[List.size_toArray];omega
   refine wAa (wpAny_list_append_plain (hsz:=hlz) #[k,a4] λh' hp sb=>wBa (wBa #[rfl,?_]));obtain⟨k',g'⟩:=hp;have I9':Inv a [] UQ Q O:=I9.unpinned.unpinned;have F9:=stat a3 a2 O _ I9' D wNa;obtain⟨f0,f1,f2,f3,f4,f5⟩:=F9;have I10:Inv a [] UQ Q {O with heap:=h'}:=I9'.turned (t':=O.toks) (λb o F e=>(sb.2 b F).trans e) f0 f1 f3 f4 f5;refine fin (zs:=M++[y]) (kk:=k') I10 (T.keep _ _ _ a1 λb F o e=>(sb.2 b λz=>nDf (by rw[<-z];exact F)).trans e) a2 a3 ?_ (r3.append (.cons r9 .nil)) q9;rw[g'];simp
structure CScope (X:Cx) (scope:Scope) where
 kind:scope.kind=.function
 loc:(scope.names.all λy=>y.2 != .local||scope.names.lookup y.1==S .local)=B
 nocell:(scope.names.all λy=>y.2 != .cell)=B
 free:(scope.names.all λy=>y.2 != .free||X.env.scope.names.lookup y.1==S .cell||X.env.scope.names.lookup y.1==S .free)=B
section
variable{X:Cx}{elt tg iter:Expr}{ifs:L Expr}{scope:Scope}{pos:Pos}{own:L Str}{caps:Tv}{g:TG}{tc:TT}{te:TE}{pins:Tq}{U:St}{H:Hp}{s2:Shared}{UQ:It}{fp:L Addr}{it:Addr}{tn:Nat->Heap->Prop}{Qv:VK}
def CScope.l(a:CScope X scope):∀x∈scope.names,x.2=.local->scope.names.lookup x.1=S .local:=λx b e=>by
 have:=List.all_eq_true.mp a.loc x b;rw[e]at this;simpa using this
def CScope.c(a:CScope X scope):∀x∈scope.names,x.2≠.cell:=λx b e=>by
 have:=List.all_eq_true.mp a.nocell x b;rw[e]at this;exact Zf this
def CScope.f(a:CScope X scope):∀y∈scope.names,y.2=.free->X.env.kindOf y.1=S .cell\/X.env.kindOf y.1=S .free:=λx b e=>by
 have:=List.all_eq_true.mp a.free x b;rw[e]at this;simpa[Env.kindOf]using this
def Kn{P:Value->Addr->Result->Shared->Prop}(a:CScope X scope)(p:Caps X scope caps)(Q:∀c d,Inv X pins U H c->(∀b∈d,b<c.heap.objs.size/\JE X pins H b)->TurnX (X.comp (cN own caps) scope c H d) tg UQ fp it tn)
  (hg:∀c r d,PG (X.comp (cN own caps) scope c r d) tg g) (ht:∀c r d,ZX (X.comp (cN own caps) scope c r d) ifs tc) (he:∀c r d,PE (X.comp (cN own caps) scope c r d) elt te)
  (I:Inv X pins U H s2) (T:Turn X.prog X.w X.K tg UQ fp it tn) (st:tn 0 s2.heap) (O:∀b∈fp,JE X pins H b)
  (w:∃W,(∃m,W 0 m [] H)/\WA own.length UQ (uh own caps U) g tc te Qv W)
  (M:∀D C u n m,Inv X pins U n u->u.heap.Ns C m->JE X pins n C->Qv (.ref D) n->P (.ref D) C (.ok .next) u):
  wpAny (model X.prog X.w) X.A (newList []) (λs c=>wpAny (model X.prog X.w) X.A (newFunctionEnv scope X.env.globals (zf X.env scope.names []) [] X.env.qual J .none (S X.env)) (λi s4=>
   codeAny (model X.prog X.w) X.A (.compStart (.ListComp elt [#[tg,iter,ifs,0]] scope pos) 0 (.ref it) s {i with scope:=relabel scope X.env}) (P s i.locals) s4) E c) E s2:=by
 obtain⟨W,⟨m0,w0⟩,l⟩:=w;refine vTa (wpAny_newFunctionEnv a.c (by simp) (λh1 A N=>?_) a.kind);have k:∀b∈fp,b<s2.heap.objs.size:=λb f=>by
  obtain⟨o,e,_⟩:=T.obj _ _ st b f;exact wLa e
 let c:={s2 with heap:=s2.heap.push {cls:=.type "list",dict:=J,data:=.seq ([]).toArray} }
 have e3:c.heap.objs.size=s2.heap.objs.size+1:=Heap.size_push ..;have y:Inv X _ U H c:=I.kept λb o e=>wIa _ e;have v:=I.fpOk (wPa _) (I.hok.fresh (wPa _));have F:=λb o e=>N.extBut b o (wTa (wLa e)) (wIa _ e);have x:s2.heap.objs.size<c.heap.objs.size:=by simp_all
 have j:=λb f=>Nat.lt_trans (k b f) x;have I4:Inv (X.comp (cN own caps) scope c H (s2.heap.objs.size::fp)) [] (uh own caps U) H {c with heap:=h1,toks:=s2.toks+([]:L (Str×Value)).length}:=by
  refine X7 a.c a.kind a.f p y (λb f=>?_) A F;rcases uTa f with z|z
  ·rw[z];exact#[x,v]
  ·simp_all
 have t:=T.keep _ _ _ st λb f o e=>F b o (wIa _ e);have g4:=F _ _ (wJa _ rfl);have h:=dT (C:=0) (iter:=iter) (pos:=pos) (Q c _ y (λb f=>(uTa f).elim (λz=>by rw[z];exact#[x,v]) λz=>#[j b z,O b z])) hg ht he y x v (λz=>wUa _ (k _ z)) j O T l _ (λu ⟨n,m,R,a2,a3,Z⟩=>M _ _ u n m R a2 a3 Z) m0
  _ #[0,[],H,[],0,I4,t,λb f=>(O b f).1,v.1,g4,.nil,w0]
 exact codeAny_compStart_list h (T.self _ 0 _ _ _ t h)
noncomputable def cP(own:L Str)(caps:Tv)(a:TI)(g:TG)(tc:TT)(te:TE):TE:=λU H Q=>a U H λUQ b=>∃W,(∃m,W 0 m [] b)/\WA own.length UQ (uh own caps U) g tc te Q W
def IW(own caps)(a:CScope X scope)(i:Caps X scope caps)(u:X.calm=B)(hi:PI X tg iter l)
  (W:∀d f c,PG (X.comp (cN own caps) scope d f c) tg g) (R:∀d f c,ZX (X.comp (cN own caps) scope d f c) ifs tc) (P:∀d f c,PE (X.comp (cN own caps) scope d f c) elt te)
  (t:∀x,foldedSetIterable iter X.env x=pure x:=by intro _;rfl):PE X (.ListComp elt [#[tg,iter,ifs,0]] scope pos) (cP own caps l g tc te):=by
 intro pins s U H Q I h;refine wpAny_comprehension_free rfl t (Km λy n e=>I.ok.has _ (a.f y n e)) a.kind a.l (jv (hi _ s U H _ I h) λxv s1 Z=>jv Z λitv s2 h2=>?_);obtain⟨it,fp,tn,UQ,H2,e,r,T,st,k,w⟩:=h2;subst e;refine Kn a i (λd c _ _=>Turn.at T u) W R P r T st k w ?_;intro D C s' v m M O j q;refine#[m,O,λh' sb=>#[.ref D,v,?_,rfl,q]];obtain⟨N,A,k,p,f4,z⟩:=j;exact M.turned (λb o F e=>(sb.2 b F).trans e) N A p f4 z
set_option tactic.hygienic true in
theorem WB(own caps)(hN:X.N.Nodup)(p:X.N[i]?=S x)(hx:Gr X.env.scope x)(c:CScope X scope)(n:Caps X scope caps)(W:X.calm=B)(hi:PI X tg iter wi)
  (Q:∀f j d,PG (X.comp (cN own caps) scope f j d) tg g) (ht:∀f j d,ZX (X.comp (cN own caps) scope f j d) ifs tc) (he:∀f j d,PE (X.comp (cN own caps) scope f j d) elt te)
  (P:∀x,foldedSetIterable iter X.env x=pure x:=by intro _;rfl)
  (u:swapsWith (.ListComp elt [#[tg,iter,ifs,0]] scope pos) (S (.Name x k)) l.line X.env=pure B:=by rfl) (hf:X.fn x=B\/X.env.scope.names.lookup x=S .local:=by first|exact .inl _|exact .inr _|assumption):
  PS X (.Assign [.Name x k] (.ListComp elt [#[tg,iter,ifs,0]] scope pos) l) (yz (cP own caps wi g tc te) (yJ i)):=by
 intro pins s U H D I h;rw[exec_Assign_Name_used _ _ _ _ u];refine wAa (vOa (wAa ?_));refine wAa (wCa (wpAny_comprehension_free rfl P (Km λy hy e=>I.ok.has _ (c.f y hy e)) c.kind c.l
  (jv (hi _ s U H _ I h) λxv s1 h1=>jv h1 λitv s2 Z=>?_)) (λ_ s' hq=>wBa (wBa hq)) λ_ _ e=>e)
 obtain⟨it,fp,tn,UQ,H2,e,I2,T,st,N,w⟩:=Z;subst e;refine Kn c n (λf d _ _=>Turn.at T W) Q ht he I2 T st N w ?_;intro A C s' H' m I' hn F q;obtain⟨f0,f1,N,O,M,R⟩:=F;refine wpAny_assign_Name (wb (v:=.ref A) I' hN p hx rfl (λs'' r v=>?_) hf);obtain⟨a,sb,ha⟩:=v;have aC:C≠a:=by
  rcases ha with z|z
  ·lia
  ·exact λe=>M x a z e.symm
 refine#[m,hn.sameBut sb aC,λh' t=>#[_,H',?_,q]];exact r.turned (λb o hb e=>(t.2 b hb).trans e) f0 f1 O M R
end
inductive Sk where
 |l|t
noncomputable def Us(K:uXa):Sk->Hp->Addr->L V->Prop
 |.l=>jY K
 |.t=>yg K
noncomputable def Jk:Sk->Heap->Addr->Array Value->Prop
 |.l,h,a,b=>h.IsList a b
 |.t,h,a,b=>h.IsTuple a b
noncomputable def Ju:Sk->Heap->Addr->Addr->Nat->Prop
 |.l,h,b,a,i=>h.IsListIter b a i
 |.t,h,b,a,i=>h.IsTupleIter b a i
def Jk.at{h h' a vs}(x:Jk k h a vs)(e:∀o,h.get? a=S o->h'.get? a=S o):Jk k h' a vs:=by
 cases k
 ·exact Heap.IsList.at x e
 ·obtain⟨o,b,r⟩:=x;exact#[o,e o b,r]
def Ju.at{h h' b a i}(x:Ju k h b a i)(e:∀o,h.get? b=S o->h'.get? b=S o):Ju k h' b a i:=by
 cases k<;>(obtain⟨o,c,r⟩:=x;exact#[o,e o c,r])
def Ju.obj(x:Ju k h c a i):∃o,h.get? c=S o/\∀v,o.data≠.cell v:=by
 cases k<;>(obtain⟨o,b,_,d⟩:=x;exact#[o,b,λv z=>by lia])
def Jk.lt(x:Jk k h a vs):a<h.objs.size:=by
 cases k<;>(obtain⟨o,b,_⟩:=x;exact wLa b)
section
variable{prog:Program}{w:World}{A:Around}{E:Tz}{s:Shared}{it a:Addr}{i:Nat}{its:Array Value}{x:Value}
def wU(e:s.heap.IsTupleIter it a i)(j:s.heap.IsTuple a its)(h:its[i]?=S x)
  (l:∀f,f.IsTupleIter it a (i+1)->Heap.SameBut it s.heap f->Q x {s with heap:=f}):wpAny (model prog w) A (Builtin.SmallTypes.nextOf (.ref it)) Q E s:=by
 obtain⟨o,c,k,b⟩:=id e;obtain⟨m,d,_,p,g⟩:=j;refine wAa (wpAny_callSpecial?_slot e.typeIs F.slot_tuple_iterator_next (wpAny_call_entry F.slot_tuple_iterator_next e.typeIs F.entry_tuple_iterator_next ?_ (F.args_tuple_iterator_next_1 _)));show wpAny _ _ (field _ 0 >>= _) _ _ s;refine wAa (wpAny_field c b rfl ?_);have n:¬((Value.ref a==Value.none)=B):=vNa;refine wAa (wpAny_field c b rfl ?_);refine wAa (wpAny_seqItems d g ?_);simp only[Int.toNat_natCast,h];refine wAa (wpAny_setField c b (by simp) (wBa #[x,rfl,wBa (l _ #[_,vUa _ c (Obj.isFreed_of_fields (Obj.data_mapFields b _)),(Obj.cls_mapFields ..).trans k,?_] (Heap.SameBut.update ..))]));rw[Obj.data_mapFields b];simp[rawInt]
def WC(j:A.handled=J)(h:s.heap.IsTupleIter it a i)(l:s.heap.IsTuple a its)(m:its[i]?=J)
  (k:∀g e,Heap.ExtBut it s.heap g->(∃o,g.get? e=S o/\o.cls=.type "StopIteration")->E (.ref e) {s with heap:=g}):wpAny (model prog w) A (Builtin.SmallTypes.nextOf (.ref it)) Q E s:=by
 obtain⟨o,d,n,f⟩:=id h;obtain⟨t,b,_,p,c⟩:=l;refine wAa (wpAny_callSpecial?_slot h.typeIs F.slot_tuple_iterator_next (wpAny_call_entry F.slot_tuple_iterator_next h.typeIs F.entry_tuple_iterator_next ?_ (F.args_tuple_iterator_next_1 _)));show wpAny _ _ (field _ 0 >>= _) _ _ s;refine wAa (wpAny_field d f rfl ?_);have r:¬((Value.ref a==Value.none)=B):=vNa;refine wAa (wpAny_field d f rfl ?_);refine wAa (wpAny_seqItems b c ?_);simp only[Int.toNat_natCast,m];refine wAa (wpAny_rule (wAa (wpAny_setField d f (by simp) ?_)));refine wAa ?_;refine wAa (vTa ?_ (by size_fits));refine wAa (wpAny_of_eq rfl (vTa ?_ (by size_fits)));refine wAa (wpAny_handled ?_)
 first|rw[show A.in1.handled=J from j]|rw[j]
 exact wAa (wBa (wpAny_throw (k _ _ (((Heap.SameBut.update ..).extBut.push _).push _) #[_,wJa _ rfl,rfl])))
def UP{Q}(e:Ju k s.heap it a i)(d:Jk k s.heap a its)(f:its[i]?=S x)
  (c:∀b,Ju k b it a (i+1)->Heap.SameBut it s.heap b->Q x {s with heap:=b}):wpAny (model prog w) A (Builtin.SmallTypes.nextOf (.ref it)) Q E s:=by
 cases k
 ·exact wpAny_nextOf_list_item e d f c
 ·exact wU e d f c
def WD(f:A.handled=J)(g:Ju k s.heap it a i)(d:Jk k s.heap a its)(h:its[i]?=J)
  (c:∀b e,Heap.ExtBut it s.heap b->(∃o,b.get? e=S o/\o.cls=.type "StopIteration")->E (.ref e) {s with heap:=b}):wpAny (model prog w) A (Builtin.SmallTypes.nextOf (.ref it)) Q E s:=by
 cases k
 ·exact wpAny_nextOf_list_end f g d h c
 ·exact WC f g d h c
noncomputable def kC(k:Sk)(a:Addr):Obj:={cls:=.type (match k with|.l=>"list_iterator" |.t=>"tuple_iterator"),data:=.fields #v[.ref a,.int 0 0]}
def kD(e:h.get? it=S (kC k a)):Ju k h it a 0:=by
 cases k<;>exact#[_,e,rfl,rfl]
def QF(c:Jk k s.heap a its)(b:Q (.ref s.heap.objs.size) {s with heap:=s.heap.push (kC k a)}):wpAny (model prog w) A (pyIter (.ref a)) Q E s:=by
 cases k
 ·exact wpAny_pyIter_list c b
 ·exact wpAny_pyIter_tuple c b
end
noncomputable abbrev fA(k)(h:Heap)(a:Addr):=h.push (kC k a)
noncomputable abbrev cR(k j)(h:Heap)(a b:Addr):=(fA k h a).push (kC j b)
noncomputable abbrev fG(k j h a b):=(cR k j h a b).push {cls:=.type "tuple",data:=.seq #v[.ref h.objs.size,.ref (fA k h a).objs.size]}
noncomputable abbrev fJ(k j)(h:Heap)(a b:Addr):=(fG k j h a b).push {cls:=.type "tuple",data:=.seq #v[.none,.none]}
noncomputable abbrev aK(k j h)(a b:Addr):=(fJ k j h a b).push {cls:=.type "zip",data:=.fields #v[.none,.bool G,.bool G,.ref (cR k j h a b).objs.size,.ref (fG k j h a b).objs.size]}
def wV(k j:Sk)(a b p i):
  Meets (Builtin.«zip.__new__» #[[.type "zip",.ref a,.ref b],[]]) (λ_ R s=>Jk k s.heap a p/\Jk j s.heap b i/\R (.ok (.ret (.ref (fJ k j s.heap a b).objs.size))) {s with heap:=aK k j s.heap a b}):=
 .of_wp λl w A R s h=>by
  obtain⟨n,g,d,u,os⟩:=s;obtain⟨r,t,h⟩:=h;have m:=sub_zip;have c:=r;have f:Jk j (Shared.heap #[n.push (kC k a),g,d,u,os]) b i:=t.at λo e=>wIa _ e
  wp_walk using QF c,QF f
  exact#[_,rfl,h]
section
variable{prog:Program}{w:World}{A:Around}{E:Tz}{s:Shared}
def bG(H:Jk k s.heap a C)(y:Jk j s.heap b v)
  (h:∀d,IsZip d (s.heap.objs.size+4) (s.heap.objs.size+2) (s.heap.objs.size+3) .none->IsPair d (s.heap.objs.size+2) (.ref s.heap.objs.size) (.ref (s.heap.objs.size+1))->
   IsPair d (s.heap.objs.size+3) .none .none->Ju k d s.heap.objs.size a 0->Ju j d (s.heap.objs.size+1) b 0->
   (∀c o,s.heap.get? c=S o->d.get? c=S o)->Q (.ref (s.heap.objs.size+4)) {s with heap:=d}):
  wpAny (model prog w) A (call (.type "zip") [.ref a,.ref b]) Q E s:=by
 refine callType_new F.called_zip rfl (F.typeCall_zip_2 _ _) (F.newCall_zip_2 _ _) (λz=>F.args_object_init_3 _ _ _) F.entry_zip_new (wV k j a b C v) #[H,y,?_];have r:(fA k _ a).objs.size=s.heap.objs.size+1:=Heap.size_push ..;have t:(cR k j s.heap a b).objs.size=s.heap.objs.size+2:=by simp
 have i:(fG k j s.heap a b).objs.size=s.heap.objs.size+3:=by simp_all
 have p:(fJ k j s.heap a b).objs.size=s.heap.objs.size+4:=by rw[Heap.size_push,i]
 have g:∀c o,(cR k j _ a b).get? c=S o->(aK k j s.heap a b).get? c=S o:=λc o e=>wIa _ (wIa _ (wIa _ e));have f:(aK k j s.heap a b).get? _=S _:=wJa _ rfl;have n:(aK k j s.heap a b).get? _=S _:=wIa _ (wJa _ rfl);have l:(aK k j s.heap a b).get? _=S _:=wIa _ (wIa _ (wJa _ rfl));have m:=g _ _ (wJa _ rfl);have u:=g _ _ (wIa _ (wJa _ rfl));rw[t,i,p]at f;rw[r,t]at l;rw[i]at n;rw[r]at m;rw[p];exact#[#[_,f,rfl],h _ f l n (kD u) (kD m) λc o x=>g c o (wIa _ (wIa _ x))]
variable{z TI TO i1 i2 a b:Addr}{k j:Sk}{n1 n2:Nat}{xs ys:Array Value}{x y:Value}
def bH{Q:Tz}(D:ZipApart z TI TO i1 i2 a b)(g:IsZip s.heap z TI TO .none)(T:IsPair s.heap TI (.ref i1) (.ref i2))(N:IsPair s.heap TO u v)
  (h1:Ju k s.heap i1 a n1) (h2:Ju j s.heap i2 b n2) (ha:Jk k s.heap a xs) (hb:Jk j s.heap b ys) (hx:xs[n1]?=S x) (hy:ys[n2]?=S y)
  (hQ:∀f,IsZip f z TI TO (rawInt s.heap.objs.size)->IsPair f TO x y->Ju k f i1 a (n1+1)->Ju j f i2 b (n2+1)->IsPair f s.heap.objs.size x y->
   (∀c o,c≠z->c≠TO->c≠i1->c≠i2->s.heap.get? c=S o->f.get? c=S o)->Q (.ref s.heap.objs.size) {s with heap:=f}):
  wpAny (model prog w) A (Builtin.«zip.__next__» #[[.ref z],[]]) (λUQ s'=>∃v,UQ=.done (.ret v)/\Q v s') E s:=by
 show wpAny _ _ (field _ 2 >>= _) _ _ _;refine wAa (wpAny_field g rfl (x:=.bool _) rfl ?_);refine wAa (wpAny_field g rfl rfl (wAa (wpAny_seqItems T rfl ?_)));refine wAa ?_;refine wAa (wpAny_field g rfl rfl (wBa ?_));refine wAa (wpAny_rule (wAa (wpAny_field g rfl rfl (wAa (wpAny_setField_rec g (by simp) λg1 z1 Z=>?_)))));refine wAa ?_;simp only[List.zipIdx_cons,List.zipIdx_nil,List.forIn_cons,List.forIn_nil];have I:=λc o l e=>Z.extBut c o l e;refine wAa (wAa (wpAny_onRaise ?_));refine wAa (UP (h1.at λo e=>I _ o D.i1z e) (ha.at λo e=>I _ o D.l1z e) hx λg2 R O=>wBa ?_);have e2:=λc o l M e=>O.extBut c o M (I c o l e);have t2:=e2 _ _ D.TOz D.TOi1 N;refine wAa (wpAny_seqItems t2 rfl (wAa (wpAny_updateSeq_pair t2 λg3 t3 p=>?_)));refine wAa (wpAny_letGo (wBa (wAa (wAa (wpAny_onRaise ?_)))));have F:=λc o l M he e=>p.extBut c o he (e2 c o l M e);refine wAa (UP (h2.at λo e=>F _ o D.i2z D.i12.symm D.TOi2.symm e) (hb.at λo e=>F _ o D.l2z D.l2i1 D.l2TO e) hy λg4 X h=>wBa ?_);have t4:=h.extBut _ _ D.TOi2 t3;refine wAa (wpAny_seqItems t4 rfl (wAa (wpAny_updateSeq_pair t4 λr n i=>?_)))
 replace n:IsPair r TO x y:=n
 refine wAa (wpAny_letGo (wBa (wBa (wAa (wpAny_seqItems n rfl (wAa (wpAny_newTuple ?_)))))));have sz:r.objs.size=s.heap.objs.size:=by rw[i.1,h.1,p.1,O.1,Z.1]
 have z5:=i.extBut _ _ D.TOz.symm (h.extBut _ _ D.i2z.symm (p.extBut _ _ D.TOz.symm (O.extBut _ _ D.i1z.symm z1)));have e5:=λc o d m H P e=>i.extBut _ _ m (h.extBut _ _ P (F c o d H m e));have W:=((R.at λo e=>p.extBut _ o D.TOi1.symm e).at λo e=>h.extBut _ o D.i12 e).at λo e=>i.extBut _ o D.TOi1.symm e;have C:=X.at λo e=>i.extBut _ o D.TOi2.symm e;have lz:=wLa z5;refine wAa ?_;have z6:IsZip (r.push {cls:=.type "tuple",data:=.seq #v[x,y]}) z TI TO _:=wIa _ z5;refine wAa (wpAny_setField_rec z6 (by simp) λg7 z7 s7=>?_);refine wpAny_setField_rec z7 (by simp) λg8 z8 s8=>?_;have t:∀c o,c≠z->r.get? c=S o->g8.get? c=S o:=λc o d e=>s8.extBut _ _ d (s7.extBut _ _ d (wIa _ e));have t8:=s8.extBut _ _ (Nat.ne_of_gt lz) (s7.extBut _ _ (Nat.ne_of_gt lz) (wJa _ rfl));rw[sz]at z8 t8;refine wBa #[_,rfl,?_];rw[sz];exact hQ g8 z8 (t _ _ D.TOz n) (W.at λo e=>t _ o D.i1z e) (C.at λo e=>t _ o D.i2z e) t8 λc o d m H P e=>t c o d (e5 c o d m H P e)
theorem bI{Q}(P:A.handled=J)(D:ZipApart z TI TO i1 i2 a b)(m:IsZip s.heap z TI TO .none)(N:IsPair s.heap TI (.ref i1) (.ref i2))(r:IsPair s.heap TO u v)
  (h1:Ju k s.heap i1 a n1) (h2:Ju j s.heap i2 b n2) (ha:Jk k s.heap a xs) (hb:Jk j s.heap b ys) (hend:xs[n1]?=J\/ys[n2]?=J)
  (O:∀F e,(∀c o,c≠z->c≠TO->c≠i1->c≠i2->s.heap.get? c=S o->F.get? c=S o)->(∃o,F.get? e=S o/\o.cls=.type "StopIteration")->E (.ref e) {s with heap:=F}):
  wpAny (model prog w) A (Builtin.«zip.__next__» #[[.ref z],[]]) Q E s:=by
 show wpAny _ _ (field _ 2 >>= _) _ _ _;refine wAa (wpAny_field m rfl (x:=.bool _) rfl ?_);refine wAa (wpAny_field m rfl rfl (wAa (wpAny_seqItems N rfl ?_)));refine wAa ?_;refine wAa (wpAny_field m rfl rfl (wBa ?_));refine wAa (wpAny_rule (wAa (wpAny_field m rfl rfl (wAa (wpAny_setField_rec m (by simp) λg1 UQ s1=>?_)))));refine wAa ?_;simp only[List.zipIdx_cons,List.zipIdx_nil,List.forIn_cons,List.forIn_nil];have g:=λc o i e=>s1.extBut c o i e;refine wAa (wAa (wpAny_onRaise ?_));cases W:xs[n1]? with
 |none=>
  refine wAa (WD P (h1.at λo e=>g _ o D.i1z e) (ha.at λo e=>g _ o D.l1z e) W λX e l p=>?_);obtain⟨C,f,d⟩:=p;have z2:IsZip X z TI TO _:=l _ _ D.i1z.symm UQ;have M:e≠z:=λq=>by lia
  exact wpAny_setField_rec z2 (by simp) λT _ h=>O T e (λc o n _ I _ q=>h.extBut _ _ n (l _ _ I (g _ _ n q))) #[C,h.extBut _ _ M f,d]
 |some x=>
  have hy:ys[n2]?=J:=by lia
  refine wAa (UP (h1.at λo e=>g _ o D.i1z e) (ha.at λo e=>g _ o D.l1z e) W λX it2 l=>wBa ?_);have e2:=λc o i H e=>l.extBut c o H (g c o i e);have t2:=e2 _ _ D.TOz D.TOi1 r;refine wAa (wpAny_seqItems t2 rfl (wAa (wpAny_updateSeq_pair t2 λT t3 h=>?_)));refine wAa (wpAny_letGo (wBa (wAa (wAa (wpAny_onRaise ?_)))));have t:=λc o i H p e=>h.extBut c o p (e2 c o i H e);refine wAa (WD P (h2.at λo e=>t _ o D.i2z D.i12.symm D.TOi2.symm e) (hb.at λo e=>t _ o D.l2z D.l2i1 D.l2TO e) hy λg4 e Z p=>?_);obtain⟨C,f,d⟩:=p;have z4:IsZip g4 z TI TO _:=Z _ _ D.i2z.symm (h.extBut _ _ D.TOz.symm (l.extBut _ _ D.i1z.symm UQ));have M:e≠z:=λq=>by lia
  exact wpAny_setField_rec z4 (by simp) λg5 _ R=>O g5 e (λc o n c2 I c4 q=>R.extBut _ _ n (Z _ _ c4 (t c o n I c2 q))) #[C,R.extBut _ _ M f,d]
def X8{Q}(D:ZipApart z TI TO i1 i2 a b)(g:IsZip s.heap z TI TO .none)(f:IsPair s.heap TI (.ref i1) (.ref i2))(e:IsPair s.heap TO u v)
  (H:Ju k s.heap i1 a n1) (N:Ju j s.heap i2 b n2) (M:Jk k s.heap a xs) (n:Jk j s.heap b ys) (t:xs[n1]?=S x) (C:ys[n2]?=S y)
  (O:∀d,IsZip d z TI TO (rawInt s.heap.objs.size)->IsPair d TO x y->Ju k d i1 a (n1+1)->Ju j d i2 b (n2+1)->IsPair d s.heap.objs.size x y->
   (∀c o,c≠z->c≠TO->c≠i1->c≠i2->s.heap.get? c=S o->d.get? c=S o)->Q (S (.ref s.heap.objs.size)) {s with heap:=d}):
  wpAny (model prog w) A (pyNext (.ref z)) Q E s:=by
 have h:s.TypeIs (.ref z) "zip":= #[_,g,rfl]
 exact wAa (wpAny_attempt (wpAny_callSpecial?_slot h F.slot_zip_next (wpAny_call_entry F.slot_zip_next h F.entry_zip_next
   (bH D g f e H N M n t C λd i I m p l r=>wBa (O d i I m p l r)) (F.args_zip_next_1 _))))
def aL{Q}(I:A.handled=J)(D:ZipApart z TI TO i1 i2 a b)(i:IsZip s.heap z TI TO .none)(h:IsPair s.heap TI (.ref i1) (.ref i2))(f:IsPair s.heap TO u v)
  (t:Ju k s.heap i1 a n1) (N:Ju j s.heap i2 b n2) (r:Jk k s.heap a xs) (H:Jk j s.heap b ys) (d:xs[n1]?=J\/ys[n2]?=J)
  (m:∀g,(∀c o,c≠z->c≠TO->c≠i1->c≠i2->s.heap.get? c=S o->g.get? c=S o)->Q J {s with heap:=g}):wpAny (model prog w) A (pyNext (.ref z)) Q E s:=by
 have l:s.TypeIs (.ref z) "zip":= #[_,i,rfl]
 refine wAa (wpAny_attempt (wpAny_callSpecial?_slot l F.slot_zip_next (wpAny_call_entry F.slot_zip_next l F.entry_zip_next (bI I D i h f t N r H d λg e C M=>?_) (F.args_zip_next_1 _))));obtain⟨o,p,n⟩:=M;exact wAa (wpAny_isInstance #[o,p,n] isSubtype_stop (wBa (m _ C)))
end
def Inv.turnedL{g:L Addr}(I:Inv X a p H s)(d:∀b∈g,JE X a H b)(k:∀c o,c∉g->s.heap.get? c=S o->y.get? c=S o):Inv X a p H {s with heap:=y,toks:=t'}:=by
 have h:∀b u,H b=S u->b∉g:=λb u e z=>by rw[(d b z).1]at e;exact Zn e
 refine I.step (λb F=>?_) (λb o _ _ f e _=>k b o f e) (λb o _ _ f e _=>#[_,k b o f e]) (λ_ _ _ _ n=>n)
  (λb o f e=>#[o,k b o f e]) (λ_ _ e=>e) (λ_ _ _ e=>e) (λb M e=>#[#v[],by rw[e];simp]) (λm i=>?_) (λb u e=>?_) I.bare
 ·obtain⟨N,j,O,w,x,A⟩:=d b F;exact#[w,j,x,A]
 ·obtain⟨o,C,t,l,r⟩:=i;exact#[o,C,t,k _ o (λz=>(d _ z).2.1 rfl) l,r]
 ·refine(I.hok b u e).stay (λc v f q=>k c v ?_ q) (λ_ q=>q) λ_ _ _ q=>q;rcases f with z|z
  ·simp_all
  ·exact h c _ z
def Inv.tupled{i:L Addr}{T:Addr}{vs l}(I:Inv X a Q H s)(t:T=s.heap.objs.size)(f:∀b∈i,JE X a H b)(k:∀c o,c∉i->s.heap.get? c=S o->p.get? c=S o)
  (r:jl vs l) (C:vs.length<=sizeLine) (O:IsTup p T l.toArray):Inv X a Q (upd H T (.tup vs)) {s with heap:=p,toks:=t'}:=by
 have j:∀b u,H b=S u->b∉i:=λb u e z=>by rw[(f b z).1]at e;exact Zn e
 have R:∀b o,s.heap.get? b=S o->b≠T:=λb o e=>by rw[t];exact wTa (wLa e)
 have g:H T=J:=by rw[t];exact I.hok.fresh (wPa _)
 refine I.step (λb h=>?_) (λb o _ _ d e _=>k b o d e) (λb o _ _ d e _=>#[_,k b o d e]) (λb o _ e n=>by rw[ja (R b o e)];exact n)
  (λb o d e=>#[o,k b o d e]) (λb M e=>by rw[ja (jy e g)];exact e) (λb o u e=>by rw[ja (jy e g)];exact e) (λb ps e=>#[#v[],by rw[ja (jy e g),e];simp]) (λm A=>?_) (λb u e=>?_) I.bare
 ·obtain⟨W,y,Z,P,w,x⟩:=f b h;exact#[P,y,w,x]
 ·obtain⟨o,UQ,N,F,r⟩:=A;exact#[o,UQ,N,k _ o (λz=>(f _ z).2.1 rfl) F,r]
 ·by_cases h:b=T
  ·subst h;rw[jj]at e;obtain rfl:=Zj e;exact#[C,l,r,O]
  ·rw[ja h]at e;refine(I.hok b u e).stay (λc v d q=>k c v ?_ q) (λc q=>by rw[ja (jy q g)];exact q) λc M _ q=>by rw[ja (jy q g)];exact q
   rcases d with z|z
   ·simp_all
   ·exact j c _ z
def Inv.seqK(I:Inv X d e H s)(h:Us X.K k H a c):∃b ,jl c b/\Jk k s.heap a b.toArray/\c.length<=sizeLine:=by
 cases k
 ·obtain⟨b,r,p,z⟩:=I.list h;exact#[b,r,p.isList,z]
 ·obtain⟨b,r,p,z⟩:=I.tuple h;exact#[b,r,p,z]
def Inv.seqK_inj(I:Inv X c f H s)(h:Us X.K k H a e)(b:Us X.K k H a d):e=d:=by
 cases k
 ·exact I.list_inj h b
 ·exact I.tuple_inj h b
def UR:2<=sizeLine:=by decide
noncomputable def LW(K:uXa)(k j:Sk)(a b:Addr):It:=
 #[λi H=>∃c d x y,Us K k H a c/\Us K j H b d/\c[i]?=S x/\d[i]?=S y,
  λi H v e=>∃p,H p=J/\v=.ref p/\∀c d x y,Us K k H a c->Us K j H b d->c[i]?=S x->d[i]?=S y->e=upd H p (.tup [x,y]),
  λi H=>∃c d,Us K k H a c/\Us K j H b d/\(c.length<=i\/d.length<=i)]
def bJ{K es}{x1:Nat}{tp:Pos}{k j:Sk}{a b z TI TO A t:Addr}(D:ZipApart z TI TO A t a b):
  Turn P w K (.Tuple es x1 tp) (LW K k j a b) [z,TI,TO,A,t] z (λi h=>IsZip h z TI TO .none/\IsPair h TI (.ref A) (.ref t)/\(∃u v,IsPair h TO u v)/\Ju k h A a i/\Ju j h t b i) where
 mem:=by simp
 obj:=λi h st c d=>by
  obtain⟨m,g,⟨u,v,p⟩,l,f⟩:=st;simp only[List.mem_cons,List.not_mem_nil,or_false]at d;rcases d with rfl|rfl|rfl|rfl|rfl
  ·simp_all
  ·simp_all
  ·simp_all
  ·exact l.obj
  ·exact f.obj
 keep:=λi h h' st N=>by
  obtain⟨m,g,⟨u,v,p⟩,l,f⟩:=st;exact#[N z (by simp) _ m,N TI (by simp) _ g,#[u,v,N TO (by simp) _ p],l.at λo e=>N A (by simp) o e,f.at λo e=>N t (by simp) o e]
 item:=by
  intro X hP W Z d i n s U H E I R st T;subst hP W Z;obtain⟨m,g,⟨u,v,p⟩,l,f⟩:=st;obtain⟨xs,ys,x,y,Q,O,ex,ey⟩:=T;obtain⟨ia,ra,pa,_⟩:=I.seqK Q;obtain⟨ib,rb,pb,_⟩:=I.seqK O;obtain⟨ux,UQ,rx⟩:=ra.get ex;obtain⟨uy,euy,ry⟩:=rb.get ey;refine X8 D m g p l f pa pb (y:=uy) (by simpa using UQ) (by simpa using euy) λh' b1 b2 b3 b4 b5 bk=>?_;refine#[_,rfl,wpAny_letOwnedTupleGo_zip b1 λh2 c1 C=>?_];have F4:∀c∈[z,TO,A,t],JE X n H c:=λc d=>R c (by
   simp only[List.mem_cons,or_false]at d⊢;rcases d with q|q|q|q
   ·exact .inl q
   ·exact .inr (.inr (.inl q))
   ·simp_all
   ·simp_all)
  have kp:∀c o,c∉[z,TO,A,t]->s.heap.get? c=S o->h2.get? c=S o:=λc o d e=>by
   simp only[List.mem_cons,List.not_mem_nil,or_false,not_or]at d;exact C.extBut c o d.1 (bk c o d.1 d.2.1 d.2.2.1 d.2.2.2 e)
  have nz:=Nat.ne_of_gt (wLa m);have ht:IsTup h2 _ _:=#[_,C.extBut _ _ nz b5,rfl,_,rfl]
  have I2:=I.tupled (t':=s.toks) rfl F4 kp (.cons rx (.cons ry .nil)) UR ht;refine#[.ref _,_,I2,rfl,#[_,I.hok.fresh (wPa _),rfl,λxs' ys' x' y' qa' qb' M F=>?_],#[c1,kp _ _ (by simp[D.TIz,D.TITO,D.TIi1,D.TIi2]) g,#[ux,uy,C.extBut _ _ D.TOz b2],b3.at λo e=>C.extBut _ o D.i1z e,b4.at λo e=>C.extBut _ o D.i2z e],λc d=>?_]
  ·rw[I.seqK_inj qa' Q,ex]at M;rw[I.seqK_inj qb' O,ey]at F;obtain rfl:=Zj M;obtain rfl:=Zj F;rfl
  ·have q:=(R c d).1;rw[ja ?_]
   ·exact q
   ·intro e;have:c<s.heap.objs.size:=by
     simp only[List.mem_cons,List.not_mem_nil,or_false]at d;rcases d with rfl|rfl|rfl|rfl|rfl
     ·exact wLa m
     ·exact wLa g
     ·exact wLa p
     ·obtain⟨o,e,_⟩:=l.obj;exact wLa e
     ·obtain⟨o,e,_⟩:=f.obj;exact wLa e
    rw[e]at this;exact wUa _ this
 done:=by
  intro X hP W Z d i n s U H E I R st T;subst hP W Z;obtain⟨m,g,⟨u,v,p⟩,l,f⟩:=st;obtain⟨xs,ys,Q,O,hend⟩:=T;obtain⟨ia,ra,pa,_⟩:=I.seqK Q;obtain⟨ib,rb,pb,_⟩:=I.seqK O;have la:=ra.length;have lb:=rb.length;have r:ia.toArray[i]?=J\/ib.toArray[i]?=J:=by simp_all
  refine aL (I.ok.hd d) D m g p l f pa pb r λh' bk=>#[rfl,?_]
  refine I.turnedL R λc o d e=>?_;simp only[List.mem_cons,List.not_mem_nil,or_false,not_or]at d;exact bk c o d.1 d.2.2.1 d.2.2.2.1 d.2.2.2.2 e
 self:=λ_ _ _ _ _ st h=>wpAny_pyIter_zip st.1 h
def j4.tup{K H b a c}(e:j4 H b)(h:yg K H a c):yg K b a c:=by
 rcases h with(h|⟨o,h⟩)|h
 ·exact .inl (.inl (e _ _ h))
 ·exact .inl (.inr #[o,e _ _ h])
 ·exact .inr h
def bK(hc:X.calm=B):YV X (.builtin "all") (λz H Q=>∃(p:Addr) (a:L Bool),z=[.ref p]/\jY X.K H p (a.map V.bl)/\Q (.bl (a.all id)) H):=by
 intro y s U H z us Q I r h;obtain⟨p,a,e,M,q⟩:=h;subst e;cases r with
 |cons r UQ=>
  cases UQ;subst r;obtain⟨j,t,n,hz⟩:=I.list M;refine call_all_walk (wpAny_pyIter_list n.isList ?_);have A:p<s.heap.objs.size:=by obtain⟨o,P,_⟩:=n.isList;exact wLa P
  have f:j.length=a.length:=by have:=t.length;simp at this;lia
  refine#[_,_,_,_,_,_,λi=>(a[i]?).getD B,rfl,Walks.list (A:=X.A.in1) (I.ok.hd hc) _ p (wTa A) _,#[#[_,wJa _ rfl,rfl,rfl],Heap.IsList.at n.isList λo e=>wIa _ e],?_,λh' F R=>?_]
  ·intro i v Z N E' k d;have k:j[i]?=S v:=by simpa using k
   have g:i<a.length:=by rw[<-f];exact(uSa k).1
   obtain⟨u,w,ru⟩:=t.get (i:=i) (x:=V.bl a[i]) (by simp);rw[k]at w;obtain rfl:=Zj w;subst ru;have T:(a[i]?).getD B=a[i]:=by simp[g]
   have d:N ((a[i]?).getD B) Z:=d;rw[T]at d;exact wpAny_truthy_bool d
  ·have e:((List.range j.toArray.size).all λi=>(a[i]?).getD B)=a.all id:=by
    rw[uLa,f,Bool.eq_iff_iff];simp only[List.all_eq_true,List.mem_range];constructor
    ·intro m x W;obtain⟨i,g,rfl⟩:=List.mem_iff_getElem.mp W;have:=m i g;simpa[g]using this
    ·intro m i g;have:=m a[i] (List.getElem_mem g);simpa[g]using this
   rw[e];have O:=I.turnedL (t':=F) (λb C=>by
    have e:b=s.heap.objs.size:=by simpa using C
    subst e;exact I.fpOk (wPa _) (I.hok.fresh (wPa _))) (λc o l e'=>R c o l (wIa _ e'))
   exact#[.bl _,H,O,rfl,q]
inductive Kd where
 |i|b|s|l|t
noncomputable def bL(K:uXa)(H:Hp):V->Kd->Prop
 |.int _,.i=>True
 |.bl _,.b=>True
 |.str _,.s=>True
 |.ref a,.l=>∃b,jY K H a b
 |.ref a,.t=>∃b,yg K H a b
 |_,_=>False
@[simp] noncomputable def Ut:Kd->Nat
 |.i=>0|.b=>1|.s=>2|.l=>3|.t=>4
noncomputable def kE(k T):=if T ="int" then S (Ut k==0||Ut k==1)else if T ="bool" then S (Ut k==1)else if T ="str" then S (Ut k==2)else if T ="list" then S (Ut k==3)else if T ="tuple" then S (Ut k==4)else J
def US(h:kE k T=S b):(T ="int"/\(Ut k==0||Ut k==1)=b)\/(T ="bool"/\(Ut k==1)=b)\/(T ="str"/\(Ut k==2)=b)\/(T ="list"/\(Ut k==3)=b)\/(T ="tuple"/\(Ut k==4)=b):=by
 unfold kE at h;by_cases e:T ="int"
 ·rw[if_pos e]at h;exact .inl #[e,vFa h]
 rw[if_neg e]at h;by_cases c:T ="bool"
 ·rw[if_pos c]at h;exact .inr (.inl #[c,vFa h])
 rw[if_neg c]at h;by_cases a:T ="str"
 ·rw[if_pos a]at h;exact .inr (.inr (.inl #[a,vFa h]))
 rw[if_neg a]at h;by_cases d:T ="list"
 ·rw[if_pos d]at h;exact .inr (.inr (.inr (.inl #[d,vFa h])))
 rw[if_neg d]at h;by_cases f:T ="tuple"
 ·rw[if_pos f]at h;exact .inr (.inr (.inr (.inr #[f,vFa h])))
 rw[if_neg f]at h;exact Zn h
noncomputable def fL(K:uXa):L V->Hp->VK->Prop:=λa H Q=>∃x T k b,a=[x,.ty T]/\bL K H x k/\kE k T=S b/\Q (.bl b) H
def bM:YV X (.builtin "isinstance") (fL X.K):=by
 intro g s v H C A Q I r h;obtain⟨x,T,k,b,e,i,j,q⟩:=h;subst e;cases r with
 |cons r n=>
  cases n with
  |cons w n=>
   cases n;subst w;have a:∀u,EP X g v Q _ _:=λu=>#[.bl b,H,I.tok u,rfl,q]
   have c:EP X g v Q _ s:=#[.bl b,H,I,rfl,q]
   cases k with
   |i=>
    cases x<;>try exact i.elim
    obtain⟨t,rfl⟩:=r;rcases US j with⟨rfl,rfl⟩|⟨rfl,rfl⟩|⟨rfl,rfl⟩|⟨rfl,rfl⟩|⟨rfl,rfl⟩
    all_goals(first|exact IsiPair.int_int c|exact IsiPair.int_bool (a _)|exact IsiPair.int_str (a _)|exact IsiPair.int_list (a _)|exact IsiPair.int_tuple (a _))
   |b=>
    cases x<;>try exact i.elim
    subst r;rcases US j with⟨rfl,rfl⟩|⟨rfl,rfl⟩|⟨rfl,rfl⟩|⟨rfl,rfl⟩|⟨rfl,rfl⟩
    all_goals(first|exact IsiPair.bool_int c|exact IsiPair.bool_bool c|exact IsiPair.bool_str (a _)|exact IsiPair.bool_list (a _)|exact IsiPair.bool_tuple (a _))
   |s=>
    cases x<;>try exact i.elim
    obtain⟨t,rfl⟩:=r;rcases US j with⟨rfl,rfl⟩|⟨rfl,rfl⟩|⟨rfl,rfl⟩|⟨rfl,rfl⟩|⟨rfl,rfl⟩
    all_goals(first|exact IsiPair.str_str c|exact IsiPair.str_int (a _)|exact IsiPair.str_bool (a _)|exact IsiPair.str_list (a _)|exact IsiPair.str_tuple (a _))
   |l=>
    cases x<;>try exact i.elim
    cases r;obtain⟨z,l⟩:=i;obtain⟨m,y,p,_⟩:=I.list l;obtain⟨o,d,f,_⟩:=p.isList;rcases US j with⟨rfl,rfl⟩|⟨rfl,rfl⟩|⟨rfl,rfl⟩|⟨rfl,rfl⟩|⟨rfl,rfl⟩
    all_goals(first|exact IsiPair.list_list d f c|exact IsiPair.list_int d f (a _)|exact IsiPair.list_bool d f (a _)|exact IsiPair.list_str d f (a _)|exact IsiPair.list_tuple d f (a _))
   |t=>
    cases x<;>try exact i.elim
    cases r;obtain⟨z,l⟩:=i;obtain⟨m,y,p,_⟩:=I.tuple l;obtain⟨o,d,f,_⟩:=p;rcases US j with⟨rfl,rfl⟩|⟨rfl,rfl⟩|⟨rfl,rfl⟩|⟨rfl,rfl⟩|⟨rfl,rfl⟩
    all_goals(first|exact IsiPair.tuple_tuple d f c|exact IsiPair.tuple_int d f (a _)|exact IsiPair.tuple_bool d f (a _)|exact IsiPair.tuple_str d f (a _)|exact IsiPair.tuple_list d f (a _))
noncomputable def dU(r j b:R2)(m l s g:TE):TE:=λa H Q=>m a H λx i=>l a i λy o=>r x y o λz e=>∃k,z=.bl k/\
 (if k=B then s a e λd h=>j y d h λp c=>∃f,p=.bl f/\(if f=B then g a c λq n=>b d q n Q else Q (.bl G) c)else Q (.bl G) e)
theorem aM(ho:jW X (compareOp N) r)(m:jW X (compareOp j) r')(l:jW X (compareOp g) n)(ha:PE X a W)(hb:PE X b tb)(hc:PE X c tc)(hd:PE X d td)
  (hm:lastMarks [N,j,g] [b,c,d]=G:=by with_unfolding_all rfl):PE X (.Compare a [N,j,g] [b,c,d] pos) (dU r r' n W tb tc td):=by
 intro f s i H Q I h;refine Compare_chain (jv (ha f s i H _ I h) λv s1 ⟨x,H1,I1,r1,q1⟩=>chain_link (jv (hb f s1 i H1 _ I1 q1) λu s2 ⟨y,H2,I2,p,q2⟩=>
  jv (ho f s2 i H2 x y v u _ I2 r1 p q2) λ_ s3 ⟨z,o,A,r3,k,e,w⟩=>?_)) hm
 subst e;subst r3;refine wpAny_truthy_bool ?_;cases k with
 |false=>exact ite_ff #[.bl G,o,A,rfl,w]
 |true=>
  refine ite_tt (chain_link (jv (hc f s3 i o _ A w) λF Z ⟨O,H4,I4,M,q4⟩=>jv (m f Z i H4 y O u F _ I4 p M q4) λ_ s5 xx=>?_));obtain⟨z5,t,C,r5,k5,UQ,P⟩:=xx;subst UQ;subst r5;refine wpAny_truthy_bool ?_;cases k5 with
  |false=>exact ite_ff #[.bl G,t,C,rfl,P]
  |true=>exact ite_tt (chain_last (jv (hd f s5 i t _ C P) λT s6 ⟨z6,H6,I6,r6,R⟩=>l f s6 i H6 O z6 F T Q I6 M r6 R))
section
open PySem.SeqAt
end
structure FnI (P w K mg base k x ps sp) where
 ex:∃f fd,FnOk P w K mg base yG k f fd ps sp/\Jo K fd ps []/\PySem.W.keepIn K (.ref f)=B/\mg x=S (.ref f)
structure MtI (P w K mg base k C m ps sp) where
 ex:∃f fd,FnOk P w K mg base yG k f fd ps sp/\Jo K fd ps []/\Meth K C m f
structure MkI (P w K mg base k C x ps sp) where
 ex:∃f fd,FnOk P w K mg base yG k f fd ps sp/\Jo K fd ps []/\Mk K C f/\mg x=S (.ref C)
def cU(F:FnI X.prog X.w X.K X.mg X.base k x s j)(o:Room k X.A)(n:PA X (e::c) t)(m:Gl X x:=by rfl)(d:(x==("__debug__"))=G:=by decide)
  (l:starEach (e::c) X.env=(G,eval e X.env)::starEach c X.env:=by rfl) (g:(backTo h (starEach c X.env)).any (·.1)=G:=by rfl):PE X (.Call (.Name x p) (e::c) [] h) (xT j [] E0 t):=by
 obtain⟨f,u,a,b,i,r⟩:=F.ex;exact Kh a o m r i b .nil X6 n d l g
def aN(n:PE X o j)(c:Cls X.K C)(M:MtI X.prog X.w X.K X.mg X.base k C m s p)(l:Room k X.A)
  (r:eval (.Call (.Attribute o m e) [] [] d) X.env=(do
   let h<-eval o X.env
   standAt e.atName
   let(f,g)<-holding [h] (getMethod h m t)
   callWith d f g (backTo d (starEach [] X.env)) (backToKw d (keywordEach [] X.env))):=by rfl):
  PE X (.Call (.Attribute o m e) [] [] d) (kB C m p [] E0 j UN):=by
 obtain⟨f,u,a,b,i⟩:=M.ex;exact Ws n c i a l b .nil X6 r
def IX(M:MkI X.prog X.w X.K X.mg X.base k C x s j)(o:Room (k+1) X.A)(n:PA X (e::c) t)(m:Gl X x:=by rfl)(d:(x==("__debug__"))=G:=by decide)
  (l:starEach (e::c) X.env=(G,eval e X.env)::starEach c X.env:=by rfl) (g:(backTo h (starEach c X.env)).any (·.1)=G:=by rfl):PE X (.Call (.Name x p) (e::c) [] h) (xU C j [] E0 t):=by
 obtain⟨f,u,a,b,i,r⟩:=M.ex;exact QC i a o m r b .nil X6 n d l g
def fM(i:PE X o k)(h:PA X [e] t)(d:attributeBase o "append" X.env (eval o X.env)=eval o X.env:=by rfl)
  (g:((backTo b (starEach [e] X.env)).all (λx=>!x.1)&&(backToKw b (keywordEach [] X.env)).all (λx=>x.1.isSome)
   && decide (([e]).length+([]:L Keyword).length+(if([]:L Keyword).isEmpty then 0 else 1)<30))=B:=by rfl)
  (c:(f.endLine==b.line)=B:=by rfl) (j:starEach [e] X.env=(G,eval e X.env)::starEach [] X.env:=by rfl) (a:(backTo b (starEach [] X.env)).any (·.1)=G:=by rfl):
  PE X (.Call (.Attribute o "append" f) [e] [] b) (cL X.K "list" G8 k t):=
 x_ PySem.F.plainAttrs_list PySem.F.slot_list_append PySem.F.type_list_append aG i h d g c j a
def nP(a:∃t,X.mg x=S (.int i t))(b:Gl X x:=by rfl)(c:(x==("__debug__"))=G:=by decide):PE X (.Name x d) (tC (.int i)):=by
 obtain⟨t,h⟩:=a;exact Qw b h #[t,rfl] c
def jM(h:H p=J)(o):j4 H (upd H p o):=λb u q=>by rw[ja (jy q h)];exact q
def j4.upd(s:j4 a H)(h:a p=J)(o):j4 a (upd H p o):=λb u q=>by rw[ja (jy q h)];exact s b u q
noncomputable def j4.none(s:j4 H a)(h:a p=Option.none):=s.free h
noncomputable def IY(h:n<=1000):=wQa (aI h)
noncomputable abbrev T3:=Int×Int×Int
noncomputable def jz(K:uXa)(c:Str):Addr:=match PySem.W.nsIn K mainGlobals c with
 |S (S (.ref C))=>C
 |_=>0
def kG{K c C}(h:PySem.W.nsIn K mainGlobals c=S (S (.ref C))):jz K c=C:=by unfold jz;rw[h]
noncomputable def xW(c:Addr)(b:L (Str×V)):HO:=.ext λh=>∃a,h.Ns1 c a/\PySem.Within a (b.map (·.1))/\∀p∈b,∃u,a p.1=S u/\jp p.2 u
noncomputable def ZY(o:Obj):=∃a,o.data=.fields a/\a[2]?=S .none
noncomputable def XF(h:Heap)(e)(b:Y Addr):=∃a,h.get? e=S a/\ZY a/\∀d,b=S d->a.dict=S d
noncomputable def xC(e C:Addr)(b:Y Addr):HO:=.ext λh=>∃a,h.get? e=S a/\a.cls=.ref C/\PySem.W.notCls a=B/\(∀d,b=S d->a.dict=S d)/\ZY a
def cX(d:g.Ns1 f a)(m:PySem.Within a (b.map (·.1)))(i:∀p∈b,∃u,a p.1=S u/\jp p.2 u):Jh P w H g f (xW f b):=
 #[#[a,d,m,i],(let⟨o,_,_,e,_⟩:=d;#[o,e]),λ_ _ h k=>by
  obtain⟨a,⟨o,l,j,e,c⟩,w⟩:=h;exact#[a,#[o,l,j,k _ e,c],w]]
def cY(h:f.get? e=S c)(m:c.cls=.ref C)(g:PySem.W.notCls c=B)(n:∀d,i=S d->c.dict=S d)(l:ZY c):Jh P w H f e (xC e C i):=
 #[#[c,h,m,g,n,l],#[c,h],λ_ _ j k=>by
  obtain⟨o,a,b⟩:=j;exact#[o,k _ a,b]]
end L2
namespace DS
open L2
set_option genSizeOf true in
set_option genInjectivity true in
inductive D where
 |non|bl (b:Bool)|int (i:Int)|str (x:Str)|tup (l:L D)|lst (l:L D)|ins (C:Addr) (ns:L Str) (ds:L D)|scr (ns:L Int)|dct (ks vs:L D)|exn (c:Str) (fv:L (Str×V))|mem (l:L (KD×Bool))|dk (ks:L Str) (vs:L D)|obj (C:Addr) (ns:L Str) (ds:L D) (ms:L Str) (es:L D)
mutual
noncomputable def Jc:D->Y KD
 |.int n=>S (.i n)
 |.bl b=>S (.i (if b then 1 else 0))
 |.str x=>S (.s x)
 |.tup l=>(ZF l).bind λa=>S (.t a)
 |_=>J
noncomputable def ZF:L D->Y (L KD)
 |[]=>S []
 |d::c=>(Jc d).bind λk=>(ZF c).bind λa=>S (k::a)
end
noncomputable def zQ:D->Y KD
 |.tup l=>(Jc (.tup l)).bind λk=>if k.dep<=8 then S k else J
 |_=>J
noncomputable def WE:L D->Y (L KD)
 |[]=>S []
 |d::a=>(zQ d).bind λk=>(WE a).bind λb=>S (k::b)
mutual
noncomputable def jI(K:uXa)(H:Hp):D->V->Prop
 |.non,v=>v=.non
 |.bl b,v=>v=.bl b
 |.int i,v=>v=.int i
 |.str x,v=>v=.str x
 |.tup l,v=>∃a h,v=.ref a/\yg K H a h/\j7 K H l h
 |.lst l,v=>∃a h,v=.ref a/\H a=S (.lst h)/\j7 K H l h
 |.scr k,v=>∃a,v=.ref a/\jY K H a (k.map V.int)
 |.ins C k l,v=>∃a j h,v=.ref a/\H a=S (.ins C j (k.zip h))/\k.length=h.length/\j7 K H l h
 |.dct m f,v=>∃a g s,v=.ref a/\H a=S (.dD g s)/\WE m=S (g.map (·.1))/\j7 K H m (g.map λp=>V.ref p.2.1)/\j7 K H f (g.map (·.2.2))
 |.exn c w,v=>∃e y,v=.ref e/\H e=S (xC e (jz K c) y)/\(w≠[]->∃j,y=S j/\H j=S (xW j w))
 |.mem l,v=>∃a,v=.ref a/\H a=S (.mem K l [])
 |.dk m f,v=>∃a t s,v=.ref a/\H a=S (.dK ((m.map Sum.inr).zip t) s)/\m.length=t.length/\j7 K H f t
 |.obj C k n u z,v=>∃a j f o,v=.ref a/\H a=S (.ins C j (k.zip f++u.zip o))/\k.length=f.length/\u.length=o.length/\j7 K H n f/\j7 K H z o
noncomputable def j7(K:uXa)(H:Hp):L D->L V->Prop
 |[],f=>f=[]
 |d::n,f=>∃v r,f=v::r/\jI K H d v/\j7 K H n r
end
mutual
theorem jI.same{K H i}(e:j4 H i):∀{d v},jI K H d v->jI K i d v
 |.non,_,h=>h
 |.bl _,_,h=>h
 |.int _,_,h=>h
 |.str _,_,h=>h
 |.tup l,_,h=>by
  obtain⟨a,g,rfl,q,r⟩:=h;exact#[a,g,rfl,e.tup q,j7.same e r]
 |.lst l,_,h=>by
  obtain⟨a,g,rfl,q,r⟩:=h;exact#[a,g,rfl,e _ _ q,j7.same e r]
 |.scr s,_,h=>by
  obtain⟨a,rfl,q⟩:=h;exact#[a,rfl,e.seq q]
 |.ins C s l,_,h=>by
  obtain⟨a,j,g,rfl,q,n,r⟩:=h;exact#[a,j,g,rfl,e _ _ q,n,j7.same e r]
 |.dct w f,_,h=>by
  obtain⟨a,M,p,rfl,q,n,m,o⟩:=h;exact#[a,_,p,rfl,e _ _ q,n,j7.same e m,j7.same e o]
 |.exn c N,_,h=>by
  obtain⟨a,A,rfl,q,n⟩:=h;exact#[a,A,rfl,e _ _ q,λz=>let⟨j,u,I⟩:=n z;#[j,u,e _ _ I]]
 |.mem l,_,h=>by
  obtain⟨a,rfl,q⟩:=h;exact#[a,rfl,e _ _ q]
 |.dk w f,_,h=>by
  obtain⟨a,F,p,rfl,q,n,r⟩:=h;exact#[a,F,p,rfl,e _ _ q,n,j7.same e r]
 |.obj C s k O P,_,h=>by
  obtain⟨a,j,f,x,rfl,q,y,t,m,o⟩:=h;exact#[a,j,f,x,rfl,e _ _ q,y,t,j7.same e m,j7.same e o]
theorem j7.same{K H i}(e:j4 H i):∀{k f},j7 K H k f->j7 K i k f
 |[],_,h=>h
 |d::k,_,h=>by
  obtain⟨v,r,rfl,a,b⟩:=h;exact#[v,r,rfl,jI.same e a,j7.same e b]
end
section
variable{K:uXa}{H:Hp}
theorem j7.len:∀{ds vs},j7 K H ds vs->vs.length=ds.length
 |[],_,h=>by subst h;rfl
 |d::ds,_,h=>by
  obtain⟨v,r,rfl,a,b⟩:=h;rw[vXa,vXa,j7.len b]
theorem j7.get:∀{c vs}{i:Nat}{d},j7 K H c vs->c[i]?=S d->∃v,vs[i]?=S v/\jI K H d v
 |[],_,_,_,h,e=>Zn e
 |d::c,_,0,_,h,e=>by
  obtain⟨v,r,rfl,a,b⟩:=h;simp at e;subst e;exact#[v,rfl,a]
 |d::c,_,i+1,j,h,e=>by
  obtain⟨v,r,rfl,a,b⟩:=h;obtain⟨f,g,q⟩:=j7.get b (by simpa using e);exact#[f,by simpa using g,q]
def j7.nil:j7 K H [] []:=rfl
def j7.cons{ds v vs}(a:jI K H d v)(b:j7 K H ds vs):j7 K H (d::ds) (v::vs):=by exact#[v,vs,rfl,a,b]
theorem j7.app:∀{e f i c},j7 K H e i->j7 K H f c->j7 K H (e++f) (i++c)
 |[],_,_,_,h,g=>by subst h;exact g
 |d::e,f,_,c,h,g=>by
  obtain⟨u,r,rfl,a,b⟩:=h;exact j7.cons a (j7.app b g)
noncomputable def j7.snoc(h:j7 K H b a)(q:jI K H d v):=h.app (j7.cons q j7.nil)
theorem j7.drop:∀{ds c} (n),j7 K H ds c->j7 K H (ds.drop n) (c.drop n)
 |_,_,0,h=>h
 |[],_,n+1,h=>by subst h;exact j7.nil
 |d::ds,_,n+1,h=>by
  obtain⟨u,r,rfl,a,b⟩:=h;exact j7.drop n b
theorem j7.take:∀{ds c} (n),j7 K H ds c->j7 K H (ds.take n) (c.take n)
 |_,_,0,h=>j7.nil
 |[],_,n+1,h=>by subst h;exact j7.nil
 |d::ds,_,n+1,h=>by
  obtain⟨u,r,rfl,a,b⟩:=h;exact j7.cons a (j7.take n b)
theorem j7.set{v}(q:jI K H d v):∀{c f} (n),j7 K H c f->j7 K H (c.set n d) (f.set n v)
 |[],_,n,h=>by subst h;exact j7.nil
 |e::c,_,0,h=>by
  obtain⟨u,r,rfl,a,b⟩:=h;exact j7.cons q b
 |e::c,_,n+1,h=>by
  obtain⟨u,r,rfl,a,b⟩:=h;exact j7.cons a (j7.set q n b)
end
noncomputable def j6(H:Hp)(O:L Addr):Hp:=λb=>if b∈O then J else H b
def ui(h:b∈O):j6 H O b=J:=if_pos h
def jA(h:b∉O):j6 H O b=H b:=if_neg h
def jZ(h:j6 H O b=S o):b∉O/\H b=S o:=by
 by_cases a:b∈O
 ·rw[ui a]at h;exact Zn h
 ·rw[jA a]at h;exact#[a,h]
def yR:j4 (j6 H O) H:=λb o h=>(jZ h).2
def JF(s:∀a∈c,a∈O):j4 (j6 H O) (j6 H c):=λb o h=>by
 obtain⟨e,d⟩:=jZ h;rw[jA (λz=>e (s b z))];exact d
def jf(s:j4 H d):j4 (j6 H O) (j6 d O):=λb o h=>by
 obtain⟨a,c⟩:=jZ h;rw[jA a];exact s _ _ c
def Yz(s:j4 H c)(d:H l=J):j4 (j6 H O) (j6 c (l::O)):=λb o h=>by
 obtain⟨f,a⟩:=jZ h;have e:=jy a d;rw[jA (by simp_all)];exact s _ _ a
def Y1(h:l∈O):j6 (upd H l o) O=j6 H O:=by
 funext b;by_cases a:b∈O
 ·rw[ui a,ui a]
 ·rw[jA a,jA a,ja (λe=>a (by simp_all))]
set_option genInjectivity true in
inductive OD where
 |lst (ds:L D)|ins (C:Addr) (ns:L Str) (ds:L D)|dct (ks vs:L D)|dk (ks:L Str) (vs:L D)
@[simp] noncomputable def OD.toD:OD->D
 |.lst c=>.lst c
 |.ins C d c=>.ins C d c
 |.dct b a=>.dct b a
 |.dk b a=>.dk b a
noncomputable def yt(K:uXa)(H d:Hp)(l:Addr):OD->Prop
 |.lst g=>∃a,H l=S (.lst a)/\j7 K d g a
 |.ins C h g=>∃i a,H l=S (.ins C i (h.zip a))/\h.length=a.length/\j7 K d g a
 |.dct c a=>∃b f,H l=S (.dD b f)/\WE c=S (b.map (·.1))/\j7 K d c (b.map λp=>V.ref p.2.1)/\j7 K d a (b.map (·.2.2))
 |.dk c a=>∃e f,H l=S (.dK ((c.map Sum.inr).zip e) f)/\c.length=e.length/\j7 K d a e
def yt.same{K H j i d l o}(s:∀u,H l=S u->j l=S u)(e:j4 i d)(h:yt K H i l o):yt K j d l o:=by
 cases o with
 |lst p=>obtain⟨f,a,b⟩:=h;exact#[f,s _ a,b.same e]
 |ins C v p=>obtain⟨k,f,a,n,b⟩:=h;exact#[k,f,s _ a,n,b.same e]
 |dct r f=>obtain⟨t,g,a,n,b,c⟩:=h;exact#[_,g,s _ a,n,b.same e,c.same e]
 |dk r f=>obtain⟨m,g,a,n,b⟩:=h;exact#[m,g,s _ a,n,b.same e]
def yt.there{K H e l o}(h:yt K H e l o):H l≠J:=by
 cases o with
 |lst f=>obtain⟨c,a,b⟩:=h;rw[a];exact λz=>nomatch z
 |ins C m f=>obtain⟨j,c,a,n,b⟩:=h;rw[a];exact λz=>nomatch z
 |dct g c=>obtain⟨i,d,a,n,b⟩:=h;rw[a];exact λz=>nomatch z
 |dk g c=>obtain⟨k,d,a,n,b⟩:=h;rw[a];exact λz=>nomatch z
def yt.rep{K H d l o}(s:∀u,H l=S u->d l=S u)(h:yt K H d l o):jI K d o.toD (.ref l):=by
 cases o with
 |lst i=>obtain⟨e,a,b⟩:=h;show jI K d _ _;exact#[l,e,rfl,s _ a,b]
 |ins C p i=>obtain⟨j,e,a,n,b⟩:=h;show jI K d (.ins C p i) _;exact#[l,j,e,rfl,s _ a,n,b]
 |dct g e=>obtain⟨k,f,a,n,b,c⟩:=h;show jI K d (.dct g e) _;exact#[l,_,f,rfl,s _ a,n,b,c]
 |dk g e=>obtain⟨m,f,a,n,b⟩:=h;show jI K d _ _;exact#[l,m,f,rfl,s _ a,n,b]
structure HS where
 C:Addr
 ns:L Str
 ds:L D
 ms:L Str
 ls:L (L D)
@[simp] noncomputable def HS.toD(h:HS):D:=.obj h.C h.ns h.ds h.ms (h.ls.map D.lst)
noncomputable def yH(K:uXa)(c H:Hp):L Addr->L (L D)->Prop
 |[],[]=>True
 |a::d,m::r=>(∃b,H a=S (.lst b)/\j7 K c m b)/\yH K c H d r
 |_,_=>False
theorem yH.mono{K e c H g}(f:j4 e c):∀{d i},(∀a∈d,∀u,H a=S u->g a=S u)->yH K e H d i->yH K c g d i
 |[],[],_,_=>trivial
 |a::d,o::r,s,h=>by
  obtain⟨⟨l,j,m⟩,k⟩:=h;exact#[#[l,s a wNa _ j,m.same f],yH.mono f (λb n=>s b (wMa _ n)) k]
 |[],_::_,_,h=>h.elim
 |_::_,[],_,h=>h.elim
theorem yH.at{K g H}:∀{c e},yH K g H c e->∀a∈c,∃vs,H a=S (.lst vs)
 |_::_,_::_,h,a,b=>by
  obtain⟨⟨vs,d,_⟩,f⟩:=h;rcases uTa b with rfl|b
  ·exact#[vs,d]
  ·exact yH.at f a b
 |_::_,[],h,_,_=>h.elim
theorem yH.reps{K d H}(s:j4 d H):∀{b c},yH K d H b c->j7 K H (c.map D.lst) (b.map V.ref)
 |[],[],_=>j7.nil
 |a::b,m::c,h=>by
  obtain⟨⟨e,i,f⟩,g⟩:=h;exact j7.cons (by exact#[a,e,rfl,i,f.same s]) (yH.reps s g)
 |[],_::_,h=>h.elim
 |_::_,[],h=>h.elim
noncomputable def yS(K:uXa)(H c l)(b:L _)(h:HS):=(∃d a,H l=S (.ins h.C d (h.ns.zip a++h.ms.zip (b.map V.ref)))/\h.ns.length=a.length/\h.ms.length=b.length/\j7 K c h.ds a)/\yH K c H b h.ls
def yS.at{K H g l c h}(x:yS K H g l c h):∀a∈l::c,∃o,H a=S o:=λa b=>by
 obtain⟨⟨j,d,i,_⟩,f⟩:=x;rcases uTa b with rfl|b
 ·exact#[_,i]
 ·obtain⟨d,e⟩:=f.at a b;exact#[_,e]
def yS.mono{K H f e b l c h}(s:∀a∈l::c,∀u,H a=S u->f a=S u)(d:j4 e b)(x:yS K H e l c h):yS K f b l c h:=by
 obtain⟨⟨o,n,k,i,g,r⟩,m⟩:=x;exact#[#[o,n,s l wNa _ k,i,g,r.same d],m.mono d λa j=>s a (wMa _ j)]
def yS.rep{K H a l c h}(s:j4 a H)(x:yS K H a l c h):jI K H h.toD (.ref l):=by
 obtain⟨⟨d,b,g,e,i,r⟩,f⟩:=x;show jI K H (.obj _ _ _ _ _) _;exact#[l,d,b,_,rfl,g,e,by grind,r.same s,f.reps s]
set_option genInjectivity true in
inductive Sl where
 |un
 |cl (d:D)
 |bo (d:D)
 |ow (q:Y Addr) (o:OD)
 |lo (q:Bool) (h:HS)
noncomputable abbrev jr:=L Sl
noncomputable def RB(K:uXa)(O:L _)(H d v):=jI K (j6 H O) d v\/(∃l o,v=.ref l/\d=OD.toD o/\yt K H (j6 H O) l o)\/∃l a h,v=.ref l/\d=HS.toD h/\yS K H (j6 H O) l a h
def RB.same{K O H f d v}(s:j4 H f)(h:RB K O H d v):RB K O f d v:=by
 rcases h with h|⟨l,o,c,e,b⟩|⟨l,g,o,c,e,b⟩
 ·exact .inl (h.same (jf s))
 ·exact .inr (.inl #[l,o,c,e,b.same (s l) (jf s)])
 ·exact .inr (.inr #[l,g,o,c,e,b.mono (λa _ u z=>s a u z) (jf s)])
def RB.full{K O H d v}(h:RB K O H d v):jI K H d v:=by
 rcases h with h|⟨l,o,rfl,rfl,a⟩|⟨l,b,o,rfl,rfl,a⟩
 ·exact h.same yR
 ·exact(a.same (λ_ z=>z) yR).rep λ_ z=>z
 ·exact a.rep yR
def RB.lst{K O H ds v}(h:RB K O H (.lst ds) v):∃p xs,v=.ref p/\H p=S (.lst xs)/\j7 K (j6 H O) ds xs:=by
 rcases h with h|⟨l,o,rfl,e,d⟩|⟨_,_,_,_,e,_⟩;rotate_left 2;· cases e
 ·obtain⟨a,xs,rfl,q,r⟩:=h;exact#[a,xs,rfl,yR _ _ q,r]
 ·cases o<;>cases e;obtain⟨c,a,b⟩:=d;exact#[l,c,rfl,a,b]
def RB.tup{K O H ds v}(h:RB K O H (.tup ds) v):∃p b,v=.ref p/\yg K H p b/\j7 K (j6 H O) ds b:=by
 rcases h with h|⟨l,o,rfl,e,c⟩|⟨_,_,_,_,e,_⟩;rotate_left 2;· cases e
 ·obtain⟨a,b,rfl,q,r⟩:=h;exact#[a,b,rfl,yR.tup q,r]
 ·cases o<;>cases e
def RB.int{K O H i v}(h:RB K O H (.int i) v):v=.int i:=h.full
def RB.bl{K O H i v}(h:RB K O H (.bl i) v):v=.bl i:=h.full
def RB.str{K O H i v}(h:RB K O H (.str i) v):v=.str i:=h.full
def RB.non{K O H v}(h:RB K O H .non v):v=.non:=h.full
def RB.ins{K O H C f g v}(h:RB K O H (.ins C f g) v):∃a d c,v=.ref a/\H a=S (.ins C d (f.zip c))/\f.length=c.length/\j7 K (j6 H O) g c:=by
 rcases h with h|⟨l,o,rfl,e,i⟩|⟨_,_,_,_,e,_⟩;rotate_left 2;· cases e
 ·obtain⟨a,d,c,rfl,q,n,r⟩:=h;exact#[a,d,c,rfl,yR _ _ q,n,r]
 ·cases o<;>cases e;obtain⟨d,j,a,n,b⟩:=i;exact#[l,d,j,rfl,a,n,b]
def RB.dk{K O H ks vs v}(h:RB K O H (.dk ks vs) v):∃a c d,v=.ref a/\H a=S (.dK ((ks.map Sum.inr).zip c) d)/\ks.length=c.length/\j7 K (j6 H O) vs c:=by
 rcases h with h|⟨l,o,rfl,e,f⟩|⟨_,_,_,_,e,_⟩;rotate_left 2;· cases e
 ·obtain⟨a,c,d,rfl,q,n,r⟩:=h;exact#[a,c,d,rfl,yR _ _ q,n,r]
 ·cases o<;>cases e;obtain⟨c,d,a,n,b⟩:=f;exact#[l,c,d,rfl,a,n,b]
def RB.obj{K O H C w t x es v}(h:RB K O H (.obj C w x t es) v):∃a f vs c,v=.ref a/\H a=S (.ins C f (w.zip vs++t.zip c))/\w.length=vs.length/\t.length=c.length/\j7 K (j6 H O) x vs/\∀(i:Nat) (d),es[i]?=S d->∃p,c[i]?=S p/\RB K O H d p:=by
 rcases h with h|⟨l,o,rfl,e,j⟩|⟨l,c,o,rfl,e,j⟩
 ·obtain⟨a,f,vs,c,rfl,q,u,y,N,A⟩:=h;refine#[a,f,vs,c,rfl,yR _ _ q,u,y,N,λi d e=>?_];obtain⟨v,k,n⟩:=A.get e;exact#[v,k,.inl n]
 ·cases o<;>cases e
 ·cases e;obtain⟨⟨f,vs,j,u,y,r⟩,P⟩:=j;refine#[l,f,vs,_,rfl,j,u,by grind,r,λi d e=>?_];have s:∀{g b}{i:Nat}{d},yH K (j6 H O) H g b->(b.map D.lst)[i]?=S d->∃p,(g.map V.ref)[i]?=S p/\RB K O H d p:=by
   intro g;induction g with
   |nil=>intro b i d z e;cases b with
    |nil=>exact Zn e
    |cons _ _=>exact z.elim
   |cons a g F=>
    intro b i d z e;cases b with
    |nil=>exact z.elim
    |cons m b=>
     obtain⟨⟨I,k,n⟩,M⟩:=z;cases i with
     |zero=>
      obtain rfl:=Zj e;exact#[_,rfl,.inr (.inl #[a,.lst m,rfl,rfl,I,k,n])]
     |succ i=>exact F M e
  exact s P e
noncomputable def uO(b:jr)(c:L2.St)(a):=∃(j:Nat) (q:Y _) (o:OD),b[j]?=S (.ow q o)/\c[j]?=S (S (.ref a))
structure FA where
 l:L Addr
 p:Addr
noncomputable instance:Coe FA (L Addr):=#[FA.l]
noncomputable def cZ(K:uXa)(e:Hp)(P:Addr)(c)(d:L2.St)(H)(O:L _):=∀(i:Nat) (q h),c[i]?=S (.lo q h)->∃l b,d[i]?=S (S (.ref l))/\(q=B->l=P)/\yS K H (j6 H O) l b h/\(l::b).Nodup/\(∀a∈l::b,a∈O/\e a=J/\¬uO c d a)/\∀j g f,c[j]?=S (.lo g f)->j=i
def cZ.up{K t H s P p m o g O r}(h:cZ K t P p o H O)(v:∀(i:Nat) (q x),m[i]?=S (.lo q x)->p[i]?=S (.lo q x)/\g[i]?=o[i]?)(Q:∀a,H a≠J->uO m g a->uO p o a)
  (y:∀a,a∈O->¬uO p o a->a∈r/\∀u,H a=S u->s a=S u) (N:j4 (j6 H O) (j6 s r)):cZ K t P m g s r:=λi q x e=>by
 obtain⟨C,I⟩:=v i q x e;obtain⟨l,F,a,R,b,n,f,u⟩:=h i q x C;have k:=λc d=>(y c (f c d).1 (f c d).2.2).2;refine#[l,F,I.trans a,R,b.mono k N,n,λc d=>#[(y c (f c d).1 (f c d).2.2).1,(f c d).2.1,λz=>(f c d).2.2 (Q c ?_ z)],λj w A z=>u j w A (v j w A z).1];obtain⟨T,M⟩:=b.at c d;rw[M];exact λz=>nomatch z
structure Rel (K) (H0:Hp) (O0:FA) (ρ:jr) (U:L2.St) (H:Hp) (O:L _) where
 len:U.length=ρ.length
 sub:∀a∈O0.l,a∈O
 fr:∀a∈O,a∈O0.l\/H0 a=J
 al0:∀a∈O0.l,H0 a≠J
 al:∀a∈O,H a≠J
 keep:j4 H0 H
 cl:∀(i:Nat) (d),ρ[i]?=S (.cl d)->∃v,U[i]?=S (S v)/\jI K (j6 H O) d v
 bo:∀(i:Nat) (d),ρ[i]?=S (.bo d)->∃v,U[i]?=S (S v)/\RB K O0.l H0 d v
 ow:∀(i:Nat) (q o),ρ[i]?=S (.ow q o)->∃l,(∀p,q=S p->l=p)/\U[i]?=S (S (.ref l))/\yt K H (j6 H O) l o/\l∈O/\H0 l=J
 dist:∀(i j:Nat) (q q' ds es l),ρ[i]?=S (.ow q ds)->ρ[j]?=S (.ow q' es)->U[i]?=S (S (.ref l))->U[j]?=S (S (.ref l))->i=j
 lo:cZ K H0 O0.p ρ U H O
section
variable{K:uXa}{H0 H H':Hp}{O0:FA}{O:L Addr}{ρ:jr}{U:L2.St}
def Rel.in0(R:Rel K H0 O0 ρ U H O):j4 (j6 H0 O0.l) (j6 H O):=λb o h=>by
 obtain⟨c,a⟩:=jZ h;rw[jA (λz=>by rcases R.fr b z with y|y;exact c y;rw[a]at y;exact Zs y)];exact R.keep _ _ a
def Rel.grow(R:Rel K H0 O0 ρ U H O)(s:j4 H H'):Rel K H0 O0 ρ U H' O where
 len:=R.len
 sub:=R.sub
 fr:=R.fr
 al0:=R.al0
 al:=λa h z=>R.al a h (s.none z)
 keep:=R.keep.trans s
 cl:=λi d e=>by obtain⟨v,a,b⟩:=R.cl i d e;exact#[v,a,b.same (jf s)]
 bo:=R.bo
 ow:=λi q d e=>by obtain⟨l,z,a,b,d,f⟩:=R.ow i q d e;exact#[l,z,a,b.same (s l) (jf s),d,f]
 dist:=R.dist
 lo:=R.lo.up (λi q x e=>#[e,rfl]) (λa _ z=>z) (λa h _=>#[h,λu z=>s a u z]) (jf s)
def Rel.new(R:Rel K H0 O0 ρ U H O)(h:H p=J):p∉O:=λz=>R.al p z h
def jo{b:Type}{a:L b}{i j x y}(h:(a.set i x)[j]?=S y):(j=i/\y=x/\i<a.length)\/(j≠i/\a[j]?=S y):=by
 rw[List.getElem?_set]at h;by_cases e:i=j
 ·simp_all
 ·rw[if_neg e]at h;exact .inr #[λz=>e z.symm,h]
def Zc{a:L b}(h:i<a.length):(a.set i x)[i]?=S x:=by simp[h]
def j_{a:L b}(h:j≠i):(a.set i x)[j]?=a[j]?:=by rw[List.getElem?_set,if_neg (λz=>h z.symm)]
def UT{i j:Nat}{s v q h}(c:∀q h,s≠.lo q h)(e:(ρ.set i s)[j]?=S (.lo q h)):ρ[j]?=S (.lo q h)/\(U.set i v)[j]?=U[j]?:=by
 rcases jo e with⟨rfl,a,_⟩|⟨b,a⟩
 ·exact vDa a.symm (c q h)
 ·exact#[a,j_ b]
def GH(d:∀q o,s=.ow q o->v≠S (.ref a))(g:U.length=ρ.length):uO (ρ.set i s) (U.set i v) a->uO ρ U a:=λc=>by
 obtain⟨j,q,o,e,z⟩:=c;rcases jo e with⟨rfl,b,h⟩|⟨f,b⟩
 ·rw[Zc (by simp_all)]at z;exact vDa (vFa z) (d _ _ b.symm)
 ·rw[j_ f]at z;exact#[j,q,o,b,z]
def Rel.set(R:Rel K H0 O0 ρ U H O){d v}(q:jI K (j6 H O) d v)(i):Rel K H0 O0 (ρ.set i (.cl d)) (U.set i (S v)) H O where
 len:=by rw[List.length_set,List.length_set];exact R.len
 sub:=R.sub
 fr:=R.fr
 al0:=R.al0
 al:=R.al
 keep:=R.keep
 cl:=λj f e=>by
  rcases jo e with⟨rfl,b,g⟩|⟨c,b⟩
  ·cases b;exact#[v,Zc (by rw[R.len];exact g),q]
  ·rw[j_ c];exact R.cl j f b
 bo:=λj f e=>by
  rcases jo e with⟨rfl,b,g⟩|⟨c,b⟩
  ·cases b
  ·rw[j_ c];exact R.bo j f b
 ow:=λj A f e=>by
  rcases jo e with⟨rfl,b,g⟩|⟨c,b⟩
  ·cases b
  ·rw[j_ c];exact R.ow j A f b
 dist:=λj k y t w s l C F p r=>by
  rcases jo C with⟨rfl,b,g⟩|⟨c,n⟩
  ·cases b
  ·rcases jo F with⟨rfl,b,g⟩|⟨m,o⟩
   ·cases b
   ·rw[j_ c]at p;rw[j_ m]at r;exact R.dist j k y t w s l n o p r
 lo:=R.lo.up (λj q x e=>UT (by lia) e) (λa _ z=>GH (by lia) R.len z) (λa h _=>#[h,λu z=>z]) (j4.refl _)
def Rel.own(R:Rel K H0 O0 ρ U H O)(s:j4 H H')(w:H l=J)(h:yt K H' (j6 H' (l::O)) l I)(i):Rel K H0 O0 (ρ.set i (.ow J I)) (U.set i (S (.ref l))) H' (l::O) where
 len:=by rw[List.length_set,List.length_set];exact R.len
 sub:=λa h=>wMa _ (R.sub a h)
 fr:=λa m=>by
  rcases uTa m with rfl|m
  ·exact .inr (R.keep.none w)
  ·exact R.fr a m
 al0:=R.al0
 al:=λa m=>by
  rcases uTa m with rfl|m
  ·exact h.there
  ·exact λz=>R.al a m (s.none z)
 keep:=R.keep.trans s
 cl:=λj F e=>by
  rcases jo e with⟨rfl,c,r⟩|⟨n,c⟩
  ·cases c
  ·rw[j_ n];obtain⟨v,a,b⟩:=R.cl j F c;exact#[v,a,b.same (Yz s w)]
 bo:=λj F e=>by
  rcases jo e with⟨rfl,c,r⟩|⟨n,c⟩
  ·cases c
  ·rw[j_ n];exact R.bo j F c
 ow:=λj W F e=>by
  rcases jo e with⟨rfl,c,r⟩|⟨n,c⟩
  ·cases c;exact#[l,(λp z=>nomatch z),Zc (by rw[R.len];exact r),h,wNa,R.keep.none w]
  ·rw[j_ n];obtain⟨M,z,a,b,d,f⟩:=R.ow j W F c;exact#[M,z,a,b.same (s M) (Yz s w),wMa _ d,f]
 dist:=λj k P T X N M e1 Q A y=>by
  have g:∀(j:Nat) (q I),ρ[j]?=S _->U[j]?≠S (S (.ref l)):=λj q I e z=>by
   obtain⟨l2,_,a,b,_⟩:=R.ow j q I e;rw[z]at a;cases a;exact b.there w
  rcases jo e1 with⟨rfl,c,r⟩|⟨n,C⟩
  ·rcases jo Q with⟨rfl,UQ,Z⟩|⟨o,t⟩
   ·rfl
   ·rw[Zc (by rw[R.len];exact r)]at A;cases A;rw[j_ o]at y;exact vDa y (g k T N t)
  ·rcases jo Q with⟨rfl,c,r⟩|⟨o,t⟩
   ·rw[Zc (by rw[R.len];exact r)]at y;cases y;rw[j_ n]at A;exact vDa A (g j P _ C)
   ·rw[j_ n]at A;rw[j_ o]at y;exact R.dist j k P T _ N M C t A y
 lo:=R.lo.up (λj q x e=>UT (by lia) e) (λa m z=>GH (by lia) R.len z) (λa m _=>#[wMa _ m,λu z=>s a u z]) (Yz s w)
def Rel.change(R:Rel K H0 O0 ρ U H O)(e:ρ[i]?=S (.ow t Z))(T:∀p,t=S p->l=p)(n:U[i]?=S (S (.ref l)))(r:l∈O)(F:H0 l=J)(q:yt K (upd H l u) (j6 H O) l ds'):Rel K H0 O0 (ρ.set i (.ow t ds')) U (upd H l u) O where
 len:=by rw[List.length_set];exact R.len
 sub:=R.sub
 fr:=R.fr
 al0:=R.al0
 al:=λa v=>by
  by_cases z:a=l
  ·rw[z,jj];exact λz=>nomatch z
  ·rw[ja z];exact R.al a v
 keep:=R.keep.upd F _
 cl:=λj m e=>by
  rcases jo e with⟨rfl,c,n⟩|⟨w,c⟩
  ·cases c
  ·rw[Y1 r];exact R.cl j m c
 bo:=λj m e=>by
  rcases jo e with⟨rfl,c,n⟩|⟨w,c⟩
  ·cases c
  ·exact R.bo j m c
 ow:=λj N m s=>by
  rw[Y1 r];rcases jo s with⟨rfl,c,_⟩|⟨w,c⟩
  ·cases c;exact#[l,T,n,q,r,F]
  ·obtain⟨A,z,a,b,d,f⟩:=R.ow j N m c;refine#[A,z,a,b.same (λu h=>?_) (j4.refl _),d,f];rw[ja]
   ·exact h
   ·rintro rfl;exact w (R.dist j i _ _ _ _ _ c e a n)
 dist:=λj k q1 I g es A P s M UQ=>by
  have f:∀(j:Nat) (q g),(ρ.set i (.ow t ds'))[j]?=S (.ow q g)->∃I C,ρ[j]?=S (.ow I C):=λj q g z=>by
   rcases jo z with⟨rfl,_,_⟩|⟨_,z⟩
   ·exact#[_,_,e]
   ·simp_all
  obtain⟨_,d1,W⟩:=f j _ _ P;obtain⟨_,d2,X⟩:=f k _ _ s;exact R.dist j k _ _ _ _ A W X M UQ
 lo:=by
  have ft:uO ρ U l:=#[i,_,_,e,n]
  refine R.lo.up (λj q x e=>#[(UT (U:=U) (v:=J) (by lia) e).1,rfl]) (λa _ ⟨j,q,o,c,z⟩=>?_) (λa v Q=>#[v,λu z=>?_]) (by rw[Y1 r];exact j4.refl _)
  ·rcases jo c with⟨rfl,_,_⟩|⟨_,c⟩
   ·simp_all
   ·exact#[j,q,o,c,z]
  ·rw[ja λy=>Q (by lia)];exact z
def Rel.share(R:Rel K H0 O0 ρ U H O){w}(e:ρ[i]?=S (.ow q w)):∃I,Rel K H0 O0 (ρ.set i (.cl w.toD)) U H I/\j4 (j6 H O) (j6 H I):=by
 obtain⟨l,_,A,q,lo,T⟩:=R.ow i q w e;have n:j4 _ (j6 H (O.filter (·≠l))):=JF λa h=>(List.mem_filter.mp h).1;have F:l∉O.filter (·≠l):=λz=>by simp_all
 refine#[_,#[by rw[List.length_set];exact R.len,λa h=>List.mem_filter.mpr #[R.sub a h,?_],λa h=>R.fr a (List.mem_filter.mp h).1,R.al0,λa h=>R.al a (List.mem_filter.mp h).1,R.keep,?_,?_,?_,?_,?_],n]
 ·have z:a≠l:=by
   rintro rfl;exact R.al0 a h T
  simpa using z
 ·intro j m g;rcases jo g with⟨rfl,c,s⟩|⟨p,c⟩
  ·cases c;exact#[_,A,(q.same (λ_ z=>z) n).rep λu z=>by rw[jA F];exact z]
  ·obtain⟨v,a,b⟩:=R.cl j m c;exact#[v,a,b.same n]
 ·intro j m g;rcases jo g with⟨rfl,c,s⟩|⟨p,c⟩
  ·cases c
  ·exact R.bo j m c
 ·intro j N m g;rcases jo g with⟨rfl,c,s⟩|⟨p,c⟩
  ·cases c
  ·obtain⟨r,z,a,b,d,f⟩:=R.ow j N m c;refine#[r,z,a,b.same (λ_ z=>z) n,List.mem_filter.mpr #[d,?_],f];have z:r≠l:=by
    rintro rfl;exact p (R.dist j i _ _ _ _ _ c e a A)
   simpa using z
 ·intro j k q1 q2 UQ es r P g Z X;rcases jo P with⟨rfl,c,s⟩|⟨p,t⟩
  ·cases c
  ·rcases jo g with⟨rfl,c,s⟩|⟨M,C⟩
   ·cases c
   ·exact R.dist j k _ _ _ _ r t C Z X
 ·refine R.lo.up (λj q x e=>#[(UT (U:=U) (v:=J) (by lia) e).1,rfl]) (λa _ ⟨j,q,o,c,z⟩=>?_) (λa W Q=>#[List.mem_filter.mpr #[W,?_],λu z=>z]) n
  ·rcases jo c with⟨rfl,y,_⟩|⟨_,c⟩
   ·cases y
   ·exact#[j,q,o,c,z]
  ·have:a≠l:=λy=>Q (by rw[y];exact#[i,_,_,e,A]);simpa using this
end
noncomputable abbrev DE:=jr->Y D
noncomputable abbrev DO:=jr->Y OD
noncomputable abbrev Fr:=uXa
noncomputable def tE(K:Fr)(f:DE):TE:=λe H Q=>∃g c b O d,Rel K g c b e H O/\f b=S d/\∀v a,j4 H a->jI K (j6 a O) d v->Q v a
noncomputable def tR(K:Fr)(f:DE):TE:=λe H Q=>∃g c b O d,Rel K g c b e H O/\f b=S d/\∀v a,j4 H a->RB K O a d v->Q v a
noncomputable def tF(K:Fr)(e:DO):TE:=λd H Q=>∃f c b O o,Rel K f c b d H O/\e b=S o/\∀l a,j4 H a->H l=J->yt K a (j6 a (l::O)) l o->Q (.ref l) a
noncomputable def tT(K:Fr)(g:jr->Y Bool):TT:=λf H Q=>∃e d a O b,Rel K e d a f H O/\g a=S b/\∀c,j4 H c->Q b c
noncomputable def AK(K:Fr)(O:L Addr)(H:Hp):Bool->D->V->Prop
 |true,d,v=>jI K (j6 H O) d v
 |false,d,v=>RB K O H d v
noncomputable def yb(K:Fr)(O:L Addr)(H:Hp):L Bool->L D->L V->Prop
 |[],[],[]=>True
 |k::c,d::b,v::a=>AK K O H k d v/\yb K O H c b a
 |_,_,_=>False
theorem AK.same{K O H a}(s:j4 H a):∀{k d v},AK K O H k d v->AK K O a k d v
 |true,_,_,h=>jI.same (jf s) h
 |false,_,_,h=>RB.same s h
theorem AK.rb{K O H}:∀{k d v},AK K O H k d v->RB K O H d v
 |true,_,_,h=>.inl h
 |false,_,_,h=>h
theorem yb.same{K O H c}(s:j4 H c):∀{d b a},yb K O H d b a->yb K O c d b a
 |[],[],[],_=>trivial
 |_::_,_::_,_::_,h=>#[AK.same s h.1,yb.same s h.2]
 |[],[],_::_,h=>h.elim
 |[],_::_,_,h=>h.elim
 |_::_,[],_,h=>h.elim
 |_::_,_::_,[],h=>h.elim
noncomputable abbrev DA:=L (Bool×DE)
@[simp] noncomputable def Ys:DA->jr->Y (L D)
 |[],_=>S []
 |p::b,a=>(p.2 a).bind λd=>(Ys b a).bind λc=>S (d::c)
noncomputable def yw(K:Fr)(l:DA):TA:=λf H Q=>∃e g d O c,Rel K e g d f H O/\Ys l d=S c/\∀b a,j4 H a->yb K O a (l.map (·.1)) c b->Q b a
section
variable{X:Cx}{K:Fr}{e a b c d:Expr}{de da db dc dd:DE}{pos:Pos}
def jx(h:PE X e t)(f:∀g H Q,j g H Q->t g H Q):PE X e j:=λi s g H Q I q=>h _ s g H Q I (f g H Q q)
def kH(h:PT X e t)(f:∀g H Q,j g H Q->t g H Q):PT X e j:=λi s g H Q I q=>h _ s g H Q I (f g H Q q)
def c_(h:PW X e t)(f:∀g H Q,j g H Q->t g H Q):PW X e j:=λw i s g H Q I q=>h w _ s g H Q I (f g H Q q)
def C0(h:PA X j t)(f:∀g H Q,k g H Q->t g H Q):PA X j k:=λp i s g H Q I q=>h p _ s g H Q I (f g H Q q)
def Mc(h:PE X e (tE K de)):PE X e (tR K de):=jx h λl H Q x=>by obtain⟨g,i,f,O,d,R,k,q⟩:=x;exact#[g,i,f,O,d,R,k,λv j s r=>q v j s (.inl r)]
@[simp] noncomputable def dL(g:DO)(f):=(g f).bind λl=>S l.toD
def j1{o:Y g}(h:o.bind f=S y):∃x,o=S x/\f x=S y:=by
 cases o with
 |none=>exact Zn h
 |some x=>exact#[x,rfl,h]
def fN(h:PE X e (tF K o)):PE X e (tE K (dL o)):=jx h λv H Q m=>by
 obtain⟨i,n,f,O,d,R,t,q⟩:=m;obtain⟨g,j,p⟩:=j1 t;obtain rfl:=Zj p;exact#[i,n,f,O,g,R,j,λl w s k r=>q _ _ s ((r.same (λ_ z=>z) (JF λa h=>wMa _ h)).rep λu z=>by rw[jA (R.new k)];exact z)]
@[simp] noncomputable def dV(i:Nat)(f:jr):Y D:=match f[i]? with
 |S (.cl d)=>S d
 |S (.bo d)=>S d
 |S (.ow _ o)=>S o.toD
 |S (.lo _ h)=>S h.toD
 |_=>J
@[simp] noncomputable def dC(i:Nat)(f:jr):Y D:=match f[i]? with
 |S (.cl d)=>S d
 |_=>J
def IZ(i)(h:PE X (.Name x pos) (yf i)):PE X (.Name x pos) (tR K (dV i)):=jx h λw H Q p=>by
 obtain⟨t,y,s,O,d,R,j,q⟩:=p;unfold dV at j;split at j
 ·cases j;obtain⟨v,g,r⟩:=R.cl i _ (by assumption);exact#[v,g,q v H (j4.refl H) (.inl r)]
 ·cases j;obtain⟨v,g,r⟩:=R.bo i _ (by assumption);refine#[v,g,q v H (j4.refl H) ?_];rcases r with r|⟨l,o,k,n,f⟩|⟨l,m,o,k,n,f⟩
  ·exact .inl (r.same R.in0)
  ·exact .inr (.inl #[l,o,k,n,f.same (R.keep l) R.in0])
  ·exact .inr (.inr #[l,m,o,k,n,f.mono (λa _ u z=>R.keep a u z) R.in0])
 ·cases j;obtain⟨l,_,g,f,_⟩:=R.ow i _ _ (by assumption);exact#[_,g,q _ H (j4.refl H) (.inr (.inl #[l,_,rfl,rfl,f]))]
 ·cases j;obtain⟨l,m,g,_,f,_⟩:=R.lo i _ _ (by assumption);exact#[_,g,q _ H (j4.refl H) (.inr (.inr #[l,m,_,rfl,rfl,f]))]
 ·exact Zn j
def C1(i)(h:PE X (.Name x pos) (yf i)):PE X (.Name x pos) (tE K (dC i)):=jx h λm H Q g=>by
 obtain⟨n,l,k,O,d,R,f,q⟩:=g;unfold dC at f;split at f
 ·cases f;obtain⟨v,j,r⟩:=R.cl i _ (by assumption);exact#[v,j,q v H (j4.refl H) r]
 ·exact Zn f
@[simp] noncomputable def dK(d:D)(_:jr):=S d
def kK{d}(h:PE X e (tC v))(r:∀H,jI K H d v):PE X e (tE K (dK d)):=jx h λl H Q g=>by
 obtain⟨m,j,i,O,k,R,f,q⟩:=g;obtain rfl:=Zj f;exact q v H (j4.refl H) (r _)
def I_:PE X (.Constant (.int i) j pos) (tE K (dK (.int i))):=kK Em λ_=>rfl
def Md:PE X (.Constant (.bool i) j pos) (tE K (dK (.bl i))):=kK IA λ_=>rfl
def l7:PE X (.Constant .none j pos) (tE K (dK .non)):=kK En λ_=>rfl
def lc:PE X (.Constant (.str i) j pos) (tE K (dK (.str i))):=kK Wm λ_=>rfl
def fP(h:PE X (.Name x pos) (tC (.int i))):PE X (.Name x pos) (tE K (dK (.int i))):=kK h λ_=>rfl
@[simp] noncomputable def d2(f:D->D->Y D)(da db:DE)(g):=(da g).bind λx=>(db g).bind λy=>f x y
@[simp] noncomputable def d1(f:D->Y D)(da:DE)(g):=(da g).bind f
noncomputable def Jl(K:Fr)(r:R2)(f:D->D->Y D):=∀(O H a b d x y Q),RB K O H a x->RB K O H b y->(∀p,H p=J->p∉O)->f a b=S d->(∀v g,j4 H g->jI K (j6 g O) d v->Q v g)->r x y H Q
def kL(t:Jl K r f):∀h H Q,tE K (d2 f da db) h H Q->Qz r (tR K da) (tR K db) h H Q:=λh H Q C=>by
 obtain⟨l,k,m,O,d,R,g,q⟩:=C;obtain⟨x,I,g⟩:=j1 g;obtain⟨y,w,g⟩:=j1 g;exact#[l,k,m,O,x,R,I,λA N j z=>#[l,k,m,O,y,R.grow j,w,λu o i n=>t O o x y d A u Q (z.same i) n (λp M=>(R.grow (j.trans i)).new M) g λv F s r=>q v F ((j.trans i).trans s) r]]
def Me(h:jW X (binaryOp i) r)(j:Jl K r f)(k:PE X a (tR K da))(g:PE X b (tR K db)):PE X (.BinOp a i b pos) (tE K (d2 f da db)):=jx (cz h k g) (kL j)
def C2(i:jW X (compareOp g) r)(j:Jl K r f)(k:PE X a (tR K da))(l:PE X b (tR K db))(h:behindInMarks g b=G):PE X (.Compare a [g] [b] pos) (tE K (d2 f da db)):=jx (dv i k l h) (kL j)
def bN(h:Ur X r)(i:Jl K r f)(k:PE X a (tR K da))(g:PE X b (tR K db))(j:gY b):PE X (.Subscript a b pos) (tE K (d2 f da db)):=jx (xY h k g j) (kL i)
noncomputable def fQ(K:Fr)(r:R2)(f:D->D->Y OD):=∀(O H a b h x y Q),RB K O H a x->RB K O H b y->f a b=S h->(∀l g,j4 H g->H l=J->yt K g (j6 g (l::O)) l h->Q (.ref l) g)->r x y H Q
@[simp] noncomputable def yx(f:D->D->Y OD)(da db:DE)(g):=(da g).bind λx=>(db g).bind λy=>f x y
def Mf(C:jW X (binaryOp M) r)(I:fQ K r f)(z:PE X a (tR K da))(u:PE X b (tR K db)):PE X (.BinOp a M b pos) (tF K (yx f da db)):=jx (cz C z u) λUQ H Q F=>by
 obtain⟨m,k,j,O,d,R,g,q⟩:=F;obtain⟨x,n,g⟩:=j1 g;obtain⟨y,v,g⟩:=j1 g;exact#[m,k,j,O,x,R,n,λo T h p=>#[m,k,j,O,y,R.grow h,v,λN P i w=>I O P x y d o N Q (p.same i) w g λl t s A r=>q l t ((h.trans i).trans s) ((h.trans i).none A) r]]
@[simp] noncomputable def fI(C:Int->Int->Bool)(g:Int->Int->D):D->D->Y D
 |.int i,.int j=>if C i j=B then S (g i j)else J
 |_,_=>J
noncomputable def vD:D->Y V
 |.int i=>S (.int i)
 |.bl i=>S (.bl i)
 |.str i=>S (.str i)
 |.non=>S .non
 |_=>J
def fT{d v}(h:vD d=S v):jI K H d v:=by
 cases d<;>first|(obtain rfl:=Zj h;rfl)|exact Zn h
def WF{f}(m:∀i j,C i j=B->P i j)(k:∀i j,vD (g i j)=S (f i j)):Jl K (rI P f) (fI C g):=by
 intro O H a b d x y Q l h _ e q;unfold fI at e;split at e
 ·split at e
  ·obtain rfl:=Zj e;exact#[_,_,l.int,h.int,m _ _ (by assumption),q _ H (j4.refl H) (fT (k _ _))]
  ·exact Zn e
 ·exact Zn e
def kM{f}(m:∀i j,vD (g i j)=S (f i j)):Jl K (vk f) (fI (λ_ _=>B) g):=by
 intro O H a b d x y Q n h k e q;obtain⟨i,j,o,l,_,q⟩:=WF (λ_ _ _=>trivial) m O H a b d x y Q n h k e q;exact#[i,j,o,l,q]
noncomputable abbrev zg:=fI (λ_ _=>B) λi j=>.int (i-j)
noncomputable def GJ(i j:Int):=Nat.blt i.natAbs 18446744073709551616||Nat.blt j.natAbs 18446744073709551616
noncomputable abbrev X9:=fI GJ λi j=>.int (i*j)
noncomputable abbrev jt:=fI (λ_ j=>decide (0<j)) λi j=>.int (i%j)
noncomputable abbrev Y2:=fI (λ_ j=>decide (0<j)&&decide (j<1073741824)) λi j=>.int (i/j)
@[simp] noncomputable def fU(i j:Int):=decide (0<=j)&&(decide (j<=1000000)&&decide (i.natAbs<2^64))
noncomputable abbrev WG:=fI fU λi j=>.int (i^j.toNat)
noncomputable abbrev ZP:=fI (λ_ _=>B) λi j=>.bl (decide (i<j))
noncomputable abbrev JB:=fI (λ_ _=>B) λi j=>.bl (decide (i<=j))
noncomputable abbrev vV:=fI (λ_ _=>B) λi j=>.bl (decide (j<i))
noncomputable abbrev WH:=fI (λ_ _=>B) λi j=>.bl (decide (j<=i))
def lf:Jl K (vk λi j=>.int (i-j)) zg:=kM λ_ _=>rfl
def lg:Jl K (rI GF λi j=>.int (i*j)) X9:=WF (λi j h=>by
 unfold GJ at h;rw[Bool.or_eq_true,Nat.blt_eq,Nat.blt_eq]at h;unfold GF;have e:(2)^64=18446744073709551616:=rfl;rcases h with h|h
 ·exact .inl #[by omega,by omega]
 ·exact .inr #[by omega,by omega]) λ_ _=>rfl
def lh:Jl K (rI (λ_ j=>0<j) λi j=>.int (i%j)) jt:=WF (λi j h=>by simpa using h) λ_ _=>rfl
def li:Jl K (rI bq λi j=>.int (i/j)) Y2:=WF (λi j h=>by simpa[bq]using h) λ_ _=>rfl
def lj:Jl K (rI br λi j=>.int (i^j.toNat)) WG:=WF (λi j h=>by simpa[br,fU]using h) λ_ _=>rfl
def Mg:Jl K (vk λi j=>.bl (decide (i<j))) ZP:=kM λ_ _=>rfl
def Mh:Jl K (vk λi j=>.bl (decide (i<=j))) JB:=kM λ_ _=>rfl
def Mi:Jl K (vk λi j=>.bl (decide (j<i))) vV:=kM λ_ _=>rfl
def Mj:Jl K (vk λi j=>.bl (decide (j<=i))) WH:=kM λ_ _=>rfl
noncomputable def Vz:D->Bool
 |.non=>B
 |_=>G
@[simp] theorem ng:Vz .non=B:=rfl
@[simp] theorem nQ(b):Vz (.bl b)=G:=rfl
@[simp] theorem nh(b):Vz (.int b)=G:=rfl
@[simp] theorem ni(b):Vz (.str b)=G:=rfl
@[simp] theorem nj(b):Vz (.tup b)=G:=rfl
@[simp] theorem nk(b):Vz (.lst b)=G:=rfl
def C3{d v}(h:jI K H d v):decide (v=.non)=Vz d:=by
 cases d;all_goals first
  |(subst h;rfl)
  |(obtain⟨_,_,rfl,_⟩:=h;rfl)
  |(obtain⟨_,_,_,rfl,_⟩:=h;rfl)
  |(obtain⟨_,_,_,_,rfl,_⟩:=h;rfl)
  |(obtain⟨_,rfl,_⟩:=h;rfl)
noncomputable def GK:D->D->Y D
 |d,.non=>S (.bl (Vz d))
 |_,_=>J
@[simp] theorem Ml(d):GK d .non=S (.bl (Vz d)):=rfl
noncomputable def YX:D->D->Y D
 |d,.non=>S (.bl (!Vz d))
 |_,_=>J
@[simp] theorem LX(d):YX d .non=S (.bl (!Vz d)):=rfl
def lm:Jl K (λx y H Q=>y=.non/\Q (.bl (decide (x=.non))) H) GK:=by
 intro O H a b d x y Q g f _ e q;unfold GK at e;split at e
 ·obtain rfl:=Zj e;exact#[f.non,q _ H (j4.refl H) (by show _=_;rw[C3 g.full])]
 ·exact Zn e
def fW:Jl K (λx y H Q=>y=.non/\Q (.bl (!decide (x=.non))) H) YX:=by
 intro O H a b d x y Q g f _ e q;unfold YX at e;split at e
 ·obtain rfl:=Zj e;exact#[f.non,q _ H (j4.refl H) (by show _=_;rw[C3 g.full])]
 ·exact Zn e
noncomputable def vW:D->D->Y D
 |.int i,.int j=>S (.bl (decide (i=j)))
 |.bl i,.bl j=>S (.bl (decide (i=j)))
 |.str i,.str j=>S (.bl (decide (i=j)))
 |_,_=>J
@[simp] theorem nR(i j):vW (.int i) (.int j)=S (.bl (decide (i=j))):=rfl
@[simp] theorem nS(i j):vW (.bl i) (.bl j)=S (.bl (decide (i=j))):=rfl
@[simp] theorem nT(i j):vW (.str i) (.str j)=S (.bl (decide (i=j))):=rfl
@[simp] noncomputable def bO(a b:D):Y D:=(vW a b).bind λr=>match r with|.bl c=>S (.bl (!c))|_=>J
def ue(x y):decide (V.int x=V.int y)=decide (x=y):=by simp
def UL(x y):decide (V.bl x=V.bl y)=decide (x=y):=by simp
def uf(x y):decide (V.str x=V.str y)=decide (x=y):=by simp
def Xa:Jl K ET vW:=by
 intro O H a b d x y Q g f _ e q;unfold vW at e;split at e
 ·cases e;rw[g.int,f.int];exact#[rfl,q _ H (j4.refl H) (by show _=_;rw[ue])]
 ·cases e;rw[g.bl,f.bl];exact#[rfl,q _ H (j4.refl H) (by show _=_;rw[UL])]
 ·cases e;rw[g.str,f.str];exact#[rfl,q _ H (j4.refl H) (by show _=_;rw[uf])]
 ·exact Zn e
def lq:Jl K EU bO:=by
 intro O H a b d x y Q i g _ e q;unfold bO vW at e;obtain⟨r,f,h⟩:=j1 e;split at f
 ·cases f;cases h;rw[i.int,g.int];exact#[rfl,q _ H (j4.refl H) (by show _=_;rw[ue])]
 ·cases f;cases h;rw[i.bl,g.bl];exact#[rfl,q _ H (j4.refl H) (by show _=_;rw[UL])]
 ·cases f;cases h;rw[i.str,g.str];exact#[rfl,q _ H (j4.refl H) (by show _=_;rw[uf])]
 ·exact Zn f
noncomputable def j3:D->D->Y D
 |.lst l,.int i=>atI l i
 |.tup l,.int i=>atI l i
 |_,_=>J
@[simp] theorem nq(l i):j3 (.lst l) (.int i)=L2.atI l i:=rfl
@[simp] theorem nr(l i):j3 (.tup l) (.int i)=L2.atI l i:=rfl
def j7.atI{l xs i d}(h:j7 K H l xs)(e:L2.atI l i=S d):∃v,L2.atI xs i=S v/\jI K H d v:=by
 unfold L2.atI at e⊢;rw[h.len];obtain⟨j,g,f⟩:=j1 e;obtain⟨v,k,r⟩:=h.get f;exact#[v,by simp_all,r]
def fY:Jl K (LV K) j3:=by
 intro O H a b d x y Q k j _ e q;unfold j3 at e;split at e
 ·obtain⟨p,g,rfl,i,h⟩:=k.lst;obtain⟨v,f,r⟩:=h.atI e;exact .inl #[p,g,_,v,rfl,j.int,jY.of i,f,q v H (j4.refl H) r]
 ·obtain⟨p,g,rfl,i,h⟩:=k.tup;obtain⟨v,f,r⟩:=h.atI e;exact .inr (.inl #[p,g,_,v,rfl,j.int,i,f,q v H (j4.refl H) r])
 ·exact Zn e
@[simp] noncomputable def JN:D->D->Y OD
 |.lst l,.lst m=>if l.length+m.length<=sizeLine then S (.lst (l++m))else J
 |_,_=>J
def Y0{H p g f}(h:H p=J)(r:j7 K (j6 H O) g f):yt K (upd H p (.lst f)) (j6 (upd H p (.lst f)) (p::O)) p (.lst g):=#[f,jj,r.same (Yz (jM h _) h)]
def lr:fQ K fy JN:=by
 intro O H a b s x y Q m r e q;unfold JN at e;split at e
 ·split at e
  ·obtain rfl:=Zj e;obtain⟨p,k,rfl,o,i⟩:=m.lst;obtain⟨j,n,rfl,h,f⟩:=r.lst;exact#[p,j,k,_,rfl,rfl,o,h,by rw[i.len,f.len];assumption,λl g=>q l _ (jM g _) g (Y0 g (i.app f))]
  ·exact Zn e
 ·exact Zn e
def zp{p g f}(h:p∉O)(i:H p=J)(r:j7 K (j6 H O) g f):jI K (j6 (upd H p (.tup f)) O) (.tup g) (.ref p):=by
 refine#[p,f,rfl,yg.of ?_,r.same (jf (jM i _))];rw[jA h,jj]
noncomputable def jG:D->D->Y D
 |.int i,.int j=>S (.int (i+j))
 |.str i,.str j=>if i.length+j.length<=sizeLine then S (.str (i++j))else J
 |.tup l,.tup m=>if l.length+m.length<=sizeLine then S (.tup (l++m))else J
 |_,_=>J
@[simp] theorem nU(i j):jG (.int i) (.int j)=S (.int (i+j)):=rfl
@[simp] theorem fZ(i j):jG (.str i) (.str j)=if i.length+j.length<=sizeLine then S (.str (i++j))else J:=rfl
@[simp] theorem nV(l m):jG (.tup l) (.tup m)=if l.length+m.length<=sizeLine then S (.tup (l++m))else J:=rfl
set_option tactic.hygienic true in
theorem lu:Jl K (λx y H Q=>vk (λi j=>.int (i+j)) x y H Q\/(λx y H Q=>xX K x y H Q\/(λx y H Q=>∃i j,x=.str i/\y=.str j/\i.length+j.length<=sizeLine/\Q (.str (i++j)) H) x y H Q) x y H Q) jG:=by
 intro O H a b d x y Q f n C e q;unfold jG at e;split at e
 ·obtain rfl:=Zj e;exact .inl #[_,_,f.int,n.int,q _ H (j4.refl H) rfl]
 ·split at e
  ·obtain rfl:=Zj e;exact .inr (.inr #[_,_,f.str,n.str,by assumption,q _ H (j4.refl H) rfl])
  ·exact Zn e
 ·split at e
  ·rename_i M;obtain rfl:=Zj e;obtain⟨p,r,rfl,I,v⟩:=f.tup;obtain⟨A,g,rfl,u,k⟩:=n.tup;have F:=v.len;have w:=k.len;refine .inr (.inl #[p,A,r,_,rfl,rfl,I,u,by simp_all,λz=>?_,λ_ z=>?_,λ_ _ l s=>q _ _ (jM s _) (zp (C l s) s (v.app k))])
   ·refine q _ H (j4.refl H) ?_;have t:∀m:L D,r.length=m.length->r=[]->m=[]:=λm h z=>List.length_eq_zero_iff.mp (by simp_all);rw[t _ F z,List.nil_append];rcases n with f|⟨_,o,_,z,_⟩|⟨_,_,_,_,z,_⟩
    ·exact f
    ·cases o<;>cases z
    ·cases z
   refine q _ H (j4.refl H) ?_;have t:∀m:L D,g.length=m.length->g=[]->m=[]:=λm h z=>List.length_eq_zero_iff.mp (by simp_all);rw[t _ w z,uFa];rcases f with f|⟨_,o,_,z,_⟩|⟨_,_,_,_,z,_⟩
   ·exact f
   ·cases o<;>cases z
   ·cases z
  ·exact Zn e
 ·exact Zn e
end
section
variable{X:Cx}{K:Fr}{e a b c d:Expr}{de da db dc dd:DE}{pos:Pos}
@[simp] noncomputable def WI(z:D)(f:Y D):=match z with
 |.bl true=>f
 |.bl false=>S (.bl G)
 |_=>J
def VA{z d y}(h:WI z y=S d):∃k,z=.bl k/\((k=B/\y=S d)\/(k=G/\d=.bl G)):=by
 unfold WI at h;split at h
 ·exact#[_,rfl,.inl #[rfl,h]]
 ·exact#[_,rfl,.inr #[rfl,(vFa h).symm]]
 ·exact Zn h
@[simp] noncomputable def Jd(f h:D->D->Y D)(da db dc:DE)(g):=(da g).bind λx=>(db g).bind λy=>(f x y).bind λz=>WI z ((dc g).bind λw=>h y w)
def aO{f N}(hf:Jl K r f)(m:Jl K r' N):∀o H Q,tE K (Jd f N da db dc) o H Q->Wo r r' (tR K da) (tR K db) (tR K dc) o H Q:=λo H Q UQ=>by
 obtain⟨u,A,C,O,d,R,h,q⟩:=UQ;obtain⟨x,ex,h⟩:=j1 h;obtain⟨y,P,h⟩:=j1 h;obtain⟨z,ez,h⟩:=j1 h;obtain⟨k,rfl,ek⟩:=VA h;refine#[u,A,C,O,x,R,ex,λvx H1 j rx=>#[u,A,C,O,y,R.grow j,P,λM H2 t F=>hf O H2 x y _ vx M _ (rx.same t) F (λp i=>(R.grow (j.trans t)).new i) ez λv H3 I W=>?_]];subst W;refine#[k,rfl,?_];have g:=(j.trans t).trans I;rcases ek with⟨rfl,T⟩|⟨rfl,rfl⟩
 ·obtain⟨w,ew,Z⟩:=j1 T;exact Zb #[u,A,C,O,w,R.grow g,ew,λvw H4 n l=>m O H4 y w d M vw Q ((F.same I).same n) l (λp i=>(R.grow (g.trans n)).new i) Z λv H' s r=>q v H' ((g.trans n).trans s) r]
 ·exact Za (q _ _ g rfl)
def dW(k:jW X (compareOp j) r)(i:jW X (compareOp g) l)(n:Jl K r f)(h:Jl K l s)(p:PE X a (tR K da))(t:PE X b (tR K db))(o:PE X c (tR K dc))(m:lastMarks [j,g] [b,c]=G:=by with_unfolding_all rfl):PE X (.Compare a [j,g] [b,c] pos) (tE K (Jd f s da db dc)):=jx (bt k i p t o m) (aO n h)
@[simp] noncomputable def Ga(f j h:D->D->Y D)(da db dc dd:DE)(g):=(da g).bind λx=>(db g).bind λy=>(f x y).bind λz=>WI z ((dc g).bind λw=>(j y w).bind λi=>WI i ((dd g).bind λu=>h w u))
def bP{r r' A f f' m}(ho:jW X (compareOp op) r)(W:jW X (compareOp n) r')(o:jW X (compareOp i) A)(hf:Jl K r f)(Z:Jl K r' f')(l:Jl K A m)(ha:PE X a (tR K da))(hb:PE X b (tR K db))(hc:PE X c (tR K dc))(hd:PE X d (tR K dd))(hm:lastMarks [op,n,i] [b,c,d]=G:=by with_unfolding_all rfl):
  PE X (.Compare a [op,n,i] [b,c,d] pos) (tE K (Ga f f' m da db dc dd)):=jx (aM ho W o ha hb hc hd hm) λU H Q xx=>by
 obtain⟨M,I,F,O,d,R,j,q⟩:=xx;obtain⟨x,ex,j⟩:=j1 j;obtain⟨y,ey,j⟩:=j1 j;obtain⟨z,ez,j⟩:=j1 j;obtain⟨k,rfl,ek⟩:=VA j;refine#[M,I,F,O,x,R,ex,λvx H1 UQ rx=>#[M,I,F,O,y,R.grow UQ,ey,λvy H2 P ry=>hf O H2 x y _ vx vy _ (rx.same P) ry (λp t=>(R.grow (UQ.trans P)).new t) ez λv H3 s3 rz=>?_]];subst rz;refine#[k,rfl,?_];have g:=(UQ.trans P).trans s3;rcases ek with⟨rfl,e2⟩|⟨rfl,rfl⟩
 ·obtain⟨w,ew,N⟩:=j1 e2;obtain⟨z',ez',N⟩:=j1 N;obtain⟨k',rfl,T⟩:=VA N;refine Zb #[M,I,F,O,w,R.grow g,ew,λvw H4 s4 C=>Z O H4 y w _ vy vw _ ((ry.same s3).same s4) C (λp t=>(R.grow (g.trans s4)).new t) ez' λv H5 s5 r=>?_];subst r;refine#[k',rfl,?_];have h:=(g.trans s4).trans s5;rcases T with⟨rfl,e4⟩|⟨rfl,rfl⟩
  ·obtain⟨u,eu,e5⟩:=j1 e4;exact Zb #[M,I,F,O,u,R.grow h,eu,λvu H6 s6 ru=>l O H6 w u d vw vu Q ((C.same s5).same s6) ru (λp t=>(R.grow (h.trans s6)).new t) e5 λv H' s r=>q v H' ((h.trans s6).trans s) r]
  ·exact Za (q _ _ h rfl)
 ·exact Za (q _ _ g rfl)
@[simp] noncomputable def VB:D->Y Bool
 |.bl b=>S b
 |_=>J
noncomputable def UU:D->Y Bool
 |.bl b=>S b
 |.non=>S G
 |.int i=>S (i != 0)
 |.lst l=>S (!l.isEmpty)
 |.tup l=>S (!l.isEmpty)
 |_=>J
@[simp] theorem nt(b):UU (.bl b)=S b:=rfl
@[simp] theorem Mm:UU .non=S G:=rfl
@[simp] theorem Mn(l):UU (.lst l)=S (!l.isEmpty):=rfl
@[simp] theorem Mo(l):UU (.tup l)=S (!l.isEmpty):=rfl
@[simp] theorem Mp(i):UU (.int i)=S (i != 0):=rfl
set_option tactic.hygienic true in
theorem f_{d v k}(h:RB K O H d v)(e:UU d=S k):bv K v H k:=by
 unfold UU at e;split at e
 ·obtain rfl:=Zj e;rw[h.bl];rfl
 ·cases e;rw[h.non];rfl
 ·obtain rfl:=Zj e;rw[h.int];rfl
 ·cases e;obtain⟨p,f,rfl,i,g⟩:=h.lst;refine .inl #[f,jY.of i,?_];have:=g.len;cases f with
  |nil=>rw[List.length_eq_zero_iff.mp this.symm];rfl
  |cons x f=>
   rename_i l;cases l with
   |nil=>cases this
   |cons y l=>rfl
 ·cases e;obtain⟨p,f,rfl,i,g⟩:=h.tup;refine .inr (.inl #[f,i,?_]);have:=g.len;cases f with
  |nil=>rw[List.length_eq_zero_iff.mp this.symm];rfl
  |cons x f=>
   rename_i l;cases l with
   |nil=>cases this
   |cons y l=>rfl
 ·exact Zn e
noncomputable abbrev DT:=jr->Y Bool
@[simp] noncomputable def Jj(de:DE)(f):=(de f).bind UU
def lv(h:PE X e (tR K de))(p:X.K=K:=by rfl)(o:∀f,isTrue e X.env f=(do let v<-f;standAt e.pos;holding [v] (truthy v)):=by intro _;rfl):PT X e (tT K (Jj de)):=kH (bw h o) λw H Q j=>by
 obtain⟨m,l,g,O,k,R,u,q⟩:=j;subst p;obtain⟨d,i,n⟩:=j1 u;exact#[m,l,g,O,d,R,i,λv t s r=>#[k,f_ r n,q t s]]
@[simp] noncomputable def je(de:DE)(f):=(de f).bind VB
def WJ{d k}(h:VB d=S k):d=.bl k:=by
 unfold VB at h;split at h
 ·lia
 ·exact Zn h
def C4{f}(i:jW X (compareOp g) r)(z:Jl K r f)(l:PE X a (tR K da))(o:PE X b (tR K db))(t:behindInMarks g b=G):PT X (.Compare a [g] [b] pos) (tT K (je (d2 f da db))):=kH (QB i l o t) λm H Q w=>by
 obtain⟨u,x,h,O,k,R,p,q⟩:=w;obtain⟨d,y,j⟩:=j1 p;cases WJ j;exact kL z m H _ #[u,x,h,O,_,R,y,λv n s r=>#[k,by exact r,q n s]]
def dX{r P f W}(ho:jW X (compareOp T) r)(F:jW X (compareOp i) P)(hf:Jl K r f)(n:Jl K P W)(ha:PE X a (tR K da))(hb:PE X b (tR K db))(hc:PE X c (tR K dc))(hm:lastMarks [T,i] [b,c]=G:=by with_unfolding_all rfl):PT X (.Compare a [T,i] [b,c] pos) (tT K (je (Jd f W da db dc))):=kH (bu ho F ha hb hc hm) λU H Q xx=>by
 obtain⟨l,C,I,O,k,R,ed,q⟩:=xx;obtain⟨d,h,t⟩:=j1 ed;cases WJ t;obtain⟨x,ex,h⟩:=j1 h;obtain⟨y,Z,h⟩:=j1 h;obtain⟨z,ez,h⟩:=j1 h;obtain⟨k',rfl,ek⟩:=VA h;refine#[l,C,I,O,x,R,ex,λvx H1 m rx=>#[l,C,I,O,y,R.grow m,Z,λUQ H2 A M=>hf O H2 x y _ vx UQ _ (rx.same A) M (λp j=>(R.grow (m.trans A)).new j) ez λv H3 N rz=>?_]];subst rz;refine#[k',rfl,?_];have g:=(m.trans A).trans N;rcases ek with⟨rfl,t⟩|⟨rfl,e0⟩
 ·obtain⟨w,ew,e3⟩:=j1 t;exact Zb #[l,C,I,O,w,R.grow g,ew,λvw H4 u o=>n O H4 y w _ UQ vw _ ((M.same N).same u) o (λp j=>(R.grow (g.trans u)).new j) e3 λv H' s r=>#[k,by exact r,q H' ((g.trans u).trans s)]]
 ·cases e0;exact Za #[_,rfl,q _ g]
@[simp] noncomputable def Jp(f:DT)(g):=(f g).bind λk=>S (!k)
def lx(h:PT X a (tT K l)):PT X (.UnaryOp .Not a pos) (tT K (Jp l)):=kH (Es h) λt H Q m=>by
 obtain⟨i,n,f,O,k,R,r,q⟩:=m;obtain⟨g,j,o⟩:=j1 r;obtain rfl:=Zj o;exact#[i,n,f,O,g,R,j,λp s=>q p s]
@[simp] noncomputable def J4(g h:DT)(f):=(g f).bind λk=>if k=B then h f else S G
@[simp] noncomputable def yA(g h:DT)(f):=(g f).bind λk=>if k=B then S B else h f
def F2(h:PT X a (tT K f)):PW X (.BoolOp .And [a] pos) (tT K f):=dg h
def ly(h:PT X a (tT K f)):PW X (.BoolOp .Or [a] pos) (tT K f):=Eo h
def lB{l m:DT}{rest}(h:PT X a (tT K l))(t:PW X (.BoolOp .And (b::rest) pos) (tT K m)):PW X (.BoolOp .And (a::b::rest) pos) (tT K (J4 l m)):=c_ (Ep h t) λx H Q p=>by
 obtain⟨i,n,f,O,k,R,w,q⟩:=p;obtain⟨g,r,j⟩:=j1 w;refine#[i,n,f,O,g,R,r,λv s=>?_];cases g with
 |true=>exact Zb #[i,n,f,O,k,R.grow s,j,λu o=>q u (s.trans o)]
 |false=>obtain rfl:=Zj j;exact Za (q v s)
def Mq{l m:DT}{rest}(h:PT X a (tT K l))(t:PW X (.BoolOp .Or (b::rest) pos) (tT K m)):PW X (.BoolOp .Or (a::b::rest) pos) (tT K (yA l m)):=c_ (IB h t) λx H Q p=>by
 obtain⟨i,n,f,O,k,R,w,q⟩:=p;obtain⟨g,r,j⟩:=j1 w;refine#[i,n,f,O,g,R,r,λv s=>?_];cases g with
 |true=>obtain rfl:=Zj j;exact Zb (q v s)
 |false=>exact Za #[i,n,f,O,k,R.grow s,j,λu o=>q u (s.trans o)]
noncomputable def F5(h:PW X e (tT K f)):=h.pt
@[simp] noncomputable def Yt(da db:DE)(f):=(da f).bind λx=>match x with
 |.bl true=>db f
 |.bl false=>S (.bl G)
 |_=>J
@[simp] noncomputable def WK(da db:DE)(f):=(da f).bind λx=>match x with
 |.bl true=>S (.bl B)
 |.bl false=>db f
 |_=>J
@[simp] noncomputable def W3(da:DE)(f:jr):Y D:=(da f).bind λx=>match x with
 |.bl k=>S (.bl (!k))
 |_=>J
def C5(h:PE X a (tE K da)):PE X (.BoolOp f [a] pos) (tE K da):=Et h
def lC{rest}(o:PE X a (tR K da))(t:PE X (.BoolOp .And (b::rest) pos) (tE K db)):PE X (.BoolOp .And (a::b::rest) pos) (tE K (Yt da db)):=jx (Eu o t) λu H Q k=>by
 obtain⟨h,i,g,O,d,R,n,q⟩:=k;obtain⟨x,l,f⟩:=j1 n;refine#[h,i,g,O,x,R,l,λv w s r=>?_];split at f
 ·exact#[_,r.bl,Zb #[h,i,g,O,d,R.grow s,f,λv p m j=>q v p (s.trans m) j]]
 ·obtain rfl:=Zj f;exact#[_,r.bl,Za (q _ _ s rfl)]
 ·exact Zn f
def Mr{rest}(o:PE X a (tR K da))(t:PE X (.BoolOp .Or (b::rest) pos) (tE K db)):PE X (.BoolOp .Or (a::b::rest) pos) (tE K (WK da db)):=jx (IG o t) λu H Q k=>by
 obtain⟨h,i,g,O,d,R,n,q⟩:=k;obtain⟨x,l,f⟩:=j1 n;refine#[h,i,g,O,x,R,l,λv w s r=>?_];split at f
 ·obtain rfl:=Zj f;exact#[_,r.bl,Zb (q _ _ s rfl)]
 ·exact#[_,r.bl,Za #[h,i,g,O,d,R.grow s,f,λv p m j=>q v p (s.trans m) j]]
 ·exact Zn f
def lD(m:PE X a (tR K da)):PE X (.UnaryOp .Not a pos) (tE K (W3 da)):=jx (Ev m) λn H Q i=>by
 obtain⟨k,j,g,O,d,R,l,q⟩:=i;obtain⟨x,h,f⟩:=j1 l;refine#[k,j,g,O,x,R,h,λv o s r=>?_];split at f
 ·obtain rfl:=Zj f;exact#[_,r.bl,q _ _ s rfl]
 ·exact Zn f
@[simp] noncomputable def ZZ(da:DE)(f:jr):Y D:=(da f).bind λx=>match x with
 |.int i=>S (.int (-i))
 |_=>J
def lE(m:PE X a (tR K da)):PE X (.UnaryOp .USub a pos) (tE K (ZZ da)):=jx (IM ER m) λn H Q i=>by
 obtain⟨k,j,g,O,d,R,l,q⟩:=i;obtain⟨x,h,f⟩:=j1 l;refine#[k,j,g,O,x,R,h,λv o s r=>?_];split at f
 ·obtain rfl:=Zj f;exact#[_,r.int,q _ _ s rfl]
 ·exact Zn f
@[simp] noncomputable def WL(g:DT)(da db:DE)(f):=(g f).bind λk=>if k=B then da f else db f
def lG(p:PT X c (tT K u))(t:PE X a (tE K da))(w:PE X b (tE K db)):PE X (.IfExp c a b pos) (tE K (WL u da db)):=jx (bc p t w) λx H Q o=>by
 obtain⟨g,h,f,O,d,R,r,q⟩:=o;obtain⟨k,n,m⟩:=j1 r;refine#[g,h,f,O,k,R,n,λy s=>?_];cases k with
 |true=>exact Zb #[g,h,f,O,d,R.grow s,m,λv j l i=>q v j (s.trans l) i]
 |false=>exact Za #[g,h,f,O,d,R.grow s,m,λv j l i=>q v j (s.trans l) i]
def lH:PA X [] (yw K []):=C0 Yc λi H Q f=>by
 obtain⟨l,h,k,O,j,R,g,q⟩:=f;obtain rfl:=Zj g;exact q [] H (j4.refl H) trivial
def C6(A:∀o H Q,(∃i j f O d,Rel K i j f o H O/\de f=S d/\∀v n,j4 H n->AK K O n k d v->Q v n)->t o H Q)(h:PE X e t)(u:PA X m (yw K l))(y:starEach (e::m) X.env=(G,eval e X.env)::starEach m X.env:=by rfl):PA X (e::m) (yw K ((k,de)::l)):=C0 (Jx h u y) λo H Q x=>by
 obtain⟨i,j,f,O,M,R,g,q⟩:=x;obtain⟨d,F,g⟩:=j1 g;obtain⟨C,w,g⟩:=j1 g;obtain rfl:=Zj g;exact A _ _ _ #[i,j,f,O,d,R,F,λv N p z=>#[i,j,f,O,_,R.grow p,w,λP I r s=>q _ I (p.trans r) #[z.same r,s]]]
def Ms(h:PE X e (tE K de))(g:PA X f (yw K l))(i:starEach (e::f) X.env=(G,eval e X.env)::starEach f X.env:=by rfl):PA X (e::f) (yw K ((B,de)::l)):=C6 (λj H Q z=>z) h g i
def Mt(h:PE X e (tR K de))(g:PA X f (yw K l))(i:starEach (e::f) X.env=(G,eval e X.env)::starEach f X.env:=by rfl):PA X (e::f) (yw K ((G,de)::l)):=C6 (λj H Q z=>z) h g i
theorem UV:∀{l g f},Ys l g=S f->f.length=l.length
 |[],_,_,h=>by obtain rfl:=Zj h;rfl
 |p::k,g,f,h=>by
  obtain⟨d,m,h⟩:=j1 h;obtain⟨i,j,h⟩:=j1 h;obtain rfl:=Zj h;rw[vXa,vXa,UV j]
theorem yb.reps:∀{i g f},yb K O H i g f->i.all id=B->j7 K (j6 H O) g f
 |[],[],[],_,_=>j7.nil
 |true::_,_::_,_::_,h,e=>j7.cons h.1 (yb.reps h.2 (by simpa using e))
 |false::_,_::_,_::_,h,e=>Zf e
 |[],[],_::_,h,_=>h.elim
 |[],_::_,_,h,_=>h.elim
 |_::_,[],_,h,_=>h.elim
 |_::_,_::_,[],h,_=>h.elim
theorem yb.len:∀{ks ds vs},yb K O H ks ds vs->vs.length=ds.length/\ks.length=ds.length
 |[],[],[],_=>#[rfl,rfl]
 |_::_,_::_,_::_,h=>by have:=yb.len h.2;simp[this.1,this.2]
 |[],[],_::_,h=>h.elim
 |[],_::_,_,h=>h.elim
 |_::_,[],_,h=>h.elim
 |_::_,_::_,[],h=>h.elim
@[simp] noncomputable def jw(l:DA)(f:jr):Y D:=(Ys l f).bind λg=>S (.tup g)
def lI{t}(h:PA X u (yw K l))(m:(l.map (·.1)).all id=B:=by rfl)(n:Nat.ble l.length sizeLine=B:=by rfl):PE X (.Tuple u t pos) (tE K (jw l)):=jx (EY h) λA H Q o=>by
 obtain⟨k,s,x,O,d,R,w,q⟩:=o;obtain⟨j,i,v⟩:=j1 w;obtain rfl:=Zj v;refine#[k,s,x,O,j,R,i,λz y g r=>#[by rw[r.len.1,UV i];exact Nat.le_of_ble_eq_true n,λp f=>q _ _ (g.trans (jM f _)) (zp ((R.grow g).new f) f (r.reps m))]]
@[simp] noncomputable def ju(l:DA)(f:jr):Y OD:=(Ys l f).bind λg=>S (.lst g)
def lJ(h:PA X s (yw K l))(m:(l.map (·.1)).all id=B:=by rfl)(n:Nat.ble l.length sizeLine=B:=by rfl):PE X (.List s pos) (tF K (ju l)):=jx (EZ h) λy H Q o=>by
 obtain⟨k,t,w,O,d,R,v,q⟩:=o;obtain⟨j,i,u⟩:=j1 v;obtain rfl:=Zj u;refine#[k,t,w,O,j,R,i,λx z g r=>#[by rw[r.len.1,UV i];exact Nat.le_of_ble_eq_true n,λp f=>q _ _ (g.trans (jM f _)) (g.none f) (Y0 f (r.reps m))]]
noncomputable abbrev C7:=jr->Y (Y Int)
noncomputable def WM(K:Fr)(p:C7):TO:=λj H Q=>∃i h f O o,Rel K i h f j H O/\p f=S o/\∀g,j4 H g->Q o g
@[simp] noncomputable def yi:D->Y (Y Int)
 |.int i=>S (S i)
 |_=>J
def Mu:PO X J (WM K λ_=>S J):=λf s g H Q I h=>by
 obtain⟨l,k,j,O,o,R,i,q⟩:=h;obtain rfl:=Zj i;exact dB _ s g H Q I (q H (j4.refl H))
def Mv(h:PE X e (tR K de)):PO X (S e) (WM K λg=>(de g).bind yi):=λi s m H Q I n=>by
 obtain⟨l,k,g,O,o,R,t,q⟩:=n;obtain⟨d,j,f⟩:=j1 t;refine dE h _ s m H Q I #[l,k,g,O,d,R,j,λv p s r=>?_];unfold yi at f;split at f
 ·obtain rfl:=Zj f;exact#[_,r.int,q p s]
 ·exact Zn f
noncomputable def jP(xs:L f)(lo hi:Y _):=(xs.drop (HT.sIx xs.length 0 lo)).take (HT.sIx xs.length xs.length hi-HT.sIx xs.length 0 lo)
def j7.cut(h:j7 K H l g)(lo f):j7 K H (jP l lo f) (Kj g lo f):=by
 unfold jP Kj;rw[h.len];exact(h.drop _).take _
theorem j7.ints:∀f:L _,j7 K H (f.map D.int) (f.map V.int)
 |[]=>j7.nil
 |n::f=>j7.cons rfl (j7.ints f)
noncomputable def W6(d:D)(lo f:Y Int):Y OD:=match d with
 |.lst l=>S (.lst (jP l lo f))
 |.scr g=>S (.lst (jP (g.map D.int) lo f))
 |_=>J
@[simp] theorem LY(l lo f):W6 (.lst l) lo f=S (.lst (jP l lo f)):=rfl
@[simp] theorem LZ(l lo f):W6 (.scr l) lo f=S (.lst (jP (l.map D.int) lo f)):=rfl
@[simp] noncomputable def Jz(de:DE)(p q:C7)(f):=(de f).bind λd=>(p f).bind λlo=>(q f).bind λg=>W6 d lo g
def lK{lo t p q F}(M:PE X e (tR K de))(T:PO X lo (WM K p))(P:PO X t (WM K q))(Z:X.K=K:=by rfl):PE X (.Subscript e (.Slice lo t J F) pos) (tF K (Jz de p q)):=jx (Wu dI M T P) λU H Q UQ=>by
 obtain⟨k,o,s,O,d,R,f,y⟩:=UQ;subst Z;obtain⟨x,A,f⟩:=j1 f;obtain⟨l,N,f⟩:=j1 f;obtain⟨u,W,f⟩:=j1 f;refine#[k,o,s,O,x,R,A,λv H1 i r=>#[k,o,s,O,l,R.grow i,N,λH2 j=>#[k,o,s,O,u,R.grow (i.trans j),W,λH3 w=>?_]]];have g:=(i.trans j).trans w;have z:=r.same (j.trans w);unfold W6 at f;split at f
 ·obtain rfl:=Zj f;obtain⟨m,C,rfl,n,h2⟩:=z.lst;exact#[m,C,rfl,jY.of n,λp h=>y p _ (g.trans (jM h _)) (g.none h) (Y0 h (h2.cut l u))]
 ·obtain rfl:=Zj f;have I:=z.full;obtain⟨m,rfl,n⟩:=I;exact#[m,_,rfl,n,λp h=>y p _ (g.trans (jM h _)) (g.none h) (Y0 h ((j7.ints _).cut l u))]
 ·exact Zn f
noncomputable def Fn(K)(r:L V->Hp->VK->Prop)(f:L D->Y D):=∀(O H j h i d Q),yb K O H j h i->(∀p,H p=J->p∉O)->f h=S d->(∀v g,j4 H g->jI K (j6 g O) d v->Q v g)->r i H Q
noncomputable def C8(K)(r:L V->Hp->VK->Prop)(f:L D->Y OD):=∀(O H j h i d Q),yb K O H j h i->f h=S d->(∀l g,j4 H g->H l=J->yt K g (j6 g (l::O)) l d->Q (.ref l) g)->r i H Q
@[simp] noncomputable def j8(f:L D->Y D)(l g):=(Ys l g).bind f
@[simp] noncomputable def jS(f:L D->Y OD)(l g):=(Ys l g).bind f
def uj(x:Fn K r f):∀g H Q,tE K (j8 f l) g H Q->az r (yw K l) g H Q:=λg H Q n=>by
 obtain⟨y,o,C,O,d,R,A,q⟩:=n;obtain⟨h,k,w⟩:=j1 A;exact#[y,o,C,O,h,R,k,λt u i m=>x O u _ h t d Q m (λp j=>(R.grow i).new j) w λv z s r=>q v z (i.trans s) r]
def Ko(w:C8 K r f):∀g H Q,tF K (jS f l) g H Q->az r (yw K l) g H Q:=λg H Q o=>by
 obtain⟨x,p,j,O,d,R,z,q⟩:=o;obtain⟨h,k,v⟩:=j1 z;exact#[x,p,j,O,h,R,k,λt u i n=>w O u _ h t d Q n v λl y s m r=>q l y (i.trans s) (i.none m) r]
def Z_{g d f}(h:yb K O H g [d] f):∃v,f=[v]/\RB K O H d v:=by
 cases g with
 |nil=>exact h.elim
 |cons k g=>
  cases f with
  |nil=>exact h.elim
  |cons v f=>
   obtain⟨j,i⟩:=h;have:=yb.len i;have e:=List.length_eq_zero_iff.mp this.1;subst e;exact#[v,rfl,AK.rb j]
def Mw{i d j f}(h:yb K O H i [d,j] f):∃v g,f=[v,g]/\RB K O H d v/\RB K O H j g:=by
 cases i with
 |nil=>exact h.elim
 |cons k i=>
  cases f with
  |nil=>exact h.elim
  |cons v f=>
   obtain⟨l,m⟩:=h;obtain⟨g,rfl,r⟩:=Z_ m;exact#[v,g,rfl,AK.rb l,r]
@[simp] noncomputable def J9:L D->Y D
 |[.lst l]=>S (.int l.length)
 |[.tup l]=>S (.int l.length)
 |_=>J
def lL:Fn K (λf H Q=>∃p j,f=[.ref p]/\(jY K H p j\/yg K H p j)/\Q (.int j.length) H) J9:=by
 intro O H n k m d Q h l e q;unfold J9 at e;split at e
 ·cases e;obtain⟨v,rfl,r⟩:=Z_ h;obtain⟨p,f,rfl,g,i⟩:=r.lst;exact#[p,f,rfl,.inl (jY.of g),q _ H (j4.refl H) (by show _=_;rw[i.len])]
 ·cases e;obtain⟨v,rfl,r⟩:=Z_ h;obtain⟨p,f,rfl,g,i⟩:=r.tup;exact#[p,f,rfl,.inr g,q _ H (j4.refl H) (by show _=_;rw[i.len])]
 ·exact Zn e
@[simp] noncomputable def yy:L D->Y OD
 |[.lst l]=>S (.lst l)
 |[.tup l]=>S (.lst l)
 |_=>J
def F7:C8 K (λg H Q=>∃p j,g=[.ref p]/\(jY K H p j\/yg K H p j)/\∀l,H l=J->Q (.ref l) (upd H l (.lst j))) yy:=by
 intro O H m o n d Q h e q;unfold yy at e;split at e
 ·cases e;obtain⟨v,rfl,r⟩:=Z_ h;obtain⟨p,g,rfl,k,i⟩:=r.lst;exact#[p,g,rfl,.inl (jY.of k),λl f=>q _ _ (jM f _) f (Y0 f i)]
 ·cases e;obtain⟨v,rfl,r⟩:=Z_ h;obtain⟨p,g,rfl,k,i⟩:=r.tup;exact#[p,g,rfl,.inr k,λl f=>q _ _ (jM f _) f (Y0 f i)]
 ·exact Zn e
@[simp] noncomputable def zR:L D->Y D
 |[.lst l]=>S (.tup l)
 |[.tup l]=>S (.tup l)
 |_=>J
def dY:Fn K (λf H Q=>∃p j,f=[.ref p]/\((jY K H p j/\∀l,H l=J->Q (.ref l) (upd H l (.tup j)))\/(yg K H p j/\Q (.ref p) H))) zR:=by
 intro O H s t u d Q h n e q;unfold zR at e;split at e
 ·cases e;obtain⟨v,rfl,r⟩:=Z_ h;obtain⟨p,f,rfl,k,m⟩:=r.lst;exact#[p,f,rfl,.inl #[jY.of k,λl i=>q _ _ (jM i _) (zp (n l i) i m)]]
 ·cases e;obtain⟨v,rfl,r⟩:=Z_ h;have g:=r;obtain⟨p,f,rfl,k,m⟩:=r.tup;refine#[p,f,rfl,.inr #[k,q _ H (j4.refl H) ?_]];rcases g with g|⟨_,o,_,z,_⟩|⟨_,_,_,_,z,_⟩
  ·exact g
  ·cases o<;>cases z
  ·cases z
 ·exact Zn e
@[simp] noncomputable def VS:L D->Y D
 |[.int i,.int j]=>S (.int (if j > i then j else i))
 |_=>J
def lM:Fn K (λf H Q=>∃i j,f=[.int i,.int j]/\Q (.int (if j > i then j else i)) H) VS:=by
 intro O H m k n d Q h l e q;unfold VS at e;split at e
 ·obtain rfl:=Zj e;obtain⟨v,o,rfl,r,g⟩:=Mw h;exact#[_,_,by rw[r.int,g.int],q _ H (j4.refl H) rfl]
 ·exact Zn e
noncomputable def UW:L D->Y (L Bool)
 |[]=>S []
 |.bl b::r=>(UW r).bind λf=>S (b::f)
 |_::_=>J
@[simp] theorem nW:UW []=S []:=rfl
@[simp] theorem nX(b r):UW (.bl b::r)=(UW r).bind λf=>S (b::f):=rfl
theorem wr:∀{l g f},UW l=S g->j7 K H l f->f=g.map V.bl
 |[],g,f,e,h=>by cases e;exact h
 |.bl b::r,g,f,e,h=>by
  obtain⟨j,i,m⟩:=j1 e;obtain rfl:=Zj m;obtain⟨v,n,rfl,a,k⟩:=h;rw[a,wr i k];rfl
 |.non::_,_,_,e,_=>Zn e
 |.int _::_,_,_,e,_=>Zn e
 |.str _::_,_,_,e,_=>Zn e
 |.tup _::_,_,_,e,_=>Zn e
 |.lst _::_,_,_,e,_=>Zn e
 |.ins _ _ _::_,_,_,e,_=>Zn e
 |.obj _ _ _ _ _::_,_,_,e,_=>Zn e
 |.dk _ _::_,_,_,e,_=>Zn e
 |.scr _::_,_,_,e,_=>Zn e
@[simp] noncomputable def VT:L D->Y D
 |[.lst l]=>(UW l).bind λf=>S (.bl (f.all id))
 |_=>J
def lN:Fn K (λg H Q=>∃(p:Addr) (f:L _),g=[.ref p]/\jY K H p (f.map V.bl)/\Q (.bl (f.all id)) H) VT:=by
 intro O H o m n d Q h s e q;unfold VT at e;split at e
 ·obtain⟨f,k,l⟩:=j1 e;obtain rfl:=Zj l;obtain⟨v,rfl,r⟩:=Z_ h;obtain⟨p,g,rfl,i,j⟩:=r.lst;rw[wr k j]at i;exact#[p,f,rfl,jY.of i,q _ H (j4.refl H) rfl]
 ·exact Zn e
noncomputable def jR(C:Addr)(f:Str):D->Y D
 |.ins i h g=>if i=C then(h.zip g).lookup f else J
 |.obj i h g _ _=>if i=C then(h.zip g).lookup f else J
 |_=>J
theorem VU{f d}:∀{g:L Str}{i j},j7 K H i j->(g.zip i).lookup f=S d->∃v,(g.zip j).lookup f=S v/\jI K H d v
 |[],_,_,_,e=>Zn e
 |_::_,[],_,_,e=>Zn e
 |n::g,l::i,j,h,e=>by
  obtain⟨v,r,rfl,a,b⟩:=h;rw[List.zip_cons_cons,List.lookup_cons]at e⊢;cases k:f==n with
  |true=>rw[k]at e;obtain rfl:=Zj e;exact#[v,rfl,a]
  |false=>rw[k]at e;exact VU b e
set_option tactic.hygienic true in
theorem C9(h:PE X e (tR K de))(c:Cls K C)(n:yh K C f)(u:attributeBase e f X.env (eval e X.env)=eval e X.env:=by rfl)(A:X.K=K:=by rfl):PE X (.Attribute e f pos) (tE K (d1 (jR C f) de)):=jx (ay h u) λN H Q I=>by
 obtain⟨z,F,t,O,d,R,w,q⟩:=I;subst A;obtain⟨x,y,g⟩:=j1 w;refine#[z,F,t,O,x,R,y,λv p s r=>?_];unfold jR at g;split at g
 ·split at g
  ·rename_i j;subst j;obtain⟨a,i,M,rfl,l,P,o⟩:=r.ins;obtain⟨v,k,m⟩:=VU o g;exact#[a,_,i,_,v,rfl,l,c,n,k,q v p s m]
  ·exact Zn g
 ·split at g
  ·rename_i j;subst j;obtain⟨a,i,M,T,rfl,l,_,_,o,_⟩:=r.obj;obtain⟨v,k,m⟩:=VU o g;exact#[a,_,i,_,v,rfl,l,c,n,by rw[List.lookup_append,k];rfl,q v p s m]
  ·exact Zn g
 ·exact Zn g
end
noncomputable def RP(K:Fr)(b)(a:FA)(H)(O:L _)(d v):=jI K (j6 H O) d v\/RB K a.l b d v
noncomputable def tP(K:Fr)(f:DE):TE:=λg H Q=>∃c b e O d,Rel K c b e g H O/\f e=S d/\∀v a,j4 H a->RP K c b a O d v->Q v a
def RP.at{K e H b j O c d v}(r:RP K e j H O d v)(k:j4 e b)(i:j4 (j6 e j.l) (j6 b c))(m:j4 (j6 H O) (j6 b c)):RB K c b d v:=by
 rcases r with r|r|⟨l,o,f,g,h⟩|⟨l,n,o,f,g,h⟩
 ·exact .inl (r.same m)
 ·exact .inl (r.same i)
 ·exact .inr (.inl #[l,o,f,g,h.same (k l) i])
 ·exact .inr (.inr #[l,n,o,f,g,h.mono (λa _ u z=>k a u z) i])
noncomputable def WN(K:Fr)(b:It)(h)(j:FA)(H)(O:L _)(c:L D):=∀(i e g),j4 h e->j4 (j6 h j.l) (j6 e g)->j4 (j6 H O) (j6 e g)->(∀a∈g,e a≠J)->
 (∀d,c[i]?=S d->b.go i e/\∀x f,b.yld i e x f->j4 e f/\jI K (j6 f g) d x)/\(i=c.length->b.stop i e)
noncomputable abbrev DI:=jr->Y (L D)
noncomputable def vX(K:Fr)(g:DI):TI:=λh H R=>∃d e f O b,Rel K d e f h H O/\g f=S b/\∀a c,j4 H c->WN K a d e c O b->R a c
section
variable{X:Cx}{K:Fr}{e a b c d tg:Expr}{de da db dc dd:DE}{pos:Pos}
def Mx(h:PE X e (tE K de)):PE X e (tP K de):=jx h λl H Q x=>by obtain⟨g,i,f,O,d,R,k,q⟩:=x;exact#[g,i,f,O,d,R,k,λv j s r=>q v j s (.inl r)]
@[simp] noncomputable def dP(i:Nat)(f:jr):Y D:=match f[i]? with
 |S (.cl d)=>S d
 |S (.bo d)=>S d
 |_=>J
def lO(i)(h:PE X (.Name x pos) (yf i)):PE X (.Name x pos) (tP K (dP i)):=jx h λm H Q j=>by
 obtain⟨n,l,k,O,d,R,f,q⟩:=j;unfold dP at f;split at f
 ·cases f;obtain⟨v,g,r⟩:=R.cl i _ (by assumption);exact#[v,g,q v H (j4.refl H) (.inl r)]
 ·cases f;obtain⟨v,g,r⟩:=R.bo i _ (by assumption);exact#[v,g,q v H (j4.refl H) (.inr r)]
 ·exact Zn f
def Xb(h:PI X tg e k)(f:∀g H R,i g H R->k g H R):PI X tg e i:=λj s g H R I q=>h _ s g H R I (f g H R q)
noncomputable def My(K:Fr)(h:TE):TI:=λi H R=>h i H λx f=>∃a,x=.ref a/\(((∃g,jY K f a g)/\R (ar K a) f)\/((∃g,yg K f a g)/\R (EH K a) f))
def F8(t:PE X l w):PI X tg l (My X.K w):=by
 intro n s C H R I h;refine jv (t _ s C H _ I h) λv j u=>?_;obtain⟨x,m,f,y,z⟩:=u;obtain⟨a,e,q⟩:=z;subst e;subst y;rcases q with⟨⟨F,i⟩,q⟩|⟨⟨F,i⟩,q⟩
 ·obtain⟨k,r,p,A⟩:=f.list i;refine wpAny_pyIter_list p.isList ?_;refine#[_,_,_,_,m,rfl,f.kept λb o e=>wIa _ e,wc a _,#[_,wJa _ rfl,rfl,rfl],λb g=>?_,q];have e:b=j.heap.objs.size:=by simpa using g
  subst e;exact f.fpOk (wPa _) (f.hok.fresh (wPa _))
 ·obtain⟨k,r,p,A⟩:=f.tuple i;refine wpAny_pyIter_tuple (show j.heap.IsTuple a _ from p) ?_;refine#[_,_,_,_,m,rfl,f.kept λb o e=>wIa _ e,xI a _,#[_,wJa _ rfl,rfl,rfl],λb g=>?_,q];have e:b=j.heap.objs.size:=by simpa using g
  subst e;exact f.fpOk (wPa _) (f.hok.fresh (wPa _))
noncomputable def zS:D->Y (L D)
 |.lst l=>S l
 |.tup l=>S l
 |_=>J
@[simp] theorem L_(l):zS (.lst l)=S l:=rfl
@[simp] theorem m3(l):zS (.tup l)=S l:=rfl
@[simp] noncomputable def Ji(de:DE)(f):=(de f).bind zS
def Fa{n O d v l}(r:RP K m n H O d v)(e:zS d=S l)(P:j4 m H)(N:j4 (j6 m n.l) (j6 H O)):
  ∃a,v=.ref a/\(((∃f,jY K H a f)/\WN K (ar K a) m n H O l)\/((∃f,yg K H a f)/\WN K (EH K a) m n H O l)):=by
 unfold zS at e;split at e
 ·cases e;obtain⟨p,f,rfl,F,UQ⟩:=(r.at P N (j4.refl _)).lst;refine#[p,rfl,.inl #[#[f,jY.of F],λi Q W w s I _=>?_]];obtain⟨R,g,o,h,k⟩:=(r.at w s I).lst;cases o;refine#[λd M=>?_,λC=>#[g,jY.of h,by rw[k.len,C];exact wPa _]];obtain⟨x,j,u⟩:=k.get M;refine#[#[g,x,jY.of h,j],λT A y=>?_];obtain⟨t,y⟩:=y;have z:=y g (jY.of h);rw[j]at z;cases z;rw[t];exact#[j4.refl _,u]
 ·cases e;obtain⟨p,f,rfl,F,UQ⟩:=(r.at P N (j4.refl _)).tup;refine#[p,rfl,.inr #[#[f,F],λi Q W w s I _=>?_]];obtain⟨R,g,o,h,k⟩:=(r.at w s I).tup;cases o;refine#[λd M=>?_,λC=>#[g,h,by rw[k.len,C];exact wPa _]];obtain⟨x,j,u⟩:=k.get M;refine#[#[g,x,h,j],λT A y=>?_];obtain⟨t,y⟩:=y;have z:=y g h;rw[j]at z;cases z;rw[t];exact#[j4.refl _,u]
 ·exact Zn e
def Ca(h:PE X e (tP K de))(p:X.K=K:=by rfl):PI X tg e (vX K (Ji de)):=Xb (F8 h) λy H R x=>by
 obtain⟨u,n,m,O,g,k,w,q⟩:=x;subst p;obtain⟨d,t,o⟩:=j1 w;refine#[u,n,m,O,d,k,t,λv l s r=>?_];have j:=k.grow s;obtain⟨a,rfl,z⟩:=Fa r o j.keep j.in0;rcases z with⟨i,f⟩|⟨i,f⟩
 ·exact#[a,rfl,.inl #[i,q _ l s f]]
 ·exact#[a,rfl,.inr #[i,q _ l s f]]
noncomputable def Jv(lo n):=(List.range n).map λ(i:Nat)=>D.int (lo+i)
def Fb{l O lo n}:WN K (cy lo n) s l H O (Jv lo n):=λi t r _ _ _ _=>by
 refine#[λd f=>?_,λh=>?_]
 ·unfold Jv at f;rw[uAa]at f;cases q:(List.range n)[i]? with
  |none=>rw[q]at f;exact Zn f
  |some j=>
   rw[q]at f;obtain rfl:=Zj f;obtain⟨g,k⟩:=uSa q;rw[List.getElem_range]at k;subst k;rw[List.length_range]at g;refine#[g,λx m y=>?_];obtain⟨p,o⟩:=y;rw[p,o];exact#[j4.refl _,rfl]
 ·unfold Jv at h;rw[vYa,List.length_range]at h;show n<=i;omega
noncomputable def JI(j:Int):=Nat.blt j.natAbs 4611686018427387904
def YY(f:-4611686018427387904<j)(g:j<4611686018427387904):JI j=B:=by unfold JI;rw[Nat.blt_eq];omega
def Xc(h:JI j=B):-(2^62)<=j/\j<2^62:=by
 unfold JI at h;rw[Nat.blt_eq]at h;have e:(2)^62=4611686018427387904:=rfl;omega
@[simp] noncomputable def YZ(de:DE)(f):=(de f).bind λd=>match d with
 |.int j=>if JI j=B then S (Jv 0 j.toNat)else J
 |_=>J
set_option tactic.hygienic true in
theorem Fc(y:Gl X "range")(t:X.mg "range" = J)(h:PE X a (tR K da))(j:starEach [a] X.env=[(G,eval a X.env)]:=by rfl):PI X tg (.Call (.Name "range" p) [a] [] pos) (vX K (YZ da)):=Xb (au y t (Jx h Yc (by rw[j];rfl)) j) λz H R u=>by
 obtain⟨l,x,k,O,i,o,n,q⟩:=u;obtain⟨d,w,f⟩:=j1 n;refine#[l,x,k,O,d,o,w,λv m s r=>?_];split at f
 ·split at f
  ·obtain rfl:=Zj f;rename_i g;have g:=Xc g;exact#[_,by rw[r.int],g.1,g.2,q _ m s Fb]
  ·exact Zn f
 ·exact Zn f
noncomputable def lP(K:Fr)(h:TA):TI:=λl H R=>h l H λg f=>∃k j a b m i,g=[.ref a,.ref b]/\Us K k f a m/\Us K j f b i/\R (LW K k j a b) f
def dZ(W:Gl X "zip")(F:X.mg "zip" = J)(A:PA X [n,i] M)(hs:starEach [n,i] X.env=[(G,eval n X.env),(G,eval i X.env)]:=by rfl)(l:starEach [i] X.env=[(G,eval i X.env)]:=by rfl):
  PI X (.Tuple es x1 tp) (.Call (.Name "zip" p) [n,i] [] pos) (lP X.K M):=by
 intro x s C H R I h;refine Call_ (ub I W F boot_zip (PyProof.Rows.callWith_type1 (jv (A _ _ s C H _ I h) λus O Z=>?_) (by rw[hs,l]) (by rw[l];rfl)));obtain⟨vs,w,g,Q,UQ⟩:=Z;obtain⟨k,j,a,b,xs,ys,e,P,qb,q⟩:=UQ;subst e;cases Q with
 |cons r o=>
  cases o with
  |cons r' o=>
   cases o;subst r;subst r';obtain⟨ia,ra,v,_⟩:=g.seqK P;obtain⟨ib,rb,t,_⟩:=g.seqK qb;refine bG v t λh' u z b3 N T bk=>?_;refine wpAny_pyIter_zip u ?_;have f:∀m,JE X _ w (O.heap.objs.size+m):=λm=>g.fpOk (vKa _ _) (g.hok.fresh (vKa _ _));refine#[_,_,_,_,w,rfl,g.kept bk,bJ (zipApart_new v.lt t.lt),#[u,z,#[_,_,b3],N,T],λc y=>?_,q];simp only[List.mem_cons,List.not_mem_nil,or_false]at y;rcases y with rfl|rfl|rfl|rfl|rfl
   ·exact f 4
   ·exact f 2
   ·exact f 3
   ·exact f 0
   ·exact f 1
def kN{d v l}(r:RB K O H d v)(e:zS d=S l):∃k a f,v=.ref a/\Us K k H a f/\j7 K (j6 H O) l f/\(k=Sk.l↔∃m,d=D.lst m):=by
 unfold zS at e;split at e
 ·cases e;obtain⟨p,f,rfl,h,g⟩:=r.lst;exact#[.l,p,f,rfl,jY.of h,g,Iff.intro (λ_=>#[_,rfl]) (λ_=>rfl)]
 ·cases e;obtain⟨p,f,rfl,h,g⟩:=r.tup;exact#[.t,p,f,rfl,h,g,Iff.intro (λz=>nomatch z) (λz=>by simp_all)]
 ·exact Zn e
def Cb{d}(h:k=Sk.l↔∃m,d=D.lst m)(f:g=Sk.l↔∃m,d=D.lst m):k=g:=by
 cases k<;>cases g<;>first|rfl|(exact vDa (f.mpr (h.mp rfl)) (by simp))|(exact vDa (h.mpr (f.mp rfl)) (by simp))
@[simp] noncomputable def WO(da db:DE)(f):=(da f).bind λx=>(db f).bind λy=>(zS x).bind λl=>(zS y).bind λm=>S (List.zipWith (λp q=>D.tup [p,q]) l m)
noncomputable def Mz{p d g x y}(i:p∉O)(f:H p=J)(r:jI K (j6 H O) d x)(h:jI K _ g y):=zp i f (j7.cons r (j7.cons h j7.nil))
set_option tactic.hygienic true in
theorem lQ(hg:Gl X "zip")(hm:X.mg "zip" = J)(h:PE X a (tP K da))(h':PE X b (tP K db))(hs:starEach [a,b] X.env=[(G,eval a X.env),(G,eval b X.env)]:=by rfl)(s:starEach [b] X.env=[(G,eval b X.env)]:=by rfl)(hK:X.K=K:=by rfl):
  PI X (.Tuple es x1 tp) (.Call (.Name "zip" p) [a,b] [] pos) (vX K (WO da db)):=Xb (dZ hg hm (Jx h (Jx h' Yc (by rw[s];rfl)) (by lia)) hs s) λU H R xx=>by
 obtain⟨M,UQ,ρ,O,Z,Q,f,q⟩:=xx;subst hK;obtain⟨x,e1,f⟩:=j1 f;obtain⟨y,e2,f⟩:=j1 f;obtain⟨l,e3,f⟩:=j1 f;obtain⟨m,e4,f⟩:=j1 f;obtain rfl:=Zj f;refine#[M,UQ,ρ,O,x,Q,e1,λv H1 C r=>#[M,UQ,ρ,O,y,Q.grow C,e2,λv2 H2 I r2=>?_]];have R1:=Q.grow C;have R2:=R1.grow I;have r':RP X.K M UQ H2 O x v:=by
  rcases r with r|r
  ·exact .inl (r.same (jf I))
  ·exact .inr r
 obtain⟨k,p,xs,rfl,h1,h2,hk⟩:=kN (r'.at R2.keep R2.in0 (j4.refl _)) e3;obtain⟨j,p',ys,rfl,P,h2',hj⟩:=kN (r2.at R2.keep R2.in0 (j4.refl _)) e4;refine#[k,j,p,p',xs,ys,rfl,h1,P,q _ H2 (C.trans I) λi H' O' t0 t1 t2 ta=>?_];obtain⟨k2,q2,us,ea,A,g2,N⟩:=kN (r'.at t0 t1 t2) e3;cases ea;cases Cb hk N;obtain⟨j2,q3,ws,eb,n,o,T⟩:=kN (r2.at t0 t1 t2) e4;cases eb;cases Cb hj T;refine#[λd t=>?_,λhi=>#[us,ws,A,n,?_]]
 ·rw[List.getElem?_zipWith]at t;split at t
  ·obtain rfl:=Zj t;rename_i dp dq hp hq;obtain⟨u,hu,ru⟩:=g2.get hp;obtain⟨w,hw,F⟩:=o.get hq;refine#[#[us,ws,u,w,A,n,hu,hw],λx' H'' W=>?_];obtain⟨pp,g,rfl,W⟩:=W;rw[W _ _ _ _ A n hu hw];exact#[jM g _,Mz (λz=>ta pp z g) g ru F]
  ·exact Zn t
 ·rw[List.length_zipWith]at hi;rw[g2.len,o.len];omega
noncomputable abbrev DG:=D->jr->Y jr
noncomputable abbrev Cd:=L D->jr->Y jr
noncomputable def tG(K:Fr)(k:Nat)(g:DG):TG:=λv l H Q=>∃j i m O d h,Rel K j i m l H O/\jI K (j6 H O) d v/\g d m=S h/\∀f,Rel K j i h f H O->f.drop k=l.drop k->Q f H
noncomputable def aP(K:Fr)(k:Nat)(g:Cd):Qy:=λo j H Q=>∃m n l O i h,Rel K m n l j H O/\j7 K (j6 H O) i o/\g i l=S h/\∀f,Rel K m n h f H O->f.drop k=j.drop k->Q f H
def Ce(h:PG X tg t)(f:∀v g H Q,j v g H Q->t v g H Q):PG X tg j:=λi s g H v u Q I r q=>h _ s g H v u Q I r (f v g H Q q)
def aQ(h:UK X k t)(f:∀v g H Q,j v g H Q->t v g H Q):UK X k j:=λi s g H v u Q I r q=>h _ s g H v u Q I r (f v g H Q q)
@[simp] noncomputable def gN(i:Nat)(d:D)(f:jr):Y jr:=S (f.set i (.cl d))
def Fd(h:PG X (.Name x pos) (yJ i))(j:i<k:=by decide):PG X (.Name x pos) (tG K k (gN i)):=Ce h λv o H Q g=>by
 obtain⟨m,n,l,O,d,f,R,r,e,q⟩:=g;obtain rfl:=Zj e;exact q _ (R.set r i) (List.drop_set_of_lt j)
@[simp] noncomputable def gZ(ds:L D)(f:jr):=match ds with
 |[]=>S f
 |_=>J
@[simp] noncomputable def gC(g:DG)(h:Cd)(ds:L D)(i:jr):=match ds with
 |d::r=>(g d i).bind λf=>h r f
 |[]=>J
def lR:UK X [] (aP K k gZ):=aQ dl λv l H Q g=>by
 obtain⟨i,j,h,O,d,f,R,r,e,q⟩:=g;unfold gZ at e;split at e
 ·obtain rfl:=Zj e;exact#[r,q _ R rfl]
 ·exact Zn e
def Fe(A:PG X e (tG K k g))(F:UK X h (aP K k l))(m:(assignEach (e::h) X.env).map (·.2)=assign e X.env::(assignEach h X.env).map (·.2):=by rfl):UK X (e::h) (aP K k (gC g l)):=aQ (bg A F m) λv N H Q x=>by
 obtain⟨i,j,M,O,P,n,R,r,f,q⟩:=x;unfold gC at f;split at f
 ·obtain⟨p,s,I⟩:=j1 f;obtain⟨t,C,rfl,a,b⟩:=r;exact#[t,C,rfl,i,j,M,O,_,_,R,a,s,λy z o=>#[i,j,_,O,_,_,z,b,I,λw R2 u=>q _ R2 (u.trans o)]]
 ·exact Zn f
@[simp] noncomputable def gT(n)(f:Cd)(d:D)(g:jr):=match d with
 |.tup l=>if l.length=n then f l g else J
 |_=>J
def lS(n)(s:X.calm=B)(h:UK X g (aP K l A))(x:(assignEach g X.env).length=n:=by rfl)(i:(assignEach g X.env).findIdx? (·.1)=J:=by rfl)(u:X.K=K:=by rfl):PG X (.Tuple g k pos) (tG K l (gT n A)):=Ce (EB s h x i) λv C H Q o=>by
 obtain⟨w,p,z,O,d,y,R,r,f,q⟩:=o;subst u;unfold gT at f;split at f
 ·split at f
  ·obtain⟨a,t,rfl,m,j⟩:=RB.tup (.inl r);exact#[a,t,rfl,m,by rw[j.len];assumption,w,p,z,O,_,_,R,j,f,q]
  ·exact Zn f
 ·exact Zn f
@[simp] noncomputable def jN(_:jr):=S B
def Ff:ZX X [] (tT K jN):=λf s g H Q I h=>by
 obtain⟨l,k,j,O,b,R,i,q⟩:=h;obtain rfl:=Zj i;exact dQ _ s g H Q I (q H (j4.refl H))
noncomputable def MA(h:PT X c (tT K f)):=dR h
@[simp] noncomputable def uP(k:Nat)(f:L Nat)(g:jr):jr:=List.replicate k .un++f.map λj=>(g[j]?).getD .un
noncomputable def JA(g:DG)(dc:DT)(de:DE):L D->jr->Y (L D)
 |[],_=>S []
 |d::i,h=>(g d h).bind λf=>(dc f).bind λk=>if k=B then(de f).bind λy=>(JA g dc de i h).bind λj=>S (y::j)else JA g dc de i h
@[simp] noncomputable def yc(k:Nat)(h:L Nat)(j:DI)(g:DG)(dc:DT)(de:DE)(i:jr):Y OD:=(j i).bind λf=>(JA g dc de f (uP k h i)).bind λl=>if f.length<=sizeLine then S (.lst l)else J
def bQ(n g)(R:Rel K H0 O0 P Z H O)(T:(g.map (·.2)).Nodup):Rel K H0 O0 (uP n.length (g.map (·.2)) P) (uh n g Z) H O:=by
 have h:∀(i s),s≠.un->(uP n.length (g.map (·.2)) P)[i]?=S s->∃m x j,i=n.length+m/\g[m]?=S (x,j)/\P[j]?=S s/\(uh n _ Z)[i]?=S ((Z[j]?).join):=λi s hs e=>by
  unfold uP at e;by_cases hi:i<n.length
  ·rw[uRa (by simp_all),List.getElem?_replicate,if_pos hi]at e;obtain rfl:=Zj e;exact vDa rfl hs
  ·rw[List.getElem?_append_right (by simp_all),List.length_replicate,List.map_map,uAa]at e;cases q:g[i-n.length]? with
   |none=>rw[q]at e;exact Zn e
   |some p=>
    rw[q]at e;obtain⟨x,j⟩:=p;have e:(P[j]?).getD _=s:=vFa e;refine#[_,x,j,by omega,q,?_,?_]
    ·cases z:P[j]? with
     |none=>rw[z]at e;exact vDa e.symm hs
     |some s'=>rw[z]at e;rw[<-e];rfl
    ·rw[List.getElem?_append_right (by grind),vYa,uAa,q];rfl
 have jn:∀{o}{v:V},o.join=S v->o=S (S v):=λ{o v} z=>by
  cases o with
  |none=>exact Zn z
  |some w=>cases w with
   |none=>exact Zn z
   |some u=>obtain rfl:=Zj z;rfl
 have mj:∀{m F j:Nat}{x Q},g[m]?=S (x,j)->g[F]?=S (Q,j)->m=F:=λ{m F j x Q} I N=>by
  have r:(g.map (·.2))[m]?=S j:=by rw[uAa,I];rfl
  have A:(g.map (·.2))[F]?=S j:=by rw[uAa,N];rfl
  have l1:=(uSa r).1;exact(List.getElem?_inj l1 T).mp (r.trans A.symm)
 refine#[?_,R.sub,R.fr,R.al0,R.al,R.keep,?_,?_,?_,?_,?_]
 ·simp
 ·intro i d e;obtain⟨m,x,j,_,_,t,C⟩:=h i _ (by lia) e;obtain⟨v,r,A⟩:=R.cl j d t;exact#[v,by rw[C,r];rfl,A]
 ·intro i d e;obtain⟨m,x,j,_,_,t,C⟩:=h i _ (by simp) e;obtain⟨v,r,A⟩:=R.bo j d t;exact#[v,by rw[C,r];rfl,A]
 ·intro i q o e;obtain⟨m,x,j,_,_,t,C⟩:=h i _ (by lia) e;obtain⟨l,z,r,A⟩:=R.ow j q o t;exact#[l,z,by rw[C,r];rfl,A]
 ·intro i i' q q' ds es l e e' f f';obtain⟨m,x,j,rfl,I,t,C⟩:=h i _ (by simp) e;obtain⟨F,Q,M,rfl,N,e2',W⟩:=h i' _ (by lia) e';rw[C]at f;rw[W]at f';have ej:=R.dist j M q q' ds es l t e2' (jn (vFa f)) (jn (vFa f'));subst ej;rw[mj I N]
 ·intro i qb hb e;obtain⟨m,x,j,rfl,I,t,C⟩:=h i _ (by simp) e;obtain⟨l,ps,r,hp,A,nd,f,u⟩:=R.lo j qb hb t;refine#[l,ps,by rw[C,r];rfl,hp,A,nd,λa UQ=>#[(f a UQ).1,(f a UQ).2.1,λ⟨k,q,o,y,z⟩=>(f a UQ).2.2 ?_],λk qb' ms y=>?_]
  ·obtain⟨_,_,M,_,_,y2,y3⟩:=h k _ (by simp) y;rw[y3]at z;exact#[M,q,o,y2,jn (vFa z)]
  ·obtain⟨F,Q,M,rfl,N,y2,_⟩:=h k _ (by simp) y;have:=u M _ ms y2;subst this;rw[mj I N]
end
section
variable{X:Cx}{K:Fr}{e a b c d tg:Expr}{de da db dc dd:DE}{pos:Pos}
set_option tactic.hygienic true
theorem kO{j di g dc de}(Z:(j.map (·.2)).Nodup):∀UQ H Q,tF K (yc p.length (j.map (·.2)) di g dc de) UQ H Q->cP p j (vX K di) (tG K p.length g) (tT K dc) (tE K de) UQ H Q:=λUQ H Q xx=>by
 obtain⟨F,I,P,O,o,R,s,q⟩:=xx;obtain⟨h,e1,s⟩:=j1 s;obtain⟨ys,e2,s⟩:=j1 s;split at s
 ·rename_i hz;obtain rfl:=Zj s;refine#[F,I,P,O,_,R,e1,λf H1 s1 hJ=>?_];have R1:=R.grow s1;have Rc:=bQ p _ R1 Z;refine#[λi m vs M=>∃l n,JA g dc de (h.drop i) (uP _ (j.map _) P)=S n/\l++n=ys/\j4 H1 M/\j7 K (j6 M O) l vs/\m=h.length-i/\i<=h.length/\l.length<=i,#[_,[],ys,by simpa using e2,rfl,j4.refl _,j7.nil,rfl,Nat.zero_le _,wPa _],?_];rintro i m vs M ⟨l,n,d1,d2,t,w,rfl,hi,hy⟩;have R2:=R1.grow t;obtain⟨T,r⟩:=hJ i M O R2.keep R2.in0 (jf t) R2.al;by_cases C:i<h.length
  ·right;have hx:h[i]?=S h[i]:=by simp
   have hd:=(List.getElem_cons_drop C).symm;rw[hd]at d1;obtain⟨g1,g2⟩:=T _ hx;refine#[g1,by rw[w.len];lia,λz N=>∃l n,JA g dc de (h.drop (i+1)) (uP p.length (j.map (·.2)) P)=S n/\l++n=ys/\j4 H1 N/\j7 K (j6 N O) l z/\l.length<=i+1,?_,λx H'' y=>?_]
   ·rintro z N ⟨z1,z2,a1,a2,a3,a4,a5⟩;exact#[_,by lia,z1,z2,a1,a2,a3,a4,rfl,C,a5]
   ·obtain⟨u,rx⟩:=g2 x _ y;obtain⟨ρ1,f1,f2⟩:=j1 d1;obtain⟨k,f3,f4⟩:=j1 f2;refine#[F,I,_,O,_,_,Rc.grow (t.trans u),rx,f1,λU2 R3 kd=>#[kd,F,I,_,O,k,R3,f3,λH3 A=>?_]];cases k with
    |true=>
     obtain⟨y1,f5,f6⟩:=j1 f4;obtain⟨yr,f7,f8⟩:=j1 f6;obtain rfl:=Zj f8;refine Zb #[F,I,_,O,y1,R3.grow A,f5,λv N s4 rv=>?_];exact#[_,yr,f7,by simp_all,t.trans (u.trans (A.trans s4)),(w.same (jf (u.trans (A.trans s4)))).snoc rv,by simp;exact hy]
    |false=>
     exact Za #[_,_,f4,d2,t.trans (u.trans A),w.same (jf (u.trans A)),by lia]
  ·left;have ei:i=h.length:=by lia
   refine#[r ei,by rw[w.len];lia,λDd W=>?_];have e0:h.drop i=[]:=List.drop_of_length_le (by lia);rw[e0]at d1;have e3:n=[]:=by
    exact(vFa d1).symm
   rw[e3,uFa]at d2;subst d2;exact q Dd _ ((s1.trans t).trans (jM W _)) ((s1.trans t).none W) (Y0 W w)
 ·exact Zn s
def Fg{m h t g}{dc:DT}{de}(k i)(f:CScope X h)(p:Caps X h i)(v:X.calm=B)(u:PI X tg l (vX K t))
  (w:∀o n j,PG (X.comp (cN k i) h o n j) tg (tG K k.length g)) (z:∀o n j,ZX (X.comp (cN k i) h o n j) m (tT K dc)) (y:∀o n j,PE (X.comp (cN k i) h o n j) s (tE K de))
  (r:(i.map (·.2)).Nodup:=by decide) (A:∀x,foldedSetIterable l X.env x=pure x:=by intro _;rfl):PE X (.ListComp s [#[tg,l,m,0]] h pos) (tF K (yc k.length (i.map (·.2)) t g dc de)):=jx (IW _ _ f p v u w z y A) (kO r)
noncomputable def vY(K:Fr)(h:L Bool)(F:L D->Y D):Sp:=λi H Q _=>∃O g d,(∀a∈O,H a≠J)/\yb K O H h g i/\F g=S d/\∀v f,j4 H f->jI K (j6 f O) d v->Q v f
noncomputable def QG(K:Fr)(h:L Bool)(F:L D->Y OD):Sp:=λi H Q _=>∃O g o,(∀a∈O,H a≠J)/\yb K O H h g i/\F g=S o/\∀l f,j4 H f->H l=J->yt K f (j6 f (l::O)) l o->Q (.ref l) f
variable{k:Nat}{x m:Str}{ps:L Str}{p apos:Pos}{es:L Expr}{l:DA}{ks:L Bool}
def Fh(f:FnI X.prog X.w X.K X.mg X.base k x ps (vY K ks F))(n:Room k X.A)(t:PA X (e::es) (yw K l))(P:l.map (·.1)=ks:=by rfl)(T:Gl X x:=by rfl)(h:(x==("__debug__"))=G:=by decide)
  (N:starEach (e::es) X.env=(G,eval e X.env)::starEach es X.env:=by rfl) (g:(backTo pos (starEach es X.env)).any (·.1)=G:=by rfl):PE X (.Call (.Name x p) (e::es) [] pos) (tE K (j8 F l)):=jx (cU f n t T h N g) λW H Q C=>by
 obtain⟨I,M,z,O,d,R,y,q⟩:=C;subst P;obtain⟨j,A,o⟩:=j1 y;refine#[I,M,z,O,j,R,A,λZ UQ i u=>?_]
 (try dsimp only)
 rw[uFa];exact#[O,j,d,(R.grow i).al,u,o,λv w s r=>q v w (i.trans s) r]
def Fi(f:FnI X.prog X.w X.K X.mg X.base k x ps (QG K ks F))(n:Room k X.A)(t:PA X (e::es) (yw K l))(y:l.map (·.1)=ks:=by rfl)(T:Gl X x:=by rfl)(h:(x==("__debug__"))=G:=by decide)
  (M:starEach (e::es) X.env=(G,eval e X.env)::starEach es X.env:=by rfl) (i:(backTo pos (starEach es X.env)).any (·.1)=G:=by rfl):PE X (.Call (.Name x p) (e::es) [] pos) (tF K (jS F l)):=jx (cU f n t T h M i) λW H Q P=>by
 obtain⟨C,I,z,O,d,R,w,q⟩:=P;subst y;obtain⟨j,A,o⟩:=j1 w;refine#[C,I,z,O,j,R,A,λZ UQ g N=>?_]
 (try dsimp only)
 rw[uFa];exact#[O,j,d,(R.grow g).al,N,o,λl v s u r=>q l v (g.trans s) (g.none u) r]
noncomputable def VC(C:Addr)(m:Str)(F:L D->Y D):D->Y D:=λd=>match d with
 |.ins g f i=>if g=C/\m∉f then F [d]else J
 |.obj g f i h es=>if g=C/\m∉f++h then F [d]else J
 |_=>J
noncomputable def Yd(C:Addr)(m:Str)(F:L D->Y OD):D->Y OD:=λd=>match d with
 |.ins g f h=>if g=C/\m∉f then F [d]else J
 |_=>J
theorem zq:∀{f:L _}{g:L i},m∉f->(f.zip g).lookup m=J
 |[],_,_=>rfl
 |_::_,[],_=>rfl
 |n::f,x::g,h=>by
  rw[List.zip_cons_cons,List.lookup_cons];have e:(m==n)=G:=by simp_all
  rw[e];exact zq λz=>h (wMa _ z)
theorem d_(he:PE X a (tR K da))(c:Cls K C)(M:MtI X.prog X.w X.K X.mg X.base k C m ps (vY K [G] F))(T:Room k X.A)
  (ht:eval (.Call (.Attribute a m apos) [] [] pos) X.env=(do
   let z<-eval a X.env
   standAt apos.atName
   let(f,h)<-holding [z] (getMethod z m pl)
   callWith pos f h (backTo pos (starEach [] X.env)) (backToKw pos (keywordEach [] X.env))):=by rfl) (A:X.K=K:=by rfl):
  PE X (.Call (.Attribute a m apos) [] [] pos) (tE K (d1 (VC C m F) da)):=by
 subst A;refine jx (aN he c M T ht) λU H Q W=>?_;obtain⟨Z,O0,P,O,d,R,N,q⟩:=W;obtain⟨x,I,g⟩:=j1 N;refine#[Z,O0,P,O,x,R,I,λv H1 j r=>?_];unfold VC at g;split at g
 ·split at g
  ·rename_i t;obtain⟨rfl,i⟩:=t;have n:=r;obtain⟨u,w,UQ,rfl,y,hn,h2⟩:=r.ins;exact#[u,w,_,rfl,y,zq i,O,[_],d,(R.grow j).al,#[n,trivial],g,λv o s r=>q v o (j.trans s) r]
  ·exact Zn g
 ·split at g
  ·rename_i t;obtain⟨rfl,i⟩:=t;have n:=r;obtain⟨u,w,UQ,ys,rfl,y,_⟩:=r.obj;rw[List.mem_append,not_or]at i;exact#[u,w,_,rfl,y,by rw[List.lookup_append,zq i.1,zq i.2];rfl,O,[_],d,(R.grow j).al,#[n,trivial],g,λv o s r=>q v o (j.trans s) r]
  ·exact Zn g
 ·exact Zn g
@[simp] noncomputable def Gw(f:D->Y OD)(da:DE)(g):=(da g).bind f
set_option tactic.hygienic false
set_option tactic.hygienic true in
theorem D0(he:PE X a (tR K da))(c:Cls K C)(M:MtI X.prog X.w X.K X.mg X.base k C m ps (QG K [G] F))(t:Room k X.A)
  (Z:eval (.Call (.Attribute a m apos) [] [] pos) X.env=(do
   let n<-eval a X.env
   standAt apos.atName
   let(f,g)<-holding [n] (getMethod n m pl)
   callWith pos f g (backTo pos (starEach [] X.env)) (backToKw pos (keywordEach [] X.env))):=by rfl) (w:X.K=K:=by rfl):
  PE X (.Call (.Attribute a m apos) [] [] pos) (tF K (Gw (Yd C m F) da)):=by
 subst w;refine jx (aN he c M t Z) λU H Q xx=>?_;obtain⟨z,O0,o,O,d,R,I,q⟩:=xx;obtain⟨x,u,h⟩:=j1 I;refine#[z,O0,o,O,x,R,u,λv H1 i r=>?_];unfold Yd at h;split at h
 ·split at h
  ·rename_i y;obtain⟨rfl,T⟩:=y;have P:=r;obtain⟨N,W,xs,rfl,UQ,j,h2⟩:=r.ins;exact#[N,W,_,rfl,UQ,zq T,O,[_],d,(R.grow i).al,#[P,trivial],h,λl A s j r=>q l A (i.trans s) (i.none j) r]
  ·exact Zn h
 ·exact Zn h
noncomputable def Cf(K:Fr)(C:Addr)(ks:L Bool)(F:Addr->L D->Y OD):Sp:=λj H Q _=>∃O h p i f o,j=.ref p::f/\(∀a∈O,H a≠J)/\H p=S (.ins C i [])/\p∉O/\yb K O (j6 H [p]) ks h f/\F p h=S o/\∀g,j4 (j6 H [p]) g->yt K g (j6 g (p::O)) p o->Q .non g
@[simp] noncomputable def Xd(F:L D->Y OD)(l f):=(Ys l f).bind F
def Fj(M:MkI X.prog X.w X.K X.mg X.base k C x ps (Cf K C ks F))(hF:∀p f o,F1 f=S o->F p f=S o)(Z:Room (k+1) X.A)(N:PA X (e::es) (yw K l))(P:l.map (·.1)=ks:=by rfl)(hg:Gl X x:=by rfl)(i:(x==("__debug__"))=G:=by decide)
  (he:starEach (e::es) X.env=(G,eval e X.env)::starEach es X.env:=by rfl) (j:(backTo pos (starEach es X.env)).any (·.1)=G:=by rfl):PE X (.Call (.Name x p) (e::es) [] pos) (tF K (Xd F1 l)):=jx (IX M Z N hg i he j) λU H Q xx=>by
 obtain⟨H0,O0,ρ,O,o,R,UQ,q⟩:=xx;subst P;obtain⟨f,W,e2⟩:=j1 UQ;refine#[H0,O0,ρ,O,f,R,W,λvs A n r1=>λy g h r hne=>?_]
 (try dsimp only)
 rw[uFa];have v:=R.grow n;have t:j4 A (j6 (upd (upd A g (.own y)) y (.ins C g [])) [y]):=λc u z=>by
  rw[jA (by intro w;simp at w;exact jy z h w),ja (jy z h),ja (jy z r)];exact z
 refine#[O,f,y,g,vs,o,rfl,λc hc z=>?_,jj,v.new h,r1.same t,hF y f o e2,λT s I=>#[rfl,q y T (n.trans (t.trans s)) (n.none h) I]];refine v.al c hc ?_;by_cases h1:c=y
 ·lia
 ·rw[ja h1]at z;by_cases h2:c=g
  ·lia
  ·rw[ja h2]at z;exact z
noncomputable abbrev Xp:=Str×L (Str×V)
set_option genInjectivity true in
inductive Rs where
 |nx (ρ:jr)|rt (d:D)|rf (o:OD)|bk (ρ:jr)|ct (ρ:jr)|xc (p:Xp) (ρ:jr)|rh (d:D) (ρ:jr)
noncomputable abbrev DS:=jr->Y Rs
noncomputable def Fin(K:Fr)(r:Xp->Hp->Prop)(j:Hp)(n:FA)(H:Hp)(O:L Addr)(E:Ends):Rs->Prop
 |.nx i=>∀g f h,Rel K j n i g f h->j4 (j6 H O) (j6 f h)->E.nx g f
 |.bk i=>∀g f h,Rel K j n i g f h->j4 (j6 H O) (j6 f h)->E.bk g f
 |.ct i=>∀g f h,Rel K j n i g f h->j4 (j6 H O) (j6 f h)->E.ct g f
 |.rt d=>∀v f,j4 j f->jI K (j6 f n.l) d v->E.rt v f
 |.rf o=>∀l f,j4 j f->j l=J->yt K f (j6 f (l::n.l)) l o->E.rt (.ref l) f
 |.xc p i=>∀g f h,Rel K j n i g f h->r p f
 |.rh d i=>∀v g f h,Rel K j n i g f h->jI K (j6 f h) d v->E.rt v f
def Fin.mono{n H v u O w E r}(s:j4 (j6 H O) (j6 v w))(h:Fin K y n u H O E r):Fin K y n u v w E r:=by
 cases r with
 |nx j=>exact λi f g R t=>h _ f g R (s.trans t)
 |bk j=>exact λi f g R t=>h _ f g R (s.trans t)
 |ct j=>exact λi f g R t=>h _ f g R (s.trans t)
 |rt d=>exact h
 |rf o=>exact h
 |xc p j=>exact h
 |rh d j=>exact h
noncomputable def tS(K:Fr)(n:Xp->Hp->Prop)(i:DS):TS:=λE j H=>∃f g h O r,Rel K f g h j H O/\i h=S r/\Fin K n f g H O E r
variable{st:Stmt}{rest:L Stmt}{s1 s2:DS}
def J0(h:PS X st t)(f:∀D g H,j D g H->t D g H):PS X st j:=λi s g H D I q=>h _ s g H D I (f D g H q)
def vZ(h:Jb X rest t)(f:∀D g H,j D g H->t D g H):Jb X rest j:=λi s g H D I q=>h _ s g H D I (f D g H q)
@[simp] noncomputable def ji(f:jr):Y Rs:=S (.nx f)
def Fk:Jb X [] (tS K s ji):=vZ Qx λD g H i=>by
 obtain⟨n,j,o,O,r,R,h,f⟩:=i;obtain rfl:=Zj h;exact f g H O R (j4.refl _)
noncomputable def UX(s:DS):Rs->Y Rs
 |.nx f=>s f
 |r=>S r
@[simp] theorem nY(s f):UX s (.nx f)=s f:=rfl
@[simp] theorem nZ(s f):UX s (.bk f)=S (.bk f):=rfl
@[simp] theorem n_(s f):UX s (.ct f)=S (.ct f):=rfl
@[simp] theorem N0(s d):UX s (.rt d)=S (.rt d):=rfl
@[simp] theorem N1(s o):UX s (.rf o)=S (.rf o):=rfl
@[simp] theorem N2(s p a):UX s (.xc p a)=S (.xc p a):=rfl
@[simp] theorem N3(s d a):UX s (.rh d a)=S (.rh d a):=rfl
@[simp] noncomputable def j0(s1 s2:DS)(g):=(s1 g).bind (UX s2)
def D2(I:PS X st (tS K u s1))(F:Jb X rest (tS K u s2)):Jb X (st::rest) (tS K u (j0 s1 s2)):=vZ (vR I F) λD M H y=>by
 obtain⟨n,s,i,O,r,R,A,f⟩:=y;obtain⟨j,z,g⟩:=j1 A;refine#[n,s,i,O,j,R,z,?_];cases j with
 |nx h=>exact λw N v C t=>#[n,s,_,v,r,C,g,f.mono t]
 |bk h=>obtain rfl:=Zj g;exact f
 |ct h=>obtain rfl:=Zj g;exact f
 |rt d=>obtain rfl:=Zj g;exact f
 |rf o=>obtain rfl:=Zj g;exact f
 |xc p i=>obtain rfl:=Zj g;exact f
 |rh d i=>obtain rfl:=Zj g;exact f
noncomputable def Fm(f:PS X st (tS K g s1)):=uc f
@[simp] noncomputable def Ja(_:jr):Y Rs:=J
def bR:Jb X rest (tS K i Ja):=vZ ao λD j H x=>by obtain⟨n,h,o,O,r,R,g,f⟩:=x;exact Zn g
@[simp] noncomputable def ZQ(i:Nat)(s:DS)(f:jr):Y Rs:=match f[i]? with
 |S (.ow _ o)=>s (f.set i (.cl o.toD))
 |S (.cl _)=>s f
 |_=>J
def bS(i)(h:Jb X rest (tS K s s1)):Jb X rest (tS K s (ZQ i s1)):=vZ h λD y H t=>by
 obtain⟨n,j,w,O,r,R,g,f⟩:=t;unfold ZQ at g;split at g
 ·obtain⟨o,v,u⟩:=R.share (by assumption);exact#[n,j,_,o,r,v,g,f.mono u]
 ·exact#[n,j,w,O,r,R,g,f]
 ·exact Zn g
@[simp] noncomputable def jc(g:DT)(s1 s2:DS)(f):=(g f).bind λk=>if k=B then s1 f else s2 f
def MB(y:PT X c (tT K t))(z:Jb X o (tS K n s1))(A:Jb X v (tS K n s2)):PS X (.If c o v pos) (tS K n (jc t s1 s2)):=J0 (cx y z A) λD I H u=>by
 obtain⟨i,h,g,O,r,R,C,f⟩:=u;obtain⟨k,w,j⟩:=j1 C;refine#[i,h,g,O,k,R,w,λF s=>?_];cases k with
 |true=>exact Zb #[i,h,g,O,r,R.grow s,j,f.mono (jf s)]
 |false=>exact Za #[i,h,g,O,r,R.grow s,j,f.mono (jf s)]
@[simp] noncomputable def jg(i:Nat)(de:DE)(f:jr):Y Rs:=(de f).bind λd=>S (.nx (f.set i (.cl d)))
def Fo:∀D g H,tS K z (jg i de) D g H->yz (tE K de) (yJ i) D g H:=λD g H o=>by
 obtain⟨w,t,h,O,r,R,y,f⟩:=o;obtain⟨d,j,n⟩:=j1 y;obtain rfl:=Zj n;exact#[w,t,h,O,d,R,j,λv u s q=>f _ u O ((R.grow s).set q i) (jf s)]
def Xe(h:PS X st (yz (tE K de) (yJ i))):PS X st (tS K f (jg i de)):=J0 h Fo
@[simp] noncomputable def zH(i:Nat)(g:DO)(f:jr):Y Rs:=(g f).bind λo=>S (.nx (f.set i (.ow J o)))
def Fp:∀D g H,tS K A (zH i y) D g H->yz (tF K y) (yJ i) D g H:=λD g H t=>by
 obtain⟨o,u,j,O,r,R,z,f⟩:=t;obtain⟨d,n,v⟩:=j1 z;obtain rfl:=Zj v;exact#[o,u,j,O,d,R,n,λl w s h q=>f _ w _ (R.own s h q i) (Yz s h)]
def Xf(h:PS X st (yz (tF K f) (yJ i))):PS X st (tS K g (zH i f)):=J0 h Fp
def GL(h:PS X st (yz n g))(f:∀i H Q,j i H Q->n i H Q):PS X st (yz j g):=J0 h λD i H q=>f i H _ q
def bT:∀f H Q,tE K (dL y) f H Q->tF K y f H Q:=λf H Q o=>by
 obtain⟨i,t,g,O,d,R,A,q⟩:=o;obtain⟨w,j,v⟩:=j1 A;obtain rfl:=Zj v;exact#[i,t,g,O,w,R,j,λl C s n r=>q _ _ s ((r.same (λ_ z=>z) (JF λa h=>wMa _ h)).rep λu z=>by rw[jA (R.new n)];exact z)]
@[simp] noncomputable def yB(de:DE)(g:DG)(h:jr):Y Rs:=(de h).bind λd=>(g d h).bind λf=>S (.nx f)
def lT(h:PS X st (yz (tE K de) (tG K F g))):PS X st (tS K M (yB de g)):=J0 h λD I H t=>by
 obtain⟨j,n,o,O,r,R,i,f⟩:=t;obtain⟨d,z,i⟩:=j1 i;obtain⟨u,w,i⟩:=j1 i;obtain rfl:=Zj i;exact#[j,n,o,O,d,R,z,λv A s q=>#[j,n,o,O,d,_,R.grow s,q,w,λy C _=>f _ A O C (jf s)]]
@[simp] noncomputable def Xg(i:Nat)(h:Int->Int->Int)(de:DE)(f:jr):Y Rs:=(dC i f).bind λx=>(de f).bind λy=>match x,y with
 |.int p,.int q=>S (.nx (f.set i (.cl (.int (h p q)))))
 |_,_=>J
def Cg(h:PS X st (EC i (tR K de) (ED g))):PS X st (tS K I (Xg i g de)):=J0 h λD M H w=>by
 obtain⟨F,z,o,O,r,R,j,f⟩:=w;obtain⟨x,n,j⟩:=j1 j;obtain⟨y,t,j⟩:=j1 j;split at j
 ·obtain rfl:=Zj j;unfold dC at n;split at n
  ·obtain rfl:=Zj n;obtain⟨v,u,C⟩:=R.cl i _ (by assumption);subst C;exact#[_,u,F,z,o,O,_,R,t,λv A s q=>#[_,_,rfl,q.int,f _ A O ((R.grow s).set (by exact rfl) i) (jf s)]]
  ·exact Zn n
 ·exact Zn j
@[simp] noncomputable def W7(de:DE)(f:jr):Y Rs:=(de f).bind λ_=>S (.nx f)
def aR(h:PS X st (gX (tR K de))):PS X st (tS K z (W7 de)):=J0 h λD y H o=>by
 obtain⟨i,t,g,O,r,R,u,f⟩:=o;obtain⟨d,j,n⟩:=j1 u;obtain rfl:=Zj n;exact#[i,t,g,O,d,R,j,λv w s q=>f _ w O (R.grow s) (jf s)]
@[simp] noncomputable def ZG(i:Nat)(de:DE)(f:jr):Y Rs:=match f[i]? with
 |S (.ow q (.lst g))=>(de f).bind λd=>if g.length<sizeLine then S (.nx (f.set i (.ow q (.lst (g++[d])))))else J
 |_=>J
set_option tactic.hygienic true in
theorem bU(h:PS X st (gX (cL K "list" G8 (yf i) (ZD (tE K de) UN)))):PS X st (tS K W (ZG i de)):=J0 h λD U H N=>by
 obtain⟨F,Q,y,O,r,R,g,f⟩:=N;unfold ZG at g;split at g
 ·rename_i q Z o;obtain⟨d,P,j⟩:=j1 g;split at j
  ·rename_i I;obtain rfl:=Zj j;obtain⟨l,A,w,⟨T,t,u⟩,lo,z⟩:=R.ow i _ _ o;refine#[_,w,.inl #[rfl,_,jY.of t],F,Q,y,O,d,R,P,λv UQ s C=>?_];have M:=R.grow s;have n:=u.same (jf s);refine#[l,T,v,rfl,rfl,s _ _ t,by rw[u.len];exact I,f _ _ O (M.change o A w lo z #[_,jj,n.snoc C]) ?_];rw[Y1 lo];exact jf s
  ·exact Zn j
 ·exact Zn g
@[simp] noncomputable def kP(i:Nat)(h de:DE)(f:jr):Y Rs:=match f[i]? with
 |S (.ow q (.lst g))=>(de f).bind λd=>(h f).bind λj=>match j with
  |.int j=>(Uq g.length j).bind λn=>S (.nx (f.set i (.ow q (.lst (g.set n d)))))
  |_=>J
 |_=>J
set_option tactic.hygienic true in
theorem Fq(h:PS X st (yz (tE K de) (bh (yf i) (tR K P) cK))):PS X st (tS K Px (kP i P de)):=J0 h λD U H Z=>by
 obtain⟨y,z,F,O,r,R,g,f⟩:=Z;unfold kP at g;split at g
 ·rename_i q ds u;obtain⟨d,e1,g⟩:=j1 g;obtain⟨j,UQ,g⟩:=j1 g;split at g
  ·obtain⟨n,N,g⟩:=j1 g;obtain rfl:=Zj g;obtain⟨l,I,C,⟨vs,M,A⟩,lo,W⟩:=R.ow i _ _ u;refine#[y,z,F,O,d,R,e1,λv H1 s1 Q=>#[_,C,y,z,F,O,_,R.grow s1,UQ,λw H2 s2 s=>?_]];have o:=s1.trans s2;have T:=R.grow o;have t:=A.same (jf o);refine#[l,vs,_,n,rfl,s.int,o _ _ M,by rw[A.len];exact N,f _ _ O (T.change u I C lo W #[_,jj,t.set (Q.same (jf s2)) n]) ?_];rw[Y1 lo];exact jf o
  ·exact Zn g
 ·exact Zn g
@[simp] noncomputable def jd(de:DE)(f:jr):Y Rs:=(de f).bind λd=>S (.rt d)
def Ch(h:PE X e (tE K de)):PS X (.Return (S e) pos) (tS K z (jd de)):=J0 (vS h) λD y H o=>by
 obtain⟨i,t,g,O,r,R,u,f⟩:=o;obtain⟨d,j,n⟩:=j1 u;obtain rfl:=Zj n;exact#[i,t,g,O,d,R,j,λv w s q=>f v w (R.keep.trans s) (q.same (JF R.sub))]
@[simp] noncomputable def yK(g:DO)(f:jr):Y Rs:=(g f).bind λo=>S (.rf o)
def Fs(h:PE X e (tF K v)):PS X (.Return (S e) pos) (tS K A (yK v)):=J0 (vS h) λD C H t=>by
 obtain⟨i,u,g,O,r,R,w,f⟩:=t;obtain⟨d,j,n⟩:=j1 w;obtain rfl:=Zj n;refine#[i,u,g,O,d,R,j,λl y s o q=>f l y (R.keep.trans s) (R.keep.none o) (q.same (λ_ z=>z) (JF λa h=>?_))];rcases uTa h with rfl|h
 ·simp
 ·exact wMa _ (R.sub a h)
@[simp] noncomputable def W8(i:Nat)(f:jr):Y Rs:=match f[i]? with
 |S (.ow _ o)=>S (.rf o)
 |_=>J
def Ft(h:PE X (.Name x g) (yf i)):PS X (.Return (S (.Name x g)) pos) (tS K y (W8 i)):=J0 (vS h) λD w H t=>by
 obtain⟨v,u,A,O,r,R,j,f⟩:=t;unfold W8 at j;split at j
 ·obtain rfl:=Zj j;obtain⟨l,_,s,n,lo,o⟩:=R.ow i _ _ (by assumption);refine#[_,s,f l H R.keep o (n.same (λ_ z=>z) (JF λa h=>?_))];rcases uTa h with rfl|h
  ·exact lo
  ·exact R.sub a h
 ·exact Zn j
def Fv:PS X (.Return J pos) (tS K s (jd (dK .non))):=J0 dh λD o H h=>by
 obtain⟨j,n,i,O,r,R,g,f⟩:=h;obtain rfl:=Zj g;exact f _ H R.keep rfl
noncomputable def Jq(g:DG)(s:DS):L D->DS
 |[],h=>S (.nx h)
 |d::j,h=>(g d h).bind λi=>(s i).bind λr=>match r with
  |.nx f=>Jq g s j f
  |.ct f=>Jq g s j f
  |.bk f=>S (.nx f)
  |.rt d=>S (.rt d)
  |.rf o=>S (.rf o)
  |.xc p h=>S (.xc p h)
  |.rh d h=>S (.rh d h)
@[simp] noncomputable def yC(i:DI)(g s h):=(i h).bind λf=>Jq g s f h
def lU(hp:PassesOwn (model X.prog X.w) X.A X.env X.xe)(hc:X.calm=B)(hi:PI X tg s (vX K di))(hg:PG X tg (tG K kk g))(hb:Jb X UQ (tS K Px s1))(hs:∀x,foldedSetIterable s X.env x=pure x:=by intro _;rfl):PS X (.For tg s UQ [] pos) (tS K Px (yC di g s1)):=J0 (EI hp hc hi hg hb hs) λD U H xx=>by
 obtain⟨I,Z,ρ,O,r,R,ed,f⟩:=xx;obtain⟨j,e1,ed⟩:=j1 ed;refine#[I,Z,ρ,O,_,R,e1,λh H1 Q hJ=>?_];have R1:=R.grow Q;have C:=f.mono (jf Q);refine#[λi m P T=>∃A w,Rel K I Z A P T w/\Jq g s1 (j.drop i) A=S r/\j4 _ (j6 T w)/\m=j.length-i/\i<=j.length,#[_,ρ,O,R1,by simpa using ed,j4.refl _,rfl,Nat.zero_le _],?_];rintro i m P T ⟨A,w,M,d1,sd,rfl,hi'⟩;obtain⟨hgo,u⟩:=hJ i T w M.keep M.in0 sd M.al;by_cases F:i<j.length
 ·right;have hx:j[i]?=S j[i]:=by simp
  have hd:=(List.getElem_cons_drop F).symm;rw[hd]at d1;obtain⟨g1,g2⟩:=hgo _ hx;refine#[g1,λz H2=>∃n O2,Rel K I Z n z H2 O2/\Jq g s1 (j.drop (i+1)) n=S r/\j4 (j6 H1 O) (j6 H2 O2),?_,λx H'' y=>?_]
  ·rintro z H2 ⟨n,O2,a1,a2,a3⟩;exact#[_,by lia,_,O2,a1,a2,a3,rfl,F]
  ·obtain⟨sy,rx⟩:=g2 x _ y;obtain⟨ρ1,f3,f4⟩:=j1 d1;obtain⟨r1,f5,v⟩:=j1 f4;refine#[I,Z,_,w,_,_,M.grow sy,rx,f3,λz R3 _=>#[I,Z,_,w,r1,R3,f5,?_]];have t1:=sd.trans (jf sy);cases r1 with
   |nx n=>exact λU3 H3 W N t=>#[_,W,N,v,t1.trans t]
   |ct n=>exact λU3 H3 W N t=>#[_,W,N,v,t1.trans t]
   |bk n=>cases v;exact λU3 H3 W N t=>C _ H3 W N (t1.trans t)
   |rt d=>cases v;exact C
   |rf o=>cases v;exact C
   |xc p ρ=>cases v;exact C
   |rh d ρ=>cases v;exact C
 ·left;have ei:i=j.length:=by lia
  refine#[u ei,?_];have e0:j.drop i=[]:=List.drop_of_length_le (by lia);rw[e0]at d1;obtain rfl:=Zj d1;exact C _ T w M sd
noncomputable def zT(dt:DT)(s:DS):Nat->DS
 |0,_=>J
 |n+1,g=>(dt g).bind λk=>if k=B then(s g).bind λr=>match r with
  |.nx f=>zT dt s n f
  |.ct f=>zT dt s n f
  |.bk f=>S (.nx f)
  |.rt d=>S (.rt d)
  |.rf o=>S (.rf o)
  |.xc p g=>S (.xc p g)
  |.rh d g=>S (.rh d g)else S (.nx g)
def D3(n)(hp:PassesOwn (model X.prog X.w) X.A X.env X.xe)(Z:PT X c (tT K M))(hb:Jb X z (tS K Px s1)):PS X (.While c z [] pos) (tS K Px (zT M s1 n)):=J0 (bj hp Z hb) λD U H xx=>by
 obtain⟨I,F,Q,O,r,R,ed,f⟩:=xx;refine#[λm y N=>∃u v,Rel K I F u y N v/\zT M s1 m u=S r/\j4 _ (j6 N v),#[n,Q,O,R,ed,j4.refl _],?_];rintro m y N ⟨u,v,P,d1,sd⟩;cases m with
 |zero=>exact Zn d1
 |succ m=>
  obtain⟨k,e1,UQ⟩:=j1 d1;refine#[I,F,_,v,k,P,e1,λH2 s2=>?_];have C:=sd.trans (jf s2);cases k with
  |true=>
   obtain⟨T,f5,s⟩:=j1 UQ;refine Zb #[λg j=>∃i h,Rel K I F i g j h/\zT M s1 m i=S r/\j4 (j6 H O) (j6 j h),?_,I,F,_,v,T,P.grow s2,f5,?_]
   ·rintro g j ⟨i,h,a1,W,a3⟩;exact#[m,Nat.lt_succ_self m,_,h,a1,W,a3]
   ·cases T with
    |nx w=>exact λg j h A t=>#[_,h,A,s,C.trans t]
    |ct w=>exact λg j h A t=>#[_,h,A,s,C.trans t]
    |bk w=>cases s;exact λg j h A t=>f _ j h A (C.trans t)
    |rt d=>cases s;exact f
    |rf o=>cases s;exact f
    |xc p Q=>cases s;exact f
    |rh d Q=>cases s;exact f
  |false=>
   obtain rfl:=Zj UQ;exact Za (f _ H2 v (P.grow s2) C)
def D4{n u v h H g}{dc:DT}{de}(r j){i x s t}(I:X.N.Nodup)(C:X.N[i]?=S x)(M:Gr X.env.scope x)(f:CScope X h)(y:Caps X h j)(UQ:X.calm=B)(R:PI X tg n (vX K H))
  (N:∀z w o,PG (X.comp (cN r j) h z w o) tg (tG K r.length g)) (O:∀z w o,ZX (X.comp (cN r j) h z w o) v (tT K dc)) (Q:∀z w o,PE (X.comp (cN r j) h z w o) u (tE K de)) (F:(j.map (·.2)).Nodup:=by decide)
  (T:∀x,foldedSetIterable n X.env x=pure x:=by intro _;rfl)
  (A:swapsWith (.ListComp u [#[tg,n,v,0]] h pos) (S (.Name x s)) t.line X.env=pure B:=by rfl) (P:X.fn x=B\/X.env.scope.names.lookup x=S .local:=by first|exact .inl _|exact .inr _|assumption):
  PS X (.Assign [.Name x s] (.ListComp u [#[tg,n,v,0]] h pos) t) (tS K W (zH i (yc r.length (j.map (·.2)) H g dc de))):=
 Xf (GL (WB _ _ I C M f y UQ R N O Q T A P) (kO F))
def D5{n u v h H g}{dc:DT}{de}(r j){i x s t}(I:X.N.Nodup)(C:X.N[i]?=S x)(M:Gr X.env.scope x)(f:CScope X h)(y:Caps X h j)(UQ:X.calm=B)(R:PI X tg n (vX K H))
  (N:∀z w o,PG (X.comp (cN r j) h z w o) tg (tG K r.length g)) (O:∀z w o,ZX (X.comp (cN r j) h z w o) v (tT K dc)) (Q:∀z w o,PE (X.comp (cN r j) h z w o) u (tE K de)) (F:(j.map (·.2)).Nodup:=by decide)
  (T:∀x,foldedSetIterable n X.env x=pure x:=by intro _;rfl)
  (A:swapsWith (.ListComp u [#[tg,n,v,0]] h pos) (S (.Name x s)) t.line X.env=pure B:=by rfl) (P:X.fn x=B\/X.env.scope.names.lookup x=S .local:=by first|exact .inl _|exact .inr _|assumption):
  PS X (.Assign [.Name x s] (.ListComp u [#[tg,n,v,0]] h pos) t) (tS K W (jg i (dL (yc r.length (j.map (·.2)) H g dc de)))):=
 Xe (GL (GL (WB _ _ I C M f y UQ R N O Q T A P) (kO F)) bT)
end
def kQ(v:Value)(n):List.foldl (λb c=>b++c) #v[] (List.replicate n #v[v])=(List.replicate n v).toArray:=by
 have f:∀(n a),List.foldl (λb c=>b++c) a (List.replicate n #v[v])=a++(List.replicate n v).toArray:=λn=>by
  induction n with
  |zero=>intro a;simp
  |succ n d=>intro a;rw[List.replicate_succ,List.foldl_cons,d];apply Array.ext';simp[List.replicate_succ]
 rw[f];simp
def wW(l:Addr)(v:Value)(n:Nat)(f:Y Addr)(e:Array (Y Value))(x:Int)(u:Tok)(m:1<x)(k:x<=1000):
  Meets (Builtin.«tuple.__mul__» #[[.ref l,.int x u],[]]) (λ_ R s=>s.heap.get? l=S {cls:=.type "tuple",dict:=f,data:=.seq #v[v] n,slots:=e}/\R (.ok (.ret (Value.ref s.heap.objs.size))) {s with heap:=s.heap.push {cls:=Value.type "tuple",data:=Data.seq (List.foldl (λa b=>a++b) #v[] (List.replicate x.toNat #v[v]))},toks:=s.toks}):=
 .of_wp λc w A R s h=>by
  obtain⟨j,g,d,p,os⟩:=s;obtain⟨o,h⟩:=h
  wp_walk
  refine wpAny_ite_false (by simp;lia) ?_
  wp_walk
  refine wpAny_ite_false (by simp;lia) ?_
  wp_walk
  refine wpAny_ite_false (by simp;lia) ?_
  wp_walk
  rw[if_neg (by simp;lia)]
  wp_walk
  refine wpAny_ite_false (by simp[Builtin.Tuple.tupleTooMany,sizeLine];lia) ?_
  wp_walk
  have i:(List.foldl (λa b=>a++b) #v[] (List.replicate x.toNat #v[v])).size<=sizeLine:=by
   rw[kQ];simp[sizeLine];lia
  first|exact#[_,rfl,h]|(refine wpAny_ite_false (vBa (Nat.not_lt.mpr i)) ?_;wp_walk;exact#[_,rfl,h])
def wX(l v n b c u):
  Meets (Builtin.«tuple.__mul__» #[[.ref l,.int 1 u],[]]) (λ_ R s=>s.heap.get? l=S {cls:=.type "tuple",dict:=b,data:=.seq #v[v] n,slots:=c}/\R (.ok (.ret (Value.ref l))) {s with heap:=s.heap,toks:=s.toks}):=
 .of_wp λa w A R s h=>by
  obtain⟨e,g,d,i,os⟩:=s;obtain⟨f,h⟩:=h
  wp_walk
  first|exact#[_,rfl,h]|(refine wpAny_ite_false rfl ?_;wp_walk;refine wpAny_ite_true rfl ?_;wp_walk;exact#[_,rfl,h])
def Kp(l v n b c u):
  Meets (Builtin.«tuple.__mul__» #[[.ref l,.int 0 u],[]]) (λ_ R s=>s.heap.get? l=S {cls:=.type "tuple",dict:=b,data:=.seq #v[v] n,slots:=c}/\R (.ok (.ret (Value.ref s.heap.objs.size))) {s with heap:=s.heap.push {cls:=Value.type "tuple",data:=Data.seq #v[]},toks:=s.toks}):=
 .of_wp λa w A R s h=>by
  obtain⟨e,g,d,i,os⟩:=s;obtain⟨f,h⟩:=h
  wp_walk
  first|exact#[_,rfl,h]|(refine wpAny_ite_false rfl ?_;wp_walk;refine wpAny_ite_false rfl ?_;wp_walk;refine wpAny_ite_true rfl ?_;wp_walk;exact#[_,rfl,h])
noncomputable def GM:=
 PySem.fillsNumberSlot_seq F.slot_tuple_mul.lookup rfl F.slot_tuple_rmul.lookup rfl
def WP:seqRepeat? (.type "tuple")=pure (S (.builtin "tuple.__mul__")):=by
 unfold seqRepeat?;rw[PySem.seqSlot_of (name:="__mul__") F.slot_tuple_mul.lookup rfl,PySem.seqSlot_of (name:="__rmul__") F.slot_tuple_rmul.lookup rfl];rfl
def Kq(a t l b n e f):
  Meets (Builtin.«int.__rmul__» #[[.int a t,.ref l],[]]) (λ_ R s=>s.heap.get? l=S {cls:=.type "tuple",dict:=e,data:=.seq b n,slots:=f}/\R (.ok (.ret Value.notImplemented)) s):=
 .of_wp λc w A R s h=>by obtain⟨i,g,d,k,os⟩:=s;obtain⟨j,h⟩:=h;wp_walk;exact#[_,rfl,h]
section
variable{X:Cx}{K:Fr}
noncomputable def Xh(K:Fr):R2:=λx y H Q=>∃l k z,x=.ref l/\y=.int k/\yg K H l [z]/\0<=k/\k<=1000/\(k=1->Q (.ref l) H)/\(k≠1->∀p,H p=J->Q (.ref p) (upd H p (.tup (List.replicate k.toNat z))))
theorem WQ(r:jp z v):∀n ,jl (List.replicate n z) (List.replicate n v)
 |0=>.nil
 |n+1=>by exact .cons r (WQ r n)
def D6:jW X (binaryOp .Mult) (Xh X.K):=by
 intro m s Z H x y v u Q I P UQ h;obtain⟨l,k,z,rfl,rfl,N,h1,p,O,j⟩:=h;subst P;obtain⟨t,rfl⟩:=UQ;obtain⟨f,r,⟨⟨W,d,o,e⟩,c,C,n,M⟩,hz⟩:=I.tuple N;subst C M;obtain⟨w,rfl,g⟩:∃w,f=[w]/\jp z w:=by
  cases r with
  |cons a b=>cases b;exact#[_,rfl,a]
 refine wpAny_binaryOp_repeat_ref rfl #[_,c,rfl] (λT=>typeIs_int T k t) GM F.fills_int_mul F.slot_int_rmul WP F.slot_int_index.lookup
  (call_meets F.slot_int_rmul (typeIs_int s k t) F.entry_int_rmul (F.args_int_rmul_2 _ _) (Kq k t l _ n d e) #[c,rfl,#[_,c,rfl],?_])
 by_cases i:k=1
 ·subst i;exact call_meets F.slot_tuple_mul #[_,c,rfl] F.entry_tuple_mul (F.args_tuple_mul_2 _ _) (wX l w n d e t) #[c,.ref l,H,I,rfl,O rfl]
 ·by_cases R:k=0
  ·subst R;refine call_meets F.slot_tuple_mul #[_,c,rfl] F.entry_tuple_mul (F.args_tuple_mul_2 _ _) (Kp l w n d e t) #[c,.ref _,_,I.laid (λb A q=>wIa _ q) (wPa _) ?_,rfl,j i _ (I.hok.fresh (wPa _))];exact#[Nat.zero_le _,[],.nil,IsTup.new _ _]
  ·refine call_meets F.slot_tuple_mul #[_,c,rfl] F.entry_tuple_mul (F.args_tuple_mul_2 _ _) (wW l w n d e k t (by lia) p) #[c,?_];rw[kQ];refine#[.ref _,_,I.laid (λb A q=>wIa _ q) (wPa _) ?_,rfl,j i _ (I.hok.fresh (wPa _))];exact#[by rw[List.length_replicate];exact IY (by lia),_,WQ g _,IsTup.new _ _]
noncomputable def zh:D->D->Y D
 |.int i,.int j=>X9 (.int i) (.int j)
 |.tup [z],.int k=>if 0<=k/\k<=1000 then S (.tup (List.replicate k.toNat z))else J
 |_,_=>J
@[simp] theorem N4(i j):zh (.int i) (.int j)=X9 (.int i) (.int j):=rfl
@[simp] theorem N5(z k):zh (.tup [z]) (.int k)=if 0<=k/\k<=1000 then S (.tup (List.replicate k.toNat z))else J:=rfl
theorem WR{v}(h:jI K H d v):∀n ,j7 K H (List.replicate n d) (List.replicate n v)
 |0=>j7.nil
 |n+1=>by exact j7.cons h (WR h n)
set_option tactic.hygienic true in
theorem Fw:Jl K (λx y H Q=>rI GF (λi j=>.int (i*j)) x y H Q\/Xh K x y H Q) zh:=by
 intro O H a b d x y Q c h k e q;unfold zh at e;split at e
 ·exact .inl (lg O H _ _ d x y Q c h k e q)
 ·split at e
  ·rename_i g;obtain rfl:=Zj e;right;obtain⟨p,w,rfl,m,t⟩:=c.tup;obtain⟨v,rfl,s⟩:∃v,w=[v]/\jI K _ _ v:=by
    obtain⟨v,r,rfl,u,l⟩:=t;subst l;exact#[v,rfl,u]
   refine#[p,_,v,rfl,h.int,m,g.1,g.2,λn=>?_,λ_ p f=>q _ _ (jM f _) (zp (k p f) f (WR s _))];refine q _ H (j4.refl H) ?_;subst n;rcases c with c|⟨_,o,_,z,_⟩|⟨_,_,_,_,z,_⟩
   ·exact c
   ·cases o<;>cases z
   ·cases z
  ·exact Zn e
 ·exact Zn e
def D7:jW X (binaryOp .Mult) (λx y H Q=>rI GF (λi j=>.int (i*j)) x y H Q\/Xh X.K x y H Q):=EN.or D6
def D8:jW X (binaryOp .Add) (λx y H Q=>vk (λi j=>.int (i+j)) x y H Q\/(λx y H Q=>xX X.K x y H Q\/(λx y H Q=>∃i j,x=.str i/\y=.str j/\i.length+j.length<=sizeLine/\Q (.str (i++j)) H) x y H Q) x y H Q):=EL.or (dG.or xN)
end
mutual
noncomputable def YA:D->D->Y Bool
 |.tup l,.tup m=>(YB l m).bind λb=>S (b&&l.length==m.length)
 |.lst l,.lst m=>if l.length=m.length then YB l m else S G
 |.non,.non=>S B
 |.non,.tup _=>S G
 |.tup _,.non=>S G
 |.int a,.int b=>S (a==b)
 |.bl a,.bl b=>S (a==b)
 |.str a,.str b=>S (a==b)
 |_,_=>J
noncomputable def YB:L D->L D->Y Bool
 |[],_=>S B
 |_::_,[]=>S B
 |a::l,b::m=>(YA a b).bind λx=>(YB l m).bind λy=>S (x&&y)
end
mutual
noncomputable def dep:D->Nat
 |.tup l=>ya l+1
 |.lst l=>ya l+1
 |_=>0
noncomputable def ya:L D->Nat
 |[]=>0
 |d::a=>max (dep d) (ya a)
end
@[simp] theorem Kr(l):dep (.tup l)=ya l+1:=rfl
@[simp] theorem Zd(l):dep (.lst l)=ya l+1:=rfl
@[simp] theorem MC(l):dep (.str l)=0:=rfl
@[simp] theorem MD(l):dep (.int l)=0:=rfl
@[simp] theorem ME(l):dep (.bl l)=0:=rfl
@[simp] theorem MF:dep .non=0:=rfl
@[simp] theorem MG:ya []=0:=rfl
@[simp] theorem Fx(d a):ya (d::a)=max (dep d) (ya a):=rfl
theorem D.ind{P:D->Prop}(h:∀d,(∀l,d=.tup l->∀x∈l,P x)->(∀l,d=.lst l->∀x∈l,P x)->P d)(d):P d:=
 h d (λl e x a=>D.ind h x) (λl e x a=>D.ind h x)
termination_by sizeOf d
decreasing_by
 all_goals(subst e;have:=List.sizeOf_lt_of_mem a;simp;lia)
theorem GN:∀{l d},d∈l->dep d<=ya l
 |e::l,d,h=>by
  rcases uTa h with rfl|h
  ·exact Nat.le_max_left _ _
  ·exact wSa (GN h) (Nat.le_max_right _ _)
section
variable{X:Cx}{K:Fr}
open PySem.SeqAt
def in1_units{A:Around}:A.in1.units=A.units+1:=rfl
variable{pins:Tq}{U:L2.St}{H:Hp}{s:Shared}
def kR(f:∀d∈l,∀{g x r},jI K H d x->jI K H g x->YA d g=S r->r=B):∀{m c r},j7 K H l c->j7 K H m c->YB l m=S r->r=B:=by
 induction l with
 |nil=>intro m c r _ _ e;obtain rfl:=Zj e;rfl
 |cons a l j=>
  intro m c r o A e;cases m with
  |nil=>obtain rfl:=Zj e;rfl
  |cons b m=>
   obtain⟨x,i,e⟩:=j1 e;obtain⟨y,n,e⟩:=j1 e;obtain rfl:=Zj e;obtain⟨v,t,rfl,h,u⟩:=o;obtain⟨F,C,z,p,k⟩:=A;cases z;rw[f a List.mem_cons_self h p i,j (λd w=>f d (List.mem_cons_of_mem _ w)) u k n];rfl
def wt(I:Inv X pins U H s)(d):∀{l x r},jI X.K H d x->jI X.K H l x->YA d l=S r->r=B:=by
 induction d using D.ind with
 |h d y v=>
  intro l x r g c e;unfold YA at e;split at e
  ·obtain⟨b,t,u⟩:=j1 e;obtain rfl:=Zj u;obtain⟨a,w,rfl,o,j⟩:=g;obtain⟨n,p,f,i,h⟩:=c;cases f;have k:=I.tuple_inj o i;subst k;rw[kR (λd m=>y _ rfl d m) j h t,<-j.len,<-h.len,beq_self_eq_true];rfl
  ·obtain⟨a,w,rfl,o,j⟩:=g;obtain⟨n,p,f,i,h⟩:=c;cases f;rw[o]at i;cases i;rw[if_pos (by rw[<-j.len,<-h.len])]at e;exact kR (λd m=>v _ rfl d m) j h e
  ·lia
  ·obtain⟨n,p,f,i,h⟩:=c;rw[g]at f;cases f
  ·obtain⟨n,p,f,i,h⟩:=g;rw[c]at f;cases f
  ·cases e;rw[g]at c;cases c;simp
  ·cases e;rw[g]at c;cases c;simp
  ·cases e;rw[g]at c;cases c;simp
  ·exact Zn e
theorem W9(z:∀d∈l,∀{C x y u v A r},YA d C=S r->jI K H d x->jI K H C y->jp x u->jp y v->A.units+dep d<cLine->EqAt A s u v r):∀{m h i k g A r},YB l m=S r->j7 K H l h->j7 K H m i->jl h k->jl i g->A.units+ya l<cLine->
  ∃e ,(∀(j f) (c:j<g.length),EqAt A s k[j] g[j] (e j))/\(List.range (min l.length m.length)).all e=r:=by
 induction l with
 |nil=>
  intro m h i k g A r e f c n o F;obtain rfl:=Zj e;subst f;cases n;exact#[λ_=>B,λj f _=>vDa f (by simp),rfl]
 |cons a l N=>
  intro m h i k g A r e f c n o F;cases m with
  |nil=>
   obtain rfl:=Zj e;subst c;cases o;exact#[λ_=>B,λj _ c=>vDa c (by simp),rfl]
  |cons b m=>
   obtain⟨x,Z,e⟩:=j1 e;obtain⟨y,W,e⟩:=j1 e;obtain rfl:=Zj e;obtain⟨v,t,rfl,I,P⟩:=f;obtain⟨v',t',rfl,UQ,Q⟩:=c;rw[Fx]at F;cases n with
   |cons T p=>
    cases o with
    |cons R w=>
     obtain⟨e',M,O⟩:=N (λd hd=>z d (wMa _ hd)) W P Q p w (A:=A) (by lia);refine#[λj=>match j with|0=>x|j+1=>e' j,λj f c=>?_,?_]
     ·cases j with
      |zero=>exact z a wNa Z I UQ T R (by lia)
      |succ j=>exact M j (by simpa using f) (by simpa using c)
     ·rw[vXa,vXa,Nat.succ_min_succ,List.range_succ_eq_map,List.all_cons,List.all_map];rw[<-O];rfl
set_option tactic.hygienic true
theorem Fy(I:Inv X pins U H s)(d:D):∀{d':D}{x y:V}{u v:Value}{A:Around}{r:Bool},YA d d'=S r->jI X.K H d x->jI X.K H d' y->jp x u->jp y v->A.units+dep d<cLine->EqAt A s u v r:=by
 induction d using D.ind with
 |h d i1 i2=>
  intro d' x y u v A r e h g l i hu;have e0:=e;unfold YA at e;split at e
  ·obtain⟨b,e1,e2⟩:=j1 e;obtain rfl:=Zj e2;have z:=h;have o:=g;obtain⟨a,xs,rfl,qa,M⟩:=h;obtain⟨O,W,rfl,m,p⟩:=g;cases l;cases i;simp only[Kr,Zd]at hu;by_cases c:a=O
   ·subst c;have:=wt I _ z o e0;rw[this];exact EqAt.same _
   ·obtain⟨ia,N,P,_⟩:=I.tuple qa;obtain⟨R,w,k,_⟩:=I.tuple m;have Z:=(List.size_toArray).trans (N.length.symm.trans M.len);have lb:=(List.size_toArray).trans (w.length.symm.trans p.len);obtain⟨e',T,Q⟩:=W9 (λd UQ=>i1 _ rfl d UQ) e1 M p N w (A:=A.in1) (by rw[in1_units];lia);have f:=RcAt.tuples (A:=A) (s:=s) P k (by lia) (λj n C=>by simpa using T j (by simpa using n) (by simpa using C));rw[Z,lb,Q]at f;exact EqAt.of_refs c f
  ·have z:=h;have o:=g;obtain⟨a,xs,rfl,qa,M⟩:=h;obtain⟨O,W,rfl,m,p⟩:=g;cases l;cases i;simp only[Kr,Zd]at hu;by_cases c:a=O
   ·subst c;have:=wt I _ z o e0;rw[this];exact EqAt.same _
   ·obtain⟨ia,N,P,_⟩:=I.list (jY.of qa);obtain⟨R,w,k,_⟩:=I.list (jY.of m);have Z:=(List.size_toArray).trans (N.length.symm.trans M.len);have lb:=(List.size_toArray).trans (w.length.symm.trans p.len);split at e
    ·rename_i F;obtain⟨e',T,Q⟩:=W9 (λd UQ=>i2 _ rfl d UQ) e M p N w (A:=A.in1) (by rw[in1_units];lia);have f:=RcAt.lists (A:=A) (l:=a) P.isList k.isList (by lia) (by lia) (λj n C=>by simpa using T j (by simpa using n) (by simpa using C));rw[Z]at f;rw[<-F,Nat.min_self]at Q;rw[Q]at f;exact EqAt.of_refs c f
    ·rename_i F;obtain rfl:=Zj e;exact EqAt.of_refs c (RcAt.lists_lengths P.isList k.isList (by lia) (by lia))
  ·cases e;subst h g;subst l;subst i;exact EqAt.same _
  ·cases e;subst h;cases l;obtain⟨O,W,rfl,m,p⟩:=g;cases i;obtain⟨R,w,k,_⟩:=I.tuple m;exact EqAt.none_tuple k (by lia)
  ·cases e;subst g;cases i;obtain⟨O,W,rfl,m,p⟩:=h;cases l;obtain⟨R,w,k,_⟩:=I.tuple m;exact EqAt.tuple_none k (by lia)
  ·obtain rfl:=Zj e;subst h g;obtain⟨t,rfl⟩:=l;obtain⟨t',rfl⟩:=i;exact EqAt.int_int _ _ _ _
  ·obtain rfl:=Zj e;subst h g;subst l;subst i;exact EqAt.bool_bool _ _
  ·obtain rfl:=Zj e;subst h g;obtain⟨t,rfl⟩:=l;obtain⟨t',rfl⟩:=i;exact EqAt.str_str _ _ _ _
  ·exact Zn e
@[simp] noncomputable def Ze:D->D->Bool
 |.lst _,.lst _=>B
 |.tup _,.tup _=>B
 |_,_=>G
noncomputable def WS(K:Fr)(a:Bool):R2:=λx y H Q=>∃d b r,jI K H d x/\jI K H b y/\Ze d b=B/\YA d b=S r/\dep d<=20/\Q (.bl (if a then !r else r)) H
theorem Fz(I:Inv X pins U H s)(e:YA d P=S r)(q:Ze d P=B)(N:jI X.K H d x)(M:jI X.K H P y)(R:jp x u)(O:jp y v)(Q:A.units+dep d<cLine):RcAt A s u v r/\RcNeAt A s u v (!r):=by
 unfold Ze at q;split at q
 ·obtain⟨a,xs,rfl,C,t⟩:=N;obtain⟨Z,ys,rfl,z,l⟩:=M;cases R;subst O;simp only[Kr,Zd]at Q;rw[YA]at e;obtain⟨ia,m,h,_⟩:=I.list (jY.of C);obtain⟨UQ,o,i,_⟩:=I.list (jY.of z);have F:=(List.size_toArray).trans (m.length.symm.trans t.len);have T:=(List.size_toArray).trans (o.length.symm.trans l.len);split at e
  ·rename_i p;obtain⟨e',n,w⟩:=W9 (λd _=>Fy I d) e t l m o (A:=A.in1) (by rw[in1_units];lia);have f:=RcAt.lists (A:=A) h.isList i.isList (by lia) (by lia) (λj g k=>by simpa using n j (by simp_all) (by simp_all));have c:=RcNeAt.lists (A:=A) h.isList i.isList (by lia) (by lia) (λj g k=>by simpa using n j (by simp_all) (by simp_all));rw[F]at f c;rw[<-p,Nat.min_self]at w;rw[w]at f c;exact#[f,c]
  ·rename_i p;obtain rfl:=Zj e;exact#[RcAt.lists_lengths h.isList i.isList (by lia) (by lia),RcNeAt.lists_lengths h.isList i.isList (by lia) (by lia)]
 ·obtain⟨a,xs,rfl,C,t⟩:=N;obtain⟨Z,ys,rfl,z,l⟩:=M;cases R;subst O;simp only[Kr,Zd]at Q;obtain⟨b,W,e2⟩:=j1 e;obtain rfl:=Zj e2;obtain⟨ia,m,h,_⟩:=I.tuple C;obtain⟨UQ,o,i,_⟩:=I.tuple z;have F:=(List.size_toArray).trans (m.length.symm.trans t.len);have T:=(List.size_toArray).trans (o.length.symm.trans l.len);obtain⟨e',n,w⟩:=W9 (λd _=>Fy I d) W t l m o (A:=A.in1) (by rw[in1_units];lia);have f:=RcAt.tuples (A:=A) h i (by lia) (λj g k=>by simpa using n j (by simp_all) (by simp_all));have c:=RcNeAt.tuples (A:=A) h i (by lia) (λj g k=>by simpa using n j (by simp_all) (by simp_all));rw[F,T,w]at f c;exact#[f,c]
 ·exact Zf q
def FC(i:Room k X.A):jW X (compareOp .Eq) (WS X.K G):=by
 intro pins s U H x y v u Q I g a h;obtain⟨d,j,r,f,c,q,e,l,b⟩:=h;have m:=i.units;exact(Fz I e q f c g a (by lia)).1 _ _ _ _ #[.bl r,H,I,rfl,b]
def FD(i:Room k X.A):jW X (compareOp .NotEq) (WS X.K B):=by
 intro pins s U H x y v u Q I g a h;obtain⟨d,j,r,f,c,q,e,l,b⟩:=h;have m:=i.units;exact(Fz I e q f c g a (by lia)).2 _ _ _ _ #[.bl _,H,I,rfl,b]
@[simp] noncomputable def v_(c:Bool):D->D->Y D:=λa b=>if Ze a b=B/\dep a<=20 then(YA a b).bind λr=>S (.bl (if c then !r else r))else J
set_option tactic.hygienic false
set_option tactic.hygienic true in
theorem Ci:Jl K (WS K c) (v_ c):=by
 intro O H a b d x y Q j i k e q;unfold v_ at e;split at e
 ·rename_i f;obtain⟨r,g,h⟩:=j1 e;obtain rfl:=Zj h;exact#[a,b,r,j.full,i.full,f.1,g,f.2,q _ H (j4.refl H) rfl]
 ·exact Zn e
@[simp] noncomputable def jD(a b):=if Ze a b=B then v_ G a b else vW a b
@[simp] noncomputable def Je(a b):=if Ze a b=B then v_ B a b else bO a b
def MH:Jl K (λx y H Q=>ET x y H Q\/WS K G x y H Q) jD:=by
 intro O H a b d x y Q g c f e q;unfold jD at e;split at e
 ·exact .inr (Ci O H a b d x y Q g c f e q)
 ·exact .inl (Xa O H a b d x y Q g c f e q)
def MI:Jl K (λx y H Q=>EU x y H Q\/WS K B x y H Q) Je:=by
 intro O H a b d x y Q g c f e q;unfold Je at e;split at e
 ·exact .inr (Ci O H a b d x y Q g c f e q)
 ·exact .inl (lq O H a b d x y Q g c f e q)
noncomputable def FE(a:Room k X.A):=xL.or (FC a)
noncomputable def FF(a:Room k X.A):=IO.or (FD a)
noncomputable def wu:D->Y V
 |.non=>S .non
 |.bl b=>S (.bl b)
 |.int i=>S (.int i)
 |.str s=>S (.str s)
 |_=>J
@[simp] theorem NK:wu .non=S .non:=rfl
@[simp] theorem NL(b):wu (.bl b)=S (.bl b):=rfl
@[simp] theorem NM(i):wu (.int i)=S (.int i):=rfl
@[simp] theorem NN(s):wu (.str s)=S (.str s):=rfl
@[simp] noncomputable def WT:L D->Y (L V)
 |[]=>S []
 |d::b=>(wu d).bind λv=>(WT b).bind λa=>S (v::a)
def aS(e:wu d=S v)(h:jI K H d w):w=v/\ZE v=B:=by
 unfold wu at e;split at e<;>first|(obtain rfl:=Zj e;exact#[h,rfl])|exact Zn e
theorem Ks:∀{l c f},WT l=S c->j7 K H l f->f=c/\c.all ZE=B
 |[],c,f,e,h=>by obtain rfl:=Zj e;exact#[h,rfl]
 |d::l,c,f,e,h=>by
  obtain⟨v,i,e⟩:=j1 e;obtain⟨r,n,e⟩:=j1 e;obtain rfl:=Zj e;obtain⟨w,t,rfl,a,b⟩:=h;obtain⟨j,g⟩:=aS i a;obtain⟨m,k⟩:=Ks n b;exact#[by rw[j,m],by rw[List.all_cons,g,k];rfl]
@[simp] noncomputable def zU(c:Bool):D->D->Y D:=λa b=>(wu a).bind λv=>(zS b).bind λl=>(WT l).bind λd=>S (.bl (if c then !QE v d else QE v d))
def FG:Jl K (fj K j) (zU j):=by
 intro O H a b d x y Q u m z e q;obtain⟨v,r,e⟩:=j1 e;obtain⟨l,c,e⟩:=j1 e;obtain⟨w,n,e⟩:=j1 e;obtain rfl:=Zj e;obtain⟨t,o⟩:=aS r u.full;subst t;unfold zS at c;split at c
 ·cases c;obtain⟨p,f,rfl,k,h⟩:=m.lst;obtain⟨i,g⟩:=Ks n h;subst i;exact#[p,f,rfl,.inl (jY.of k),o,g,q _ H (j4.refl H) rfl]
 ·cases c;obtain⟨p,f,rfl,k,h⟩:=m.tup;obtain⟨i,g⟩:=Ks n h;subst i;exact#[p,f,rfl,.inr k,o,g,q _ H (j4.refl H) rfl]
 ·exact Zn c
@[simp] noncomputable def Cj:D->Y Kd
 |.int _=>S .i
 |.bl _=>S .b
 |.str _=>S .s
 |.lst _=>S .l
 |.tup _=>S .t
 |_=>J
def Cl(e:Cj d=S k)(h:RB K O H d v):bL K H v k:=by
 unfold Cj at e;split at e
 ·cases e;rw[h.int];trivial
 ·cases e;rw[h.bl];trivial
 ·cases e;rw[h.str];trivial
 ·cases e;obtain⟨p,b,rfl,a,c⟩:=h.lst;exact#[b,jY.of a]
 ·cases e;obtain⟨p,b,rfl,a,c⟩:=h.tup;exact#[b,a]
 ·exact Zn e
@[simp] noncomputable def v3(T:String):D->Y D:=λd=>(Cj d).bind λk=>(kE k T).bind λb=>S (.bl b)
def lV(h:PE X (.Call (.Name "isinstance" p) [e,a] [] c) (az (fL X.K) (ZD (tR K j) (ZD (tC (.ty T)) UN))))(o:X.K=K:=by rfl):PE X (.Call (.Name "isinstance" p) [e,a] [] c) (tE K (d1 (v3 T) j)):=jx h λU H Q x=>by
 subst o;obtain⟨g,l,f,O,d,R,u,q⟩:=x;obtain⟨x,i,a⟩:=j1 u;obtain⟨k,n,a⟩:=j1 a;obtain⟨b,m,a⟩:=j1 a;obtain rfl:=Zj a;exact#[g,l,f,O,x,R,i,λv t s r=>#[v,T,k,b,rfl,Cl n r,m,q _ t s rfl]]
end
noncomputable def zV(f:Str)(d:D):L Str->L D->L Str×L D
 |g::b,x::a=>if g=f then(g::b,d::a)else((g::(zV f d b a).1),x::(zV f d b a).2)
 |_,_=>([f],[d])
@[simp] theorem D9(f d g b x a):zV f d (g::b) (x::a)=if g=f then(g::b,d::a)else((g::(zV f d b a).1),x::(zV f d b a).2):=rfl
@[simp] theorem nu(f d):zV f d [] []=([f],[d]):=rfl
section
variable{X:Cx}{K:Fr}
theorem WU{f d v}(r:jI K H d v):∀{c j k},c.length=k.length->j7 K H j k->∃i,JT f v (c.zip k)=(zV f d c j).1.zip i/\(zV f d c j).1.length=i.length/\j7 K H (zV f d c j).2 i
 |[],j,k,h,l=>by
  have e:=List.length_eq_zero_iff.mp h.symm;subst e;have e:j=[]:=by have:=l.len;exact List.length_eq_zero_iff.mp this.symm
  exact#[_,rfl,rfl,j7.cons r j7.nil]
 |g::c,[],k,h,l=>by subst l;cases h
 |g::c,x::j,k,h,l=>by
  obtain⟨w,t,rfl,a,b⟩:=l;rw[D9];by_cases e:g=f
  ·rw[if_pos e];refine#[_,?_,by simpa using h,j7.cons r b];show(if g=f then(g,v)::c.zip t else _)=_;rw[if_pos e];rfl
  ·rw[if_neg e];obtain⟨i,o,m,n⟩:=WU r (by simpa using h) b;refine#[_,?_,by simpa using m,j7.cons a n];show(if g=f then _ else(g,w)::JT f v (c.zip t))=_;rw[if_neg e,o];rfl
variable{e o:Expr}{de:DE}{pos pos':Pos}{st:Stmt}
@[simp] noncomputable def VD(i:Nat)(C:Addr)(f:Str)(de:DE)(b:jr):Y Rs:=match b[i]? with
 |S (.ow q (.ins c a g))=>if c=C/\a.length<1000 then(de b).bind λd=>S (.nx (b.set i (.ow q (.ins c (zV f d a g).1 (zV f d a g).2))))else J
 |_=>J
set_option tactic.hygienic true in
theorem FH{i C f}(h:PS X st (xQ X.K (yf i) (tE K de) f))(c:Cls K C)(n:yh K C f)(y:X.K=K:=by rfl):PS X st (tS K Px (VD i C f de)):=J0 h λD U H W=>by
 obtain⟨Q,T,s,O,r,R,a,I⟩:=W;subst y;unfold VD at a;split at a
 ·rename_i q C' ns ds k;split at a
  ·rename_i M;obtain⟨rfl,b⟩:=M;obtain⟨d,N,t⟩:=j1 a;obtain rfl:=Zj t;obtain⟨l,w,p,⟨j,vs,UQ,m,F⟩,lo,u⟩:=R.ow i _ _ k;refine#[Q,T,s,O,d,R,N,λv H1 g P=>#[_,p,l,_,j,_,rfl,g _ _ UQ,c,n,?_,?_]]
   ·rw[List.length_zip,<-m,Nat.min_self];exact b
   have x:=R.grow g;obtain⟨vs',A,z,Z⟩:=WU P m (F.same (jf g));refine I _ _ O (x.change k w p lo u #[j,_,by rw[jj,A],z,Z]) ?_;rw[Y1 lo];exact jf g
  ·exact Zn a
 ·exact Zn a
@[simp] noncomputable def zI(a:L Bool)(b:L D)(n:Nat):jr:=List.zipWith (λk d=>if k=B then Sl.cl d else Sl.bo d) a b++List.replicate n .un
theorem yb.get:∀{a b vs}{i:Nat}{d},yb K O H a b vs->b[i]?=S d->∃k v,a[i]?=S k/\vs[i]?=S v/\AK K O H k d v
 |[],[],[],_,_,_,e=>Zn e
 |k::_,d::_,v::_,0,_,h,e=>by simp at e;subst e;exact#[k,v,rfl,rfl,h.1]
 |k::_,d::_,v::_,i+1,m,h,e=>by
  obtain⟨f,j,g,c,l⟩:=yb.get h.2 (by simpa using e);exact#[f,j,by simpa using g,by simpa using c,l]
 |[],[],_::_,_,_,h,_=>h.elim
 |[],_::_,_,_,_,h,_=>h.elim
 |_::_,[],_,_,_,h,_=>h.elim
 |_::_,_::_,[],_,_,h,_=>h.elim
def yD{c a b}{n i:Nat}{s}(h:yb K O H c a b)(p:s≠.un)(e:(zI c a n)[i]?=S s):∃k d v,b[i]?=S v/\AK K O H k d v/\s=(if k=B then Sl.cl d else Sl.bo d):=by
 unfold zI at e;have m:=h.len;by_cases r:i<a.length
 ·rw[uRa (by simp_all),List.getElem?_zipWith]at e;have f:a[i]?=S a[i]:=by simp
  obtain⟨k,v,l,g,j⟩:=h.get f;rw[l,f]at e;obtain rfl:=Zj e;exact#[k,_,v,g,j,rfl]
 ·rw[List.getElem?_append_right (by simp_all),List.getElem?_replicate]at e;split at e
  ·lia
  ·exact Zn e
def Kt{s r m n}(h:yb K O H s r m)(t:∀a∈O,H a≠J):Rel K H #[O,0] (zI s r n) (m.map some++List.replicate n J) H O:=by
 have y:=h.len;have g:∀{i v},m[i]?=S v->(m.map some++List.replicate n J)[i]?=S _:=λe=>by
  have:=(uSa e).1;rw[uRa (by simp_all),uAa,e];rfl
 refine#[?_,λa h=>h,λa h=>.inl h,t,t,j4.refl _,?_,?_,?_,?_,?_]
 ·simp_all
 ·intro i d e;obtain⟨k,p,v,c,f,b⟩:=yD h (by lia) e;cases k with
  |true=>cases b;exact#[v,g c,f]
  |false=>cases b
 ·intro i d e;obtain⟨k,p,v,c,f,b⟩:=yD h (by lia) e;cases k with
  |true=>cases b
  |false=>cases b;exact#[v,g c,f]
 ·intro i q o e;obtain⟨k,p,v,c,f,b⟩:=yD h (by lia) e;cases k<;>cases b
 ·intro i j q u o x l e;obtain⟨k,p,v,c,f,b⟩:=yD h (by lia) e;cases k<;>cases b
 ·intro i w z e;obtain⟨k,p,v,c,f,b⟩:=yD h (by lia) e;cases k<;>cases b
noncomputable def Cm:Rs->Y D
 |.rt d=>S d
 |.rf o=>S o.toD
 |.nx _=>S .non
 |_=>J
@[simp] theorem NO(d):Cm (.rt d)=S d:=rfl
@[simp] theorem NP(o):Cm (.rf o)=S o.toD:=rfl
@[simp] theorem NQ(d):Cm (.nx d)=S .non:=rfl
@[simp] noncomputable def J1(c:L Bool)(n:Nat)(a:DS):L D->Y D:=λb=>(a (zI c b n)).bind Cm
noncomputable def m6:Rs->Y OD
 |.rf o=>S o
 |_=>J
@[simp] theorem NR(o):m6 (.rf o)=S o:=rfl
@[simp] noncomputable def V0(c:L Bool)(n:Nat)(a:DS):L D->Y OD:=λb=>(a (zI c b n)).bind m6
@[simp] noncomputable def aU(C:Addr)(c:L Bool)(n:Nat)(a:DS):Addr->L D->Y OD:=λp b=>(a (.ow (S p) (.ins C [] [])::zI c b n)).bind λr=>match r with
 |.nx d=>(match(d[0]?)with
  |S (Sl.ow q o)=>if q=S p then S o else J
  |_=>J)
 |_=>J
variable{P:Program}{w:World}{mg:Tj}{base:Heap}{x qual:Str}{f:Addr}{fd:FuncData}{N ps:L Str}{k n:Nat}{ks:L Bool}{body:DS}
def MJ(F:Fun K x qual st f fd)(b:FnScope N ps (defScope st))(hk:ks.length=ps.length)(hn:N.length-ps.length=n)
  (hb:∀(i A c s H E),Room k (A.deeper (envOfC qual (defScope st) s.heap.objs.size f i))->Jb (JL yG P w K mg base N qual (defScope st) f i A c s H E).nox (defBody st) (tS K Px body)):
  FnOk P w K mg base yG (k+1) f fd ps (vY K ks (J1 ks n body)):=by
 refine F.ok b (λI H Q E h=>?_) λi A c s H I Q E hr h=>?_
 ·obtain⟨O,T,d,_,m,_⟩:=h;have:=m.len
  lia
 ·obtain⟨O,T,d,M,m,e,q⟩:=h;refine#[_,hb _ A _ s H E hr,?_];obtain⟨r,UQ,g⟩:=j1 e;have C:N.length-I.length=n:=by have:=m.len;lia
  unfold L2.YW;rw[C];refine#[H,_,_,O,r,Kt m M,UQ,?_];cases r with
  |rt d'=>obtain rfl:=Zj g;exact λv j s r=>q v j s r
  |rf o=>
   obtain rfl:=Zj g;exact λl j s C R=>q _ j s ((R.same (λ_ z=>z) (JF λa h=>wMa _ h)).rep λu z=>by rw[jA (λy=>M l y C)];exact z)
  |nx t=>obtain rfl:=Zj g;exact λZ j O' W _=>q _ j W.keep rfl
  |bk t=>exact Zn g
  |ct t=>exact Zn g
  |xc p t=>exact Zn g
  |rh d t=>exact Zn g
def MK(F:Fun K x qual st f fd)(a:FnScope N ps (defScope st))(I:ks.length=ps.length)(C:N.length-ps.length=n)
  (u:∀(g A b s H E),Room k (A.deeper (envOfC qual (defScope st) s.heap.objs.size f g))->Jb (JL yG P w K mg base N qual (defScope st) f g A b s H E).nox (defBody st) (tS K R body)):
  FnOk P w K mg base yG (k+1) f fd ps (QG K ks (V0 ks n body)):=by
 refine F.ok a (λl H Q E h=>?_) λg A b s H l Q E t h=>?_
 ·obtain⟨O,v,d,_,j,_⟩:=h;have:=j.len
  lia
 ·obtain⟨O,v,d,z,j,e,q⟩:=h;refine#[_,u _ A _ s H E t,?_];obtain⟨r,m,c⟩:=j1 e;have y:N.length-l.length=n:=by have:=j.len;lia
  unfold L2.YW;rw[y];refine#[H,_,_,O,r,Kt j z,m,?_];cases r with
  |rt M=>exact Zn c
  |rf o=>obtain rfl:=Zj c;exact q
  |nx i=>exact Zn c
  |bk i=>exact Zn c
  |ct i=>exact Zn c
  |xc p i=>exact Zn c
  |rh d i=>exact Zn c
set_option tactic.hygienic true in
theorem ML(F:Fun K x qual st f fd)(c:FnScope N ps (defScope st))(hk:ks.length+1=ps.length)(hn:N.length-ps.length=n)
  (hb:∀(t A m s H E),Room k (A.deeper (envOfC qual (defScope st) s.heap.objs.size f t))->Jb (JL yG P w K mg base N qual (defScope st) f t A m s H E).nox (defBody st) (tS K Px body)):
  FnOk P w K mg base yG (k+1) f fd ps (Cf K C ks (aU C ks n body)):=by
 refine F.ok c (λvs H Q E h=>?_) λt A m s H vs Q E hr h=>?_
 ·obtain⟨O,ds,p,dx,M,o,rfl,_,_,_,I,_⟩:=h;have:=I.len;rw[vXa]
  lia
 ·obtain⟨O,ds,p,dx,M,o,rfl,al,hp,hpO,I,e,q⟩:=h;refine#[_,hb _ A _ s H E hr,?_];obtain⟨r,e1,g⟩:=j1 e;have hl:N.length-(V.ref p::M).length=n:=by have:=I.len;rw[vXa];lia
  unfold L2.YW;rw[hl];have Z:∀a∈O,j6 H [p] a≠J:=λa T=>by
   rw[jA (by intro z;simp at z;exact hpO (z▸T))];exact al a T
  have R0:=Kt (n:=n) I Z;have np:j6 H [p] p=J:=ui wNa;have sH:j4 (j6 H [p]) H:=yR;have sd:j4 (j6 (j6 H [p]) O) (j6 H _):=λb u z=>by
   obtain⟨z1,z2⟩:=jZ z;obtain⟨z3,z4⟩:=jZ z2;rw[jA (by intro y;rcases List.mem_cons.mp y with y|y;exact z3 (by rw[y];exact List.mem_cons_self);exact z1 y)];exact z4
  have R:Rel K (j6 H [p]) #[O,0] (.ow (S p) (.ins C [] [])::zI ks ds n) (List.map some (V.ref p::M)++List.replicate n J) H (p::O):=by
   refine#[?_,λa h=>wMa _ h,?_,Z,?_,sH,?_,?_,?_,?_,?_]
   ·have:=R0.len;rw[vXa,vWa,List.cons_append,vXa,this]
   ·grind
   ·grind
   ·intro i d e;cases i with
    |zero=>cases e
    |succ i=>
     obtain⟨v,h1,h2⟩:=R0.cl i d e;exact#[v,h1,h2.same sd]
   ·intro i d e;cases i with
    |zero=>cases e
    |succ i=>exact R0.bo i d e
   ·intro i q' o' e;cases i with
    |zero=>
     cases e;exact#[p,(λp' z=>vFa z),rfl,#[dx,[],hp,rfl,j7.nil],wNa,np]
    |succ i=>
     obtain⟨W,d',v,_,_,h3⟩:=yD I (by simp) e;cases W<;>cases h3
   ·intro i j q1 q2 o1 o2 l e e';have z:∀(i q' o'),(Sl.ow (S p) (.ins C [] [])::zI ks ds n)[i]?=S (.ow q' o')->i=0:=λi q' o' e=>by
     cases i with
     |zero=>rfl
     |succ i=>
      obtain⟨W,d',v,_,_,h3⟩:=yD I (by simp) e;cases W<;>cases h3
    intro _ _;rw[z i _ _ e,z j _ _ e']
   ·intro i qb hb e;cases i with
    |zero=>cases e
    |succ i=>
     obtain⟨W,d',v,_,_,h3⟩:=yD I (by simp) e;cases W<;>cases h3
  refine#[_,_,_,_,r,R,e1,?_];cases r with
  |nx UQ=>
   intro U' H' O' R' _;have g:(match(UQ[0]?)with
    |S (Sl.ow q o)=>if q=S p then S o else J
    |_=>J)=S o:=g
   split at g
   ·rename_i qq o' h0;split at g
    ·rename_i hq;obtain rfl:=Zj g;subst hq;obtain⟨l,hl2,_,ow,lo,_⟩:=R'.ow 0 _ _ h0;have el:=hl2 p rfl;subst el;refine q H' R'.keep (ow.same (λ_ z=>z) (JF λa T=>?_));rcases uTa T with rfl|T
     ·exact lo
     ·exact R'.sub a T
    ·exact Zn g
   ·exact Zn g
  |rt d'=>exact Zn g
  |rf o=>exact Zn g
  |bk UQ=>exact Zn g
  |ct UQ=>exact Zn g
  |xc p UQ=>exact Zn g
  |rh d UQ=>exact Zn g
end
end DS
namespace L2
noncomputable def FJ(h:Heap)(d)(es:Array DictEntry)(ep):=∃o,h.get? d=S o/\o.ExactDict/\o.data=.dict es ep
end L2
namespace DS
open L2
mutual
theorem QH(I:Inv X f z H s):∀{d k v u},jI X.K H d v->jp v u->Jc d=S k->JP s.heap k u
 |.int i,k,v,u,h,r,e=>by
  cases e;subst h;exact .inl r
 |.bl i,k,v,u,h,r,e=>by
  obtain rfl:=Zj e;subst h;exact .inr #[i,r,rfl]
 |.str i,k,v,u,h,r,e=>by
  obtain rfl:=Zj e;subst h;exact r
 |.tup l,k,v,u,h,r,e=>by
  obtain⟨b,m,j⟩:=j1 e;obtain rfl:=Zj j;obtain⟨a,c,rfl,q,o⟩:=h;subst r;obtain⟨x,n,t,_⟩:=I.tuple q;exact#[a,_,rfl,t,by simpa using WV I o n m]
 |.non,k,v,u,h,r,e=>by rw[Jc]at e<;>first|exact Zn e|(intros;contradiction)
 |.lst _,k,v,u,h,r,e=>by rw[Jc]at e<;>first|exact Zn e|(intros;contradiction)
 |.ins _ _ _,k,v,u,h,r,e=>by rw[Jc]at e<;>first|exact Zn e|(intros;contradiction)
 |.obj _ _ _ _ _,k,v,u,h,r,e=>by rw[Jc]at e<;>first|exact Zn e|(intros;contradiction)
 |.scr _,k,v,u,h,r,e=>by rw[Jc]at e<;>first|exact Zn e|(intros;contradiction)
 |.dct _ _,k,v,u,h,r,e=>by rw[Jc]at e<;>first|exact Zn e|(intros;contradiction)
 |.exn _ _,k,v,u,h,r,e=>by rw[Jc]at e<;>first|exact Zn e|(intros;contradiction)
 |.mem _,k,v,u,h,r,e=>by rw[Jc]at e<;>first|exact Zn e|(intros;contradiction)
 |.dk _ _,k,v,u,h,r,e=>by rw[Jc]at e<;>first|exact Zn e|(intros;contradiction)
theorem WV(I:Inv X f z H s):∀{l b c g},j7 X.K H l c->jl c g->ZF l=S b->ye s.heap b g
 |[],b,c,g,h,r,e=>by
  obtain rfl:=Zj e;subst h;cases r;rw[ye]
 |d::l,b,c,g,h,r,e=>by
  obtain⟨k,m,e⟩:=j1 e;obtain⟨p,j,e⟩:=j1 e;obtain rfl:=Zj e;obtain⟨v,n,rfl,y,C⟩:=h;cases r with
  |cons w A=>
   exact#[_,_,rfl,QH I y w m,WV I C A j]
end
def ZR(e:zQ d=S k):Jc d=S k/\k.dep<=8:=by
 unfold zQ at e;split at e
 ·obtain⟨c,b,a⟩:=j1 e;split at a
  ·simp_all
  ·exact Zn a
 ·exact Zn e
def WW(I:Inv X a c H s)(r:jI X.K H d (.ref b))(e:zQ d=S k):(UI X.prog X.w).is s.heap k b:=#[QH I r rfl (ZR e).1,(ZR e).2]
def Ku(a:Room k A):A.in1.units+8<cLine:=by
 have:=a.un
 lia
def Inv.big(I:Inv X a b H s):sysModules<s.heap.objs.size:=Nat.lt_trans (by decide) (show mainGlobals<s.heap.objs.size from(I.mod.glob.keeps I.bk).lt)
section
variable{K:Fr}{H:Hp}{O:L Addr}
def FK{y}(h:RB K O H c y)(e:zQ c=S k):∃b,y=.ref b/\jI K H c (.ref b):=by
 have f:=h.full;unfold zQ at e;split at e
 ·have d:=f;obtain⟨a,g,rfl,_⟩:=f;exact#[a,rfl,d]
 ·exact Zn e
end
end DS
namespace L2
end L2
end
namespace DS
open PySem L2
end DS
namespace L2
open PySem PySem.Spec PyProof.Rows
end L2
namespace DS
open PySem PySem.Spec PyProof.Rows L2
section
variable{K:Fr}
def Da:PS X s (tS K b Ja):=λ_ _ _ _ _ _ x=>by obtain⟨_,_,_,_,_,_,a,_⟩:=x;exact Zn a
end
end DS
namespace DS
open PySem PySem.Spec PyProof.Rows L2 PySem.SeqAt
end DS
namespace L2
open PySem PySem.Spec PyProof.Rows
end L2
namespace DS
open PySem PySem.Spec PyProof.Rows L2
end DS
namespace L2
open PySem PySem.Spec PyProof.Rows
end L2
namespace L2
open PySem
noncomputable def FL(f:Obj->Obj):=∀o,(f o).dict=o.dict/\(f o).isFreed=o.isFreed/\(ZY o->ZY (f o))
noncomputable def DK:Sem b->Prop
 |.pure _=>True
 |.raise _=>True
 |.unsupported _=>True
 |.finish _=>True
 |.rule _ k=>DK (k ())
 |.at _ k=>DK (k ())
 |.load _ _ k=>∀o,DK (k o)
 |.update _ _ f k=>FL f/\DK (k ())
 |.alloc _ k=>∀a,DK (k a)
 |.loadIfAlive _ k=>∀o,DK (k o)
 |.point _ k=>DK (k ())
 |.register _ _=>True
 |.fresh k=>∀t,DK (k t)
 |.ask k=>∀t,DK (k t)
 |.choose _ _ k=>∀t,DK (k t)
 |.os _ _ k=>∀t,DK (k t)
 |.call _ _ _ _ _=>False
 |.handled _ k=>∀t,DK (k t)
 |.newGen _ _=>False
 |.genState _ k=>∀t,DK (k t)
 |.resume _ _ _ _=>False
 |.yield _ _ _ _=>True
 |.stack k=>∀t,DK (k t)
 |.fork _ _=>True
 |.thread k=>∀t,DK (k t)
 |.await _ _ _ _ _=>True
def DK.bind{f:j->Sem m}(i:∀a,DK (f a)):∀{t},DK t->DK (t.bind f):=by
 intro t;induction t with
 |pure a=>exact λ_=>i a
 |raise e=>exact λ_=>trivial
 |unsupported w=>exact λ_=>trivial
 |finish e=>exact λ_=>trivial
 |rule t k b=>exact λh=>b () h
 | «at» p k b=>exact λh=>b () h
 |load a p k b=>exact λh o=>b o (h o)
 |update a p g k b=>exact λh=>#[h.1,b () h.2]
 |alloc o k b=>exact λh a=>b a (h a)
 |loadIfAlive a k b=>exact λh a=>b a (h a)
 |point l k b=>exact λh=>b () h
 |register a k b=>exact λ_=>trivial
 |fresh k b=>exact λh a=>b a (h a)
 |ask k b=>exact λh a=>b a (h a)
 |choose s n k b=>exact λh a=>b a (h a)
 |os q l k b=>exact λh a=>b a (h a)
 |call c h g l k b=>exact λh=>h.elim
 |handled o k b=>exact λh a=>b a (h a)
 |newGen c k b=>exact λh=>h.elim
 |genState g k b=>exact λh a=>b a (h a)
 |resume g r l k b=>exact λh=>h.elim
 |yield v g l k b=>exact λ_=>trivial
 |stack k b=>exact λh a=>b a (h a)
 |fork c k b=>exact λ_=>trivial
 |thread k b=>exact λh a=>b a (h a)
 |await a t d l k b=>exact λ_=>trivial
noncomputable def zC(h c:Heap):=∀b o,h.get? b=S o->∃a,c.get? b=S a/\a.dict=o.dict/\(ZY o->ZY a)
def zC.trans(a:zC m k)(b:zC k g):zC m g:=λc o e=>by
 obtain⟨p,j,l,f⟩:=a c o e;obtain⟨d,h,i,n⟩:=b c p j;exact#[d,h,i.trans l,λz=>n (f z)]
def XF.keep(a:zC h k)(x:XF h e l):XF k e l:=by
 obtain⟨j,i,c,d⟩:=x;obtain⟨m,f,g,b⟩:=a e j i;exact#[m,f,b c,λz q=>g.trans (d z q)]
def Db(h o):zC h (h.push o):=λb u e=>#[u,wIa _ e,rfl,id]
def FM(h a)(k:FL f):zC h (h.update a f):=λb u e=>by
 by_cases z:a=b
 ·subst z;refine#[f u,vUa f e ?_,(k u).1,(k u).2.2];rw[(k u).2.1];exact(Heap.get?_some_iff.mp e).2
 ·exact#[u,(wKa h f z).trans e,rfl,id]
def lW:∀(t:Sem F) (p s),DK t->Sem.wp M u t Q E p s->Sem.wp M u t (λa m i=>Q a m i/\zC s.heap i.heap) E p s:=by
 have j:∀(t p) (s x:Shared),zC x.heap s.heap->Sem.wp M u t (λa m i=>Q a m i/\zC s.heap i.heap) E p s->Sem.wp M u t (λa m i=>Q a m i/\zC x.heap i.heap) E p s:=λt p s x k h=>Sem.wp_mono M u t (λa m i z=>#[z.1,k.trans z.2]) (λ_ _ _ z=>z) p s h;intro t;induction t with
 |pure a=>exact λp s _ h=>#[h,λb o e=>#[o,e,rfl,id]]
 |raise e=>exact λp s _ h=>h
 |unsupported w=>exact λp s _ h=>h
 |finish e=>exact λp s _ h=>h
 |rule t k f=>exact λp s d h=>f () p s d h
 | «at» p k f=>exact λ_ s d h=>f () p s d h
 |load a y k f=>exact λp s d h=>by obtain⟨o,e,h⟩:=h;exact#[o,e,f o p s (d o) h]
 |update a y g k f=>exact λp s d h=>#[h.1,j (k ()) p _ s (FM s.heap a d.1) (f () p _ d.2 h.2)]
 |alloc o k f=>exact λp s d h=>j (k _) p _ s (Db s.heap o) (f _ p _ (d _) h)
 |loadIfAlive a k f=>exact λp s d h=>f _ p s (d _) h
 |point l k f=>exact λp s d h=>f () p s d h
 |register a k f=>exact λp s d h=>h
 |fresh k f=>exact λp s d h=>f _ p _ (d _) h
 |ask k f=>exact λp s d h=>f _ p s (d _) h
 |choose C n k f=>exact λp s d h=>#[h.1,f _ p _ (d _) h.2]
 |os q l k f=>exact λp s d h=>f _ p _ (d _) h
 |call c H g l k f=>exact λp s d h=>d.elim
 |handled o k f=>exact λp s d h=>f _ p s (d _) h
 |newGen c k f=>exact λp s d h=>d.elim
 |genState g k f=>exact λp s d h=>by obtain⟨A,e,h⟩:=h;exact#[A,e,f _ p s (d _) h]
 |resume g r l k f=>exact λp s d h=>d.elim
 |yield v g l k f=>exact λp s d h=>h
 |stack k f=>exact λp s d h=>f _ p s (d _) h
 |fork c k f=>exact λp s d h=>h
 |thread k f=>exact λp s d h=>f _ p s (d _) h
 |await a t d l k f=>exact λp s d h=>h
def V1(d:DK t)(h:wpAny M A t Q E s):wpAny M A t (λa c=>Q a c/\zC s.heap c.heap) E s:=λe p b=>lW t p s d (h e p b)
def zW(c:DK x)(b:∀a,DK (f a)):DK (x >>= f):=DK.bind b c
def Qp(v):DK (fieldsOf v):=by
 unfold fieldsOf
 repeat(first|exact trivial|exact dkp _|refine zW ?_ λ_=>?_|split|(intro _;exact trivial))
def uQ(v i):DK (field v i):=by
 refine zW (Qp v) λa=>?_;split<;>exact trivial
def WX(f)(h:∀a ,a[2]?=S .none->(f a)[2]?=S .none):FL (Obj.mapFields f):=λo=>by
 obtain⟨c,d,b,s⟩:=o;cases b<;>first|exact#[rfl,rfl,id]|exact#[rfl,rfl,λq=>by
  obtain⟨a,e,z⟩:=q;cases e;exact#[_,rfl,h _ z]]
def Gx(v i x)(h:i≠2):DK (setField v i x):=by
 have k:∀a:Array Value,a[2]?=S .none->(a.setIfInBounds i x)[2]?=S .none:=λa z=>by simp_all
 unfold setField;split
 ·repeat(first|exact trivial|exact dkp _|exact#[WX _ k,trivial]|refine zW ?_ λ_=>?_|split|(intro _;exact trivial))
 ·exact trivial
def GO:DK stack:=λ_=>trivial
def V2(e a):DK (setFlight e a):=by
 refine zW (uQ e 1) λb=>?_;split
 ·exact Gx _ _ _ (by decide)
 ·exact trivial
def aV(b a):DK (behindIsImport b a):=by
 unfold behindIsImport
 repeat(first|exact trivial|exact dkp _|exact uQ _ _|refine zW ?_ λ_=>?_|split)
def Dg(c b a):DK (keptBack c b a):=by
 unfold keptBack;split
 ·repeat(first|exact trivial|exact dkp _|exact GO|refine zW ?_ λ_=>?_|split)
 ·exact trivial
theorem WY:∀l ,DK (readyFrames l)
 |[]=>trivial
 |f::a=>by
  unfold readyFrames;split
  ·refine zW (λ_=>trivial) λo=>?_;split
   ·exact trivial
   ·refine zW (aV _ _) λb=>zW (Dg _ _ _) λv=>zW ?_ λ_=>WY a;exact#[λo=>#[rfl,by obtain⟨c,d,e,s⟩:=o;cases e<;>rfl,by obtain⟨c,d,e,s⟩:=o;exact id],trivial]
  ·exact trivial
def Kv(l):DK (frameObject l):=by
 unfold frameObject;split
 ·exact trivial
 ·exact zW (WY _) λ_=>trivial
def Xi(a):DK (frameOf a):=by
 refine zW (zW GO λ_=>trivial) λl=>zW (Kv _) λo=>?_;split<;>exact trivial
def bV(f b):DK (entryPlaceOf f b):=by
 refine zW GO λa=>?_;split<;>exact trivial
def bW(a b c d e l):DK (EntryCells.newEntry a b c d e l):=by
 unfold EntryCells.newEntry newFields newObj newObjAsIs
 repeat(first|exact trivial|exact dkp _|refine zW ?_ λ_=>?_|(intro _;exact trivial)|split)
def QI(e a):DK (noteFrame e a):=by
 unfold noteFrame;split
 ·refine zW (uQ e 1) λb=>?_
  repeat(first|exact trivial|exact uQ _ _|exact Gx _ _ _ (by decide)|exact Xi _|exact bV _ _|exact bW _ _ _ _ _ _|refine zW ?_ λ_=>?_|split)
 ·exact trivial
def kS(a e):DK (leaving a e):=by
 exact zW (QI e a) λ_=>V2 e J
end L2
namespace L2
open PySem PySem.Spec PyProof.Rows
def Jh.ex{h}(x:Jh P w H h a o):∃u,h.get? a=S u:=by
 cases o with
 |lst d=>obtain⟨_,_,_,_,e⟩:=x;exact#[_,e]
 |tup d=>obtain⟨_,_,_,_,e,_⟩:=x;exact#[_,e]
 |dK c i=>obtain⟨_,_,_,_,o,_,e,_⟩:=x;exact#[_,e]
 |mem K l m=>obtain⟨_,_,_,_,_,o,_,_,e,_⟩:=x;exact#[_,e]
 |dD c i=>obtain⟨_,_,_,_,_,o,_,e,_⟩:=x;exact#[_,e]
 |set b n=>obtain⟨o,_,_,_,e,_⟩:=x;exact#[_,e]
 |ins C s g=>obtain⟨_,_,_,e,_⟩:=x;exact#[_,e]
 |own y=>exact x
 |xd g=>obtain⟨_,⟨_,_,_,e,_⟩,_⟩:=x;exact#[_,e]
 |rng lo k=>obtain⟨_,_,_,e⟩:=x;exact#[_,e]
 |frz r u=>obtain⟨e,_⟩:=x;exact#[_,e]
 |tbl p=>exact#[_,(show h.get? a=S _ from x)]
 |met f y=>exact#[_,(show h.get? a=S _ from x)]
 |ext j=>obtain⟨_,e,_⟩:=x;exact e
structure Fly (P w outer H) (s:Shared) (H' e cls) (s':Shared) where
 os:s'.os=s.os
 bare:AllBare s'.gens
 un:Un (JQ outer) [] H H' s.heap s'.heap
 hok:JS P w H' s'.heap
 fly:∃By a0,Heap.FlyingW By outer e cls a0 s'.heap/\(∀b u,H' b=S u->∃o,By.get? b=S o)/\∀b o,s.heap.get? b=S o->b∉JQ outer->∃o',By.get? b=S o'
noncomputable def y8(P:Program)(w:World):Wq:=λa H s E g d=>∃e b c f,g=.ref e/\Fly P w a H s c e b d/\XF d.heap e f/\E b f c
section
variable{P:Program}{w:World}{K:uXa}{mg:Tj}{base:Heap}{N:L Str}{qual:Str}{scope:Scope}{f:Addr}{cd:Value}{A:Around}{outer:L Env}{s0:Shared}{H0:Hp}{E:XK}
def QJ{UQ}{U:St}{H i s e t F M}(I:Inv (JL (y8 P w) P w K mg base N qual scope f cd A outer s0 H0 E) UQ U H s)
  (he:s.heap.get? e=S M) (x:M.cls=F) (W:M.data=.fields #v[.ref t,.none,.none,.none,.bool G,.none]) (h0:s0.heap.get? e=J) (h1:i e=J)
  (hH:∀b,i b=H b\/(i b=J/\∃Q,H b=S (.ext Q))) (hod:∀d,od=S d->M.dict=S d) (hE:E F od i):(JL (y8 P w) P w K mg base N qual scope f cd A outer s0 H0 E).xe (.ref e) s:=by
 have p:∀b u,i b=S u->H b=S u:=λb u q=>(hH b).elim (λz=>z▸q) λz=>by rw[z.1]at q;exact Zn q
 have T:∀b u,H b=S u->(∀Q,u≠.ext Q)->i b=S u:=λb u q n=>(hH b).elim (λz=>z.trans q) λ⟨_,Q,z⟩=>vDa (vFa (q.symm.trans z)) (n Q);have fr:=I.stack;have h:∀b,b∈JQ (envOfC qual scope _ f cd::outer)->b=s0.heap.objs.size\/b∈JQ outer:=λb a=>by
  exact uTa a
 have j:∀b,b∈JQ outer->b∈JQ (envOfC qual scope s0.heap.objs.size f cd::outer):=λb a=>by exact wMa _ a
 have hL0:s0.heap.get? _=J:=Heap.get?_none_of_le (wPa _);refine wCa (V1 (Q:=λ_ s'=>∃O,s'={s with heap:=O}/\Heap.LeftW _ _ e M.cls _ s.heap O) (kS _ _) (wpAny_leaving_firstW I.ok.frames
  (PySem.W.funFrames_hide fr λenv hv b a=>wMa _ (List.mem_filterMap.mpr #[env,hv,a])) rfl he (λb o q=>PySem.W.of_hideAll _ q) (PySem.W.hideAll_none _ wNa) W rfl rfl λO z=>#[O,rfl,z])) (λ_ s' zz=>?_) (λ_ _ z=>z)
 obtain⟨⟨O,rfl,x1,⟨_,_,x2⟩,x3,x4⟩,dk⟩:=zz;have X:=λb o q n0 n1 n2=>x1 b o (PySem.W.hideAll_get _ q λz=>(uTa z).elim n0 λz=>(h b z).elim n1 n2);have ks:∀b o,b∈JQ outer->s.heap.get? b=S o->∃sl,O.get? b=S _:=λb o a q=>by
  obtain⟨_,y,R,W⟩:=fr.mem (j b a);rw[q]at R;obtain rfl:=Zj R;exact x4 b o q W
 have Up:∀b u,i b=S u->b≠e/\b≠s0.heap.objs.size/\b∉JQ outer:=λb u q=>by
  have z:=λa=>I.stkFree b a;refine#[(λn=>by rw[n,h1]at q;exact Zn q),λn=>?_,λn=>?_]
  ·have:=z (by show b∈JQ (envOfC qual scope _ f cd::outer);exact List.mem_cons.mpr (.inl n));rw[p b u q]at this;exact Zs this
  ·have:=z (j b n);rw[p b u q]at this;exact Zs this
 have u:=I.base;have l:Un _ [] H0 i s0.heap s.heap:=#[u.keep,u.slot,(λb o q n C=>(hH b).elim (λz=>z.trans (u.free b o q n C)) λz=>z.1),u.there,λb Z q=>T b _ (u.tups b Z q) (λ_ z=>nomatch z),λb o Z q=>T b _ (u.frzs b o Z q) (λ_ z=>nomatch z),λb ps q=>let⟨m,z⟩:=u.tbls b ps q;#[m,T b _ z (λ_ z=>nomatch z)]]
 have k:=λb o q=>(I.hok b o (p b o q)).stay (λ_ _ _ r=>r) (λc r=>T c _ r (λ_ z=>nomatch z)) λc u t r=>T c _ r (λ_ z=>by subst z;exact t);have g:∀b o,s0.heap.get? b=S o->b≠e/\b≠s0.heap.objs.size:=λb o q=>#[(λz=>by rw[z,h0]at q;exact Zn q),(λz=>by rw[z,hL0]at q;exact Zn q)]
 have hdk:=XF.keep dk #[M,he,#[_,W,rfl],hod];refine#[e,F,i,od,rfl,#[I.os,I.bare,#[λb o q n a C=>X b o (l.keep b o q n a C) (g b o q).1 (g b o q).2 a,λb o q n a C=>?_,l.free,λb o q C=>?_,l.tups,l.frzs,l.tbls],λb o q=>?_,#[_,_,#[x1,PySem.W.hideAll_none _ wNa,x2,x▸x3],λb o q=>?_,λb o q n=>?_]],hdk,hE]
 ·obtain⟨sl,z⟩:=l.slot b o q n a C;obtain⟨sl',z'⟩:=ks b _ a z;exact#[sl',z']
 ·obtain⟨y,z⟩:=l.there b o q C;by_cases a:b∈JQ outer
  ·obtain⟨sl,z'⟩:=ks b y a z;exact#[_,z']
  ·exact#[_,X b y z (g b o q).1 (g b o q).2 a]
 ·refine(k b o q).stay (λc v x r=>?_) (λ_ z=>z) λ_ _ _ z=>z;rcases x with rfl|x
  ·exact X c v r (Up c o q).1 (Up c o q).2.1 (Up c o q).2.2
  ·exact X c v r (Up c _ x).1 (Up c _ x).2.1 (Up c _ x).2.2
 ·obtain⟨y,z⟩:=(k b o q).ex;exact#[y,PySem.W.hideAll_get _ z λm=>(uTa m).elim (Up b o q).1 λm=>(h b m).elim (Up b o q).2.1 (Up b o q).2.2]
 ·obtain⟨y,z⟩:=l.there b o q (by simp);exact#[y,PySem.W.hideAll_get _ z λm=>(uTa m).elim (g b o q).1 λm=>(h b m).elim (g b o q).2 n]
noncomputable def Di{m:St}{H h s e t a b}(I:Inv (JL _ P w K mg base N qual scope f cd A outer s0 H0 E) c m H s)
  (j:s.heap.get? e=S b) (k) (l:b.data=.fields #v[.ref t,.none,.none,.none,.bool G,.none]) (i n)
  (g) (d:E a J h):=QJ I j k l i n g (λ_ z=>by cases z) d
end
set_option tactic.hygienic true
noncomputable def bX(K:uXa)(C:Addr)(b:L Value)(j:String)(v:Y (Y Value)):Bool:=match K.lookup C with
 |S ⟨.type "type",_,.cls a,c⟩=>(match a.mro,c.toList with
  |.ref d::e,[_,_,_,_,S (.builtin n),_]=>d==C&&n==j&&!a.hasDel&&PySem.W.tailIn K b e&&PySem.W.nsOkIn K a.ns&&PySem.W.nsIn K a.ns "__init__"== v
  |_,_=>G)
 |_=>G
theorem QK{K C r d V}(q:bX K C r d V=B):∃t N nm q bs hdct sn sub ab col dd k0 k1 k2 k3 k5,K.lookup C=S (excClassObj nm q C N bs t hdct sn sub ab col dd k0 k1 k2 k3 k5 d)/\PySem.W.nsOkIn K N=B/\PySem.W.nsIn K N "__init__" = V/\PySem.W.tailIn K r t=B:=by
 unfold bX at q;split at q
 ·rename_i z w b c;split at q
  ·rename_i UQ F p o m i O n f a;simp only[Bool.and_eq_true,beq_iff_eq,Bool.not_eq_true']at q;obtain⟨⟨⟨⟨⟨rfl,rfl⟩,y⟩,Q⟩,k⟩,M⟩:=q;obtain⟨I,s,T,t,v,H,P,R,u,g,A⟩:=w;subst f y;have e:b=#v[p,o,m,i,S (.builtin O),n]:=by obtain⟨l⟩:=b;simp only at a;rw[a]
   subst e;exact#[F,t,I,v,s,H,P,R,u,g,z,p,o,m,i,n,c,k,M,Q]
  ·exact Zf q
 ·exact Zf q
def Dj{K h j x C r d}(X:K.In h)(N:j x=S (.ref C))(q:PySem.W.excIn K C r d=B):OwnCls x C r d j h:=by
 obtain⟨F,t,I,v,s,H,P,R,u,g,z,p,o,m,i,n,c,k,M,Q⟩:=QK (V:=S J) q;exact#[N,F,t,I,v,s,H,P,R,u,g,z,p,o,m,i,n,_,X _ _ c,.of_isNs (PySem.W.isNs_of_in X k),PySem.W.nsMap_none_of_in X k M,PySem.W.tail_of_in X Q]
section
variable{P:Program}{w:World}{K:uXa}{mg:Tj}{base:Heap}{N:L Str}{qual:Str}{scope:Scope}{f:Addr}{cd:Value}{A:Around}{outer:L Env}{s0:Shared}{H0:Hp}{E:XK}
def bZ{np g F Z z j C M a d i}
  (Q:PySem.W.nsIn K mainGlobals x=S (S (.ref C))) (R:PySem.W.excIn K C M d=B) (W:ExcBaseFacts a d i M) (hg:Gl (JL (y8 P w) P w K mg base N qual scope f cd A outer s0 H0 E) x) (hd:(x==("__debug__"))=G):
  PS (JL (y8 P w) P w K mg base N qual scope f cd A outer s0 H0 E) (.Raise (S (.Call (.Name x np) [.Constant (.str z) j Z] [] g)) J F) (λ_ _ H=>E (.ref C) J H):=by
 intro n s U H D I h;have l:=PySem.W.mg_of I.mod.kin I.mod.glob Q;have O:OwnCls x C M d mg base:=Dj I.mod.kin l R;have UQ:wpAny _ _ (spliced (backTo g (starEach [.Constant (.str z) j Z] _)))
   (λm k=>m.length<=sizeLine/\(∀b o,base.get? b=S o->k.heap.get? b=S o)/\∀X e,Heap.MadeExcOf _ X e _ m->(JL _ P w K mg base N qual scope f cd A outer s0 H0 E).xe _ _)
   _ s:=
  jv ((Jx Wm Yc) g n s U H (λm H'=>m.length=1/\E _ J H') I #[rfl,h]) λus s1 ⟨m,H1,p,r,q1,q⟩=>
   #[by rw[<-r.length,q1];decide,p.bk,λX e l=>by
    obtain⟨t,he,_⟩:=l.there;refine Di (p.kept (t':=s1.toks) l.keeps) he rfl rfl ?_ ?_ (λb=>.inl rfl) q
    ·cases z:s0.heap.get? e with
     |none=>rfl
     |some o=>
      obtain⟨o',y⟩:=p.base.there e o z (by simp[JL]);rw[l.new]at y;exact Zn y
    ·cases z:H1 e with
     |none=>rfl
     |some u=>
      obtain⟨o',y⟩:=(p.hok e u z).ex;rw[l.new]at y;exact Zn y]
 have hh:=I.ok.hd rfl;obtain⟨tl,N',nm,q,bs,hdct,sn,sub,ab,col,dd,k0,k1,k2,k3,k5,mN,hC,hN,v,T⟩:=O.obj;exact wpAny_Raise_call_subT W (T.hasType W.hasBase) hh rfl v
  (zN I hg l #[rfl,Calls.evalArgs_plain (wCa UQ (λm k c=>#[rfl,c.1,c.2.1 _ _ hC,hN.keeps c.2.1,T.keeps c.2.1,c.2.2]) λ_ _ y=>y)] hd)
end
def Fly.move(I:Inv X j N H s)(F:Fly X.prog X.w X.stack H s y e O i)
  (P:c.StaysIn i.heap) (x:∀b u,y b=S u->∃o,c.get? b=S o) (A:∀b o,s.heap.get? b=S o->b∉JQ X.stack->∃f,c.get? b=S f)
  (k:c.StaysIn h) (Q:i.heap.FunFrames c X.stack) (M:i.heap.UpToSlots h):Inv X j N y {i with heap:=h,toks:=t}:=by
 have u:=F.un;have g:∀b o,i.heap.get? b=S o->(∃f,c.get? b=S f)->h.get? b=S o:=λb o q ⟨f,z⟩=>by
  have:=P b f z;rw[q]at this;obtain rfl:=Zj this;exact k b o z
 have r:∀b o,b∈JQ X.stack->i.heap.get? b=S o->∃r,h.get? b=S _:=λb o d q=>by
  obtain⟨_,f,p,C⟩:=Q.mem d;rw[q]at p;obtain rfl:=Zj p;exact M b o q C
 refine I.call' F.os #[λb o q n d m=>g b o (u.keep b o q n d m) (A b o q d),λb o q n d m=>?_,u.free,λb o q m=>?_,u.tups,u.frzs,u.tbls] ?_ F.bare λb z=>vDa z (by simp)
 ·obtain⟨l,z⟩:=u.slot b o q n d m;obtain⟨w,v⟩:=r b _ d z;exact#[w,v]
 ·obtain⟨f,z⟩:=u.there b o q m;by_cases d:b∈JQ X.stack
  ·obtain⟨w,v⟩:=r b _ d z;exact#[_,v]
  ·exact#[_,g b f z (A b o q d)]
 ·intro a o q;refine(F.hok a o q).stay (λb u d z=>g b u z ?_) (λ_ z=>z) λ_ _ _ z=>z;rcases d with d|d
  ·rw[d];exact x a o q
  ·exact x b _ d
set_option tactic.hygienic false
set_option tactic.hygienic true in
theorem Inv.gone(I:Inv X l U H s)(R:X.N.Nodup)(hi:X.N[i]?=S n)(Z:s.heap.Ns X.env.locals m)(C:O.Ns X.env.locals (λx=>if x=n then u else m x))(a:Heap.SameBut X.env.locals s.heap O):Inv X l (U.set i J) H {s with heap:=O}:=by
 obtain⟨m0,hn,hl⟩:=id I.loc;have em:m0=m:=by
  obtain⟨o,es,ep,h1,h2,_,h4⟩:=hn;obtain⟨N,es',W,h,t,_,M⟩:=Z;rw[h1]at h;obtain rfl:=Zj h;rw[h2]at t;cases t;funext x;rw[<-h4,<-M]
 subst em;have f:∀b o,X.s₀.heap.get? b=S o->b≠X.env.locals:=λb o e=>wTa (Nat.lt_of_lt_of_le (wLa e) I.ok.above);refine#[I.ok,I.os,I.bare,#[λb o e n A r=>(a.2 b (f b o e)).trans (I.base.keep b o e n A r),λb o e n A r=>?_,I.base.free,λb o e r=>?_,I.base.tups,I.base.frzs,I.base.tbls],#[_,C,λj y T g w e3=>?_],λy c e=>?_,I.free,I.freeC,λp hp=>?_,λb ob e=>?_,by rw[List.length_set];exact I.len]
 ·obtain⟨sl,g⟩:=I.base.slot b o e n A r;exact#[sl,(a.2 b (f b o e)).trans g]
 ·obtain⟨N,g⟩:=I.base.there b o e r;exact#[N,(a.2 b (f b o e)).trans g]
 ·by_cases F:j=i
  ·subst F;rw[List.getElem?_set]at w;split at w
   ·simp_all
   ·simp_all
  ·rw[List.getElem?_set_ne (Ne.symm F)]at w;obtain⟨u',r',q⟩:=hl j y T g w e3;refine#[u',r',?_];rcases q with⟨k,e⟩|⟨k,c,e,z⟩
   ·refine .inl #[k,?_];have:y≠n:=λe=>F (GE R g (e▸hi));simp[this,e]
   ·exact .inr #[k,c,e,z.sameBut a (I.cne y c e)]
 ·obtain⟨P,z⟩:=I.cell y c e;exact#[P,z.sameBut a (I.cne y c e)]
 ·obtain⟨e,n,Q,UQ,d⟩:=I.pin p hp;exact#[(a.2 p.1 Q).trans e,n,Q,UQ,d]
 ·refine(I.hok b ob e).stay (λc P v q=>(a.2 c ?_).trans q) (λ_ q=>q) λ_ _ _ q=>q;rintro rfl;rcases v with rfl|v
  ·rw[I.free]at e;exact Zn e
  ·rw[I.free]at v;exact Zn v
def VE(I:Inv X b o H s)(v:X.N.Nodup)(e:X.N[i]?=S n)(d:X.env.kindOf n=S .local)
  (h:∀p,Inv X b (o.set i J) H p->Q () p):wpAny M A (do bindName X.env n .none;unbindBehindTheSuite X.env n C) Q E s:=by
 have x:(X.env.scope.kind==.class||(X.env.scope.kind==.module&&X.env.locals != X.env.globals))=G:=by rw[I.ok.kind];rfl
 refine wAa (wpAny_bindName (vP (v:=.non) I v e (.inl d) rfl (λN l=>?_) (.inr d)));refine wpAny_onRaise ?_;obtain⟨m,t,y⟩:=id l.loc;have c:i<o.length:=by rw[I.len];exact(uSa e).1
 obtain⟨u,r,f⟩:=y i n .non e (by rw[List.getElem?_set_self c]) (.inl d);have g:m n=S u:=by
  rcases f with f|⟨k,_⟩
  ·exact f.2
  ·simp_all
 refine wpAny_unbindName_local d t g x λF w j z=>h _ ?_;have a:=l.gone v e t j z;rw[List.set_set]at a;exact a
end L2
namespace L2
open PySem PySem.Spec PyProof.Rows PySem.Builtin
open PySem.W (Looks)
structure ExC (K C) where
 ga:PySem.W.findIn K (.ref C) "__getattribute__" = S (S (.builtin "BaseException.__getattribute__"))
 gx:PySem.W.findIn K (.ref C) "__getattr__" = S J
 at':PySem.W.findIn K (.ref C) "__class__" = S (S (.builtin "object.__class__"))
 gt:PySem.W.specialIn K (.builtin "object.__class__") "__get__" = S (S (.builtin "getset_descriptor.__get__"))
 tk:PySem.W.takesIn K (.builtin "object.__class__")=S B
 ob:PySem.W.mroIn K C (.type "object")=S B
 be:PySem.W.subIn K (.ref C) (.type "BaseException")=S B
 cl:PySem.W.isClsIn K C=B
noncomputable def WZ(e C)(h:Heap):=∃o,h.get? e=S o/\o.cls=.ref C
section
variable{K:uXa}{e C:Addr}
def WZ.ty(x:WZ e C h):PySem.W.Looks M h (typeOf (.ref e)) (.ref C):=by
 obtain⟨o,a,b⟩:=x;have:=(PySem.W.Looks.ld (M:=M) (part:=J) a).andThen (f:=λo=>pure o.cls) .now;rw[b]at this;exact this
def Dk(k:ExC K C)(X:K.In h):PySem.W.Looks M h (Builtin.ObjectAttr.find (.ref e) (.ref C) "__class__") (.bind (.builtin "getset_descriptor.__get__") (.builtin "object.__class__")):=by
 have c:=PySem.W.looks_findIn (M:=M) X k.at';have L2:=PySem.W.looks_specialIn (M:=M) X k.gt;have g:=PySem.W.looks_takesIn (M:=M) X k.tk;refine c.andThen (L2.andThen ?_);intro a j i d b f;refine wAa (wAa (g a _ i d b ?_));exact wBa (wAa (wpAny_rule (wBa f)))
def FN(k:ExC K C){s}(X:K.In s.heap)(x:WZ e C s.heap)(h:R (.ok (.ret (.ref C))) s):
  codeAny (model a w) A (.call (.builtin "getset_descriptor.__get__") #[[.builtin "object.__class__",.ref e,f],[]]) R s:=by
 obtain⟨i,g,d,t,os⟩:=s;have b:=x.ty (M:=model a w);have c:=PySem.W.looks_mroIn (M:=model a w) X k.ob;refine codeAny_call_builtin PySem.W.KF.slot_gs.plain PySem.W.KF.entry_gs (PySem.W.KF.slot_gs.check _ _ _ _ _ _ _ _ PySem.W.KF.type_class (PySem.W.KF.args_gs _ _ _) ?_);unfold Builtin.«getset_descriptor.__get__» Builtin.Getset_descriptor.descrGet;rw[PySem.W.dga_obj];refine wAa (wBa ?_);unfold Builtin.Getset_descriptor.descrGetter Builtin.Getset_descriptor.descrCheckInstance Builtin.Getset_descriptor.descrNameAndClass isInstance;simp only[PySem.W.KF.owner_class];repeat(open PySem.W in lk)
 refine#[Code.quiet_builtin _ (by decide +kernel),codeAny_builtin PySem.W.KF.entry_class ?_];repeat(open PySem.W in lk)
 exact h
def lX(i:ExcAttrFacts "ValueError")(k:ExC K C){a:Program}{w:World}{A:Around}{E:Tz}{Q:Y Value->Shared->Prop}{s:Shared}(X:K.In s.heap)(x:WZ e C s.heap)(h:Q (S (.ref C)) {s with toks:=s.toks+1}):
  wpAny (model a w) A (getAttr? (.ref e) "__class__") Q E s:=by
 obtain⟨p,g,d,t,os⟩:=s;have f:=x.ty (M:=model a w);have n:=PySem.W.looks_findIn (M:=model a w) X k.ga;have L2:=PySem.W.looks_findIn (M:=model a w) X k.gx;have j:=Dk (e:=e) (M:=model a w) k X;unfold getAttr? getAttrBy? getAttrBy;refine wAa (wpAny_mkText (wAa (wpAny_attempt (wDa (wAa (f.at (wAa (n.at ?_))))))));unfold getAttrByItsOwn hookBefore;refine wAa (L2.at (wAa (wpAny_attempt (wDa ?_))));show wpAny _ _ (boundAndCalled _ _ _) _ _ _;unfold boundAndCalled;have m:=i.ga.bind (.ref e);rw[m];refine wAa (wBa (wHa (codeAny_call_builtin i.ga.plain F.entry_bexc_ga ?_)));have c:Looks (model a w) p (isInstance (.ref e) (.type "BaseException")) B:=f.andThen (PySem.W.looks_subIn (M:=model a w) X k.be);have u:builtinKind "BaseException.__getattribute__" = S .slot:=by decide +kernel
 have b:splitId "BaseException.__getattribute__" = S ("BaseException","__getattribute__"):=by decide +kernel
 simp only[checkBuiltinCall,u,b];refine wAa (c.at ?_)
 repeat(first|assumption|wp_step)
 have l:=x;obtain⟨o,r,v⟩:=l;refine wpAny_loadPart_at r (wBa ?_);rw[v];refine wAa (j.at ?_);unfold ObjectAttr.bindTo;refine wAa (wDa (wHa (FN k X x ?_)));exact wBa (PySem.W.handed_on rfl (wBa h))
set_option tactic.hygienic true in
theorem FO(k:ExC K C):PySem.W.KitX K (.ref e) (.ref C) (WZ e C) where
 ty:=λM h _ x=>x.ty
 it:=λM h X _=>by
  have z:=k.cl;unfold PySem.W.isClsIn PySem.W.clsIn at z;split at z
  ·rename_i b;intro g i j l c f;exact wAa (wpAny_loadPart (c _ _ (X _ _ b)) (wBa f))
  ·exact Zf z
 ne:=λh o m d n p X a=>by
  have z:=k.cl;refine Bool.eq_false_iff.mpr λq=>?_;have e:=Value.ref.inj (beq_iff_eq.mp q);subst e;unfold PySem.W.isClsIn PySem.W.clsIn at z;split at z
  ·rename_i b;have y:=(X _ _ b).symm.trans a;cases y
  ·exact Zf z
 ca:=λX x h=>lX F.excAttr_ValueError k X x h
end
end L2
namespace L2
open PySem PySem.Spec PyProof.Rows
noncomputable abbrev Cx.sui(X:Cx)(e:Addr):={X with A:=X.A.mark (S (.ref e)),calm:=G,xe:=λ_ _=>False}
def Inv.sui(I:Inv X a b H s):Inv (X.sui e) a b H s:=
 #[#[I.ok.mod,I.ok.kind,I.ok.glob,I.ok.blt,I.ok.above,I.ok.inj,I.ok.has,I.ok.cab,(λz=>nomatch z),I.ok.frames,I.ok.stk,I.ok.exf,I.ok.bs,I.ok.bsz,I.ok.noex,I.ok.exfs,I.ok.funs,I.ok.frf],I.os,I.bare,I.base,I.loc,I.cell,I.free,I.freeC,I.pin,I.hok,I.len]
def Inv.unsui(I:Inv (X.sui e) a b H s)(c:X.calm=B->X.A.handled=J):Inv X a b H s:=
 #[#[I.ok.mod,I.ok.kind,I.ok.glob,I.ok.blt,I.ok.above,I.ok.inj,I.ok.has,I.ok.cab,c,I.ok.frames,I.ok.stk,I.ok.exf,I.ok.bs,I.ok.bsz,I.ok.noex,I.ok.exfs,I.ok.funs,I.ok.frf],I.os,I.bare,I.base,I.loc,I.cell,I.free,I.freeC,I.pin,I.hok,I.len]
noncomputable def m7(X)(b:Tq)(k:St)(i:XK)(j:Value)(d:Shared):=
 ∃h c e a g f,j=.ref e/\Inv X b k h c/\Fly X.prog X.w X.stack h c g e a d/\XF d.heap e f/\i a f g
noncomputable abbrev aW:=St->Hp->XK->Prop
noncomputable def Cn(X)(e:L Stmt)(d:aW):=∀(a s) (b:St) (H c),Inv X a b H s->d b H c->wpAny (model X.prog X.w) X.A (execs e X.env) (λ_ _=>False) (m7 X a b c) s
noncomputable def FP(X)(e:Expr)(d:aW):=∀(a s) (b:St) (H c),Inv X a b H s->d b H c->wpAny (model X.prog X.w) X.A (eval e X.env) (λ_ _=>False) (m7 X a b c) s
def FQ(h:FP X e d)(g:swapsWith e (S (.Name x a)) c.line X.env=pure G):Cn X [.Assign [.Name x a] e c] d:=
 λb s i H f I q=>wpAny_execs_cons (wpAny_Assign_Name (jv (h b s i H f I q) λ_ _ z=>False.elim z) g)
noncomputable def FR(c:Sp)(t:TA):aW:=λa H d=>t a H λe b=>c e b (λ_ _=>False) d
theorem Dl(F:FnOk X.prog X.w X.K X.mg X.base (y8 X.prog X.w) k f fd y sp)(N:Room k X.A)(hg:Gl X g)(Q:X.mg g=S (.ref f))(hk:PySem.W.keepIn X.K (.ref f)=B)(O:Jo X.K fd y [])
  (W:PA X.nox (n::d) t) (m:(g==("__debug__"))=G) (he:starEach (n::d) X.env=(G,eval n X.env)::starEach d X.env) (u:(backTo b (starEach d X.env)).any (·.1)=G):FP X (.Call (.Name g p) (n::d) [] b) (FR sp t):=by
 intro c s Z H Er I h;refine wpAny_Call_Name_kw (zN I hg Q ?_ m);refine PySem.W.callWith_K I.ok.mod.kin hk (wCa (W b c s Z H _ (I.wish _) h) (λx o R=>?_) λ_ _ z=>False.elim z) he u;obtain⟨T,A,a,r,q⟩:=R;refine#[a.unwish.kIn,?_]
 replace a:=a.unwish
 have C:=r.append .nil;have w:=q;rw[<-uFa T]at w;have hl:(x++[]).length=y.length:=by rw[<-C.length];exact F.len _ _ _ _ w
 refine wHa (codeAny_mono (F.run X.A X.stack o A _ _ _ _ _ N a.env0 (O o x a.kIn hl) C w) λr s' j=>?_);cases r with
 |ok fl=>
  cases fl with
  |ret v=>obtain⟨_,_,_,_,_,_,_,z⟩:=j;exact z.elim
  |_=>exact False.elim j
 |error ev=>
  obtain⟨e,l,H',UQ,rfl,P,i,M⟩:=j;exact#[A,o,e,l,H',UQ,rfl,a,P,i,M]
structure Land (X pins) (U:St) (H' e cls od) (s:Shared) where
 fl:∃By a0,Heap.FlyingW By (X.env::X.outer) e cls a0 s.heap/\(∀h,By.StaysIn h->s.heap.UpToSlots h->Inv X pins U H' {s with heap:=h})/\∀h o,By.StaysIn h->s.heap.UpToSlots h->Jh X.prog X.w (upd H' e o) h e o->Inv X pins U (upd H' e o) {s with heap:=h}
 dd:XF s.heap e od
noncomputable abbrev TH:=Value->Y Addr->Addr->TS
noncomputable def PH(X)(g:L ExceptHandler)(t:TH):=∀(a c d e b f s D),Land X a c d e b f s->t b f e D c d->wpAny (model X.prog X.w) X.A (handleBy (.ref e) X.env g) (SP X a D) X.xe s
def Fly.moveT(I:Inv X x U H s)(F:Fly X.prog X.w X.stack H s r e P v)
  (hB:d.StaysIn v.heap) (UQ:∀b u,r b=S u->∃o,d.get? b=S o) (O:∀b o,s.heap.get? b=S o->b∉JQ X.stack->∃i,d.get? b=S i)
  (k:d.StaysIn h) (R:v.heap.FunFrames d X.stack) (up:v.heap.UpToSlots h) (Q:r a=J) (Z:s.heap.get? a=J) (hH:H a=J) (ok:Jh X.prog X.w (upd r a o) h a o):Inv X x U (upd r a o) {v with heap:=h,toks:=t}:=by
 have u:=F.un;have j:∀b o,v.heap.get? b=S o->(∃i,d.get? b=S i)->h.get? b=S o:=λb o q T=>by
  obtain⟨i,z⟩:=T;have:=hB b i z;rw[q]at this;obtain rfl:=Zj this;exact k b o z
 have C:∀b o,b∈JQ X.stack->v.heap.get? b=S o->∃C,h.get? b=S _:=λb o f q=>by
  obtain⟨_,i,w,hd⟩:=R.mem f;rw[q]at w;obtain rfl:=Zj w;exact up b o q hd
 have g:∀b u,r b=S u->upd r a o b=S u:=λb u q=>by rw[ja (jy q Q)];exact q
 refine I.call' F.os #[λb o q n f p=>j b o (u.keep b o q n f p) (O b o q f),λb o q n f p=>?_,λb o q n p=>?_,λb o q p=>?_,λb A q=>g _ _ (u.tups b A q),λb o A q=>g _ _ (u.frzs b o A q),λb W q=>?_] ?_ F.bare λb z=>vDa z (by simp)
 ·obtain⟨l,z⟩:=u.slot b o q n f p;obtain⟨N,M⟩:=C b _ f z;exact#[N,M]
 ·rw[ja (λz=>by rw[z,Z]at q;exact Zn q)];exact u.free b o q n p
 ·obtain⟨i,z⟩:=u.there b o q p;by_cases f:b∈JQ X.stack
  ·obtain⟨N,M⟩:=C b _ f z;exact#[_,M]
  ·exact#[_,j b i z (O b o q f)]
 ·obtain⟨m,z⟩:=u.tbls b W q;exact#[m,g _ _ z]
 ·intro b i q;by_cases z:b=a
  ·subst z;rw[jj]at q;obtain rfl:=Zj q;exact ok
  ·rw[ja z]at q;refine(F.hok b i q).stay (λc u f y=>j c u y ?_) (λc y=>g _ _ y) λc A _ y=>g _ _ y;rcases f with f|f
   ·simp_all
   ·exact UQ c _ f
section
variable{P:Program}{w:World}{K:uXa}{mg:Tj}{base:Heap}{N:L Str}{qual:Str}{scope:Scope}{f:Addr}{cd:Value}{A:Around}{outer:L Env}{s0:Shared}{H0:Hp}{E:XK}
def FT:yQ (y8 P w) (JL (y8 P w) P w K mg base N qual scope f cd A outer s0 H0 E) E:=by
 rintro C U H s _ t I ⟨e,M,H',od,rfl,x,R,hE⟩;obtain⟨c,a0,r,Q,c2⟩:=x.fly;have d:Inv (JL (y8 P w) P w K mg base N qual scope f cd A outer s0 H0 E) C U H' t:=by
  have:=x.move (t:=t.toks) I r.1 Q c2 r.1 r.2.2.1 (λb o q _=>#[_,q]);exact this
 have X:s0.heap.get? _=J:=Heap.get?_none_of_le (wPa _);have T:∀b o,s0.heap.get? b=S o->b≠s0.heap.objs.size:=λb o q z=>by rw[z,X]at q;exact Zn q
 have F:∀b,b∈JQ (envOfC qual scope _ f cd::outer)->b=s0.heap.objs.size\/b∈JQ outer:=λb g=>by
  exact uTa g
 have k:∀b o,s0.heap.get? b=S o->b∉JQ outer->∃h,c.get? b=S h:=λb o q n=>by
  obtain⟨h,z⟩:=I.base.there b o q (by simp[JL]);exact c2 b h z λm=>(F b m).elim (T b o q) n
 refine wCa (V1 (Q:=λ_ s2=>∃j,s2={t with heap:=j}/\Heap.FlyingW c outer e M a0 j/\t.heap.UpToSlots j) (kS _ _) (wpAny_leaves_onW d.ok.frames rfl r λj i W=>#[j,rfl,i,W])) (λ_ s2 zz=>?_) (λ_ _ z=>z);obtain⟨⟨j,rfl,i,W⟩,dk⟩:=zz;have Z:=XF.keep dk R;have p:∀b o,t.heap.get? b=S o->(∃h,c.get? b=S h)->j.get? b=S o:=λb o q ⟨h,z⟩=>by
  have:=r.1 b h z;rw[q]at this;obtain rfl:=Zj this;exact i.1 b o z
 have O:∀b o,b∈JQ outer->t.heap.get? b=S o->∃O,j.get? b=S _:=λb o g q=>by
  obtain⟨_,h,v,hd⟩:=r.2.2.1.mem (by show b∈JQ (envOfC qual scope _ f cd::outer);exact wMa _ g);rw[q]at v;obtain rfl:=Zj v;exact W b o q hd
 have u:=d.base;refine#[e,M,H',od,rfl,#[x.os.trans I.os,x.bare,#[λb o q n g y=>p b o (u.keep b o q n g y) (k b o q g),λb o q n g y=>?_,u.free,λb o q y=>?_,u.tups,u.frzs,u.tbls],?_,#[c,a0,i,Q,k]],Z,hE]
 ·obtain⟨l,z⟩:=u.slot b o q n g y;obtain⟨l',UQ⟩:=O b _ g z;exact#[l',UQ]
 ·obtain⟨h,z⟩:=u.there b o q y;by_cases g:b∈JQ outer
  ·obtain⟨l',UQ⟩:=O b _ g z;exact#[_,UQ]
  ·exact#[_,p b h z (k b o q g)]
 ·intro a o q;refine(x.hok a o q).stay (λb u g z=>p b u z ?_) (λ_ z=>z) λ_ _ _ z=>z;rcases g with g|g
  ·simp_all
  ·exact Q b _ g
end
noncomputable def FU(d:aW)(f:TH):TS:=λD b H=>d b H λa g c=>∀e,c e=J->f a g e D b c
def FV(UQ:Cn X bd tb)(hh:PH X (w::hs) th)(n:X.stack=X.env::X.outer)(W:X.env.frame=S X.env.locals):PS X (.Try bd (w::hs) [] [] tpos) (FU tb th):=by
 intro l s U H D I h;refine wpAny_Try_except (wCa (UQ l s U H _ I h) (λ_ _ z=>False.elim z) λev u hq=>?_);obtain⟨H1,s1,e,m,H',od,rfl,T,Fl,hdd,hE⟩:=hq;obtain⟨a,Z,F,P,C⟩:=Fl.fly;have g:=F;rw[n]at F;refine wCa (V1 (Q:=λ_ A=>∃R,A={u with heap:=R}/\Heap.HeldW a _ e m Z _ R/\u.heap.UpToSlots R) (QI _ _) (wpAny_looks_onW (I.ok.frames.trans (by rw[n])) W F λi b d=>#[i,rfl,b,d])) (λ_ A zz=>?_) (λ_ _ z=>z);obtain⟨⟨i,rfl,b,d⟩,Q⟩:=zz;refine wCa (V1 (Q:=λ_ A=>∃h5,A={u with heap:=h5}/\Heap.FlyingW a _ e m Z h5/\i.UpToSlots h5) (V2 _ _) (wpAny_landsW b λj c f=>#[j,rfl,c,f])) (λ_ A zz=>?_) (λ_ _ z=>z);obtain⟨⟨j,rfl,c,f⟩,O⟩:=zz;have x:=d.trans f;have t:H' e=J:=by
  cases z:H' e with
  |none=>rfl
  |some v=>obtain⟨o,y⟩:=P e v z;rw[g.2.1]at y;exact Zn y
 obtain⟨oe,ws,N,hoec,p,hoe0⟩:=c.first;have nfr:e∉JQ X.stack:=λz=>by
  obtain⟨_,o,ho,hd⟩:=c.2.2.1.mem (by rw[n]at z;exact z);rw[N]at ho;obtain rfl:=Zj ho;exact hd _ p
 have r:s1.heap.get? e=J:=by
  cases z:s1.heap.get? e with
  |none=>rfl
  |some o=>obtain⟨o',y⟩:=C e o z nfr;rw[g.2.1]at y;exact Zn y
 have M:H1 e=J:=by
  cases z:H1 e with
  |none=>rfl
  |some v=>obtain⟨o,y⟩:=(T.hok e v z).ex;rw[r]at y;exact Zn y
 refine hh l U H' e m od _ D #[#[a,Z,c,λh k up=>?_,λh o k up ok=>?_],XF.keep (Q.trans O) hdd] (hE e t)
 ·have:=Fly.move (t:=u.toks) T Fl g.1 P C k g.2.2.1 (x.trans up);exact this
 ·have:=Fly.moveT (t:=u.toks) T Fl g.1 P C k g.2.2.1 (x.trans up) t r M ok;exact this
def Dm(c:Jb X.nox i t):PS X (.Try i (e::j) [] [] d) t:=by
 intro b s g H D I h;refine wpAny_Try_except (wCa (c b s g H D (I.wish _) h) (λf k a=>?_) λ_ _ z=>False.elim z);have a:=a.unwish;cases f with
 |next=>exact wpAny_execs_nil a
 |brk=>exact a
 |cont=>exact a
 |ret v=>exact a
def lY{st d c}(e:PS X st d)(f:PS X st c):PS X st (λD b H=>d D b H\/c D b H):=
 λa s b H D I h=>h.elim (e a s b H D I) (f a s b H D I)
def Dp(h:Heap):h.UpToSlots h:=λb o q _=>#[_,q]
noncomputable def N6(K:uXa)(h:Addr)(i:Nat)(u:Addr->TS)(j:TH):TH:=λc g e D f H=>∃b,PySem.W.exmOne K c (.ref h)=S b/\if b=B then∃C,c=.ref C/\
  u e {nx:=λa d=>D.nx (a.set i J) d,rt:=D.rt,bk:=λa d=>D.bk (a.set i J) d,ct:=λa d=>D.ct (a.set i J) d} (f.set i (S (.ref e))) (upd H e (xC e C g))else j c g e D f H
def lZ(k:X.N.Nodup)(N:X.N[i]?=S n)(j:X.env.kindOf n=S .local)(UQ:Gl X x)(hmx:X.mg x=S (.ref Dc))(Q:(x==("__debug__"))=G)(hu:∀e,Jb (X.sui e) (M::su) (u e))(hr:PH X F th):PH X (.ExceptHandler (S (.Name x np)) (S n) (M::su) hpos::F) (N6 X.K Dc i u th):=by
 intro p U H' e I od s D c hq;obtain⟨b,hmt,O⟩:=hq;obtain⟨d,a0,h,mv,mvT⟩:=c.fl;have I5:=mv s.heap h.1 (Dp _);obtain⟨oe,ws,T,H,hoed,hoe0⟩:=h.first;refine wpAny_handleBy_cons (codeAny_handlers_test (zN I5.sui UQ hmx ?_ Q)) (by intro q;cases q);have LT:PySem.W.Looks (model X.prog X.w) s.heap (typeOf (.ref e)) I:=by
  have:=(PySem.W.Looks.ld (M:=model X.prog X.w) (part:=J) T).andThen (f:=λo=>pure o.cls) .now;rw[H]at this;exact this
 refine(PySem.W.exm_one I5.kIn LT hmt).here ?_;cases b with
 |false=>exact hr p U H' e I od s D c O
 |true=>
  obtain⟨C,rfl,O⟩:=O;refine codeAny_handlers_suite_as ?_;refine wCa (V1 (Q:=λ_ s2=>∃h6,s2={s with heap:=h6}/\Heap.FlyingW d _ e _ a0 h6/\s.heap.UpToSlots h6) (V2 _ _) (lands_againW h λl f g=>#[l,rfl,f,g])) (λ_ s2 zz=>?_) (λ_ _ z=>z);obtain⟨⟨l,rfl,f,g⟩,Z⟩:=zz;obtain⟨oe6,ws6,m,w,t,_⟩:=f.first;obtain⟨o2,z2,W,y⟩:=XF.keep Z c.dd;rw[m]at z2;obtain rfl:=Zj z2;have J6:=(mvT l _ f.1 g (cY m w (by unfold PySem.W.notCls;rw[t]) y W)).sui (e:=e);refine vP (X:=X.sui e) (v:=.ref e) J6 k N (.inl j) rfl (λs7 J7=>?_) (.inr j);refine wCa (hu e p s7 _ _ _ J7 O) (λfw s8 F=>?_) (λ_ _ z=>False.elim z);have P:=I5.ok.hd;cases fw with
  |next=>obtain⟨A,R,a,z⟩:=F;exact VE (a.unsui P) k N j λs' r=>#[_,_,r,z]
  |brk=>obtain⟨A,R,a,z⟩:=F;exact VE (a.unsui P) k N j λs' r=>#[_,_,r,z]
  |cont=>obtain⟨A,R,a,z⟩:=F;exact VE (a.unsui P) k N j λs' r=>#[_,_,r,z]
  |ret v=>obtain⟨v',A,R,a,rv,z⟩:=F;exact VE (a.unsui P) k N j λs' r=>#[v',_,_,r,rv,z]
noncomputable def MM(K:uXa):L V->Hp->VK->Prop:=λf c Q=>∃e C g a b d,f=[.ref e,d]/\(∀u,jp d u->u=a)/\c e=S (xC e C g)/\ExC K C/\PySem.W.kitOne K (.ref C) a=S b/\Q (.bl b) c
def b_:YV X (.builtin "isinstance") (MM X.K):=by
 intro a s x H u v Q I r h;obtain⟨e,C,y,w,b,d,rfl,f,c,k,o,q⟩:=h;cases r with
 |cons i n=>
  cases n with
  |cons p g=>
   cases g;subst i;cases f _ p;obtain⟨⟨l,m,j,_⟩,_⟩:=I.hok e _ c;exact PySem.W.kia_one (FO k) I.kIn #[l,m,j] o (by intro z;cases z) λt=>#[.bl b,H,I.tok t,rfl,q]
structure SoftAt (X:Cx) (e o) where
 h:X.A.handled=S (.ref e)
 s:X.s₀.heap.get? e=S o
 n:X.H₀ e=J
 f:e∉X.fs
 x:e∉X.ex
 c:ZY o
noncomputable def UY(X):=∃e o,SoftAt X e o
section
variable{X:Cx}{pins:Tq}{U:St}{H:Hp}{s s3:Shared}{e:Addr}{o:Obj}
def SoftAt.get(a:SoftAt X e o)(I:Inv X pins U H s):s.heap.get? e=S o/\H e=J:=#[I.base.keep e o a.s a.n a.f a.x,I.base.free e o a.s a.n a.x]
def SoftAt.comp(a:SoftAt X e o)(I:Inv X pins U H s3)(f:∀b∈d,b<s3.heap.objs.size/\JE X pins H b):SoftAt (X.comp g scope s3 H d) e o:=by
 have h:=wLa a.s;refine#[a.h,(a.get I).1,(a.get I).2,λz=>?_,λz=>?_,a.c]
 ·rcases uTa (I.stkSub e z)with z|z
  ·have:=I.ok.above;rw[<-z]at this;lia
  ·exact a.f z
 ·rcases(f e z).2.2.2.2.1 with z|z
  ·exact a.x z
  ·lia
def wY:entryFor table "proto.unchain" = S Builtin.«proto.unchain»:=entryFor_of_fast (by kernel_rfl)
def B1(b:s.heap.get? e=S o)(d:ZY o)(g:Q .none s):wpAny (model a w) A (runValue (.builtin "proto.unchain" #[[v,.ref e,.ref e,.bool G],[]])) Q E s:=by
 obtain⟨h,f,c⟩:=d;refine wpAny_runValue (codeAny_builtin wY ?_);refine wAa (wpAny_field b f c ?_);exact wBa g
def Xj(i:A.handled=S (.ref e))(h:s.heap.get? e=S o)(j:ZY o)(b:a≠e)(d:s.heap.get? a=S n)(k:n.data=.fields c)(m:2<c.size)
  (g:E (.ref a) {s with heap:=s.heap.update a (Obj.mapFields λc=>c.setIfInBounds 2 (.ref e))}):wpAny (model f w) A (raiseNew (.ref a)) Q E s:=by
 refine wAa (wpAny_handled ?_);rw[i];have l:(Value.ref e != Value.ref a)=B:=by simpa using λz=>b z.symm
 dsimp only;rw[if_pos l];refine wAa (wDa (B1 h j ?_));refine wAa (wAa (wpAny_load d ?_));rw[k];dsimp only;rw[if_pos m];exact wpAny_update d (wpAny_throw g)
def wZ(W:A.handled=S (.ref e))(F:s.heap.get? e=S o)(M:ZY o)
  (g:s.heap.IsListIter n l i) (hl:s.heap.IsList l f) (hx:f[i]?=J) (hQ:∀O,Heap.ExtBut n s.heap O->Q J {s with heap:=O}):wpAny (model d w) A (pyNext (.ref n)) Q E s:=by
 obtain⟨oi,a,Z,c⟩:=id g;obtain⟨ol,t,_,nl,y⟩:=hl;have ne:n≠e:=λz=>by
  obtain⟨m,N,c2⟩:=M;rw[z,F]at a;obtain rfl:=Zj a;rw[c]at N;cases N;exact Zn c2
 refine wAa (wpAny_attempt (wpAny_callSpecial?_slot g.typeIs slot_listiter_next (wpAny_call_entry slot_listiter_next g.typeIs entry_listiter_next ?_ (args_listiter_next _))));show wpAny _ _ (field _ 0 >>= _) _ _ s;refine wAa (wpAny_field a c rfl ?_);have nn:¬((Value.ref l==Value.none)=B):=vNa;refine wAa (wpAny_field a c rfl ?_);refine wAa (wpAny_seqItems t y ?_);simp only[Int.toNat_natCast,hx];refine wAa (wpAny_rule (wAa (wpAny_setField a c (by simp) ?_)));refine wAa ?_;refine wAa (vTa ?_ (by size_fits));refine wAa (wpAny_of_eq rfl (vTa ?_ (by size_fits)));have r:∀{UQ} (T:UQ->Shared->Prop) (j:Heap),(∀b u,b≠n->s.heap.get? b=S u->j.get? b=S u)->∀(h m),h.data=.fields m->h.cls=.type "StopIteration" ->2<m.size->
   wpAny (model d w) A.in1 _ T (λx s'=>wpAny (model d w) A (do
    let b<-isInstance x _
    if b=B then pure _ else throw x) Q E s') {s with heap:=j.push h}:=λT j k h m C p hz=>by
  have R:=k e o (λz=>ne z.symm) F;have nf:=Obj.isFreed_of_fields C;have P:(j.push h).get? _=S h:=Heap.get?_push_at rfl nf;refine Xj W (wIa _ R) M (λz=>by have:=wLa R;lia) P C hz ?_;refine wAa (wpAny_isInstance #[_,vUa _ P (Obj.isFreed_of_fields (Obj.data_mapFields C _)),(Obj.cls_mapFields ..).trans p] isSubtype_stop ?_);refine wBa (hQ _ λb u v q=>?_);have I:=k b u v q;have nz:j.objs.size≠b:=λz=>by have:=wLa I;lia
  exact(wKa _ _ nz).trans (wIa _ I)
 exact r _ _ (λb u v q=>wIa _ ((wKa _ _ v.symm).trans q)) _ _ rfl rfl (show 2<6 by decide)
def Xk(f:SoftAt X e o)(a k):TurnX X tg (ar X.K a) [k] k (λi h=>h.IsListIter k a i) where
 item:=by
  intro i pins s U H E I m st C;obtain⟨T,x,l,z⟩:=C;obtain⟨v,r,p,M⟩:=I.list l;obtain⟨u,UQ,W⟩:=r.get z;obtain⟨n,A,Q,t,y,w⟩:=m k (by simp);refine wpAny_pyNext_list_item st p.isList (by simpa using UQ) λP j F=>?_;have O:=I.turned (t':=s.toks) (λb o g e=>(F.2 b g).trans e) n A t y w;obtain⟨o,e,c,d⟩:=id j;exact#[u,rfl,kv e c d rfl #[x,H,O,W,#[rfl,λys N=>by rw[I.list_inj N l];exact z],j,λb g=>(m b g).1]]
 done:=by
  intro i pins s U H E I m st C;obtain⟨T,l,z⟩:=C;obtain⟨v,r,p,M⟩:=I.list l;obtain⟨n,A,Q,t,y,w⟩:=m k (by simp);have Z:=r.length;exact wZ f.h (f.get I).1 f.c st p.isList (by simp;lia) λP R=>#[rfl,I.turned (λb o g e=>R b o g e) n A t y w]
noncomputable def FW(X)(l f:Expr)(p:TI):=
 ∀(pins s) (U:St) (H R),Inv X pins U H s->p U H R->
  wpAny (model X.prog X.w) X.A (eval f X.env) (λv r=>wpAny (model X.prog X.w) X.A (pyIter v) (λi m=>∃(h:Addr) (k:L _) (j:Nat->Heap->Prop) (a:It) (d:Hp),i=.ref h/\Inv X pins U d m/\Turn X.prog X.w X.K l a k h j/\j 0 m.heap/\(∀b∈k,JE X pins d b)/\R a d/\
   ∀n c s3 g,Inv X pins U d s3->(∀b∈g,b<s3.heap.objs.size/\JE X pins d b)->TurnX (X.comp n c s3 d g) l a k h j) X.xe r) X.xe s
def B2(c:SoftAt X e o)(r:PE X l y):FW X O l (IK X.K y):=by
 intro pins s U H R I h;refine jv (r _ s U H _ I h) λv i z=>?_;obtain⟨x,k,d,j,a,u,⟨F,t⟩,q⟩:=z;subst u;subst j;obtain⟨m,C,p,M⟩:=d.list t;refine wpAny_pyIter_list p.isList ?_;refine#[_,_,_,_,k,rfl,d.kept λb o e=>wIa _ e,wc a _,#[_,wJa _ rfl,rfl,rfl],λb n=>?_,q,λN f s3 g w A=>Xk (c.comp w A) a _];have e:b=i.heap.objs.size:=by simpa using n
 subst e;exact d.fpOk (wPa _) (d.hok.fresh (wPa _))
def FX(j f)(a:CScope X d)(n:Caps X d f)(M:FW X v k z)
  (hg:∀s3 l i,PG (X.comp (cN j f) d s3 l i) v g) (ht:∀s3 l i,ZX (X.comp (cN j f) d s3 l i) r O) (he:∀s3 l i,PE (X.comp (cN j f) d s3 l i) t P)
  (N:∀x,foldedSetIterable k X.env x=pure x):PE X (.ListComp t [#[v,k,r,0]] d pos) (cP j f z g O P):=by
 intro pins s U H Q I h;refine wpAny_comprehension_free rfl N (Km λy hy e=>I.ok.has _ (a.f y hy e)) a.kind a.l (jv (M _ s U H _ I h) λxv s1 h1=>jv h1 λitv s2 h2=>?_);obtain⟨it,fp,tn,c,H2,e,F,T,st,u,w,TX⟩:=h2;subst e;refine Kn a n (λs3 i I3 hf=>TX _ _ s3 _ I3 hf) hg ht he F T st u w ?_;intro D C s' R m Z hn p q;refine#[m,hn,λh' sb=>#[.ref D,R,?_,rfl,q]];obtain⟨f0,f1,u,A,f4,UQ⟩:=p;exact Z.turned (λb o W e=>(sb.2 b W).trans e) f0 f1 A f4 UQ
end
section
variable{P:Program}{w:World}{K:uXa}{mg:Tj}{base:Heap}
noncomputable abbrev VF(P:Program)(w:World)(K:uXa)(mg:Tj)(base:Heap)(N:L _)(c:Str)(b:Scope)(f:Addr)(d:Value)(A:Around)(a:L _)(s:Shared)(H):={JL yG P w K mg base N c b f d A a s H E0 with calm:=G,xe:=λ_ _=>False}
structure FnS (P w K mg base f fd) (ps:L _) (sp:Sp) where
 len:∀vs H Q E,sp vs H Q E->vs.length=ps.length
 run:∀(A outer s H args us vs Q e o),A.depth<recursionLimit->A.handled=S (.ref e)->s.heap.get? e=S o->ZY o->H e=J->e∉JQ outer->Env0 P w K mg base A outer s H->BindsTo s fd args (ps.zip us)->jl vs us->sp vs H Q E0->
  codeAny (model P w) A (.call (.ref f) args) (CR yG outer P w H s Q E0) s
theorem Dq{n h k m d dV kV O pm j ct oc an od}
  {osl N W sp} (lk:K.lookup f=S #[oc,od,.func (PySem.W.fnOf n h k m d dV kV O pm an j ct),osl]) (X:PySem.W.codeIn K j h=B) (a:FnScope N W d)
  (M:∀C H Q E,sp C H Q E->C.length=W.length)
  (F:∀(A i s H C Q),UY (VF P w K mg base N h d f j A i s H)->sp C H Q E0->
   ∃t,Jb (VF P w K mg base N h d f j A i s H) m t/\t {nx:=λ_ R=>Q .non R,rt:=Q} (YW N C) H):
  FnS P w K mg base f (PySem.W.fnOf n h k m d dV kV O pm an j ct) W sp:=by
 refine#[M,λA i s H args us C Q e o hdp hh ho hc0 hHe hne l hb r T=>?_];have hl:=M _ _ _ _ T;have KX:=l.mod.kin.keeps λb o e=>(l.bs b o e).1;have Z:=l.mod.nolimit.keeps λb o e=>(l.bs b o e).1;have p:∀y∈W.zip us,d.names.lookup _=S _\/(d.names.lookup _=S _/\((cellsFrom (s.heap.objs.size+1) _ []).lookup _).isSome=B):=λy hy=>by
  rcases a.par _ (List.of_mem_zip hy).1 with q|q
  ·exact .inl q
  ·exact .inr #[q,PySem.W.cellsFrom_some _ _ _ (.inl q)]
 refine codeAny_call_function hdp (KX _ _ lk) rfl a.co a.gen rfl (PySem.W.codeRec_of KX X) (hb _ _ _ _ ?_);refine wpAny_newFunctionEnv_cells a.kind p λenv he s1 x=>?_;subst he;refine#[Z.keeps x.toInCall.keep,codeAny_func ?_];have sf:UY (VF P w K mg base N h d f j A _ s H):=#[e,o,hh,ho,hHe,hne,(λz=>by cases z),hc0]
 obtain⟨t,ht,hq⟩:=F A _ s H C Q sf T;have e0':Env0 P w K mg _ {A with handled:=J} _ s H:=#[l.frames,l.mod,l.bs,l.bsz,l.funs,l.frf,l.hok,l.bare]
 have g:=wl (CX:=yG) (E:=E0) a rfl e0' hl r x;have I:Inv (VF P w K mg _ N h _ f j A i s H) [] _ H s1:=
  #[#[g.ok.mod,g.ok.kind,g.ok.glob,g.ok.blt,g.ok.above,g.ok.inj,g.ok.has,g.ok.cab,(λz=>nomatch z),g.ok.frames,g.ok.stk,g.ok.exf,g.ok.bs,g.ok.bsz,g.ok.noex,g.ok.exfs,g.ok.funs,g.ok.frf],g.os,g.bare,g.base,g.loc,g.cell,g.free,g.freeC,g.pin,g.hok,g.len]
 refine wCa (ht [] s1 _ H _ I hq) (λfl s' UQ=>?_) λ_ _ z=>z.elim;cases fl with
 |ret u=>
  obtain⟨v,U',R,c,rv,q⟩:=UQ;exact#[v,R,c.os,c.bare,c.base,c.hok,rv,q]
 |next=>
  obtain⟨U',R,c,q⟩:=UQ;exact#[V.non,R,c.os,c.bare,c.base,c.hok,rfl,q]
 |brk=>obtain⟨_,_,_,q⟩:=UQ;exact False.elim q
 |cont=>obtain⟨_,_,_,q⟩:=UQ;exact False.elim q
end
noncomputable def W_(H:Hp)(e:Addr):Hp:=λb=>if b=e then J else H b
def Y_(h:b≠e):W_ H e b=H b:=if_neg h
noncomputable def Co(e:Addr)(g:Sp)(t:TA):TE:=λf H Q=>t f H λd b=>∃C c,b e=S (xC e C c)/\g d (W_ b e) (λv a=>a e=J->Q v (upd a e (xC e C c))) E0
theorem Dr(F:FnS X.prog X.w X.K X.mg X.base f fd ps sp)(hdp:X.A.depth<recursionLimit)(hg:Gl X x)(hm:X.mg x=S (.ref f))(hk:PySem.W.keepIn X.K (.ref f)=B)(M:Jo X.K fd ps [])
  (ha:PA (X.sui e) (ea::Z) t) (hdb:(x==("__debug__"))=G) (he:starEach (ea::Z) X.env=(G,eval ea X.env)::starEach Z X.env) (hpl:(backTo pos (starEach Z X.env)).any (·.1)=G):
  PE (X.sui e) (.Call (.Name x p) (ea::Z) [] pos) (Co e sp t):=by
 intro pins s U H Q I h;refine wpAny_Call_Name_kw (zN I hg hm ?_ hdb);refine PySem.W.callWith_K I.ok.mod.kin hk (jv (ha _ _ s U H _ I h) λus UQ xx=>?_) he hpl;obtain⟨vs,A,k,r,C,od,W,q⟩:=xx;refine#[k.kIn,?_];have hl:(us++[]).length=ps.length:=by rw[uFa,<-r.length];exact F.len _ _ _ _ q
 obtain⟨⟨oe,h1,h2,h3,h4,h5⟩,_⟩:=k.hok e _ W;have O:e∉JQ _:=λz=>by have:=k.stkFree e z;rw[W]at this;exact Zs this
 have ne:∀b u,A b=S u->(∀φ,u≠.ext φ)->b≠e:=λb u z n y=>by rw[y,W]at z;obtain rfl:=Zj z;exact n _ rfl
 have sub:∀b u,W_ A e b=S u->A b=S u:=λb u z=>by
  by_cases y:b=e
  ·unfold W_ at z;rw[if_pos y]at z;exact Zn z
  ·rw[Y_ y]at z;exact z
 have R:∀b,A b=J->W_ A e b=J:=λb z=>by
  by_cases y:b=e
  ·lia
  ·rw[Y_ y];exact z
 have j:=k.env0;have E2:Env0 _ _ _ _ _ _ _ UQ _:=#[j.frames,j.mod,λb o z=>#[(j.bs b o z).1,R b (j.bs b o z).2],j.bsz,j.funs,λb z=>R b (j.frf b z),λb u z=>(j.hok b u (sub b u z)).stay (λ_ _ _ y=>y) (λc y=>by rw[Y_ (ne c _ y λ_ w=>nomatch w)];exact y) (λc u' t y=>by
  by_cases ce:c=e
  ·rw[ce,W]at y;obtain rfl:=Zj y;exact t.elim
  ·rw[Y_ ce];exact y),j.bare]
 have N:=M UQ us k.kIn hl;rw[uFa]at N;refine wHa (codeAny_mono (F.run _ _ UQ _ _ us vs _ e oe hdp rfl h1 h5 (if_pos rfl) O E2 N r q) λrr s' P=>?_);cases rr with
 |error ev=>exact P.elim
 |ok fl=>
  cases fl with
  |ret u=>
   obtain⟨v,H',os,T,i,hok,rv,qq⟩:=P;have k1:=i.keep e oe h1 (if_pos rfl) O (by simp);have k2:=i.free e oe h1 (if_pos rfl) (by simp);have l:∀b u,H' b=S u->upd H' e (xC e C od) b=S u:=λb u z=>by rw[ja (jy z k2)];exact z
   obtain⟨hh,g,d,t',os'⟩:=s';obtain rfl:os'=UQ.os:=os;refine#[v,_,k.call #[λb o z n M a=>i.keep b o z (R b n) M a,λb o z n M a=>i.slot b o z (R b n) M a,λb o z n a=>?_,λb o z a=>i.there b o z a,λb xs z=>l _ _ (i.tups b xs (by rw[Y_ (ne b _ z λ_ w=>nomatch w)];exact z)),λb o xs z=>l _ _ (i.frzs b o xs (by rw[Y_ (ne b _ z λ_ w=>nomatch w)];exact z)),λb pp z=>?_] (λb u z=>?_) T (λb z=>vDa z (by simp)),rv,qq k2]
   ·rw[ja (λy=>by lia)];exact i.free b o z (R b n) a
   ·obtain⟨m,y⟩:=i.tbls b pp (by rw[Y_ (ne b _ z λ_ w=>nomatch w)];exact z);exact#[m,l _ _ y]
   ·by_cases y:b=e
    ·subst y;rw[jj]at z;obtain rfl:=Zj z;exact cY k1 h2 h3 h4 h5
    ·rw[ja y]at z;exact(hok b u z).stay (λ_ _ _ y=>y) (λc y=>l _ _ y) λc u' _ y=>l _ _ y
  |next=>exact P.elim
  |brk=>exact P.elim
  |cont=>exact P.elim
end L2
namespace L2
open PySem PySem.Spec PyProof.Rows PySem.W Builtin Builtin.ObjectAttr
noncomputable def UZ:L Value->Bool
 |.ref _::r=>UZ r
 |l=>l==[.type "ValueError",.type "Exception",.type "BaseException",.type "object"]
def Xl(b){l}(e:UZ l=B):refuseLoop b "__setattr__" l=pure ():=by
 induction l with
 |nil=>rfl
 |cons v r i=>
  cases v<;>try exact Zf e
  ·rw[eq_of_beq (show(Value.type _::r==_)=B from e)];exact PySem.F.store_ValueError.passes _
  ·rw[refuseLoop_ref];exact i e
def Ds{l}(e:UZ l=B):l.contains (.type "object")=B:=by
 induction l with
 |nil=>exact Zf e
 |cons v r i=>
  cases v<;>try exact Zf e
  ·rw[eq_of_beq (show(Value.type _::r==_)=B from e)];decide
  ·rw[List.contains_cons,i e,Bool.or_true]
section
variable{prog:Program}{w:World}{A:Around}{E:Tz}{R:Result->Shared->Prop}{s:Shared}{K:Frag}{x C:Addr}{ox:Obj}{od:Y Obj}{name:Str}{tk:Tok}{v:Value}
noncomputable def zO(K:Frag)(C:Addr):=(clsIn K C).any λa=>UZ a.mro
def QL(X:K.In s.heap)(I:InstAt s.heap x ox C od)(F:zO K C=B)(t:takerIn K C name=S J)
  (h:∀b,wpAny (model prog w) A.in1 (storeInOwnDict (.ref x) (.ref C) (.str name tk) name v b)
   (λj i=>match j with|.done f=>R (.ok f) i|.again n=>n.quiet=B/\codeAny (model prog w) A n R i) (λe i=>R (.error e) i) s):
  codeAny (model prog w) A (.call (.builtin "object.__setattr__") #[[.ref x,.str name tk,v],[]]) R s:=by
 have d:=PySem.F.store_object;obtain⟨l,m,g⟩:=any_some F;have u:l.mro.isEmpty=G:=by cases q:l.mro with|nil=>rw[q]at g;exact Zf g|cons _ _=>rfl
 have sub:Looks (model prog w) _ (isInstance _ _) _:=I.type.andThen (looks_mroIn X (by unfold mroIn;rw[m,uEa,if_neg (by rw[u];decide),Ds g]));refine codeAny_call_builtin d.slot.plain d.entry (@check_slot _ _ _ s "object.__setattr__" "object" "__setattr__" _ _ [] _ d.kind d.split sub (d.args _ _ v) ?_);obtain⟨c,o,y⟩:=Option.bind_eq_some_iff.mp t;have z:Looks (model prog w) _ (mroOf (.ref C)) _:=(looks_clsIn X m).andThen .now;have p:Looks (model prog w) s.heap (storeTaker? c) J:=by
  cases c with
  |none=>exact .now
  |some a=>
   obtain⟨b,r,k⟩:=Option.map_eq_some_iff.mp y;refine(looks_takesIn X r).andThen ?_;cases b with
   |false=>exact .now
   |true=>exact Zs k
 rw[osa_eq,refuse_eq];refine wAa (wAa (I.type.here (wAa (z.here ?_))));rw[Xl _ g];refine wBa (wAa (I.type.here (wAa ((looks_findIn X o).here (wAa (p.here ?_))))));exact h _
def B3(X:K.In s.heap)(l:s.heap.get? x=S {cls:=.ref C,data:=.fields T})
  (m:findIn K (.ref C) "__setattr__" = S (S (.builtin "object.__setattr__"))) (W:zO K C=B) (O:takerIn K C name=S J) (i:hasDictIn K C=B)
  (h:∀f M,f.get? x=S {cls:=.ref C,dict:=S s.heap.objs.size,data:=.fields T}->f.Ns1 s.heap.objs.size (λy=>if y=name then S v else J)->(∀b o,b≠x->s.heap.get? b=S o->f.get? b=S o)->Q () {s with heap:=f,toks:=M}):
  wpAny (model prog w) A (setAttr (.ref x) name v) Q E s:=by
 have a:InstAt _ x _ C J:=#[l,rfl,rfl,trivial]
 refine PySem.W.set_plain X a m (QL X a W O λb=>?_);obtain⟨cd,UQ,H⟩:=any_some i;refine wAa (wBa (wAa (wAa (wpAny_loadPart l (wAa (Looks.here (looks_clsIn X UQ) ?_))))));rw[H];obtain⟨i,g,d,t,os⟩:=s;have c:(i.push {cls:=.type "dict",data:=.dict #v[]}).get? x=S _:=wIa _ l;have k:=wTa (wLa l);have z:((i.push {cls:=.type "dict",data:=.dict #v[]}).update x λo=>{cls:=o.cls,dict:=S i.objs.size,data:=o.data,slots:=o.slots}).get? _
     = S _:=
    (Heap.get?_update_ne _ _ _ _ k.symm).trans (Heap.get?_push_at rfl rfl)
 have r:((i.push _).update x λo=>{cls:=o.cls,dict:=S _,data:=o.data,slots:=o.slots}).Ns _ (λ_=>J):=
    #[_,_,_,z,rfl,λe N=>vDa N (by simp),λ_=>rfl]
 refine wAa (wpAny_alloc' ?_);refine wAa (wpAny_update' c ?_);refine wBa ?_;refine wAa (wBa (wAa (wpAny_nsSet1 (Heap.Ns1.of_empty r) λf j m=>?_)));obtain⟨Z,I,P,p,F,u⟩:=j.count (Within.cons _ v Within.nil);refine wAa (wpAny_lookBehind p (by rw[F];exact pastItsLine_dict (wSa u (by simp))) ?_);refine wBa (h f _ ((m.2 x k).trans (vUa _ c rfl)) ?_ λb o n q=>?_)
 ·exact j
 ·exact(m.2 b (wTa (wLa q))).trans ((Heap.get?_update_ne _ _ _ _ n).trans (wIa _ q))
def B4{u}(X:K.In s.heap)(r:s.heap.get? x=S {cls:=.ref C,dict:=S d,data:=.fields Z})(m:s.heap.Ns1 d t)(H:x≠d)
  (P:findIn K (.ref C) "__setattr__" = S (S (.builtin "object.__setattr__"))) (UQ:zO K C=B) (M:takerIn K C name=S J) (T:hasDictIn K C=B) (z:PySem.Within t u) (N:u.length<=sizeLine)
  (h:∀g I,g.Ns1 d (λy=>if y=name then S v else t y)->(∀b o,b≠d->s.heap.get? b=S o->g.get? b=S o)->Q () {s with heap:=g,toks:=I}):
  wpAny (model prog w) A (setAttr (.ref x) name v) Q E s:=by
 obtain⟨p,c⟩:∃o,s.heap.get? d=S o:=let⟨o,_,_,e,_⟩:=m;#[o,e]
 have a:InstAt _ x _ C (S p):=#[r,rfl,rfl,c]
 refine PySem.W.set_plain X a P (QL X a UQ M λb=>?_);obtain⟨cd,W,k⟩:=any_some T;refine wAa (wBa (wAa (wAa (wpAny_loadPart r (wAa (Looks.here (looks_clsIn X W) ?_))))));rw[k];refine wBa (wAa (wBa (wAa ?_)));refine wpAny_nsSet1 m λg f l=>?_;obtain⟨p,F,O,c,i,j⟩:=f.count (PySem.Within.cons _ v z);refine wAa (wpAny_lookBehind c (by rw[i];exact pastItsLine_dict (wSa j (by grind))) ?_);exact wBa (h g _ f λb o n q=>(l.2 b n).trans q)
end
noncomputable def xE(C e:Addr)(a:Y Addr):HO:=.ext λh=>∃t,h.get? e=S {cls:=.ref C,dict:=a,data:=.fields #v[.ref t,.none,.none,.none,.bool G,.none]}
def Cp(h:a.get? e=S {cls:=.ref C,dict:=b,data:=.fields #v[.ref t,.none,.none,.none,.bool G,.none]}):Jh P w H a e (xE C e b):=#[#[t,h],#[_,h],λ_ _ ⟨t,q⟩ k=>#[t,k _ q]]
structure ExS (K C f) where
 sa:findIn K (.ref C) "__setattr__" = S (S (.builtin "object.__setattr__"))
 eo:zO K C=B
 tk:takerIn K C f=S J
 hd:hasDictIn K C=B
def Inv.exc0{A}(I:Inv X g M H s)(e:H a=S (xE C a J))(p:h.get? a=S {cls:=.ref C,dict:=S s.heap.objs.size,data:=.fields #v[.ref t,.none,.none,.none,.bool G,.none]})(u:∀F,Jh X.prog X.w F h s.heap.objs.size (xW s.heap.objs.size l))
  (k:∀b o,b≠a->s.heap.get? b=S o->h.get? b=S o):Inv X g M (upd (upd H s.heap.objs.size (xW s.heap.objs.size l)) a (xE C a (S s.heap.objs.size))) {s with heap:=h,toks:=A}:=by
 have O:=I.fresh;have i:∀b,H b=J->b≠a:=λb n z=>by lia
 have x:∀b o,H b=S o->b≠s.heap.objs.size:=λb o q z=>by lia
 have d:∀b o,H b=S o->b≠a->upd (upd H _ (xW s.heap.objs.size l)) a (xE C a (S s.heap.objs.size)) b=S o:=λb o q n=>by rw[ja n,ja (x b o q)];exact q
 have f:∀b o,H b=S o->(∀w,o≠.ext w)->b≠a:=λb o q n z=>by rw[z,e]at q;exact n _ (vFa q).symm
 refine I.un #[λb o q n _ _=>k b o (i b n) q,λb o q n _ _=>#[_,k b o (i b n) q],λb o q n _=>?_,λb o q _=>?_,λb m q=>d b _ q (f b _ q λ_ z=>by cases z),λb o m q=>d b _ q (f b _ q λ_ z=>by cases z),λb N q=>#[#v[],by rw[d b _ q (f b _ q λ_ z=>by cases z)];simp]] λb o q=>?_
 ·rw[ja (i b n),ja (Nat.ne_of_lt (Heap.lt_size q))];exact n
 ·by_cases z:b=a
  ·rw[z];exact#[_,p]
  ·exact#[o,k b o z q]
 ·by_cases z:b=a
  ·subst z;rw[jj]at q;obtain rfl:=Zj q;exact Cp p
  ·rw[ja z]at q;by_cases y:b=s.heap.objs.size
   ·subst y;rw[jj]at q;obtain rfl:=Zj q;exact u _
   ·rw[ja y]at q;refine(I.hok b o q).stay (λc v j r=>k c v ?_ r) (λc r=>d c _ r (f c _ r λ_ z=>by cases z)) λc m t r=>d c _ r (f c _ r λ_ z=>by subst z;exact t);rcases j with rfl|j
    ·exact z
    ·exact f c _ j λ_ z=>by cases z
def Xm(I:Inv X b k H s)(e:H a=S (xE C a J))(c:ExS X.K C f)(n:jp v u)
  (h:∀d g,H d=J->d≠a->Inv X b k (upd (upd H d (xW d [(f,v)])) a (xE C a (S d))) g->Q () g):wpAny (model X.prog X.w) A (setAttr (.ref a) f u) Q E s:=by
 obtain⟨⟨t,o⟩,_⟩:=I.hok a _ e;refine B3 I.kIn o c.sa c.eo c.tk c.hd λw r j m l=>h _ _ I.fresh (λz=>?_) (I.exc0 e j (λ_=>cX m (PySem.Within.cons f u PySem.Within.nil) λp i=>?_) l)
 ·have:=I.fresh;rw[z,e]at this;exact Zs this
 ·rw[List.mem_singleton.mp i];exact#[u,if_pos rfl,n]
def Xn(I:Inv X g M H s)(e:H a=S (xE C a (S d)))(l:H d=S (xW d j))(k:a≠d)(c:ExS X.K C f)(W:j.length<1000)(N:∀p∈j,p.1≠f)(O:jp v u)
  (h:∀x,Inv X g M (upd H d (xW d ((f,v)::j))) x->Q () x):wpAny (model X.prog X.w) A (setAttr (.ref a) f u) Q E s:=by
 obtain⟨⟨t,y⟩,_⟩:=I.hok a _ e;obtain⟨⟨Z,P,r,UQ⟩,_⟩:=I.hok d _ l;refine B4 I.kIn y P k c.sa c.eo c.tk c.hd r (by rw[sizeLine_eq,vYa];omega) λh' t' m R=>h _ ?_;refine I.write (by rw[l];exact True.intro) (.inl rfl) (λb o n q=>R b o n q) ?_ (cX m (PySem.Within.cons f u r) λp i=>?_)
 ·obtain⟨o,_,_,z,_⟩:=m;exact#[o,z]
 ·rcases uTa i with rfl|i
  ·exact#[u,if_pos rfl,O]
  ·obtain⟨w,F,T⟩:=UQ p i;exact#[w,(if_neg (N p i)).trans F,T]
noncomputable def sX(K:Frag)(i g:TE)(f:Str):TS:=λD d H=>g d H λy h=>i d h λx c=>∃a C,x=.ref a/\ExS K C f/\
 ((c a=S (xE C a J)/\∀b,c b=J->b≠a->D.nx d (upd (upd c b (xW b [(f,y)])) a (xE C a (S b))))\/∃b e,c a=S (xE C a (S b))/\c b=S (xW b e)/\a≠b/\e.length<1000/\(∀p∈e,p.1≠f)/\D.nx d (upd c b (xW b ((f,y)::e))))
def B5(A:PE X o UQ)(R:PE X b Q)(hs:swapsWith b (S (.Attribute o f d)) j.line X.env=pure G):PS X (.Assign [.Attribute o f d] b j) (sX X.K UQ Q f):=by
 intro r s g H D I h;refine plainObj_wpAny_Assign_Attribute (jv (R _ s g H _ I h) λu w k=>?_) hs;obtain⟨y,M,W,p,q⟩:=k;refine jv (A _ w g M _ W q) λO s2 k=>?_;obtain⟨x,H2,m,F,a,C,v,c,t⟩:=k;subst v;obtain rfl:O=Value.ref a:=F;rcases t with⟨e,q⟩|⟨l,fv,e,T,n,z,Z,q⟩
 ·exact Xm m e c p λl N n1 P i=>#[g,_,i,q l n1 P]
 ·exact Xn m e T n c z Z p λN i=>#[g,_,i,q]
end L2
namespace L2
open PySem PySem.Spec PyProof.Rows
noncomputable abbrev Xo(l:L Value):Obj:={cls:=.type "tuple",data:=.seq l.toArray}
noncomputable abbrev B6(C t:Addr):Obj:={cls:=.ref C,data:=.fields #v[.ref t,.none,.none,.none,.bool G,.none]}
section
variable{prog:Program}{w:World}{A:Around}{E:Tz}{h:Heap}{g:Array GenState}{d:Drawn}{t:Nat}{os:OsState}
variable{nm q:Str}{C N fi:Addr}{bs bm bmB:L Value}{hdct:Bool}{sn:L Str}{sub:L Value}{ab:Bool}{col:Y Bool}{dd:Y Addr}{k0 k1 k2 k3 k5:Y Value}{UQ newId initId:String}
theorem Dt(F:ExcBaseFacts UQ newId initId bmB)(T:OwnTail h bmB bm){p:Tj}{l:L Value}{Q:Fin->Shared->Prop}
  (c:h.get? C=S (excClassObj nm q C N bs bm hdct sn sub ab col dd k0 k1 k2 k3 k5 newId)) (u:h.Ns N p) (i:p "__init__" = S (.ref fi)) (H:l.length<=sizeLine)
  (x:∀n:Heap,(∀b o,h.get? b=S o->n.get? b=S o)->∀a,PySem.W.Looks (model prog w) n (bindSpecial (.ref fi) a) (.ref fi,[a]))
  (y:codeAny (model prog w) A (.call (.ref fi) #[.ref (h.objs.size+1)::l,[]]) (λr j=>match r with|.ok (.ret .none)=>Q (.done (.ret (.ref (h.objs.size+1)))) j|.ok _=>False|.error k=>E k j) #[(h.push (Xo l)).push (B6 C h.objs.size),g,d,t,os]):
  wpAny (model prog w) A (Builtin.«type.__call__» #[.ref C::l,[]]) Q E #[h,g,d,t,os]:=by
 have f:∀b o,h.get? b=S o->((h.push (Xo l)).push (B6 C h.objs.size)).get? b=S o:=λb o e=>wIa _ (wIa _ e)
 repeat(first|with_reducible refine wpAny_loadPart_at c ?_|with_reducible refine wpAny_madeBy_exc c ?_|wp_step)
 refine codeAny_call_builtin_code (Code.quiet_builtin _ F.quiet) (wpAny_check_new_subT F T c (codeAny_exc_new_subT F T c ?_ H));show wpAny _ _ _ _ _ _;have m:=f _ _ c;have O:=u.keeps f;have s:=T.keeps f;have M:(Value.ref C::bm).contains (.ref C)=B:=by simp
 unfold isInstance
 repeat(first|with_reducible refine wpAny_loadPart_at P ?_|(with_reducible refine wpAny_isSubtype_exc m ?_;rw[M])|wp_step)
 refine wpAny_typeLookup_tail m O s F.mroIs F.init.lookup ?_;rw[i];refine wDa (wAa ((x _ f _).here ?_));refine wAa (wHa (codeAny_mono y λr j z=>?_));cases r with
 |error k=>exact z
 |ok I=>
  cases I with
  |ret v=>
   cases v with
   |none=>exact wBa (wBa z)
   |_=>exact z.elim
  |_=>exact z.elim
theorem aX(F:ExcBaseFacts UQ newId initId bmB)(T:OwnTail h bmB bm){i:Tj}{l:L Value}{Q}
  (c:h.get? C=S (excClassObj nm q C N bs bm hdct sn sub ab col dd k0 k1 k2 k3 k5 newId)) (n:h.Ns N i) (e:i "__init__" = S (.ref fi)) (k:l.length<=sizeLine)
  (m:∀h':Heap,(∀b o,h.get? b=S o->h'.get? b=S o)->∀a,PySem.W.Looks (model prog w) h' (bindSpecial (.ref fi) a) (.ref fi,[a]))
  (s:codeAny (model prog w) (A.under (.builtin "type.__call__" #[.ref C::l,[]])) (.call (.ref fi) #[.ref (h.objs.size+1)::l,[]]) (λr f=>match r with|.ok (.ret .none)=>Q (.ref (h.objs.size+1)) f|.ok _=>False|.error j=>E j f) #[(h.push (Xo l)).push (B6 C h.objs.size),g,d,t,os]):
  wpAny (model prog w) A (call (.ref C) l) Q E #[h,g,d,t,os]:=by
 have u:=tc_lookup;have y:=tc_bind (.ref C);have x:(#[h,g,d,t,os]:Shared).TypeIs (.ref C) "type":= #[_,c,rfl]
 refine wHa (codeAny_of_tree ?_)
 repeat(any_goals(first|assumption|with_reducible refine wpAny_loadPart_at c ?_|wp_step))
 refine#[rfl,?_];refine codeAny_call_builtin_at (Code.quiet_builtin _ (by decide +kernel)) entry_typeCall (wpAny_check_type_call_sub c (Dt F T c n e k m ?_));refine codeAny_mono s λr f z=>?_;cases r with
 |error j=>exact z
 |ok p=>
  cases p with
  |ret v=>cases v<;>exact z
  |_=>exact z
end
def Xq(H:i.contains (.type "BaseException")=B)(o:A.handled=J)
  (h:wpAny M A x (λv a=>∃e c,v=.ref e/\a.heap.get? C=S (excClassObj nm q C N bs i hdct sn sub ab col dd k0 k1 k2 k3 k5 newId)/\a.heap.get? e=S c/\c.cls=.ref C/\(∃t,c.data=.fields #v[.ref t,.none,.none,.none,.bool G,.none])/\E (.ref e) a) E s):
  wpAny M A (raiseStmt j (S x) J) Q E s:=by
 have r:(Value.ref C::i).contains (.type "BaseException")=B:=by simp_all
 refine wAa (wCa h (λv a b=>?_) λ_ _ x=>x);obtain⟨e,c,rfl,f,n,k,⟨F,l⟩,u⟩:=b;obtain⟨I,g,d,w,os⟩:=a;obtain⟨y,z,m,p⟩:=c;subst k l
 repeat(first|with_reducible refine wpAny_loadPart_at n ?_|with_reducible refine wpAny_loadPart_at f ?_|(with_reducible refine wpAny_isSubtype_exc f ?_;rw[r])|wp_step)
 exact wpAny_raiseNew_none o u
set_option tactic.hygienic true in
theorem Du{K}{h:Heap}(X:K.In h)(a:h.Ns N m)(e:PySem.W.nsIn K N n=S (S v)):m n=S v:=by
 obtain⟨o,k,r,g,j,_,i⟩:=a;unfold PySem.W.nsIn at e;split at e
 ·rename_i c d f l p q;have z:=X _ _ q;rw[g]at z;obtain rfl:=Zj z;cases j;split at e
  ·rename_i s b;cases e;rw[<-i];unfold nsFind findBy;rw[<-Array.find?_toList,b];rfl
  ·simp_all
 ·exact Zn e
noncomputable def V3(K:uXa)(C:Addr)(b:L Value)(j:String)(f:Addr):=bX K C b j (S (S (.ref f)))
def B8{K h}(X:K.In h)(q:V3 K C g j x=B):
  ∃t N nm q bs hdct sn sub ab col dd k0 k1 k2 k3 k5 k,h.get? C=S (excClassObj nm q C N bs t hdct sn sub ab col dd k0 k1 k2 k3 k5 j)/\h.Ns N k/\k "__init__" = S (.ref x)/\OwnTail h g t:=by
 obtain⟨F,t,I,v,s,H,P,R,u,g,z,p,o,m,i,n,c,k,M,Q⟩:=QK q;have a:h.Ns t _:=.of_isNs (PySem.W.isNs_of_in X k);exact#[F,t,I,v,s,H,P,R,u,g,z,p,o,m,i,n,_,X _ _ c,a,Du X a M,PySem.W.tail_of_in X Q]
noncomputable def aY(C:Addr)(c:L Str):Sp:=λd H Q _=>∃e a,d=.ref e::a/\a.length=c.length/\H e=S (xE C e J)/\∀b,H b=J->b≠e->Q .non (upd (upd H b (xW b (c.zip a).reverse)) e (xE C e (S b)))
section
variable{P:Program}{w:World}{K:uXa}{mg:Tj}{base:Heap}{x qual:Str}{st:Stmt}{f C:Addr}{fd:FuncData}{k:Nat}{a0 a1 a2 f1 f2:Str}{p1 p2 p3 p4 q1 q2 q3 q4:Pos}
def l_(F:Fun K x qual st f fd)(a:FnScope [a0,a1,a2] [a0,a1,a2] (defScope st))
  (N:defBody st=[.Assign [.Attribute (.Name a0 p1) f1 p2] (.Name a1 p3) p4,.Assign [.Attribute (.Name a0 q1) f2 q2] (.Name a2 q3) q4]) (I:ExS K C f1) (c2:ExS K C f2) (hf:f1≠f2) (n:UJ (defScope st) a0) (R:UJ (defScope st) a1) (v:UJ (defScope st) a2)
  (r:(a0==("__debug__"))=G) (O:(a1==("__debug__"))=G) (T:(a2==("__debug__"))=G) (o:(a0==("__classdict__"))=G) (t:(a1==("__classdict__"))=G) (M:(a2==("__classdict__"))=G):
  FnOk P w K mg base yG (k+1) f fd [a0,a1,a2] (aY C [f1,f2]):=by
 refine F.ok a (λUQ H Q E j=>?_) λu A m s H UQ Q E hr j=>?_
 ·obtain⟨e,h,z,l,_⟩:=j;rw[z,vXa,l];rfl
 ·obtain⟨e,h,z,l,X,q⟩:=j;obtain⟨d,g,rfl⟩:∃d g,h=[d,g]:=by
   rcases h with _|⟨_,_|⟨_,_|⟨_,_⟩⟩⟩<;>first|exact#[_,_,rfl]|cases l
  subst z;rw[N];refine#[_,vR (B5 (vQ (i:=0) rfl n r o) (vQ (i:=1) rfl R O t) rfl) (uc (B5 (vQ (i:=0) rfl n r o) (vQ (i:=2) rfl v T M) rfl)),?_];refine#[d,rfl,.ref e,rfl,e,C,rfl,I,.inl #[X,λc W i=>?_]];refine#[g,rfl,.ref e,rfl,e,C,rfl,c2,.inr #[c,_,jj,by rw[ja i,jj],i.symm,(by show 1<1000;decide),λp hp=>by simp_all,?_]];have Z:upd (upd (upd H c (xW c [(f1,d)])) e (xE C e (S c))) c (xW c [(f2,g),(f1,d)])=upd (upd H c (xW c [(f2,g),(f1,d)])) e (xE C e (S c)):=by
   funext b;by_cases z:b=c
   ·subst z;rw[jj,ja i,jj]
   ·by_cases y:b=e
    ·subst y;rw[ja z,jj,jj]
    ·rw[ja z,ja y,ja z,ja y,ja z]
  rw[Z];exact q c W i
def L0(F:Fun K x qual st f fd)(a:FnScope [a0,a1] [a0,a1] (defScope st))
  (i:defBody st=[.Assign [.Attribute (.Name a0 p1) f1 p2] (.Name a1 p3) p4]) (r:ExS K C f1) (u:UJ (defScope st) a0) (j:UJ (defScope st) a1)
  (p:(a0==("__debug__"))=G) (t:(a1==("__debug__"))=G) (h:(a0==("__classdict__"))=G) (o:(a1==("__classdict__"))=G):
  FnOk P w K mg base yG (k+1) f fd [a0,a1] (aY C [f1]):=by
 refine F.ok a (λv H Q E d=>?_) λI A g s H v Q E N d=>?_
 ·obtain⟨e,b,z,l,_⟩:=d;rw[z,vXa,l];rfl
 ·obtain⟨e,b,z,l,M,q⟩:=d;obtain⟨c,rfl⟩:∃c,b=[c]:=by
   rcases b with _|⟨_,_|⟨_,_⟩⟩<;>first|exact#[_,rfl]|cases l
  subst z;rw[i];refine#[_,uc (B5 (vQ (i:=0) rfl u p h) (vQ (i:=1) rfl j t o) rfl),?_];exact#[c,rfl,.ref e,rfl,e,C,rfl,r,.inl #[M,λn y m=>q n y m]]
end
section
variable{P:Program}{w:World}{K:uXa}{mg:Tj}{base:Heap}{N:L Str}{qual:Str}{scope:Scope}{f:Addr}{cd:Value}{A:Around}{outer:L Env}{s0:Shared}{H0:Hp}{E:XK}
theorem aZ{x:Str}{np i pos:Pos}{a:Expr}{O}{C fi:Addr}{Q}{c newId l:String}{fd:FuncData}{k:Nat}{ps:L Str}{m}{ta:TA}
  (ens:PySem.W.nsIn K mainGlobals x=S (S (.ref C))) (exi:V3 K C Q newId fi=B) (FB:ExcBaseFacts c newId l Q) (kp:PySem.W.keepIn K (.ref C)=B) (ft:PySem.W.typeIn K (.ref fi)=S (.type "function"))
  (FI:FnOk P w K mg base yG k fi fd ps (aY C m)) (hz:m.length<=1000) (hps:ps.length=m.length+1) (hb:Jo K fd ps []) (hr:Room (k+1) (A.deeper (envOfC qual scope s0.heap.objs.size f cd)))
  (hg:Gl (JL (y8 P w) P w K mg base N qual scope f cd A outer s0 H0 E) x) (hd:(x==("__debug__" : Str))=G)
  (ha:PA (JL (y8 P w) P w K mg base N qual scope f cd A outer s0 H0 E) (a::O) ta)
  (he:starEach (a::O) (envOfC qual scope s0.heap.objs.size f cd)=(G,eval a (envOfC qual scope s0.heap.objs.size f cd))::starEach O (envOfC qual scope s0.heap.objs.size f cd)) (hpl:(backTo i (starEach O (envOfC qual scope s0.heap.objs.size f cd))).any (·.1)=G):
  PS (JL (y8 P w) P w K mg base N qual scope f cd A outer s0 H0 E) (.Raise (S (.Call (.Name x np) (a::O) [] i)) J pos) (λ_ U H=>ta U H λo F=>o.length=m.length/\∀e,F e=J->E (.ref C) (S e) (upd F e (xW e (m.zip o).reverse))):=by
 intro W s U H D I h;have hh:=I.ok.hd rfl;obtain⟨bm,N',nm,q,bs,R,sn,sub,ab,col,dd,k0,k1,k2,k3,k5,mN,hC,hn,hni,T⟩:=B8 I.mod.kin exi;have hm:=PySem.W.mg_of I.mod.kin I.mod.glob ens;refine wAa (vOa (Xq (nm:=nm) (q:=q) (C:=C) (N:=N') (bs:=bs) (hdct:=R) (sn:=sn) (sub:=sub) (ab:=ab) (col:=col) (dd:=dd) (k0:=k0) (k1:=k1) (k2:=k2) (k3:=k3) (k5:=k5) (newId:=newId) (T.hasType FB.hasBase) hh ?_));refine wAa (wCa ?_ (λv s3 h3=>wAa (vOa (wBa h3))) λ_ _ z=>z);refine wpAny_Call_Name_kw (zN I hg hm ?_ hd);refine PySem.W.callWith_K I.ok.mod.kin kp (wCa (ha i W s U H _ I h) (λp g ⟨o,F,n,r,q1,qE⟩=>#[n.kIn,?_]) λ_ _ z=>z) he hpl;have hl:p.length=m.length:=by rw[<-r.length];exact q1
 have I2a:=n.kept (h':=g.heap.push (Xo p)) (t':=g.toks) λb u q=>wIa _ q;have I2:=I2a.laid (o:=xE C _ J) (t':=g.toks) (λb u q=>wIa _ q) (Nat.le_of_eq (Heap.size_push _ _)) (Cp (t:=g.heap.objs.size) (by heap_get));have f1':=n.hok.fresh (vMa _);have r2:jl (V.ref (g.heap.objs.size+1)::o) _:=.cons rfl r;have M:=hb _ (Value.ref (g.heap.objs.size+1)::p) I2.kIn (by simp_all);rw[uFa]at M;have hsp:aY C m _ _ (λv H'=>v=.non/\∃e,F e=J/\e≠g.heap.objs.size+1/\H'=upd (upd _ e (xW e _)) _ (xE C _ (S e))) E:=
  #[_,o,rfl,q1,jj,λe Z X=>#[rfl,e,by rw[ja X]at Z;exact Z,X,rfl]]
 refine aX FB (T.keeps n.bk) (n.bk _ _ hC) (hn.keeps n.bk) hni (by show p.length<=sizeLine;rw[hl,sizeLine_eq];omega) (λh' kk UQ=>PySem.W.bind_fn (n.kIn.keeps kk) UQ ft) (codeAny_mono (FI.run _ _ _ _ _ _ _ _ E (hr.make C p []) (I2.env0.make C p []) M r2 hsp) λr s' j=>?_);cases r with
 |error ev=>exact False.elim j
 |ok fl=>
  cases fl with
  |ret v=>
   obtain⟨v',H',I3,rv,rfl,e,Z,X,rfl⟩:=I2.after j;obtain rfl:v=Value.none:=rv;have ee:upd (upd (upd F (g.heap.objs.size+1) (xE C (g.heap.objs.size+1) J)) e (xW e (m.zip o).reverse)) _ _ (g.heap.objs.size+1)=S (xE C (g.heap.objs.size+1) (S e)):=jj;obtain⟨⟨t,hx⟩,_⟩:=I3.hok _ _ ee;have h1:upd F e (xW e (m.zip o).reverse) (g.heap.objs.size+1)=J:=by rw[ja X.symm];exact f1'
   refine#[_,_,rfl,I3.bk _ _ hC,hx,rfl,#[t,rfl],QJ (t:=t) I3 hx rfl rfl (Heap.get?_none_of_le (Nat.le_succ_of_le n.sz)) h1 (λb=>?_) (λd z=>z) (qE e Z)];by_cases y:b=g.heap.objs.size+1
   ·subst y;exact .inr #[h1,_,ee]
   ·by_cases z:b=e
    ·subst z;exact .inl (by rw[jj,ja y,jj])
    ·exact .inl (by rw[ja z,ja y,ja z,ja y])
  |next=>exact False.elim j
  |brk=>exact False.elim j
  |cont=>exact False.elim j
end
end L2
set_option maxHeartbeats 200000
namespace L2
open PySem PySem.Spec PyProof.Rows PySem.W Builtin
def B9{l}(e:UZ l=B):l.contains (.type "BaseException")=B:=by
 induction l with
 |nil=>exact Zf e
 |cons v r i=>
  cases v<;>try exact Zf e
  ·rw[eq_of_beq (show(Value.type _::r==_)=B from e)];decide
  ·rw[List.contains_cons,i e,Bool.or_true]
def Dv:builtinKind "BaseException.__getattribute__" = S .slot:=by decide +kernel
def Ba:splitId "BaseException.__getattribute__" = S ("BaseException","__getattribute__"):=by decide +kernel
def Bb:plainId "BaseException.__getattribute__" = B:=by decide +kernel
section
variable{prog:Program}{w:World}{A:Around}{E:Tz}{s:Shared}{K:Frag}{x C:Addr}{ox:Obj}{od:Y Obj}{name:Str}{v:Value}{expr:Bool}{Q:Tz}
def Dw(X:K.In s.heap)(I:InstAt s.heap x ox C od)(e:findIn K (.ref C) "__getattribute__" = S (S (.builtin "BaseException.__getattribute__")))(c:findIn K (.ref C) "__getattr__" = S J)(p:zO K C=B)
  (r:findObj K C od name=S (.value v)) (l:handedIn v=B) (h:Q v {s with toks:=s.toks+1}):wpAny (model prog w) A (getAttr (.ref x) name expr) Q E s:=by
 obtain⟨a,g,d,t,os⟩:=s;have i:=I.type (M:=model prog w);have j:=looks_findIn (M:=model prog w) X e;have L2:=looks_findIn (M:=model prog w) X c;have o:=looks_find (M:=model prog w) X I r;obtain⟨f,m,b⟩:=any_some p;have n:f.mro.isEmpty=G:=by cases q:f.mro with|nil=>rw[q]at b;exact Zf b|cons _ _=>rfl
 have sub:Looks (model prog w) a (isInstance _ _) B:=I.type.andThen (looks_mroIn X (by unfold mroIn;rw[m,uEa,if_neg (by rw[n];decide),B9 b]));refine wAa (wpAny_mkText (wDa (wAa (i.at (wAa (j.at ?_))))));refine wAa ((show Looks _ a _ J from L2).at ?_);refine wAa (wpAny_attempt (wDa ?_));have k:(expr&&onTheHeap (Value.builtin "BaseException.__getattribute__"))=G:=by cases expr<;>rfl
 unfold callGetattribute;rw[k];unfold boundAndCalled;rw[PySem.F.attr_ValueError.ga.bind _];refine wAa (wBa ?_);show wpAny _ _ (call _ [.ref x,.str name t]) _ _ _;refine wHa (codeAny_call_builtin Bb F.entry_bexc_ga (@check_slot _ _ _ _ "BaseException.__getattribute__" "BaseException" "__getattribute__" _ _ [] _ Dv Ba sub (F.args_bexc_ga _ _) ?_));unfold Builtin.«object.__getattribute__»;have u:slotArgs "__getattribute__" 1 {pos:=[Value.ref x,Value.str name t]}=pure _:=rfl;have y:ObjectAttr.attrName (Value.str name t)=pure name:=rfl;refine wAa (wBa ?_);dsimp only;refine wAa (wBa (wAa (i.at (wAa (o.at ?_)))));refine wBa ?_;show wpAny _ _ _ _ _ _;rw[handedOut_of l];exact wBa h
end
end L2
set_option maxHeartbeats 400000
namespace L2
open PySem PySem.Spec PyProof.Rows PySem.W
structure ExG (K C f) where
 ga:findIn K (.ref C) "__getattribute__" = S (S (.builtin "BaseException.__getattribute__"))
 gn:findIn K (.ref C) "__getattr__" = S J
 eo:zO K C=B
 hd:hasDictIn K C=B
 nf:findIn K (.ref C) f=S J
noncomputable def MN(K:Frag)(g:TE)(f:Str):TE:=λd H Q=>g d H λx b=>∃e C a c v,x=.ref e/\b e=S (xC e C (S a))/\b a=S (xW a c)/\(f,v)∈c/\ExG K C f/\Q v b
def FY(W:PE X o t)(M:attributeBase o f X.env (eval o X.env)=eval o X.env):PE X (.Attribute o f z) (MN X.K t f):=by
 intro b s A H Q I h;refine Yl M (jv (W b s A H _ I h) λu s1 T=>?_);obtain⟨x,p,d,F,e,C,l,fv,v,R,n,hx,hf,c,q⟩:=T;subst R;obtain rfl:u=Value.ref e:=F;obtain⟨⟨Z,i,w,g,k,_⟩,_⟩:=d.hok e _ n
 replace k:=k l rfl
 obtain⟨⟨mA,UQ,hw,j⟩,_⟩:=d.hok l _ hx;obtain⟨uv,j,m⟩:=j _ hf;obtain⟨r,ho,O⟩:=wd UQ;obtain⟨oc,y,N,P⟩:=Z;subst w k;have a:InstAt s1.heap e _ C (S r):=#[i,rfl,g,ho]
 exact Dw d.kIn a c.ga c.gn c.eo (findObj_own c.hd c.nf rfl (by rw[O,j])) (wf m) #[v,p,d.tok _,m,q]
end L2
namespace DS
open PySem PySem.Spec PyProof.Rows L2
noncomputable def PX(K:Fr)(E:XK)(p:Xp)(H:Hp):Prop:=match p.2 with
 |[]=>E (.ref (jz K p.1)) J H
 |_::_=>∀a,H a=J->E (.ref (jz K p.1)) (S a) (upd H a (xW a p.2))
inductive Rx where
 |ok (d:D)|xc (p:Xp)
noncomputable abbrev DX:=jr->Y Rx
noncomputable def FZ(K:Fr)(E:XK)(H:Hp)(O:L Addr)(Q:VK):Rx->Prop
 |.ok d=>∀v a,j4 H a->jI K (j6 a O) d v->Q v a
 |.xc p=>∀a,j4 H a->PX K E p a
noncomputable def tX(K:Fr)(E:XK)(e:DX):TE:=λd H Q=>∃c b a O r,Rel K c b a d H O/\e a=S r/\FZ K E H O Q r
noncomputable def wv(K:Fr)(d:L Bool)(F:L D->Y Rx):Sp:=λc H Q E=>∃O b r,(∀a∈O,H a≠J)/\yb K O H d b c/\F b=S r/\FZ K E H O Q r
noncomputable def a_:Rs->Y Rx
 |.rt d=>S (.ok d)
 |.rf o=>S (.ok o.toD)
 |.nx _=>S (.ok .non)
 |.xc p _=>S (.xc p)
 |_=>J
@[simp] theorem NS(d):a_ (.rt d)=S (.ok d):=rfl
@[simp] theorem NT(o):a_ (.rf o)=S (.ok o.toD):=rfl
@[simp] theorem NU(d):a_ (.nx d)=S (.ok .non):=rfl
@[simp] theorem NV(p a):a_ (.xc p a)=S (.xc p):=rfl
@[simp] noncomputable def V4(c:L Bool)(n:Nat)(a:DS)(b:L D):Y Rx:=(a (zI c b n)).bind a_
@[simp] noncomputable def uR(F:L D->Y Rx)(l a):=(Ys l a).bind F
@[simp] noncomputable def zt(b:DX)(k:D->DS)(a):=(b a).bind λr=>match r with
 |.ok d=>k d a
 |.xc p=>S (.xc p a)
section
variable{P:Program}{w:World}{K:Fr}{mg:Tj}{base:Heap}{x qual:Str}{st:Stmt}{f:Addr}{fd:FuncData}{N ps:L Str}{k n:Nat}{ks:L Bool}{body:DS}{F:L D->Y Rx}
def L3(Fu:Fun K x qual st f fd)(b:FnScope N ps (defScope st))(hk:ks.length=ps.length)(hn:N.length-ps.length=n)
  (hb:∀(g A c s H E),Room k (A.deeper (envOfC qual (defScope st) s.heap.objs.size f g))->Jb (JL (y8 P w) P w K mg base N qual (defScope st) f g A c s H E) (defBody st) (tS K (PX K E) body)):
  FnOk P w K mg base (y8 P w) (k+1) f fd ps (wv K ks (V4 ks n body)):=by
 obtain⟨oc,od,kV,doc,pm,an,g,ct,Z,rfl,lk,I⟩:=Fu.ex;refine xV lk I b (λT H Q E h=>?_) λA c s H T Q E hr h=>?_
 ·obtain⟨O,ds,d,_,m,_⟩:=h;have:=m.len
  lia
 ·obtain⟨O,ds,r0,UQ,m,e,q⟩:=h;refine#[_,hb g A c s H E hr,?_];obtain⟨r,e1,i⟩:=j1 e;have C:N.length-T.length=n:=by have:=m.len;lia
  unfold L2.YW;rw[C];refine#[H,_,_,O,r,Kt m UQ,e1,?_];cases r with
  |rt d'=>obtain rfl:=Zj i;exact λv j s r=>q v j s r
  |rf o=>
   obtain rfl:=Zj i;exact λl j s C W=>q _ j s ((W.same (λ_ z=>z) (JF λa h=>wMa _ h)).rep λu z=>by rw[jA (λy=>UQ l y C)];exact z)
  |nx t=>obtain rfl:=Zj i;exact λR j X M _=>q _ j M.keep rfl
  |xc p t=>obtain rfl:=Zj i;exact λR j X M=>q j M.keep
  |rh d t=>exact Zn i
  |bk t=>exact Zn i
  |ct t=>exact Zn i
end
section
variable{X:Cx}{K:Fr}{E:XK}{e:Expr}{es:L Expr}{st:Stmt}{pos:Pos}{dx:DX}{i kk:Nat}{g:DG}
theorem F_{l}(a:FnOk X.prog X.w X.K X.mg X.base (y8 X.prog X.w) k f fd P (wv K y F))(o:Room k X.A)(C:X.mg x=S (.ref f))(UQ:PySem.W.keepIn X.K (.ref f)=B)(A:Jo X.K fd P [])
  (N:yQ (y8 X.prog X.w) X E) (w:PA X (e::es) (yw K l)) (m:l.map (·.1)=y) (hg:Gl X x) (b:(x==("__debug__"))=G) (he:starEach (e::es) X.env=(G,eval e X.env)::starEach es X.env) (c:(backTo pos (starEach es X.env)).any (·.1)=G):
  PE X (.Call (.Name x p) (e::es) [] pos) (tX K E (uR F l)):=jx (Kh a o hg C UQ A .nil N w b he c) λU H Q W=>by
 obtain⟨T,Z,I,O,r,R,z,q⟩:=W;subst m;obtain⟨n,M,t⟩:=j1 z;refine#[T,Z,I,O,n,R,M,λvs H1 h u=>?_]
 (try dsimp only)
 rw[uFa];refine#[O,n,r,(R.grow h).al,u,t,?_];cases r with
 |ok d=>exact λv j s r=>q v j (h.trans s) r
 |xc p=>exact λj s=>q j (h.trans s)
def hL(h:PS X st (yz (tX K E dx) (yJ i))):PS X st (tS K (PX K E) (zt dx λd b=>S (.nx (b.set i (.cl d))))):=J0 h λD n H k=>by
 obtain⟨l,m,b,O,r,R,t,f⟩:=k;obtain⟨j,o,c⟩:=j1 t;refine#[l,m,b,O,j,R,o,?_];cases j with
 |ok d=>cases c;exact λv a s q=>f _ a O ((R.grow s).set q i) (jf s)
 |xc p=>cases c;exact λa s=>f n a O (R.grow s)
def Dx(h:PS X st (gX (tX K E dx))):PS X st (tS K (PX K E) (zt dx λ_ b=>S (.nx b))):=J0 h λD n H k=>by
 obtain⟨l,m,b,O,r,R,t,f⟩:=k;obtain⟨j,o,c⟩:=j1 t;refine#[l,m,b,O,j,R,o,?_];cases j with
 |ok d=>cases c;exact λv a s q=>f _ a O (R.grow s) (jf s)
 |xc p=>cases c;exact λa s=>f n a O (R.grow s)
def hU(h:PE X e (tX K E dx)):PS X (.Return (S e) pos) (tS K (PX K E) (zt dx λd _=>S (.rt d))):=J0 (vS h) λD n H o=>by
 obtain⟨l,k,j,O,r,R,t,f⟩:=o;obtain⟨b,m,c⟩:=j1 t;refine#[l,k,j,O,b,R,m,?_];cases b with
 |ok d=>cases c;exact λv a s q=>f v a (R.keep.trans s) (q.same (JF R.sub))
 |xc p=>cases c;exact λa s=>f n a O (R.grow s)
def hV(h:PS X st (yz (tX K E dx) (tG K kk g))):PS X st (tS K (PX K E) (zt dx λd b=>(g d b).bind λa=>S (.nx a))):=J0 h λD x H o=>by
 obtain⟨l,k,b,O,r,R,z,f⟩:=o;obtain⟨n,u,m⟩:=j1 z;refine#[l,k,b,O,n,R,u,?_];cases n with
 |ok d=>
  obtain⟨a,w,t⟩:=j1 m;obtain rfl:=Zj t;exact λv j s q=>#[l,k,b,O,d,a,R.grow s,q,w,λc y _=>f c j O y (jf s)]
 |xc p=>obtain rfl:=Zj m;exact λj s=>f x j O (R.grow s)
noncomputable def N7:D->Y V
 |.int i=>S (.int i)
 |.str x=>S (.str x)
 |_=>J
noncomputable def Xr:L D->Y (L V)
 |[]=>S []
 |d::b=>(N7 d).bind λv=>(Xr b).bind λa=>S (v::a)
theorem Cq:∀{j a b c},yb K O H j a b->Xr a=S c->b=c
 |[],[],[],_,_,e=>by cases e;rfl
 |k::j,d::a,v::b,_,h,e=>by
  obtain⟨y,l,e⟩:=j1 e;obtain⟨n,m,e⟩:=j1 e;cases e;rw[Cq h.2 m];have f:RB K O H d v:=by
   cases k
   ·exact h.1
   ·exact .inl h.1
  cases d<;>cases l
  ·rw[f.int]
  ·rw[f.str]
 |[],[],_::_,_,h,_=>h.elim
 |[],_::_,_,_,h,_=>h.elim
 |_::_,[],_,_,h,_=>h.elim
 |_::_,_::_,[],_,h,_=>h.elim
@[simp] noncomputable def U_(c:Str)(a:jr):Y Rs:=S (.xc (c,[]) a)
@[simp] noncomputable def Bc(c:Str)(a:L Str)(l:DA)(d:jr):Y Rs:=(Ys l d).bind λf=>(Xr f).bind λb=>if b.length=a.length/\a≠[]then S (.xc (c,(a.zip b).reverse) d)else J
def MO(h:PS X st (λ_ _ H=>E (.ref (jz K c)) J H)):PS X st (tS K (PX K E) (U_ c)):=J0 h λD a H b=>by
 obtain⟨k,l,j,O,r,R,d,f⟩:=b;obtain rfl:=Zj d;exact f a H O R
def L4(h:PS X st (λ_ k H=>yw K l k H λm j=>m.length=d.length/\∀dx,j dx=J->E (.ref (jz K c)) (S dx) (upd j dx (xW dx (d.zip m).reverse)))):PS X st (tS K (PX K E) (Bc c d l)):=J0 h λD k H y=>by
 obtain⟨u,z,p,O,r,R,a,f⟩:=y;obtain⟨t,v,a⟩:=j1 a;obtain⟨w,A,a⟩:=j1 a;by_cases b:w.length=d.length/\d≠[]
 ·rw[if_pos b]at a;obtain rfl:=Zj a;refine#[u,z,p,O,t,R,v,λm j s x=>?_];have:=Cq x A;subst this;have n:=f k j O (R.grow s);unfold PX at n;refine#[b.1,?_];split at n
  ·have o:=congrArg List.length (by assumption);rw[List.length_reverse,List.length_zip,b.1,Nat.min_self]at o;exact vDa (List.length_eq_zero_iff.mp o) b.2
  ·exact n
 ·rw[if_neg b]at a;exact Zn a
end
def Rel.un{K:Fr}{w H r O o t}(R:Rel K w r o t H O)(i v):Rel K w r (o.set i .un) (t.set i v) H O where
 len:=by rw[List.length_set,List.length_set];exact R.len
 lo:=R.lo.up (λj q x e=>UT (by intro _ _ z;cases z) e) (λa _ z=>GH (by intro _ _ z;cases z) R.len z) (λa h _=>#[h,λu z=>z]) (j4.refl _)
 sub:=R.sub
 fr:=R.fr
 al0:=R.al0
 al:=R.al
 keep:=R.keep
 cl:=λj d e=>by
  rcases jo e with⟨rfl,b,f⟩|⟨c,b⟩
  ·cases b
  ·rw[j_ c];exact R.cl j d b
 bo:=λj d e=>by
  rcases jo e with⟨rfl,b,f⟩|⟨c,b⟩
  ·cases b
  ·rw[j_ c];exact R.bo j d b
 ow:=λj N d e=>by
  rcases jo e with⟨rfl,b,f⟩|⟨c,b⟩
  ·cases b
  ·rw[j_ c];exact R.ow j N d b
 dist:=λj k y M C I l A F s p=>by
  rcases jo A with⟨rfl,b,f⟩|⟨c,g⟩
  ·cases b
  ·rcases jo F with⟨rfl,b,f⟩|⟨n,m⟩
   ·cases b
   ·rw[j_ c]at s;rw[j_ n]at p;exact R.dist j k y M C I l g m s p
section
variable{X:Cx}{K:Fr}{a:Expr}{da:DE}{pos p p2:Pos}{C f:Str}{ex:L Str}
theorem Kw:∀{l:L (Str×b)},l.lookup x=S g->(x,g)∈l
 |[],h=>Zn h
 |(y,c)::r,h=>by
  rw[List.lookup_cons]at h;cases e:x==y
  ·rw[e]at h;exact wMa _ (Kw h)
  ·simp_all
noncomputable def yj(ex:L Str)(C:Str):D->Y D
 |.exn c _=>if ex.contains c=B then S (.bl (c==C))else J
 |_=>J
@[simp] theorem N8(ex C c b):yj ex C (.exn c b)=if ex.contains c=B then S (.bl (c==C))else J:=rfl
def L5(t:PE X a (tR K da))(n:PE X (.Name C p2) (tC (.ref j)))(UQ:Gl X "isinstance")(A:X.mg "isinstance" = J)(g:starEach (a::[.Name C p2]) X.env=(G,eval a X.env)::starEach [.Name C p2] X.env)(s:X.K=K)
  (P:∀c∈ex,ExC K (jz K c)/\PySem.W.kitOne K (.ref (jz K c)) (.ref j)=S (c==C)):PE X (.Call (.Name "isinstance" p) [a,.Name C p2] [] pos) (tE K (d1 (yj ex C) da)):=
 jx (zG b_ UQ A PyProof.Rows.boot_isinstance (Jx t (Jx n Yc) g) (by decide) rfl g) λW H Q M=>by
  obtain⟨o,I,h,O,d,R,z,q⟩:=M;obtain⟨x,i,b⟩:=j1 z;refine#[o,I,h,O,x,R,i,λv l m w=>?_];cases x with
  |exn c Z=>
   have b:(if ex.contains c=B then S _ else J)=S d:=b;split at b
   ·obtain rfl:=Zj b;have T:=w.full;obtain⟨e,k,rfl,N,_⟩:=T;obtain⟨y,F⟩:=P c (List.contains_iff_mem.mp (by assumption));subst s;exact#[e,_,k,_,_,_,rfl,(λu r=>r),N,y,F,q _ l m rfl]
   ·exact Zn b
  |_=>exact Zn b
noncomputable def Kx:V->Y D
 |.int i=>S (.int i)
 |.str x=>S (.str x)
 |_=>J
@[simp] theorem N9(i):Kx (.int i)=S (.int i):=rfl
@[simp] theorem Na(i):Kx (.str i)=S (.str i):=rfl
@[simp] noncomputable def g6(d:L (Str×Str))(f:Str):D->Y D
 |.exn c b=>if d.contains (c,f)=B then(b.lookup f).bind Kx else J
 |_=>J
def L6(r:PE X a (tR K da))(u:attributeBase a f X.env (eval a X.env)=eval a X.env)(s:X.K=K)(I:∀p∈i,ExG K (jz K p.1) p.2):PE X (.Attribute a f pos) (tE K (d1 (g6 i f) da)):=
 jx (FY r u) λZ H Q UQ=>by
  obtain⟨o,T,j,O,d,R,w,q⟩:=UQ;obtain⟨x,y,b⟩:=j1 w;refine#[o,T,j,O,x,R,y,λv k l M=>?_];cases x with
  |exn c h=>
   have b:(if i.contains (c,f)=B then(h.lookup f).bind Kx else J)=S d:=b;split at b
   ·obtain⟨v,m,F⟩:=j1 b;have g:=Kw m;have n:=M.full;obtain⟨e,od,rfl,N,W⟩:=n;obtain⟨A,rfl,P⟩:=W (λz=>by rw[z]at g;cases g);have t:=I (c,f) (List.contains_iff_mem.mp (by assumption));subst s;refine#[e,_,A,h,v,rfl,N,P,g,t,q _ k l ?_];cases v<;>cases F<;>rfl
   ·exact Zn b
  |_=>exact Zn b
end
structure Hd where
 cs:L Str
 no:L Str
 i:Nat
 d:DS
noncomputable def Uu(i:Nat):Rs->Rs
 |.nx a=>.nx (a.set i .un)
 |.bk a=>.bk (a.set i .un)
 |.ct a=>.ct (a.set i .un)
 |.xc p a=>.xc p (a.set i .un)
 |.rh d a=>.rh d (a.set i .un)
 |r=>r
@[simp] theorem NW(i a):Uu i (.nx a)=.nx (a.set i .un):=rfl
@[simp] theorem NX(i p a):Uu i (.xc p a)=.xc p (a.set i .un):=rfl
@[simp] theorem NY(i p a):Uu i (.rh p a)=.rh p (a.set i .un):=rfl
@[simp] theorem NZ(i a):Uu i (.bk a)=.bk (a.set i .un):=rfl
@[simp] theorem N_(i a):Uu i (.ct a)=.ct (a.set i .un):=rfl
@[simp] theorem o4(i a):Uu i (.rt a)=.rt a:=rfl
@[simp] theorem o5(i a):Uu i (.rf a)=.rf a:=rfl
noncomputable def qc:L Hd->Xp->DS
 |[],_,_=>J
 |h::t,p,a=>if h.cs.contains p.1=B then(if h.i<a.length then(h.d (a.set h.i (.cl (.exn p.1 p.2)))).bind λr=>S (Uu h.i r)else J)else if h.no.contains p.1=B then qc t p a else J
noncomputable def QM(K:Fr)(g:Xp->Hp->Prop)(i:L Hd):TH:=λa h e D j H=>∃c f d O p r,Rel K c f d j H O/\a=.ref (jz K p.1)/\(p.2≠[]->∃b,h=S b/\j6 H O b=S (xW b p.2))/\H e=J/\qc i p d=S r/\Fin K g c f H O D r
section
variable{X:Cx}{K:Fr}{Px:Xp->Hp->Prop}{x n:Str}{np hpos tpos pos:Pos}{bd su:L Stmt}{b₀:Stmt}{h₀:ExceptHandler}{hs:L ExceptHandler}{Dc:Addr}{h:Hd}{t:L Hd}{dx:DX}{db:DS}
def hX:PH X [] (QM K Px []):=λ_ _ _ _ _ _ _ _ _ a=>by
 obtain⟨_,_,_,_,_,_,_,_,_,_,z,_⟩:=a;exact Zn z
def Be(P:X.N.Nodup)(hi:X.N[h.i]?=S n)(F:X.env.kindOf n=S .local)(A:Gl X x)(N:X.mg x=S (.ref Dc))(Q:(x==("__debug__"))=G)(hK:X.K=K)
  (h1:∀c∈h.cs,PySem.W.exmOne K (.ref (jz K c)) (.ref Dc)=S B) (h2:∀c∈h.no,PySem.W.exmOne K (.ref (jz K c)) (.ref Dc)=S G)
  (hu:∀e,Jb (X.sui e) (b₀::su) (λD u H=>u[h.i]?=S (S (.ref e))/\tS K Px h.d D u H)) (hr:PH X hs (QM K Px t)):PH X (.ExceptHandler (S (.Name x np)) (S n) (b₀::su) hpos::hs) (QM K Px (h::t)):=λm u H e M w s D a xx=>by
 refine lZ P hi F A N Q hu hr m u H e M w s D a ?_;obtain⟨Z,UQ,ρ,O,p,r,R,rfl,T,y,l,f⟩:=xx;rw[hK];unfold qc at l;by_cases I:h.cs.contains p.1=B
 ·rw[if_pos I]at l;refine#[B,h1 _ (List.contains_iff_mem.mp I),?_];by_cases hl:h.i<ρ.length
  ·rw[if_pos hl]at l;obtain⟨r',e1,e2⟩:=j1 l;obtain rfl:=Zj e2;refine#[_,rfl,Zc (by rw[R.len];exact hl),Z,UQ,_,O,r',?_,e1,?_]
   ·have su:=jM y (xC e (jz K p.1) w);refine(R.grow su).set ?_ h.i;refine#[e,w,rfl,by rw[jA (R.new y)];exact jj,λz=>?_];obtain⟨dx,z1,z2⟩:=T z;exact#[dx,z1,jf su _ _ z2]
   ·have C:j4 _ (j6 (upd H e (xC e (jz K p.1) w)) O):=jf (jM y _);cases r' with
    |nx g=>exact λk i j b t=>f _ i j (b.un h.i J) (C.trans t)
    |bk g=>exact λk i j b t=>f _ i j (b.un h.i J) (C.trans t)
    |ct g=>exact λk i j b t=>f _ i j (b.un h.i J) (C.trans t)
    |rt d=>exact f
    |rf o=>exact f
    |xc p g=>exact λk i j b=>f _ i j (b.un h.i J)
    |rh d g=>exact λv k i j b=>f v _ i j (b.un h.i J)
  ·simp_all
 ·rw[if_neg I]at l;by_cases W:h.no.contains p.1=B
  ·rw[if_pos W]at l;refine#[G,h2 _ (List.contains_iff_mem.mp W),?_];exact#[Z,UQ,ρ,O,p,r,R,rfl,T,y,l,f]
  ·simp_all
end
end DS
namespace L2
open PySem PySem.Spec PyProof.Rows
noncomputable def uS:Kd->Bool
 |.l=>B
 |.t=>B
 |_=>G
noncomputable def Cr(K:uXa)(b:TE):TE:=λc H Q=>b c H λx a=>∃k,bL K a x k/\∀p,a p=J->Q (.bl (uS k)) (upd a p (.tup [.ty "list",.ty "tuple"]))
theorem Dy(M:Gl X "isinstance")(P:X.mg "isinstance" = J)(N:Gl X "list")(W:X.mg "list" = J)(hgt:Gl X "tuple")(hmt:X.mg "tuple" = J)(he:PE X e te)
  (hs:starEach [e,.Tuple [.Name "list" n,.Name "tuple" m] y r] X.env=(G,eval e X.env)::starEach [.Tuple [.Name "list" n,.Name "tuple" m] y r] X.env:=by rfl)
  (z:starEach [.Tuple [.Name "list" n,.Name "tuple" m] y r] X.env=(G,eval (.Tuple [.Name "list" n,.Name "tuple" m] y r) X.env)::starEach [] X.env:=by rfl):
  PE X (.Call (.Name "isinstance" p) [e,.Tuple [.Name "list" n,.Name "tuple" m] y r] [] pos) (Cr X.K te):=by
 intro i s U H Q I h;refine wpAny_Call_Name_kw (ub I M P boot_isinstance ?_);refine PyProof.Rows.callWith_builtin1 ?_ hs (by rw[z];rfl);rw[hs];refine Calls.spliced_cons (jv (he i s U H _ I h) λu s1 ⟨x,H1,I1,v,k,l,q⟩=>?_);rw[z];show wpAny _ _ (spliced ((G,eval (.Tuple [.Name "list" n,.Name "tuple" m] y r) X.env)::backTo pos (starEach [] X.env))) _ _ s1;refine Calls.spliced_cons ?_;have hpa:PA X [.Name "list" n,.Name "tuple" m] (ZD (tC (.ty "list")) (ZD (tC (.ty "tuple")) UN)):=Jx (Kf N W boot_list rfl) (Jx (Kf hgt hmt boot_tuple rfl) Yc);refine wpAny_Tuple_spliced (jv (hpa r i s1 U H1 (λvs C=>vs=[.ty "list",.ty "tuple"]/\C=H1) I1 #[rfl,rfl]) λus j ⟨xs,C,A,r2,e1,e2⟩=>?_);subst e1 e2;have eu:us=[.type "list",.type "tuple"]:=by
  cases r2 with
  |cons a b=>
   cases b with
   |cons c d=>
    cases d;subst a;subst c;rfl
 subst eu;refine#[UR,Calls.spliced_nil ?_];have hf:C j.heap.objs.size=J:=A.hok.fresh (wPa _);have I3:=A.laid (h':=j.heap.push {cls:=.type "tuple",data:=.seq ([.type "list",.type "tuple"]:L Value).toArray}) (t':=j.toks) (o:=.tup [.ty "list",.ty "tuple"]) (λb u e=>wIa _ e) (wPa _)
  #[UR,[.type "list",.type "tuple"],.cons rfl (.cons rfl .nil),#[_,wJa _ rfl,rfl,_,rfl]]
 have g:∀b f,b=uS k->EP X i U Q (.bool b) {j with heap:=j.heap.push {cls:=.type "tuple",data:=.seq ([.type "list",.type "tuple"]:L Value).toArray},toks:=f}:=λb f eb=>by
  subst eb;exact#[.bl (uS k),_,I3.tok f,rfl,q _ hf]
 have w:∀a o,j.heap.get? a=S o->(j.heap.push {cls:=.type "tuple",data:=.seq ([.type "list",.type "tuple"]:L Value).toArray}).get? a=S o:=λa o e=>wIa _ e;cases k with
 |i=>
  cases x<;>try exact l.elim
  obtain⟨t,rfl⟩:=v;exact IsiPair.tupleOf (Tx:="int") (cs:=[.type "list",.type "tuple"]) (vs:=[G,G]) #[Answers.of_false_int (by decide +kernel) F.isi_meta_list F.sub_int_list,Answers.of_false_int (by decide +kernel) F.isi_meta_tuple F.sub_int_tuple,trivial] rfl (wJa _ rfl) λf=>g _ f rfl
 |b=>
  cases x<;>try exact l.elim
  cases v;exact IsiPair.tupleOf (Tx:="bool") (cs:=[.type "list",.type "tuple"]) (vs:=[G,G]) #[Answers.of_false_bool (by decide +kernel) F.isi_meta_list F.sub_bool_list,Answers.of_false_bool (by decide +kernel) F.isi_meta_tuple F.sub_bool_tuple,trivial] rfl (wJa _ rfl) λf=>g _ f rfl
 |s=>
  cases x<;>try exact l.elim
  obtain⟨t,rfl⟩:=v;exact IsiPair.tupleOf (Tx:="str") (cs:=[.type "list",.type "tuple"]) (vs:=[G,G]) #[Answers.of_false_str (by decide +kernel) F.isi_meta_list F.sub_str_list,Answers.of_false_str (by decide +kernel) F.isi_meta_tuple F.sub_str_tuple,trivial] rfl (wJa _ rfl) λf=>g _ f rfl
 |l=>
  cases x<;>try exact l.elim
  cases v;obtain⟨ys,UQ⟩:=l;obtain⟨O,rv,R,_⟩:=A.list UQ;obtain⟨o,Z,T,_⟩:=R.isList;exact IsiPair.tupleOf (Tx:="list") (cs:=[.type "list",.type "tuple"]) (vs:=[B,G]) #[Answers.of_true F.isi_meta_list F.sub_list_list,Answers.of_false_list (by decide +kernel) F.isi_meta_tuple F.sub_list_tuple,trivial] #[o,w _ _ Z,T] (wJa _ rfl) λf=>g _ f rfl
 |t=>
  cases x<;>try exact l.elim
  cases v;obtain⟨ys,UQ⟩:=l;obtain⟨O,rv,R,_⟩:=A.tuple UQ;obtain⟨o,Z,T,_⟩:=R;exact IsiPair.tupleOf (Tx:="tuple") (cs:=[.type "list",.type "tuple"]) (vs:=[G,B]) #[Answers.of_false_tuple (by decide +kernel) F.isi_meta_list F.sub_tuple_list,Answers.of_true F.isi_meta_tuple F.sub_tuple_tuple,trivial] #[o,w _ _ Z,T] (wJa _ rfl) λf=>g _ f rfl
end L2
namespace DS
open PySem PySem.Spec PyProof.Rows L2
section
variable{X:Cx}{K:Fr}{de:DE}
@[simp] noncomputable def Xs:D->Y D:=λd=>(Cj d).bind λk=>S (.bl (uS k))
def hZ(h:PE X g (Cr X.K (tR K de)))(j:X.K=K:=by rfl):PE X g (tE K (d1 Xs de)):=jx h λo H Q x=>by
 subst j;obtain⟨c,f,l,O,d,R,m,q⟩:=x;obtain⟨x,e,a⟩:=j1 m;obtain⟨k,i,a⟩:=j1 a;obtain rfl:=Zj a;exact#[c,f,l,O,x,R,e,λv n s r=>#[k,Cl i r,λp b=>q _ _ (s.trans (jM b _)) rfl]]
end
end DS
namespace L2
open PySem PySem.Spec PyProof.Rows
end L2
namespace DS
open PySem PySem.Spec PyProof.Rows L2
end DS
namespace L2
open PySem PySem.Spec PyProof.Rows
end L2
namespace DS
open PySem PySem.Spec PyProof.Rows L2
theorem QN:∀{a l:L KD},a.Nodup->(∀k∈a,k∈l)->a.length<=l.length
 |[],_,_,_=>Nat.zero_le _
 |k::a,l,f,h=>by
  obtain⟨e,d⟩:=List.nodup_cons.mp f;have c:=h k wNa;have:=QN d λj b=>(List.mem_erase_of_ne (λz:j=k=>e (by rw[<-z];exact b))).mpr (h j (wMa _ b));rw[List.length_erase_of_mem c]at this;have:=List.length_pos_of_mem c;rw[vXa]
  lia
mutual
theorem Cs(I:Inv X d p H s):∀{k v u},ZW X.K H k v->jp v u->JP s.heap k u
 |.i n,v,u,h,r=>by
  rcases h with rfl|⟨b,rfl,e⟩
  ·exact .inl r
  ·exact .inr #[b,r,e]
 |.s x,v,u,h,r=>by
  subst h;exact r
 |.t l,v,u,h,r=>by
  obtain⟨a,c,rfl,t,q⟩:=h;subst r;obtain⟨w,j,g,_⟩:=I.tuple (show yg X.K H a c from t);exact#[a,_,rfl,g,by simpa using Aa I q j]
theorem Aa(I:Inv X d p H s):∀{i c f},vp X.K H i c->jl c f->ye s.heap i f
 |[],c,f,h,r=>by
  subst h;cases r;rw[ye]
 |k::i,c,f,h,r=>by
  obtain⟨v,t,rfl,o,m⟩:=h;cases r with
  |cons j g=>
   exact#[_,_,rfl,Cs I o j,Aa I m g]
end
mutual
theorem Ab{K:Fr}:∀{d k v},jI K H d v->Jc d=S k->ZW K H k v
 |.int i,k,v,h,e=>by
  cases e;exact .inl h
 |.bl i,k,v,h,e=>by
  obtain rfl:=Zj e;exact .inr #[i,h,rfl]
 |.str i,k,v,h,e=>by
  obtain rfl:=Zj e;exact h
 |.tup l,k,v,h,e=>by
  obtain⟨c,f,g⟩:=j1 e;obtain rfl:=Zj g;obtain⟨a,b,rfl,q,j⟩:=h;exact#[a,b,rfl,q,QO j f]
 |.non,k,v,h,e=>by rw[Jc]at e<;>first|exact Zn e|(intros;contradiction)
 |.lst _,k,v,h,e=>by rw[Jc]at e<;>first|exact Zn e|(intros;contradiction)
 |.ins _ _ _,k,v,h,e=>by rw[Jc]at e<;>first|exact Zn e|(intros;contradiction)
 |.obj _ _ _ _ _,k,v,h,e=>by rw[Jc]at e<;>first|exact Zn e|(intros;contradiction)
 |.scr _,k,v,h,e=>by rw[Jc]at e<;>first|exact Zn e|(intros;contradiction)
 |.dct _ _,k,v,h,e=>by rw[Jc]at e<;>first|exact Zn e|(intros;contradiction)
 |.exn _ _,k,v,h,e=>by rw[Jc]at e<;>first|exact Zn e|(intros;contradiction)
 |.mem _,k,v,h,e=>by rw[Jc]at e<;>first|exact Zn e|(intros;contradiction)
 |.dk _ _,k,v,h,e=>by rw[Jc]at e<;>first|exact Zn e|(intros;contradiction)
theorem QO{K:Fr}:∀{l c b},j7 K H l b->ZF l=S c->vp K H c b
 |[],c,b,h,e=>by
  obtain rfl:=Zj e;exact h
 |d::l,c,b,h,e=>by
  obtain⟨k,f,e⟩:=j1 e;obtain⟨n,g,e⟩:=j1 e;obtain rfl:=Zj e;obtain⟨v,p,rfl,m,o⟩:=h;exact#[_,_,rfl,Ab m f,QO o g]
end
noncomputable def L7(K:Fr)(l:L (KD×Bool)):TE:=λ_ H Q=>∀p,H p=J->Q (.ref p) (upd H p (.mem K l []))
def Dz{K l a}(c:l.length<=sizeLine):PE X (.Dict [] [] a) (L7 K l):=λb s d H Q I h=>
 wpAny_Dict_empty #[.ref _,_,I.laid (o:=.mem K l []) (λ_ _ q=>wIa _ q) (wPa _)
  #[c,beq_eq_false_iff_ne.mpr (Ne.symm (wTa (Inv.big I))),[],(λ_ z=>nomatch z),(λ_ z=>nomatch z),_,#v[],_,wJa _ rfl,#[rfl,rfl,rfl],rfl,rfl,List.nodup_nil],rfl,h _ (I.hok.fresh (wPa _))]
def GP(I:Inv X e v H s)(h:H a=S (.mem X.K l m)):l.length<=sizeLine/\(a==sysModules)=G/\∃b:L (KD×Addr×Bool),(∀q∈b,(q.1,q.2.2)∈l/\ZW X.K H q.1 (.ref q.2.1)/\q.1.dep<=8)/\(∀k∈m,k∈b.map (·.1))/\(b.map (·.1)).Nodup/\s.heap.DictOfH (UI X.prog X.w) a (b.map λq=>(q.1,q.2.1,Value.bool q.2.2)):=by
 obtain⟨z,y,b,r,p,o,f,u,g,n,t,i,c⟩:=I.hok a _ h;refine#[z,y,b,r,p,c,o,f,u,g,n,t,i,λx j=>?_,by rw[List.map_map];exact c];obtain⟨q,d,rfl⟩:=uVa j;exact#[Cs I (r q d).2.1 rfl,(r q d).2.2]
theorem Gb:∀a:L (KD×Addr×Bool),(∃q∈a,q.1=k/\atKey (a.map λq=>(q.1,q.2.1,Value.bool q.2.2)) k=S (q.2.1,.bool q.2.2))\/(atKey (a.map λq=>(q.1,q.2.1,Value.bool q.2.2)) k=J/\k∉a.map (·.1))
 |[]=>.inr #[rfl,λz=>nomatch z]
 |q::a=>by
  unfold atKey;rw[vWa,List.find?_cons];by_cases h:q.1=k
  ·rw[decide_eq_true h];exact .inl #[q,wNa,h,rfl]
  ·rw[decide_eq_false h];rcases Gb a with⟨p,b,e,z⟩|⟨z,n⟩
   ·exact .inl #[p,wMa _ b,e,z]
   ·refine .inr #[z,λy=>?_];rcases uTa y with y|y
    ·exact h y.symm
    ·exact n y
def uT{K:Fr}{l m c}(h:H a=S (.mem K l m)){k v}(q:ZW K H k v):ZW K (upd H a (.mem K l c)) k v:=
 q.stay λb u t e=>by
  rw[ja λz=>by rw[z,h]at e;obtain rfl:=Zj e;exact t];exact e
def Inv.memo{l t}{d:L (KD×Addr×Bool)}(I:Inv X b x H s)(h:H a=S (.mem X.K l m))(z:l.length<=sizeLine)(y:(a==sysModules)=G)(r:∀q∈d,(q.1,q.2.2)∈l/\ZW X.K H q.1 (.ref q.2.1)/\q.1.dep<=8)(n:(d.map (·.1)).Nodup)
  (j:s.heap.DictOfH (UI X.prog X.w) a (d.map λq=>(q.1,q.2.1,Value.bool q.2.2))) (u:∀k∈m',k∈d.map (·.1)):Inv X b x (upd H a (.mem X.K l m')) {s with toks:=t}:=by
 obtain⟨o,p,i,g,v,w,A,_,_⟩:=j;exact I.write (by rw[h];trivial) (.inl rfl) (λc z C e=>e) #[_,g] #[z,y,d,λq f=>#[(r q f).1,uT h (r q f).2.1,(r q f).2.2],u,o,p,i,g,v,w,A,n]
noncomputable def L8(K:Fr):R2:=λx y H Q=>∃a b l k c,x=.ref b/\y=.ref a/\H a=S (.mem K l [])/\jI K H c (.ref b)/\zQ c=S k/\Q (.bl B) H/\Q (.bl G) (upd H a (.mem K l [k]))
def qd(m:Room n X.A):jW X (compareOp .NotIn) (L8 X.K):=by
 intro c s P H x y v u Q I C w h;obtain⟨a,b,l,k,T,rfl,rfl,f,F,p,o,M⟩:=h;subst C;subst w;obtain⟨i,g,t,r,R,O,d⟩:=GP I f;refine wpAny_notIn_heap (Ku m) (WW I F p) g d ?_;rcases Gb t with⟨q,A,e,z⟩|⟨z,n⟩
 ·rw[z];exact#[.bl G,_,Inv.memo I f i g r O d λj N=>by
   obtain rfl:=List.mem_singleton.mp N;exact List.mem_map.mpr #[q,A,e],rfl,M]
 ·rw[z];exact#[.bl B,H,I.tok _,rfl,o]
noncomputable def Ct(K:Fr):R2:=λx y H Q=>∃a b l k c,x=.ref a/\y=.ref b/\H a=S (.mem K l [k])/\jI K H c (.ref b)/\zQ c=S k/\∀v,(k,v)∈l->Q (.bl v) (upd H a (.mem K l []))
def h_(N:Room n X.A):Ur X (Ct X.K):=by
 intro f c i s T H x y v u Q I A F h m;obtain⟨a,b,l,k,UQ,rfl,rfl,g,C,P,q⟩:=h;subst A;subst F;obtain⟨w,o,M,r,t,R,d⟩:=GP I g;rcases Gb M with⟨p,j,e,z⟩|⟨z,n⟩
 ·exact tail_any d.typeIs slot_dict_getitem.lookup (wpAny_getItem_heap (Ku N) (WW I C P) d z #[.bl p.2.2,_,Inv.memo (m':=[]) I g w o r R d λ_ O=>(nomatch O),rfl,q _ (e▸(r p j).1)]) m
 ·exact vDa (t k wNa) n
def DB(a:L (KD×Addr×Bool))(k b c):∃g:L _,storedH (a.map λq=>(q.1,q.2.1,Value.bool q.2.2)) k b (.bool c)=(g.map λq=>(q.1,q.2.1,Value.bool q.2.2))/\(∀q∈g,q∈a\/q.1=k/\q.2.2=c/\(q.2.1=b\/∃p∈a,p.1=k/\p.2.1=q.2.1))/\k∈g.map (·.1):=by
 rcases Gb a with⟨p,d,e,z⟩|⟨z,n⟩
 ·refine#[a.map λq=>if q.1=k then(q.1,q.2.1,c)else q,?_,λq f=>?_,?_]
  ·rw[storedH_old z,List.map_map,List.map_map];refine List.map_congr_left λq _=>?_;unfold putAt;by_cases h:q.1=k<;>simp[h]
  ·obtain⟨p,d,rfl⟩:=uVa f;by_cases h:p.1=k
   ·rw[if_pos h];exact .inr #[h,rfl,.inr #[p,d,h,rfl]]
   ·rw[if_neg h];exact .inl d
  ·refine List.mem_map.mpr #[_,List.mem_map.mpr #[p,d,if_pos e],e]
 ·refine#[a++[(k,b,c)],?_,λq f=>?_,?_]
  ·rw[storedH_new z,uDa];rfl
  ·rcases uWa f with h|h
   ·exact .inl h
   ·obtain rfl:=List.mem_singleton.mp h;exact .inr #[rfl,rfl,.inl rfl]
  ·rw[uDa];exact vJa _ wNa
noncomputable def L9(K:Fr):V->V->V->Hp->(Hp->Prop)->Prop:=λo i v H Q=>∃a b l k d c,o=.ref a/\i=.ref b/\v=.bl c/\H a=S (.mem K l [])/\jI K H d (.ref b)/\zQ d=S k/\(k,c)∈l/\Q (upd H a (.mem K l [k]))
def DC(hr:Room n X.A):xH X (L9 X.K):=by
 intro O s U H o i v ov iv u Q I ro T rv h;obtain⟨a,b,l,k,dk,c,rfl,rfl,rfl,f,C,x,g,q⟩:=h;subst ro;subst T;subst rv;obtain⟨R,Z,M,r,rm,nd,dd⟩:=GP I f;have hz:(M.map λq=>(q.1,q.2.1,Value.bool q.2.2)).length<=sizeLine:=by
  have y:=QN (l:=l.map (·.1)) nd λj t=>by
   obtain⟨p,m,rfl⟩:=uVa t;exact List.mem_map.mpr #[_,(r p m).1,rfl]
  rw[vYa,vYa]at y;rw[vYa]
  lia
 obtain⟨ys,W,hy,ky⟩:=DB M k b c;refine wpAny_setItem_heap (hsz:=hz) (Ku hr) (WW I C x) dd λh' d UQ=>?_;rw[W]at d;obtain⟨o,es,ep,F,e2,e3,e4,_,N⟩:=d;have w:Jh X.prog X.w (upd H a (.mem X.K l [k])) h' a (.mem X.K l [k]):=#[R,Z,ys,λq hq=>?_,λj t=>by obtain rfl:=List.mem_singleton.mp t;exact ky,o,es,ep,F,e2,e3,e4,by rw[List.map_map]at N;exact N]
 ·exact#[_,I.write (by rw[f];trivial) (.inl rfl) (λc z g e=>(UQ.2 c g).trans e) #[_,F] w,q]
 ·rcases hy q hq with h|⟨y,h2,A⟩
  ·exact#[(r q h).1,uT f (r q h).2.1,(r q h).2.2]
  ·rw[y,h2];rcases A with A|⟨p,m,p1,P⟩
   ·rw[A];exact#[g,uT f (Ab C (ZR x).1),(ZR x).2]
   ·rw[<-P];have:=r p m;rw[p1]at this;exact#[g,uT f this.2.1,this.2.2]
noncomputable def rest(O:L _)(l)(b:L Addr):=O.filter λa=>!(l::b).contains a
def yk:a∈rest O l b↔a∈O/\a∉l::b:=by
 unfold rest;simp
section
variable{K:Fr}{H0 H H1 H':Hp}{O0:FA}{O ps ps':L Addr}{ρ:jr}{U:L2.St}{i:Nat}{q:Bool}{h h':HS}{l:Addr}
structure LoI (K:Fr) (H0:Hp) (P) (ρ:jr) (U:L2.St) (H O) (i:Nat) (q h l ps) where
 e:ρ[i]?=S (.lo q h)
 s:U[i]?=S (S (.ref l))
 p:q=B->l=P
 x:yS K H (j6 H O) l ps h
 n:(l::ps).Nodup
 f:∀a∈l::ps,a∈O/\H0 a=J/\¬uO ρ U a
 u:∀j q' h',ρ[j]?=S (.lo q' h')->j=i
def Rel.loi(R:Rel K H0 O0 ρ U H O)(e:ρ[i]?=S (.lo q h)):∃l ps,LoI K H0 O0.p ρ U H O i q h l ps:=by
 obtain⟨l,ps,a,b,c,d,f,u⟩:=R.lo i q h e;exact#[l,ps,e,a,b,c,d,f,u]
def LoI.grow(b:LoI K H0 P ρ U H O i q h l ps)(s:j4 H H'):LoI K H0 P ρ U H' O i q h l ps:=#[b.e,b.s,b.p,b.x.mono (λa _ u z=>s a u z) (jf s),b.n,b.f,b.u]
def Rel.hmove(R:Rel K H0 O0 ρ U H O)(f:LoI K H0 O0.p ρ U H O i q h l ps)(k:j4 (j6 H (l::ps)) H')(UQ:yS K H' (j6 H' (l::ps'++rest O l ps)) l ps' h')(nd:(l::ps').Nodup)(Q:∀a∈ps',a∈ps\/H a=J):
  Rel K H0 O0 (ρ.set i (.lo q h')) U H' (l::ps'++rest O l ps)/\j4 (j6 H O) (j6 H' (l::ps'++rest O l ps)):=by
 have x:=λb u z n=>k b u (by rw[jA n];exact z);have t:∀a∈l::ps'++rest O l ps,a∈O\/H a=J:=λa p=>by
  rcases uWa p with z|z
  ·rcases uTa z with rfl|z
   ·exact .inl (f.f a wNa).1
   ·rcases Q a z with z|z
    ·exact .inl (f.f a (wMa _ z)).1
    ·lia
  ·exact .inl (yk.mp z).1
 have z0:∀a∈l::ps'++rest O l ps,a∈l::ps'->H0 a=J:=λa _ z=>by
  rcases uTa z with rfl|z
  ·exact(f.f a wNa).2.1
  ·rcases Q a z with z|z
   ·exact(f.f a (wMa _ z)).2.1
   ·exact R.keep.none z
 have P:j4 (j6 H O) (j6 H' _):=λb u z=>by
  obtain⟨F,C⟩:=jZ z;rw[jA (λy=>by rcases t b y with y|y;exact F y;rw[C]at y;exact Zs y)];exact x b u C λy=>F (f.f b y).1
 refine#[#[by rw[List.length_set];exact R.len,λa p=>?_,λa p=>?_,R.al0,λa p=>?_,λb u z=>?_,λj d e=>?_,λj d e=>?_,λj I o e=>?_,λj k2 q1 I ds es s e1 e2 Z s2=>?_,λj I h2 e=>?_],P]
 ·exact vJa _ (yk.mpr #[R.sub a p,λz=>R.al0 a p (f.f a z).2.1])
 ·rcases t a p with z|z
  ·exact R.fr a z
  ·exact .inr (R.keep.none z)
 ·rcases uWa p with z|z
  ·obtain⟨o,e⟩:=UQ.at a z;rw[e];exact λz=>nomatch z
  ·obtain⟨F,C⟩:=yk.mp z;cases y:H a with
   |none=>exact vDa y (R.al a F)
   |some u=>rw[x a u y C];exact λz=>nomatch z
 ·exact x b u (R.keep b u z) λy=>by rw[(f.f b y).2.1]at z;exact Zn z
 ·rcases jo e with⟨rfl,g,_⟩|⟨A,g⟩
  ·cases g
  ·obtain⟨v,a,b⟩:=R.cl j d g;exact#[v,a,b.same P]
 ·rcases jo e with⟨rfl,g,_⟩|⟨A,g⟩
  ·cases g
  ·exact R.bo j d g
 ·rcases jo e with⟨rfl,g,_⟩|⟨A,g⟩
  ·cases g
  ·obtain⟨s,z,a,b,c,d⟩:=R.ow j I o g;have T:=λy=>(f.f s y).2.2 #[j,_,_,g,a];exact#[s,z,a,b.same (λu y=>x s u y T) P,vJa _ (yk.mpr #[c,T]),d]
 ·rcases jo e1 with⟨rfl,g,_⟩|⟨n1,M⟩
  ·cases g
  ·rcases jo e2 with⟨rfl,g,_⟩|⟨n2,N⟩
   ·cases g
   ·exact R.dist j k2 _ _ _ _ s M N Z s2
 ·rcases jo e with⟨rfl,g,_⟩|⟨A,g⟩
  ·cases g;refine#[l,_,f.s,f.p,UQ,nd,λa p=>#[vIa _ p,z0 a (vIa _ p) p,λ⟨m,q3,o3,y,z⟩=>?_],λm q3 h3 y=>?_]
   ·rcases jo y with⟨_,r,_⟩|⟨_,r⟩
    ·cases r
    ·have W:uO ρ U a:=#[m,_,_,r,z]
     rcases uTa p with rfl|p
     ·exact(f.f a wNa).2.2 W
     ·rcases Q a p with w|w
      ·exact(f.f a (wMa _ w)).2.2 W
      ·obtain⟨l3,_,X,y2,_⟩:=R.ow m _ _ r;rw[z]at X;cases X;exact y2.there w
   ·rcases jo y with⟨y0,_,_⟩|⟨_,r⟩
    ·exact y0
    ·exact f.u m _ _ r
  ·exact vDa (f.u j _ _ g) A
noncomputable def Ky:jr->Bool
 |[]=>B
 |.lo _ _::_=>G
 |_::r=>Ky r
theorem vL:∀{ρ}{j:Nat},Ky ρ=B->ρ[j]?≠S (.lo q h)
 |[],j,_,z=>by simp_all
 |.lo _ _::_,_,n,_=>Zf n
 |.un::r,0,_,z=>by cases z
 |.cl _::r,0,_,z=>by cases z
 |.bo _::r,0,_,z=>by cases z
 |.ow _ _::r,0,_,z=>by cases z
 |.un::r,j+1,n,z=>vL (ρ:=r) n z
 |.cl _::r,j+1,n,z=>vL (ρ:=r) n z
 |.bo _::r,j+1,n,z=>vL (ρ:=r) n z
 |.ow _ _::r,j+1,n,z=>vL (ρ:=r) n z
def Rel.hlay(R:Rel K H0 O0 ρ U H O)(s:j4 H H')(M:Ky (ρ.set i .un)=B)(hl:H l=J)(T:∀a∈ps,H a=J)(X:(l::ps).Nodup)(x:yS K H' (j6 H' (l::ps++O)) l ps h):
  Rel K H0 O0 (ρ.set i (.lo G h)) (U.set i (S (.ref l))) H' (l::ps++O)/\j4 (j6 H O) (j6 H' (l::ps++O)):=by
 have p:∀a∈l::ps,H a=J:=λa g=>by
  rcases uTa g with rfl|g
  ·exact hl
  ·exact T a g
 have F:j4 (j6 H O) (j6 H' _):=λb u z=>by
  obtain⟨W,w⟩:=jZ z;rw[jA (λy=>by rcases List.mem_append.mp y with y|y;rw[p b y]at w;exact Zn w;exact W y)];exact s b u w
 refine#[#[by rw[List.length_set,List.length_set];exact R.len,λa g=>vJa _ (R.sub a g),λa g=>?_,R.al0,λa g=>?_,R.keep.trans s,λj d e=>?_,λj d e=>?_,λj t o e=>?_,λj k2 q1 t ds es r e1 UQ N P=>?_,λj t h2 e=>?_],F]
 ·rcases uWa g with z|z
  ·exact .inr (R.keep.none (p a z))
  ·exact R.fr a z
 ·rcases uWa g with z|z
  ·obtain⟨o,e⟩:=x.at a z;rw[e];exact λz=>nomatch z
  ·exact λy=>R.al a z (s.none y)
 ·rcases jo e with⟨rfl,f,_⟩|⟨k,f⟩
  ·cases f
  ·rw[j_ k];obtain⟨v,a,b⟩:=R.cl j d f;exact#[v,a,b.same F]
 ·rcases jo e with⟨rfl,f,_⟩|⟨k,f⟩
  ·cases f
  ·rw[j_ k];exact R.bo j d f
 ·rcases jo e with⟨rfl,f,_⟩|⟨k,f⟩
  ·cases f
  ·rw[j_ k];obtain⟨r,z,a,b,c,d⟩:=R.ow j t o f;exact#[r,z,a,b.same (s r) F,vJa _ c,d]
 ·rcases jo e1 with⟨rfl,f,_⟩|⟨n1,I⟩
  ·cases f
  ·rcases jo UQ with⟨rfl,f,_⟩|⟨n2,C⟩
   ·cases f
   ·rw[j_ n1]at N;rw[j_ n2]at P;exact R.dist j k2 _ _ _ _ r I C N P
 ·rcases jo e with⟨rfl,f,Z⟩|⟨k,f⟩
  ·cases f;refine#[l,ps,Zc (by rw[R.len];exact Z),(λz=>nomatch z),x,X,λa g=>#[vIa _ g,R.keep.none (p a g),λ⟨m,q3,o3,y,z⟩=>?_],λm q3 h3 y=>?_]
   ·rcases jo y with⟨_,n,_⟩|⟨A,n⟩
    ·cases n
    ·rw[j_ A]at z;obtain⟨l3,_,Q,y2,_⟩:=R.ow m _ _ n;rw[z]at Q;cases Q;exact y2.there (p a g)
   ·rcases jo y with⟨y0,_,_⟩|⟨A,n⟩
    ·exact y0
    ·exact vDa (by rw[j_ A];exact n) (vL M)
  ·exact vDa (by rw[j_ k];exact f) (vL M)
end
noncomputable def Jr(f:Str):L Str->Y Nat
 |[]=>J
 |g::r=>if g=f then S 0 else(Jr f r).map (· + 1)
theorem Zg:∀{a b r},a.length=b.length->JT f v (a.zip b++r)=match Jr f a with
  |S j=>a.zip (b.set j v)++r
  |none=>a.zip b++JT f v r
 |[],[],r,_=>rfl
 |g::a,c::b,r,h=>by
  show(if g=f then(g,v)::(a.zip b++r)else(g,c)::JT f v (a.zip b++r))=_;rw[Jr];by_cases e:g=f
  ·rw[if_pos e,if_pos e];rfl
  ·rw[if_neg e,if_neg e,Zg (by simpa using h)];cases Jr f a<;>rfl
theorem qe:∀{a b j}{v:c},Jr f a=S j->b[j]?=S v->(a.zip b).lookup f=S v
 |g::a,[],j,v,_,e=>Zn e
 |g::a,x::b,j,v,h,e=>by
  rw[Jr]at h;rw[List.zip_cons_cons,List.lookup_cons];by_cases z:g=f
  ·rw[if_pos z]at h;obtain rfl:=Zj h;subst z;rw[beq_self_eq_true];exact e
  ·rw[if_neg z]at h;cases y:Jr f a with
   |none=>rw[y]at h;exact Zn h
   |some k=>
    rw[y]at h;obtain rfl:=Zj h;rw[show(f==g)=G from beq_eq_false_iff_ne.mpr λw=>z w.symm];exact qe y e
theorem zJ:∀{a}{b:L c},Jr f a=J->(a.zip b).lookup f=J
 |[],_,_=>rfl
 |_::_,[],_=>rfl
 |g::a,x::b,h=>by
  rw[Jr]at h;rw[List.zip_cons_cons,List.lookup_cons];by_cases z:g=f
  ·simp_all
  ·rw[if_neg z]at h;rw[show(f==g)=G from beq_eq_false_iff_ne.mpr λw=>z w.symm];cases y:Jr f a with
   |none=>exact zJ y
   |some k=>rw[y]at h;exact Zs h
theorem yH.get{K:Fr}{Hd H}:∀{as b}{j:Nat}{m},yH K Hd H as b->b[j]?=S m->∃a vs,as[j]?=S a/\H a=S (.lst vs)/\j7 K Hd m vs
 |[],[],j,m,_,e=>Zn e
 |a::as,m::b,0,_,h,e=>by obtain rfl:=Zj e;obtain⟨⟨vs,c,d⟩,_⟩:=h;exact#[a,vs,rfl,c,d]
 |a::as,_::b,j+1,m,h,e=>yH.get (as:=as) h.2 e
 |[],_::_,_,_,h,_=>h.elim
 |_::_,[],_,_,h,_=>h.elim
theorem yH.set{K:Fr}{Hd d H o}(l:j4 Hd d){b m}(r:∃i,o b=S (.lst i)/\j7 K d m i):∀{f g j},yH K Hd H f g->(∀k a,k≠j->f[k]?=S a->∀u,H a=S u->o a=S u)->yH K d o (f.set j b) (g.set j m)
 |[],[],j,_,_=>trivial
 |a::f,n::g,0,h,s=>#[r,h.2.mono l λc w u z=>by
   obtain⟨k,p⟩:=List.mem_iff_getElem?.mp w;exact s _ c (Nat.succ_ne_zero _) p u z]
 |a::f,n::g,j+1,h,s=>by
  obtain⟨⟨i,x,v⟩,t⟩:=h;exact#[#[i,s 0 a (Nat.succ_ne_zero _).symm rfl _ x,v.same l],yH.set l r t λk c p e u z=>s _ c (λy=>p (Nat.succ.inj y)) e u z]
 |[],_::_,_,h,_=>h.elim
 |_::_,[],_,h,_=>h.elim
theorem yH.snoc{K:Fr}{Hd H b m}(f:∃e,H b=S (.lst e)/\j7 K Hd m e):∀{c d},yH K Hd H c d->yH K Hd H (c++[b]) (d++[m])
 |[],[],_=>#[f,trivial]
 |a::c,n::d,h=>#[h.1,yH.snoc f h.2]
 |[],_::_,h=>h.elim
 |_::_,[],h=>h.elim
section
variable{X:Cx}{K:Fr}{e:Expr}{es:L Expr}{st:Stmt}{pos:Pos}{de:DE}{df:DO}{i:Nat}{C:Addr}{f:Str}{Px:Xp->Hp->Prop}
@[simp] noncomputable def H9(f:Str)(d:D)(h:HS):Y HS:=match Jr f h.ns with
 |S j=>S {h with ds:=h.ds.set j d}
 |none=>if h.ms.isEmpty=B then S {h with ns:=h.ns++[f],ds:=h.ds++[d]}else J
@[simp] noncomputable def Gc(i:Nat)(C:Addr)(f:Str)(de:DE)(a:jr):Y Rs:=match a[i]? with
 |S (.lo q h)=>if h.C=C/\h.ns.length+h.ms.length<1000 then(de a).bind λd=>(H9 f d h).bind λb=>S (.nx (a.set i (.lo q b)))else J
 |_=>J
def qf{a b}(h:a.length=b.length)(e:Jr f a=J):JT f v (a.zip b++[])=(a++[f]).zip (b++[v]):=by
 rw[Zg h,e,List.zip_append h];rfl
def Ha(h:PS X st (xQ X.K (yf i) (tE K de) f))(c:Cls K C)(n:yh K C f)(hK:X.K=K:=by rfl):PS X st (tS K Px (Gc i C f de)):=J0 h λD U H xx=>by
 obtain⟨H0,O0,ρ,O,r,R,m,fi⟩:=xx;subst hK;unfold Gc at m;cases M:ρ[i]? with
 |none=>rw[M]at m;exact Zn m
 |some sl=>
  rw[M]at m;cases sl with
  |lo q h=>
   by_cases UQ:h.C=C/\h.ns.length+h.ms.length<1000
   ·dsimp only at m;rw[if_pos UQ]at m;obtain⟨hC,hlen⟩:=UQ;subst hC;obtain⟨d,e1,m⟩:=j1 m;obtain⟨h',s,m⟩:=j1 m;obtain rfl:=Zj m;obtain⟨l,k,g⟩:=R.loi M;refine#[H0,O0,ρ,O,d,R,e1,λv p N Z=>?_];have R1:=R.grow N;have T:=g.grow N;obtain⟨⟨o,A,h1,Q,n2,W⟩,el⟩:=T.x;refine#[_,g.s,l,_,o,_,rfl,h1,c,n,?_,?_]
    ·simp_all
    have kp:j4 (j6 p (l::k)) (upd p l (.ins h.C o (JT f v (h.ns.zip A++h.ms.zip (k.map V.ref))))):=λb u z=>by
     obtain⟨F,I⟩:=jZ z;rw[ja λy=>F (by simp_all)];exact I
    have P:∀a∈l::k++rest O l k,a∈O:=λa w=>by
     rcases uWa w with z|z
     ·exact(g.f a z).1
     ·exact(yk.mp z).1
    have x:j4 (j6 p O) (j6 (upd p l (.ins h.C o (JT f v (h.ns.zip A++h.ms.zip (k.map V.ref))))) (l::k++rest O l k)):=by
     intro b u z;obtain⟨F,I⟩:=jZ z;rw[jA λy=>F (P b y),ja λy=>F (by rw[y];exact(g.f l List.mem_cons_self).1)];exact I
    have nl:=(List.nodup_cons.mp g.n).1;have t:yH _ _ (upd p l (.ins h.C o (JT f v (h.ns.zip A++h.ms.zip (k.map V.ref))))) k _:=el.mono x λa w u z=>by
     rw[ja λy=>nl (by rw[<-y];exact w)];exact z
    have x':yS X.K (upd p l (.ins h.C o (JT f v (h.ns.zip A++h.ms.zip (k.map V.ref))))) (j6 (upd p l (.ins h.C o (JT f v (h.ns.zip A++h.ms.zip (k.map V.ref))))) (l::k++rest O l k)) l k h':=by
     unfold H9 at s;cases y:Jr f _ with
     |some j=>
      rw[y]at s;cases s;refine#[#[o,_,?_,by rw[List.length_set];exact Q,n2,(W.same x).set (Z.same x) j],t];rw[jj,Zg Q,y]
     |none=>
      rw[y]at s;by_cases z:h.ms.isEmpty=B
      ·rw[if_pos z]at s;obtain rfl:=Zj s;have z:=List.isEmpty_iff.mp z;refine#[#[o,_,?_,by simp_all,n2,(W.same x).snoc (Z.same x)],t];rw[jj,z,List.zip_nil_left,qf Q y,uFa]
      ·simp_all
    obtain⟨R2,s2⟩:=R1.hmove T kp x' g.n λa w=>.inl w;exact fi _ _ _ R2 ((jf N).trans s2)
   ·simp_all
  |_=>exact Zn m
@[simp] noncomputable def Hb(f:Str)(m:L D)(h:HS):Y HS:=match Jr f h.ns with
 |S _=>J
 |none=>match Jr f h.ms with
  |S j=>S {h with ls:=h.ls.set j m}
  |none=>S {h with ms:=h.ms++[f],ls:=h.ls++[m]}
@[simp] noncomputable def Gd(i:Nat)(C:Addr)(f:Str)(df:DO)(a:jr):Y Rs:=match a[i]? with
 |S (.lo q h)=>if h.C=C/\h.ns.length+h.ms.length<1000 then(df a).bind λo=>match o with
  |.lst m=>(Hb f m h).bind λb=>S (.nx (a.set i (.lo q b)))
  |_=>J else J
 |_=>J
theorem ww:∀{b:L Addr}{j},b.Nodup->p∉b->(b.set j p).Nodup
 |[],_,h,_=>h
 |a::b,0,h,n=>List.nodup_cons.mpr #[λz=>n (wMa _ z),(List.nodup_cons.mp h).2]
 |a::b,j+1,h,n=>by
  obtain⟨c,d⟩:=List.nodup_cons.mp h;refine List.nodup_cons.mpr #[λz=>?_,ww d λz=>n (wMa _ z)];rcases List.mem_or_eq_of_mem_set z with z|z
  ·exact c z
  ·exact n (by rw[z];exact wNa)
def Qq{a:L _}{j p}:(a.set j p).map V.ref=(a.map V.ref).set j (.ref p):=by simp
def Hc(h:PS X st (xQ X.K (yf i) (tF K df) f))(c:Cls K C)(n:yh K C f)(hK:X.K=K:=by rfl):PS X st (tS K Px (Gd i C f df)):=J0 h λD U H xx=>by
 obtain⟨H0,O0,ρ,O,r,R,v,fi⟩:=xx;subst hK;unfold Gd at v;cases hi:ρ[i]? with
 |none=>rw[hi]at v;exact Zn v
 |some sl=>
  rw[hi]at v;cases sl with
  |lo q h=>
   by_cases hh:h.C=C/\h.ns.length+h.ms.length<1000
   ·dsimp only at v;rw[if_pos hh]at v;obtain⟨hC,hlen⟩:=hh;subst hC;obtain⟨o,e1,v⟩:=j1 v;cases o with
    |lst m=>
     obtain⟨h',F,v⟩:=j1 v;obtain rfl:=Zj v;obtain⟨l,g,d⟩:=R.loi hi;refine#[H0,O0,ρ,O,_,R,e1,λp H1 Q hp ow=>?_];have L1:=d.grow Q;obtain⟨⟨dx,UQ,h1,n1,n2,rp⟩,el⟩:=L1.x;obtain⟨us,w1,w2⟩:=ow;refine#[_,d.s,l,_,dx,_,rfl,h1,c,n,?_,?_]
     ·simp_all
     have pO:=R.new hp;have pl:=λz=>pO (d.f p z).1;have lp:l≠p:=λz=>pl (by lia);have nl:=(List.nodup_cons.mp d.n).1;generalize s:upd H1 l _=I;have kp:j4 (j6 H (l::g)) I:=λb u z=>by
      obtain⟨z1,z2⟩:=jZ z;rw[<-s,ja λy=>z1 (by rw[y];exact List.mem_cons_self)];exact Q b u z2
     have Z:I p=S (.lst us):=by rw[<-s,ja lp.symm];exact w1
     have P:∀N ,(∀a∈N,a∈g\/a=p)->j4 (j6 H1 (p::O)) (j6 I (l::N++rest O l g)):=λN t b u z=>by
      obtain⟨z1,z2⟩:=jZ z;have nb:b≠p:=λy=>z1 (by rw[y];exact wNa);have nO:=λy=>z1 (wMa _ y);rw[jA λy=>?_,<-s,ja λy=>nO (by rw[y];exact(d.f l List.mem_cons_self).1)]
      ·exact z2
      ·rcases uWa y with y|y
       ·rcases uTa y with y|y
        ·exact nO (by rw[y];exact(d.f l wNa).1)
        ·rcases t b y with y|y
         ·exact nO (d.f b (wMa _ y)).1
         ·exact nb y
       ·exact nO (yk.mp y).1
     have W:j7 X.K (j6 H O) h.ds UQ:=by
      obtain⟨⟨dx',T,h1',n1',n2',rp'⟩,_⟩:=d.x;have:=Q _ _ h1';have ez:h.ns.zip UQ++h.ms.zip (g.map V.ref)=h.ns.zip T++h.ms.zip (g.map V.ref):=by lia
      have ez:=List.append_cancel_right ez;have:UQ=T:=by
       have a1:=congrArg (List.map Prod.snd) ez;rw[List.map_snd_zip (by lia),List.map_snd_zip (by lia)]at a1;exact a1
      rw[this];exact rp'
     have A:j4 (j6 H O) _:=Yz Q hp;have elk:∀a∈g,∀u,H a=S u->I a=S u:=λa x u z=>by
      rw[<-s,ja λy=>nl (by rw[<-y];exact x)];exact Q a u z
     obtain⟨_,el0⟩:=d.x;unfold Hb at F;cases y:Jr f _ with
     |some j=>rw[y]at F;exact Zn F
     |none=>
      rw[y]at F;cases w:Jr f _ with
      |some j=>
       rw[w]at F;obtain rfl:=Zj F;have t:∀a∈g.set j p,a∈g\/a=p:=λa x=>List.mem_or_eq_of_mem_set x;have x':yS X.K I (j6 I (l::g.set j p++rest O l g)) l (g.set j p) {h with ls:=h.ls.set j m}:=by
        refine#[#[dx,UQ,?_,n1,by rw[List.length_set];exact n2,(W.same A).same (P _ t)],?_]
        ·rw[<-s,jj,Zg n1,y];rw[<-uFa (h.ms.zip _),Zg (by rw[vYa];exact n2),w];dsimp only;rw[uFa,Qq]
        ·exact yH.set (A.trans (P _ t)) #[us,Z,w2.same (P _ t)] el0 λk a _ x u z=>elk a (wYa x) u z
       have M:(l::g.set j p).Nodup:=by
        refine List.nodup_cons.mpr #[λz=>?_,?_]
        ·rcases t l z with z|z
         ·exact nl z
         ·exact lp z
        ·exact ww (List.nodup_cons.mp d.n).2 λz=>pl (wMa _ z)
       obtain⟨R2,s2⟩:=R.hmove d kp x' M λa x=>by
        rcases t a x with z|z
        ·exact .inl z
        ·lia
       exact fi _ _ _ R2 s2
      |none=>
       rw[w]at F;obtain rfl:=Zj F;have t:∀a∈g++[p],a∈g\/a=p:=λa x=>by simp_all
       have x':yS X.K I (j6 I (l::(g++[p])++rest O l g)) l (g++[p]) {h with ms:=h.ms++[f],ls:=h.ls++[m]}:=by
        refine#[#[dx,UQ,?_,n1,by rw[vZa,vZa,n2];rfl,(W.same A).same (P _ t)],?_]
        ·rw[<-s,jj,Zg n1,y];rw[<-uFa (h.ms.zip _),qf (by rw[vYa];exact n2) w,uDa];rfl
        ·exact yH.snoc #[us,Z,w2.same (P _ t)] (el0.mono (A.trans (P _ t)) elk)
       have M:(l::(g++[p])).Nodup:=by
        refine List.nodup_cons.mpr #[λz=>?_,?_]
        ·rcases t l z with z|z
         ·exact nl z
         ·exact lp z
        ·refine List.nodup_append.mpr #[(List.nodup_cons.mp d.n).2,by simp,λa x b hb=>?_];rw[List.mem_singleton.mp hb];exact λz=>pl (wMa _ (z▸x))
       obtain⟨R2,s2⟩:=R.hmove d kp x' M λa x=>by
        rcases t a x with z|z
        ·exact .inl z
        ·lia
       exact fi _ _ _ R2 s2
    |_=>exact Zn v
   ·simp_all
  |_=>exact Zn v
@[simp] noncomputable def Wa(i:Nat)(C:Addr)(f:Str)(de:DE)(a:jr):Y Rs:=match a[i]? with
 |S (.lo q h)=>if h.C=C/\(Jr f h.ns).isNone=B then(Jr f h.ms).bind λj=>(h.ls[j]?).bind λm=>(de a).bind λd=>if m.length<sizeLine then S (.nx (a.set i (.lo q {h with ls:=h.ls.set j (m++[d])})))else J else J
 |_=>J
def He(h:PS X st (gX (cL K "list" G8 (EX X.K (yf i) f) (ZD (tE K de) UN))))(c:Cls K C)(n:yh K C f)(hK:X.K=K:=by rfl):PS X st (tS K Px (Wa i C f de)):=J0 h λD U H xx=>by
 obtain⟨H0,O0,ρ,O,r,R,o,fi⟩:=xx;subst hK;unfold Wa at o;cases Z:ρ[i]? with
 |none=>rw[Z]at o;exact Zn o
 |some sl=>
  rw[Z]at o;cases sl with
  |lo q h=>
   by_cases hh:h.C=C/\(Jr f h.ns).isNone=B
   ·dsimp only at o;rw[if_pos hh]at o;obtain⟨hC,hn⟩:=hh;subst hC;obtain⟨j,e1,o⟩:=j1 o;obtain⟨m,e2,o⟩:=j1 o;obtain⟨d,e3,o⟩:=j1 o;by_cases UQ:m.length<sizeLine
    ·rw[if_pos UQ]at o;obtain rfl:=Zj o;obtain⟨l,s,g⟩:=R.loi Z;obtain⟨⟨dx,vs,h1,n1,n2,rp⟩,el⟩:=g.x;obtain⟨p,I,P,hp,ru⟩:=el.get e2;have T:Jr f h.ns=J:=by simpa using hn
     have lk:(h.ns.zip vs++h.ms.zip (s.map V.ref)).lookup f=S (V.ref p):=by
      rw[List.lookup_append,zJ T,qe e1 (by rw[uAa,P];rfl)];rfl
     refine#[_,g.s,l,_,dx,_,_,rfl,h1,c,n,lk,.inl #[rfl,_,jY.of hp],H0,O0,ρ,O,d,R,e3,λv x w rv=>?_];have R1:=R.grow w;have L1:=g.grow w;refine#[p,I,v,rfl,rfl,w _ _ hp,by rw[ru.len];exact UQ,?_];have F:=wYa P;have nl:=(List.nodup_cons.mp g.n).1;have lp:l≠p:=λz=>nl (by rw[z];exact F);have kp:j4 (j6 x (l::s)) (upd x p (.lst (I++[v]))):=λb u z=>by
      obtain⟨M,W⟩:=jZ z;rw[ja λy=>M (by rw[y];exact List.mem_cons_of_mem _ F)];exact W
     have Q:∀a∈l::s++rest O l s,a∈O:=λa A=>by
      rcases uWa A with z|z
      ·exact(g.f a z).1
      ·exact(yk.mp z).1
     have N:j4 (j6 x O) (j6 (upd x p (.lst (I++[v]))) (l::s++rest O l s)):=by
      intro b u z;obtain⟨M,W⟩:=jZ z;rw[jA λy=>M (Q b y),ja λy=>M (by simp_all)];exact W
     have t:j4 (j6 H O) _:=jf w;have x':yS X.K (upd x p (.lst (I++[v]))) (j6 (upd x p (.lst (I++[v]))) (l::s++rest O l s)) l s {h with ls:=h.ls.set j (m++[d])}:=by
      refine#[#[dx,vs,by rw[ja lp];exact w _ _ h1,n1,n2,(rp.same t).same N],?_];have es:s=s.set j p:=by
       obtain⟨hj,ej⟩:=uSa P;rw[<-ej,List.set_getElem_self]
      have:=yH.set (t.trans N) (b:=p) #[_,jj,((ru.same t).same N).snoc (rv.same N)] el λk a hk A u z=>by
       rw[ja λy=>hk ?_]
       ·exact w a u z
       ·subst y;exact(List.getElem?_inj (uSa A).1 (List.nodup_cons.mp g.n).2).mp (A.trans P.symm)
      rw[<-es]at this;exact this
     obtain⟨R2,s2⟩:=R1.hmove L1 kp x' g.n λa A=>.inl A;exact fi _ _ _ R2 ((jf w).trans s2)
    ·rw[if_neg UQ]at o;exact Zn o
   ·simp_all
  |_=>exact Zn o
end
structure HPost (K:Fr) (H O l ps H' ps' h') where
 s:j4 (j6 H (l::ps)) H'
 x:yS K H' (j6 H' (l::ps'++O)) l ps' h'
 n:(l::ps').Nodup
 p:∀a∈ps',a∈ps\/H a=J
noncomputable def MP(K:Fr)(E:XK)(H:Hp)(O:L Addr)(l:Addr)(e:L Addr)(Q:VK)(c:HS):Rx->Prop
 |.ok d=>∀v b a,HPost K H O l e b a c->jI K (j6 b (l::a++O)) d v->Q v b
 |.xc p=>∀b a,HPost K H O l e b a c->PX K E p b
noncomputable def VG(K:Fr)(f:L Bool)(F:HS->L D->Y (Rx×HS)):Sp:=λe H Q E=>∃O d l b h c r,e=.ref l::c/\(∀a∈O,H a≠J)/\yS K H (j6 H (l::b++O)) l b h/\(l::b).Nodup/\(∀a∈l::b,a∉O)/\yb K O (j6 H (l::b)) f d c/\F h d=S r/\MP K E H O l b Q r.2 r.1
noncomputable def m8(r:Rx):Sl->Y (Rx×HS)
 |.lo true h=>S (r,h)
 |_=>J
@[simp] theorem o6(r h):m8 r (.lo B h)=S (r,h):=rfl
@[simp] noncomputable def wx(a:jr)(r:Rx):Y (Rx×HS):=(a[0]?).bind (m8 r)
noncomputable def Cu:Rs->Y (Rx×HS)
 |.nx a=>wx a (.ok .non)
 |.rh d a=>wx a (.ok d)
 |.xc p a=>wx a (.xc p)
 |_=>J
@[simp] theorem o7(a):Cu (.nx a)=wx a (.ok .non):=rfl
@[simp] theorem o8(d a):Cu (.rh d a)=wx a (.ok d):=rfl
@[simp] theorem o9(p a):Cu (.xc p a)=wx a (.xc p):=rfl
@[simp] noncomputable def zX(e n)(b:DS)(h c):=(b (.lo B h::zI e c n)).bind Cu
@[simp] noncomputable def Xu(b:DE)(a:jr):Y Rs:=(b a).bind λd=>S (.rh d a)
def GQ{a z}(e:wx a r=S z):a[0]?=S (.lo B z.2)/\z.1=r:=by
 unfold wx at e;cases h:a[0]? with
 |none=>rw[h]at e;exact Zn e
 |some s=>
  rw[h]at e;cases s with
  |lo q b=>
   cases q with
   |true=>obtain rfl:=Zj e;exact#[rfl,rfl]
   |false=>exact Zn e
  |_=>exact Zn e
section
variable{P:Program}{w:World}{K:Fr}{mg:Tj}{base:Heap}{x qual:Str}{st:Stmt}{f:Addr}{fd:FuncData}{N ps:L Str}{k n:Nat}{ks:L Bool}{body:DS}{F:L D->Y Rx}
def La(Fu:Fun K x qual st f fd)(c:FnScope N ps (defScope st))(hk:ks.length+1=ps.length)(hn:N.length-ps.length=n)
  (hb:∀(cdv A T s H E),Room k (A.deeper (envOfC qual (defScope st) s.heap.objs.size f cdv))->Jb (JL (y8 P w) P w K mg base N qual (defScope st) f cdv A T s H E) (defBody st) (tS K (PX K E) body)):
  FnOk P w K mg base (y8 P w) (k+1) f fd ps (VG K ks (zX ks n body)):=by
 obtain⟨oc,od,kV,doc,pm,an,cdv,ct,osl,rfl,lk,hcd⟩:=Fu.ex;refine xV lk hcd c (λvs H Q E h=>?_) λA T s H vs Q E hr h=>?_
 ·obtain⟨O,ds,l,pl,h,vs',r,rfl,_,_,_,_,ak,_⟩:=h;have:=ak.len;rw[vXa]
  lia
 ·obtain⟨O,ds,l,pl,h,vs',r0,rfl,al,x,nd,nin,ak,e,q⟩:=h;refine#[_,hb _ A _ s H E hr,?_];obtain⟨r,e1,e2⟩:=j1 e;have hl:N.length-(V.ref l::vs').length=n:=by have:=ak.len;rw[vXa];lia
  unfold L2.YW;rw[hl];have nn:∀a∈l::pl,j6 H _ a=J:=λa m=>ui m;have al':∀a∈O,j6 H _ a≠J:=λa m=>by
   rw[jA λz=>nin a z m];exact al a m
  have R0:=Kt (n:=n) ak al';have sd:j4 (j6 (j6 H (l::pl)) O) (j6 H (l::pl++O)):=λb u z=>by
   obtain⟨z1,z2⟩:=jZ z;obtain⟨z3,z4⟩:=jZ z2;rw[jA λy=>by grind];exact z4
  have no:∀(i:Nat) (X W),(Sl.lo B h::zI ks ds n)[i]?≠S (.ow X W):=λi X W e=>by
   cases i with
   |zero=>cases e
   |succ i=>
    obtain⟨k',d',v,_,_,h3⟩:=yD ak (by simp) e;cases k'<;>cases h3
  have nl:∀(i X W),(Sl.lo B h::zI ks ds n)[i]?=S (.lo X W)->i=0/\X=B/\W=h:=λi X W e=>by
   cases i with
   |zero=>cases e;exact#[rfl,rfl,rfl]
   |succ i=>
    obtain⟨k',d',v,_,_,h3⟩:=yD ak (by simp) e;cases k'<;>cases h3
  have R:Rel K (j6 H (l::pl)) #[O,l] (.lo B h::zI ks ds n) (List.map some (V.ref l::vs')++List.replicate n J) H (l::pl++O):=by
   refine#[?_,λa h=>vJa _ h,?_,al',?_,yR,?_,?_,?_,?_,?_]
   ·have:=R0.len;rw[vXa,vWa,List.cons_append,vXa,this]
   ·grind
   ·intro a m;rcases uWa m with z|z
    ·obtain⟨o,e⟩:=x.at a z;rw[e];exact λz=>nomatch z
    ·exact al a z
   ·intro i d e;cases i with
    |zero=>cases e
    |succ i=>
     obtain⟨v,h1,h2⟩:=R0.cl i d e;exact#[v,h1,h2.same sd]
   ·intro i d e;cases i with
    |zero=>cases e
    |succ i=>exact R0.bo i d e
   ·intro i X W e;exact vDa e (no i X W)
   ·intro i j q1 q2 o1 o2 l e;exact vDa e (no i q1 o1)
   ·intro i X W e;obtain⟨rfl,rfl,rfl⟩:=nl i X W e;exact#[l,pl,rfl,(λ_=>rfl),x,nd,λa m=>#[vIa _ m,nn a m,λ⟨j,q2,o2,y,_⟩=>no j q2 o2 y],λj q2 h2 y=>(nl j q2 h2 y).1]
  have key:∀(M I C UQ),Rel K _ #[O,l] M I C UQ->M[0]?=S _->∃t,HPost K H O l pl C t r0.2/\j4 (j6 C UQ) _:=λM I C UQ Z e=>by
   obtain⟨l2,t,g⟩:=Z.loi e;obtain rfl:=g.p rfl;have sb:∀a∈l2::t++O,a∈UQ:=λa m=>by
    rcases uWa m with z|z
    ·exact(g.f a z).1
    ·exact Z.sub a z
   refine#[_,#[Z.keep,g.x.mono (λa _ u z=>z) (JF sb),g.n,λa m=>?_],JF sb];have z:=(g.f a (wMa _ m)).2.1;by_cases y:a∈l2::pl
   ·rcases uTa y with y|y
    ·subst y;exact vDa m (List.nodup_cons.mp g.n).1
    ·exact .inl y
   ·rw[jA y]at z;exact .inr z
  refine#[_,_,_,_,r,R,e1,?_];cases r with
  |nx M=>
   obtain⟨e3,e4⟩:=GQ e2;intro I C UQ Z _;obtain⟨t,hp,_⟩:=key M _ C UQ Z e3;rw[e4]at q;exact q _ C _ hp rfl
  |rh d M=>
   obtain⟨e3,e4⟩:=GQ e2;intro v I C UQ Z rv;obtain⟨t,hp,sd'⟩:=key M _ C UQ Z e3;rw[e4]at q;exact q v C _ hp (rv.same sd')
  |xc p M=>
   obtain⟨e3,e4⟩:=GQ e2;intro I C UQ Z;obtain⟨t,hp,_⟩:=key M _ C UQ Z e3;rw[e4]at q;exact q C _ hp
  |rt d=>exact Zn e2
  |rf o=>exact Zn e2
  |bk M=>exact Zn e2
  |ct M=>exact Zn e2
end
section
variable{X:Cx}{K:Fr}{E:XK}{e a:Expr}{es:L Expr}{st:Stmt}{pos p np apos:Pos}{dx:jr->Y (Rx×jr)}{i kk:Nat}{g:DG}{C:Addr}{m x:Str}{l:DA}{ks:L Bool}{k:Nat}{f:Addr}{fd:FuncData}{ps:L Str}{da:DE}
noncomputable abbrev Uv:=jr->Y (Rx×jr)
noncomputable def Kz(K:Fr)(E:XK)(h:Hp)(n:FA)(j:L2.St)(H:Hp)(O:L Addr)(Q:VK)(o:jr):Rx->Prop
 |.ok d=>∀v b c,Rel K h n o j b c->j4 (j6 H O) (j6 b c)->jI K (j6 b c) d v->Q v b
 |.xc p=>∀b c,Rel K h n o j b c->j4 (j6 H O) (j6 b c)->PX K E p b
noncomputable def tY(K:Fr)(E:XK)(dx:Uv):TE:=λd H Q=>∃c b h O r,Rel K c b h d H O/\dx h=S r/\Kz K E c b d H O Q r.2 r.1
@[simp] noncomputable def zP(dx:Uv)(k:D->DS)(b):=(dx b).bind λr=>match r.1 with
 |.ok d=>k d r.2
 |.xc p=>S (.xc p r.2)
def Hf(h:PS X st (yz (tY K E dx) (yJ i))):PS X st (tS K (PX K E) (zP dx λd n=>S (.nx (n.set i (.cl d))))):=J0 h λD z H t=>by
 obtain⟨w,u,n,O,r,R,F,f⟩:=t;obtain⟨⟨y,I⟩,A,o⟩:=j1 F;refine#[w,u,n,O,_,R,A,?_];cases y with
 |ok d=>obtain rfl:=Zj o;exact λv b c j s q=>f _ b c (j.set q i) s
 |xc p=>obtain rfl:=Zj o;exact λb c j _=>f z b c j
def DD(h:PS X st (gX (tY K E dx))):PS X st (tS K (PX K E) (zP dx λ_ n=>S (.nx n))):=J0 h λD z H t=>by
 obtain⟨w,u,n,O,r,R,F,f⟩:=t;obtain⟨⟨y,I⟩,A,o⟩:=j1 F;refine#[w,u,n,O,_,R,A,?_];cases y with
 |ok d=>obtain rfl:=Zj o;exact λv b c j s q=>f _ b c j s
 |xc p=>obtain rfl:=Zj o;exact λb c j _=>f z b c j
def Hg(h:PE X e (tY K E dx)):PS X (.Return (S e) pos) (tS K (PX K E) (zP dx λd n=>S (.rh d n))):=J0 (vS h) λD t H u=>by
 obtain⟨w,z,n,O,r,R,F,f⟩:=u;obtain⟨⟨y,I⟩,A,o⟩:=j1 F;refine#[w,z,n,O,_,R,A,?_];cases y with
 |ok d=>obtain rfl:=Zj o;exact λv b c j s q=>f v t b c j q
 |xc p=>obtain rfl:=Zj o;exact λb c j _=>f t b c j
def Hh(h:PE X e (tE K c)):PS X (.Return (S e) pos) (tS K A (Xu c)):=J0 (vS h) λD y H t=>by
 obtain⟨j,u,b,O,r,R,z,f⟩:=t;obtain⟨d,n,o⟩:=j1 z;obtain rfl:=Zj o;exact#[j,u,b,O,d,R,n,λv w s q=>f v y w O (R.grow s) q]
theorem KA(s:j4 (j6 H O) (j6 o j)):∀{ks c b},ks.all id=B->yb K O H ks c b->yb K j o ks c b
 |[],[],[],_,_=>trivial
 |k::ks,_::_,_::_,h,a=>by
  rw[List.all_cons,Bool.and_eq_true]at h;obtain⟨d,n⟩:=h;subst d;exact#[jI.same s a.1,KA s n a.2]
 |[],[],_::_,_,h=>h.elim
 |[],_::_,_,_,h=>h.elim
 |_::_,[],_,_,h=>h.elim
 |_::_,_::_,[],_,h=>h.elim
def Xv{t O A w q h a s UQ N F r Q}(R:Rel K P t A w o O)(c:LoI K P t.p A w o O i q h a s)(hk:ks.all id=B)(ak:yb K O o ks UQ N)(e:F h UQ=S r)
  (fi:∀H,j4 (j6 H O) (j6 o O)->Kz K E P t w H O Q (A.set i (.lo q r.2)) r.1->True) (f:Kz K E P t w o O Q (A.set i (.lo q r.2)) r.1):VG K ks F (.ref a::N) o Q E:=by
 have sb:∀b∈a::s++rest O a s,b∈O:=λb n=>by
  rcases uWa n with z|z
  ·exact(c.f b z).1
  ·exact(yk.mp z).1
 refine#[_,UQ,a,s,h,N,r,rfl,λb n=>R.al b (yk.mp n).1,c.x.mono (λ_ _ _ z=>z) (JF sb),c.n,λb n z=>(yk.mp z).2 n,KA (λb u z=>?_) hk ak,e,?_]
 ·obtain⟨W,z2⟩:=jZ z;rw[jA λy=>W (yk.mp y).1,jA λy=>W (c.f b y).1];exact z2
 ·obtain⟨r1,h'⟩:=r;cases r1 with
  |ok d=>
   intro v T I j Z;obtain⟨R2,M⟩:=R.hmove c j.s j.x j.n j.p;exact f v T _ R2 M Z
  |xc p=>
   intro T I j;obtain⟨R2,M⟩:=R.hmove c j.s j.x j.n j.p;exact f T _ R2 M
def Kz.mono(s:j4 (j6 H O) (j6 n O))(f:Kz K E u j o H O Q w r):Kz K E u j o n O Q w r:=by
 cases r with
 |ok d=>exact λv b c R t h=>f v b c R (s.trans t) h
 |xc p=>exact λb c R t=>f b c R (s.trans t)
@[simp] noncomputable def zu(i:Nat)(C:Addr)(m:Str)(F:HS->L D->Y (Rx×HS))(l:DA)(b:jr):Y (Rx×jr):=match b[i]? with
 |S (.lo q h)=>if h.C=C/\(Jr m h.ns).isNone=B/\(Jr m h.ms).isNone=B then(Ys l b).bind λc=>(F h c).bind λr=>S (r.1,b.set i (.lo q r.2))else J
 |_=>J
def Hi(hx:yQ (y8 X.prog X.w) X E)(h:PE X e (kB C m (VG K ks F) [] E (yf i) (yw K l)))(o:l.map (·.1)=ks)(d:ks.all id=B):PE X e (tY K E (zu i C m F l)):=jx h λU H Q M=>by
 obtain⟨I,UQ,s,O,r,R,c,f⟩:=M;subst o;unfold zu at c;cases n:s[i]? with
 |none=>rw[n]at c;exact Zn c
 |some A=>
  rw[n]at c;cases A with
  |lo q h=>
   by_cases t:h.C=C/\(Jr m h.ns).isNone=B/\(Jr m h.ms).isNone=B
   ·dsimp only at c;rw[if_pos t]at c;obtain⟨v,u,w⟩:=t;subst v;obtain⟨z,P,c⟩:=j1 c;obtain⟨r',y,c⟩:=j1 c;obtain rfl:=Zj c;obtain⟨a,pl,b⟩:=R.loi n;obtain⟨⟨dx,T,N,n1,n2,rp⟩,el⟩:=b.x;refine#[_,b.s,a,dx,_,rfl,N,by rw[List.lookup_append,zJ (by simpa using u),zJ (by simpa using w)];rfl,I,UQ,s,O,z,R,P,λT Z j W=>?_]
    (try dsimp only)
    rw[uFa];exact Xv (R.grow j) (b.grow j) d W y (λ_ _ _=>trivial) (f.mono (jf j))
   ·simp_all
  |_=>exact Zn c
@[simp] noncomputable def y9(i:Nat)(F:HS->L D->Y (Rx×HS))(l:DA)(b:jr):Y (Rx×jr):=match b[i]? with
 |S (.lo q h)=>(Ys l b).bind λc=>(F h c).bind λr=>S (r.1,b.set i (.lo q r.2))
 |_=>J
def Hj(h:PE X e (xT (VG K ks F) [] E (ZD (yf i) (yw K l))))(n:l.map (·.1)=ks)(d:ks.all id=B):PE X e (tY K E (y9 i F l)):=jx h λUQ H Q z=>by
 obtain⟨y,A,s,O,r,R,c,f⟩:=z;subst n;unfold y9 at c;cases o:s[i]? with
 |none=>rw[o]at c;exact Zn c
 |some w=>
  rw[o]at c;cases w with
  |lo q h=>
   obtain⟨v,u,c⟩:=j1 c;obtain⟨T,t,c⟩:=j1 c;obtain rfl:=Zj c;obtain⟨a,N,b⟩:=R.loi o;refine#[_,b.s,y,A,s,O,v,R,u,λP M j I=>?_]
   (try dsimp only)
   rw[uFa];exact Xv (R.grow j) (b.grow j) d I t (λ_ _ _=>trivial) (f.mono (jf j))
  |_=>exact Zn c
noncomputable abbrev qg(C:Addr):HS:=#[C,[],[],[],[]]
def DF{a dx Hd}(h:H a=S (.ins C dx [])):yS K H Hd a [] (qg C):=#[#[dx,[],h,rfl,rfl,j7.nil],trivial]
theorem Lb{O A M F}{r:Rx×HS}{Q:VK}{T y s}(s1:j4 H j)(UQ:∀a∈O,j a≠J)(t:ks.all id=B)(ak:yb K O j ks A M)(e:F (qg C) A=S r)(R:j y=J)(nd:j s=J)(W:s≠y)
  (f:match r.1 with
   |.ok d=>d=.non/\∀h n,j4 j h->yS K h (j6 h (y::n++O)) y n r.2->(y::n).Nodup->(∀a∈n,j a=J)->Q (.ref y) h
   |.xc p=>∀h,j4 j h->PX K T p h):VG K ks F (.ref y::M) (upd (upd j s (.own y)) y (.ins C s [])) (λv H2=>v=.non/\Q (.ref y) H2) T:=by
 have yO:=λz=>UQ y z R;have N:j4 j (upd (upd j s (.own y)) y (.ins C s [])):=λc u z=>by
  rw[ja (jy z R),ja (jy z nd)];exact z
 have P:j4 j (j6 _ [y]):=λc u z=>by
  rw[jA (by intro w;simp at w;exact jy z R w)];exact N c u z
 refine#[O,A,y,[],_,M,r,rfl,λb I z=>UQ b I (N.none z),DF jj,by simp,λb I=>by rw[List.mem_singleton.mp I];exact yO,KA (jf P) t ak,e,?_];obtain⟨r1,h'⟩:=r;have np:∀(h n),HPost K _ O y [] h n h'->∀a∈n,j a=J:=λh n o a Z=>by
  rcases o.p a Z with z|z
  ·cases z
  ·exact N.none z
 cases r1 with
 |ok d=>
  intro v h n o rv;obtain⟨rfl,f⟩:=f;exact#[rv,f h n (P.trans o.s) o.x o.n (np h n o)]
 |xc p=>exact λh n o=>f h (P.trans o.s)
@[simp] noncomputable def gc(i:Nat)(C:Addr)(F:HS->L D->Y (Rx×HS))(l:DA)(b:jr):Y Rs:=if Ky (b.set i .un)=B then(Ys l b).bind λc=>(F (qg C) c).bind λr=>match r.1 with
 |.ok .non=>S (.nx (b.set i (.lo G r.2)))
 |_=>J else J
def DH(h:PS X st (yz (xU C (VG K ks F) [] E' (yw K l)) (yJ i)))(o:l.map (·.1)=ks)(c:ks.all id=B):PS X st (tS K Px (gc i C F l)):=J0 h λD M H Z=>by
 obtain⟨P,UQ,u,O,r,R,b,f⟩:=Z;subst o;unfold gc at b;by_cases v:Ky (u.set i .un)=B
 ·rw[if_pos v]at b;obtain⟨N,A,b⟩:=j1 b;obtain⟨⟨T,h'⟩,Q,b⟩:=j1 b;cases T with
  |xc p=>exact Zn b
  |ok d=>
   cases d<;>cases b;refine#[P,UQ,u,O,N,R,A,λvs w j ak y dy z I t=>?_]
   (try dsimp only)
   rw[uFa];refine Lb (Q:=λx w=>yJ i x M w _) j (R.grow j).al c ak Q z I t #[rfl,λH' pl s x n p=>?_];obtain⟨R2,W⟩:=R.hlay (j.trans s) v (j.none z) (λa ha=>j.none (p a ha)) n x;exact f _ _ _ R2 W
 ·simp_all
noncomputable def qh(C m)(F:L D->Y Rx)(x:D)(ds:L D):=match x with
 |.ins c b _=>if c=C/\(Jr m b).isNone=B then F (x::ds)else J
 |.obj c b _ d _=>if c=C/\(Jr m b).isNone=B/\(Jr m d).isNone=B then F (x::ds)else J
 |_=>J
@[simp] noncomputable def JM(C m)(F:L D->Y Rx)(da:DE)(l b):=(da b).bind λx=>(Ys l b).bind λc=>qh C m F x c
def qi(h:PE X e (kB C m (wv K (G::ks) F) [] E (tR K da) (yw K l)))(A:l.map (·.1)=ks):PE X e (tX K E (JM C m F da l)):=jx h λU H Q xx=>by
 obtain⟨H0,W,UQ,O,r,R,c,f⟩:=xx;subst A;obtain⟨x,e1,c⟩:=j1 c;obtain⟨Z,e2,c⟩:=j1 c;refine#[H0,W,UQ,O,x,R,e1,λv H1 w P=>?_];have o:∀a,v=.ref a->F _=S r->yw K l U H1 λy H2=>wv K (G::l.map _) F (v::(y++[])) H2 Q E:=λa _ e3=>by
  refine#[H0,W,UQ,O,Z,R.grow w,e2,λy H2 z ak=>?_]
  (try dsimp only)
  rw[uFa];refine#[O,x::Z,r,(R.grow (w.trans z)).al,#[P.same z,ak],e3,?_];cases r with
  |ok d=>exact λv T s r=>f v T ((w.trans z).trans s) r
  |xc p=>exact λT s=>f T ((w.trans z).trans s)
 cases x with
 |ins t u xs=>
  have n:(if t=C/\(Jr m u).isNone=B then F _ else J)=S r:=c;by_cases j:t=C/\(Jr m u).isNone=B
  ·rw[if_pos j]at n;obtain⟨N,I⟩:=j;subst N;have b:=P;obtain⟨a,dx,y,rfl,M,n1,_⟩:=b.ins;exact#[a,dx,_,rfl,M,zJ (by simpa using I),o a rfl n]
  ·simp_all
 |obj t u xs ms ys=>
  have n:(if t=C/\(Jr m u).isNone=B/\(Jr m ms).isNone=B then F _ else J)=S r:=c;by_cases j:t=C/\(Jr m u).isNone=B/\(Jr m ms).isNone=B
  ·rw[if_pos j]at n;obtain⟨N,I,hm⟩:=j;subst N;have b:=P;obtain⟨a,dx,y,us,rfl,M,_⟩:=b.obj;exact#[a,dx,_,rfl,M,by rw[List.lookup_append,zJ (by simpa using I),zJ (by simpa using hm)];rfl,o a rfl n]
  ·simp_all
 |_=>exact Zn c
end
noncomputable def Jt(f:Str):L Str->Y Nat
 |[]=>J
 |g::r=>if g=f then S 0 else(Jt f r).map (· + 1)
noncomputable abbrev SK(b:L Str)(a:L V):L (Gq×V):=(b.map Sum.inr).zip a
section
variable{X:Cx}{pins:Tq}{U:L2.St}{H:Hp}{s:Shared}{a b:Addr}{kvs:L (Gq×V)}{ep:Nat}{k:Str}{K:Fr}
def uU(I:Inv X pins U H s)(h:H a=S (.dK kvs ep)):kvs.length<=sizeLine/\(a==sysModules)=G/\∃d c,KV kvs d/\FJ s.heap a c ep/\KeysOf (yP X.prog X.w) c/\Pairs (yP X.prog X.w) c.toList d/\(d.map (·.1)).Nodup:=by
 obtain⟨z,y,d,r,o,c,e,i,l,g,j,f⟩:=(show Jh _ _ H _ a _ from I.hok a _ h)
 exact#[z,y,d,c,r,#[o,e,i,l],g,j,f]
def Ge{c}(r:FJ s.heap a c ep)(g:KeysOf (yP X.prog X.w) c)(f:Pairs (yP X.prog X.w) c.toList d)(j:(d.map (·.1)).Nodup):s.heap.DictOf (yP X.prog X.w) a d:=by
 obtain⟨o,h,e,i⟩:=r;exact#[o,c,ep,h,e,i,g,f,j]
theorem Xw:∀{d f c},KV (SK d f) c->d.length=f.length->match Jt k d with
  |S j=>∃v u,f[j]?=S v/\valueAt c (.inr k)=S u/\jp v u
  |none=>valueAt c (.inr k)=J
 |[],[],c,r,_=>by cases r;rfl
 |g::d,v::f,c,r,h=>by
  cases r with
  |@cons p q x l o t=>
   obtain⟨m,w⟩:=o;rw[Jt];by_cases e:g=k
   ·rw[if_pos e];refine#[v,_,rfl,?_,w];unfold valueAt;rw[List.find?_cons,<-m,e];simp
   ·rw[if_neg e];have i:=Xw t (by simpa using h);have n:valueAt (q::l) (.inr k)=valueAt l (.inr k):=by
     unfold valueAt;rw[List.find?_cons,<-m];have:decide ((Sum.inr g:Gq)=Sum.inr k)=G:=vBa λz=>e (Sum.inr.inj z);rw[this]
    rw[n];cases z:Jt k d with
    |none=>rw[z]at i;exact i
    |some j=>rw[z]at i;exact i
def DJ{c d}(r:KV (SK c d) f)(h:c.length=d.length)(e:Jt k c=S j):∃v u,d[j]?=S v/\valueAt f (.inr k)=S u/\jp v u:=by
 have:=Xw (k:=k) r h;rw[e]at this;exact this
def Cv{d}(r:KV (SK c f) d)(h:c.length=f.length):(valueAt d (.inr k)).isSome=(Jt k c).isSome:=by
 have:=Xw (k:=k) r h;cases e:Jt k c with
 |none=>rw[e]at this;rw[this];rfl
 |some j=>rw[e]at this;obtain⟨_,u,_,z,_⟩:=this;rw[z];rfl
@[simp] noncomputable def J5(ks k):=if(Jt k ks).isSome=B then ks else ks++[k]
noncomputable def jU(ks:L Str)(d:L c)(k:Str)(v:c):L c:=match Jt k ks with
 |S j=>d.set j v
 |none=>d++[v]
def Ad{v:V}(h:c.length=d.length):(J5 c k).length=(jU c d k v).length:=by
 unfold J5 jU;cases e:Jt k c with
 |none=>simp[h]
 |some j=>simp[h]
theorem Ae(y:jp v u):∀{d l i},KV (SK d l) i->d.length=l.length->(i.map (·.1)).Nodup->KV (SK d (match Jt k d with
  |S j=>l.set j v
  |none=>l)) (i.map λc=>if c.1=.inr k then(c.1,u)else c)/\(i.any λc=>decide (c.1=.inr k))=(Jt k d).isSome
 |[],[],i,r,_,_=>by cases r;exact#[.nil,rfl]
 |g::d,w::l,i,r,h,P=>by
  cases r with
  |@cons p q R n O t=>
   obtain⟨f,C⟩:=O;obtain⟨F,I⟩:=List.nodup_cons.mp P;obtain⟨m,M⟩:=Ae y t (by simpa using h) I;rw[Jt,vWa,List.any_cons];by_cases e:g=k
   ·subst e;rw[if_pos rfl,if_pos f.symm];refine#[?_,by rw[decide_eq_true f.symm];rfl];have Q:∀x∈n,x.1≠Sum.inr g:=λx o z=>F (by
     show q.1∈_;rw[<-f,<-z];exact List.mem_map.mpr #[x,o,rfl])
    have N:(n.map λc=>if c.1=.inr g then(c.1,u)else c)=n:=by
     refine(List.map_congr_left λx o=>?_).trans (List.map_id n);rw[if_neg (Q x o)];rfl
    rw[N];exact .cons #[f,y] t
   ·have A:=λz=>e (Sum.inr.inj (f.trans z));rw[if_neg e,if_neg A,decide_eq_false A,Bool.false_or,M];refine#[?_,by simp];cases z:Jt k d with
    |none=>rw[z]at m;exact .cons #[f,C] m
    |some j=>rw[z]at m;exact .cons #[f,C] m
def Xx{l:L e}{m d}{c:L f}(h:Paired F l m)(q:Paired F d c):Paired F (l++d) (m++c):=by
 induction h with
 |nil=>exact q
 |cons h _ i=>exact .cons h i
def Hk(f:jp v u){c d e}(r:KV (SK c d) e)(h:c.length=d.length)(l:(e.map (·.1)).Nodup):KV (SK (J5 c k) (jU c d k v)) (stored e (.inr k) u):=by
 obtain⟨g,i⟩:=Ae f r h l;unfold stored J5 jU;rw[i];cases z:Jt k c with
 |none=>
  rw[if_neg (by simp),if_neg (by simp)];unfold SK;rw[uDa,List.zip_append (by simp_all)];exact Xx r (.cons #[rfl,f] .nil)
 |some j=>
  rw[z]at g;exact g
noncomputable def Cw:R2:=λx y H Q=>∃a c d ep k j v,x=.ref a/\y=.str k/\H a=S (.dK (SK c d) ep)/\c.length=d.length/\Jt k c=S j/\d[j]?=S v/\Q v H
def Lc:Ur X Cw:=by
 intro c d pins s U H x y v u Q I p w h n;obtain⟨a,R,P,ep,k,j,v,rfl,rfl,o,M,i,m,q⟩:=h;subst p;obtain⟨t,rfl⟩:=w;obtain⟨z,UQ,W,Z,r,g,A,N,F⟩:=uU I o;have e:=Ge g A N F;obtain⟨T,O,f,C,l⟩:=DJ r M i;rw[m]at f;obtain rfl:=Zj f;exact tail_any e.typeIs slot_dict_getitem.lookup (wpAny_getItem_of (ZC _ _ _ _) e.mapOf C #[_,H,I.tok _,l,q]) n
noncomputable def Bf(c:Bool):R2:=λx y H Q=>∃a d e ep k,y=.ref a/\x=.str k/\H a=S (.dK (SK d e) ep)/\d.length=e.length/\Q (.bl (xor c (Jt k d).isSome)) H
def Bg:jW X (compareOp .In) (Bf G):=by
 intro pins s U H x y v u Q I m c h;obtain⟨a,n,o,ep,k,rfl,rfl,j,i,q⟩:=h;subst c;obtain⟨t,rfl⟩:=m;obtain⟨z,l,p,w,r,e,g,d,f⟩:=uU I j;refine wpAny_in_of (ZC _ _ _ _) l (Ge e g d f).mapOf #[_,H,I.tok _,?_,q];rw[Cv r i,Bool.false_xor];rfl
def Qr:jW X (compareOp .NotIn) (Bf B):=by
 intro pins s U H x y v u Q I m c h;obtain⟨a,n,o,ep,k,rfl,rfl,j,i,q⟩:=h;subst c;obtain⟨t,rfl⟩:=m;obtain⟨z,l,p,w,r,e,g,d,f⟩:=uU I j;refine wpAny_notIn_of (ZC _ _ _ _) l (Ge e g d f).mapOf #[_,H,I.tok _,?_,q];rw[Cv r i,Bool.true_xor];rfl
noncomputable def Cy:V->V->V->Hp->(Hp->Prop)->Prop:=λo i v H Q=>∃a c e ep k,o=.ref a/\i=.str k/\H a=S (.dK (SK c e) ep)/\c.length=e.length/\c.length<sizeLine/\∀d,Q (upd H a (.dK (SK (J5 c k) (jU c e k v)) d))
def Hl:xH X Cy:=by
 intro pins s U H o i v ov iv u Q I x O P h;obtain⟨a,d,m,ep,k,rfl,rfl,l,w,hz,q⟩:=h;subst x;obtain⟨t,rfl⟩:=O;obtain⟨z,M,vs,es,r,rd,Z,F,p⟩:=uU I l;refine wpAny_setItem_pairs (hsz:=by rw[<-Paired.length r];exact z) (ZC _ _ k t) (Ge rd Z F p) λUQ g A=>?_;obtain⟨o,T,j,n,y,e3,R,W,N⟩:=g;have ln:(SK (J5 d k) (jU d m k v)).length<=sizeLine:=by
  rw[List.length_zip,vYa,Ad w,Nat.min_self];unfold jU;split
  ·grind
  ·simp;lia
 have f:Jh _ _ (upd H a (.dK (SK (J5 d k) (jU d m k v)) j)) UQ a (.dK _ _):=#[ln,M,_,Hk P r w p,o,_,n,y,e3,R,W,N]
 exact#[_,I.write (by rw[l];trivial) (.inl rfl) (λc z C e=>(A.2 c C).trans e) #[_,n] f,q _]
noncomputable def Ld:TE:=λ_ H Q=>∀p,H p=J->Q (.ref p) (upd H p (.dK [] 0))
def DL:PE X (.Dict [] [] c) Ld:=λpins s U H Q I h=>
 wpAny_Dict_empty #[.ref _,_,I.laid (o:=.dK [] 0) (λ_ _ q=>wIa _ q) (wPa _)
  #[Nat.zero_le _,beq_eq_false_iff_ne.mpr (Ne.symm (wTa (Inv.big I))),[],.nil,_,_,wJa _ rfl,#[rfl,rfl,rfl],rfl,(by intro e d;simp at d),.nil,List.nodup_nil],rfl,h _ (I.hok.fresh (wPa _))]
def Xy:YV X (.type "dict") (λf H Q=>∃a kvs ep,f=[.ref a]/\H a=S (.dK kvs ep)/\∀l c,H l=J->Q (.ref l) (upd H l (.dK kvs c))):=by
 intro pins s U H f R Q I r h;obtain⟨a,kvs,ep,rfl,e,q⟩:=h;cases r with
 |cons F t=>
 cases t;subst F;obtain⟨z,A,N,O,r,i,y,m,x⟩:=uU I e;refine kt_call_dict A (Ge i y m x) (by rw[<-Paired.length r];exact z) λP d w=>?_;obtain⟨o,M,c,j,p,u,C,v,n⟩:=d;refine#[.ref _,_,I.laid (o:=.dK _ _) (λb q g=>?_) (wPa _) #[z,beq_eq_false_iff_ne.mpr (Ne.symm (wTa (Inv.big I))),N,r,o,_,j,p,u,C,v,n],rfl,q _ _ (I.hok.fresh (wPa _))];exact(w.2 b (wTa (wLa g))).trans (wIa _ g)
def Af:YV X (.builtin "len") (λc H Q=>∃a kvs ep,c=[.ref a]/\H a=S (.dK kvs ep)/\Q (.int kvs.length) H):=by
 intro pins s U H c o Q I r h;obtain⟨a,kvs,ep,rfl,e,q⟩:=h;cases r with
 |cons g f=>
 cases f;subst g;obtain⟨z,l,n,p,r,m,d,j,i⟩:=uU I e;refine call_len_dict l (Ge m d j i) (by rw[<-Paired.length r];rw[sizeLine_eq]at z;lia) ?_;rw[<-Paired.length r];exact#[.int _,H,I.tok _,#[_,rfl],q]
def DM(h:(yP P w).is (.inr x) v=B):jp (.str x) v:=by
 rw[xG]at h;rcases JC h with⟨i,t,e,_⟩|⟨y,t,e,rfl⟩
 ·cases e
 ·cases e;exact#[t,rfl]
noncomputable def z9:D->D->Y D
 |.dk d c,.str k=>(Jt k d).bind λj=>c[j]?
 |_,_=>J
def Hm:Jl K Cw z9:=by
 intro O H a b d x y Q o c _ e q;unfold z9 at e;split at e
 ·obtain⟨j,g,l⟩:=j1 e;obtain⟨p,n,ep,rfl,h,r,i⟩:=o.dk;obtain⟨v,m,f⟩:=i.get l;exact#[p,_,n,ep,_,j,v,rfl,c.str,h,r,g,m,q v H (j4.refl H) f]
 ·exact Zn e
noncomputable def zY(c:Bool):D->D->Y D
 |.str k,.dk d _=>S (.bl (xor c (Jt k d).isSome))
 |_,_=>J
def Cz:Jl K (Bf c) (zY c):=by
 intro O H a b d x y Q h f _ e q;unfold zY at e;split at e
 ·obtain rfl:=Zj e;obtain⟨p,i,ep,rfl,g,j,l⟩:=f.dk;exact#[p,_,i,ep,_,rfl,h.str,g,j,q _ H (j4.refl H) rfl]
 ·exact Zn e
def j7.putS{H e f d v c}(r:j7 K H e f)(g:jI K H d v):j7 K H (jU c e k d) (jU c f k v):=by
 unfold jU;cases Jt k c with
 |none=>exact r.snoc g
 |some j=>exact r.set g j
@[simp] noncomputable def uV(i:Nat)(e h:DE)(c:jr):Y Rs:=match c[i]? with
 |S (.ow q (.dk f g))=>(h c).bind λd=>(e c).bind λk=>match k with
  |.str k=>if f.length<sizeLine then S (.nx (c.set i (.ow q (.dk (J5 f k) (jU f g k d)))))else J
  |_=>J
 |_=>J
variable{st:Stmt}{i:Nat}{dkk de:DE}{Px:Xp->Hp->Prop}{pos:Pos}
def Hn(h:PS X st (yz (tE K de) (bh (yf i) (tE K dkk) Cy))):PS X st (tS K Px (uV i dkk de)):=J0 h λD U H N=>by
 obtain⟨u,y,m,O,r,R,c,f⟩:=N;unfold uV at c;cases g:m[i]? with
 |none=>rw[g]at c;exact Zn c
 |some C=>
 rw[g]at c;cases C with
 |ow q Z=>
  cases Z<;>try exact Zn c
  obtain⟨d,P,c⟩:=j1 c;obtain⟨k,Q,c⟩:=j1 c;cases k with
  |str k=>
   by_cases j:ks.length<sizeLine
   ·dsimp only at c;rw[if_pos j]at c;obtain rfl:=Zj c;obtain⟨l,hq,t,⟨T,ep,UQ,p,A⟩,lo,F⟩:=R.ow i _ _ g;refine#[u,y,m,O,d,R,P,λv H1 o W=>#[_,t,u,y,m,O,_,R.grow o,Q,λw H2 x n=>?_]];have e:=o.trans x;have M:=R.grow e;subst n;refine#[l,ks,T,ep,k,rfl,rfl,e _ _ UQ,p,j,λI=>f _ _ O (M.change g hq t lo F #[_,_,jj,Ad p,(A.same (jf e)).putS (W.same (jf x))]) ?_];rw[Y1 lo];exact jf e
   ·dsimp only at c;rw[if_neg j]at c;exact Zn c
  |_=>exact Zn c
 |_=>exact Zn c
@[simp] noncomputable def Wb(_:jr):Y OD:=S (.dk [] [])
def Ho:PE X (.Dict [] [] pos) (tF K Wb):=jx DL λU H Q d=>by
 obtain⟨f,g,h,O,o,R,e,q⟩:=d;obtain rfl:=Zj e;exact λp c=>q p _ (jM c _) c #[[],0,jj,rfl,j7.nil]
noncomputable def uk:L D->Y OD
 |[.dk d c]=>S (.dk d c)
 |_=>J
def DN:C8 K (λj H Q=>∃a kvs ep,j=[.ref a]/\H a=S (.dK kvs ep)/\∀l c,H l=J->Q (.ref l) (upd H l (.dK kvs c))) uk:=by
 intro O H t u w o Q h e q;unfold uk at e;split at e
 ·obtain rfl:=Zj e;obtain⟨v,rfl,r⟩:=Z_ h;obtain⟨p,n,ep,rfl,m,f,g⟩:=r.dk;exact#[p,_,ep,rfl,m,λl c d=>q _ _ (jM d _) d #[n,_,jj,f,g.same (Yz (jM d _) d)]]
 ·exact Zn e
noncomputable def vr:L D->Y D
 |[.dk c _]=>S (.int c.length)
 |_=>J
def Hq:Fn K (λf H Q=>∃a kvs ep,f=[.ref a]/\H a=S (.dK kvs ep)/\Q (.int kvs.length) H) vr:=by
 intro O H l m n d Q h j e q;unfold vr at e;split at e
 ·obtain rfl:=Zj e;obtain⟨v,rfl,r⟩:=Z_ h;obtain⟨p,t,ep,rfl,g,c,o⟩:=r.dk;refine#[p,_,ep,rfl,g,q _ H (j4.refl H) ?_];show _=_;rw[List.length_zip,vYa,<-c,Nat.min_self]
 ·exact Zn e
end
noncomputable def KB(l:L (KD×Bool))(k b):=(l.any λp=>w8 p.1 k&&(p.2==b))&&l.all λp=>!(w8 p.1 k)||(p.2==b)
def DP(h:KB l k b=B):(k,b)∈l/\∀v,(k,v)∈l->v=b:=by
 unfold KB at h;rw[Bool.and_eq_true,List.any_eq_true,List.all_eq_true]at h;obtain⟨⟨⟨j,c⟩,f,d⟩,g⟩:=h;rw[Bool.and_eq_true,u9]at d;obtain⟨e,a⟩:=d;have a:c=b:=by simpa using a
 subst e a;refine#[f,λv i=>?_];have:=g _ i;rw[Bool.or_eq_true]at this;rcases this with z|z
 ·have y:w8 j j=B:=u9.mpr rfl;rw[y]at z;exact Zf z
 ·simpa using z
section
variable{K:Fr}{H:Hp}{a:Addr}{lz:L (KD×Bool)}{m m':L KD}
mutual
theorem qj(h:H a=S (.mem K lz m)):∀{d k v},Jc d=S k->jI K H d v->jI K (upd H a (.mem K lz m')) d v
 |.int i,k,v,e,r=>by exact r
 |.bl i,k,v,e,r=>by exact r
 |.str i,k,v,e,r=>by exact r
 |.tup f,k,v,e,r=>by
  obtain⟨g,l,n⟩:=j1 e;obtain⟨b,o,rfl,t,y⟩:=r;have t:ku K H b o:=t;exact#[b,o,rfl,t.stay λc u A q=>by
   rw[ja λz=>by rw[z,h]at q;obtain rfl:=Zj q;exact A];exact q,wy h l y]
 |.non,k,v,e,r=>by rw[Jc]at e<;>first|exact Zn e|(intros;contradiction)
 |.lst _,k,v,e,r=>by rw[Jc]at e<;>first|exact Zn e|(intros;contradiction)
 |.ins _ _ _,k,v,e,r=>by rw[Jc]at e<;>first|exact Zn e|(intros;contradiction)
 |.obj _ _ _ _ _,k,v,e,r=>by rw[Jc]at e<;>first|exact Zn e|(intros;contradiction)
 |.scr _,k,v,e,r=>by rw[Jc]at e<;>first|exact Zn e|(intros;contradiction)
 |.dct _ _,k,v,e,r=>by rw[Jc]at e<;>first|exact Zn e|(intros;contradiction)
 |.exn _ _,k,v,e,r=>by rw[Jc]at e<;>first|exact Zn e|(intros;contradiction)
 |.mem _,k,v,e,r=>by rw[Jc]at e<;>first|exact Zn e|(intros;contradiction)
 |.dk _ _,k,v,e,r=>by rw[Jc]at e<;>first|exact Zn e|(intros;contradiction)
theorem wy(h:H a=S (.mem K lz m)):∀{f g j},ZF f=S g->j7 K H f j->j7 K (upd H a (.mem K lz m')) f j
 |[],g,j,e,r=>by exact r
 |d::f,g,j,e,r=>by
  obtain⟨k,l,e⟩:=j1 e;obtain⟨x,n,e⟩:=j1 e;obtain⟨v,w,rfl,p,s⟩:=r;exact j7.cons (qj h l p) (wy h n s)
end
@[simp] noncomputable def Wc(f g i:Nat)(d e:DE)(c:jr):Y Rs:=if i≠f/\i≠g then(match(dC g c)with
 |S (.mem l)=>(dV f c).bind λh=>(zQ h).bind λk=>(d c).bind λd1=>(e (c.set i (.cl d1))).bind λv=>match v with
  |.bl b=>if KB l k b=B then S (.rt (.bl b))else J
  |_=>J
 |_=>J)else J
variable{X:Cx}{s k y:Str}{p1 p2 p3 p4 p5 p6 p7 p8 p9 p10 p11 p12 p13 p14:Pos}{e1 e2:Expr}{js jk i n:Nat}{de1 de2:DE}{Px:Xp->Hp->Prop}
def Le{b}(h:dC j b=S d):b[j]?=S (.cl d):=by
 unfold dC at h;split at h
 ·obtain rfl:=Zj h;assumption
 ·exact Zn h
def Lf{t H p O g h j d}(R:Rel K t p g h H O)(b:dV j g=S d):∃v,h[j]?=S (S v)/\RB K O H d v:=by
 unfold dV at b;split at b
 ·cases b;obtain⟨v,e1,r⟩:=R.cl j _ (by assumption);exact#[v,e1,.inl r]
 ·cases b;obtain⟨v,e1,r⟩:=R.bo j _ (by assumption);refine#[v,e1,?_];rcases r with r|⟨l,o,e2,e,c⟩|⟨l,f,o,e2,e,c⟩
  ·exact .inl (r.same R.in0)
  ·exact .inr (.inl #[l,o,e2,e,c.same (R.keep l) R.in0])
  ·exact .inr (.inr #[l,f,o,e2,e,c.mono (λa _ u z=>R.keep a u z) R.in0])
 ·cases b;obtain⟨l,_,e1,c,_⟩:=R.ow j _ _ (by assumption);exact#[_,e1,.inr (.inl #[l,_,rfl,rfl,c])]
 ·cases b;obtain⟨l,f,e1,_,c,_⟩:=R.lo j _ _ (by assumption);exact#[_,e1,.inr (.inr #[l,f,_,rfl,rfl,c])]
 ·exact Zn b
def DQ(W:Room n X.A)(hs:∀p,PE X (.Name s p) (yf js))(hk:∀p,PE X (.Name k p) (yf jk))(ha:PS X (.Assign [.Name y p4] e1 p5) (yz (tE K de1) (yJ i)))(he:PE X e2 (tE K de2))(hK:X.K=K)
  (h1:swapsWithSole [.Subscript (.Name k p6) (.Name s p7) p8] e2 p9.line X.env=pure G) (h2:swappedStores [.Subscript (.Name k p6) (.Name s p7) p8] e2 X.env=pure J):
  Jb X [.If (.Compare (.Name s p1) [.NotIn] [.Name k p2] p3) [.Assign [.Name y p4] e1 p5,.Assign [.Subscript (.Name k p6) (.Name s p7) p8] e2 p9] [] p10,.Return (S (.Subscript (.Name k p11) (.Name s p12) p13)) p14] (tS K Px (Wc js jk i de1 de2)):=by
 subst hK;refine vZ (vR (cx (QB (qd W) (hs p1) (hk p2) rfl) (vR ha (uc (ud he (Wn (hk p6) (hs p7) (DC W) λ_=>rfl) h1 h2))) Qx) (uc (vS (xY (h_ W) (hk p11) (hs p12) λ_ _=>rfl)))) λD U H xx=>?_;obtain⟨H0,O0,ρ,O,r,R,d,f⟩:=xx;unfold Wc at d;by_cases hi:i≠js/\i≠jk
 ·rw[if_pos hi]at d;obtain⟨N,F⟩:=hi;cases hm:dC jk ρ with
  |none=>rw[hm]at d;exact Zn d
  |some dm=>
  rw[hm]at d;cases dm<;>try exact Zn d
  obtain⟨P,w1,d⟩:=j1 d;obtain⟨h,u,d⟩:=j1 d;obtain⟨d1,w3,d⟩:=j1 d;obtain⟨v,w4,d⟩:=j1 d;cases v with
  |bl Q=>
   by_cases T:KB l h Q=B
   ·dsimp only at d;rw[if_pos T]at d;obtain rfl:=Zj d;obtain⟨t1,t2⟩:=DP T;obtain⟨v0,A,UQ⟩:=R.cl jk _ (Le hm);obtain⟨a,rfl,UQ⟩:=UQ;have g:=yR _ _ UQ;obtain⟨v1,I,q1⟩:=Lf R w1;obtain⟨b,rfl,C⟩:=FK q1 u;have o:∀(e:L2.St) (t:Hp),e[js]?=S _->e[jk]?=S _->j4 H t->Ew (Qz (Ct X.K) (yf jk) (yf js)) D e _:=λe t x y2 sH=>by
     have j:=sH _ _ g;refine#[_,y2,_,x,a,b,l,h,P,rfl,rfl,jj,qj j (ZR u).1 (C.same sH),u,λv hv=>?_];have eH:upd (upd t a (.mem X.K l [h])) a (.mem X.K l [])=t:=by
      funext c;by_cases w:c=a
      ·subst w;rw[jj,j]
      ·rw[ja w,ja w]
     rw[eH,t2 v hv];exact f _ t (R.keep.trans sH) rfl
    refine#[_,I,_,A,a,b,l,h,P,rfl,rfl,g,C,u,#[B,rfl,Zb #[H0,O0,ρ,O,d1,R,w3,λv H1 z Z=>?_]],#[G,rfl,Za (o U H I A (j4.refl H))]];refine#[H0,O0,_,O,.bl Q,(R.grow z).set Z i,w4,λv2 H2 M rv2=>?_];subst rv2;have y0:(U.set i (S v))[jk]?=S (S (.ref a)):=by rw[j_ (Ne.symm F)];exact A
    have x:(U.set i (S v))[js]?=S (S (.ref b)):=by rw[j_ (Ne.symm N)];exact I
    exact#[_,y0,_,x,a,b,l,h,P,Q,rfl,rfl,rfl,(z.trans M) _ _ g,C.same (z.trans M),u,t1,o _ H2 x y0 (z.trans M)]
   ·dsimp only at d;rw[if_neg T]at d;exact Zn d
  |_=>exact Zn d
 ·simp_all
end
end DS
namespace L2
open PySem PySem.Spec PyProof.Rows PySem.Builtin PySem.Builtin.Str
variable{X:Cx}
def Ag:jW X (compareOp .LtE) (λx y H Q=>∃i j,x=.str i/\y=.str j/\Q (.bl (!(decide (j.cps.toList<i.cps.toList)))) H):=by
 intro a s d H x y v u Q I c b h;obtain⟨i,j,rfl,rfl,q⟩:=h;obtain⟨t,rfl⟩:=c;obtain⟨e,rfl⟩:=b;exact PySem.P.le_str (jH I q rfl)
theorem wz:∀{a b},jl (a.map V.str) b->∃l ,strValues l=b/\l.map (·.1)=a
 |[],_,h=>by cases h;exact#[[],rfl,rfl]
 |x::a,_,h=>by
  cases h with
  |cons r t=>
   obtain⟨k,rfl⟩:=r;obtain⟨l,c,d⟩:=wz t;exact#[(x,k)::l,by rw[<-c];rfl,by simp_all]
theorem wA:∀(l),jl ((l.map (·.1)).map V.str) (strValues l)
 |[]=>.nil
 |(x,t)::l=>.cons #[t,rfl] (wA l)
noncomputable def Hr:V->L V->Hp->VK->Prop:=λx c H Q=>∃a b,x=.str a/\c=[.str b]/\1<=b.length/\a.length<sizeLine/\∀p,H p=J->Q (.ref p) (upd H p (.lst ((Txt.split a b).map V.str)))
def Bh:cM X "str.split" Hr:=by
 intro i s n H x M v N Q I y p h;obtain⟨a,b,rfl,rfl,w,C,q⟩:=h;obtain⟨t,rfl⟩:=y;obtain⟨A,rfl,u,rfl⟩:=p.one;have z:=split_weight a b w;have j:(b.length==0)=G:=by lia
 have c:∀(l:L (Str×Tok)) (k),l.map _=Txt.split a b->EP X _ n Q _ {s with toks:=k,heap:=s.heap.push {cls:=.type "list",data:=.seq _} }:=λl k e=>by
  have r:=wA l;rw[e]at r;exact#[.ref _,_,I.laid (λb o e=>wIa _ e) (wPa _) (show Jh _ _ _ _ _ (.lst _) from#[by rw[vYa];omega,_,_,r,wJa _ rfl]),rfl,q _ (I.hok.fresh (wPa _))]
 cases d:(decide (a.length<b.length)||decide (strKind a<strKind b))
 ·cases f:(occurrences a b 0 _ _).isEmpty
  ·have m:Txt.split a b=partsBetween a _ _:=(if_neg (ne_true_of_eq_false d)).trans (if_neg (ne_true_of_eq_false f));have g:(partsBetween a (occurrences a b 0 a.length (a.length+1)) b.length).length<=sizeLine:=by rw[<-m];omega
   refine call_meets F.slot_str_split (typeIs_str _ _ _) F.entry_str_split (F.args_str_split_2 _ _) (meets_str_split_sep a b t u d j f (by omega) g) ?_;rw[strsFrom_eq];exact c _ _ ((numbered_texts _ _).trans m.symm)
  ·exact call_meets F.slot_str_split (typeIs_str _ _ _) F.entry_str_split (F.args_str_split_2 _ _) (meets_str_split_not_found a b t u d j f) (c [(a,t)] _ ((if_neg (ne_true_of_eq_false d)).trans (if_pos f)).symm)
 ·exact call_meets F.slot_str_split (typeIs_str _ _ _) F.entry_str_split (F.args_str_split_2 _ _) (meets_str_split_cannot_occur a b t u d) (c [(a,t)] _ (if_pos d).symm)
noncomputable def MQ:V->Y Int->Y Int->Hp->VK->Prop:=λx lo a H Q=>∃z,x=.str z/\z.length<=sizeLine/\Q (.str (Txt.slice z lo a)) H
def QP(p:IsPart v o):∃q ,partValue q=v/\q.map (·.1)=o:=by
 cases p with
 |none=>exact#[J,rfl,rfl]
 |int i t=>exact#[S (i,t),rfl,rfl]
def Hs:E_ X MQ:=by
 intro a s r H x v w p lo n y Q I j b d i h;obtain⟨z,rfl,c,q⟩:=h;obtain⟨t,rfl⟩:=j;obtain⟨l,rfl,rfl⟩:=QP d;obtain⟨u,rfl,rfl⟩:=QP i;obtain⟨o,e,g,f⟩:=b;exact#["str",_,F.slot_str_getitem.lookup,typeIs_str _ _ _,wpAny_getItem_str_slice (st:=J) #[o,e,g,f] rfl (post_val_or_str #[wSa (Txt.slice_le z _ _) c,λm k=>#[.str _,H,I.tok _,#[_,rfl],q]])]
end L2
namespace DS
open PySem PySem.Spec PyProof.Rows L2
section
variable{X:Cx}{K:Fr}{e a b:Expr}{de da db:DE}{pos:Pos}
noncomputable def Bi(x:Str):It:=#[λi _=>i<x.cps.size,λi H v d=>d=H/\∃c,x.cps[i]?=S c/\v=.str #[#v[c]],λi _=>x.cps.size<=i]
def DR{x:Str}(h:i<x.cps.size):x.cps[i]?=S x.cps[i]:=by simp
def Bj(f x t p)(j:p ="str_ascii_iterator"\/p ="str_iterator"):Turn P w K tg (Bi x) [f] f (λi h=>h.IsStrIter f p x t i) where
 mem:=by simp
 obj:=λi h st b m=>by
  have e:b=f:=by simpa using m
  subst e;obtain⟨o,e,c,d⟩:=st;exact#[o,e,λv z=>by lia]
 keep:=λi h l st k=>by
  obtain⟨o,e,c⟩:=st;exact#[o,k f (by simp) o e,c]
 item:=by
  intro X hP W Z F i r s N H E I A st T;subst hP W Z;have n:=DR (show i<x.cps.size from T);obtain⟨Q,O,f2,R,C,M⟩:=A f (by simp);have g:∀(l),l.IsStrIter f p x t _->Heap.SameBut f _ l->∃u,S (Value.str _ s.toks)=S u/\wpAny (model X.prog X.w) X.A (letOwnedTupleGo tg _ u) (λ_ s2=>∃v UQ,Inv X _ N UQ s2/\jp v u/\(Bi x).yld i H v UQ/\s2.heap.IsStrIter f p x t (i+1)/\∀b∈[f],UQ b=J) E _:=λl y sb=>by
   have I1:=I.turned (t':=s.toks+1) (λb o m e=>(sb.2 b m).trans e) Q O R C M;obtain⟨o,e,c,d⟩:=id y;exact#[_,rfl,kv e c d (by rcases j with rfl|rfl<;>decide) #[.str _,H,I1,#[_,rfl],#[rfl,_,n,rfl],y,λb m=>(A b m).1]]
  rcases j with rfl|rfl
  ·exact wpAny_pyNext_ascii_item st n g
  ·exact wpAny_pyNext_wide_item st n g
 done:=by
  intro X hP W Z F i r s N H E I A st T;have n:x.cps[i]?=J:=by simpa using (show x.cps.size<=i from T)
  obtain⟨Q,O,f2,R,C,M⟩:=A f (by simp);have g:∀l,Heap.ExtBut f _ l->(J:Y Value)=J/\Inv X _ N H _:=λl eb=>#[rfl,I.turned (t':=s.toks) (λb o m e=>eb b o m e) Q O R C M]
  rcases j with rfl|rfl
  ·exact wpAny_pyNext_ascii_end (I.ok.hd F) st n g
  ·exact wpAny_pyNext_wide_end (I.ok.hd F) st n g
 self:=λ_ _ _ _ _ st h=>by
  rcases j with rfl|rfl
  ·exact wpAny_pyIter_striter_ascii st h
  ·exact wpAny_pyIter_striter_wide st h
noncomputable def v4(x:Str):=x.cps.toList.map λc=>D.str #[#v[c]]
@[simp] noncomputable def Xz(de:DE)(c):=(de c).bind λd=>match d with
 |.str x=>S (v4 x)
 |_=>J
def Ht(x):WN K (Bi x) m o H O (v4 x):=λi p l _ _ _ _=>by
 have n:(v4 x).length=x.cps.size:=by simp[v4]
 refine#[λd f=>?_,λg=>by show x.cps.size<=i;omega];have g:i<x.cps.size:=by grind
 refine#[g,λv j h=>?_];obtain⟨rfl,c,k,rfl⟩:=h;unfold v4 at f;rw[uAa]at f;have:x.cps.toList[i]?=S c:=by simpa using k
 rw[this]at f;obtain rfl:=Zj f;exact#[j4.refl _,rfl]
def Lg(h:PE X e (tP K de))(UQ:X.K=K:=by rfl):PI X T e (vX K (Xz de)):=λn s N H R I Q=>by
 obtain⟨C,M,p,O,f,i,c,q⟩:=Q;obtain⟨d,P,c⟩:=j1 c;cases d with
 |str x=>
  obtain rfl:=Zj c;refine jv (h _ s N H (λv j=>j4 H j/\v=.str x) I #[C,M,p,O,_,i,P,λv j m r=>#[m,?_]]) λv y F=>?_
  ·have k:=i.grow m;exact(r.at k.keep k.in0 (j4.refl _)).str
  ·obtain⟨w,l,g,A,z,rfl⟩:=F;obtain⟨t,rfl⟩:=A;refine wpAny_pyIter_strU ?_;refine#[_,_,_,_,l,rfl,g.kept λb o e=>wIa _ e,Bj _ x t _ (by unfold strIterType;split<;>simp),#[_,wJa _ rfl,rfl,rfl],λb u=>?_,q _ l z (Ht x)];have e:b=y.heap.objs.size:=by simpa using u
   subst e;exact g.fpOk (wPa _) (g.hok.fresh (wPa _))
 |_=>exact Zn c
noncomputable def Gf:L D->Y (L Str)
 |[]=>S []
 |.str x::r=>(Gf r).bind λl=>S (x::l)
 |_=>J
theorem qk:∀{l c},Gf l=S c->l=c.map D.str
 |[],_,e=>by cases e;rfl
 |x::l,c,e=>by
  cases x with
  |str y=>
   obtain⟨r,d,e⟩:=j1 e;obtain rfl:=Zj e;rw[qk d];rfl
  |_=>exact Zn e
theorem ZS:∀{d:L _}{c},j7 K H (d.map D.str) c↔c=d.map V.str
 |[],c=>by rfl
 |x::d,c=>by
  constructor
  ·rintro⟨v,r,rfl,g,f⟩;rw[g,ZS.mp f];rfl
  ·rintro rfl;exact#[_,_,rfl,rfl,ZS.mpr rfl]
noncomputable def ge:D->D->Y OD
 |.str x,.str y=>if 1<=y.length/\x.length<sizeLine then S (.lst ((Txt.split x y).map D.str))else J
 |_,_=>J
set_option tactic.hygienic true
theorem DU(M:PE X a (tR K da))(u:PE X b (tR K db))(f:attributeBase a "split" X.env (eval a X.env)=eval a X.env)(C:(z.endLine==pos.line)=B)(i:∀r ,starEach (b::r) X.env=(G,eval b X.env)::starEach r X.env)(P:X.K=K):PE X (.Call (.Attribute a "split" z) [b] [] pos) (tF K (yx ge da db)):=by
 refine jx (x_ PySem.F.plainAttrs_str PySem.F.slot_str_split PySem.F.type_str_split Bh M (Jx u Yc (i _)) f (by rw[i];rfl) C (i _) rfl) λW H Q I=>?_;obtain⟨m,n,o,O,d,R,c,q⟩:=I;obtain⟨x,s,c⟩:=j1 c;obtain⟨y,A,c⟩:=j1 c;refine#[m,n,o,O,x,R,s,λv N g t=>?_];unfold ge at c;split at c
 ·split at c
  ·rename_i l;obtain rfl:=Zj c;have w:=t.str;subst w;refine#[rfl,m,n,o,O,_,R.grow g,A,λT UQ j F=>?_];have h:=F.str;subst h;refine#[_,_,rfl,rfl,l.1,l.2,λp k=>q p _ ((g.trans j).trans (jM k _)) ((g.trans j).none k) ?_];exact#[_,jj,ZS.mpr rfl]
  ·exact Zn c
 ·exact Zn c
@[simp] noncomputable def kT:L D->Y D
 |[.str x]=>if x.length<=sizeLine then S (.int x.length)else J
 |_=>J
theorem Hu:Fn K (λc H Q=>∃z,c=[.str z]/\z.length<=sizeLine/\Q (.int z.length) H) kT:=by
 intro O H k j g d Q h i e q;unfold kT at e;split at e
 ·split at e
  ·rename_i f;obtain rfl:=Zj e;obtain⟨v,rfl,r⟩:=Z_ h;exact#[_,by rw[r.str],f,q _ H (j4.refl H) rfl]
  ·exact Zn e
 ·exact Zn e
noncomputable def V5:D->D->Y D
 |.str x,.str y=>S (.bl (!(decide (y.cps.toList<x.cps.toList))))
 |_,_=>J
def Lh:Jl K (λx y H Q=>∃i j,x=.str i/\y=.str j/\Q (.bl (!(decide (j.cps.toList<i.cps.toList)))) H) V5:=by
 intro O H a b d x y Q f c g e q;unfold V5 at e;split at e
 ·obtain rfl:=Zj e;exact#[_,_,f.str,c.str,q _ H (j4.refl H) rfl]
 ·exact Zn e
noncomputable def Zh:D->D->Y D
 |.str z,.int i=>if z.length<=sizeLine then(atI z.cps.toList i).bind λc=>S (.str #[#v[c]])else J
 |_,_=>J
set_option tactic.hygienic false
set_option tactic.hygienic true in
theorem Li:Jl K bB Zh:=by
 intro O H a b d x y Q i f j e q;unfold Zh at e;split at e
 ·split at e
  ·rename_i g;obtain⟨c,h,e⟩:=j1 e;obtain rfl:=Zj e;exact#[_,_,c,i.str,f.int,g,h,q _ H (j4.refl H) rfl]
  ·exact Zn e
 ·exact Zn e
noncomputable def XA(d:D)(lo c:Y Int):Y D:=match d with
 |.str z=>if z.length<=sizeLine then S (.str (Txt.slice z lo c))else J
 |_=>J
@[simp] noncomputable def Gg(de:DE)(p q:C7)(c):=(de c).bind λd=>(p c).bind λlo=>(q c).bind λf=>XA d lo f
def Hv{lo j p q m}(y:PE X e (tR K de))(s:PO X lo (WM K p))(C:PO X j (WM K q))(N:X.K=K:=by rfl):PE X (.Subscript e (.Slice lo j J m) pos) (tE K (Gg de p q)):=jx (Wu Hs y s C) λM H Q A=>by
 obtain⟨g,i,f,O,d,R,c,z⟩:=A;obtain⟨x,w,c⟩:=j1 c;obtain⟨l,o,c⟩:=j1 c;obtain⟨u,n,c⟩:=j1 c;refine#[g,i,f,O,x,R,w,λv F h r=>#[g,i,f,O,l,R.grow h,o,λP k=>#[g,i,f,O,u,R.grow (h.trans k),n,λI t=>?_]]];unfold XA at c;split at c
 ·split at c
  ·obtain rfl:=Zj c;refine#[_,r.str,by assumption,z _ _ ((h.trans k).trans t) rfl]
  ·exact Zn c
 ·exact Zn c
end
end DS
namespace L2
open PySem PySem.Spec PyProof.Rows
end L2
namespace DS
open PySem PySem.Spec PyProof.Rows L2
section
variable{X:Cx}{K:Fr}{E:XK}{e:Expr}{C:Addr}{m:Str}{l l':DA}{ks ks':L Bool}{F UQ:HS->L D->Y (Rx×HS)}{tb:L (D×L (KD×Bool))}
@[simp] noncomputable def Bl(b:DX)(c:DE)(a:jr):Y Rx:=(b a).bind λr=>match r with
 |.xc p=>S (.xc p)
 |.ok d=>(c a).bind λy=>(j3 d y).map .ok
def MR(w:PE X a (tX X.K E u))(I:PE X b (tR X.K M))(t:gY b):PE X (.Subscript a b o) (tX X.K E (Bl u M)):=jx (xY aB w I t) λU H Q P=>by
 obtain⟨j,k,n,O,r,R,c,q⟩:=P;obtain⟨i,T,c⟩:=j1 c;refine#[j,k,n,O,i,R,T,?_];cases i with
 |xc p=>obtain rfl:=Zj c;exact λf s=>q f s
 |ok d=>
  obtain⟨y,e3,c⟩:=j1 c;obtain⟨Z,W,rfl⟩:=Option.map_eq_some_iff.mp c;exact λx H1 g z=>#[j,k,n,O,y,R.grow g,e3,λvy H2 h N=>fY O H2 d y Z x vy Q (.inl (z.same (jf h))) N (λp A=>(R.grow (g.trans h)).new A) W λv f s r=>q v f ((g.trans h).trans s) r]
@[simp] noncomputable def XB(tb:D->L (KD×Bool))(j:Nat)(a:jr):Y D:=(dV j a).bind λd=>if(tb d).length<=sizeLine then S (.mem (tb d))else J
def Hw{tb j}:PE X (.Dict [] [] i) (tE K (XB tb j)):=λc s h H Q I g=>by
 obtain⟨k,n,r,O,d,R,a,q⟩:=g;obtain⟨x,o,a⟩:=j1 a;by_cases b:(tb x).length<=sizeLine
 ·rw[if_pos b]at a;obtain rfl:=Zj a;exact Dz b _ s h H Q I λp f=>q _ _ (jM f _) (by exact#[p,rfl,by rw[jA (R.new f)];exact jj])
 ·rw[if_neg b]at a;exact Zn a
end
section
variable{X:Cx}{K:Fr}{E:XK}{Px:Xp->Hp->Prop}{e:Addr}{ea a:Expr}{es:L Expr}{st:Stmt}{su bd:L Stmt}{pos p np apos spos tpos:Pos}{i j k:Nat}{g:DG}{C:Addr}{m x y:Str}{l:DA}{ks:L Bool}{f:Addr}{fd:FuncData}{ps:L Str}{da:DE}{F:L D->Y D}{s2:DS}
@[simp] noncomputable def uW(i j:Nat)(F:L D->Y D)(z:Str)(b:jr):Y Rs:=match b[i]? with
 |S (.cl (.exn _ _))=>(F [.str z]).bind λd=>S (.nx (b.set j (.cl d)))
 |_=>J
def DV{t b}(h:PS (X.sui e) st (yz (Co e (vY K [b] F) t) (yJ j)))(ht:∀c H Q,Q [.str z] H->t c H Q)(h2:Jb (X.sui e) su (tS K Px s2)):Jb (X.sui e) (st::su) (λD c H=>c[i]?=S (S (.ref e))/\tS K Px (j0 (uW i j F z) s2) D c H):=
 vZ (vR h h2) λD c H xx=>by
  obtain⟨Z,T,O0,ρ,O,r,R,ed,f⟩:=xx;obtain⟨r1,w,e2⟩:=j1 ed;unfold uW at w;split at w
  ·obtain⟨d,UQ,e4⟩:=j1 w;obtain rfl:=Zj e4;obtain⟨v,P,w2⟩:=R.cl i _ (by assumption);rw[Z]at P;cases P;obtain⟨e',od,z1,z2,_⟩:=w2;cases z1;obtain⟨eO,A⟩:=jZ z2;refine ht _ _ _ #[_,od,A,O,[.str z],d,λa M=>?_,#[?_,trivial],UQ,λv H' s rv n=>?_]
   ·rw[Y_ (λy=>eO (by rw[<-y];exact M))];exact R.al a M
   ·cases b
    ·exact .inl rfl
    ·rfl
   ·have up:=λo=>jM n o;have N:∀o,H e=S o->j4 H (upd H' e o):=λo W b u y=>by
     by_cases I:b=e
     ·subst I;rw[W]at y;obtain rfl:=Zj y;exact jj
     ·rw[ja I];exact s b u (by rw[Y_ I];exact y)
    exact#[T,O0,_,O,r,(R.grow (N _ A)).set (rv.same (jf (up _))) j,e2,f.mono (jf (N _ A))]
  ·exact Zn w
@[simp] noncomputable def VH(F:HS->L D->Y (Rx×HS))(h b):=(F h b).bind λr=>match r.1 with
 |.ok _=>S r
 |_=>J
def Hx{F h d p b}:VH F h d≠S (.xc p,b):=λe=>by
 obtain⟨⟨r,o⟩,n,c⟩:=j1 e;cases r<;>cases c
def Hy{F}:∀b H Q E,VG K ks (VH F) b H Q E->VG K ks F b H Q E:=λb H Q E h=>by
 obtain⟨O,w,l,ps,x,c,r,N,s,P,o,A,u,M,I⟩:=h;obtain⟨z,t,n⟩:=j1 M;obtain⟨v,R⟩:=z;cases v with
 |ok d=>obtain rfl:=Zj n;exact#[O,w,l,ps,x,c,_,N,s,P,o,A,u,t,I]
 |xc p=>exact Zn n
noncomputable abbrev Hz(d:Uv):=∀c p b,d c≠S (.xc p,b)
def qm{F}:Hz (y9 i (VH F) l):=λd p b e=>by
 unfold y9 at e;split at e
 ·obtain⟨o,h,e⟩:=j1 e;obtain⟨⟨n,r⟩,c,e⟩:=j1 e;cases e;exact Hx c
 ·exact Zn e
def DW(n:Hz o)(h:PS X st (yz (tY K E o) (yJ i))):PS X st (tS K Px (zP o λd b=>S (.nx (b.set i (.cl d))))):=J0 h λD T H z=>by
 obtain⟨Q,A,b,O,r,R,N,f⟩:=z;obtain⟨⟨M,w⟩,c,I⟩:=j1 N;refine#[Q,A,b,O,_,R,c,?_];cases M with
 |ok d=>obtain rfl:=Zj I;exact λv P t u s q=>f _ P t (u.set q i) s
 |xc p=>exact vDa c (n _ _ _)
def DY{o}(n:Hz o)(h:PS X st (yz (tY K E o) (tG K kk g))):PS X st (tS K Px (zP o λd u=>(g d u).bind λb=>S (.nx b))):=J0 h λD U H UQ=>by
 obtain⟨w,I,u,O,r,R,N,f⟩:=UQ;obtain⟨⟨Z,b⟩,z,P⟩:=j1 N;refine#[w,I,u,O,_,R,z,?_];cases Z with
 |ok d=>
  obtain⟨c,W,Q⟩:=j1 P;obtain rfl:=Zj Q;exact λv M A T s q=>#[w,I,b,A,d,c,T,q,W,λt R2 _=>f t M A R2 s]
 |xc p=>exact vDa z (n _ _ _)
def XC:yQ (y8 X.prog X.w) X λ_ _ _=>False:=λ_ _ _ _ _ _ _ h=>by
 obtain⟨_,_,_,_,_,_,_,z⟩:=h;exact z.elim
@[simp] noncomputable def gf(c:DX)(b):=(c b).bind λr=>match r with
 |.ok d=>S d
 |_=>J
def Lj(h:PE X ea (tX K (λ_ _ _=>False) t)):PE X ea (tE K (gf t)):=jx h λz H Q s=>by
 obtain⟨n,u,c,O,d,R,v,q⟩:=s;obtain⟨r,o,b⟩:=j1 v;cases r with
 |ok w=>obtain rfl:=Zj b;exact#[n,u,c,O,_,R,o,q]
 |xc p=>exact Zn b
def DZ{Q}(h:yw K [] c H Q):UN c H Q:=by
 obtain⟨o,d,r,O,n,R,b,q⟩:=h;obtain rfl:=Zj b;exact q [] H (j4.refl H) trivial
noncomputable def VI(h:Uv)(n:DS)(d:L Hd)(c:jr):Y Rs:=match h c with
 |S (.xc p,b)=>qc d p b
 |_=>n c
noncomputable def CA(K:Fr)(s:Uv):aW:=λh H t=>∃o r n O p b,Rel K o r n h H O/\s n=S (.xc p,b)/\∀c d,Rel K o r b h c d->j4 (j6 H O) (j6 c d)->PX K t p c
def HA{Z t c v}(N:Cn X bd (CA K c))(hd:Jb X.nox bd (tS K Px v))(hh:PH X (o::Z) (QM K Px t))(M:X.stack=X.env::X.outer)(Q:X.env.frame=S X.env.locals):PS X (.Try bd (o::Z) [] [] tpos) (tS K Px (VI c v t)):=
 J0 (lY (FV N hh M Q) (Dm hd)) λD U H xx=>by
  obtain⟨u,w,I,O,r,R,b,f⟩:=xx;unfold VI at b;have no:v I=S r->(FU (CA K c) (QM K Px t) D U H\/tS K Px v D U H):=λb=>.inr #[u,w,I,O,r,R,b,f];cases UQ:c I with
  |none=>rw[UQ]at b;exact no b
  |some T=>
   rw[UQ]at b;obtain⟨T,h⟩:=T;cases T with
   |ok d=>exact no b
   |xc p=>
    refine .inl #[u,w,I,O,p,h,R,UQ,λH' O' P s=>?_];unfold PX;cases W:p.2 with
    |nil=>exact λe A=>#[u,w,h,O',p,r,P,rfl,λz=>vDa W z,A,b,f.mono s]
    |cons _ _=>
     intro c n e A;rw[<-W]at A⊢;have s2:=jM n (xW c p.2);refine#[u,w,h,O',p,r,P.grow s2,rfl,λ_=>#[c,rfl,?_],A,b,f.mono (s.trans (jf s2))];rw[jA (P.new n)];exact jj
theorem D_{F}(c:FnOk X.prog X.w X.K X.mg X.base (y8 X.prog X.w) k f fd ps (VG K ks F))(hr:Room k X.A)(UQ:X.mg x=S (.ref f))(hk:PySem.W.keepIn X.K (.ref f)=B)(T:Jo X.K fd ps [])
  (Q:PA X.nox (ea::es) (ZD (yf i) (yw K l))) (u:l.map (·.1)=ks) (n:ks.all id=B) (hg:Gl X x) (r:(x==("__debug__"))=G) (he:starEach (ea::es) X.env=(G,eval ea X.env)::starEach es X.env) (v:(backTo pos (starEach es X.env)).any (·.1)=G):
  FP X (.Call (.Name x p) (ea::es) [] pos) (CA K (y9 i F l)):=λo s N H A I Z=>by
 obtain⟨H0,O0,z,O,p,ρ',R,d,q⟩:=Z;subst u;unfold y9 at d;cases w:z[i]? with
 |none=>rw[w]at d;exact Zn d
 |some sl=>
  rw[w]at d;cases sl with
  |lo qq h=>
   obtain⟨ds,e1,d⟩:=j1 d;obtain⟨⟨r',h'⟩,M,d⟩:=j1 d;cases d;obtain⟨a,pl,b⟩:=R.loi w;refine Dl c hr hg UQ hk T Q r he v o s N H A I #[_,b.s,H0,O0,z,O,ds,R,e1,λvs H1 t ak=>?_];exact Xv (R.grow t) (b.grow t) n ak M (λ_ _ _=>trivial) λP W R2 s2=>q P W R2 ((jf t).trans s2)
  |_=>exact Zn d
end
end DS
namespace L2
open PySem PySem.Spec PyProof.Rows PySem.Builtin PySem.Builtin.Str
section
variable{X:Cx}
noncomputable def Lk(K:uXa):V->L V->Hp->VK->Prop:=λx c H Q=>∃a p b,x=.str a/\c=[.ref p]/\jY K H p (b.map V.str)/\JoinOk a b=B/\Q (.str (Txt.join a b)) H
def e7:cM X "str.join" (Lk X.K):=by
 intro a s y H x r v w Q I n d h;obtain⟨m,p,z,rfl,rfl,c,f,q⟩:=h;obtain⟨t,rfl⟩:=n;obtain⟨u,rfl,b⟩:=d.one;subst b;obtain⟨i,j,g,A⟩:=I.list c;obtain⟨l,rfl,e⟩:=wz j;exact SC.join g.isList e f λo k=>#[.str _,H,I.tok _,#[_,rfl],q]
end
end L2
namespace DS
open PySem PySem.Spec PyProof.Rows L2
section
variable{X:Cx}{K:Fr}{Px:Xp->Hp->Prop}{a b:Expr}{st:Stmt}{pos:Pos}{da db:DE}{i j:Nat}
noncomputable def Wd:D->D->Y D
 |.str s,.lst l=>(Gf l).bind λc=>if JoinOk s c=B then S (.str (Txt.join s c))else J
 |_,_=>J
@[simp] theorem nv(s l):Wd (.str s) (.lst l)=(Gf l).bind λc=>if JoinOk s c=B then S (.str (Txt.join s c))else J:=rfl
def HB(A:PE X a (tR K da))(C:PE X b (tR K db))(e:attributeBase a "join" X.env (eval a X.env)=eval a X.env)(T:(t.endLine==pos.line)=B)(f:∀r ,starEach (b::r) X.env=(G,eval b X.env)::starEach r X.env)(hK:X.K=K):PE X (.Call (.Attribute a "join" t) [b] [] pos) (tE K (d2 Wd da db)):=by
 refine jx (x_ PySem.F.plainAttrs_str PySem.F.slot_str_join PySem.F.type_str_join e7 A (Jx C Yc (f _)) e (by rw[f];rfl) T (f _) rfl) λU H Q UQ=>?_;obtain⟨k,n,g,O,d,R,c,q⟩:=UQ;obtain⟨x,N,c⟩:=j1 c;obtain⟨y,P,c⟩:=j1 c;refine#[k,n,g,O,x,R,N,λv H1 m w=>?_];cases x with
 |str s=>
  cases y with
  |lst l=>
   obtain⟨M,Z,c⟩:=j1 c;split at c
   ·rename_i I;obtain rfl:=Zj c;have F:=w.str;subst F;refine#[rfl,k,n,g,O,_,R.grow m,P,λv2 W z u=>?_];obtain⟨p,xs,rfl,h,o⟩:=u.lst;rw[qk Z]at o;rw[ZS.mp o]at h;exact#[s,p,M,rfl,rfl,jY.of h,I,q _ W (m.trans z) rfl]
   ·exact Zn c
  |_=>exact Zn c
 |_=>exact Zn c
def HC{a:L (Gq×V)}{b}(h:KV a b):b.map (·.1)=a.map (·.1):=by
 induction h with
 |nil=>rfl
 |cons h _ i=>rw[vWa,vWa,i,h.1]
def e9{f:L Str}:∀{l:L Value},l.length=f.length->(∀(j:Nat) v k,l[j]?=S v->f[j]?=S k->jp (.str k) v)->jl (f.map V.str) l:=by
 induction f with
 |nil=>intro l h _;obtain rfl:=List.eq_nil_of_length_eq_zero h;exact .nil
 |cons k f i=>
  intro l h g;cases l with
  |nil=>cases h
  |cons v l=>exact .cons (g 0 _ _ rfl rfl) (i (by simpa using h) λj=>g (j+1))
def XD(y:X.calm=B):YV X (.type "list") (λo H Q=>∃a f m p,o=[.ref a]/\f.length=m.length/\H a=S (.dK (SK f m) p)/\∀l,H l=J->Q (.ref l) (upd H l (.lst (f.map V.str)))):=by
 intro u s Z H o F Q I r h;obtain⟨a,f,m,p,rfl,d,e,q⟩:=h;cases r with
 |cons w C=>
 cases C;subst w;obtain⟨z,x,UQ,P,r,⟨o,n,c,D⟩,g,t,R⟩:=uU I e;have L00:(SK f m).length=f.length:=by rw[List.length_zip,vYa,d,Nat.min_self]
 have N:UQ.length=f.length:=by rw[<-Paired.length r];exact L00
 rw[L00]at z;refine PySem.W.kdl_call (PySem.W.kdl_dict (knd:=yP X.prog X.w) (kvs:=UQ) (ep:=p) x) (I.ok.hd y) #[o,P,n,c,D,g,t,R] (by rw[N];exact z) λT W v k i j ⟨M,K⟩=>?_;refine#[.ref _,_,I.laid (o:=.lst _) i (wPa _) #[by rw[vYa];exact z,v.toList,k,e9 (by rw[Array.length_toList,M];exact N) λb u l A O=>?_,by simpa using j],rfl,q _ (I.hok.fresh (wPa _))];obtain⟨k',_,By,G00⟩:=K b u (by simpa using A);have E:=congrArg (·[b]?) (HC r);rw[List.map_fst_zip (by simp[d])]at E;simp[By,O]at E;subst E;exact DM G00
noncomputable def KC:D->D->Y D
 |.str x,.str y=>S (.bl (!(Builtin.Str.occurrences y x 0 y.length 1).isEmpty))
 |_,_=>J
def Ll:Jl K (λx y H Q=>∃i j,x=.str i/\y=.str j/\Q (.bl (!(Builtin.Str.occurrences j i 0 j.length 1).isEmpty)) H) KC:=by
 intro O H a b d x y Q f c g e q;unfold KC at e;split at e
 ·obtain rfl:=Zj e;exact#[_,_,f.str,c.str,q _ H (j4.refl H) rfl]
 ·exact Zn e
noncomputable def YC:L D->Y OD
 |[.dk c _]=>S (.lst (c.map D.str))
 |_=>J
def ef:C8 K (λo H Q=>∃a f c h,o=[.ref a]/\f.length=c.length/\H a=S (.dK (SK f c) h)/\∀l,H l=J->Q (.ref l) (upd H l (.lst (f.map V.str)))) YC:=by
 intro O H f s t d Q m e q;unfold YC at e;split at e
 ·obtain rfl:=Zj e;obtain⟨v,rfl,r⟩:=Z_ m;obtain⟨p,c,h,rfl,n,k,u⟩:=r.dk;exact#[p,_,c,h,rfl,k,n,λl g=>q l _ (jM g _) g (Y0 g (ZS.mpr rfl))]
 ·exact Zn e
@[simp] noncomputable def qo(i j:Nat)(e:jr):Y Rs:=match e[i]? with
 |S (.ow q (.lst c))=>(c[c.length-1]?).bind λd=>S (.nx ((e.set i (.ow q (.lst c.dropLast))).set j (.cl d)))
 |_=>J
def j7.dropLast{d c}(r:j7 K H d c):j7 K H d.dropLast c.dropLast:=by
 rw[List.dropLast_eq_take,List.dropLast_eq_take,r.len];exact r.take _
def Lm(h:PS X st (yz (fq K "list" (λx g H Q=>bD x g H Q) (yf i)) (yJ j))):PS X st (tS K Px (qo i j)):=J0 h λD y H w=>by
 obtain⟨z,A,C,O,r,R,c,f⟩:=w;unfold qo at c;split at c
 ·obtain⟨d,o,p⟩:=j1 c;obtain rfl:=Zj p;obtain⟨l,n,k,⟨g,m,e⟩,lo,u⟩:=R.ow i _ _ (by assumption);obtain⟨v,s,t⟩:=e.get o;refine#[_,k,.inl #[rfl,_,jY.of m],l,g,v,rfl,rfl,m,by rw[e.len];exact s,?_];have R2:=R.change (by assumption) n k lo u (ds':=.lst _) #[_,jj,e.dropLast];refine f _ _ O (R2.set (i:=j) (by rw[Y1 lo];exact t)) (by rw[Y1 lo];exact j4.refl _)
 ·exact Zn c
end
end DS
set_option backward.match.sparseCases false
namespace CP
open PySem PySem.Spec PyProof.Rows L2 DS
inductive GI where
 |con (i:Int)
 |fE (k:Nat) (ps:L Str) (ks:L Bool) (F:L D->Y D)
 |fF (k:Nat) (ps:L Str) (ks:L Bool) (F:L D->Y OD)
 |mk (k:Nat) (ps:L Str) (ks:L Bool) (F:Addr->L D->Y OD) (G00:L D->Y OD)
 |fX (k:Nat) (ps:L Str) (ks:L Bool) (F:L D->Y Rx)
 |fH (k:Nat) (ps:L Str) (ks:L Bool) (F:HS->L D->Y (Rx×HS))
 |mH (k:Nat) (ps:L Str) (ks:L Bool) (C:Addr) (F:HS->L D->Y (Rx×HS))
 |blt
structure XT where
 ex:L Str:=[]
 ct:L (Str×L Str×L Str):=[]
 xf:L (Str×Str):=[]
 xp:L Str:=[]
 xq:L (Str×L Str):=[]
 ve:=G
 c3:L (L Str×L Str):=[]
structure Gm where
 cm:Bool
 xm:Bool
 xt:XT
 N:L Str
 sc:Scope
 fn:Bool
 kF:Bool
 C:Addr
 gs:L (Str×GI)
 ms:L (Str×GI)
 fl:L Str
 hs:L ((Nat×Nat×Nat)×L Nat)
 sh:L (Nat×Nat)
 ow:L Nat
 hC:Addr:=0
 hm:L (Str×GI):=[]
 hfl:L Str:=[]
 hls:L Str:=[]
 tb:D->L (KD×Bool):=λ_=>[]
 sf:=G
 ss:L (Str×(L D->Y D)):=[]
inductive Dn where
 |E (d:DE)|F (d:DO)
noncomputable def Dn.e:Dn->DE
 |.E d=>d
 |.F d=>dL d
noncomputable def KG(x:Str):L Str->Y Nat
 |[]=>J
 |y::r=>if x=y then S 0 else(KG x r).map (· + 1)
noncomputable def kd(a:Scope)(x):=a.names.lookup x
noncomputable def uX(a:Scope)(x:Str):Bool:=match kd a x with
 |S .local=>B
 |S .cell=>B
 |S .free=>B
 |_=>G
noncomputable def qp(a:Scope)(x:Str):Bool:=match kd a x with
 |S .local=>B
 |S .cell=>B
 |_=>G
noncomputable def qr(a:Scope)(x:Str):Bool:=match kd a x with
 |S .local=>B
 |_=>G
noncomputable def ul(a:Gm)(x):=(match kd a.sc x with
 |S .globalImplicit=>B
 |_=>G)&&!(x==("__debug__"))
noncomputable def cG(c:Bool)(o:Y a):=if c then o else J
noncomputable def slot(a:Gm)(x):=(KG x a.N).bind λi=>if uX a.sc x&&(!(x==("__debug__"))&&!(x==("__classdict__")))then S i else J
noncomputable def nm(a:Gm):Expr->Y Nat
 |.Name x _=>slot a x
 |_=>J
noncomputable def gg(a:Gm)(x):=(KG x a.N).bind λi=>if qp a.sc x&&(a.fn||qr a.sc x)then S i else J
noncomputable def yE:Expr->Bool
 |.Starred _ _=>G
 |_=>B
structure Rc where
 n:Gm->Expr->Y Dn
 t:Gm->Expr->Y DT
 g:Gm->Nat->Expr->Y DG
section
variable(r:Rc) (Γ:Gm)
noncomputable def cV(f:Nat->DE)(e:Expr):Y DE:=match nm Γ e with
 |S i=>S (f i)
 |none=>(r.n Γ e).map Dn.e
noncomputable def cA:L Bool->L Expr->Y DA
 |[],[]=>S []
 |k::a,e::b=>if yE e then(cV r Γ (if k then dC else dV) e).bind λd=>(cA a b).bind λl=>S ((k,d)::l)else J
 |_,_=>J
noncomputable def HD:Operator->Y (D->D->Y D)
 |.Add=>S jG
 |.Sub=>S zg
 |.Mult=>S zh
 |.Mod=>S jt
 |.FloorDiv=>S Y2
 |.Pow=>S WG
 |_=>J
noncomputable def KH:CmpOp->Y (D->D->Y D)
 |.Eq=>S jD
 |.NotEq=>S Je
 |.Lt=>S ZP
 |.LtE=>S JB
 |.Gt=>S vV
 |.GtE=>S WH
 |.In=>S (zU G)
 |.NotIn=>S (zU B)
 |.Is=>S GK
 |.IsNot=>S YX
noncomputable def cB(f:DE->DE->DE):L Expr->Y DE
 |[]=>J
 |[a]=>cV r Γ dC a
 |a::b=>(cV r Γ dV a).bind λd=>(cB f b).bind λc=>S (f d c)
noncomputable def cW(f:DT->DT->DT):L Expr->Y DT
 |[]=>J
 |[a]=>r.t Γ a
 |a::b=>(r.t Γ a).bind λd=>(cW f b).bind λc=>S (f d c)
noncomputable def part:Y Expr->Y C7
 |none=>S λ_=>S J
 |S e=>(cV r Γ dV e).map λd=>λa=>(d a).bind yi
noncomputable def GR(p:Pos):=Γ.hs.lookup (p.line,p.col,p.endCol)
noncomputable def hc(p:Pos):Nat:=match GR Γ p with
 |S (c::_)=>c
 |_=>0
noncomputable def um:Expr->Bool
 |.Call _ _ _ _=>G
 |_=>B
noncomputable def KI:Expr->Bool
 |.Slice _ _ _ _=>G
 |_=>B
noncomputable def Bm(x:Str)(c):=if x ="len" then S (if c=9 then kT else if c=7 then vr else J9)else if x ="tuple" then S zR else if x ="all" then S VT else if x ="max" then S VS else J
noncomputable def Bo(x:Str)(c)(h:Bool):=if x ="list" then S (if c=7 then YC else yy)else if x ="dict" then S uk else J
noncomputable def Ah(x):=ul Γ x&&(match Γ.gs.lookup x with|S .blt=>B|_=>G)
noncomputable def Uw:Expr->Y Str
 |.Name x _=>S x
 |_=>J
noncomputable def HE:Expr->Y (Expr×Expr)
 |.Subscript c d _=>S (c,d)
 |_=>J
noncomputable def m9:Stmt->Y Expr
 |.Return o _=>o
 |_=>J
noncomputable def HF:Stmt->Y (Expr×Expr)
 |.Assign a e _=>(match a with
  |[t]=>S (t,e)
  |_=>J)
 |_=>J
noncomputable def ma:Expr->Y (Expr×Expr)
 |.Compare a c e _=>(match c,e with
  |[d],[b]=>(match d with
   |.NotIn=>S (a,b)
   |_=>J)
  |_,_=>J)
 |_=>J
noncomputable def me:Stmt->Y (Expr×Expr×Stmt×Stmt)
 |.If c b o _=>(match b,o with
  |[a,d],[]=>(ma c).map λp=>(p.1,p.2,a,d)
  |_,_=>J)
 |_=>J
def Ai(h:HE e=S (c,d)):∃p,e=.Subscript c d p:=by
 cases e<;>cases h;exact#[_,rfl]
def HG(h:m9 s=S e):∃p,s=.Return (S e) p:=by
 cases s<;>cases h;exact#[_,rfl]
def Aj(h:HF s=S (t,e)):∃p,s=.Assign [t] e p:=by
 cases s with
 |Assign a e p=>
  rcases a with _|⟨t,_|⟨_,_⟩⟩<;>cases h
  exact#[_,rfl]
 |_=>exact Zn h
def HH(h:ma e=S (a,b)):∃p,e=.Compare a [.NotIn] [b] p:=by
 cases e with
 |Compare g c f p=>
  rcases c with _|⟨d,_|⟨_,_⟩⟩<;>rcases f with _|⟨i,_|⟨_,_⟩⟩<;>try exact Zn h
  cases d<;>cases h;exact#[_,rfl]
 |_=>exact Zn h
def HI(h:me s=S (a,b,d,f)):∃p g,s=.If (.Compare a [.NotIn] [b] p) [d,f] [] g:=by
 cases s with
 |If c e o p=>
  rcases e with _|⟨_,_|⟨_,_|⟨_,_⟩⟩⟩<;>rcases o with _|⟨_,_⟩<;>try exact Zn h
  obtain⟨⟨k,l⟩,j,i⟩:=Option.map_eq_some_iff.mp h;cases i;obtain⟨p,rfl⟩:=HH j;exact#[_,_,rfl]
 |_=>exact Zn h
def YD(h:Uw e=S x):∃p,e=.Name x p:=by
 cases e<;>cases h;exact#[_,rfl]
noncomputable def Bp(x:Str):=if x ="list" then S "list" else if x ="tuple" then S "tuple" else if x ="bool" then S "bool" else if x ="str" then S "str" else if x ="int" then S "int" else J
noncomputable def CB(e:Expr):Y DI:=match GR Γ e.pos with
 |S (9::_)=>(cV r Γ dP e).map Xz
 |S _=>(cV r Γ dP e).map Ji
 |_=>(cV r Γ dP e).map Ji
noncomputable def HJ(c:Bool)(x:Str)(f:L Expr):Y DI:=
 if Ah Γ x then(match f with
  |[a]=>if x ="range" then cG (yE a) ((cV r Γ dV a).map YZ)else J
  |[a,b]=>if x ="zip" then cG (yE a&&yE b&&c) ((cV r Γ dP a).bind λd=>(cV r Γ dP b).map λe=>WO d e)else J
  |_=>J)else J
noncomputable def vt:Expr->Bool
 |.Tuple _ _ _=>B
 |_=>G
noncomputable def kU:Expr->Bool
 |.Set _ _ _=>G
 |_=>B
noncomputable def HK(a e f:Expr)(b:L Expr)(c:L Keyword)(p:Pos):=match f with
 |.Name x _=>(match c with
  |[]=>(match HJ r Γ (vt a) x b with
   |S d=>S d
   |none=>CB r Γ e)
  |_::_=>J)
 |_=>J
noncomputable def cI(a)(e:Expr):=match e with
 |.Call f b c p=>HK r Γ a e f b c p
 |_=>cG (kU e) (CB r Γ e)
noncomputable def HL(a b:Scope):Scope:={a with names:=a.names.map λ(n,k)=>if k==.free&&b.kind==.function&&b.names.lookup n==S .cell then(n,.cell)else(n,k)}
noncomputable def HM:Nat->Expr->L Str
 |0,_=>[]
 |_+1,.Name x _=>[x]
 |n+1,.Tuple a _ _=>(a.map (HM n)).flatten
 |_,_=>[]
noncomputable def GS:L Str->Bool
 |[]=>B
 |x::r=>!(r.contains x)&&GS r
noncomputable def XE:L Nat->Bool
 |[]=>B
 |x::r=>!(r.contains x)&&XE r
noncomputable def Bq(a:Scope)(p:Str×Nat):=(match Γ.N[p.2]? with
  |S y=>y==p.1
  |none=>G)&&(match kd Γ.sc p.1 with
  |S .cell=>B
  |S .free=>B
  |_=>G)&&(match kd a p.1 with
  |S .free=>B
  |_=>G)
noncomputable def HN(a:Scope):=(match a.kind with|.function=>B|_=>G)&&(a.names.all λy=>y.2 != .local||a.names.lookup y.1==S .local)&&(a.names.all λy=>y.2 != .cell) &&
 (a.names.all λy=>y.2 != .free||Γ.sc.names.lookup y.1==S .cell||Γ.sc.names.lookup y.1==S .free)
noncomputable def Ak(p):=((GR Γ p).getD []).map λj=>(Γ.N.getD j "",j)
noncomputable def We(c:L Str)(b:Tv)(a:Scope):Gm:={Γ with N:=c++b.map (·.1),sc:=HL a Γ.sc,fn:=G,sf:=G,ss:=[]}
noncomputable def mf(j h d:Expr)(i:L Expr)(a:Scope)(p:Pos):Y DO:=
 let e:=HM 5 h
 let b:=Ak Γ p
 let f:=We Γ e b a
 cG (HN Γ a&&b.all (Bq Γ a)&&GS f.N&&XE (b.map λz=>z.2)&&kU d&&Γ.cm)
  ((cI r Γ h d).bind λm=>(r.g f e.length h).bind λg=>(match i with
   |[]=>S jN
   |[c]=>r.t f c
   |_=>J).bind λl=>(cV r f dC j).bind λk=>S (yc e.length (b.map λz:Str×Nat=>z.2) m g l k))
noncomputable def Ln:D->Y (L D)
 |.lst l=>S l
 |_=>J
@[simp] noncomputable def XH(b:DE)(a):=(b a).bind Ln
noncomputable def Br(h j c:Expr)(i:L Expr)(a:Scope)(p:Pos):Y DO:=
 let e:=HM 5 j
 let b:=Ak Γ p
 let f:=We Γ e b a
 cG (HN Γ a&&b.all (Bq Γ a)&&GS f.N&&XE (b.map λz=>z.2)&&kU c&&(Γ.sf&&i.isEmpty))
  ((cV r Γ dP c).bind λd=>(r.g f e.length j).bind λg=>(cV r f dC h).bind λk=>S (yc e.length (b.map λz=>z.2) (XH d) g jN k))
noncomputable def Bs(b:L Expr):Y Dn:=match b with
 |[a,t]=>(match t with
  |.Name t _=>if Γ.xt.ex.contains t then cG (yE a&&ul Γ t) ((cV r Γ dV a).map λd=>.E (d1 (yj Γ.xt.ex t) d))else cG (yE a&&Ah Γ t) ((Bp t).bind λT=>(cV r Γ dV a).map λd=>.E (d1 (v3 T) d))
  |.Tuple c _ _=>(match c with
   |[t,u]=>(Uw t).bind λt=>(Uw u).bind λu=>cG (yE a&&Ah Γ t&&Ah Γ u&&t==("list")&&u==("tuple")) ((cV r Γ dV a).map λd=>.E (d1 Xs d))
   |_=>J)
  |_=>J)
 |_=>J
noncomputable def Nb(c:L Expr):GI->Y Dn
 |.fE _ _ b F=>(cA r Γ b c).map λl=>.E (j8 F l)
 |.fF _ _ b F=>(cA r Γ b c).map λl=>.F (jS F l)
 |.mk _ _ b _ a=>(cA r Γ b c).map λl=>.F (Xd a l)
 |_=>J
noncomputable def Nc(x:Str)(a:L Expr)(p:Pos):Y Dn:=(cA r Γ (a.map λ_=>G) a).bind λl=>(match Bm x (hc Γ p)with
  |S f=>S (.E (j8 f l))
  |none=>(Bo x (hc Γ p) (GR Γ p).isSome).map λf=>.F (jS f l))
noncomputable def CD(x a p):=cG (ul Γ x&&!a.isEmpty) ((Γ.gs.lookup x).bind λg=>if x ="isinstance" then(match g with
 |.blt=>Bs r Γ a
 |_=>J)else cG Γ.cm (match g with
 |.blt=>Nc r Γ x a p
 |g=>Nb r Γ a g))
noncomputable def HP:Const->Y Dn
 |.int i=>S (.E (dK (.int i)))
 |.bool i=>S (.E (dK (.bl i)))
 |.none=>S (.E (dK .non))
 |.str i=>S (.E (dK (.str i)))
 |_=>J
noncomputable def HQ(b:UnaryOp)(a:Expr):Y Dn:=match b with
 |.USub=>(cV r Γ dV a).map λd=>.E (ZZ d)
 |.Not=>(cV r Γ dV a).map λd=>.E (W3 d)
 |_=>J
noncomputable def mh(a:Expr)(c:Operator)(b:Expr)(p:Pos):Y Dn:=(cV r Γ dV a).bind λd=>(cV r Γ dV b).bind λe=>(match GR Γ p with
  |S _=>(match c with
   |.Add=>S (.F (yx JN d e))
   |_=>J)
  |none=>(HD c).map λf=>.E (d2 f d e))
noncomputable def MS:CmpOp->Y (D->D->Y D)
 |.LtE=>S V5
 |_=>J
noncomputable def MT:CmpOp->Y (D->D->Y D)
 |.In=>S (zY G)
 |.NotIn=>S (zY B)
 |_=>J
noncomputable def KJ(p o):=if hc Γ p=9 then MS o else KH o
noncomputable def MU:CmpOp->Y (D->D->Y D)
 |.In=>S KC
 |_=>J
noncomputable def CF(p o):=if hc Γ p=7 then MT o else if hc Γ p=9 then MU o else KH o
noncomputable def mm(a:Expr)(os:L CmpOp)(m:L Expr)(p:Pos):Y DE:=match os,m with
 |[o],[b]=>cG (!behindInMarks o b) ((cV r Γ dV a).bind λd=>(cV r Γ dV b).bind λj=>(CF Γ p o).map λf=>d2 f d j)
 |[o,h],[b,c]=>cG (!lastMarks [o,h] [b,c]) ((cV r Γ dV a).bind λd=>(cV r Γ dV b).bind λj=>(cV r Γ dV c).bind λg=>(KJ Γ p o).bind λf=>(KJ Γ p h).map λl=>Jd f l d j g)
 | [o,h,i],[b,c,e]=>cG (!lastMarks [o,h,i] [b,c,e]) ((cV r Γ dV a).bind λd=>(cV r Γ dV b).bind λj=>(cV r Γ dV c).bind λg=>(cV r Γ dV e).bind λd3=>
   (KH o).bind λf=>(KH h).bind λl=>(KH i).map λk=>Ga f l k d j g d3)
 |_,_=>J
noncomputable def HR(p):=if hc Γ p=9 then Zh else if hc Γ p=7 then z9 else j3
noncomputable def mo(a b:Expr)(p:Pos):Y Dn:=match b with
 |.Slice lo e st _=>(match st with
  |none=>(cV r Γ dV a).bind λd=>(part r Γ lo).bind λx=>(part r Γ e).map λy=>(match GR Γ p with
   |S _=>.E (Gg d x y)
   |_=>.F (Jz d x y))
  |S _=>J)
 |b=>cG (KI b) ((cV r Γ dV a).bind λd=>(cV r Γ dV b).map λc=>.E (d2 (HR Γ p) d c))
noncomputable def CG(e)(f:L Comprehension)(b:Scope)(p:Pos):=match f with
 |[⟨g,c,d,a⟩]=>cG (a==0) (mf r Γ e g c d b p)
 |_=>J
noncomputable def HU(a:Expr)(m:Str)(c:Pos)(b:L Expr)(p:Pos):Y Dn:=match Γ.hm.lookup m with
 |S (.fX _ _ e F)=>cG (c.endLine==p.line&&Γ.cm&&Nat.blt b.length 20&&um a) ((cV r Γ dV a).bind λd=>(cA r Γ e b).map λl=>.E (gf (JM Γ.hC m F d l)))
 |_=>J
noncomputable def mq(a:Expr)(m:Str)(e:Pos)(f:L Expr)(p:Pos):Y Dn:=match f with
 |[]=>(match a with
  |.Name x g=>cG (e.endLine==p.line&&Γ.cm) ((cV r Γ dV (.Name x g)).bind λd=>match Γ.ms.lookup m with
   |S (.fE _ _ _ F)=>S (.E (d1 (VC Γ.C m F) d))
   |S (.fF _ _ _ F)=>S (.F (Gw (Yd Γ.C m F) d))
   |_=>J)
  |_=>J)
 |[b]=>cG (e.endLine==p.line&&yE b&&um a) ((cV r Γ dV a).bind λd=>(cV r Γ dV b).bind λc=>if m ="split" then S (.F (yx ge d c))else if m ="join" then S (.E (d2 Wd d c))else J)
 |_=>J
noncomputable def mr(f:Expr)(b:L Expr)(e:L Keyword)(p:Pos):=match e with
 |[]=>(match f with
  |.Name x _=>CD r Γ x b p
  |.Attribute a m c=>(match HU r Γ a m c b p with
   |S d=>S d
   |none=>mq r Γ a m c b p)
  |_=>J)
 |_=>J
noncomputable def Bt(a:Expr)(os:L CmpOp)(c:L Expr):Y DE:=match os,c with
 |[o],[b]=>(match o with
  |.Eq=>cG (!behindInMarks .Eq b) ((cV r Γ dV a).bind λd=>(cV r Γ dV b).map λe=>d2 vW d e)
  |_=>J)
 |_,_=>J
noncomputable def cN(e:Expr):Y Dn:=match e with
 |.Name x _=>cG (ul Γ x) (match Γ.gs.lookup x with
  |S (.con i)=>S (.E (dK (.int i)))
  |_=>J)
 |.Constant c _ _=>HP c
 |.UnaryOp m a _=>HQ r Γ m a
 |.BinOp a m b p=>mh r Γ a m b p
 |.Compare a os w p=>if Γ.cm then(mm r Γ a os w p).map .E else(Bt r Γ a os w).map .E
 |.BoolOp m o _=>(match m with
  |.And=>(cB r Γ Yt o).map .E
  |.Or=>(cB r Γ WK o).map .E)
 |.IfExp c a b _=>(r.t Γ c).bind λt=>(cV r Γ dC a).bind λd=>(cV r Γ dC b).map λy=>.E (WL t d y)
 |.Tuple h _ _=>cG (Nat.ble h.length 1000) ((cA r Γ (h.map λ_=>B) h).map λl=>.E (jw l))
 |.List h _=>cG (Nat.ble h.length 1000) ((cA r Γ (h.map λ_=>B) h).map λl=>.F (ju l))
 |.Dict s o p=>(match s,o with
  |[],[]=>if hc Γ p=7 then S (.F Wb)else(match GR Γ p with
   |S [8,j]=>S (.E (XB Γ.tb j))
   |_=>J)
  |_,_=>J)
 |.Attribute a f _=>if Γ.fl.contains f then cG (um a) ((cV r Γ dV a).map λd=>.E (d1 (jR Γ.C f) d))else if Γ.hfl.contains f then cG (um a) ((cV r Γ dV a).map λd=>.E (d1 (jR Γ.hC f) d))else cG (um a) ((cV r Γ dV a).map λd=>.E (d1 (g6 Γ.xt.xf f) d))
 |.Subscript a b p=>cG Γ.cm (mo r Γ a b p)
 |.ListComp k v g p=>if Γ.sf then(match v with
  |[⟨z,n,u,a⟩]=>cG (a==0) ((Br r Γ k z n u g p).map .F)
  |_=>J)else(CG r Γ k v g p).map .F
 |.Call f h s p=>mr r Γ f h s p
 |_=>J
noncomputable def CI:Expr->Bool
 |.UnaryOp .Not _ _=>G
 |.BoolOp _ _ _=>G
 |.IfExp _ _ _ _=>G
 |.Compare _ _ _ _=>G
 |_=>B
noncomputable def mt(a:Expr)(os:L CmpOp)(i:L Expr)(p:Pos):Y DT:=match os,i with
 |[o],[b]=>cG (!behindInMarks o b) ((cV r Γ dV a).bind λd=>(cV r Γ dV b).bind λg=>(CF Γ p o).map λf=>je (d2 f d g))
 |[o,h],[b,c]=>cG (!lastMarks [o,h] [b,c]) ((cV r Γ dV a).bind λd=>(cV r Γ dV b).bind λg=>(cV r Γ dV c).bind λe=>(KJ Γ p o).bind λf=>(KJ Γ p h).map λj=>je (Jd f j d g e))
 |_,_=>J
noncomputable def cT(e:Expr):=match e with
 |.Compare a os d p=>if Γ.cm then mt r Γ a os d p else(Bt r Γ a os d).map je
 |.UnaryOp b a p=>(match b with
  |.Not=>(r.t Γ a).map Jp
  |b=>cG (CI (.UnaryOp b a p)) ((cV r Γ dV (.UnaryOp b a p)).map Jj))
 |.BoolOp b c _=>(match b with
  |.And=>cW r Γ J4 c
  |.Or=>cW r Γ yA c)
 |e=>cG (CI e) ((cV r Γ dV e).map Jj)
noncomputable def HV(k:Nat):L Expr->Y Cd
 |[]=>S gZ
 |e::b=>cG (yE e) ((r.g Γ k e).bind λg=>(HV k b).map λa=>gC g a)
noncomputable def mu(k:Nat):Expr->Y DG
 |.Name x _=>(gg Γ x).bind λi=>cG (Nat.blt i k) (S (gN i))
 |.Tuple a _ _=>cG Γ.cm ((HV r Γ k a).map λb=>gT a.length b)
 |_=>J
end
noncomputable def rc:Nat->Rc
 |0=>#[λ_ _=>J,λ_ _=>J,λ_ _ _=>J]
 |n+1=>#[λa e=>if hc a e.pos=21 then S (.E λ_=>J)else cN (rc n) a e,λa e=>if hc a e.pos=21 then S λ_=>J else cT (rc n) a e,mu (rc n)]
noncomputable def XI:Stmt->Nat
 |.Return _ p=>p.line
 |.Assign _ _ p=>p.line
 |.AugAssign _ _ _ p=>p.line
 |.For _ _ _ _ p=>p.line
 |.While _ _ _ p=>p.line
 |.If _ _ _ p=>p.line
 |.Expr _ p=>p.line
 |.Raise _ _ p=>p.line
 |_=>0
section
variable(r:Rc) (q:Gm->L Stmt->Y DS.DS) (Γ:Gm)
noncomputable def cF(e:Expr):Y DO:=match r.n Γ e with
 |S (.F d)=>S d
 |_=>J
noncomputable def zi:Expr->Bool
 |.ListComp _ _ _ _=>G
 |.SetComp _ _ _ _=>G
 |.DictComp _ _ _ _ _=>G
 |_=>B
noncomputable def XJ(a:Scope)(x:Str):Bool:=match kd a x with
 |S .cell=>B
 |_=>G
noncomputable def mw(a:Scope)(x)(b c:Pos):=(match Γ.sc.kind with|.function=>B|_=>G)&&qr Γ.sc x&&b.line==c.line&&!(a.names.any λ(n,k)=>n==x&&(k==.local||k==.cell))
noncomputable def mz(x:Str)(f:Pos)(e:Expr):Y DS.DS:=(gg Γ x).bind λi=>match e with
 |.ListComp b c a p=>(CG r Γ b c a p).bind λd=>cG (mw Γ a x f p||XJ Γ.sc x) (S (if Γ.ow.contains i then zH i d else jg i (dL d)))
 |e=>cG (zi e) (if Γ.ow.contains i then(cF r Γ e).map (zH i)else(cV r Γ dC e).map (jg i))
noncomputable def mB(t e:Expr):=match t with
 |.Name x c=>mz r Γ x c e
 |.Attribute o f _=>(nm Γ o).bind λi=>if Γ.hfl.contains f then cG (zi e) ((cV r Γ dC e).map λd=>Gc i Γ.hC f d)else if Γ.hls.contains f then cG (zi e) ((cF r Γ e).map λd=>Gd i Γ.hC f d)else cG (zi e&&Γ.fl.contains f) ((cV r Γ dC e).map λd=>VD i Γ.C f d)
 |.Subscript o j p=>(nm Γ o).bind λi=>cG (zi e&&KI j&&Γ.cm) (if hc Γ p=7 then(cV r Γ dC j).bind λa=>(cV r Γ dC e).map λd=>uV i a d else(cV r Γ dV j).bind λa=>(cV r Γ dC e).map λd=>kP i a d)
 |.Tuple b n p=>cG (zi e&&!vt e) ((cV r Γ dC e).bind λd=>(r.g Γ Γ.N.length (.Tuple b n p)).map λg=>yB d g)
 |_=>J
noncomputable def mC(t:Expr)(a:Operator)(e:Expr):Y DS.DS:=match t with
 |.Name x _=>(gg Γ x).bind λi=>(cV r Γ dV e).bind λd=>(match a with
  |.Add=>S (Xg i (λi j=>i+j) d)
  |.Sub=>S (Xg i (λi j=>i-j) d)
  |_=>J)
 |_=>J
noncomputable def mG(f:Expr)(a:L Expr)(c:L Keyword)(p:Pos):Y DS.DS:=match f,a,c with
 |.Attribute o m b,[e],[]=>(nm Γ o).bind λi=>cG (m==("append")&&yE e&&b.endLine==p.line) ((cV r Γ dC e).map λd=>ZG i d)
 |_,_,_=>J
noncomputable def HW(f:Expr)(b:L Expr)(g:L Keyword)(p:Pos):Y DS.DS:=match f with
 |.Attribute a m c=>(match a with
  |.Attribute o f _=>(match b with
   |[e]=>(match g with
    |[]=>(nm Γ o).bind λi=>cG (m==("append")&&yE e&&c.endLine==p.line&&Γ.hls.contains f) ((cV r Γ dC e).map λd=>Wa i Γ.hC f d)
    |_=>J)
   |_=>J)
  |_=>J)
 |_=>J
noncomputable def mI(e:Expr):=match e with
 |.Call f b a p=>(match HW r Γ f b a p with
  |S d=>S d
  |none=>(match mG r Γ f b a p with
   |S d=>S d
   |none=>(cV r Γ dV (.Call f b a p)).map W7))
 |e=>cG (zi e) ((cV r Γ dV e).map W7)
noncomputable def CJ(e:Expr):Y DX:=match e with
 |.Call f b a _=>(match f,a with
  |.Name x _,[]=>cG (ul Γ x&&!b.isEmpty&&Γ.cm) (match Γ.gs.lookup x with
   |S (.fX _ _ a F)=>(cA r Γ a b).map λl=>uR F l
   |_=>J)
  |_,_=>J)
 |_=>J
noncomputable def Nd(b:L Expr)(m:Str)(a:Expr):Y DX:=match a with
 |.Name y p=>cG (!b.isEmpty) (match Γ.hm.lookup m with
  |S (.fX _ _ c F)=>(cV r Γ dV (.Name y p)).bind λd=>(cA r Γ c b).map λl=>JM Γ.hC m F d l
  |_=>J)
 |_=>J
noncomputable def HX(e:Expr):=match e with
 |.Call f b c p=>(match f,c with
  |.Attribute a m d,[]=>cG (d.endLine==p.line&&Γ.cm&&Nat.blt b.length 20) (Nd r Γ b m a)
  |_,_=>J)
 |_=>J
noncomputable def mJ(e:Expr):Y DX:=match e with
 |.Subscript a b _=>cG (KI b) ((HX r Γ a).bind λd=>(cV r Γ dV b).map λc=>Bl d c)
 |e=>HX r Γ e
noncomputable def Am(e:Expr):Y DX:=if Γ.xm then(match CJ r Γ e with
 |S a=>S a
 |none=>mJ r Γ e)else J
noncomputable def An(e:Expr):Y Uv:=if Γ.xm then(match e with
 |.Call f c b p=>(match f,b with
  |.Attribute a m d,[]=>cG (d.endLine==p.line&&Γ.cm&&Nat.blt c.length 20&&!c.isEmpty) ((nm Γ a).bind λi=>match Γ.hm.lookup m with
   |S (.fH _ _ b F)=>cG (b.all id) ((cA r Γ b c).map λl=>zu i Γ.hC m F l)
   |_=>J)
  |_,_=>J)
 |_=>J)else J
noncomputable def HY(e:Expr):Y (Uv×Uv):=match e with
 |.Call f b a _=>(match f,a with
  |.Name x _,[]=>(match b with
   |o::b=>(nm Γ o).bind λi=>cG (ul Γ x&&Γ.cm&&yE o) (match Γ.gs.lookup x with
    |S (.fH _ _ a F)=>cG (a.all id) ((cA r Γ a b).map λl=>(y9 i F l,y9 i (VH F) l))
    |_=>J)
   |[]=>J)
  |_,_=>J)
 |_=>J
noncomputable def HZ(e:Expr):=match e with
 |.Call f c a p=>(match f with
  |.Attribute o m b=>(match c,a with
   |[],[]=>cG (m==("pop")&&b.endLine==p.line) (nm Γ o)
   |_,_=>J)
  |_=>J)
 |_=>J
noncomputable def mK:L Stmt->Y Uv
 |[s]=>(match s with
  |.Assign a e _=>(match a with
   |[t]=>(match t with
    |.Name _ _=>(HY r Γ e).map (·.1)
    |_=>J)
   |_=>J)
  |_=>J)
 |_=>J
noncomputable def mL(t e:Expr):Y DS.DS:=match t,e with
 |.Name x _,.Call f b a _=>(match f,a with
  |.Name y _,[]=>(gg Γ x).bind λi=>cG (ul Γ y&&!b.isEmpty&&Γ.cm) (match Γ.hm.lookup y with
   |S (.mH _ _ a C F)=>cG (a.all id&&C==Γ.hC) ((cA r Γ a b).map λl=>gc i C F l)
   |_=>J)
  |_,_=>J)
 |_,_=>J
noncomputable def MV:Expr->Bool
 |.Constant c _ _=>(match c with
  |.str _=>B
  |_=>G)
 |_=>G
noncomputable def mM(e:Expr):Y DS.DS:=match e with
 |.Call f b c _=>(match f,c with
  |.Name x _,[]=>cG (Γ.xm&&ul Γ x) (match Γ.xt.xq.lookup x with
   |S d=>cG (!b.isEmpty) ((cA r Γ (b.map λ_=>B) b).map λl=>Bc x d l)
   |none=>cG (Γ.xt.xp.contains x) (match b with
    |[a]=>cG (MV a) (S (U_ x))
    |_=>J))
  |_,_=>J)
 |_=>J
noncomputable def MW:Expr->Y Str
 |.Constant c _ _=>(match c with
  |.str z=>S z
  |_=>J)
 |_=>J
noncomputable def mO:Stmt->Y (Str×Str×Str)
 |.Assign c e _=>(match c with
  |[t]=>(Uw t).bind λy=>(match e with
   |.Call f d b _=>(Uw f).bind λx=>(match d,b with
    |[a],[]=>(MW a).map λz=>(y,x,z)
    |_,_=>J)
   |_=>J)
  |_=>J)
 |_=>J
noncomputable abbrev Gm.sui(Γ:Gm):={Γ with cm:=G,xm:=G,sf:=G,ss:=[]}
noncomputable abbrev Gm.nox(Γ:Gm):={Γ with xm:=G}
noncomputable def MX(i:Nat)(a:Stmt)(b:L Stmt):Y DS.DS:=(mO a).bind λp=>(gg Γ p.1).bind λj=>(Γ.ss.lookup p.2.1).bind λF=>cG (ul Γ p.2.1&&Γ.cm) ((q Γ.sui b).map λd=>j0 (uW i j F p.2.2) d)
noncomputable def Bu(i:Nat)(a:Stmt)(b:L Stmt):Y DS.DS:=match MX q Γ i a b with
 |S d=>S d
 |none=>q Γ.sui (a::b)
noncomputable def H_:L ExceptHandler->Y (L Hd)
 |[]=>S []
 |.ExceptHandler t n b _::f=>(match t,n,b with
  |S (.Name x _),S n,a::e=>(Γ.xt.ct.lookup x).bind λc=>(slot Γ n).bind λi=>cG (ul Γ x&&qr Γ.sc n) ((Bu q Γ i a e).bind λd=>(H_ f).map λl=>#[c.1,c.2,i,d]::l)
  |_,_,_=>J)
noncomputable def mP(e:Expr):Y DS.DS:=if hc Γ e.pos=11 then(cV r Γ dC e).map Xu else J
noncomputable def Nf(t e:Expr)(c:Uv):Y DS.DS:=match t with
 |.Name x _=>(gg Γ x).map λi=>zP c λd a=>S (.nx (a.set i (.cl d)))
 |.Tuple f n p=>cG (!vt e) ((r.g Γ Γ.N.length (.Tuple f n p)).map λg=>zP c λd a=>(g d a).bind λb=>S (.nx b))
 |_=>J
noncomputable def cS(s:Stmt):Y DS.DS:=match s with
 |.Assign F e _=>(match F with
  |[t]=>(match Am r Γ e with
   |S f=>(match t with
    |.Name x _=>(gg Γ x).map λi=>zt f λd h=>S (.nx (h.set i (.cl d)))
    |.Tuple C n p=>(r.g Γ Γ.N.length (.Tuple C n p)).map λg=>zt f λd h=>(g d h).bind λk=>S (.nx k)
    |_=>J)
   |none=>(match An r Γ e with
    |S f=>(match t with
     |.Name x _=>(gg Γ x).map λi=>zP f λd h=>S (.nx (h.set i (.cl d)))
     |_=>J)
    |none=>(match HY r Γ e with
     |S f=>Nf r Γ t e f.2
     |none=>(match mL r Γ t e with
      |S d=>S d
      |none=>(match HZ Γ e with
       |S i=>(match t with
        |.Name x _=>(gg Γ x).map λj=>qo i j
        |_=>J)
       |none=>mB r Γ t e)))))
  |_=>J)
 |.AugAssign t I e _=>mC r Γ t I e
 |.Expr e _=>(match Am r Γ e with
  |S f=>S (zt f λ_ h=>S (.nx h))
  |none=>(match An r Γ e with
   |S f=>S (zP f λ_ h=>S (.nx h))
   |none=>mI r Γ e))
 |.Return o _=>(match o with
  |none=>S (jd (dK .non))
  |S e=>(match Am r Γ e with
   |S f=>S (zt f λd _=>S (.rt d))
   |none=>(match An r Γ e with
    |S f=>S (zP f λd h=>S (.rh d h))
    |none=>(match mP r Γ e with
    |S d=>S d
    |none=>(match nm Γ e with
    |S i=>if Γ.ow.contains i then S (W8 i)else S (jd (dC i))
    |none=>if Γ.kF then(cF r Γ e).map yK else(cV r Γ dC e).map jd)))))
 |.If c a b _=>(r.t Γ c).bind λt=>(q Γ a).bind λx=>(q Γ b).map λy=>jc t x y
 |.While c b o _=>(match o with
  |[]=>(r.t Γ c).bind λt=>(q Γ b).map λx=>zT t x 20000
  |_::_=>J)
 |.For w v b o _=>(match o with
  |[]=>cG (kU v&&Γ.cm) ((cI r Γ w v).bind λH=>(r.g Γ Γ.N.length w).bind λg=>(q Γ b).map λx=>yC H g x)
  |_::_=>J)
 |.Raise e o _=>(match e,o with
  |S e,none=>if Γ.xm then mM r Γ e else S Ja
  |_,_=>J)
 | .Try u m o A _=>cG (o.isEmpty&&A.isEmpty&&!m.isEmpty) (match mK r Γ u with
   |S f=>(q Γ.nox u).bind λz=>(H_ q Γ m).map λl=>VI f z l
   |none=>J)
 |_=>J
noncomputable def QQ(l:Nat):L (Nat×Nat)->DS.DS->DS.DS
 |[],d=>d
 |(m,i)::r,d=>if m=l then ZQ i (QQ l r d)else QQ l r d
noncomputable def Lo(y z:Expr)(a e:Nat)(s k c d b f:Str)(i:Nat):Y DS.DS:=
 cG (c==k&&b==k&&d==s&&f==s&&zi y&&zi z&&Γ.cm) ((cV r Γ dC y).bind λd1=>(cV r Γ dC z).map λd2=>Wc a e i d1 d2)
noncomputable def Lp(a b y z:Expr)(u v:Expr×Expr)(h:Str):Y DS.DS:=
 (nm Γ a).bind λe=>(nm Γ b).bind λg=>(Uw a).bind λs=>(Uw b).bind λk=>(Uw u.1).bind λc=>(Uw u.2).bind λd=>(Uw v.1).bind λf=>(Uw v.2).bind λj=>(gg Γ h).bind λi=>Lo r Γ y z e g s k c d f j i
noncomputable def CK(l:L Stmt):Y DS.DS:=match l with
 |[b,d]=>(me b).bind λx=>(HF x.2.2.1).bind λy=>(HF x.2.2.2).bind λz=>(HE z.1).bind λu=>(m9 d).bind λv=>(HE v).bind λc=>
  (Uw y.1).bind λa=>Lp r Γ x.1 x.2.1 y.2 z.2 u c a
 |_=>J
noncomputable def CL:L Stmt->Y DS.DS
 |[]=>S ji
 |s::t=>if Γ.sh.contains (XI s,1000)then S Ja else if Γ.sh.contains (XI s,1001)then CK r Γ (s::t)else(cS r q Γ s).bind λd=>(match t with
  |[]=>S (QQ (XI s) Γ.sh d)
  |t=>(CL t).map λa=>QQ (XI s) Γ.sh (j0 d a))
end
noncomputable def cQ(r:Rc):Nat->Gm->L Stmt->Y DS.DS
 |0=>λ_ _=>J
 |n+1=>λa=>CL r (cQ r n) a
section
variable(P:Program) (w:World) (K':Fr) (mg:Tj) (base:Heap) (C:Addr) (rm:Nat->Prop) (K:Fr) (x:Str)
noncomputable def qt:GI->Prop
 |.con i=>∃t,mg x=S (.int i t)
 |.fE k b c F=>FnI P w K' mg base k x b (vY K c F)/\rm k
 |.fF k b c F=>FnI P w K' mg base k x b (QG K c F)/\rm k
 |.mk k b c F a=>MkI P w K' mg base k C x b (Cf K C c F)/\(∀p e o,a e=S o->F p e=S o)/\rm (k+1)
 |.fX k b c F=>(∃f d,FnOk P w K' mg base (y8 P w) k f d b (wv K c F)/\Jo K' d b []/\PySem.W.keepIn K' (.ref f)=B/\mg x=S (.ref f))/\rm k
 |.blt=>mg x=J
 |.fH k b c F=>(∃f d,FnOk P w K' mg base (y8 P w) k f d b (VG K c F)/\Jo K' d b []/\PySem.W.keepIn K' (.ref f)=B/\mg x=S (.ref f))/\rm k
 |.mH _ _ _ _ _=>False
noncomputable def mQ(P:Program)(w:World)(K':Fr)(mg:Str->Y _)(base K x)(F:L D->Y D):=∃f a c b,FnS P w K' mg base f a c (vY K [b] F)/\Jo K' a c []/\PySem.W.keepIn K' (.ref f)=B/\mg x=S (.ref f)
noncomputable def JS:GI->Prop
 |.fX k b c F=>(∃f a,FnOk P w K' mg base (y8 P w) k f a b (wv K (G::c) F)/\Jo K' a b []/\Meth K' C x f)/\rm k
 |.fH k b c F=>(∃f a,FnOk P w K' mg base (y8 P w) k f a b (VG K c F)/\Jo K' a b []/\Meth K' C x f)/\rm k
 |.mH k b c C F=>(∃f a,FnOk P w K' mg base (y8 P w) k f a b (VG K c F)/\Jo K' a b []/\Mk K' C f/\mg x=S (.ref C))/\rm (k+1)
 |_=>True
noncomputable def QR:GI->Prop
 |.fE k a _ F=>MtI P w K' mg base k C x a (vY K [G] F)/\rm k
 |.fF k a _ F=>MtI P w K' mg base k C x a (QG K [G] F)/\rm k
 |_=>True
end
structure XTok (K:Fr) (mg:Tj) (T:XT) where
 e:∀x∈T.ex,∃C,W.nsIn K mainGlobals x=S (S (.ref C))/\mg x=S (.ref C)/\ExC K C
 k:∀x∈T.ex,∀y∈T.ex,W.kitOne K (.ref (jz K x)) (.ref (jz K y))=S (x==y)
 c:∀h∈T.ct,mg h.1=S (.ref (jz K h.1))/\(∀x∈h.2.1,W.exmOne K (.ref (jz K x)) (.ref (jz K h.1))=S B)/\∀x∈h.2.2,W.exmOne K (.ref (jz K x)) (.ref (jz K h.1))=S G
 f:∀p∈T.xf,ExG K (jz K p.1) p.2
 v:T.ve=B->∀x∈T.ex,W.kitOne K (.ref (jz K x)) (.type "ValueError")=S B
 c3:∀p∈T.c3,(∀x∈p.1,mg x=S (.ref (jz K x)))/\∀c∈p.2,W.exmAny K (.ref (jz K c)) (p.1.map λx=>Value.ref (jz K x))=S B
noncomputable def kW:L Value:=[.type "ValueError",.type "Exception",.type "BaseException",.type "object"]
noncomputable def GT(P:Program)(w:World)(K:Fr)(g:Str->Y _)(a:Heap)(f:Nat->Prop)(x)(d:L _):=∃C b e c k,W.nsIn K mainGlobals x=S (S (.ref C))/\V3 K C kW "ValueError.__new__" b=B/\W.keepIn K (.ref C)=B/\W.typeIn K (.ref b)=S (.type "function")/\FnOk P w K g a yG k b e c (aY C d)/\d.length<=1000/\c.length=d.length+1/\Jo K e c []/\f (k+1)
def GT.mono{K d a r b x c}(h:GT P w K d a r x c)(l:∀k,r k->b k):GT P w K d a b x c:=by
 obtain⟨C,e,o,f,k,p,i,s,u,n,t,m,j,g⟩:=h;exact#[C,e,o,f,k,p,i,s,u,n,t,m,j,l _ g]
structure OkX (K) (Γ:Gm) (X:Cx) where
 xt:XTok K X.mg Γ.xt
 n:X.N=Γ.N
 sc:X.env.scope=Γ.sc
 nd:Γ.N.Nodup
 calm:Γ.cm=B->X.calm=B
 k:X.K=K
 room:Γ.cm=B->Room 0 X.A
 fn:Γ.fn=B->∀x,X.fn x=B
 gs:∀x g,Γ.gs.lookup x=S g->qt X.prog X.w X.K X.mg X.base Γ.C (λk=>Γ.cm=B->Room k X.A) K x g
 ms:∀x g,Γ.ms.lookup x=S g->QR X.prog X.w X.K X.mg X.base Γ.C (λk=>Γ.cm=B->Room k X.A) K x g
 cl:Cls K Γ.C
 fl:∀f,Γ.fl.contains f=B->yh K Γ.C f
 hcl:Cls K Γ.hC
 hfl:∀f,Γ.hfl.contains f=B\/Γ.hls.contains f=B->yh K Γ.hC f
 hm:∀x g,Γ.hm.lookup x=S g->JS X.prog X.w X.K X.mg X.base Γ.hC (λk=>Γ.cm=B->Room k X.A) K x g
 xq:∀x fs,Γ.xt.xq.lookup x=S fs->GT X.prog X.w X.K X.mg X.base (λk=>Γ.cm=B->Room k X.A) x fs
 sf:Γ.sf=B->UY X
 ss:∀x F,Γ.ss.lookup x=S F->mQ X.prog X.w X.K X.mg X.base K x F
noncomputable def Ux(X:Cx)(K:Fr)(e:Expr):Dn->Prop
 |.E d=>PE X e (tE K d)
 |.F d=>PE X e (tF K d)
structure RcOk (r:Rc) where
 n:∀{K Γ X e d},OkX K Γ X->r.n Γ e=S d->Ux X K e d
 t:∀{K Γ X e d},OkX K Γ X->r.t Γ e=S d->PT X e (tT K d)
 g:∀{K Γ X k e d},OkX K Γ X->r.g Γ k e=S d->PG X e (tG K k d)
def jb(h:cG c o=S y):c=B/\o=S y:=by
 cases c with
 |true=>exact#[rfl,h]
 |false=>exact Zn h
def bk{o:Y c}{f:c->Y d}{P:Prop}(k:∀x,o=S x->f x=S y->P)(h:o.bind f=S y):P:=by
 obtain⟨x,a,b⟩:=j1 h;exact k x a b
def j5(h:o.map f=S y):∃x,o=S x/\f x=y:=by simp_all
def j9(h:(a&&b)=B):a=B/\b=B:=by simpa using h
def ZH(h:(!a)=B):a=G:=by simpa using h
set_option tactic.hygienic true
theorem uY:∀{l i},KG x l=S i->l[i]?=S x
 |[],_,h=>Zn h
 |y::r,i,h=>by
  unfold KG at h;split at h
  ·obtain rfl:=Zj h;rename_i e;rw[e];rfl
  ·obtain⟨j,a,b⟩:=j5 h;rw[<-b];simpa using uY a
section
variable{r:Rc}{Γ:Gm}{X:Cx}{K:Fr}{x y:Str}{i:Nat}{e a b c tg:Expr}{es:L Expr}{pos:Pos}{d:DE}
def uo(h:uX f x=B):UJ f x:=by
 unfold uX at h;split at h<;>first|exact Zf h|skip
 ·exact .inl (by assumption)
 ·exact .inr (.inl (by assumption))
 ·exact .inr (.inr (by assumption))
def Ao(h:qp f x=B):Gr f x:=by
 unfold qp at h;split at h<;>first|exact Zf h|skip
 ·exact .inl (by assumption)
 ·exact .inr (by assumption)
def qu(h:qr f x=B):f.names.lookup x=S .local:=by
 unfold qr at h;split at h
 ·assumption
 ·exact Zf h
def zZ(h:OkX K Γ X)(g:ul Γ x=B):Gl X x/\(x==("__debug__"))=G:=by
 obtain⟨f,j⟩:=j9 g;refine#[?_,ZH j];show X.env.scope.names.lookup x=_;rw[h.sc];split at f
 ·assumption
 ·exact Zf f
def kX(h:OkX K Γ X)(g:Ah Γ x=B):Gl X x/\X.mg x=J:=by
 obtain⟨j,f⟩:=j9 g;refine#[(zZ h j).1,?_];split at f
 ·exact h.gs x _ (by assumption)
 ·exact Zf f
theorem qv(e:slot Γ x=S i):KG x Γ.N=S i/\uX Γ.sc x=B/\(x==("__debug__"))=G/\(x==("__classdict__"))=G:=by
 obtain⟨j,g,f⟩:=j1 e;split at f
 ·simp_all
 ·exact Zn f
def Jy(h:OkX K Γ X)(e:slot Γ x=S i):PE X (.Name x pos) (yf i):=by
 obtain⟨f,k,g,j⟩:=qv e;exact pv i (by rw[h.n];exact uY f) (by rw[h.sc];exact uo k) g j
def yT(h:nm Γ e=S i):∃x pos,e=.Name x pos/\slot Γ x=S i:=by
 cases e with
 |Name x p=>exact#[_,_,rfl,h]
 |_=>exact Zn h
theorem zw(h:OkX K Γ X)(e:gg Γ x=S i):X.N.Nodup/\X.N[i]?=S x/\Gr X.env.scope x/\(X.fn x=B\/X.env.scope.names.lookup x=S .local):=by
 obtain⟨j,m,g⟩:=j1 e;split at g
 ·obtain rfl:=Zj g;rename_i k;obtain⟨l,f⟩:=j9 k;refine#[by rw[h.n];exact h.nd,by rw[h.n];exact uY m,by rw[h.sc];exact Ao l,?_];rw[Bool.or_eq_true]at f;rcases f with f|f
  ·exact .inl (h.fn f x)
  ·exact .inr (by rw[h.sc];exact qu f)
 ·exact Zn g
def jJ(h:yE e=B):starEach (e::es) f=(G,eval e f)::starEach es f:=by
 cases e<;>first|rfl|exact Zf h
theorem Y3:∀{es},(∀e∈es,yE e=B)->(backTo pos (starEach es f)).any (·.1)=G
 |[],_=>rfl
 |e::es,h=>by
  rw[jJ (h e List.mem_cons_self)];show(G||(backTo _ _).any _)=G;rw[Y3 λx g=>h x (List.mem_cons_of_mem _ g)];rfl
def Yl(h:um e=B):attributeBase e f g (eval e g)=eval e g:=by
 cases e<;>first|rfl|exact Zf h
def vv(h:KI b=B):gY b:=by
 cases b<;>first|(intro _ _;rfl)|exact Zf h
def KK(h:kU e=B):∀x,foldedSetIterable e f x=pure x:=by
 cases e<;>first|(intro _;rfl)|exact Zf h
def JG(h:zi e=B):swapsWith e t l f=pure G:=by
 cases e<;>first|rfl|exact Zf h
def qw(h:cV r Γ f e=S d):(∃i,nm Γ e=S i/\d=f i)\/∃n,r.n Γ e=S n/\d=n.e:=by
 unfold cV at h;split at h
 ·exact .inl #[_,by assumption,(vFa h).symm]
 ·obtain⟨n,g,j⟩:=j5 h;exact .inr #[n,g,j.symm]
def Bv(h:Ux X K e n):PE X e (tE K n.e):=by
 cases n with
 |E d=>exact h
 |F d=>exact fN h
variable(R:RcOk r) (h:OkX K Γ X)
include R h
theorem JY(q:cV r Γ dC e=S d):PE X e (tE K d):=by
 rcases qw q with⟨i,f,rfl⟩|⟨n,f,rfl⟩
 ·obtain⟨x,p,rfl,g⟩:=yT f;exact C1 i (Jy h g)
 ·exact Bv (R.n h f)
theorem jq(q:cV r Γ dV e=S d):PE X e (tR K d):=by
 rcases qw q with⟨i,f,rfl⟩|⟨n,f,rfl⟩
 ·obtain⟨x,p,rfl,g⟩:=yT f;exact IZ i (Jy h g)
 ·exact Mc (Bv (R.n h f))
theorem Gh(q:cV r Γ dP e=S d):PE X e (tP K d):=by
 rcases qw q with⟨i,f,rfl⟩|⟨n,f,rfl⟩
 ·obtain⟨x,p,rfl,g⟩:=yT f;exact lO i (Jy h g)
 ·exact Mx (Bv (R.n h f))
theorem Yu:∀{f es l},cA r Γ f es=S l->PA X es (yw K l)/\l.map (·.1)=f/\(∀e∈es,yE e=B)/\l.length=es.length
 |[],[],l,q=>by obtain rfl:=Zj q;exact#[lH,rfl,(λ_ h=>by cases h),rfl]
 |k::f,e::es,l,q=>by
  unfold cA at q;split at q
  ·rename_i g;obtain⟨d,j,q⟩:=j1 q;obtain⟨u,o,q⟩:=j1 q;obtain rfl:=Zj q;obtain⟨m,p,t,n⟩:=Yu o;refine#[?_,by simp[p],λz s=>?_,by simp[n]]
   ·cases k with
    |true=>exact Ms (JY R h j) m (jJ g)
    |false=>exact Mt (jq R h j) m (jJ g)
   ·grind
  ·exact Zn q
 |[],_::_,_,q=>Zn q
 |_::_,[],_,q=>Zn q
omit R in
theorem i0(q:HD g=S f):∃t,jW X (binaryOp g) t/\Jl K t f:=by
 have:=h.k;subst this;cases g<;>cases q
 ·exact#[_,D8,lu]
 ·exact#[_,EM,lf]
 ·exact#[_,D7,Fw]
 ·exact#[_,EO,lh]
 ·exact#[_,EQ,lj]
 ·exact#[_,dr,li]
omit R in
theorem gh(hc:Γ.cm=B)(q:KH g=S f):∃t,jW X (compareOp g) t/\Jl K t f:=by
 have:=h.k;subst this;cases g<;>obtain rfl:=Zj q
 ·exact#[_,FE (h.room hc),MH]
 ·exact#[_,FF (h.room hc),MI]
 ·exact#[_,IP,Mg]
 ·exact#[_,IQ,Mh]
 ·exact#[_,IR,Mi]
 ·exact#[_,IS,Mj]
 ·exact#[_,EV,lm]
 ·exact#[_,du,fW]
 ·exact#[_,aE,FG]
 ·exact#[_,Ww,FG]
omit R in
theorem Gi(hc:Γ.cm=B)(q:KJ Γ p g=S f):∃t,jW X (compareOp g) t/\Jl K t f:=by
 unfold KJ at q;split at q
 ·cases g<;>cases q;exact#[_,Ag,Lh]
 ·exact gh h hc q
omit R in
theorem Ap(hc:Γ.cm=B)(q:CF Γ p g=S f):∃t,jW X (compareOp g) t/\Jl K t f:=by
 unfold CF at q;split at q
 ·cases g<;>cases q
  ·exact#[_,Bg,Cz]
  ·exact#[_,Qr,Cz]
 split at q
 ·cases g<;>cases q;exact#[_,aw,Ll]
 ·exact gh h hc q
theorem Aq:∀{f d},cB r Γ Yt f=S d->PE X (.BoolOp .And f pos) (tE K d)
 |[],_,q=>Zn q
 |[a],_,q=>C5 (JY R h q)
 |a::b::c,d,q=>by
  obtain⟨d1,j,q⟩:=j1 q;obtain⟨d2,g,q⟩:=j1 q;obtain rfl:=Zj q;exact lC (jq R h j) (Aq g)
theorem CM:∀{f d},cB r Γ WK f=S d->PE X (.BoolOp .Or f pos) (tE K d)
 |[],_,q=>Zn q
 |[a],_,q=>C5 (JY R h q)
 |a::b::c,d,q=>by
  obtain⟨d1,j,q⟩:=j1 q;obtain⟨d2,g,q⟩:=j1 q;obtain rfl:=Zj q;exact Mr (jq R h j) (CM g)
theorem Ar:∀{f d},cW r Γ J4 f=S d->PW X (.BoolOp .And f pos) (tT K d)
 |[],_,q=>Zn q
 |[a],_,q=>F2 (R.t h q)
 |a::b::c,d,q=>by
  obtain⟨d1,j,q⟩:=j1 q;obtain⟨d2,g,q⟩:=j1 q;obtain rfl:=Zj q;exact lB (R.t h j) (Ar g)
theorem CN:∀{f d},cW r Γ yA f=S d->PW X (.BoolOp .Or f pos) (tT K d)
 |[],_,q=>Zn q
 |[a],_,q=>ly (R.t h q)
 |a::b::c,d,q=>by
  obtain⟨d1,j,q⟩:=j1 q;obtain⟨d2,g,q⟩:=j1 q;obtain rfl:=Zj q;exact Mq (R.t h j) (CN g)
theorem Gj(q:part r Γ o=S p):PO X o (WM K p):=by
 cases o with
 |none=>obtain rfl:=Zj q;exact Mu
 |some e=>
  obtain⟨d,f,rfl⟩:=j5 q;exact Mv (jq R h f)
theorem As(q:CB r Γ e=S g):PI X tg e (vX K g):=by
 unfold CB at q;split at q
 ·obtain⟨d,f,rfl⟩:=j5 q;exact Lg (Gh R h f) h.k
 ·obtain⟨d,f,rfl⟩:=j5 q;exact Ca (Gh R h f) h.k
 ·obtain⟨d,f,rfl⟩:=j5 q;exact Ca (Gh R h f) h.k
omit R h in
theorem Bw(t:vt e=B):∃es n p,e=.Tuple es n p:=by
 cases e<;>first|exact#[_,_,_,rfl]|exact Zf t
theorem ic(q:HJ r Γ (vt tg) x es=S p):PI X tg (.Call (.Name x v) es [] pos) (vX K p):=by
 unfold HJ at q;split at q
 ·rename_i t;obtain⟨m,l⟩:=kX h t;split at q
  ·split at q
   ·rename_i k;subst k;obtain⟨j,q⟩:=jb q;obtain⟨d,f,rfl⟩:=j5 q;exact Fc m l (jq R h f) (jJ j)
   ·exact Zn q
  ·split at q
   ·rename_i k;subst k;obtain⟨j,q⟩:=jb q;obtain⟨g,o⟩:=j9 j;obtain⟨g,n⟩:=j9 g;obtain⟨d,f,q⟩:=j1 q;obtain⟨u,s,rfl⟩:=j5 q;obtain⟨_,_,_,rfl⟩:=Bw o;exact lQ m l (Gh R h f) (Gh R h s) (by rw[jJ g,jJ n];rfl) (jJ n) h.k
   ·exact Zn q
  ·exact Zn q
 ·exact Zn q
theorem ie(q:HK r Γ tg (.Call f j g p) f j g p=S k):PI X tg (.Call f j g p) (vX K k):=by
 unfold HK at q;cases f with
 |Name x l=>
  cases g with
  |nil=>
   dsimp only at q;split at q
   ·obtain rfl:=Zj q;exact ic R h (by assumption)
   ·exact As R h q
  |cons _ _=>exact Zn q
 |_=>cases q
theorem CO(q:cI r Γ tg e=S g):PI X tg e (vX K g):=by
 cases e with
 |Call f k j p=>exact ie R h q
 |_=>exact As R h (jb q).2
end
theorem Gk:∀{l},GS l=B->l.Nodup
 |[],_=>List.nodup_nil
 |x::r,h=>by
  obtain⟨a,b⟩:=j9 h;refine List.nodup_cons.mpr #[λz=>?_,Gk b];rw[List.contains_iff_mem.mpr z]at a;exact Zf a
theorem KL:∀{l},XE l=B->l.Nodup
 |[],_=>List.nodup_nil
 |x::r,h=>by
  obtain⟨a,b⟩:=j9 h;refine List.nodup_cons.mpr #[λz=>?_,KL b];rw[List.contains_iff_mem.mpr z]at a;exact Zf a
def ig{K e P t}(a:UY X)(h:PE X e (tP K t))(hK:X.K=K):FW X P e (vX K (XH t)):=λo s w H R I UQ=>by
 obtain⟨a0,o0,a⟩:=a;obtain⟨W,O0,u,O,f,j,M,q⟩:=UQ;obtain⟨d,c,N⟩:=j1 M;refine B2 a h _ s w H R I #[W,O0,u,O,d,j,c,λv k s r=>?_];cases d<;>cases N;have n:=j.grow s;obtain⟨p,F,rfl,h1,h2⟩:=(r.at n.keep n.in0 (j4.refl _)).lst;refine#[p,rfl,#[F,jY.of h1],q _ k s λi k O' Q t1 T _=>?_];obtain⟨p',b,e',g,l⟩:=(r.at Q t1 T).lst;cases e';refine#[λd A=>?_,λhi=>#[b,jY.of g,by rw[l.len,hi];exact wPa _]];obtain⟨x,m,C⟩:=l.get A;refine#[#[b,x,jY.of g,m],λx' Z y=>?_];obtain⟨c,y⟩:=y;have z:=y b (jY.of g);rw[m]at z;obtain rfl:=Zj z;rw[c];exact#[j4.refl _,C]
structure LcP (X K elt tg iter ifs scope own caps di g) (dc:DT) (de) where
 SQ:CScope X scope
 cp:Caps X scope caps
 i:PI X tg iter (vX K di)
 g:∀s3 H3 ex',PG (X.comp (L2.cN own caps) scope s3 H3 ex') tg (tG K own.length g)
 t:∀s3 H3 ex',ZX (X.comp (L2.cN own caps) scope s3 H3 ex') ifs (tT K dc)
 e:∀s3 H3 ex',PE (X.comp (L2.cN own caps) scope s3 H3 ex') elt (tE K de)
 nd:(caps.map (·.2)).Nodup
 fs:∀x,foldedSetIterable iter X.env x=pure x
 cm:X.calm=B
section
variable{r:Rc}{Γ:Gm}{X:Cx}{K:Fr}{x y:Str}{i:Nat}{e a b c tg:Expr}{es:L Expr}{pos:Pos}{d:DE}
def V6{g f}(h:OkX K Γ X)(n:GS (We Γ j g f).N=B){m l k}:OkX K (We Γ j g f) (X.comp (L2.cN j g) f m l k) where
 n:=rfl
 sc:=by
  show relabel _ _=HL _ _;rw[<-h.sc];rfl
 nd:=Gk n
 calm:=h.calm
 k:=h.k
 room:=h.room
 xt:=h.xt
 fn:=λz=>Zf z
 gs:=h.gs
 ms:=h.ms
 cl:=h.cl
 fl:=h.fl
 hcl:=h.hcl
 hfl:=h.hfl
 hm:=h.hm
 xq:=h.xq
 sf:=λz=>nomatch z
 ss:=λx F z=>nomatch z
def CQ(h:OkX K Γ X)(q:HN Γ f=B):CScope X f:=by
 obtain⟨q,l⟩:=j9 q;obtain⟨q,k⟩:=j9 q;obtain⟨g,j⟩:=j9 q;refine#[?_,j,k,by rw[h.sc];exact l];split at g
 ·assumption
 ·exact Zf g
theorem KM(h:OkX K Γ X):∀{f},f.all (Bq Γ g)=B->Caps X g f
 |[],_=>.nil
 |(y,j)::r,q=>by
  obtain⟨k,o⟩:=j9 q;obtain⟨k,m⟩:=j9 k;obtain⟨l,n⟩:=j9 k;refine .cons ?_ ?_ ?_ (KM h o)
  ·rw[h.n];split at l
   ·simp_all
   ·exact Zf l
  ·show X.env.scope.names.lookup y=_\/X.env.scope.names.lookup y=_;rw[h.sc];split at n
   ·exact .inl (by assumption)
   ·exact .inr (by assumption)
   ·exact Zf n
  ·split at m
   ·assumption
   ·exact Zf m
variable(R:RcOk r) (h:OkX K Γ X)
include R h
theorem ii{d}(q:mf r Γ t tg k u j p=S d):
  ∃l f n g o m,d=yc l.length (f.map (·.2)) n g o m/\LcP X K t tg k u j l f n g o m:=by
 obtain⟨z,q⟩:=jb q;obtain⟨z,w⟩:=j9 z;obtain⟨z,A⟩:=j9 z;obtain⟨z,F⟩:=j9 z;obtain⟨z,v⟩:=j9 z;obtain⟨I,N⟩:=j9 z;obtain⟨n,C,q⟩:=j1 q;obtain⟨g,H,q⟩:=j1 q;obtain⟨o,s,q⟩:=j1 q;obtain⟨m,M,q⟩:=j1 q;refine#[_,_,n,g,o,m,(vFa q).symm,CQ h I,KM h N,CO R h C,λ_ _ _=>R.g (V6 h v) H,λ_ _ _=>?_,λ_ _ _=>JY R (V6 h v) M,KL F,KK A,h.calm w];split at s
 ·obtain rfl:=Zj s;exact Ff
 ·exact MA (R.t (V6 h v) s)
 ·exact Zn s
theorem eg{d}(q:Br r Γ k tg j l f p=S d):PE X (.ListComp k [#[tg,j,l,0]] f p) (tF K d):=by
 unfold Br at q;obtain⟨z,q⟩:=jb q;obtain⟨z,s⟩:=j9 z;obtain⟨z,F⟩:=j9 z;obtain⟨z,w⟩:=j9 z;obtain⟨z,m⟩:=j9 z;obtain⟨u,n⟩:=j9 z;obtain⟨A,t⟩:=j9 s;rw[List.isEmpty_iff.mp t];obtain⟨I,C,q⟩:=j1 q;obtain⟨g,o,q⟩:=j1 q;obtain⟨H,v,q⟩:=j1 q;obtain rfl:=Zj q;exact jx (FX _ _ (CQ h u) (KM h n) (ig (h.sf A) (Gh R h C) h.k) (λ_ _ _=>R.g (V6 h m) o) (λ_ _ _=>Ff) (λ_ _ _=>JY R (V6 h m) v) (KK F)) (kO (KL w))
omit R in
theorem eh(hc:X.calm=B){l f p s}(q:Bm x s=S f)(n:Gl X x)(k:X.mg x=J)(m:PA X (e::es) (yw K l))(o:starEach (e::es) X.env=(G,eval e X.env)::starEach es X.env)(g:(backTo pos (starEach es X.env)).any (·.1)=G):
  PE X (.Call (.Name x p) (e::es) [] pos) (tE K (j8 f l)):=by
 have:=h.k;subst this;unfold Bm at q;split at q
 ·rename_i j;subst j;obtain rfl:=Zj q;split
  ·exact jx (zG Wy n k PySem.boot_len m (by decide) rfl o g) (uj Hu)
  split
  ·exact jx (zG Af n k PySem.boot_len m (by decide) rfl o g) (uj Hq)
  ·exact jx (zG Wx n k PySem.boot_len m (by decide) rfl o g) (uj lL)
 split at q
 ·rename_i j;subst j;obtain rfl:=Zj q;exact jx (Vy wT n k PyProof.Rows.boot_tuple m (by decide) rfl o g) (uj dY)
 split at q
 ·rename_i j;subst j;obtain rfl:=Zj q;exact jx (zG (bK hc) n k PyProof.Rows.boot_all m (by decide) rfl o g) (uj lN)
 split at q
 ·rename_i j;subst j;obtain rfl:=Zj q;exact jx (zG (ax hc) n k PyProof.Rows.boot_max m (by decide) rfl o g) (uj lM)
 ·exact Zn q
omit R in
theorem en(hc:X.calm=B){l s b f p}(q:Bo x s b=S f)(j:Gl X x)(k:X.mg x=J)(m:PA X (e::es) (yw K l))(o:starEach (e::es) X.env=(G,eval e X.env)::starEach es X.env)(g:(backTo pos (starEach es X.env)).any (·.1)=G):
  PE X (.Call (.Name x p) (e::es) [] pos) (tF K (jS f l)):=by
 have:=h.k;subst this;unfold Bo at q;split at q
 ·rename_i n;subst n;obtain rfl:=Zj q;split
  ·exact jx (Vy (XD hc) j k PyProof.Rows.boot_list m (by decide) rfl o g) (Ko ef)
  ·exact jx (Vy Wz j k PyProof.Rows.boot_list m (by decide) rfl o g) (Ko F7)
 split at q
 ·rename_i n;subst n;obtain rfl:=Zj q;exact jx (Vy Xy j k PyProof.Rows.boot_dict m (by decide) rfl o g) (Ko DN)
 ·exact Zn q
set_option tactic.hygienic false
set_option tactic.hygienic true in
omit R h in
theorem eA(q:Bp t=S T):bootBuiltins t=S (.type T)/\t≠ "__name__"/\(t==("__debug__"))=G:=by
 unfold Bp at q
 repeat(split at q;· rename_i f;subst f;obtain rfl:=Zj q;exact#[rfl,by decide,rfl])
 exact Zn q
theorem eD{Z}(s:Gl X "isinstance")(v:X.mg "isinstance" = J)(q:Bs r Γ es=S n):Ux X K (.Call (.Name "isinstance" Z) es [] pos) n:=by
 rcases es with _|⟨a,_|⟨t,_|⟨_,_⟩⟩⟩<;>try exact Zn q
 cases t with
 |Name t UQ=>
  dsimp only[Bs]at q;split at q
  ·have g:=List.contains_iff_mem.mp (by assumption);obtain⟨z,q⟩:=jb q;obtain⟨f,j⟩:=j9 z;obtain⟨d,m,rfl⟩:=j5 q;obtain⟨l,o⟩:=zZ h j;obtain⟨C,O,w,_⟩:=h.xt.e _ g;refine L5 (jq R h m) (Qw l w rfl o) s v (jJ f) h.k λc hc=>?_;obtain⟨C',d1,_,d3⟩:=h.xt.e c hc;have p:=h.xt.k c hc _ g;rw[kG O]at p;exact#[by rw[kG d1];exact d3,p]
  ·obtain⟨z,q⟩:=jb q;obtain⟨f,j⟩:=j9 z;obtain⟨T,q1,q⟩:=j1 q;obtain⟨d,m,rfl⟩:=j5 q;obtain⟨N,M,b3⟩:=eA q1;obtain⟨l,o⟩:=kX h j;exact lV (zG bM s v PyProof.Rows.boot_isinstance (Jx (jq R h m) (Jx (Kf l o N rfl M b3) Yc) (jJ f)) (by decide) rfl (jJ f)) h.k
 |Tuple W k UQ=>
  rcases W with _|⟨t,_|⟨u,_|⟨_,_⟩⟩⟩<;>try exact Zn q
  ·obtain⟨x1,y1,q⟩:=j1 q;obtain⟨x2,I,q⟩:=j1 q;obtain⟨_,rfl⟩:=YD y1;obtain⟨_,rfl⟩:=YD I;obtain⟨z,q⟩:=jb q;obtain⟨z,Q⟩:=j9 z;obtain⟨z,P⟩:=j9 z;obtain⟨z,F⟩:=j9 z;obtain⟨f,j⟩:=j9 z;obtain⟨d,m,rfl⟩:=j5 q;have p:=vLa P;have e2:=vLa Q;subst p e2;obtain⟨l,o⟩:=kX h j;obtain⟨H,A⟩:=kX h F;exact hZ (Dy s v l o H A (jq R h m) (jJ f)) h.k
 |_=>exact Zn q
theorem Bx{O}(I:CD r Γ x es pos=S n):Ux X K (.Call (.Name x O) es [] pos) n:=by
 obtain⟨z,q⟩:=jb I;clear I;obtain⟨P,T⟩:=j9 z;obtain⟨s,H⟩:=zZ h P;obtain⟨g,Q,o⟩:=j1 q;clear q;have q:=o;clear o;have j:=h.gs _ _ Q;cases es with
 |nil=>exact Zf T
 |cons e es=>
 by_cases M:x ="isinstance"
 ·subst M;cases g<;>try exact Zn q
  exact eD R h s j q
 ·rw[if_neg M]at q;obtain⟨hc,q⟩:=jb q;have u:(∀z∈e::es,yE z=B)->starEach _ _=(G,eval e _)::starEach es X.env:=λm=>jJ (m _ wNa);have A:(∀z∈e::es,yE z=B)->(backTo pos (starEach es X.env)).any _=G:=λm=>Y3 λz UQ=>m z (wMa _ UQ);cases g with
  |con i=>exact Zn q
  |fH k w v F=>exact Zn q
  |mH k w v C F=>exact Zn q
  |fE k w v F=>
   obtain⟨l,o,rfl⟩:=j5 q;obtain⟨p,t,m,_⟩:=Yu R h o;exact Fh j.1 (j.2 hc) p t s H (u m) (A m)
  |fF k w v F=>
   obtain⟨l,o,rfl⟩:=j5 q;obtain⟨p,t,m,_⟩:=Yu R h o;exact Fi j.1 (j.2 hc) p t s H (u m) (A m)
  |fX k w v F=>exact Zn q
  |mk k w v F W=>
   obtain⟨l,o,rfl⟩:=j5 q;obtain⟨p,t,m,_⟩:=Yu R h o;exact Fj j.1 j.2.1 (j.2.2 hc) p t s H (u m) (A m)
  |blt=>
   obtain⟨l,o,q⟩:=j1 q;obtain⟨p,t,m,_⟩:=Yu R h o;split at q
   ·obtain rfl:=Zj q;exact eh h (h.calm hc) (by assumption) s j p (u m) (A m)
   ·obtain⟨f,N,rfl⟩:=j5 q;exact en h (h.calm hc) N s j p (u m) (A m)
omit R h in
theorem V7:∀{l:DA}{es:L Expr},l.map (·.1)=(es.map λ_=>B)->(l.map (·.1)).all id=B:=λq=>by simp_all
omit R h in
theorem QS(o:(l.endLine==j.line)=B):eval (.Call (.Attribute (.Name x p) m l) [] [] j) g=(do
   let n<-eval (.Name x p) g
   standAt l.atName
   let(f,k)<-holding [n] (getMethod n m (do return(<-importBound (.Name x p) g).getD B))
   callWith j f k (backTo j (starEach [] g)) (backToKw j (keywordEach [] g))):=by
 have e:methodCallPos B (.Name x p) g l j=pure j:=by unfold methodCallPos;rw[o];rfl
 have f:methodCallForm 0 (backTo j (starEach [] g)) (backToKw j (keywordEach [] g))=B:=rfl;show(do
  let n<-eval _ _
  standAt _
  methodCall _ m l j _ n 0 _ _)=_
 unfold methodCall;rw[f,e];rfl
omit R h in
theorem ij{c k n}(q:HP c=S n):Ux X K (.Constant c k pos) n:=by
 unfold HP at q;split at q<;>cases q
 ·exact I_
 ·exact Md
 ·exact l7
 ·exact lc
theorem ik(q:HQ r Γ g a=S n):Ux X K (.UnaryOp g a pos) n:=by
 unfold HQ at q;split at q
 ·obtain⟨d,f,rfl⟩:=j5 q;exact lE (jq R h f)
 ·obtain⟨d,f,rfl⟩:=j5 q;exact lD (jq R h f)
 ·exact Zn q
theorem il(q:mh r Γ a o b pos=S n):Ux X K (.BinOp a o b pos) n:=by
 obtain⟨d,j,q⟩:=j1 q;obtain⟨p,g,q⟩:=j1 q;split at q
 ·split at q
  ·obtain rfl:=Zj q;exact Mf fz lr (jq R h j) (jq R h g)
  ·exact Zn q
 ·obtain⟨f,m,rfl⟩:=j5 q;obtain⟨t,k,l⟩:=i0 h m;exact Me k l (jq R h j) (jq R h g)
theorem im(hc:Γ.cm=B){os A d}(q:mm r Γ a os A pos=S d):PE X (.Compare a os A pos) (tE K d):=by
 rcases os with _|⟨o,_|⟨T,_|⟨O,_|⟨_,_⟩⟩⟩⟩<;>rcases A with _|⟨b,_|⟨c,_|⟨e,_|⟨_,_⟩⟩⟩⟩<;>try exact Zn q
 ·obtain⟨z,q⟩:=jb q;obtain⟨d,n,q⟩:=j1 q;obtain⟨F,p,q⟩:=j1 q;obtain⟨f,s,rfl⟩:=j5 q;obtain⟨t,m,l⟩:=Ap h hc s;exact C2 m l (jq R h n) (jq R h p) (ZH z)
 ·obtain⟨z,q⟩:=jb q;obtain⟨d,n,q⟩:=j1 q;obtain⟨F,p,q⟩:=j1 q;obtain⟨C,s,q⟩:=j1 q;obtain⟨f,w,q⟩:=j1 q;obtain⟨P,v,rfl⟩:=j5 q;obtain⟨t,m,l⟩:=Gi h hc w;obtain⟨H,g,j⟩:=Gi h hc v;exact dW m g l j (jq R h n) (jq R h p) (jq R h s) (ZH z)
 ·obtain⟨z,q⟩:=jb q;obtain⟨d,n,q⟩:=j1 q;obtain⟨F,p,q⟩:=j1 q;obtain⟨C,s,q⟩:=j1 q;obtain⟨d3,M,q⟩:=j1 q;obtain⟨f,w,q⟩:=j1 q;obtain⟨P,v,q⟩:=j1 q;obtain⟨I,N,rfl⟩:=j5 q;obtain⟨t,m,l⟩:=gh h hc w;obtain⟨H,g,j⟩:=gh h hc v;obtain⟨Q,u,k⟩:=gh h hc N;exact bP m g u l j k (jq R h n) (jq R h p) (jq R h s) (jq R h M) (ZH z)
theorem io(hc:Γ.cm=B){n}(q:mo r Γ a b pos=S n):Ux X K (.Subscript a b pos) n:=by
 have j:=h.k;have m:∀{b},cG (KI b) ((cV r Γ dV a).bind λd=>(cV r Γ dV b).map λl=>.E (d2 (HR Γ pos) d l))=S n->Ux X K (.Subscript a b pos) n:=λq=>by
  obtain⟨z,q⟩:=jb q;obtain⟨d,f,q⟩:=j1 q;obtain⟨l,g,rfl⟩:=j5 q;subst j;unfold HR;split
  ·exact bN aA Li (jq R h f) (jq R h g) (vv z)
  split
  ·exact bN Lc Hm (jq R h f) (jq R h g) (vv z)
  ·exact bN aB fY (jq R h f) (jq R h g) (vv z)
 cases b with
 |Slice lo o st p=>
  cases st with
  |none=>
   obtain⟨d,f,q⟩:=j1 q;obtain⟨u,g,q⟩:=j1 q;obtain⟨v,k,rfl⟩:=j5 q;split
   ·exact Hv (jq R h f) (Gj R h g) (Gj R h k) j
   ·exact lK (jq R h f) (Gj R h g) (Gj R h k) j
  |some _=>exact Zn q
 |_=>exact m q
theorem Au{u k d}(q:CG r Γ t u k pos=S d):
  ∃tg l n m j p g s o,u=[#[tg,l,n,0]]/\d=yc m.length (j.map (·.2)) p g s o/\LcP X K t tg l n k m j p g s o:=by
 unfold CG at q;split at q
 ·obtain⟨z,q⟩:=jb q;have v:=vLa z;subst v;obtain⟨m,j,p,g,s,o,rfl,f⟩:=ii R h q;exact#[_,_,_,_,_,p,g,s,o,rfl,rfl,f]
 ·exact Zn q
omit R h in
theorem qy:∀{es},(∀e∈es,yE e=B)->(backTo p (starEach es f)).all (λx=>!x.1)=B
 |[],_=>rfl
 |e::es,h=>by
  rw[jJ (h e List.mem_cons_self)];show(B&&(backTo p _).all (λx=>!x.1))=B;rw[qy λx g=>h x (List.mem_cons_of_mem _ g)];rfl
omit R h in
theorem uZ(s:attributeBase a m g (eval a g)=eval a g)(p:(l.endLine==j.line)=B)(o:Nat.blt es.length 20=B)(t:∀e∈es,yE e=B):eval (.Call (.Attribute a m l) es [] j) g=(do
   let n<-eval a g
   standAt l.atName
   let(f,k)<-holding [n] (getMethod n m (do return(<-importBound a g).getD B))
   callWith j f k (backTo j (starEach es g)) (backToKw j (keywordEach [] g))):=by
 have e:methodCallPos B a g l j=pure j:=by unfold methodCallPos;rw[p];rfl
 have f:methodCallForm (es.length+([]:L Keyword).length) (backTo j (starEach es g)) (backToKw j (keywordEach [] g))=B:=by
  unfold methodCallForm;rw[qy t];have o:=Nat.blt_eq.mp o;show(B&&B&&decide (es.length+0+0<30))=B;rw[decide_eq_true (by lia)];rfl
 show(do
  let n<-attributeBase a m _ _
  standAt _
  methodCall a m l j _ n _ _ _)=_
 rw[s];unfold methodCall;rw[f,e];rfl
theorem ip{t n}(q:HU r Γ a m t es pos=S n):Ux X K (.Call (.Attribute a m t) es [] pos) n:=by
 have hK:=h.k;subst hK;unfold HU at q;split at q
 ·obtain⟨⟨f,fd,g,p,s⟩,A⟩:=h.hm _ _ (by assumption);obtain⟨z,q1⟩:=jb q;obtain⟨z,u⟩:=j9 z;obtain⟨z,C⟩:=j9 z;obtain⟨w,F⟩:=j9 z;obtain⟨d,o,q2⟩:=j1 q1;obtain⟨l,a1,rfl⟩:=j5 q2;obtain⟨W,k,j,b4⟩:=Yu R h a1;refine Lj ?_;cases es with
  |nil=>
   have T:=List.length_eq_zero_iff.mp b4;refine qi (jx (Ws (jq R h o) h.hcl s g (A F) p .nil XC (uZ (Yl u) w C j)) λU H Q xx=>?_) k;subst T;obtain⟨H0,O0,I,O,x,R',M,q⟩:=xx;refine#[H0,O0,I,O,x,R',M,λv UQ s1 rv=>?_];obtain⟨N,Z,fs,y1,P,y3,y4⟩:=q v UQ s1 rv;exact#[N,Z,fs,y1,P,y3,DZ y4]
  |cons ea es=>exact qi (Ki (jq R h o) h.hcl s g (A F) p .nil XC W (jJ (j _ wNa)) (Y3 λz hz=>j z (wMa _ hz)) (uZ (Yl u) w C j)) k
 ·exact Zn q
set_option tactic.hygienic true
theorem iq{p n}(q:mq r Γ a m p es pos=S n):Ux X K (.Call (.Attribute a m p) es [] pos) n:=by
 rcases es with _|⟨b,_|⟨_,_⟩⟩<;>try exact Zn q
 rotate_left
 ·obtain⟨z,q⟩:=jb q;obtain⟨z,u⟩:=j9 z;obtain⟨v,o⟩:=j9 z;obtain⟨d,g,s⟩:=j1 q;obtain⟨A,t,f⟩:=j1 s;clear q s;split at f
  ·rename_i l;subst l;obtain rfl:=Zj f;exact DU (jq R h g) (jq R h t) (Yl u) v (λ_=>jJ o) h.k
  split at f
  ·rename_i l;subst l;obtain rfl:=Zj f;exact HB (jq R h g) (jq R h t) (Yl u) v (λ_=>jJ o) h.k
  ·exact Zn f
 ·cases a with
  |Name x w=>
   obtain⟨z,q⟩:=jb q;obtain⟨z,hc⟩:=j9 z;obtain⟨d,g,q⟩:=j1 q;split at q
   ·rename_i k;cases q;obtain⟨M,j⟩:=h.ms _ _ k;exact d_ (jq R h g) h.cl M (j hc) (QS z) h.k
   ·rename_i k;cases q;obtain⟨M,j⟩:=h.ms _ _ k;exact D0 (jq R h g) h.cl M (j hc) (QS z) h.k
   ·exact Zn q
  |_=>exact Zn q
theorem QT{os f d}(q:Bt r Γ a os f=S d):PE X (.Compare a os f pos) (tE K d)/\PT X (.Compare a os f pos) (tT K (je d)):=by
 rcases os with _|⟨o,_|⟨_,_⟩⟩<;>rcases f with _|⟨b,_|⟨_,_⟩⟩<;>try exact Zn q
 cases o<;>try exact Zn q
 obtain⟨z,q⟩:=jb q;obtain⟨d1,j,q⟩:=j1 q;obtain⟨d2,g,rfl⟩:=j5 q;exact#[C2 xL Xa (jq R h j) (jq R h g) (ZH z),C4 xL Xa (jq R h j) (jq R h g) (ZH z)]
theorem Lq(q:cN r Γ e=S n):Ux X K e n:=by
 have A:=h.k;unfold cN at q;cases e with
 |Name x p=>
  obtain⟨z,q⟩:=jb q;obtain⟨UQ,M⟩:=zZ h z;split at q
  ·rename_i O;obtain rfl:=Zj q;exact fP (nP (h.gs _ _ O) UQ M)
  ·exact Zn q
 |Constant c k p=>
  exact ij q
 |UnaryOp w a p=>
  exact ik R h q
 |BinOp a w b p=>
  exact il R h q
 |Compare a os bs p=>
  dsimp only at q;split at q
  ·obtain⟨d,o,rfl⟩:=j5 q;exact im R h (by assumption) o
  ·obtain⟨d,o,rfl⟩:=j5 q;exact(QT R h o).1
 |BoolOp w H p=>
  cases w
  ·obtain⟨d,o,rfl⟩:=j5 q;exact Aq R h o
  ·obtain⟨d,o,rfl⟩:=j5 q;exact CM R h o
 |IfExp c a b p=>
  obtain⟨t,o,q⟩:=j1 q;obtain⟨d,P,q⟩:=j1 q;obtain⟨d',Q,rfl⟩:=j5 q;exact lG (R.t h o) (JY R h P) (JY R h Q)
 |Tuple es k p=>
  obtain⟨z,q⟩:=jb q;obtain⟨l,o,rfl⟩:=j5 q;obtain⟨F,v,_,u⟩:=Yu R h o;exact lI F (V7 v) (by rw[u];rw[Nat.ble_eq]at z⊢;exact wSa z (by decide))
 |List es p=>
  obtain⟨z,q⟩:=jb q;obtain⟨l,o,rfl⟩:=j5 q;obtain⟨F,v,_,u⟩:=Yu R h o;exact lJ F (V7 v) (by rw[u];rw[Nat.ble_eq]at z⊢;exact wSa z (by decide))
 |Dict C H p=>
  cases C<;>cases H<;>try exact Zn q
  dsimp only at q;split at q
  ·obtain rfl:=Zj q;exact Ho
  split at q
  ·obtain rfl:=Zj q;exact Hw
  ·exact Zn q
 |Attribute a f p=>
  dsimp only at q;split at q
  ·obtain⟨s,q⟩:=jb q;obtain⟨d,o,rfl⟩:=j5 q;exact C9 (jq R h o) h.cl (h.fl _ (by assumption)) (Yl s) A
  split at q
  ·obtain⟨s,q⟩:=jb q;obtain⟨d,o,rfl⟩:=j5 q;exact C9 (jq R h o) h.hcl (h.hfl _ (.inl (by assumption))) (Yl s) A
  ·obtain⟨s,q⟩:=jb q;obtain⟨d,o,rfl⟩:=j5 q;exact L6 (jq R h o) (Yl s) A h.xt.f
 |Subscript a b p=>
  obtain⟨hc,q⟩:=jb q;exact io R h hc q
 |ListComp N Z sc p=>
  dsimp only at q;split at q
  ·split at q
   ·obtain⟨z,q⟩:=jb q;have T:=vLa z;subst T;obtain⟨d,o,rfl⟩:=j5 q;exact eg R h o
   ·exact Zn q
  obtain⟨d,o,rfl⟩:=j5 q;obtain⟨_,_,_,W,I,di,g,dc,de,rfl,rfl,j⟩:=Au R h o;exact Fg _ _ j.SQ j.cp j.cm j.i j.g j.t j.e j.nd j.fs
 |Call f es C p=>
  dsimp only at q;unfold mr at q;cases C with
  |cons _ _=>exact Zn q
  |nil=>
   cases f with
   |Name x p=>
    exact Bx R h q
   |Attribute a m p=>
    dsimp only at q;split at q
    ·obtain rfl:=Zj q;exact ip R h (by assumption)
    ·exact iq R h q
   |_=>exact Zn q
 |_=>
  exact Zn q
set_option tactic.hygienic false
set_option tactic.hygienic true in
omit R h in
theorem Lr(z:CI e=B):∀f,isTrue e g f=(do let v<-f;standAt e.pos;holding [v] (truthy v)):=by
 cases e<;>first|(intro _;rfl)|exact Zf z|skip
 rename_i j _ _;cases j<;>first|(intro _;rfl)|exact Zf z
theorem ir(hc:Γ.cm=B){os s t}(q:mt r Γ a os s pos=S t):PT X (.Compare a os s pos) (tT K t):=by
 rcases os with _|⟨o,_|⟨C,_|⟨_,_⟩⟩⟩<;>rcases s with _|⟨b,_|⟨c,_|⟨_,_⟩⟩⟩<;>try exact Zn q
 ·obtain⟨z,q⟩:=jb q;obtain⟨d,l,q⟩:=j1 q;obtain⟨A,m,q⟩:=j1 q;obtain⟨f,n,rfl⟩:=j5 q;obtain⟨t,j,p⟩:=Ap h hc n;exact C4 j p (jq R h l) (jq R h m) (ZH z)
 ·obtain⟨z,q⟩:=jb q;obtain⟨d,l,q⟩:=j1 q;obtain⟨A,m,q⟩:=j1 q;obtain⟨w,n,q⟩:=j1 q;obtain⟨f,u,q⟩:=j1 q;obtain⟨H,v,rfl⟩:=j5 q;obtain⟨t,j,p⟩:=Gi h hc u;obtain⟨F,g,k⟩:=Gi h hc v;exact dX j g p k (jq R h l) (jq R h m) (jq R h n) (ZH z)
theorem Ls(q:cT r Γ e=S t):PT X e (tT K t):=by
 have j:∀{e},cG (CI e) ((cV r Γ dV e).map Jj)=S t->PT X e (tT K t):=λq=>by
  obtain⟨z,q⟩:=jb q;obtain⟨d,f,rfl⟩:=j5 q;exact lv (jq R h f) h.k (Lr z)
 cases e with
 |Compare a os k p=>
  have q:(if Γ.cm then _ else _)=S t:=q;split at q
  ·exact ir R h (by assumption) q
  ·obtain⟨d,f,rfl⟩:=j5 q;exact(QT R h f).2
 |UnaryOp g a p=>
  cases g with
  |Not=>
   obtain⟨t,f,rfl⟩:=j5 q;exact lx (R.t h f)
  |_=>exact j q
 |BoolOp g l p=>
  cases g with
  |And=>exact F5 (Ar R h q)
  |Or=>exact F5 (CN R h q)
 |_=>exact j q
omit R h in
theorem qz(z:yE e=B):(assignEach (e::es) f)=(G,assign e f)::assignEach es f:=by
 cases e<;>first|rfl|exact Zf z
theorem Av:∀{es f},HV r Γ k es=S f->UK X es (aP K k f)/\(assignEach es X.env).length=es.length/\(assignEach es X.env).findIdx? (·.1)=J
 |[],_,q=>by obtain rfl:=Zj q;exact#[lR,rfl,rfl]
 |e::es,f,q=>by
  obtain⟨z,q⟩:=jb q;obtain⟨g,l,q⟩:=j1 q;obtain⟨j,n,rfl⟩:=j5 q;obtain⟨p,m,o⟩:=Av n;refine#[Fe (R.g h l) p (by rw[qz z];rfl),by rw[qz z];simp[m],?_];rw[qz z,List.findIdx?_cons,o];rfl
theorem iu(q:mu r Γ k e=S g):PG X e (tG K k g):=by
 cases e with
 |Name x p=>
  obtain⟨i,f,q⟩:=j1 q;obtain⟨z,q⟩:=jb q;obtain rfl:=Zj q;obtain⟨m,l,t,j⟩:=zw h f;exact Fd (dj m l t j) (Nat.blt_eq.mp z)
 |Tuple es k p=>
  obtain⟨hc,q⟩:=jb q;obtain⟨u,f,rfl⟩:=j5 q;obtain⟨o,n,s⟩:=Av R h f;exact lS _ (h.calm hc) o n s h.k
 |_=>
  exact Zn q
end
theorem Gn:∀n ,RcOk (rc n)
 |0=>#[(λ_ q=>Zn q),(λ_ q=>Zn q),(λ_ q=>Zn q)]
 |n+1=>#[λh q=>by
   have q:(if _ then _ else _)=_:=q;split at q
   ·obtain rfl:=Zj q;exact jx (t:=λ_ _ _=>False) (λ_ _ _ _ _ _ z=>z.elim) λa H Q x=>by obtain⟨_,_,_,_,_,_,z,_⟩:=x;exact Zn z
   ·exact Lq (Gn n) h q,λh q=>by
   have q:(if _ then _ else _)=_:=q;split at q
   ·obtain rfl:=Zj q;exact kH (t:=λ_ _ _=>False) (λ_ _ _ _ _ _ z=>z.elim) λa H Q x=>by obtain⟨_,_,_,_,_,_,z,_⟩:=x;exact Zn z
   ·exact Ls (Gn n) h q,λh q=>iu (Gn n) h q]
section
variable{r:Rc}{Γ:Gm}{X:Cx}{K:Fr}{x y:Str}{i:Nat}{e a b c tg:Expr}{es:L Expr}{pos:Pos}{d:DE}
def CS(h:OkX K Γ X)(z:mw Γ f x m p=B):swapsWith (.ListComp t [#[tg,j,A,F]] f p) (S (.Name x m)) l X.env=pure B:=by
 obtain⟨z,v⟩:=j9 z;obtain⟨z,w⟩:=j9 z;obtain⟨g,C⟩:=j9 z;have u:Γ.sc.kind=.function:=by
  split at g
  ·assumption
  ·exact Zf g
 have s:X.env.blockKind=.function:=by
  unfold Env.blockKind;rw[h.sc,u];rfl
 have o:X.env.kindOf x=S .local:=by
  show X.env.scope.names.lookup x=_;rw[h.sc];exact qu C
 show(pure (X.env.blockKind==.function&&X.env.kindOf x==S .local&&m.line==p.line&&!(f.names.any λ(n,k)=>n==x&&(k==.local||k==.cell))))=pure _;rw[s,o,w,v];rfl
def Aw(h:OkX K Γ X)(z:XJ Γ.sc x=B):swapsWith (.ListComp j [#[tg,g,k,o]] f p) (S (.Name x n)) l X.env=pure G:=by
 have m:X.env.kindOf x=S .cell:=by
  show X.env.scope.names.lookup x=_;rw[h.sc];unfold XJ at z;split at z
  ·assumption
  ·exact Zf z
 show(pure _:Sem _)=pure _;rw[m];cases X.env.blockKind==.function<;>rfl
def Ax(z:KI j=B):∀v,assign (.Subscript o j pos) f v=(do
   let g<-holding [v] (eval o f)
   let h<-holding [v,g] (eval j f)
   standAt pos
   holding [v,g,h] (setItem g h v)
   release [v,g,h] []):=by
 cases j<;>first|(intro _;rfl)|exact Zf z
def uq(h:zi e=B):swapsWithSole [tg] e l f=pure G:=by
 exact JG h
def qA:swappedStores [.Subscript o j p] e f=pure J:=rfl
def qB(z:(!vt e)=B):swappedStores [.Tuple es n p] e f=pure J:=by
 cases e<;>first|rfl|exact Zf z
variable(R:RcOk r) (h:OkX K Γ X)
include R h
set_option tactic.hygienic true in
theorem XM{d}(q:cF r Γ e=S d):PE X e (tF K d):=by
 unfold cF at q;split at q
 ·rename_i f;obtain rfl:=Zj q;exact R.n h f
 ·exact Zn q
theorem iw{w d}(j:mz r Γ x w e=S d):PS X (.Assign [.Name x w] e pos) (tS K I d):=by
 obtain⟨i,F,j⟩:=j1 j;obtain⟨m,n,k,l⟩:=zw h F;have H:∀{e},cG (zi e) (if Γ.ow.contains i then(cF r Γ e).map (zH i)else(cV r Γ dC e).map (jg i))=S d->PS X (.Assign [.Name x w] e pos) (tS K I d):=λj=>by
  obtain⟨z,j⟩:=jb j;split at j
  ·obtain⟨C,o,rfl⟩:=j5 j;exact Xf (Yy m n k (XM R h o) (JG z) l)
  ·obtain⟨C,o,rfl⟩:=j5 j;exact Xe (Yy m n k (JY R h o) (JG z) l)
 cases e with
 |ListComp M O u p=>
  obtain⟨C,o,j⟩:=j1 j;obtain⟨v,j⟩:=jb j;obtain rfl:=Zj j;obtain⟨_,_,_,N,A,P,g,T,Q,rfl,rfl,f⟩:=Au R h o;cases t:XJ _ x
  ·rw[t,Bool.or_false]at v;split
   ·exact D4 _ _ m n k f.SQ f.cp f.cm f.i f.g f.t f.e f.nd f.fs (CS h v) l
   ·exact D5 _ _ m n k f.SQ f.cp f.cm f.i f.g f.t f.e f.nd f.fs (CS h v) l
  ·have s:PE X (.ListComp _ _ _ p) _:=Fg _ _ f.SQ f.cp f.cm f.i f.g f.t f.e f.nd f.fs;split
   ·exact Xf (Yy m n k s (Aw h t) l)
   ·exact Xe (Yy m n k (fN s) (Aw h t) l)
 |_=>exact H j
theorem ix{t d}(l:mB r Γ t e=S d):PS X (.Assign [t] e pos) (tS K H d):=by
 cases t with
 |Name x p=>
  exact iw R h l
 |Attribute o f p=>
  obtain⟨i,C,n⟩:=j1 l;clear l;obtain⟨x,p,rfl,v⟩:=yT C;clear C;split at n
  ·obtain⟨z,l⟩:=jb n;obtain⟨A,m,rfl⟩:=j5 l;exact Ha (Wp (Jy h v) (JY R h m) (JG z)) h.hcl (h.hfl _ (.inl (by assumption))) h.k
  split at n
  ·obtain⟨z,l⟩:=jb n;obtain⟨A,m,rfl⟩:=j5 l;exact Hc (Wp (Jy h v) (XM R h m) (JG z)) h.hcl (h.hfl _ (.inr (by assumption))) h.k
  obtain⟨z,l⟩:=jb n;obtain⟨u,s⟩:=j9 z;obtain⟨A,m,rfl⟩:=j5 l;exact FH (Wp (Jy h v) (JY R h m) (JG u)) h.cl (h.fl _ s) h.k
 |Subscript o j p=>
  obtain⟨i,C,n⟩:=j1 l;clear l;obtain⟨x,p,rfl,v⟩:=yT C;obtain⟨z,l⟩:=jb n;obtain⟨z,hc⟩:=j9 z;obtain⟨u,s⟩:=j9 z;have I:=h.k;split at l
  ·obtain⟨F,m,l⟩:=j1 l;obtain⟨A,w,rfl⟩:=j5 l;exact Hn (ud (JY R h w) (Wn (Jy h v) (JY R h m) Hl (Ax s)) (uq u) qA)
  ·obtain⟨F,m,l⟩:=j1 l;obtain⟨A,w,rfl⟩:=j5 l;exact Fq (ud (JY R h w) (Wn (Jy h v) (jq R h m) bC (Ax s)) (uq u) qA)
 |Tuple es k p=>
  obtain⟨z,l⟩:=jb l;obtain⟨u,s⟩:=j9 z;obtain⟨A,m,l⟩:=j1 l;obtain⟨g,w,rfl⟩:=j5 l;exact lT (ud (JY R h m) (R.g h w) (uq u) (qB s))
 |_=>
  exact Zn l
theorem iy{t n d}(f:mC r Γ t n e=S d):PS X (.AugAssign t n e pos) (tS K v d):=by
 cases t with
 |Name x p=>
  obtain⟨i,s,l⟩:=j1 f;clear f;obtain⟨k,m,g,o⟩:=zw h s;obtain⟨u,j,f⟩:=j1 l;clear l;split at f
  ·cases f;exact Cg (aq k m g (jq R h j) EE o)
  ·cases f;exact Cg (aq k m g (jq R h j) EF o)
  ·exact Zn f
 |_=>
  cases f
theorem eE{f es k p d}(g:HW r Γ f es k p=S d):PS X (.Expr (.Call f es k p) pos) (tS K O d):=by
 cases f with
 |Attribute v m H=>
  cases v with
  |Attribute M P N=>
   rcases es with _|⟨e,_|⟨_,_⟩⟩<;>try exact Zn g
   cases k<;>try exact Zn g
   obtain⟨i,n,s⟩:=j1 g;obtain⟨x,Q,rfl,t⟩:=yT n;obtain⟨z,o⟩:=jb s;obtain⟨z,C⟩:=j9 z;obtain⟨z,F⟩:=j9 z;obtain⟨A,j⟩:=j9 z;obtain⟨I,w,rfl⟩:=j5 o;have l:=vLa A;have u:=h.k;subst l u;exact He (vK (fM (ay (Jy h t) rfl) (Jx (JY R h w) Yc (jJ j)) rfl (by rw[jJ j];rfl) F (jJ j)) (JG rfl)) h.hcl (h.hfl _ (.inr C))
  |_=>exact Zn g
 |_=>exact Zn g
theorem iz{f es k p d}(g:mG r Γ f es k p=S d):PS X (.Expr (.Call f es k p) pos) (tS K F d):=by
 cases f<;>try exact Zn g
 rcases es with _|⟨e,_|⟨A,_⟩⟩<;>rcases k with _|⟨_,_⟩<;>try exact Zn g
 ·obtain⟨i,m,t⟩:=j1 g;clear g;obtain⟨x,w,rfl,n⟩:=yT m;obtain⟨z,g⟩:=jb t;obtain⟨z,v⟩:=j9 z;obtain⟨u,j⟩:=j9 z;obtain⟨C,o,rfl⟩:=j5 g;have l:=vLa u;have s:=h.k;subst l s;exact bU (vK (fM (Jy h n) (Jx (JY R h o) Yc (jJ j)) rfl (by rw[jJ j];rfl) v (jJ j)))
end
section
variable{P:Program}{w:World}{K K':Fr}{mg:Tj}{base:Heap}{C:Addr}{g:GI}{x:Str}
def qt.mono(m:∀k,r k->d k)(h:qt P w K' mg base C r K x g):qt P w K' mg base C d K x g:=by
 cases g with
 |con i=>exact h
 |blt=>exact h
 |fE k c b F=>exact#[h.1,m _ h.2]
 |fF k c b F=>exact#[h.1,m _ h.2]
 |mk k c b F a=>exact#[h.1,h.2.1,m _ h.2.2]
 |fX k c b F=>exact#[h.1,m _ h.2]
 |fH k c b F=>exact#[h.1,m _ h.2]
 |mH k c b C F=>exact h
def QR.mono(m:∀k,r k->d k)(h:QR P w K' mg base C r K x g):QR P w K' mg base C d K x g:=by
 cases g with
 |con i=>exact h
 |blt=>exact h
 |fE k c b F=>exact#[h.1,m _ h.2]
 |fF k c b F=>exact#[h.1,m _ h.2]
 |mk k c b F a=>exact h
 |fX k c b F=>exact h
 |fH k c b F=>exact h
 |mH k c b C F=>exact h
def JS.mono(m:∀k,r k->c k)(h:JS P w K' mg base C r K x g):JS P w K' mg base C c K x g:=by
 cases g with
 |fX k b a F=>exact#[h.1,m _ h.2]
 |fH k b a F=>exact#[h.1,m _ h.2]
 |mH k b a C F=>exact#[h.1,m _ h.2]
 |_=>exact h
end
structure XmOk (K:Fr) (Γ X E) where
 ps:yQ (y8 X.prog X.w) X E
 rz:∀x∈Γ.xt.xp,ul Γ x=B->∀(np cpos pos cp z j),PS X (.Raise (S (.Call (.Name x np) [.Constant (.str z) j cp] [] cpos)) J pos) (λ_ _ H=>E (.ref (jz K x)) J H)
 rf:∀x fs,Γ.xt.xq.lookup x=S fs->ul Γ x=B->∀(np cpos pos a es l),PA X (a::es) (yw K l)->(∀e∈a::es,yE e=B)->
  PS X (.Raise (S (.Call (.Name x np) (a::es) [] cpos)) J pos) (λ_ U H=>yw K l U H λvs H1=>vs.length=fs.length/\∀dx,H1 dx=J->E (.ref (jz K x)) (S dx) (upd H1 dx (xW dx (fs.zip vs).reverse)))
structure OkS (K Γ X Px) where
 x:OkX K Γ X
 hp:PassesOwn (model X.prog X.w) X.A X.env X.xe
 st:X.stack=X.env::X.outer
 fr:X.env.frame=S X.env.locals
 xm:Γ.xm=B->∃E,Px=PX K E/\XmOk K Γ X E
section
variable{r:Rc}{q:Gm->L Stmt->Y DS.DS}{Γ:Gm}{X:Cx}{K:Fr}{Px:Xp->Hp->Prop}
noncomputable def Ng(s:Stmt)(y x z:Str):Prop:=∃e c b a k d,s=.Assign [.Name y e] (.Call (.Name x c) [.Constant (.str z) k b] [] a) d
noncomputable def Nh(r:Rc)(Γ:Gm)(K:Fr)(X:Cx)(e:Expr)(h:DX):Prop:=∃x i c b p k d a F l,e=.Call (.Name x i) (c::b) [] p/\h=uR F l/\(∃f g,FnOk X.prog X.w X.K X.mg X.base (y8 X.prog X.w) k f g d (wv K a F)/\Jo X.K g d []/\PySem.W.keepIn X.K (.ref f)=B/\X.mg x=S (.ref f))/\Room k X.A/\cA r Γ a (c::b)=S l/\Gl X x/\(x==("__debug__"))=G
noncomputable def Ni(K:Fr)(X:Cx)(e:Expr)(h:Uv×Uv):Prop:=∃x j i b a p F l k g c,e=.Call (.Name x j) (b::a) [] p/\h=(y9 i F l,y9 i (VH F) l)/\(∃f d,FnOk X.prog X.w X.K X.mg X.base (y8 X.prog X.w) k f d g (VG K c F)/\Jo X.K d g []/\PySem.W.keepIn X.K (.ref f)=B/\X.mg x=S (.ref f))/\Room k X.A/\PA X a (yw K l)/\l.map (·.1)=c/\c.all id=B/\Gl X x/\(x==("__debug__"))=G/\
  starEach (b::a) X.env=(G,eval b X.env)::starEach a X.env/\(backTo p (starEach a X.env)).any (·.1)=G/\PA X (b::a) (ZD (yf i) (yw K l))
noncomputable def MY(Γ:Gm)(e:Expr)(i:Nat):Prop:=∃x b a p,e=.Call (.Attribute (.Name x b) "pop" a) [] [] p/\slot Γ x=S i/\(a.endLine==p.line)=B
def CT(h:UY X):UY X.nox:=by
 obtain⟨e,o,s⟩:=h;exact#[e,o,s.h,s.s,s.n,s.f,s.x,s.c]
def OkX.nox(h:OkX K Γ X):OkX K Γ X.nox:=#[h.xt,h.n,h.sc,h.nd,h.calm,h.k,h.room,h.fn,h.gs,h.ms,h.cl,h.fl,h.hcl,h.hfl,h.hm,h.xq,λz=>CT (h.sf z),h.ss]
def OkS.nox(h:OkS K Γ X Px):OkS K Γ.nox X.nox Px:=#[#[h.x.xt,h.x.n,h.x.sc,h.x.nd,h.x.calm,h.x.k,h.x.room,h.x.fn,h.x.gs,h.x.ms,h.x.cl,h.x.fl,h.x.hcl,h.x.hfl,h.x.hm,h.x.xq,λz=>CT (h.x.sf z),h.x.ss],PassesOwn.never,h.st,h.fr,λz=>nomatch z]
def OkS.sui(h:OkS K Γ X Px):OkS K Γ.sui (X.sui e) Px:=#[#[h.x.xt,h.x.n,h.x.sc,h.x.nd,(λz=>nomatch z),h.x.k,(λz=>nomatch z),h.x.fn,(λx g e=>(h.x.gs x g e).mono λ_ _ z=>nomatch z),(λx g e=>(h.x.ms x g e).mono λ_ _ z=>nomatch z),h.x.cl,h.x.fl,h.x.hcl,h.x.hfl,(λx g e=>(h.x.hm x g e).mono λ_ _ z=>nomatch z),(λx a e=>(h.x.xq x a e).mono λ_ _ z=>nomatch z),(λz=>nomatch z),λ_ _ z=>nomatch z],PassesOwn.never,h.st,h.fr,λz=>nomatch z]
variable(R:RcOk r) (h:OkS K Γ X Px)
include R h
omit h in
theorem eF{X}(h:OkX K Γ X)(b:CJ r Γ e=S m):Nh r Γ K X e m:=by
 cases e with
 |Call f d j p=>
  cases f with
  |Name x k=>
   cases j with
   |cons _ _=>exact Zn b
   |nil=>
    obtain⟨z,c⟩:=jb b;clear b;obtain⟨z,hc⟩:=j9 z;obtain⟨t,o⟩:=j9 z;obtain⟨s,i⟩:=zZ h t;cases d with
    |nil=>exact Zf o
    |cons n d=>
    split at c
    ·have a:=h.gs _ _ (by assumption);obtain⟨l,g,rfl⟩:=j5 c;exact#[x,k,n,d,p,_,_,_,_,l,rfl,rfl,a.1,a.2 hc,g,s,i]
    ·exact Zn c
  |_=>exact Zn b
 |_=>exact Zn b
theorem iA(M:XmOk K Γ X E)(d:CJ r Γ e=S g):PE X e (tX K E g)/\(∀t l,swapsWith e t l X.env=pure G):=by
 obtain⟨x,H,A,y,p,k,C,N,F,l,rfl,rfl,⟨f,I,a,j,v,m⟩,i,c,w,s⟩:=eF R h.x d;obtain⟨n,o,b,_⟩:=Yu R h.x c;exact#[F_ a i m v j M.ps n o w s (jJ (b _ wNa)) (Y3 λz u=>b z (wMa _ u)),λ_ _=>JG rfl]
omit R h in
theorem Lu:yQ (y8 X.prog X.w) X (λ_ _ _=>False):=λ_ _ _ _ _ _ _ z=>by
 obtain⟨_,_,_,_,_,_,_,z⟩:=z;exact z.elim
set_option tactic.hygienic true
theorem Ay(M:XmOk K Γ X E)(c:HX r Γ e=S F):PE X e (tX K E F)/\(∀t l,swapsWith e t l X.env=pure G)/\zi e=B/\(!vt e)=B:=by
 have s:=h.x.k;subst s;cases e with
 |Call f j O p=>
  refine#[?_,λ_ _=>JG rfl,rfl,rfl];cases f with
  |Attribute a m T=>
   cases O<;>try exact Zn c
   obtain⟨z,k⟩:=jb c;obtain⟨z,Q⟩:=j9 z;obtain⟨u,P⟩:=j9 z;cases a with
   |Name y UQ=>
    obtain⟨N,g⟩:=jb k;cases j with
    |nil=>exact Zf N
    |cons W j=>
    split at g
    ·obtain⟨⟨f,Z,b,w,x⟩,C⟩:=h.x.hm _ _ (by assumption);obtain⟨d,o,I⟩:=j1 g;obtain⟨l,n,rfl⟩:=j5 I;obtain⟨v,A,i,_⟩:=Yu R h.x n;exact qi (Ki (jq R h.x o) h.x.hcl x b (C P) w .nil M.ps v (jJ (i _ wNa)) (Y3 λz H=>i z (wMa _ H)) (uZ rfl u Q i)) A
    ·exact Zn g
   |_=>exact Zn k
  |_=>exact Zn c
 |_=>exact Zn c
theorem qC(c:An r Γ e=S N):∃E,Px=PX K E/\PE X e (tY K E N)/\(∀t l,swapsWith e t l X.env=pure G):=by
 have w:=h.x.k;subst w;unfold An at c;cases j:Γ.xm with
 |false=>rw[j]at c;exact Zn c
 |true=>
  rw[j,if_pos rfl]at c;obtain⟨E,y,M⟩:=h.xm j;refine#[E,y,?_];cases e with
  |Call f k I p=>
   refine#[?_,λ_ _=>JG rfl];cases f with
   |Attribute a m ap=>
    cases I<;>try exact Zn c
    obtain⟨z,v⟩:=jb c;obtain⟨z,UQ⟩:=j9 z;obtain⟨z,T⟩:=j9 z;obtain⟨A,Z⟩:=j9 z;cases k with
    |nil=>exact Zf UQ
    |cons ea k=>
    obtain⟨i,P,d⟩:=j1 v;obtain⟨x,np,rfl,W⟩:=yT P;split at d
    ·obtain⟨⟨f,fd,b,C,F⟩,u⟩:=h.x.hm _ _ (by assumption);obtain⟨s,Q⟩:=jb d;obtain⟨l,n,rfl⟩:=j5 Q;obtain⟨o,H,g,_⟩:=Yu R h.x n;exact Hi M.ps (Ki (Jy h.x W) h.x.hcl F b (u Z) C .nil M.ps o (jJ (g _ wNa)) (Y3 λz O=>g z (wMa _ O)) (uZ rfl A T g)) H s
    ·exact Zn d
   |_=>exact Zn c
  |_=>exact Zn c
theorem iB{d}(b:mL r Γ t e=S d):PS X (.Assign [t] e m) (tS K Px d):=by
 have hK:=h.x.k;cases t<;>try exact Zn b
 cases e<;>try exact Zn b
 rename_i x np f j T p;cases f<;>try exact Zn b
 rename_i y p2;cases T<;>try exact Zn b
 obtain⟨i,n,u⟩:=j1 b;obtain⟨o,W,F,w⟩:=zw h.x n;obtain⟨z,c⟩:=jb u;obtain⟨z,z3⟩:=j9 z;obtain⟨v,Z⟩:=j9 z;obtain⟨g1,Q⟩:=zZ h.x v;cases j with
 |nil=>exact Zf Z
 |cons ea j=>
 split at c
 ·obtain⟨⟨f,fd,a,H,UQ,I⟩,s⟩:=h.x.hm _ _ (by assumption);obtain⟨C,P⟩:=jb c;obtain⟨N,M⟩:=j9 C;obtain⟨l,a1,rfl⟩:=j5 P;obtain⟨A,k,g,_⟩:=Yu R h.x a1;have eC:=vLa M;exact DH (Yy o W F (QC UQ a (s z3) g1 I H .nil Lu A Q (jJ (g _ wNa)) (Y3 λz O=>g z (wMa _ O))) (JG rfl) w) k N
 ·cases c
theorem iC(M:XmOk K Γ X E)(c:mJ r Γ e=S g):PE X e (tX K E g)/\(∀t l,swapsWith e t l X.env=pure G)/\zi e=B/\(!vt e)=B:=by
 cases e with
 |Subscript a b p=>
  have k:=h.x.k;subst k;obtain⟨z,j⟩:=jb c;obtain⟨i,d,m⟩:=j1 j;obtain⟨n,f,rfl⟩:=j5 m;exact#[MR (Ay R h M d).1 (jq R h.x f) (vv z),λ_ _=>JG rfl,rfl,rfl]
 |_=>exact Ay R h M c
theorem qD(a:Am r Γ e=S f):∃E,Px=PX K E/\PE X e (tX K E f)/\(∀t l,swapsWith e t l X.env=pure G)/\zi e=B/\(!vt e)=B:=by
 unfold Am at a;cases c:Γ.xm with
 |false=>rw[c]at a;exact Zn a
 |true=>
  rw[c]at a;obtain⟨E,j,M⟩:=h.xm c;refine#[E,j,?_];cases hc:CJ r Γ e with
  |some k=>
   rw[hc]at a;cases a;obtain⟨b,d⟩:=iA R h M hc;cases e with
   |Call _ _ _ _=>exact#[b,d,rfl,rfl]
   |_=>exact Zn hc
  |none=>
   rw[hc]at a;obtain⟨b,d,g,i⟩:=iC R h M a;exact#[b,d,g,i]
theorem iG{m d}(g:mM r Γ e=S d):PS X (.Raise (S e) J m) (tS K Px d):=by
 cases e with
 |Call f i w p=>
  cases f with
  |Name x F=>
   cases w with
   |cons _ _=>exact Zn g
   |nil=>
    obtain⟨z,b⟩:=jb g;clear g;obtain⟨u,s⟩:=j9 z;obtain⟨E,rfl,M⟩:=h.xm u;cases j:Γ.xt.xq.lookup x with
    |some C=>
     rw[j]at b;obtain⟨n,b⟩:=jb b;obtain⟨l,t,rfl⟩:=j5 b;cases i with
     |nil=>exact Zf n
     |cons v i=>
      obtain⟨y,I,A,_⟩:=Yu R h.x t;exact L4 (M.rf x C j s F p _ v i l y A)
    |none=>
     rw[j]at b;obtain⟨n,b⟩:=jb b;rcases i with _|⟨a,_|⟨_,_⟩⟩<;>try exact Zn b
     obtain⟨o,b⟩:=jb b;obtain rfl:=Zj b;cases a with
     |Constant c k H=>
      cases c<;>try exact Zf o
      exact MO (M.rz x (List.contains_iff_mem.mp n) s _ _ _ _ _ _)
     |_=>exact Zf o
  |_=>exact Zn g
 |_=>exact Zn g
omit R h in
omit R h in
theorem iH(b:mO s=S (y,x,z)):Ng s y x z:=by
 cases s<;>try exact Zn b
 rename_i m e w;rcases m with _|⟨t,_|⟨_,_⟩⟩<;>try exact Zn b
 obtain⟨I,l,g⟩:=j1 b;obtain⟨u,rfl⟩:=YD l;cases e<;>try exact Zn g
 rename_i f o p v;obtain⟨C,j,i⟩:=j1 g;obtain⟨H,rfl⟩:=YD j;rcases o with _|⟨a,_|⟨_,_⟩⟩<;>rcases p with _|⟨_,_⟩<;>try exact Zn i
 obtain⟨F,d,n⟩:=j5 i;cases n;cases a<;>try exact Zn d
 rename_i c k A;cases c<;>cases d;exact#[_,_,_,_,_,_,rfl]
theorem eG(Q:∀{g p},OkS K g p Px->∀l d,q g l=S d->Jb p l (tS K Px d)){i c o d e}(m:Bu q Γ i c o=S d):Jb (X.sui e) (c::o) (λD n H=>n[i]?=S (S (.ref e))/\tS K Px d D n H):=by
 unfold Bu at m;split at m
 ·obtain rfl:=Zj m;have hK:=h.x.k;obtain⟨⟨y,x,z⟩,v,q1⟩:=j1 (by assumption);obtain⟨p1,p2,p3,p4,k,p5,rfl⟩:=iH v;obtain⟨j,T,I⟩:=j1 q1;obtain⟨F,w,q3⟩:=j1 I;obtain⟨Z,W⟩:=jb q3;obtain⟨UQ,z2⟩:=j9 Z;obtain⟨d2,t,rfl⟩:=j5 W;obtain⟨A,s2,M,u⟩:=zw h.x T;obtain⟨s,N⟩:=zZ h.x UQ;obtain⟨f,fd,ps,b,a,O,C,P⟩:=h.x.ss _ _ w;exact DV (Yy A s2 M (Dr a (h.x.room z2).depth s P C O (Jx Wm Yc) N rfl rfl) (JG rfl) u) (λn H Q z=>z) (Q h.sui _ _ t)
 ·exact vZ (Q h.sui _ _ m) λ_ _ _ z=>z.2
theorem Az(Q:∀{f k},OkS K f k Px->∀l d,q f l=S d->Jb k l (tS K Px d)):∀{g l},H_ q Γ g=S l->PH X g (QM K Px l)
 |[],_,a=>by obtain rfl:=Zj a;exact hX
 |.ExceptHandler t n b p::g,l,a=>by
  cases t with
  |none=>exact Zn a
  |some t=>
  cases t with
  |Name x Z=>
   cases n with
   |none=>exact Zn a
   |some n=>
   cases b with
   |nil=>exact Zn a
   |cons j su=>
    obtain⟨c,M,s⟩:=j1 a;obtain⟨i,m,A⟩:=j1 s;obtain⟨z,C⟩:=jb A;obtain⟨d,F,H⟩:=j1 C;obtain⟨l',O,rfl⟩:=j5 H;obtain⟨o,N⟩:=j9 z;obtain⟨P,v⟩:=zZ h.x o;obtain⟨u,UQ,T,W⟩:=qv m;obtain⟨y,I,w⟩:=h.x.xt.c _ (Kw M);exact Be (by rw[h.x.n];exact h.x.nd) (by rw[h.x.n];exact uY u) (by show X.env.scope.names.lookup n=_;rw[h.x.sc];exact qu N) P y v h.x.k I w (λe=>eG R h Q F) (Az Q O)
  |_=>exact Zn a
omit R h in
theorem QU{X}(h:OkX K Γ X){e k}(b:HY r Γ e=S k)(R:RcOk r):Ni K X e k:=by
 cases e with
 |Call f c w p=>
  cases f with
  |Name x H=>
   cases w with
   |cons _ _=>exact Zn b
   |nil=>
    cases c with
    |nil=>exact Zn b
    |cons O c=>
     obtain⟨i,m,o⟩:=j1 b;obtain⟨y,N,rfl,s⟩:=yT m;obtain⟨z,d⟩:=jb o;obtain⟨z,j⟩:=j9 z;obtain⟨u,C⟩:=j9 z;obtain⟨I,v⟩:=zZ h u;split at d
     ·have a:=h.gs _ _ (by assumption);obtain⟨t,F⟩:=jb d;obtain⟨l,M,rfl⟩:=j5 F;obtain⟨g,n,A,_⟩:=Yu R h M;exact#[x,H,i,_,c,p,_,l,_,_,_,rfl,rfl,a.1,a.2 C,g,n,t,I,v,jJ j,Y3 A,Jx (Jy h s) g (jJ j)]
     ·exact Zn d
  |_=>exact Zn b
 |_=>exact Zn b
theorem iI(b:mK r Γ c=S g):Cn X c (CA K g):=by
 rcases c with _|⟨s,_|⟨_,_⟩⟩<;>try exact Zn b
 cases s<;>try exact Zn b
 rename_i n e p;rcases n with _|⟨t,_|⟨_,_⟩⟩<;>try exact Zn b
 cases t<;>try exact Zn b
 obtain⟨d2,m,rfl⟩:=j5 b;obtain⟨x,P,i,M,I,Q,F,l,k,N,UQ,rfl,rfl,⟨f,T,a,u,A,v⟩,j,O,y,z,H,o,C,d,w⟩:=QU h.x.nox m R;exact FQ (D_ a j v A u w y z H o C d) (JG rfl)
omit R h in
theorem eJ(a:HZ Γ e=S i):MY Γ e i:=by
 cases e<;>try exact Zn a
 rename_i f b d p;cases f<;>try exact Zn a
 rename_i o m s;cases b<;>cases d<;>try exact Zn a
 obtain⟨z,l⟩:=jb a;obtain⟨j,k⟩:=j9 z;have g:=vLa j;subst g;obtain⟨x,n,rfl,c⟩:=yT l;exact#[_,_,_,_,rfl,c,k]
omit R h in
theorem eK:f9 X "list.pop" bD:=fx
theorem Lv{s:Stmt}{d:DS.DS}(Q:∀{Γ' X'},OkS K Γ' X' Px->∀l d,q Γ' l=S d->Jb X' l (tS K Px d))(w:cS r q Γ s=S d):PS X s (tS K Px d):=by
 have Qh:=λl d=>Q h l d;cases s with
 |Assign ts e p=>
  rcases ts with _|⟨t,_|⟨_,_⟩⟩<;>try exact Zn w
  dsimp only[cS]at w;split at w
  ·rename_i dx hx;obtain⟨E,rfl,C,M,k3,k4⟩:=qD R h hx;cases t with
   |Name x np=>
    obtain⟨i,H,rfl⟩:=j5 w;obtain⟨N,O,P,T⟩:=zw h.x H;exact hL (Yy N O P C (M _ _) T)
   |Tuple es n p=>
    obtain⟨g,H,rfl⟩:=j5 w;exact hV (ud C (R.g h.x H) (uq k3) (qB k4))
   |_=>exact Zn w
  ·split at w
   ·rename_i dx hy;obtain⟨E,rfl,C,M⟩:=qC R h hy;cases t with
    |Name x np=>
     obtain⟨i,H,rfl⟩:=j5 w;obtain⟨N,O,P,T⟩:=zw h.x H;exact Hf (Yy N O P C (M _ _) T)
    |_=>exact Zn w
   ·split at w
    ·obtain⟨x,np,i,ea,es,p',F,l,k,ps,ks,rfl,rfl,⟨f,fd,m,hb,hk,hm⟩,hr,b1,b2,b3,g1,g2,he,hp,ho⟩:=QU h.x (by assumption) R;have W:PE X (.Call (.Name x np) (ea::es) [] p') (tY K (λ_ _ _=>False) (y9 i (VH F) l)):=Hj (Kh (m.imp Hy) hr g1 hm hk hb .nil XC ho g2 he hp) b2 b3;cases t with
     |Name y I=>
      obtain⟨j,H,rfl⟩:=j5 w;obtain⟨N,O,P,T⟩:=zw h.x H;exact DW qm (Yy N O P W (JG rfl) T)
     |Tuple es n I=>
      obtain⟨z,w⟩:=jb w;obtain⟨g,H,rfl⟩:=j5 w;exact DY qm (ud W (R.g h.x H) (uq rfl) (qB z))
     |_=>exact Zn w
    split at w
    ·cases w;exact iB R h (by assumption)
    split at w
    ·cases t with
     |Name y I=>
      obtain⟨j,H,rfl⟩:=j5 w;obtain⟨N,O,P,T⟩:=zw h.x H;obtain⟨x,np,ap,p',rfl,e1,e2⟩:=eJ (by assumption);have hK:=h.x.k;subst hK;exact Lm (Yy N O P (fu PySem.F.plainAttrs_list PySem.F.slot_list_pop PySem.F.type_list_pop (eK) (Jy h.x e1) rfl e2) (JG rfl) T)
     |_=>exact Zn w
    ·exact ix R h.x w
 |AugAssign t op e p=>
  exact iy R h.x w
 |Expr e p=>
  dsimp only[cS]at w;split at w
  ·rename_i dx hx;obtain⟨E,rfl,C,M,_⟩:=qD R h hx;obtain rfl:=Zj w;exact Dx (vK C (M _ _))
  split at w
  ·rename_i dx hy;obtain⟨E,rfl,C,M⟩:=qC R h hy;obtain rfl:=Zj w;exact DD (vK C (M _ _))
  ·have fb:∀{e},cG (zi e) ((cV r Γ dV e).map W7)=S d->PS X (.Expr e p) (tS K Px d):=λw=>by
    obtain⟨z,w⟩:=jb w;obtain⟨d0,A,rfl⟩:=j5 w;exact aR (vK (jq R h.x A) (JG z))
   unfold mI at w;cases e with
   |Call f es ks p'=>
    dsimp only[cS]at w;split at w
    ·cases w;exact eE R h.x (by assumption)
    split at w
    ·cases w;exact iz R h.x (by assumption)
    ·obtain⟨d0,A,rfl⟩:=j5 w;exact aR (vK (jq R h.x A) (JG rfl))
   |_=>exact fb w
 |Return o p=>
  cases o with
  |none=>cases w;exact Fv
  |some e=>
  dsimp only[cS]at w;split at w
  ·rename_i dx hx;obtain⟨E,rfl,C,M,_⟩:=qD R h hx;cases w;exact hU C
  split at w
  ·obtain⟨E,rfl,C,M⟩:=qC R h (by assumption);cases w;exact Hg C
  split at w
  ·rename_i d' hd;cases w;unfold mP at hd;split at hd
   ·obtain⟨d0,A,rfl⟩:=j5 hd;exact Hh (JY R h.x A)
   ·cases hd
  ·split at w
   ·rename_i hn;obtain⟨x,p,rfl,Z⟩:=yT hn;split at w
    ·cases w;exact Ft (Jy h.x Z)
    ·cases w;exact Ch (C1 _ (Jy h.x Z))
   ·split at w
    ·obtain⟨d0,A,rfl⟩:=j5 w;exact Fs (XM R h.x A)
    ·obtain⟨d0,A,rfl⟩:=j5 w;exact Ch (JY R h.x A)
 |If c a b p=>
  obtain⟨t,A,w⟩:=j1 w;obtain⟨u,I,w⟩:=j1 w;obtain⟨v,UQ,rfl⟩:=j5 w;exact MB (R.t h.x A) (Qh _ _ I) (Qh _ _ UQ)
 |While c b o p=>
  cases o with
  |cons _ _=>cases w
  |nil=>
   obtain⟨t,A,w⟩:=j1 w;obtain⟨u,I,rfl⟩:=j5 w;exact D3 _ h.hp (R.t h.x A) (Qh _ _ I)
 |For tg it b o p=>
  cases o with
  |cons _ _=>cases w
  |nil=>
   obtain⟨z,w⟩:=jb w;obtain⟨z,hc⟩:=j9 z;obtain⟨di,A,w⟩:=j1 w;obtain⟨g,I,w⟩:=j1 w;obtain⟨u,UQ,rfl⟩:=j5 w;exact lU h.hp (h.x.calm hc) (CO R h.x A) (R.g h.x I) (Qh _ _ UQ) (KK z)
 |Raise e o p=>
  cases e<;>cases o<;>try exact Zn w
  dsimp only[cS]at w;split at w
  ·exact iG R h w
  ·cases w;exact Da
 |Try bd Z o fb p=>
  obtain⟨z,q9⟩:=jb w;obtain⟨z,z3⟩:=j9 z;obtain⟨z1,z2⟩:=j9 z;have e1:=List.isEmpty_iff.mp z1;have e2:=List.isEmpty_iff.mp z2;subst e1 e2;split at q9
  ·obtain⟨db,I,w⟩:=j1 q9;obtain⟨l,UQ,rfl⟩:=j5 w;cases Z with
   |nil=>cases z3
   |cons h0 Z=>exact HA (iI R h (by assumption)) (Q h.nox _ _ I) (Az R h Q UQ) h.st h.fr
  ·cases q9
 |_=>
  cases w
omit R h in
theorem kY{st}:∀{a d},Jb X st (tS K Px d)->Jb X st (tS K Px (QQ l a d))
 |[],_,h=>h
 |(m,i)::r,d,h=>by
  unfold QQ;split
  ·exact bS i (kY h)
  ·exact kY h
set_option tactic.hygienic false
set_option tactic.hygienic true in
theorem Bz(a:CK r Γ l=S d):Jb X l (tS K Px d):=by
 have F:=h.x.k;subst F;rcases l with _|⟨Q,_|⟨st2,_|⟨_,_⟩⟩⟩<;>try exact Zn a
 revert a;refine bk λ⟨ea,eb,t1,t2⟩ g=>bk λ⟨y,o⟩ b=>bk λ⟨u,t⟩ e=>bk λ⟨ec,ed⟩ m=>bk λv j=>bk λ⟨M,ed'⟩ f=>bk λyn n=>?_;obtain⟨_,_,rfl⟩:=HI g;obtain⟨_,rfl⟩:=Aj b;obtain⟨_,rfl⟩:=Aj e;obtain⟨_,rfl⟩:=Ai m;obtain⟨_,rfl⟩:=HG j;obtain⟨_,rfl⟩:=Ai f;obtain⟨_,rfl⟩:=YD n;clear g b e m j f n;refine bk λjs a1=>bk λjk a2=>bk λs a3=>bk λk a4=>bk λc a5=>bk λdd H=>bk λc' A=>bk λd' UQ=>bk λi s0=>?_;obtain⟨_,rfl⟩:=YD a3;obtain⟨_,rfl⟩:=YD a4;obtain⟨_,rfl⟩:=YD a5;obtain⟨_,rfl⟩:=YD H;obtain⟨_,rfl⟩:=YD A;obtain⟨_,rfl⟩:=YD UQ;intro a;obtain⟨z,a⟩:=jb a;obtain⟨z,N⟩:=j9 z;obtain⟨z,z6⟩:=j9 z;obtain⟨z,C⟩:=j9 z;obtain⟨z,T⟩:=j9 z;obtain⟨z,W⟩:=j9 z;obtain⟨O,Z⟩:=j9 z;obtain⟨d1,b1,a⟩:=j1 a;obtain⟨d2,b2,rfl⟩:=j5 a;clear a;have o:=vLa O;have t:=vLa Z;have x:=vLa W;have w:=vLa T;subst o t x w;obtain⟨I,P,s3,s4⟩:=zw h.x s0;exact DQ (h.x.room N) (λp=>Jy h.x a1) (λp=>Jy h.x a2) (Yy I P s3 (JY R h.x b1) (JG C) s4) (JY R h.x b2) rfl (uq z6) qA
theorem AA(Q:∀{b c},OkS K b c Px->∀l d,q b l=S d->Jb c l (tS K Px d)):∀{l d},CL r q Γ l=S d->Jb X l (tS K Px d)
 |[],_,a=>by obtain rfl:=Zj a;exact Fk
 |s::t,d,a=>by
  unfold CL at a;split at a
  ·obtain rfl:=Zj a;exact bR
  split at a
  ·exact Bz R h a
  ·obtain⟨d1,g,a⟩:=j1 a;have e:=Lv R h Q g;split at a
   ·obtain rfl:=Zj a;exact kY (Fm e)
   ·obtain⟨d2,f,rfl⟩:=j5 a;exact kY (D2 e (AA Q f))
omit h in
theorem Wf:∀(n) {Γ X},OkS K Γ X Px->∀{l d},cQ r n Γ l=S d->Jb X l (tS K Px d)
 |0,_,_,_,_,_,q=>Zn q
 |n+1,_,_,h,_,_,q=>AA R h (λa l d q=>Wf n a q) q
end
structure De where
 x:Str
 q:Str
 st:Stmt
 ps:L Str
 lo:L Str
 ks:L Bool
 b:DS.DS
 hs:L ((Nat×Nat×Nat)×L Nat)
 sh:L (Nat×Nat)
 ow:L Nat
structure Tb where
 C:Addr
 gs:L (Str×GI)
 ms:L (Str×GI)
 fl:L Str
 xt:XT:={}
 hC:Addr:=0
 hm:L (Str×GI):=[]
 hfl:L Str:=[]
 hls:L Str:=[]
 tb:D->L (KD×Bool):=λ_=>[]
 ss:L (Str×(L D->Y D)):=[]
noncomputable def gm(T:Tb)(d:De)(a:Bool)(b:=G):Gm:={cm:=B,xm:=b,xt:=T.xt,N:=d.ps++d.lo,sc:=defScope d.st,fn:=B,kF:=a,C:=T.C,gs:=T.gs,ms:=T.ms,fl:=T.fl,hs:=d.hs,sh:=d.sh,ow:=d.ow,hC:=T.hC,hm:=T.hm,hfl:=T.hfl,hls:=T.hls,tb:=T.tb,ss:=T.ss}
noncomputable def QV(N b:L _)(a:Scope):=(match a.kind with|.function=>B|_=>G)&&!a.isCoroutine&&!a.isGenerator&&GS N&&b.all (qp a)&&a.names.all λy=>match y.2 with|.free=>G|_=>B
def z_{a lo c}(h:QV (a++lo) a c=B):FnScope (a++lo) a c:=by
 obtain⟨h,k⟩:=j9 h;obtain⟨h,d⟩:=j9 h;obtain⟨h,j⟩:=j9 h;obtain⟨h,i⟩:=j9 h;obtain⟨b,l⟩:=j9 h;refine#[?_,ZH l,ZH i,Gk j,by simp,λx f=>Ao (List.all_eq_true.mp d x f),λy g e=>?_]
 ·split at b
  ·assumption
  ·exact Zf b
 ·have:=List.all_eq_true.mp k y g;rw[e]at this;exact Zf this
noncomputable def Bd(x q st)(d:L _):=∀(kV a g f c e b),b.length=d.length->bindArgs (PySem.W.fnOf x q (defArgs st) (defBody st) (defScope st) .none kV a g f c e) #[b,[]]=pure (d.zip b)
noncomputable def V8(T d kF):=cG (QV (d.ps++d.lo) d.ps (defScope d.st)) (cQ (rc 30) 30 (gm T d kF) (defBody d.st))
structure TOk (P w K mg base n) (T:Tb) where
 gs:∀p∈T.gs,qt P w K mg base T.C (·<=n) K p.1 p.2
 ms:∀p∈T.ms,QR P w K mg base T.C (·<=n) K p.1 p.2
 cl:Cls K T.C
 fl:∀f∈T.fl,yh K T.C f
 xt:XTok K mg T.xt
 xp:∀x∈T.xt.xp,∃C,W.nsIn K mainGlobals x=S (S (.ref C))/\W.excIn K C kW "ValueError.__new__" = B
 xq:∀x fs,T.xt.xq.lookup x=S fs->GT P w K mg base (·<=n) x fs
 hcl:Cls K T.hC
 hfl:∀f,f∈T.hfl\/f∈T.hls->yh K T.hC f
 hm:∀p∈T.hm,JS P w K mg base T.hC (·<=n) K p.1 p.2
 ss:∀p∈T.ss,mQ P w K mg base K p.1 p.2
section
variable{P:Program}{w:World}{K:Fr}{mg:Tj}{base:Heap}{f C:Addr}{fd:FuncData}{n:Nat}{T:Tb}{d:De}{g:GI}{x:Str}
def TOk.mono(h:TOk P w K mg base n T)(l:n<=m):TOk P w K mg base m T:=
 #[λp a=>(h.gs p a).mono λ_ z=>wSa z l,λp a=>(h.ms p a).mono λ_ z=>wSa z l,h.cl,h.fl,h.xt,h.xp,(λx b e=>(h.xq x b e).mono λ_ z=>wSa z l),h.hcl,h.hfl,(λp a=>(h.hm p a).mono λ_ z=>wSa z l),h.ss]
set_option tactic.hygienic true in
theorem Y4{a:Type}{x:Str}{g:a}:∀{l:L _},l.lookup x=S g->(x,g)∈l
 |[],h=>Zn h
 |(y,b)::r,h=>by
  rw[List.lookup_cons]at h;split at h
  ·simp_all
  ·exact wMa _ (Y4 h)
def mS{c A outer s H E CX}(h:TOk P w K mg base n T)(a:FnScope (d.ps++d.lo) d.ps (defScope d.st))(b:Room n (A.deeper (envOfC d.q (defScope d.st) s.heap.objs.size f c))):
  OkX K (gm T d kF xm) (JL CX P w K mg base (d.ps++d.lo) d.q (defScope d.st) f c A outer s H E) where
 n:=rfl
 sc:=rfl
 nd:=a.nd
 calm:=λ_=>rfl
 k:=rfl
 room:=λ_=>b.mono (Nat.zero_le _)
 fn:=λ_ _=>rfl
 gs:=λx g e=>(h.gs _ (Y4 e)).mono λk z _=>b.mono z
 ms:=λx g e=>(h.ms _ (Y4 e)).mono λk z _=>b.mono z
 cl:=h.cl
 fl:=λf e=>h.fl f (List.contains_iff_mem.mp e)
 xt:=h.xt
 hcl:=h.hcl
 hfl:=λf e=>h.hfl f (e.imp List.contains_iff_mem.mp List.contains_iff_mem.mp)
 hm:=λx g e=>(h.hm _ (Y4 e)).mono λk z _=>b.mono z
 xq:=λx i e=>(h.xq x i e).mono λk z _=>b.mono z
 sf:=λz=>nomatch z
 ss:=λx F e=>h.ss _ (Y4 e)
noncomputable def yF(T d):=cG (QV (d.ps++d.lo) d.ps (defScope d.st)) (cQ (rc 30) 30 (gm T d G B) (defBody d.st))
def KN{e A a s H E}(h:TOk P w K mg base n T)(c:V8 T d kF=S b)(k:Room n (A.deeper (envOfC d.q (defScope d.st) s.heap.objs.size f e))):
  Jb (JL yG P w K mg base (d.ps++d.lo) d.q (defScope d.st) f e A a s H E).nox (defBody d.st) (tS K (λ_ _=>False) b):=by
 obtain⟨i,j⟩:=jb c;exact Wf (Gn 30) 30 #[(mS (kF:=kF) (xm:=G) h (z_ i) k).nox,PassesOwn.never,rfl,rfl,λz=>nomatch z] j
def qF{m A outer s H E}(h:TOk P w K mg base n T)(c:yF T d=S b)(N:Room n (A.deeper (envOfC d.q (defScope d.st) s.heap.objs.size f m))):
  Jb (JL (y8 P w) P w K mg base (d.ps++d.lo) d.q (defScope d.st) f m A outer s H E) (defBody d.st) (tS K (PX K E) b):=by
 obtain⟨R,c2⟩:=jb c;have F:=mS (kF:=G) (xm:=B) (E:=E) (outer:=outer) (H:=H) (CX:=y8 P w) h (z_ R) N;refine Wf (Gn 30) 30 #[F,PassesOwn.leaving,rfl,rfl,λ_=>#[E,rfl,FT,λx u v X e r cp z j=>?_,λx UQ u v X e r a es l ha M=>?_]] c2
 ·obtain⟨C,i,p⟩:=h.xp x u;obtain⟨t,o⟩:=zZ F v;rw[kG i];exact bZ i p PySem.F.excBase_ValueError t o
 ·obtain⟨C,fi,fd',ps,k,i,p,kp,Z,O,W,I,hb,hk⟩:=h.xq x UQ u;obtain⟨t,o⟩:=zZ F v;rw[kG i];exact aZ i p PySem.F.excBase_ValueError kp Z O W I hb (N.mono hk) t o ha (jJ (M _ wNa)) (Y3 λy Q=>M y (wMa _ Q))
def ur(h:TOk P w K mg base n T)(F:Fun K d.x d.q d.st f fd)(c:yF T d=S d.b)(e:d.ks.length=d.ps.length):FnOk P w K mg base (y8 P w) (n+1) f fd d.ps (wv K d.ks (V4 d.ks d.lo.length d.b)):=
 L3 F (z_ (jb c).1) e (by simp) λi A a s H E b=>qF h c b
def QW(h:TOk P w K mg base n T)(F:Fun K d.x d.q d.st f fd)(c:V8 T d G=S d.b)(e:d.ks.length=d.ps.length):FnOk P w K mg base yG (n+1) f fd d.ps (vY K d.ks (J1 d.ks d.lo.length d.b)):=
 MJ F (z_ (jb c).1) e (by simp) λi A a s H E b=>KN h c b
def mU(h:TOk P w K mg base n T)(F:Fun K d.x d.q d.st f fd)(c:V8 T d B=S d.b)(e:d.ks.length=d.ps.length):FnOk P w K mg base yG (n+1) f fd d.ps (QG K d.ks (V0 d.ks d.lo.length d.b)):=
 MK F (z_ (jb c).1) e (by simp) λi A a s H E b=>KN h c b
def Nj(h:TOk P w K mg base n T)(F:Fun K d.x d.q d.st f fd)(c:V8 T d G=S d.b)(e:d.ks.length+1=d.ps.length):FnOk P w K mg base yG (n+1) f fd d.ps (Cf K C d.ks (aU C d.ks d.lo.length d.b)):=
 ML F (z_ (jb c).1) e (by simp) λi A a s H E b=>KN h c b
noncomputable def At(K:Fr)(x q st):=∃f fd,W.nsIn K mainGlobals x=S (S (.ref f))/\Fun K x q st f fd
noncomputable def qG(K:Fr)(C x q st):=∃f fd,W.findIn K (.ref C) x=S (S (.ref f))/\W.isFn K (.ref f)=B/\Fun K x q st f fd
def Lw{st}(a:W.nsIn K mainGlobals x=S (S (.ref f)))(F:Fun K x q st f fd):At K x q st:=#[f,fd,a,F]
def iJ{st}(a:W.findIn K (.ref C) x=S (S (.ref f)))(i:W.isFn K (.ref f)=B)(F:Fun K x q st f fd):qG K C x q st:=#[f,fd,a,i,F]
noncomputable def G0(K:Fr)(x:Str):GI->Prop
 |.con i=>∃t,W.nsIn K mainGlobals x=S (S (.int i t))
 |.blt=>W.nsIn K mainGlobals x=S J
 |_=>False
def Lx(a:∀x v,W.nsIn K mainGlobals x=S (S v)->mg x=S v)(b:∀x,W.nsIn K mainGlobals x=S J->mg x=J)(h:G0 K x g):qt P w K mg base C c K x g:=by
 cases g with
 |con i=>obtain⟨t,h⟩:=h;exact#[t,a _ _ h]
 |blt=>exact b _ h
 |_=>exact h.elim
noncomputable def Tb.ag(T:Tb)(x:Str)(i):={T with gs:=(x,i)::T.gs}
noncomputable def Tb.am(T:Tb)(x:Str)(i):={T with ms:=(x,i)::T.ms}
def TOk.ag(h:TOk P w K mg base n T)(l:n<=m)(q:qt P w K mg base T.C (·<=m) K x g):TOk P w K mg base m (T.ag x g):=
 #[λp a=>by
  rcases uTa a with rfl|a
  ·exact q
  ·exact(h.mono l).gs p a,(h.mono l).ms,h.cl,h.fl,h.xt,h.xp,(h.mono l).xq,h.hcl,h.hfl,(h.mono l).hm,h.ss]
def TOk.am(h:TOk P w K mg base n T)(l:n<=m)(q:QR P w K mg base T.C (·<=m) K x g):TOk P w K mg base m (T.am x g):=
 #[(h.mono l).gs,λp a=>by
  rcases uTa a with rfl|a
  ·exact q
  ·exact(h.mono l).ms p a,h.cl,h.fl,h.xt,h.xp,(h.mono l).xq,h.hcl,h.hfl,(h.mono l).hm,h.ss]
noncomputable def Tb.ah(T:Tb)(x:Str)(i):={T with hm:=(x,i)::T.hm}
def TOk.ah(h:TOk P w K mg base n T)(l:n<=m)(q:JS P w K mg base T.hC (·<=m) K x g):TOk P w K mg base m (T.ah x g):=
 #[(h.mono l).gs,(h.mono l).ms,h.cl,h.fl,h.xt,h.xp,(h.mono l).xq,h.hcl,h.hfl,(λp a=>by
  rcases uTa a with rfl|a
  ·exact q
  ·exact(h.mono l).hm p a),h.ss]
noncomputable def De.E(d:De)(n:Nat):GI:=.fE (n+1) d.ps d.ks (J1 d.ks d.lo.length d.b)
noncomputable def De.F(d:De)(n:Nat):GI:=.fF (n+1) d.ps d.ks (V0 d.ks d.lo.length d.b)
noncomputable def De.X(d:De)(n:Nat):GI:=.fX (n+1) d.ps d.ks (V4 d.ks d.lo.length d.b)
structure Ck (T d kF) where
 c:V8 T d kF=S d.b
 k:(d.ks.length==d.ps.length)=B
 b:Bd d.x d.q d.st d.ps
variable(XG:∀x v,W.nsIn K mainGlobals x=S (S v)->mg x=S v)
include XG
theorem TOk.E(h:TOk P w K mg base n T)(a:At K d.x d.q d.st)(c:Ck T d G):TOk P w K mg base (n+2) (T.ag d.x (d.E n)):=by
 obtain⟨f,fd,b,F⟩:=a;exact h.ag (vKa _ _) #[#[f,fd,QW h F c.c (vLa c.k),F.binds c.b,F.kp,XG _ _ b],vMa _]
theorem TOk.F(h:TOk P w K mg base n T)(a:At K d.x d.q d.st)(c:Ck T d B):TOk P w K mg base (n+2) (T.ag d.x (d.F n)):=by
 obtain⟨f,fd,b,F⟩:=a;exact h.ag (vKa _ _) #[#[f,fd,mU h F c.c (vLa c.k),F.binds c.b,F.kp,XG _ _ b],vMa _]
theorem TOk.X(h:TOk P w K mg base n T)(a:At K d.x d.q d.st)(c:yF T d=S d.b)(k:(d.ks.length==d.ps.length)=B)(b:Bd d.x d.q d.st d.ps):TOk P w K mg base (n+2) (T.ag d.x (d.X n)):=by
 obtain⟨f,fd,e,F⟩:=a;exact h.ag (vKa _ _) #[#[f,fd,ur h F c (vLa k),F.binds b,F.kp,XG _ _ e],vMa _]
omit XG in
theorem TOk.mE(h:TOk P w K mg base n T)(a:qG K T.C d.x d.q d.st)(c:Ck T d G)(k:d.ks=[G]):TOk P w K mg base (n+2) (T.am d.x (d.E n)):=by
 obtain⟨f,fd,b,e,F⟩:=a;exact h.am (vKa _ _) #[#[f,fd,k▸QW h F c.c (vLa c.k),F.binds c.b,#[b,e,F.kp]],vMa _]
omit XG in
theorem TOk.mF(h:TOk P w K mg base n T)(a:qG K T.C d.x d.q d.st)(c:Ck T d B)(k:d.ks=[G]):TOk P w K mg base (n+2) (T.am d.x (d.F n)):=by
 obtain⟨f,fd,b,e,F⟩:=a;exact h.am (vKa _ _) #[#[f,fd,k▸mU h F c.c (vLa c.k),F.binds c.b,#[b,e,F.kp]],vMa _]
theorem TOk.I(h:TOk P w K mg base n T)(a:qG K T.C d.x d.q d.st)(r:d.x ="__init__")(c:V8 T d G=S d.b)(k:(d.ks.length+1==d.ps.length)=B)(b:Bd d.x d.q d.st d.ps)(l:W.makesIn K T.C=B)(j:W.keepIn K (.ref T.C)=B)
  (m:W.nsIn K mainGlobals x=S (S (.ref T.C))) (t:∀p ds o,e ds=S o->aU T.C d.ks d.lo.length d.b p ds=S o):TOk P w K mg base (n+2) (T.ag x (.mk (n+1) d.ps d.ks (aU T.C d.ks d.lo.length d.b) e)):=by
 obtain⟨f,fd,i,s,F⟩:=a;refine h.ag (vKa _ _) #[#[f,fd,Nj h F c (vLa k),F.binds b,#[l,?_,s,j],XG _ _ m],t,wPa _];rw[r]at i;exact i
theorem TOk.R(h:TOk P w K mg base n T)(a:At K d.x d.q d.st)(F:Nat->L D->Y D)(e:(L D->Y D)->DS.DS)(m)(M:∀t,F 0 t=J)(N:∀m,F (m+1)=J1 d.ks d.lo.length (e (F m)))
  (c:∀m,V8 (T.ag d.x (.fE (n+m) d.ps d.ks (F m))) d G=S (e (F m))) (k:(d.ks.length==d.ps.length)=B) (b:Bd d.x d.q d.st d.ps):TOk P w K mg base (n+m) (T.ag d.x (.fE (n+m) d.ps d.ks (F m))):=by
 obtain⟨f,fd,p,j⟩:=a;have l:∀m,FnOk P w K mg base yG (n+m) f fd d.ps (vY K d.ks (F m)):=by
  intro m;induction m with
  |zero=>
   have r:∀i H Q E,¬vY K d.ks (F 0) i H Q E:=λi H Q E h=>by
    obtain⟨O,t,d,_,_,u,_⟩:=h;rw[M]at u;exact Zn u
   exact#[λi H Q E h=>vDa h (r i H Q E),λA o s H y R i Q E _ _ _ _ h=>vDa h (r i H Q E)]
  |succ m z=>
   have I:TOk P w K mg _ _ (T.ag _ (.fE _ _ _ _)):=h.ag (vKa _ _) #[#[f,fd,z,j.binds b,j.kp,XG _ _ p],wPa _];rw[N];exact QW (d:={d with b:=e _}) I j (c m) (vLa k)
 exact h.ag (vKa _ _) #[#[f,fd,l m,j.binds b,j.kp,XG _ _ p],wPa _]
end
noncomputable def sN(s:Stmt):=match s with
 |.FunctionDef n _ _ _ _ _ _ _ _ _=>n
 |.ClassDef n _ _ _ _ _ _ _ _ _ _=>n
 |_=>""
noncomputable def zj(st):=(defArgs st).args.map (·.arg)
noncomputable def MZ(st):=((defScope st).names.filter λy=>qp (defScope st) y.1&&!(zj st).contains y.1).map (·.1)
noncomputable def gj(st:Stmt):=(defArgs st).posonlyargs.isEmpty&&(defArgs st).kwonlyargs.isEmpty&&(defArgs st).vararg.isNone&&(defArgs st).kwarg.isNone&&GS (zj st)
theorem AB:∀(l:L Str) (c:L Value) (a),c.length=l.length->l.Nodup->(∀n∈l,a.lookup n=J)->(l.filterMap λn=>((a++l.zip c).lookup n).map (n,·))=l.zip c/\(∀n∈l,((a++l.zip c).lookup n).isNone=G)
 |[],c,a,_,_,_=>by simp
 |n::l,[],a,h,_,_=>by cases h
 |n::l,u::c,a,h,g,f=>by
  obtain⟨i,o⟩:=List.nodup_cons.mp g;have e:a++(n::l).zip (u::c)=(a++[(n,u)])++l.zip c:=by simp
  have q:((a++[(n,u)])++l.zip c).lookup n=S u:=by
   rw[List.lookup_append,List.lookup_append,f n List.mem_cons_self];simp
  obtain⟨j,k⟩:=AB l c (a++[(n,u)]) (by simpa using h) o λm d=>by
   rw[List.lookup_append,f m (List.mem_cons_of_mem _ d)];have:m≠n:=λz=>i (z▸d);have b:=beq_eq_false_iff_ne.mpr this;simp[List.lookup_cons,b]
  rw[e];refine#[by rw[List.filterMap_cons,q,j];rfl,λm d=>?_];rcases uTa d with rfl|d
  ·rw[q];rfl
  ·exact k m d
def yL{st}(h:gj st=B):Bd x q st (zj st):=by
 intro kV s z F u w g a;unfold gj at h;unfold zj at *;obtain⟨h,i⟩:=j9 h;obtain⟨h,e⟩:=j9 h;obtain⟨h,f⟩:=j9 h;obtain⟨b,c⟩:=j9 h;generalize y:defArgs st=A at *;obtain⟨I,t,m,v,H,p,C⟩:=A;dsimp only at b c f e i a⊢;rw[List.isEmpty_iff]at b c;cases m with
 |some _=>exact Zf f
 |none=>?_
 cases p with
 |some _=>exact Zf e
 |none=>?_
 subst b c;obtain⟨d,j⟩:=AB _ g [] a (Gk i) λ_ _=>rfl;rw[List.nil_append]at d j;unfold bindArgs W.fnOf;have o:seqItems? .none=pure _:=rfl;simp only[List.forIn_nil,pure_bind,o,Bool.and_true];generalize t.map _=l at *;have k:l.filter (λn=>((l.zip g).lookup n).isNone)=[]:=by
  rw[List.filter_eq_nil_iff];intro n r;rw[j n r]
  decide
 simp[k,d,a]
structure Df where
 st:Stmt
 q:Str
 f:Addr
 m:Bool
 kF:Bool
 ks:L Bool
 b:DS.DS
 hs:L ((Nat×Nat×Nat)×L Nat):=[]
 sh:L (Nat×Nat):=[]
 ow:L Nat:=[]
 xm:=G
noncomputable def Df.de(d:Df):De:=#[sN d.st,d.q,d.st,zj d.st,MZ d.st,d.ks,d.b,d.hs,d.sh,d.ow]
noncomputable def Tb.add(T:Tb)(n:Nat)(d:Df):=cond d.xm (T.ag (sN d.st) (d.de.X n)) <|cond d.m (T.am (sN d.st) (cond d.kF (d.de.F n) (d.de.E n))) (T.ag (sN d.st) (cond d.kF (d.de.F n) (d.de.E n)))
noncomputable def Tb.adds:Tb->Nat->L Df->Tb
 |T,_,[]=>T
 |T,n,d::l=>(T.add n d).adds (n+2) l
noncomputable def Tb.chks:Tb->Nat->L Df->L (Y DS.DS×Bool)
 |_,_,[]=>[]
 |T,n,d::l=>(cond d.xm (yF T d.de) (V8 T d.de d.kF),gj d.st&&(d.ks.length==(zj d.st).length&&((!d.m||d.ks==[G])&&!(d.m&&d.xm))))::(T.add n d).chks (n+2) l
noncomputable def u_(l:L Df):=l.map λd=>(S d.b,B)
noncomputable def Nk(o:Y Obj):=match o with
 |S ⟨_,_,.func a,_⟩=>a.pyModule
 |_=>.none
noncomputable def JR(K:Fr)(C)(d:Df):=(cond d.m (W.findIn K (.ref C) (sN d.st)) (W.nsIn K mainGlobals (sN d.st)),K.lookup d.f,W.codeIn K (.ref (d.f-1)) d.q&&(W.keepIn K (.ref d.f)&&W.isFn K (.ref d.f)))
noncomputable def JZ(K:Fr)(d:Df):Y (Y Value)×Y Obj×Bool:=(S (S (.ref d.f)),S #[.type "function",J,.func (W.fnOf (sN d.st) d.q (defArgs d.st) (defBody d.st) (defScope d.st) .none .none .none (Nk (K.lookup d.f)) J (.ref (d.f-1)) .none),#v[]],B)
section
variable{P:Program}{w:World}{K:Fr}{mg:Tj}{base:Heap}{C:Addr}{d:Df}
def vz(h:JR K C d=JZ K d)(m:d.m=G):At K (sN d.st) d.q d.st:=by
 have b:=congrArg (·.1) h;have c:=congrArg (·.2.1) h;have a:=congrArg (·.2.2) h;dsimp only[JR]at b c a;rw[m]at b;obtain⟨a,e⟩:=j9 a;exact Lw b (aH c a (j9 e).1)
def V9(h:JR K C d=JZ K d)(m:d.m=B):qG K C (sN d.st) d.q d.st:=by
 have b:=congrArg (·.1) h;have e:=congrArg (·.2.1) h;have a:=congrArg (·.2.2) h;dsimp only[JR]at b e a;rw[m]at b;obtain⟨a,c⟩:=j9 a;exact iJ b (j9 c).2 (aH e a (j9 c).1)
theorem TOk.adds(m:∀x v,W.nsIn K mainGlobals x=S (S v)->mg x=S v):∀(l) {n T},TOk P w K mg base n T->T.chks n l=u_ l->l.map (JR K T.C)=l.map (JZ K)->TOk P w K mg base (n+2*l.length) (T.adds n l)
 |[],n,T,h,_,_=>h
 |d::l,n,T,h,c,a=>by
  obtain⟨p,z⟩:=List.cons.inj c;obtain⟨k,t⟩:=List.cons.inj a;have b:=congrArg (·.1) p;obtain⟨j,i⟩:=j9 (congrArg (·.2) p);obtain⟨i,g⟩:=j9 i;obtain⟨g,s⟩:=j9 g;dsimp only at b;have e:n+2*(d::l).length=n+2+2*l.length:=by rw[vXa];lia
  have u:TOk P w K mg base (n+2) (T.add n d):=by
   unfold Tb.add;cases r:d.xm
   case true=>
    rw[r]at b s;have f:d.m=G:=by lia
    exact TOk.X m h (vz k f) b i (yL j)
   rw[r]at b;cases f:d.m
   ·cases o:d.kF<;>rw[o]at b
    ·exact TOk.E m h (vz k f) #[b,i,yL j]
    ·exact TOk.F m h (vz k f) #[b,i,yL j]
   ·rw[f]at g;have g:d.ks=[G]:=by simpa using g
    cases o:d.kF<;>rw[o]at b
    ·exact TOk.mE h (V9 k f) #[b,i,yL j] g
    ·exact TOk.mF h (V9 k f) #[b,i,yL j] g
  have y:(T.add n d).C=T.C:=by unfold Tb.add;cases d.xm<;>cases d.m<;>rfl
  rw[e];exact TOk.adds m l u z (by rw[y];exact t)
noncomputable def CU(o:Y (Y Value)):=match o with
 |S (S (.int i _))=>S (S i)
 |S none=>S J
 |_=>J
noncomputable def CV(g:GI):=match g with
 |.con i=>S (S i)
 |.blt=>S J
 |_=>J
theorem yl:∀{l:L c},l.map f=l.map g->∀x∈l,f x=g x
 |[],_,_,h=>by cases h
 |a::l,e,x,h=>by
  obtain⟨b,i⟩:=List.cons.inj e;rcases uTa h with rfl|h
  ·exact b
  ·simp_all
def Ly{b:L (Str×GI)}(h:b.map (λp=>(CU (W.nsIn K mainGlobals p.1),(CV p.2).isSome))=b.map λp=>(CV p.2,B)):∀p∈b,G0 K p.1 p.2:=λp f=>by
 have e:=yl h p f;have a:=congrArg (·.1) e;have c:=congrArg (·.2) e;obtain⟨x,g⟩:=p;dsimp only at a c⊢;cases g with
 |con i=>
  unfold CU at a;split at a
  ·cases a;exact#[_,by assumption]
  ·cases a
  ·exact Zn a
 |blt=>
  unfold CU at a;split at a
  ·cases a
  ·assumption
  ·exact Zn a
 |_=>exact Zf c
noncomputable def iK(K:Fr)(x):=(W.nsIn K mainGlobals x,W.findIn K (.ref (jz K x)) "__getattribute__",W.findIn K (.ref (jz K x)) "__getattr__",W.findIn K (.ref (jz K x)) "__class__",W.specialIn K (.builtin "object.__class__") "__get__",W.takesIn K (.builtin "object.__class__"),W.mroIn K (jz K x) (.type "object"),W.subIn K (.ref (jz K x)) (.type "BaseException"),W.isClsIn K (jz K x))
noncomputable def iL(K:Fr)(x:Str):Y (Y Value)×Y (Y Value)×Y (Y Value)×Y (Y Value)×Y (Y Value)×Y Bool×Y Bool×Y Bool×Bool:=(S (S (.ref (jz K x))),S (S (.builtin "BaseException.__getattribute__")),S J,S (S (.builtin "object.__class__")),S (S (.builtin "getset_descriptor.__get__")),S B,S B,S B,B)
noncomputable def iM(K:Fr)(p:Str×Str):=(W.findIn K (.ref (jz K p.1)) "__getattribute__",W.findIn K (.ref (jz K p.1)) "__getattr__",zO K (jz K p.1),W.hasDictIn K (jz K p.1),W.findIn K (.ref (jz K p.1)) p.2)
noncomputable def wB(K:Fr)(x f):=(W.findIn K (.ref (jz K x)) "__setattr__",zO K (jz K x),W.takerIn K (jz K x) f,W.hasDictIn K (jz K x))
def Lz(l:∀x v,W.nsIn K mainGlobals x=S (S v)->mg x=S v)(F:T.ex.map (iK K)=T.ex.map (iL K))(I:(T.ex.map λx=>T.ex.map λy=>W.kitOne K (.ref (jz K x)) (.ref (jz K y)))=T.ex.map λx=>T.ex.map λy=>S (x==y))
  (t:T.ct.map (λh=>(W.nsIn K mainGlobals h.1,h.2.1.map (λx=>W.exmOne K (.ref (jz K x)) (.ref (jz K h.1))),h.2.2.map λx=>W.exmOne K (.ref (jz K x)) (.ref (jz K h.1))))=T.ct.map λh=>(S (S (.ref (jz K h.1))),h.2.1.map (λ_=>S B),h.2.2.map λ_=>S G))
  (u:T.xf.map (iM K)=T.xf.map λ_=>(S (S (.builtin "BaseException.__getattribute__")),S J,B,B,S J))
  (M:T.ve=B->T.ex.map (λx=>W.kitOne K (.ref (jz K x)) (.type "ValueError"))=T.ex.map λ_=>S B) (r:T.c3.map (λp=>(p.1.map λx=>W.nsIn K mainGlobals x,p.2.map λc=>W.exmAny K (.ref (jz K c)) (p.1.map λx=>Value.ref (jz K x))))=T.c3.map λp=>(p.1.map λx=>S (S (.ref (jz K x))),p.2.map λ_=>S B)):XTok K mg T where
 v:=λz x a=>yl (M z) x a
 c3:=λp i=>by
  have e:=yl r p i;simp only[Prod.mk.injEq]at e;exact#[λx a=>l _ _ (yl e.1 x a),λc hc=>yl e.2 c hc]
 e:=λx a=>by
  have e:=yl F x a;unfold iK iL at e;simp only[Prod.mk.injEq]at e;obtain⟨b,f,g,k,j,n,H,s,A⟩:=e;exact#[_,b,l _ _ b,f,g,k,j,n,H,s,A]
 k:=λx a y o=>yl (yl I x a) y o
 c:=λh m=>by
  have e:=yl t h m;simp only[Prod.mk.injEq]at e;obtain⟨b,f,g⟩:=e;exact#[l _ _ b,λx a=>yl f x a,λx a=>yl g x a]
 f:=λp i=>by
  have e:=yl u p i;unfold iM at e;simp only[Prod.mk.injEq]at e;obtain⟨b,f,g,k,j⟩:=e;exact#[b,f,g,k,j]
def LA{l:L _}(h:l.map (λx=>(W.nsIn K mainGlobals x,W.excIn K (jz K x) kW "ValueError.__new__"))=l.map λx=>(S (S (.ref (jz K x))),B)):∀x∈l,∃C,W.nsIn K mainGlobals x=S (S (.ref C))/\W.excIn K C kW "ValueError.__new__" = B:=λx a=>by
 have e:=yl h x a;simp only[Prod.mk.injEq]at e;exact#[_,e.1,e.2]
def qH(h:wB K x f=(S (S (.builtin "object.__setattr__")),B,S J,B)):ExS K (jz K x) f:=by
 unfold wB at h;simp only[Prod.mk.injEq]at h;exact#[h.1,h.2.1,h.2.2.1,h.2.2.2]
def iP{st k e h g i j A R X Q n r UQ N}(ns:W.nsIn K mainGlobals x=S (S (.ref (jz K x))))(l:V3 K (jz K x) kW "ValueError.__new__" k=B)(o:W.keepIn K (.ref (jz K x))=B)(hf:W.findIn K (.ref (jz K x)) "__init__" = S (S (.ref k)))
  (a:qG K (jz K x) "__init__" q st) (T:wB K x i=(S (S (.builtin "object.__setattr__")),B,S J,B)) (H:wB K x j=(S (S (.builtin "object.__setattr__")),B,S J,B)) (hn:(i==j)=G) (t:defBody st=[.Assign [.Attribute (.Name e A) i R] (.Name h X) Q,.Assign [.Attribute (.Name e n) j r] (.Name g UQ) N]) (c:QV ([e,h,g]++[]) [e,h,g] (defScope st)=B)
  (v:(uX (defScope st) e&&uX (defScope st) h&&uX (defScope st) g)=B) (d:([e,h,g].all λy=>!(y==("__debug__"))&&!(y==("__classdict__")))=B) (b:Bd "__init__" q st [e,h,g]):GT P w K mg base (·<=2) x [i,j]:=by
 obtain⟨f,fd,m,e2,F⟩:=a;rw[hf]at m;cases m;have I:=z_ c;obtain⟨v,v2⟩:=j9 v;obtain⟨p,s⟩:=j9 v;simp only[List.all_cons,List.all_nil,Bool.and_true,Bool.and_eq_true,Bool.not_eq_true']at d;obtain⟨⟨M,O⟩,⟨d1,Z⟩,⟨d2,u⟩⟩:=d;exact#[_,k,fd,_,1,ns,l,o,beq_iff_eq.mp e2,l_ F I t (qH T) (qH H) (λz=>by lia) (uo p) (uo s) (uo v2) M d1 d2 O Z u,(show 2<=1000 by decide),rfl,F.binds b,wPa _]
end
section
variable{P:Program}{w:World}{K:uXa}{mg:Tj}{base:Heap}
def iQ{st h e g j p r A u}(N:W.nsIn K mainGlobals x=S (S (.ref (jz K x))))(i:V3 K (jz K x) kW "ValueError.__new__" h=B)(s:W.keepIn K (.ref (jz K x))=B)(H:W.findIn K (.ref (jz K x)) "__init__" = S (S (.ref h)))
  (a:qG K (jz K x) "__init__" q st) (z:wB K x j=(S (S (.builtin "object.__setattr__")),B,S J,B)) (o:defBody st=[.Assign [.Attribute (.Name e p) j r] (.Name g A) u]) (c:QV ([e,g]++[]) [e,g] (defScope st)=B)
  (v:(uX (defScope st) e&&uX (defScope st) g)=B) (d:([e,g].all λy=>!(y==("__debug__"))&&!(y==("__classdict__")))=B) (b:Bd "__init__" q st [e,g]):GT P w K mg base (·<=2) x [j]:=by
 obtain⟨f,O,k,I,F⟩:=a;rw[H]at k;cases k;have m:=z_ c;obtain⟨l,n⟩:=j9 v;simp only[List.all_cons,List.all_nil,Bool.and_true,Bool.and_eq_true,Bool.not_eq_true']at d;obtain⟨⟨t,C⟩,⟨d1,M⟩⟩:=d;exact#[_,h,O,_,1,N,i,s,beq_iff_eq.mp I,L0 F m o (qH z) (uo l) (uo n) t d1 C M,(show 1<=1000 by decide),rfl,F.binds b,wPa _]
end
def U0{a:Type}{o}{d:a}(h:o.isSome=B):o=S (o.getD d):=by
 cases o with
 |none=>exact Zf h
 |some x=>rfl
section
variable{P:Program}{w:World}{K:Fr}{mg:Tj}{base:Heap}{n:Nat}{T:Tb}{d:De}{f:Addr}{fd:FuncData}{x:Str}
def VH{b}(h:TOk P w K mg base n T)(F:Fun K d.x d.q d.st f fd)(c:yF T d=S b)(i:e.length+1=d.ps.length):FnOk P w K mg base (y8 P w) (n+1) f fd d.ps (VG K e (zX e d.lo.length b)):=
 La F (z_ (jb c).1) i (by simp) λj A a s H E g=>qF h c g
structure Dh where
 d:Df
 k:Bool
noncomputable def Dh.gi(T:Tb)(n:Nat)(d:Dh):GI:=cond d.k (.fH (n+1) d.d.de.ps d.d.ks (zX d.d.ks d.d.de.lo.length ((yF T d.d.de).getD Ja))) (.fX (n+1) d.d.de.ps d.d.ks.tail (V4 d.d.ks d.d.de.lo.length ((yF T d.d.de).getD Ja)))
noncomputable def Tb.addsH:Tb->Nat->L Dh->Tb
 |T,_,[]=>T
 |T,n,d::l=>(T.ah (sN d.d.st) (d.gi T n)).addsH (n+2) l
noncomputable def Tb.chkH:Tb->Nat->L Dh->L Bool
 |_,_,[]=>[]
 |T,n,d::l=>((yF T d.d.de).isSome&&(gj d.d.st&&(d.d.m&&cond d.k (d.d.ks.length+1==(zj d.d.st).length) (d.d.ks.length==(zj d.d.st).length&&d.d.ks==G::d.d.ks.tail))))::(T.ah (sN d.d.st) (d.gi T n)).chkH (n+2) l
theorem TOk.addsH:∀(l) {n T},TOk P w K mg base n T->T.chkH n l=l.map (λ_=>B)->l.map (λd=>JR K T.hC d.d)=l.map (λd=>JZ K d.d)->TOk P w K mg base (n+2*l.length) (T.addsH n l)
 |[],n,T,h,_,_=>h
 |d::l,n,T,h,c,a=>by
  obtain⟨r,y⟩:=List.cons.inj c;obtain⟨v,t⟩:=List.cons.inj a;obtain⟨i,g⟩:=j9 r;obtain⟨g,j⟩:=j9 g;obtain⟨j,b⟩:=j9 j;have e:n+2*(d::l).length=n+2+2*l.length:=by rw[vXa];lia
  have i:=U0 (d:=Ja) i;obtain⟨f,fd,k,m,F⟩:=V9 v j;have p:TOk P w K mg base (n+2) (T.ah (sN d.d.st) (d.gi T n)):=by
   refine h.ah (vKa _ _) ?_;unfold Dh.gi;cases o:d.k
   ·rw[o]at b;obtain⟨b,s⟩:=j9 b;have u:=vLa s;refine#[#[f,fd,?_,F.binds (yL g),#[k,m,F.kp]],vMa _];rw[<-u];exact ur (d:={d.d.de with b:=(yF T d.d.de).getD Ja}) h F i (vLa b)
   ·rw[o]at b;exact#[#[f,fd,VH h F i (vLa b),F.binds (yL g),#[k,m,F.kp]],vMa _]
  rw[e];exact TOk.addsH l p y t
variable(XG:∀x v,W.nsIn K mainGlobals x=S (S v)->mg x=S v)
include XG
theorem TOk.hI{d g}(h:TOk P w K mg base n T)(o:TOk P w K mg base n i)(a:JR K C d=JZ K d)(k:sN d.st ="__init__")(c:((yF i d.de).isSome&&(gj d.st&&(d.m&&(g.length+1==(zj d.st).length))))=B)(r:W.makesIn K C=B)(m:W.keepIn K (.ref C)=B)(p:W.nsIn K mainGlobals x=S (S (.ref C))):
  TOk P w K mg base (n+2) (T.ah x (.mH (n+1) d.de.ps g C (zX g d.de.lo.length ((yF i d.de).getD Ja)))):=by
 obtain⟨s,b⟩:=j9 c;obtain⟨b,e⟩:=j9 b;obtain⟨e,t⟩:=j9 e;obtain⟨f,fd,j,l,F⟩:=V9 a e;refine h.ah (vKa _ _) #[#[f,fd,VH o F (U0 s) (vLa t),F.binds (yL b),#[r,?_,l,m],XG _ _ p],wPa _];rw[k]at j;exact j
theorem TOk.R2{d1 d2}(h:TOk P w K mg base n T)(a1:At K d1.x d1.q d1.st)(a2:At K d2.x d2.q d2.st)(c g:Nat->L D->Y D)(l t:(L D->Y D)->DS.DS)(m)(Z:∀F,c 0 F=J)(FS:∀m,c (m+1)=J1 d1.ks d1.lo.length (l (g m)))(a:∀m,g m=J1 d2.ks d2.lo.length (t (c m)))
  (X:∀m,V8 (T.ag d1.x (.fE (n+2*m) d1.ps d1.ks (c m))) d2 G=S (t (c m))) (c1:∀m,V8 (T.ag d2.x (.fE (n+2*m+1) d2.ps d2.ks (g m))) d1 G=S (l (g m)))
  (k1:(d1.ks.length==d1.ps.length)=B) (N:Bd d1.x d1.q d1.st d1.ps) (k2:(d2.ks.length==d2.ps.length)=B) (R:Bd d2.x d2.q d2.st d2.ps):TOk P w K mg base (n+2*m) (T.ag d1.x (.fE (n+2*m) d1.ps d1.ks (c m))):=by
 obtain⟨r,e,C,b⟩:=a1;obtain⟨z,k,e2,i⟩:=a2;have p:∀m,FnOk P w K mg base yG (n+2*m) r e d1.ps (vY K d1.ks (c m)):=by
  intro m;induction m with
  |zero=>
   have M:∀j H Q E,¬vY K d1.ks (c 0) j H Q E:=λj H Q E h=>by
    obtain⟨O,F,d,_,_,I,_⟩:=h;rw[Z]at I;exact Zn I
   exact#[λj H Q E h=>vDa h (M j H Q E),λA u s H y us j Q E _ _ _ _ h=>vDa h (M j H Q E)]
  |succ m ih=>
   have UQ:TOk P w K mg base _ (T.ag d1.x (.fE _ d1.ps d1.ks (c m))):=h.ag (vKa _ _) #[#[r,e,ih,b.binds N,b.kp,XG _ _ C],wPa _];have o:FnOk P w K mg base yG (n+2*m+1) z k d2.ps (vY K d2.ks (g m)):=by
    rw[a];exact QW (d:={d2 with b:=t (c m)}) UQ i (X m) (vLa k2)
   have h2:TOk P w K mg base _ (T.ag d2.x (.fE _ d2.ps d2.ks (g m))):=h.ag (by lia) #[#[z,k,o,i.binds R,i.kp,XG _ _ e2],wPa _];rw[FS];exact QW (d:={d1 with b:=l (g m)}) h2 b (c1 m) (vLa k1)
 exact h.ag (vKa _ _) #[#[r,e,p m,b.binds N,b.kp,XG _ _ C],wPa _]
end
section
variable{P:Program}{w:World}{K:Fr}{mg:Tj}{base:Heap}{n:Nat}{T:Tb}{d:De}{f:Addr}{fd:FuncData}{x qual:Str}{st:Stmt}{N ps:L Str}{ks:L Bool}{body:DS.DS}{Px:Xp->Hp->Prop}
def LB(UQ:Fun K x qual st f fd)(b:FnScope N ps (defScope st))(hk:ks.length=ps.length)(hn:N.length-ps.length=n)
  (hb:∀(g A c s H),UY (VF P w K mg base N qual (defScope st) f g A c s H)->Jb (VF P w K mg base N qual (defScope st) f g A c s H) (defBody st) (tS K Px body)):
  FnS P w K mg base f fd ps (vY K ks (J1 ks n body)):=by
 obtain⟨oc,od,kV,R,pm,an,g,ct,W,rfl,lk,C⟩:=UQ.ex;refine Dq lk C b (λF H Q E h=>?_) λA c s H F Q X h=>?_
 ·obtain⟨O,Z,d,_,k,_⟩:=h;have:=k.len
  lia
 ·obtain⟨O,Z,d,I,k,e,q⟩:=h;refine#[_,hb g A c s H X,?_];obtain⟨r,e1,i⟩:=j1 e;have t:N.length-F.length=n:=by have:=k.len;lia
  unfold L2.YW;rw[t];refine#[H,_,_,O,r,Kt k I,e1,?_];cases r with
  |rt d'=>obtain rfl:=Zj i;exact λv j s r=>q v j s r
  |rf o=>
   obtain rfl:=Zj i;exact λl j s t M=>q _ j s ((M.same (λ_ z=>z) (JF λa h=>wMa _ h)).rep λu z=>by rw[jA (λy=>I l y t)];exact z)
  |nx m=>obtain rfl:=Zj i;exact λU' j O' R' _=>q _ j R'.keep rfl
  |bk m=>exact Zn i
  |ct m=>exact Zn i
  |xc p m=>exact Zn i
  |rh d m=>exact Zn i
noncomputable def qI(T d):=cG (QV (d.ps++d.lo) d.ps (defScope d.st)) (cQ (rc 30) 30 {gm T d G with cm:=G,sf:=B,ss:=[]} (defBody d.st))
def LC(h:TOk P w K mg base n T)(a:FnScope (d.ps++d.lo) d.ps (defScope d.st))(j:UY (VF P w K mg base (d.ps++d.lo) d.q (defScope d.st) f c A b s H)):
  OkX K {gm T d G with cm:=G,sf:=B,ss:=[]} (VF P w K mg base (d.ps++d.lo) d.q (defScope d.st) f c A b s H) where
 n:=rfl
 sc:=rfl
 nd:=a.nd
 calm:=λz=>nomatch z
 k:=rfl
 room:=λz=>nomatch z
 fn:=λ_ _=>rfl
 gs:=λx g e=>(h.gs _ (Y4 e)).mono λk z y=>nomatch y
 ms:=λx g e=>(h.ms _ (Y4 e)).mono λk z y=>nomatch y
 cl:=h.cl
 fl:=λf e=>h.fl f (List.contains_iff_mem.mp e)
 xt:=h.xt
 hcl:=h.hcl
 hfl:=λf e=>h.hfl f (e.imp List.contains_iff_mem.mp List.contains_iff_mem.mp)
 hm:=λx g e=>(h.hm _ (Y4 e)).mono λk z y=>nomatch y
 xq:=λx i e=>(h.xq x i e).mono λk z y=>nomatch y
 sf:=λ_=>j
 ss:=λx F z=>nomatch z
noncomputable def Tb.as(T:Tb)(x:Str)(F:L D->Y D):={T with ss:=(x,F)::T.ss}
def TOk.SQ(y:∀x v,W.nsIn K mainGlobals x=S (S v)->mg x=S v){d}(h:TOk P w K mg base n T)(a:JR K T.C d=JZ K d)(R:d.m=G)(c:((qI T d.de).isSome&&(gj d.st&&(d.ks.length==(zj d.st).length&&d.ks.length==1)))=B):
  TOk P w K mg base n (T.as (sN d.st) (J1 d.ks d.de.lo.length ((qI T d.de).getD Ja))):=by
 obtain⟨O,l⟩:=j9 c;obtain⟨l,k⟩:=j9 l;obtain⟨k,r⟩:=j9 k;obtain⟨f,fd,Q,F⟩:=vz a R;have e:=U0 (d:=Ja) O;obtain⟨m,C⟩:=jb e;refine#[h.gs,h.ms,h.cl,h.fl,h.xt,h.xp,h.xq,h.hcl,h.hfl,h.hm,λp i=>?_];rcases uTa i with rfl|i
 ·have g:=vLa r;obtain⟨b,I⟩:∃b,d.ks=[b]:=by
   cases o:d.ks with
   |nil=>rw[o]at g;cases g
   |cons b t=>
    cases t with
    |nil=>exact#[b,rfl]
    |cons _ _=>rw[o]at g;cases g
  refine#[f,fd,_,b,?_,F.binds (yL l),F.kp,y _ _ Q];have:=LB (Px:=λ_ _=>False) (n:=d.de.lo.length) F (z_ m) (vLa k) (by simp) λM A j s H u=>Wf (Gn 30) 30 #[LC h (z_ m) u,PassesOwn.never,rfl,rfl,λz=>nomatch z] C;rw[I]at this⊢;exact this
 ·exact h.ss p i
noncomputable def Df.gH(T:Tb)(n:Nat)(d:Df):GI:=.fH (n+1) d.de.ps d.ks (zX d.ks d.de.lo.length ((yF T d.de).getD Ja))
def TOk.G00(k:∀x v,W.nsIn K mainGlobals x=S (S v)->mg x=S v){d}(h:TOk P w K mg base n T)(a:JR K T.C d=JZ K d)(e:d.m=G)(c:((yF T d.de).isSome&&(gj d.st&&(d.ks.length+1==(zj d.st).length)))=B):TOk P w K mg base (n+2) (T.ag (sN d.st) (d.gH T n)):=by
 obtain⟨i,b⟩:=j9 c;obtain⟨b,g⟩:=j9 b;obtain⟨f,fd,j,F⟩:=vz a e;exact h.ag (vKa _ _) #[#[f,fd,VH h F (U0 i) (vLa g),F.binds (yL b),F.kp,k _ _ j],vMa _]
def TOk.GB(g:∀x v,W.nsIn K mainGlobals x=S (S v)->mg x=S v){d}(h:TOk P w K mg base n T)(a:JR K T.C d=JZ K d)(b:d.m=G)(c:yF T d.de=S d.b)(i:(gj d.st&&(d.ks.length+1==(zj d.st).length))=B):TOk P w K mg base (n+2) (T.ag (sN d.st) (.fH (n+1) d.de.ps d.ks (zX d.ks d.de.lo.length d.b))):=by
 have e:(yF T d.de).getD Ja=d.b:=by rw[c];rfl
 have z:=TOk.G00 g h a b (by rw[c];exact i);unfold Df.gH at z;rw[e]at z;exact z
def TOk.SB(g:∀x v,W.nsIn K mainGlobals x=S (S v)->mg x=S v){d}(h:TOk P w K mg base n T)(a:JR K T.C d=JZ K d)(b:d.m=G)(c:qI T d.de=S d.b)(i:(gj d.st&&(d.ks.length==(zj d.st).length&&d.ks.length==1))=B):
  TOk P w K mg base n (T.as (sN d.st) (J1 d.ks d.de.lo.length d.b)):=by
 have e:(qI T d.de).getD Ja=d.b:=by rw[c];rfl
 have z:=TOk.SQ g h a b (by rw[c];exact i);rw[e]at z;exact z
def TOk.hIB(i:∀x v,W.nsIn K mainGlobals x=S (S v)->mg x=S v){d ks}(h:TOk P w K mg base n T)(j:TOk P w K mg base n b)(a:JR K C d=JZ K d)(m:sN d.st ="__init__")(c:yF b d.de=S d.b)(g:(gj d.st&&(d.m&&(ks.length+1==(zj d.st).length)))=B)(k:W.makesIn K C=B)(o:W.keepIn K (.ref C)=B)(l:W.nsIn K mainGlobals x=S (S (.ref C))):
  TOk P w K mg base (n+2) (T.ah x (.mH (n+1) d.de.ps ks C (zX ks d.de.lo.length d.b))):=by
 have e:(yF b d.de).getD Ja=d.b:=by rw[c];rfl
 have z:=TOk.hI i h j a m (by rw[c];exact g) k o l;rw[e]at z;exact z
noncomputable def Dh.gb(n:Nat)(d:Dh):GI:=cond d.k (.fH (n+1) d.d.de.ps d.d.ks (zX d.d.ks d.d.de.lo.length d.d.b)) (.fX (n+1) d.d.de.ps d.d.ks.tail (V4 d.d.ks d.d.de.lo.length d.d.b))
noncomputable def Tb.addsB:Tb->Nat->L Dh->Tb
 |T,_,[]=>T
 |T,n,d::l=>(T.ah (sN d.d.st) (d.gb n)).addsB (n+2) l
noncomputable def Tb.chkB:Tb->Nat->L Dh->L (Y DS.DS×Bool)
 |_,_,[]=>[]
 |T,n,d::l=>(yF T d.d.de,gj d.d.st&&(d.d.m&&cond d.k (d.d.ks.length+1==(zj d.d.st).length) (d.d.ks.length==(zj d.d.st).length&&d.d.ks==G::d.d.ks.tail)))::(T.ah (sN d.d.st) (d.gb n)).chkB (n+2) l
noncomputable def qJ(l:L Dh):=l.map λd=>(S d.d.b,B)
theorem TOk.addsB:∀(l) {n T},TOk P w K mg base n T->T.chkB n l=qJ l->l.map (λd=>JR K T.hC d.d)=l.map (λd=>JZ K d.d)->TOk P w K mg base (n+2*l.length) (T.addsB n l)
 |[],n,T,h,_,_=>h
 |d::l,n,T,h,c,a=>by
  obtain⟨k,p⟩:=List.cons.inj c;obtain⟨o,m⟩:=List.cons.inj a;have b:=congrArg (·.1) k;have j:=congrArg (·.2) k;dsimp only at b j;have e:n+2*(d::l).length=n+2+2*l.length:=by rw[vXa];lia
  have g:d.gi T n=d.gb n:=by
   unfold Dh.gi Dh.gb;rw[b];rfl
  have i:=TOk.addsH [d] h (by
   show[_]=[_]
   rw[b,j];rfl) (congrArg (λz=>[z]) o)
  unfold Tb.addsH at i;rw[g]at i;rw[e];exact TOk.addsB l i p m
end
end CP
namespace DS
open PySem L2
def YE(I:Nat->jr->Prop)(h:∀i d a,items[i]?=S d->I i a->∃b e,g d a=S b/\s b=S (.nx e)/\I (i+1) e):∀{a},I 0 a->∃c,Jq g s items a=S (.nx c)/\I items.length c:=by
 induction items generalizing I with
 |nil=>intro a f;exact#[a,rfl,f]
 |cons d u k=>
  intro a f;obtain⟨b,e,r,o,j⟩:=h 0 d a rfl f;obtain⟨c,m,t⟩:=k (λi=>I (i+1)) (λi n a p l=>h (i+1) n a (by simpa using p) l) j;exact#[c,by rw[Jq,r];show(s b).bind _=_;rw[o];exact m,t]
theorem Zi(I:jr->Prop)(p r)(w:(∃d,r=.rt d)\/∃o,r=.rf o)(h:∀d∈items,∀b,I b->∃a,g d b=S a/\((p d=B/\s a=S r)\/(p d=G/\∃e,s a=S (.nx e)/\I e))):∀{b},I b->
  (items.any p=B/\Jq g s items b=S r)\/(items.any p=G/\∃c,I c/\Jq g s items b=S (.nx c)):=by
 induction items with
 |nil=>intro b k;exact .inr #[rfl,b,k,rfl]
 |cons d y n=>
  intro b k;obtain⟨a,l,z⟩:=h d wNa b k;rcases z with⟨m,f⟩|⟨m,e,f,t⟩
  ·refine .inl #[by rw[List.any_cons,m];rfl,?_];rw[Jq,l];show(s a).bind _=_;rw[f];rcases w with⟨d,rfl⟩|⟨o,rfl⟩<;>rfl
  ·rcases n (λx u=>h x (wMa _ u)) t with⟨i,j⟩|⟨i,c,j,v⟩
   ·refine .inl #[by rw[List.any_cons,i,Bool.or_true],?_];rw[Jq,l];show(s a).bind _=_;rw[f];exact j
   ·refine .inr #[by rw[List.any_cons,m,i];rfl,c,j,?_];rw[Jq,l];show(s a).bind _=_;rw[f];exact v
def BA{r:Rs}(I:Nat->jr->Prop)(Z:Nat->Rs->Prop)(h:∀i d c,a[i]?=S d->I i c->∃b,g d c=S b/\((∃j,s b=S (.nx j)/\I (i+1) j)\/∃e,s b=S (.rt e)/\Z i (.rt e))):∀{c},I 0 c->(∃f,Jq g s a c=S (.nx f)/\I a.length f)\/∃i e,i<a.length/\Jq g s a c=S (.rt e)/\Z i (.rt e):=by
 induction a generalizing I Z with
 |nil=>intro c n;exact .inl #[c,rfl,n]
 |cons d w v=>
  intro c n;obtain⟨b,o,z⟩:=h 0 d c rfl n;rcases z with⟨j,k,t⟩|⟨e,k,z⟩
  ·rcases v (λi=>I (i+1)) (λi=>Z (i+1)) (λi e c u m=>h (i+1) e c (by simpa using u) m) t with⟨f,l,p⟩|⟨i,e,m,l,z⟩
   ·exact .inl #[f,by rw[Jq,o];show(s b).bind _=_;rw[k];exact l,p]
   ·exact .inr #[i+1,e,by simpa using m,by rw[Jq,o];show(s b).bind _=_;rw[k];exact l,z]
  ·exact .inr #[0,e,by simp,by simp[Jq,o,k],z]
theorem Jn(b f):∀{xs:L l},(∀x∈xs,∃a,g (b x) k=S a/\dc a=S B/\de a=S (f x))->JA g dc de (xs.map b) k=S (xs.map f)
 |[],_=>rfl
 |x::xs,h=>by
  obtain⟨a,e,i,d⟩:=h x wNa;have j:=Jn b f λy c=>h y (wMa _ c);simp[JA,e,i,d,j]
theorem Gy(b p f):∀{xs:L m},(∀x∈xs,∃a,g (b x) k=S a/\dc a=S (p x)/\de a=S (f x))->JA g dc de (xs.map b) k=S ((xs.filter p).map f)
 |[],_=>rfl
 |x::xs,h=>by
  obtain⟨a,e,j,i⟩:=h x wNa;have d:=Gy b p f λy c=>h y (wMa _ c);cases l:p x<;>simp[JA,e,j,i,d,l]
theorem qK(I:jr->Prop)(m:jr->Nat)(h:∀a,I a->dt a=S G\/(dt a=S B/\∃c,s a=S (.nx c)/\I c/\m c<m a)):∀{n a},I a->m a<n->∃b,zT dt s n a=S (.nx b)/\I b/\dt b=S G
 |0,a,_,d=>vDa d (Nat.not_lt_zero _)
 |n+1,a,f,d=>by
  rcases h a f with e|⟨e,c,j,l,o⟩
  ·exact#[a,by simp[zT,e],f,e]
  ·obtain⟨b,k,g,i⟩:=qK I m h (n:=n) l (by omega);exact#[b,by simp[zT,e,j,k],g,i]
noncomputable def t3(t:T3):D:=.tup [.int t.1,.int t.2.1,.int t.2.2]
structure Bk where
 size:Int
 kinds:L T3
 shuns:L T3
 bars:L T3
 dues:L T3
noncomputable def jh(b:Bk):D:=.tup [.int b.size,.lst (b.kinds.map t3),.lst (b.shuns.map t3),.lst (b.bars.map t3),.lst (b.dues.map t3)]
noncomputable def jm(C:Addr)(b:Bk):D:=.ins C ["size","kind_rows","shun_rows","bar_rows","due_rows"] [.int b.size,.tup (b.kinds.map t3),.tup (b.shuns.map t3),.tup (b.bars.map t3),.tup (b.dues.map t3)]
structure Sd where
 place:Int
 kind:Int
 len:Int
 before:Int
 waits:L Int
 met:L Bool
noncomputable def J3(s:Sd):D:=.tup [.int s.place,.int s.kind,.int s.len,.int s.before,.tup (s.waits.map .int),.tup (s.met.map .bl)]
noncomputable def yI(a:L T3)(k:Int):=a.getD k.toNat (0,0,0)
def ut(a:0<=k)(h:xs[k.toNat]?=S x):atI xs k=S x:=by
 have b:=(uSa h).1;unfold atI Uq;rw[if_pos a,if_pos (by omega)];exact h
def Zk{xs:L c}{k:Int}(b:0<=k)(e:k<xs.length):atI (xs.map f) k=S (f (xs.getD k.toNat d)):=by
 have a:k.toNat<xs.length:=by omega
 refine ut b ?_;rw[uAa,uBa,uCa a];rfl
def Zl(b:0<=k)(c:k<a.length):atI (a.map t3) k=S (t3 (yI a k)):=Zk b c
def AD{n:Nat}{k:Int}(a:0<=k)(b:k<n):Uq n k=S k.toNat:=by unfold Uq;rw[if_pos a,if_pos b]
def Ym{n:Nat}(h:n<=1000):n<=sizeLine:=wSa h (by decide)
def JK(h:n<=10000):n<sizeLine:=Nat.lt_of_le_of_lt h (by decide)
noncomputable def fK(t:T3):=decide (1<=t.1)&&(decide (t.1<=t.2.1)&&(decide (t.2.1<=4)&&(decide (0<=t.2.2)&&decide (t.2.2<=4))))
noncomputable def fS(m)(t:T3):=decide (0<=t.1)&&(decide (t.1<m)&&(decide (0<=t.2.1)&&(decide (t.2.1<m)&&(decide (1<=t.2.2)&&decide (t.2.2<=2)))))
noncomputable def fB(m s)(t:T3):=decide (0<=t.1)&&(decide (t.1<m)&&(decide (1<=t.2.1)&&(decide (t.2.1<=t.2.2)&&decide (t.2.2<=s))))
noncomputable def fC(s k h b d:Int):=decide (1<=s)&&(decide (s<=30)&&(decide (1<=k)&&(decide (k<=4)&&(decide (h<=20)&&(decide (b<=12)&&decide (d<=3))))))
noncomputable def fR(s)(k h b d:L T3):=k.all fK&&(h.all (fS k.length)&&(b++d).all (fB k.length s))
noncomputable def QX(b:Bk):=fC b.size b.kinds.length b.shuns.length b.bars.length b.dues.length&&fR b.size b.kinds b.shuns b.bars b.dues
noncomputable def GU(C:Addr)(b:Bk):OD:=.ins C ["size","kind_rows","shun_rows","bar_rows","due_rows"] [.int b.size,.tup (b.kinds.map t3),.tup (b.shuns.map t3),.tup (b.bars.map t3),.tup (b.dues.map t3)]
noncomputable def CW:D->Y T3
 |.tup [.int x,.int y,.int z]=>S (x,y,z)
 |_=>J
noncomputable def GV:L D->Y (L T3)
 |[]=>S []
 |d::l=>(CW d).bind λt=>(GV l).bind λa=>S (t::a)
def iR(t):CW (t3 t)=S t:=rfl
theorem GW:∀a ,GV (a.map t3)=S a
 |[]=>rfl
 |t::a=>by rw[vWa,GV,iR,GW a];rfl
def iS(h:CW d=S t):d=t3 t:=by
 cases d with
 |tup l=>
  rcases l with _|⟨a,_|⟨b,_|⟨c,_|⟨e,r⟩⟩⟩⟩<;>try exact Zn h
  all_goals(cases a<;>try exact Zn h)
  all_goals(cases b<;>try exact Zn h)
  all_goals(cases c<;>try cases h)
  rfl
 |_=>exact Zn h
theorem QY:∀{l a},GV l=S a->l=a.map t3
 |[],_,h=>by cases h;rfl
 |d::l,a,h=>by
  obtain⟨t,c,h⟩:=j1 h;obtain⟨r,b,h⟩:=j1 h;obtain rfl:=Zj h;rw[vWa,<-iS c,<-QY b]
noncomputable def gI:D->Y Int
 |.int s=>S s
 |_=>J
@[simp] theorem oz(i):gI (.int i)=S i:=rfl
noncomputable def gL:D->Y (L T3)
 |.lst l=>GV l
 |_=>J
@[simp] theorem oA(l):gL (.lst l)=GV l:=rfl
def LD(h:gI d=S s):d=.int s:=by
 cases d<;>cases h;rfl
def Wg(h:gL d=S a):d=.lst (a.map t3):=by
 cases d with
 |lst l=>rw[QY h]
 |_=>exact Zn h
noncomputable def KO(C:Addr):L D->Y OD
 |[s,k,h,b,d]=>(gI s).bind λs=>(gL k).bind λf=>(gL h).bind λa=>(gL b).bind λe=>(gL d).bind λc=>if QX #[s,f,a,e,c]=B then S (GU C #[s,f,a,e,c])else J
 |_=>J
def iU(h:KO C c=S o):∃b ,QX b=B/\c=[.int b.size,.lst (b.kinds.map t3),.lst (b.shuns.map t3),.lst (b.bars.map t3),.lst (b.dues.map t3)]/\GU C b=o:=by
 rcases c with _|⟨s,_|⟨k,_|⟨v,_|⟨b,_|⟨d,_|⟨e,r⟩⟩⟩⟩⟩⟩<;>try exact Zn h
 obtain⟨f,n,h⟩:=j1 h;obtain⟨g,j,h⟩:=j1 h;obtain⟨l,t,h⟩:=j1 h;obtain⟨m,u,h⟩:=j1 h;obtain⟨p,i,h⟩:=j1 h;by_cases a:QX #[f,g,l,m,p]=B
 ·rw[if_pos a]at h;rw[LD n,Wg j,Wg t,Wg u,Wg i];exact#[_,a,rfl,vFa h]
 ·rw[if_neg a]at h;exact Zn h
@[simp] theorem Nl(s):j3 (J3 s) (.int 0)=S (.int s.place):=rfl
@[simp] theorem Nm(s):j3 (J3 s) (.int 1)=S (.int s.kind):=rfl
@[simp] theorem Nn(s):j3 (J3 s) (.int 2)=S (.int s.len):=rfl
@[simp] theorem No(s):j3 (J3 s) (.int 3)=S (.int s.before):=rfl
@[simp] theorem Np(s):j3 (J3 s) (.int 4)=S (.tup (s.waits.map .int)):=rfl
@[simp] theorem Nq(s):j3 (J3 s) (.int 5)=S (.tup (s.met.map .bl)):=rfl
@[simp] theorem oa(t):j3 (t3 t) (.int 0)=S (.int t.1):=rfl
@[simp] theorem og(t):j3 (t3 t) (.int 1)=S (.int t.2.1):=rfl
@[simp] theorem oh(t):j3 (t3 t) (.int 2)=S (.int t.2.2):=rfl
@[simp] theorem oj(b):j3 (jh b) (.int 0)=S (.int b.size):=rfl
@[simp] theorem om(b):j3 (jh b) (.int 1)=S (.lst (b.kinds.map t3)):=rfl
@[simp] theorem on(b):j3 (jh b) (.int 2)=S (.lst (b.shuns.map t3)):=rfl
@[simp] theorem oo(b):j3 (jh b) (.int 3)=S (.lst (b.bars.map t3)):=rfl
@[simp] theorem oq(b):j3 (jh b) (.int 4)=S (.lst (b.dues.map t3)):=rfl
@[simp] theorem ot(t):Vz (t3 t)=G:=rfl
@[simp] theorem Nr(s):Vz (J3 s)=G:=rfl
end DS
namespace M
open DS
@[simp] noncomputable abbrev fV(n:Nat):Bool×DE:=(G,dV n)
@[simp] noncomputable abbrev tC(n:Nat):Bool×DE:=(B,dC n)
@[simp] noncomputable abbrev dN(i:Int):DE:=dK (.int i)
def Bn{o:Y b}{f:b->Y c}(e:o=S x)(h:f x=r):o.bind f=r:=by rw[e];exact h
def sq(h:b d=S (.nx a))(k:c a=r):j0 b c d=r:=by rw[j0,h];exact k
def J_(h:b a=S (.rt d)):j0 b c a=S (.rt d):=by rw[j0,h];rfl
def Nt(P:jr->Prop)(h:(∃d,c b=S (.rt d)/\r=S (.rt d))\/∃a,c b=S (.nx a)/\P a)(k:∀a,P a->f a=r):j0 c f b=r:=by
 rcases h with⟨d,h,e⟩|⟨a,h,p⟩
 ·rw[e];exact J_ h
 ·exact sq h (k a p)
def Jm(h:t a=S B)(k:b a=r):jc t b c a=r:=by rw[jc,h];exact k
def jF(h:t a=S G)(k:b a=r):jc t c b a=r:=by rw[jc,h];exact k
def fE(h:b (zI ks ds n)=S (.rt d)):J1 ks n b ds=S d:=by rw[J1,h];rfl
end M
namespace M
open PySem L2 DS
noncomputable def Jg(b:Bk):Sd:=#[0,-1,0,-1,List.replicate b.kinds.length 0,List.replicate b.dues.length G]
noncomputable def mx(i j:Int):=if j > i then j else i
noncomputable def GX(s:Sd)(k):=if s.kind=k then s.len+1 else 1
noncomputable def ZT(b:Bk)(s:Sd)(k:Int):=(if s.kind=-1 then s.waits.map (λx=>mx (x-1) 0)else(s.waits.map (λx=>mx (x-1) 0)).set s.kind.toNat (mx ((yI b.kinds s.kind).2.2-1) 0)).set k.toNat 0
noncomputable def zK(k a)(t:T3):=decide (t.1=k)&&(decide (t.2.1<=a)&&decide (a<=t.2.2))
noncomputable def zl(b:Bk)(s:Sd)(k):=List.zipWith (λt m=>m||zK k (s.place+1) t) b.dues s.met
noncomputable def zx(b:Bk)(s:Sd)(k:Int):Sd:=#[s.place+1,k,GX s k,s.kind,ZT b s k,zl b s k]
noncomputable def Zm(b:Bk)(s:Sd)(k):=b.bars.any (zK k (s.place+1))
noncomputable def U1(b:Bk)(s:Sd)(k):=decide (s.kind=k)&&decide (s.len>=(yI b.kinds k).2.1)
noncomputable def YF(b:Bk)(s:Sd)(k):=!(decide (s.kind=k)||decide (s.kind=-1))&&decide (s.len<(yI b.kinds s.kind).1)
noncomputable def zy(s:Sd)(k):=!decide (s.kind=k)&&!decide (s.waits.getD k.toNat 0=0)
noncomputable def Va(s:Sd)(k)(t:T3):=decide (t.2.1=k)&&decide ((if t.2.2=1 then s.kind else s.before)=t.1)
noncomputable def U4(b:Bk)(s k):=b.shuns.any (Va s k)
noncomputable def KP(b s k):=(List.zip b.dues (zl b s k)).any λp=>decide (p.1.2.2=s.place+1)&&!p.2
noncomputable def KQ(b:Bk)(s k):=decide (s.place+1=b.size)&&decide (GX s k<(yI b.kinds k).1)
noncomputable def J8(b:Bk)(s:Sd)(k:Int):Y Str:=
 if Zm b s k=B then S "barred" else if U1 b s k=B then S "long" else if YF b s k=B then S "short" else if zy s k=B then S "early" else if U4 b s k=B then S "shun" else if KP b s k=B then S "due" else if KQ b s k=B then S "cut" else J
noncomputable def jK(b:Bk):Sd->L Int->Sd×Y Str
 |s,[]=>(s,J)
 |s,k::r=>match J8 b s k with
  |S w=>(s,S w)
  |none=>jK b (zx b s k) r
noncomputable def za(b s k):=if s.place>=b.size then J else if(J8 b s k).isSome=B then J else S (zx b s k)
noncomputable def XN(b:Bk):Nat->Sd->Bool
 |0,s=>decide (s.place=b.size)
 |n+1,s=>if s.place=b.size then B else(List.range b.kinds.length).any λk=>match za b s k with
  |S t=>XN b n t
  |none=>G
noncomputable def yu(b s):=XN b (b.size-s.place).toNat s
noncomputable def ZI(m:Nat):Nat->L (L Int)
 |0=>[[]]
 |n+1=>[]::(ZI m n).flatMap λr=>(List.range m).map λ(k:Nat)=>k::r
noncomputable def bi(b:Bool):Int:=if b then 1 else 0
noncomputable def VJ(s:Sd):KD:=.t [.i s.place,.i s.kind,.i s.len,.i s.before,.t (s.waits.map .i),.t (s.met.map λx=>.i (bi x))]
noncomputable def YG(b):=(ZI b.kinds.length b.size.toNat).map λr=>(VJ (jK b (Jg b) r).1,yu b (jK b (Jg b) r).1)
noncomputable def AE:D->Y (L T3)
 |.tup l=>GV l
 |_=>J
noncomputable def XO:D->Y Bk
 |.ins _ _ [.int s,k,h,b,d]=>(AE k).bind λk=>(AE h).bind λh=>(AE b).bind λb=>(AE d).bind λd=>S #[s,k,h,b,d]
 |_=>J
noncomputable def CY(d:D):L (KD×Bool):=match XO d with
 |S b=>YG b
 |none=>[]
end M
noncomputable section
namespace M
open PySem L2 DS CP
noncomputable def zA:L Str:=["BadRules","NoKind","TooLong","BadName","Known","NoName","Many","Whole","SamePoet","Stuck","Turned","NoPlace","NothingLeft","Broken","Stranded"]
noncomputable def qL:L (Str×Str):=[("Broken","place"),("Broken","word"),("Stranded","name")]
noncomputable abbrev CH:Addr:=590
noncomputable def zL:=(gN 6)
noncomputable def ym(C:Addr):=(jc (je (d2 vV (dV 5) (dN 0))) (j0 (ZG 2 (d2 jt (dV 5) (dN 1009)))
 (jg 5 (d2 Y2 (dV 5) (dN 1009)))) ji)
noncomputable def Y5:=(gN 4)
noncomputable def Y6(C):=(j0 (jg 3 (d2 jt (d2 jG (d2 jG (d2 zh (dV 3) (dN 48271)) (d2 jt (dV 4) (dN 1000003))) (dN 11)) (dN 2147483647)))
 (j0 (jg 5 (d2 zg (dV 4) (d2 WG (dN 10) (dN 18))))
 (j0 (jc (je (d2 ZP (dV 5) (dN 0))) (ZG 2 (d2 jt (dV 4) (dN 9973))) ji)
 (yC (YZ (dN 60)) zL (ym C)))))
noncomputable def yo(C:Addr):=(je (d2 ZP (j8 J9 [(fV 2)]) (dV 1)))
noncomputable def zM(C:Addr):=(j0 (jg 3 (d2 jt (d2 jG (d2 jG (d2 jG (d2 zh (dV 3) (dV 3)) (d2 zh (dN 69621) (dV 3))) (d2 zh (dN 7) (j8 J9 [(fV 2)]))) (dN 5)) (dN 2147483629)))
 (ZG 2 (d2 jt (d2 Y2 (dV 3) (dN 1013)) (dN 9973))))
noncomputable def Zo(C):=(j0 (zH 2 (ju []))
 (j0 (jg 3 (dN 29))
 (j0 (yC (Ji (dL (Jz (dV 0) (λ_=>S J) (λa=>((dN 63) a).bind yi)))) Y5 (Y6 C))
 (j0 (zT (yo C) (zM C) 20000)
 (yK (Jz (dV 2) (λ_=>S J) (λa=>((dV 1) a).bind yi)))))))
noncomputable def Zp(C):=V0 [G,G] 5 (Zo C)
noncomputable def Uy:=(gN 5)
noncomputable def v5(C:Addr):=(j0 (jg 6 (d2 jG (dN 1) (d2 j3 (dL (ju [(B,(dN 0)),(B,(dN 0)),(B,(dN 1)),(B,(dN 0)),(B,(dN 2)),(B,(dN 0))])) (d2 jt (d2 j3 (dV 0) (d2 jG (dN 2) (dV 5))) (dN 6)))))
 (ZG 4 (jw [(tC 6),(B,(d2 jG (dV 6) (d2 jt (d2 j3 (dV 0) (d2 jG (dN 6) (dV 5))) (d2 zg (dN 5) (dV 6))))),(B,(d2 zh (d2 jt (d2 j3 (dV 0) (d2 jG (dN 10) (dV 5))) (dN 5)) (d2 jt (d2 Y2 (d2 j3 (dV 0) (d2 jG (dN 10) (dV 5))) (dN 5)) (dN 2))))])))
noncomputable def VV(C):=(j0 (jg 2 (d2 jG (dN 1) (d2 jt (d2 j3 (dV 0) (dN 0)) (dN 4))))
 (j0 (jg 3 (d2 jG (dN 1) (d2 jt (d2 j3 (dV 0) (dN 1)) (dV 1))))
 (j0 (zH 4 (ju []))
 (j0 (yC (YZ (dV 2)) Uy (v5 C))
 (j0 (jg 7 (dL (ju [(B,(jw [(B,(d2 jt (d2 j3 (dV 0) (dN 14)) (dV 2))),(B,(d2 jt (d2 j3 (dV 0) (dN 15)) (dV 2))),(B,(d2 jG (dN 1) (d2 jt (d2 j3 (dV 0) (dN 16)) (dN 2))))])),(B,(jw [(B,(d2 jt (d2 j3 (dV 0) (dN 17)) (dV 2))),(B,(d2 jt (d2 j3 (dV 0) (dN 18)) (dV 2))),(B,(dN 2))]))])))
 (j0 (jg 8 (d2 jG (dN 1) (d2 jt (d2 j3 (dV 0) (dN 19)) (dV 3))))
 (j0 (jg 9 (d2 jG (dV 8) (d2 jt (d2 j3 (dV 0) (dN 20)) (d2 jG (d2 zg (dV 3) (dV 8)) (dN 1)))))
 (j0 (jg 10 (dL (ju [(B,(jw [(B,(d2 jt (d2 j3 (dV 0) (dN 21)) (dV 2))),(tC 8),(tC 9)]))])))
 (j0 (jg 11 (dL (ju [(B,(jw [(B,(d2 jt (d2 j3 (dV 0) (dN 22)) (dV 2))),(B,(d2 jG (dN 1) (d2 jt (d2 j3 (dV 0) (dN 23)) (dV 3)))),(tC 3)]))])))
 (ZQ 4 (jd (jw [(tC 3),(tC 4),(B,(dL (Jz (dV 7) (λ_=>S J) (λa=>((d2 jt (d2 jt (d2 j3 (dV 0) (dN 24)) (dN 4)) (dN 3)) a).bind yi)))),(B,(dL (Jz (dV 10) (λ_=>S J) (λa=>((d2 jt (d2 j3 (dV 0) (dN 25)) (dN 2)) a).bind yi)))),(B,(dL (Jz (dV 11) (λ_=>S J) (λa=>((d2 jt (d2 j3 (dV 0) (dN 26)) (dN 2)) a).bind yi))))]))))))))))))
noncomputable def VW(C):=J1 [G,G] 10 (VV C)
noncomputable def YH(C):=(j0 (yB (j8 (VW C) [(fV 0),(fV 1)]) (gT 5 (gC (gN 2) (gC (gN 3) (gC (gN 4) (gC (gN 5) (gC (gN 6) gZ)))))))
 (j0 (jg 7 (jw [(tC 2),(tC 3),(tC 4),(tC 5),(tC 6)]))
 (j0 (jg 8 (j8 (VW C) [(G,(dL (Jz (dV 0) (λa=>((dN 60) a).bind yi) (λ_=>S J)))),(fV 1)]))
 (j0 (jc (je (d2 jD (d2 jt (d2 j3 (dV 0) (dN 120)) (dN 3)) (dN 1))) (jg 8 (jw [(tC 2),(tC 3),(B,(dL (yx JN (dV 4) (dL (ju [(B,(jw [(B,(dN 0)),(B,(d2 jt (d2 j3 (dV 0) (dN 121)) (j8 J9 [(fV 3)]))),(B,(d2 jG (dN 1) (d2 jt (d2 j3 (dV 0) (dN 122)) (dN 2))))]))]))))),(tC 5),(tC 6)])) ji)
 (j0 (jc (je (d2 jD (d2 jt (d2 j3 (dV 0) (dN 120)) (dN 3)) (dN 2))) (jg 8 (jw [(tC 2),(tC 3),(B,(dL (Jz (dV 4) (λa=>((dN 1) a).bind yi) (λ_=>S J)))),(B,(dL (Jz (dV 5) (λa=>((dN 1) a).bind yi) (λ_=>S J)))),(B,(dL (yx JN (dL (Jz (dV 6) (λ_=>S J) (λa=>((dN 2) a).bind yi))) (dL (ju [(B,(jw [(B,(dN 0)),(B,(dN 1)),(tC 2)]))])))))])) ji)
 (j0 (jg 9 (jw [(B,(d2 jG (dV 2) (dN 1))),(tC 3),(tC 4),(tC 5),(tC 6)]))
 (j0 (jc (je (d2 jD (d2 jt (d2 j3 (dV 0) (dN 130)) (dN 4)) (dN 3))) (jg 9 (jw [(tC 2),(B,(dL (yx JN (dV 3) (dL (Jz (dL (ju [(B,(jw [(B,(dN 1)),(B,(dN 4)),(B,(dN 0))]))])) (λ_=>S J) (λa=>((d2 zg (dN 4) (j8 J9 [(fV 3)])) a).bind yi)))))),(B,(dL (ju []))),(B,(dL (ju []))),(tC 6)])) ji)
 (yK (ju [(tC 7),(tC 8),(tC 9)])))))))))
noncomputable def gk(C):=V0 [G,G] 8 (YH C)
noncomputable def v6(C:Addr):=(j0 (jc (yA (Jp (je (Jd JB JB (dN 1) (dV 0) (dN 30)))) (Jp (je (Jd JB JB (dN 1) (j8 J9 [(fV 1)]) (dN 4))))) (jd (dK (.bl G))) ji)
 (jd (Yt (d2 JB (j8 J9 [(fV 2)]) (dN 20)) (Yt (d2 JB (j8 J9 [(fV 3)]) (dN 12)) (d2 JB (j8 J9 [(fV 4)]) (dN 3))))))
noncomputable def v7(C):=J1 [G,G,G,G,G] 0 (v6 C)
noncomputable def VX(C:Addr):=(j0 (jc (je (d2 Je (j8 J9 [(fV 0)]) (dN 3))) (jd (dK (.bl G))) ji)
 (j0 (yB (dC 0) (gT 3 (gC (gN 1) (gC (gN 2) (gC (gN 3) gZ)))))
 (jd (Yt (Ga JB JB JB (dN 1) (dV 1) (dV 2) (dN 4)) (Jd JB JB (dN 0) (dV 3) (dN 4))))))
noncomputable def ZJ(C):=J1 [B] 3 (VX C)
noncomputable def VY(C:Addr):=(j0 (jc (je (d2 Je (j8 J9 [(fV 0)]) (dN 3))) (jd (dK (.bl G))) ji)
 (j0 (yB (dC 0) (gT 3 (gC (gN 2) (gC (gN 3) (gC (gN 4) gZ)))))
 (jd (Yt (Jd JB ZP (dN 0) (dV 2) (dV 1)) (Yt (Jd JB ZP (dN 0) (dV 3) (dV 1)) (Jd JB JB (dN 1) (dV 4) (dN 2)))))))
noncomputable def ZK(C):=J1 [B,G] 3 (VY C)
noncomputable def VZ(C:Addr):=(j0 (jc (je (d2 Je (j8 J9 [(fV 0)]) (dN 3))) (jd (dK (.bl G))) ji)
 (j0 (yB (dC 0) (gT 3 (gC (gN 3) (gC (gN 4) (gC (gN 5) gZ)))))
 (jd (Yt (Jd JB ZP (dN 0) (dV 3) (dV 1)) (Ga JB JB JB (dN 1) (dV 4) (dV 5) (dV 2))))))
noncomputable def ZL(C):=J1 [B,G,G] 3 (VZ C)
noncomputable def V_(C):=(j0 (jg 5 (j8 J9 [(fV 1)]))
 (j0 (jc (Jp (Jj (j8 VT [(G,(dL (yc 1 [] (Ji (dP 1)) (gN 0) jN (j8 (ZJ C) [(tC 0)]))))]))) (jd (dK (.bl G))) ji)
 (j0 (jc (Jp (Jj (j8 VT [(G,(dL (yc 1 [5] (Ji (dP 2)) (gN 0) jN (j8 (ZK C) [(tC 0),(fV 1)]))))]))) (jd (dK (.bl G))) ji)
 (jd (j8 VT [(G,(dL (yc 1 [5,0] (Ji (dL (yx JN (dV 3) (dV 4)))) (gN 0) jN (j8 (ZL C) [(tC 0),(fV 1),(fV 2)]))))])))))
noncomputable def u2(C):=J1 [G,G,G,G,G] 1 (V_ C)
noncomputable def Y7(C):=(j0 (jc (Jp (Jj (j8 (v7 C) [(fV 1),(fV 2),(fV 3),(fV 4),(fV 5)]))) Ja ji)
 (j0 (jc (Jp (Jj (j8 (u2 C) [(fV 1),(fV 2),(fV 3),(fV 4),(fV 5)]))) Ja ji)
 (j0 (VD 0 C "size" (dC 1))
 (j0 (VD 0 C "kind_rows" (j8 zR [(fV 2)]))
 (j0 (VD 0 C "shun_rows" (j8 zR [(fV 3)]))
 (j0 (VD 0 C "bar_rows" (j8 zR [(fV 4)]))
 (VD 0 C "due_rows" (j8 zR [(fV 5)]))))))))
noncomputable def yM(C):=aU C [B,G,G,G,G] 0 (Y7 C)
noncomputable def yp(C):=DS.KO C
noncomputable def u3(C):=(yK (Xd (yp C) [(B,(d2 j3 (dV 0) (dN 0))),(G,(dL (jS yy [(G,(d2 j3 (dV 0) (dN 1)))]))),(G,(dL (jS yy [(G,(d2 j3 (dV 0) (dN 2)))]))),(G,(dL (jS yy [(G,(d2 j3 (dV 0) (dN 3)))]))),(G,(dL (jS yy [(G,(d2 j3 (dV 0) (dN 4)))])))]))
noncomputable def Yn(C):=V0 [G] 0 (u3 C)
noncomputable def Gz(C:Addr):=(j0 (jg 1 (dK (.str "abcdefghijklmnopqrstuvwxyz")))
 (j0 (jg 2 (d2 jG (dN 1) (d2 jt (dV 0) (dN 8))))
 (jd (d2 Wd (dK (.str "")) (dL (yc 1 [1,0] (YZ (dV 2)) (gN 0) jN (d2 Zh (dV 1) (d2 jt (d2 jG (d2 Y2 (dV 2) (dN 8)) (d2 zh (dV 0) (d2 jt (d2 Y2 (dV 2) (dN 64)) (dN 3)))) (dN 26)))))))))
noncomputable def JD(C):=J1 [G] 2 (Gz C)
noncomputable def JU(C):=(j0 (jg 1 (dL (yx JN (dL (yc 1 [0] (YZ (dN 8)) (gN 0) jN (j8 (JD C) [(G,(d2 j3 (dV 1) (dV 0)))]))) (dL (ju [(B,(j8 (JD C) [(G,(d2 jG (d2 j3 (dV 0) (dN 0)) (dN 11)))])),(B,(j8 (JD C) [(G,(d2 jG (d2 j3 (dV 0) (dN 1)) (dN 13)))]))])))))
 (j0 (jc (je (d2 jD (d2 jt (d2 j3 (dV 0) (dN 9)) (dN 3)) (dN 1))) (jg 1 (dL (yc 1 [1] (YZ (dN 10)) (gN 0) jN (d2 jG (Gg (d2 j3 (dV 1) (dN 0)) (λ_=>S J) (λa=>((dN 7) a).bind yi)) (d2 Zh (dK (.str "abcdefghyz")) (dV 0)))))) ji)
 (yK (yx JN (dL (yx JN (dL (Jz (dV 1) (λ_=>S J) (λa=>((dN 8) a).bind yi))) (dL (ju [(B,(d2 j3 (dL (ju [(B,(dK (.str ""))),(B,(dK (.str "abcdefghi"))),(B,(dK (.str "Ab"))),(B,(dK (.str "a b"))),(B,(dK (.str "a1")))])) (d2 jt (d2 j3 (dV 0) (dN 8)) (dN 5))))])))) (dL (Jz (dV 1) (λa=>((dN 8) a).bind yi) (λ_=>S J)))))))
noncomputable def gq(C):=V0 [G] 1 (JU C)
noncomputable def Y8(C:Addr):=(j0 (Gc 0 CH "opened" (dC 1))
 (j0 (Gc 0 CH "now" (jw [(tC 1),(B,(XB CY 1)),(B,(dL Wb))]))
 (j0 (Gd 0 CH "done" (ju []))
 (Gd 0 CH "undone" (ju [])))))
noncomputable def Vb(C:Addr):HS->L D->Y (Rx×HS):=zX [B] 0 (Y8 C)
noncomputable def zB(C:Addr):=(j0 (yB (dC 1) (gT 2 (gC (gN 5) (gC (gN 6) gZ))))
 (j0 (jg 7 (dL (jS YC [(fV 6)])))
 (j0 (jg 8 (d2 j3 (dV 2) (d2 jt (d2 j3 (dV 3) (dN 1)) (dN 5))))
 (j0 (jc (J4 (je (d2 Je (dV 7) (dL (ju [])))) (je (d2 vV (d2 jt (d2 Y2 (d2 j3 (dV 3) (dN 1)) (dN 5)) (dN 5)) (dN 0)))) (jg 8 (d2 j3 (dV 7) (d2 jt (d2 Y2 (d2 j3 (dV 3) (dN 1)) (dN 25)) (j8 J9 [(fV 7)])))) ji)
 (j0 (jg 9 (j8 J9 [(G,(d2 j3 (d2 j3 (dV 0) (dV 5)) (dN 1)))]))
 (j0 (jg 10 (d2 jt (d2 j3 (dV 3) (dN 3)) (dV 9)))
 (j0 (jc (je (d2 jD (d2 jt (d2 Y2 (d2 j3 (dV 3) (dN 3)) (dN 5)) (dN 9)) (dN 8))) (jg 10 (d2 j3 (dL (ju [(B,(ZZ (dN 1))),(tC 9),(B,(d2 WG (dN 10) (dN 20)))])) (d2 jt (d2 j3 (dV 3) (dN 4)) (dN 3)))) ji)
 (j0 (jg 11 (d2 j3 (dV 4) (d2 jt (d2 j3 (dV 3) (dN 0)) (j8 J9 [(fV 4)]))))
 (j0 (jc (J4 (je (d2 jD (dV 7) (dL (ju [])))) (je (d2 vV (d2 jt (d2 j3 (dV 3) (dN 4)) (dN 4)) (dN 0)))) (jg 11 (dK (.str "begin"))) ji)
 (j0 (jc (je (d2 (zU G) (dV 11) (dL (ju [(B,(dK (.str "begin"))),(B,(dK (.str "take"))),(B,(dK (.str "turn"))),(B,(dK (.str "drop")))])))) (j0 (jc (J4 (je (d2 jD (dV 11) (dK (.str "begin")))) (je (d2 vV (d2 jt (d2 j3 (dV 3) (dN 2)) (dN 3)) (dN 0)))) (jg 8 (d2 j3 (dV 2) (d2 jt (d2 Y2 (d2 j3 (dV 3) (dN 2)) (dN 3)) (dN 11)))) ji)
 (jd (jw [(tC 11),(tC 8)]))) ji)
 (j0 (jc (je (d2 jD (dV 11) (dK (.str "offer")))) (jd (jw [(tC 11),(tC 8),(B,(d2 j3 (dV 2) (d2 jG (dN 5) (d2 jt (d2 jt (d2 j3 (dV 3) (dN 2)) (dN 13)) (dN 4))))),(tC 10)])) ji)
 (j0 (jc (je (d2 jD (dV 11) (dK (.str "amend")))) Ja ji)
 (j0 (jc (je (d2 jD (dV 11) (dK (.str "fork")))) (jd (jw [(tC 11),(tC 8),(B,(d2 j3 (dV 2) (d2 jt (d2 j3 (dV 3) (dN 2)) (dN 11))))])) ji)
 Ja)))))))))))))
noncomputable def u4(C):=J1 [G,B,G,G,G] 8 (zB C)
noncomputable def U5(C:Addr):=(jd (WK (W3 (Jd JB JB (dN 1) (j8 kT [(fV 0)]) (dN 8))) (W3 (j8 VT [(G,(dL (yc 1 [] (Xz (dP 0)) (gN 0) jN (d2 KC (dV 0) (dK (.str "abcdefghijklmnopqrstuvwxyz"))))))]))))
noncomputable def vA(C):=J1 [G] 0 (U5 C)
noncomputable def U7(C):=(j0 (jc (Jj (j8 (vA C) [(fV 1)])) (jd (dK (.str "BadName"))) ji)
 (j0 (jc (je (d2 (zY G) (dV 1) (dV 0))) (jd (dK (.str "Known"))) ji)
 (jd (WL (je (d2 vV (j8 vr [(fV 0)]) (dN 7))) (dK (.str "Many")) (dK (.str ""))))))
noncomputable def U8(C):=J1 [G,G] 0 (U7 C)
noncomputable def yU(C:Addr):=(J4 (je (d2 JB (dV 2) (dV 1))) (je (d2 jD (d2 j3 (dV 0) (d2 zg (dV 1) (dV 2))) (d2 j3 (dV 0) (dV 1)))))
noncomputable def Vc(C:Addr):=(Xg 2 (λi j=>i+j) (dN 1))
noncomputable def U9(C):=(j0 (jg 2 (dN 1))
 (j0 (zT (yU C) (Vc C) 20000)
 (jd (dC 2))))
noncomputable def Z0(C):=J1 [G,G] 1 (U9 C)
noncomputable def Yo:=(gT 3 (gC (gN 7) (gC (gN 8) (gC (gN 9) gZ))))
noncomputable def yv(C:Addr):=(jc (J4 (je (d2 jD (dV 8) (dV 3))) (J4 (je (d2 WH (dV 2) (dV 9))) (je (d2 jD (d2 j3 (dV 1) (d2 zg (dV 2) (dV 9))) (dV 7))))) (jd (dK (.str "shun"))) ji)
noncomputable def vl(C):=(j0 (jg 3 (d2 j3 (dV 1) (dV 2)))
 (j0 (jg 4 (j8 (Z0 C) [(fV 1),(fV 2)]))
 (j0 (jc (je (d2 vV (dV 4) (d2 j3 (d2 j3 (d2 j3 (dV 0) (dN 1)) (dV 3)) (dN 1)))) (jd (dK (.str "long"))) ji)
 (j0 (jc (J4 (je (d2 vV (dV 2) (dN 0))) (je (d2 jD (dV 4) (dN 1)))) (j0 (jg 5 (d2 j3 (d2 j3 (dV 0) (dN 1)) (d2 j3 (dV 1) (d2 zg (dV 2) (dN 1)))))
 (jc (je (d2 ZP (j8 (Z0 C) [(fV 1),(G,(d2 zg (dV 2) (dN 1)))]) (d2 j3 (dV 5) (dN 0)))) (jd (dK (.str "short"))) ji)) ji)
 (j0 (jc (je (d2 jD (dV 4) (dN 1))) (j0 (jg 6 (j8 VS [(G,(dN 0)),(G,(d2 zg (dV 2) (d2 j3 (d2 j3 (d2 j3 (dV 0) (dN 1)) (dV 3)) (dN 2))))]))
 (jc (je (d2 (zU G) (dV 3) (dL (Jz (dV 1) (λa=>((dV 6) a).bind yi) (λa=>((dV 2) a).bind yi))))) (jd (dK (.str "early"))) ji)) ji)
 (j0 (yC (Ji (d2 j3 (dV 0) (dN 2))) Yo (yv C))
 (jd (dK .non))))))))
noncomputable def vm(C):=J1 [G,G,G] 7 (vl C)
noncomputable def uu:=(gN 4)
noncomputable def Zq(C:Addr):=(jc (J4 (je (d2 jD (d2 j3 (dV 4) (dN 0)) (dV 3))) (je (Jd JB JB (d2 j3 (dV 4) (dN 1)) (d2 jG (dV 2) (dN 1)) (d2 j3 (dV 4) (dN 2))))) (jd (dK (.str "barred"))) ji)
noncomputable def uw:=(gN 6)
noncomputable def Zr(C:Addr):=(jc (J4 (je (d2 jD (d2 j3 (dV 6) (dN 2)) (d2 jG (dV 2) (dN 1)))) (je (d2 (zU B) (d2 j3 (dV 6) (dN 0)) (dL (Jz (dV 1) (λa=>((d2 zg (d2 j3 (dV 6) (dN 1)) (dN 1)) a).bind yi) (λa=>((d2 jG (dV 2) (dN 1)) a).bind yi)))))) (jd (dK (.str "due"))) ji)
noncomputable def gr(C):=(j0 (jg 3 (d2 j3 (dV 1) (dV 2)))
 (j0 (yC (Ji (d2 j3 (dV 0) (dN 3))) uu (Zq C))
 (j0 (jg 5 (j8 (vm C) [(fV 0),(fV 1),(fV 2)]))
 (j0 (jc (je (d2 YX (dV 5) (dK .non))) (jd (dC 5)) ji)
 (j0 (yC (Ji (d2 j3 (dV 0) (dN 4))) uw (Zr C))
 (j0 (jc (J4 (je (d2 jD (d2 jG (dV 2) (dN 1)) (d2 j3 (dV 0) (dN 0)))) (je (d2 ZP (j8 (Z0 C) [(fV 1),(fV 2)]) (d2 j3 (d2 j3 (d2 j3 (dV 0) (dN 1)) (dV 3)) (dN 0))))) (jd (dK (.str "cut"))) ji)
 (jd (dK .non))))))))
noncomputable def Z1(C):=J1 [G,G,G] 4 (gr C)
noncomputable def VL:=(gN 2)
noncomputable def Z2(C):=(j0 (jg 3 (j8 (Z1 C) [(fV 0),(fV 1),(fV 2)]))
 (jc (je (d2 YX (dV 3) (dK .non))) (jd (jw [(B,(d2 jG (dV 2) (dN 1))),(tC 3)])) ji))
noncomputable def v8(C):=(j0 (yC (YZ (j8 J9 [(fV 1)])) VL (Z2 C))
 (jd (dK .non)))
noncomputable def zD(C):=J1 [G,G] 2 (v8 C)
noncomputable def Zu:=(gN 2)
noncomputable def yV(C):=(jc (je (d2 GK (j8 (Z1 C) [(fV 0),(G,(dL (yx JN (dV 4) (dL (ju [(tC 2)]))))),(G,(j8 J9 [(fV 4)]))]) (dK .non))) (ZG 3 (dL (yx JN (dV 4) (dL (ju [(tC 2)]))))) ji)
noncomputable def yW(C:Addr):=(je (d2 Je (dV 3) (dL (ju []))))
noncomputable def yX(C):=(j0 (qo 3 4)
 (j0 (jc (je (d2 jD (j8 J9 [(fV 4)]) (d2 j3 (dV 0) (dN 0)))) (jd (dK (.bl B))) ji)
 (yC (YZ (j8 J9 [(G,(d2 j3 (dV 0) (dN 1)))])) Zu (yV C))))
noncomputable def Vd(C):=(j0 (jc (yA (je (d2 vV (j8 J9 [(fV 1)]) (d2 j3 (dV 0) (dN 0)))) (je (d2 Je (dL (yc 1 [0] (Ji (dP 1)) (gN 0) (Jp (je (Jd JB ZP (dN 0) (dV 0) (j8 J9 [(G,(d2 j3 (dV 1) (dN 1)))])))) (dC 0))) (dL (ju []))))) (jd (dK (.bl G))) ji)
 (j0 (jc (je (d2 YX (j8 (zD C) [(fV 0),(fV 1)]) (dK .non))) (jd (dK (.bl G))) ji)
 (j0 (zH 3 (ju [(B,(dL (jS yy [(fV 1)])))]))
 (j0 (zT (yW C) (yX C) 20000)
 (jd (dK (.bl G)))))))
noncomputable def Ve(C):=J1 [G,G] 3 (Vd C)
noncomputable def YI(C):=(j0 (jc (Jp (je (Jd JB ZP (dN 0) (dV 2) (j8 J9 [(G,(d2 j3 (dV 0) (dN 1)))])))) (jd (jw [(B,(dK (.str "NoKind"))),(B,(dK .non))])) ji)
 (j0 (jg 3 (j8 (zD C) [(fV 0),(fV 1)]))
 (j0 (jc (je (d2 YX (dV 3) (dK .non))) (jd (jw [(B,(dK (.str "Broken"))),(tC 3)])) ji)
 (jd (WL (Jj (j8 (Ve C) [(fV 0),(fV 1)])) (jw [(B,(dK (.str ""))),(B,(dK .non))]) (jw [(B,(dK (.str "Stuck"))),(B,(dK .non))]))))))
noncomputable def ZU(C):=J1 [G,G,G] 1 (YI C)
noncomputable def Vf(C:Addr):=(yK (yc 2 [] (Ji (dP 0)) (gT 2 (gC (gN 0) (gC (gN 1) gZ))) jN (dC 1)))
noncomputable def Vg(C):=V0 [G] 0 (Vf C)
noncomputable def Zv(C):=(j0 (jc (Jj (j8 (vA C) [(G,(d2 j3 (dV 2) (dN 2)))])) (jd (jw [(B,(dK (.str "BadName"))),(B,(dK .non))])) ji)
 (j0 (jc (je (d2 WH (j8 J9 [(fV 1)]) (d2 j3 (dV 0) (dN 0)))) (jd (jw [(B,(dK (.str "Whole"))),(B,(dK .non))])) ji)
 (j0 (jc (J4 (je (d2 Je (dV 1) (dL (ju [])))) (je (d2 jD (d2 j3 (d2 j3 (dV 1) (ZZ (dN 1))) (dN 0)) (d2 j3 (dV 2) (dN 2))))) (jd (jw [(B,(dK (.str "SamePoet"))),(B,(dK .non))])) ji)
 (jd (j8 (ZU C) [(fV 0),(G,(dL (yx JN (dL (jS (Vg C) [(fV 1)])) (dL (ju [(B,(d2 j3 (dV 2) (dN 3)))]))))),(G,(d2 j3 (dV 2) (dN 3)))])))))
noncomputable def uz(C):=J1 [G,G,G] 0 (Zv C)
noncomputable def Zw(C):=(j0 (yB (dC 1) (gT 2 (gC (gN 3) (gC (gN 4) gZ))))
 (j0 (jg 5 (d2 j3 (dV 2) (dN 0)))
 (j0 (jc (je (d2 jD (dV 5) (dK (.str "change")))) Ja ji)
 (j0 (jc (je (d2 jD (dV 5) (dK (.str "begin")))) (j0 (jg 6 (j8 (U8 C) [(fV 4),(G,(d2 j3 (dV 2) (dN 1)))]))
 (j0 (jc (J4 (je (d2 jD (dV 6) (dK (.str "")))) (Jp (Jj (j8 (Ve C) [(G,(d2 j3 (dV 0) (dV 3))),(G,(dL (ju [])))])))) (jg 6 (dK (.str "Stuck"))) ji)
 (jd (jw [(tC 6),(B,(dK .non))])))) ji)
 (j0 (jc (je (d2 (zY B) (d2 j3 (dV 2) (dN 1)) (dV 4))) (jd (jw [(B,(dK (.str "NoName"))),(B,(dK .non))])) ji)
 (j0 (yB (d2 z9 (dV 4) (d2 j3 (dV 2) (dN 1))) (gT 2 (gC (gN 7) (gC (gN 8) gZ))))
 (j0 (jc (je (d2 jD (dV 5) (dK (.str "offer")))) (jd (j8 (uz C) [(G,(d2 j3 (dV 0) (dV 3))),(fV 7),(fV 2)])) ji)
 (j0 (jc (je (d2 jD (dV 5) (dK (.str "amend")))) Ja ji)
 (j0 (jc (je (d2 jD (dV 5) (dK (.str "fork")))) (jd (jw [(B,(j8 (U8 C) [(fV 4),(G,(d2 j3 (dV 2) (dN 2)))])),(B,(dK .non))])) ji)
 (j0 (jc (J4 (je (d2 (zU G) (dV 5) (dL (ju [(B,(dK (.str "take"))),(B,(dK (.str "turn")))])))) (je (d2 JB (j8 J9 [(fV 7)]) (dV 8)))) (jd (jw [(B,(dK (.str "Turned"))),(B,(dK .non))])) ji)
 (jd (jw [(B,(dK (.str ""))),(B,(dK .non))]))))))))))))
noncomputable def uA(C):=J1 [G,B,B] 6 (Zw C)
noncomputable def Vh(C:Addr):=(jc (yA (Jp (je (Jd JB JB (dN 1) (j8 kT [(fV 0)]) (dN 8)))) (Jp (Jj (j8 VT [(G,(dL (yc 1 [] (Xz (dP 0)) (gN 0) jN (Jd V5 V5 (dK (.str "a")) (dV 0) (dK (.str "z"))))))])))) (U_ "BadName") ji)
noncomputable def Z3(C):=V4 [G] 0 (Vh C)
noncomputable def zm(C):=(j0 (zt (uR (Z3 C) [(fV 1)]) λ_ a=>S (.nx a))
 (j0 (jc (je (d2 (zY G) (dV 1) (d2 j3 (d1 (jR CH "now") (dV 0)) (dN 2)))) (U_ "Known") ji)
 (jc (je (d2 WH (j8 vr [(G,(d2 j3 (d1 (jR CH "now") (dV 0)) (dN 2)))]) (dN 8))) (U_ "Many") ji)))
noncomputable def JJ(C):=V4 [G,G] 0 (zm C)
noncomputable def Vi(C):=(jd (j8 J9 [(G,(d1 (jR C "kind_rows") (dV 0)))]))
noncomputable def yY(C):=J1 [G] 0 (Vi C)
noncomputable def gv(C):=(jd (Jd JB ZP (dN 0) (dV 1) (d1 (VC C "many" (yY C)) (dV 0))))
noncomputable def VM(C):=J1 [G,G] 0 (gv C)
noncomputable def zo(C):=(jd (j8 VT [(G,(dL (yc 1 [0] (Ji (dP 1)) (gN 0) jN (j8 (VM C) [(fV 1),(fV 0)]))))]))
noncomputable def yN(C):=J1 [G,G] 0 (zo C)
noncomputable def u5(C):=(j0 (jc (Jp (Jj (j8 (yN C) [(fV 0),(fV 1)]))) (U_ "NoKind") ji)
 (jc (je (d2 vV (j8 J9 [(fV 1)]) (d1 (jR C "size") (dV 0)))) (U_ "TooLong") ji))
noncomputable def u6(C):=V4 [G,G] 0 (u5 C)
noncomputable def va(C):=(j0 (jg 1 (d2 zh (jw [(B,(dN 0))]) (d1 (VC C "many" (yY C)) (dV 0))))
 (j0 (jg 2 (d2 zh (jw [(B,(dK (.bl G)))]) (j8 J9 [(G,(d1 (jR C "due_rows") (dV 0)))])))
 (jd (jw [(B,(dN 0)),(B,(ZZ (dN 1))),(B,(dN 0)),(B,(ZZ (dN 1))),(tC 1),(tC 2)]))))
noncomputable def vb(C):=J1 [G] 2 (va C)
noncomputable def Uz:=(gT 3 (gC (gN 4) (gC (gN 5) (gC (gN 6) gZ))))
noncomputable def UA(C:Addr):=(jc (J4 (je (d2 jD (dV 4) (dV 2))) (je (Jd JB JB (dV 5) (dV 3) (dV 6)))) (jd (dK (.bl B))) ji)
noncomputable def GA(C):=(j0 (jg 3 (d2 jG (d2 j3 (dV 1) (dN 0)) (dN 1)))
 (j0 (yC (Ji (d1 (jR C "bar_rows") (dV 0))) Uz (UA C))
 (jd (dK (.bl G)))))
noncomputable def GC(C):=J1 [G,G,G] 4 (GA C)
noncomputable def gw(C):=(jd (Yt (d2 jD (d2 j3 (dV 1) (dN 1)) (dV 2)) (d2 WH (d2 j3 (dV 1) (dN 2)) (d2 j3 (d2 j3 (d1 (jR C "kind_rows") (dV 0)) (dV 2)) (dN 1)))))
noncomputable def gy(C):=J1 [G,G,G] 0 (gw C)
noncomputable def Ua(C):=(j0 (jg 3 (d2 j3 (dV 1) (dN 1)))
 (j0 (jc (yA (je (d2 jD (dV 3) (dV 2))) (je (d2 jD (dV 3) (ZZ (dN 1))))) (jd (dK (.bl G))) ji)
 (jd (d2 ZP (d2 j3 (dV 1) (dN 2)) (d2 j3 (d2 j3 (d1 (jR C "kind_rows") (dV 0)) (dV 3)) (dN 0))))))
noncomputable def Ub(C):=J1 [G,G,G] 1 (Ua C)
noncomputable def Uc(C:Addr):=(jd (Yt (d2 Je (d2 j3 (dV 0) (dN 1)) (dV 1)) (d2 Je (d2 j3 (d2 j3 (dV 0) (dN 4)) (dV 1)) (dN 0))))
noncomputable def Ud(C):=J1 [G,G] 0 (Uc C)
noncomputable def uB:=(gT 3 (gC (gN 3) (gC (gN 4) (gC (gN 5) gZ))))
noncomputable def Zx(C:Addr):=(j0 (jg 6 (WL (je (d2 jD (dV 5) (dN 1))) (d2 j3 (dV 1) (dN 1)) (d2 j3 (dV 1) (dN 3))))
 (jc (J4 (je (d2 jD (dV 4) (dV 2))) (je (d2 jD (dV 6) (dV 3)))) (jd (dK (.bl B))) ji))
noncomputable def gz(C):=(j0 (yC (Ji (d1 (jR C "shun_rows") (dV 0))) uB (Zx C))
 (jd (dK (.bl G))))
noncomputable def gA(C):=J1 [G,G,G] 4 (gz C)
noncomputable def gB:=(gT 2 (gC (gN 5) (gC (gN 6) gZ)))
noncomputable def Vj(C:Addr):=(j0 (yB (dC 5) (gT 3 (gC (gN 7) (gC (gN 8) (gC (gN 9) gZ)))))
 (ZG 4 (WK (dV 6) (Yt (d2 jD (dV 7) (dV 2)) (Jd JB JB (dV 8) (dV 3) (dV 9))))))
noncomputable def Ue(C):=(j0 (jg 3 (d2 jG (d2 j3 (dV 1) (dN 0)) (dN 1)))
 (j0 (zH 4 (ju []))
 (j0 (yC (WO (d1 (jR C "due_rows") (dV 0)) (d2 j3 (dV 1) (dN 5))) gB (Vj C))
 (jd (j8 zR [(fV 4)])))))
noncomputable def vB(C):=J1 [G,G,G] 7 (Ue C)
noncomputable def uC:=(gT 2 (gC (gN 4) (gC (gN 5) gZ)))
noncomputable def uD(C:Addr):=(jc (J4 (je (d2 jD (d2 j3 (dV 4) (dN 2)) (dV 3))) (Jp (Jj (dV 5)))) (jd (dK (.bl B))) ji)
noncomputable def gD(C):=(j0 (jg 3 (d2 jG (d2 j3 (dV 1) (dN 0)) (dN 1)))
 (j0 (yC (WO (d1 (jR C "due_rows") (dV 0)) (j8 (vB C) [(fV 0),(fV 1),(fV 2)])) uC (uD C))
 (jd (dK (.bl G)))))
noncomputable def gE(C):=J1 [G,G,G] 3 (gD C)
noncomputable def Uf(C:Addr):=(j0 (jc (je (d2 jD (d2 j3 (dV 0) (dN 1)) (dV 1))) (jd (d2 jG (d2 j3 (dV 0) (dN 2)) (dN 1))) ji)
 (jd (dN 1)))
noncomputable def vC(C):=J1 [G,G] 0 (Uf C)
noncomputable def GY(C):=(j0 (jc (je (d2 Je (d2 jG (d2 j3 (dV 1) (dN 0)) (dN 1)) (d1 (jR C "size") (dV 0)))) (jd (dK (.bl G))) ji)
 (jd (d2 ZP (j8 (vC C) [(fV 1),(fV 2)]) (d2 j3 (d2 j3 (d1 (jR C "kind_rows") (dV 0)) (dV 2)) (dN 0)))))
noncomputable def GZ(C):=J1 [G,G,G] 0 (GY C)
noncomputable def qM(C):=(j0 (jc (Jj (j8 (GC C) [(fV 0),(fV 1),(fV 2)])) (jd (dK (.str "barred"))) ji)
 (j0 (jc (Jj (j8 (gy C) [(fV 0),(fV 1),(fV 2)])) (jd (dK (.str "long"))) ji)
 (j0 (jc (Jj (j8 (Ub C) [(fV 0),(fV 1),(fV 2)])) (jd (dK (.str "short"))) ji)
 (j0 (jc (Jj (j8 (Ud C) [(fV 1),(fV 2)])) (jd (dK (.str "early"))) ji)
 (j0 (jc (Jj (j8 (gA C) [(fV 0),(fV 1),(fV 2)])) (jd (dK (.str "shun"))) ji)
 (j0 (jc (Jj (j8 (gE C) [(fV 0),(fV 1),(fV 2)])) (jd (dK (.str "due"))) ji)
 (j0 (jc (Jj (j8 (GZ C) [(fV 0),(fV 1),(fV 2)])) (jd (dK (.str "cut"))) ji)
 (jd (dK .non)))))))))
noncomputable def G_(C):=J1 [G,G,G] 0 (qM C)
noncomputable def Vk(C):=(j0 (jg 3 (d2 j3 (dV 1) (dN 1)))
 (j0 (zH 4 (yc 1 [] (Ji (d2 j3 (dV 1) (dN 4))) (gN 0) jN (j8 VS [(G,(d2 zg (dV 0) (dN 1))),(G,(dN 0))])))
 (j0 (jc (je (d2 Je (dV 3) (ZZ (dN 1)))) (kP 4 (dV 3) (j8 VS [(G,(d2 zg (d2 j3 (d2 j3 (d1 (jR C "kind_rows") (dV 0)) (dV 3)) (dN 2)) (dN 1))),(G,(dN 0))])) ji)
 (j0 (kP 4 (dV 2) (dN 0))
 (jd (j8 zR [(fV 4)]))))))
noncomputable def Vl(C):=J1 [G,G,G] 2 (Vk C)
noncomputable def Vm(C):=(j0 (jg 3 (j8 (vC C) [(fV 1),(fV 2)]))
 (j0 (jg 4 (j8 (Vl C) [(fV 0),(fV 1),(fV 2)]))
 (j0 (jg 5 (j8 (vB C) [(fV 0),(fV 1),(fV 2)]))
 (jd (jw [(B,(d2 jG (d2 j3 (dV 1) (dN 0)) (dN 1))),(tC 2),(tC 3),(B,(d2 j3 (dV 1) (dN 1))),(tC 4),(tC 5)])))))
noncomputable def Z4(C):=J1 [G,G,B] 3 (Vm C)
noncomputable def vF:=(gN 3)
noncomputable def vG(C):=(j0 (jg 4 (j8 (G_ C) [(fV 0),(fV 2),(fV 3)]))
 (j0 (jc (je (d2 YX (dV 4) (dK .non))) (jd (jw [(tC 2),(tC 4)])) ji)
 (jg 2 (j8 (Z4 C) [(fV 0),(fV 2),(tC 3)]))))
noncomputable def k7(C):=(j0 (jg 2 (j8 (vb C) [(fV 0)]))
 (j0 (yC (Ji (dP 1)) vF (vG C))
 (jd (jw [(tC 2),(B,(dK .non))]))))
noncomputable def ka(C):=J1 [G,G] 3 (k7 C)
noncomputable def Ug(C):=(j0 (zt (uR (u6 C) [(fV 0),(fV 1)]) λ_ a=>S (.nx a))
 (j0 (yB (j8 (ka C) [(fV 0),(fV 1)]) (gT 2 (gC (gN 2) (gC (gN 3) gZ))))
 (j0 (jc (je (d2 YX (dV 3) (dK .non))) (Bc "Broken" ["place","word"] [(B,(d2 jG (d2 j3 (dV 2) (dN 0)) (dN 1))),(tC 3)]) ji)
 (jd (dC 2)))))
noncomputable def vH(C):=V4 [G,G] 2 (Ug C)
noncomputable def kb(C:Addr):=(yK (yc 2 [] (Ji (dP 0)) (gT 2 (gC (gN 0) (gC (gN 1) gZ))) jN (dC 1)))
noncomputable def ke(C):=V0 [G] 0 (kb C)
noncomputable def gF(C):=(j0 (jc (yA (je (d2 WH (d2 j3 (dV 1) (dN 0)) (d1 (jR C "size") (dV 0)))) (je (d2 YX (j8 (G_ C) [(fV 0),(fV 1),(fV 2)]) (dK .non)))) (jd (dK .non)) ji)
 (jd (j8 (Z4 C) [(fV 0),(fV 1),(tC 2)])))
noncomputable def gG(C):=J1 [G,G,B] 0 (gF C)
noncomputable def uE:=(gN 3)
noncomputable def zb(C):=(j0 (jg 4 (j8 (gG C) [(fV 0),(fV 1),(tC 3)]))
 (jc (je (d2 YX (dV 4) (dK .non))) (ZG 2 (jw [(tC 3),(tC 4)])) ji))
noncomputable def Vn(C):=(j0 (zH 2 (ju []))
 (j0 (yC (YZ (d1 (VC C "many" (yY C)) (dV 0))) uE (zb C))
 (W8 2)))
noncomputable def Vo(C):=V0 [G,G] 3 (Vn C)
noncomputable def Zy(C:Addr)(F:L D->Y D):DS.DS:=j0 (jc (je (d2 jD (d2 j3 (dV 1) (dN 0)) (d1 (jR C "size") (dV 0)))) (jd (dK (.bl B))) ji) (Wc 1 2 3 (dL (jS (Vo C) [(G,dV 0),(G,dV 1)])) (j8 F [(G,dV 0),(G,dL (yc 2 [] (Ji (dP 3)) (gT 2 (gC (gN 0) (gC (gN 1) gZ))) jN (dC 1))),(B,dC 2)]))
noncomputable def Wh(F:L D->Y D):DS.DS:=jc (Jj (j8 F [(G,dV 0),(G,dV 3),(B,dC 2)])) (jd (dK (.bl B))) ji
noncomputable def JV(F:L D->Y D):DS.DS:=j0 (yC (Ji (dP 1)) (gN 3) (Wh F)) (jd (dK (.bl G)))
noncomputable def G1(C:Addr):Nat->L D->Y D
 |0=>λ_=>J
 |m+1=>J1 [G,G,B] 1 (Zy C (J1 [G,G,B] 1 (JV (G1 C m))))
noncomputable def G2(C m):=J1 [G,G,B] 1 (JV (G1 C m))
noncomputable def uF(C):=G1 C 9
noncomputable def JW(C):=(j0 (yB (d1 (jR CH "now") (dV 0)) (gT 3 (gC (gN 2) (gC (gN 3) (gC (gN 4) gZ)))))
 (j0 (zt (uR (vH C) [(fV 2),(G,(dL (jS (ke C) [(fV 1)])))]) λd a=>S (.nx (a.set 5 (.cl d))))
 (jc (Jp (Jj (j8 (uF C) [(fV 2),(fV 5),(tC 3)]))) (U_ "Stuck") ji)))
noncomputable def JX(C):=V4 [G,G] 4 (JW C)
noncomputable def Uh(C:Addr):=(j0 (Wa 0 CH "done" (jw [(tC 1),(B,(d1 (jR CH "now") (dV 0)))]))
 (j0 (Gd 0 CH "undone" (ju []))
 (Gc 0 CH "now" (dC 2))))
noncomputable def Ui(C:Addr):HS->L D->Y (Rx×HS):=zX [B,B] 0 (Uh C)
noncomputable def ZM(C):=(j0 (yB (d1 (jR CH "now") (dV 0)) (gT 3 (gC (gN 5) (gC (gN 6) (gC (gN 7) gZ)))))
 (j0 (zH 8 (jS uk [(fV 7)]))
 (j0 (uV 8 (dC 2) (jw [(tC 3),(tC 4)]))
 (ZQ 8 (zP (zu 0 CH "do" (Ui C) [(tC 1),(B,(jw [(tC 5),(tC 6),(tC 8)]))]) λ_ a=>S (.nx a))))))
noncomputable def ZN(C:Addr):HS->L D->Y (Rx×HS):=zX [B,B,B,B] 4 (ZM C)
noncomputable def Ye(C):=(j0 (zt (JM CH "check_new" (JJ C) (dV 0) [(fV 1)]) λ_ a=>S (.nx a))
 (j0 (zt (JM CH "check_ends" (JX C) (dV 0) [(G,(jw []))]) λ_ a=>S (.nx a))
 (zP (zu 0 CH "put" (ZN C) [(B,(jw [(B,(dK (.str "begin"))),(tC 1)])),(tC 1),(B,(jw [])),(B,(dN 0))]) λ_ a=>S (.nx a))))
noncomputable def UB(C:Addr):HS->L D->Y (Rx×HS):=zX [B] 0 (Ye C)
noncomputable def vc(C:Addr):=(j0 (jg 2 (d2 j3 (d1 (jR CH "now") (dV 0)) (dN 2)))
 (j0 (jc (je (d2 (zY B) (dV 1) (dV 2))) (U_ "NoName") ji)
 (jd (d2 z9 (dV 2) (dV 1)))))
noncomputable def Jf(C):=V4 [G,G] 1 (vc C)
noncomputable def Yg(C):=(j0 (zt (JM CH "sheet" (Jf C) (dV 0) [(fV 1)]) λd a=>((gT 2 (gC (gN 4) (gC (gN 5) gZ))) d a).bind λb=>S (.nx b))
 (j0 (zt (uR (Z3 C) [(fV 2)]) λ_ a=>S (.nx a))
 (j0 (jc (je (d2 jD (j8 J9 [(fV 4)]) (d1 (jR C "size") (d2 j3 (d1 (jR CH "now") (dV 0)) (dN 0))))) (U_ "Whole") ji)
 (j0 (jc (J4 (Jj (dV 4)) (je (d2 jD (d2 j3 (d2 j3 (dV 4) (ZZ (dN 1))) (dN 0)) (dV 2)))) (U_ "SamePoet") ji)
 (j0 (jg 6 (d2 jG (dV 4) (jw [(B,(jw [(tC 2),(tC 3)]))])))
 (j0 (zt (JM CH "check_ends" (JX C) (dV 0) [(fV 6)]) λ_ a=>S (.nx a))
 (zP (zu 0 CH "put" (ZN C) [(B,(jw [(B,(dK (.str "offer"))),(tC 1),(tC 2),(tC 3)])),(tC 1),(tC 6),(tC 5)]) λ_ a=>S (.nx a))))))))
noncomputable def UC(C:Addr):HS->L D->Y (Rx×HS):=zX [B,B,B] 3 (Yg C)
noncomputable def YJ(C):=(j0 (zt (JM CH "sheet" (Jf C) (dV 0) [(fV 1)]) λd a=>((gT 2 (gC (gN 3) (gC (gN 4) gZ))) d a).bind λb=>S (.nx b))
 (j0 (zt (JM CH "check_new" (JJ C) (dV 0) [(fV 2)]) λ_ a=>S (.nx a))
 (zP (zu 0 CH "put" (ZN C) [(B,(jw [(B,(dK (.str "fork"))),(tC 1),(tC 2)])),(tC 2),(tC 3),(tC 4)]) λ_ a=>S (.nx a))))
noncomputable def gJ(C:Addr):HS->L D->Y (Rx×HS):=zX [B,B] 2 (YJ C)
noncomputable def JH(C):=(j0 (jc (je (d2 jD (d2 j3 (dV 2) (dN 0)) (dK (.str "begin")))) (zP (zu 0 CH "begin" (UB C) [(B,(d2 j3 (dV 2) (dN 1)))]) λd a=>S (.rh d a)) ji)
 (j0 (jc (je (d2 jD (d2 j3 (dV 2) (dN 0)) (dK (.str "offer")))) (zP (zu 0 CH "offer" (UC C) [(B,(d2 j3 (dV 2) (dN 1))),(B,(d2 j3 (dV 2) (dN 2))),(B,(d2 j3 (dV 2) (dN 3)))]) λd a=>S (.rh d a)) ji)
 (j0 (jc (je (d2 jD (d2 j3 (dV 2) (dN 0)) (dK (.str "take")))) Ja ji)
 (j0 (jc (je (d2 jD (d2 j3 (dV 2) (dN 0)) (dK (.str "amend")))) Ja ji)
 (j0 (jc (je (d2 jD (d2 j3 (dV 2) (dN 0)) (dK (.str "turn")))) Ja ji)
 (j0 (jc (je (d2 jD (d2 j3 (dV 2) (dN 0)) (dK (.str "fork")))) (zP (zu 0 CH "fork" (gJ C) [(B,(d2 j3 (dV 2) (dN 1))),(B,(d2 j3 (dV 2) (dN 2)))]) λd a=>S (.rh d a)) ji)
 (j0 (jc (je (d2 jD (d2 j3 (dV 2) (dN 0)) (dK (.str "drop")))) Ja ji)
 Ja)))))))
noncomputable def Z5(C:Addr):HS->L D->Y (Rx×HS):=zX [B,B] 0 (JH C)
noncomputable def YK(C:Addr):=(j0 (jg 1 (dL (ju [(B,(dK (.str "BadName"))),(B,(dK (.str "Known"))),(B,(dK (.str "NoName"))),(B,(dK (.str "Many"))),(B,(dK (.str "Whole"))),(B,(dK (.str "SamePoet"))),(B,(dK (.str "NoKind"))),(B,(dK (.str "Stuck"))),(B,(dK (.str "Turned"))),(B,(dK (.str "NoPlace")))])))
 (j0 (jc (je (d2 jD (dV 0) (dK (.str "")))) (yK (ju [])) ji)
 (yK (yc 1 [0] (Ji (dL (yx JN (dV 1) (dL (ju [(B,(dK (.str "Broken"))),(B,(dK (.str "Stranded")))]))))) (gN 0) jN (d2 jD (dV 0) (dV 1))))))
noncomputable def YL(C):=V0 [G] 1 (YK C)
noncomputable def UD(C:Addr):=(j0 (jg 1 (dL (ju [(B,(dK (.str "BadName"))),(B,(dK (.str "Known"))),(B,(dK (.str "NoName"))),(B,(dK (.str "Many"))),(B,(dK (.str "Whole"))),(B,(dK (.str "SamePoet"))),(B,(dK (.str "NoKind"))),(B,(dK (.str "Stuck"))),(B,(dK (.str "Turned"))),(B,(dK (.str "NoPlace")))])))
 (j0 (jc (je (d2 vW (dV 0) (dK (.str "")))) (jd (dL (ju []))) ji)
 (jd (dL (yc 1 [0] (XH (dL (yx JN (dV 1) (dL (ju [(B,(dK (.str "Broken"))),(B,(dK (.str "Stranded")))]))))) (gN 0) jN (d2 vW (dV 0) (dV 1)))))))
noncomputable def zE(C):=J1 [G] 1 (UD C)
noncomputable def Z6(C):=(j0 (jg 3 (dL (ju [])))
 (j0 (jg 4 (dK .non))
 (j0 (jg 5 (dK .non))
 (j0 (VI (y9 0 (Z5 C) [(tC 1),(tC 2)]) (zP (y9 0 (VH (Z5 C)) [(tC 1),(tC 2)]) λd a=>S (.nx (a.set 5 (.cl d)))) [#[["Broken"],["BadRules","NoKind","TooLong","BadName","Known","NoName","Many","Whole","SamePoet","Stuck","Turned","NoPlace","NothingLeft","Stranded"],6,(j0 (uW 6 3 (zE C) "Broken") (jg 4 (jw [(B,(d1 (g6 qL "place") (dV 6))),(B,(d1 (g6 qL "word") (dV 6)))])))],#[["Stranded"],["BadRules","NoKind","TooLong","BadName","Known","NoName","Many","Whole","SamePoet","Stuck","Turned","NoPlace","NothingLeft","Broken"],6,(j0 (uW 6 3 (zE C) "Stranded") (jg 4 (d1 (g6 qL "name") (dV 6))))],#[["BadRules","NoKind","TooLong","BadName","Known","NoName","Many","Whole","SamePoet","Stuck","Turned","NoPlace","NothingLeft","Broken","Stranded"],[],6,(j0 (jg 3 (dL (ju [(B,(d1 (yj zA "BadName") (dV 6))),(B,(d1 (yj zA "Known") (dV 6))),(B,(d1 (yj zA "NoName") (dV 6))),(B,(d1 (yj zA "Many") (dV 6)))])))
 (j0 (jg 3 (dL (yx JN (dV 3) (dL (ju [(B,(d1 (yj zA "Whole") (dV 6))),(B,(d1 (yj zA "SamePoet") (dV 6))),(B,(d1 (yj zA "NoKind") (dV 6))),(B,(d1 (yj zA "Stuck") (dV 6)))])))))
 (jg 3 (dL (yx JN (dV 3) (dL (ju [(B,(d1 (yj zA "Turned") (dV 6))),(B,(d1 (yj zA "NoPlace") (dV 6))),(B,(dK (.bl G))),(B,(dK (.bl G)))])))))))]])
 (Xu (jw [(tC 5),(tC 3),(tC 4)]))))))
noncomputable def gK(C:Addr):HS->L D->Y (Rx×HS):=zX [B,B] 4 (Z6 C)
noncomputable def ZO(C:Addr)(a:L D->Y D):DS.DS:=(j0 (jc (je (d2 GK (dV 1) (dK .non))) (jd (d2 GK (dV 0) (dK .non))) ji)
 (j0 (jc (Jj (d1 Xs (dV 1))) (j0 (jc (yA (je (d2 Je (d1 (v3 "list") (dV 0)) (d1 (v3 "list") (dV 1)))) (je (d2 Je (d1 (v3 "tuple") (dV 0)) (d1 (v3 "tuple") (dV 1))))) (jd (dK (.bl G))) ji)
 (jd (Yt (d2 jD (j8 J9 [(fV 0)]) (j8 J9 [(fV 1)])) (j8 VT [(G,(dL (yc 2 [] (WO (dP 0) (dP 1)) (gT 2 (gC (gN 0) (gC (gN 1) gZ))) jN (j8 a [(fV 0),(fV 1)]))))])))) ji)
 (j0 (jc (yA (je (d2 Je (d1 (v3 "bool") (dV 0)) (d1 (v3 "bool") (dV 1)))) (je (d2 Je (d1 (v3 "str") (dV 0)) (d1 (v3 "str") (dV 1))))) (jd (dK (.bl G))) ji)
 (jd (Yt (d2 jD (d1 (v3 "int") (dV 0)) (d1 (v3 "int") (dV 1))) (d2 jD (dV 0) (dV 1)))))))
noncomputable def jL(C:Addr):Nat->L D->Y D
 |0=>λ_=>J
 |n+1=>J1 [G,G] 0 (ZO C (jL C n))
noncomputable def vd(C:Addr):=(j0 (yB (dC 0) (gT 2 (gC (gN 2) (gC (gN 3) gZ))))
 (j0 (zH 3 (jS uk [(fV 3)]))
 (j0 (jc (je (d2 jD (d2 j3 (dV 1) (dN 0)) (dK (.str "change")))) Ja ji)
 (j0 (jc (je (d2 jD (d2 j3 (dV 1) (dN 0)) (dK (.str "begin")))) (j0 (uV 3 (d2 j3 (dV 1) (dN 1)) (jw [(B,(dL (ju []))),(B,(dN 0))]))
 (ZQ 3 (jd (jw [(tC 2),(tC 3)])))) ji)
 (j0 (yB (d2 z9 (dV 3) (d2 j3 (dV 1) (dN 1))) (gT 2 (gC (gN 4) (gC (gN 5) gZ))))
 (j0 (jc (je (d2 jD (d2 j3 (dV 1) (dN 0)) (dK (.str "offer")))) (uV 3 (d2 j3 (dV 1) (dN 1)) (jw [(B,(dL (yx JN (dV 4) (dL (ju [(B,(jw [(B,(d2 j3 (dV 1) (dN 2))),(B,(d2 j3 (dV 1) (dN 3)))]))]))))),(tC 5)])) ji)
 (j0 (jc (je (d2 jD (d2 j3 (dV 1) (dN 0)) (dK (.str "take")))) Ja ji)
 (j0 (jc (je (d2 jD (d2 j3 (dV 1) (dN 0)) (dK (.str "amend")))) Ja ji)
 (j0 (jc (je (d2 jD (d2 j3 (dV 1) (dN 0)) (dK (.str "turn")))) Ja ji)
 (j0 (jc (je (d2 jD (d2 j3 (dV 1) (dN 0)) (dK (.str "fork")))) (ZQ 4 (uV 3 (d2 j3 (dV 1) (dN 2)) (jw [(tC 4),(tC 5)]))) ji)
 (j0 (jc (je (d2 jD (d2 j3 (dV 1) (dN 0)) (dK (.str "drop")))) Ja ji)
 (ZQ 3 (jd (jw [(tC 2),(tC 3)]))))))))))))))
noncomputable def vf(C):=J1 [B,G] 4 (vd C)
noncomputable def vg(C:Addr):=(jd (d2 j3 (d1 (jR CH "now") (dV 0)) (dN 0)))
noncomputable def zF(C):=V4 [G] 0 (vg C)
noncomputable def vh(C):=(yK (jS yy [(G,(d1 (jR C "kind_rows") (dV 0)))]))
noncomputable def Yh(C):=V0 [G] 0 (vh C)
noncomputable def vi(C):=(yK (jS yy [(G,(d1 (jR C "shun_rows") (dV 0)))]))
noncomputable def Yi(C):=V0 [G] 0 (vi C)
noncomputable def Vp(C):=(yK (jS yy [(G,(d1 (jR C "bar_rows") (dV 0)))]))
noncomputable def YM(C):=V0 [G] 0 (Vp C)
noncomputable def Vq(C):=(yK (jS yy [(G,(d1 (jR C "due_rows") (dV 0)))]))
noncomputable def YN(C):=V0 [G] 0 (Vq C)
noncomputable def vj(C:Addr):=(jd (dL (jS YC [(G,(d2 j3 (d1 (jR CH "now") (dV 0)) (dN 2)))])))
noncomputable def Yj(C):=V4 [G] 0 (vj C)
noncomputable def Zz(C):=(jd (dL (jS yy [(G,(d2 j3 (gf (JM CH "sheet" (Jf C) (dV 0) [(fV 1)])) (dN 0)))])))
noncomputable def zc(C):=V4 [G,G] 0 (Zz C)
noncomputable def ZA(C):=(zt (Bl (JM CH "sheet" (Jf C) (dV 0) [(fV 1)]) (dN 1)) λd _=>S (.rt d))
noncomputable def zd(C):=V4 [G,G] 0 (ZA C)
noncomputable def uG:=(gN 7)
noncomputable def uH(C):=(j0 (yB (d2 z9 (dV 4) (dV 7)) (gT 2 (gC (gN 8) (gC (gN 9) gZ))))
 (jc (yA (Jp (Jj (j8 (jL C 6) [(G,(gf (JM CH "verses" (zc C) (dV 0) [(fV 7)]))),(fV 8)]))) (Jp (Jj (j8 (jL C 6) [(G,(gf (JM CH "turned" (zd C) (dV 0) [(fV 7)]))),(fV 9)])))) (jd (dK (.bl G))) ji))
noncomputable def Vr(C):=(j0 (yB (dC 2) (gT 2 (gC (gN 3) (gC (gN 4) gZ))))
 (j0 (jg 5 (gf (JM CH "rules" (zF C) (dV 0) [])))
 (j0 (jg 6 (dL (ju [(B,(d1 (jR C "size") (dV 5))),(B,(dL (Gw (Yd C "kinds" (Yh C)) (dV 5)))),(B,(dL (Gw (Yd C "shuns" (Yi C)) (dV 5)))),(B,(dL (Gw (Yd C "bars" (YM C)) (dV 5)))),(B,(dL (Gw (Yd C "dues" (YN C)) (dV 5))))])))
 (j0 (jc (yA (je (d2 Je (dV 6) (dL (jS yy [(G,(d2 j3 (dV 1) (dV 3)))])))) (Jp (Jj (j8 (jL C 6) [(G,(gf (JM CH "names" (Yj C) (dV 0) []))),(G,(dL (jS YC [(fV 4)])))])))) (jd (dK (.bl G))) ji)
 (j0 (yC (Ji (dL (jS YC [(fV 4)]))) uG (uH C))
 (jd (dK (.bl B))))))))
noncomputable def Vs(C):=J1 [G,G,B] 7 (Vr C)
noncomputable def QZ:=(gN 8)
noncomputable def KR(C):=(j0 (jg 9 (j8 (u4 C) [(fV 2),(tC 6),(fV 4),(G,(dL (Jz (dV 1) (λa=>((d2 jG (dN 145) (d2 zh (dN 5) (dV 8))) a).bind yi) (λ_=>S J)))),(fV 7)]))
 (j0 (yB (j8 (uA C) [(fV 2),(tC 6),(tC 9)]) (gT 2 (gC (gN 10) (gC (gN 11) gZ))))
 (j0 (zP (y9 5 (VH (gK C)) [(tC 3),(tC 9)]) λd a=>((gT 3 (gC (gN 12) (gC (gN 13) (gC (gN 14) gZ)))) d a).bind λb=>S (.nx b))
 (j0 (jc (yA (je (d2 YX (dV 12) (dK .non))) (yA (je (d2 Je (dV 13) (dL (jS (YL C) [(fV 10)])))) (Jp (Jj (j8 (jL C 6) [(fV 14),(fV 11)]))))) (jd (dK (.bl G))) ji)
 (j0 (jc (je (d2 jD (dV 10) (dK (.str "")))) (jg 6 (j8 (vf C) [(tC 6),(fV 9)])) ji)
 (j0 (jg 15 (d2 jD (d2 jt (d2 jG (dV 8) (d2 j3 (dV 1) (dN 142))) (d2 jG (dN 1) (d2 jt (d2 j3 (dV 1) (dN 143)) (dN 4)))) (dN 0)))
 (jc (J4 (Jj (dV 15)) (Jp (Jj (j8 (Vs C) [(fV 5),(fV 2),(tC 6)])))) (jd (dK (.bl G))) ji)))))))
noncomputable def XQ(C):=(j0 (jg 1 (dL (jS (Zp C) [(fV 0),(G,(dN 280))])))
 (j0 (jg 2 (dL (jS (gk C) [(fV 1),(G,(dN 6))])))
 (j0 (jg 3 (dL (yc 1 [] (Ji (dP 2)) (gN 0) jN (dL (jS (Yn C) [(fV 0)])))))
 (j0 (jg 4 (dL (jS (gq C) [(G,(dL (Jz (dV 1) (λa=>((dN 131) a).bind yi) (λ_=>S J))))])))
 (j0 (gc 5 CH (Vb C) [(B,(d2 j3 (dV 3) (dN 0)))])
 (j0 (jg 6 (jw [(B,(dN 0)),(B,(dL Wb))]))
 (j0 (jg 7 (dL (yx ge (dK (.str "offer begin offer offer offer offer offer fork offer offer")) (dK (.str " ")))))
 (j0 (yC (YZ (d2 jG (dN 1) (d2 jt (d2 j3 (dV 1) (dN 141)) (dN 26)))) QZ (KR C))
 (jd (j8 (Vs C) [(fV 5),(fV 2),(tC 6)]))))))))))
noncomputable def XR(C):=J1 [G] 15 (XQ C)
end M
noncomputable section
namespace M
open PySem L2 DS CP
noncomputable def top(i):=PySem.Challenge.pw_moonseat_k30_verses_offered.main.body.getD i (.Pass #[0,0,0,0])
noncomputable def dF(i f k:Nat)(d:L Nat)(b:DS.DS)(c:L ((Nat×Nat×Nat)×L Nat):=[])(e:L (Nat×Nat):=[])(a:L Nat:=[]):Df:=#[top i,sN (top i),f,G,k==1,d.map (Nat.beq 1),b,c,e,a,k==2]
noncomputable def dM(i j:Nat)(q:Str)(f k:Nat)(d:L Nat)(b:DS.DS)(c:L ((Nat×Nat×Nat)×L Nat):=[])(e:L (Nat×Nat):=[])(a:L Nat:=[]):Df:=#[inClass (top i) j,q,f,B,k==1,d.map (Nat.beq 1),b,c,e,a,k==2]
noncomputable def xt:XT:={ex:=zA,ct:=[("Broken",["Broken"],["BadRules","NoKind","TooLong","BadName","Known","NoName","Many","Whole","SamePoet","Stuck","Turned","NoPlace","NothingLeft","Stranded"]),("Stranded",["Stranded"],["BadRules","NoKind","TooLong","BadName","Known","NoName","Many","Whole","SamePoet","Stuck","Turned","NoPlace","NothingLeft","Broken"]),("VerseError",["BadRules","NoKind","TooLong","BadName","Known","NoName","Many","Whole","SamePoet","Stuck","Turned","NoPlace","NothingLeft","Broken","Stranded"],[])],xf:=qL,xp:=["BadRules","NoKind","TooLong","BadName","Known","NoName","Many","Whole","SamePoet","Stuck","Turned","NoPlace","NothingLeft"],xq:=[("Broken",["place","word"]),("Stranded",["name"])]}
noncomputable def Nu:L (Str×GI):=[("MOST_SHEETS",.con 8),("MOST_LETTERS",.con 8),("MOST_SIZE",.con 30),("MOST_KINDS",.con 4),("MOST_SHUNS",.con 20),("MOST_BARS",.con 12),("MOST_DUES",.con 3),("MOST_RUN",.con 4),("MOST_REST",.con 4),("MOST_FAR",.con 2),("all",.blt),("bool",.blt),("dict",.blt),("int",.blt),("isinstance",.blt),("len",.blt),("list",.blt),("max",.blt),("range",.blt),("str",.blt)]
noncomputable def Nv:L (Str×GI):=[("tuple",.blt),("zip",.blt)]
noncomputable def gM:Tb:={C:=679,gs:=Nu++Nv,ms:=[],fl:=["size","kind_rows","shun_rows","bar_rows","due_rows"],xt:=xt,hC:=590,hfl:=["opened","now"],hls:=["done","undone"],tb:=CY}
noncomputable def l0:=[dF 66 690 1 [0,0] (Zo 679) [] [] [2],
 dF 68 702 0 [0,0] (VV 679) [] [(422,4)] [4],
 dF 70 716 1 [0,0] (YH 679) [((430,50,125),[]),((432,81,116),[]),((435,33,89),[])],
 dF 62 622 0 [0,0,0,0,0] (v6 679),
 dF 59 601 0 [1] (VX 679),
 dF 60 608 0 [1,0] (VY 679),
 dF 61 615 0 [1,0,0] (VZ 679),
 dF 63 627 0 [0,0,0,0,0] (V_ 679) [((353,15,54),[5]),((355,54,65),[]),((355,15,66),[5,0])]]
noncomputable def iV:=gM.adds 2 l0
noncomputable def x1:=dM 64 0 "Rules.__init__" 641 0 [1,0,0,0,0] (Y7 679) [] [] [0]
noncomputable def iW:=iV.ag "Rules" (.mk 19 x1.de.ps x1.de.ks (yM 679) (yp 679))
noncomputable def l2:=[dF 69 709 1 [0] (u3 679),
 dF 71 721 0 [0] (Gz 679) [((440,20,92),[9]),((440,19,124),[1,0])],
 dF 72 726 1 [0] (JU 679) [((442,15,122),[]),((442,15,65),[0]),((444,20,35),[9]),((444,38,58),[9]),((444,19,83),[1]),((445,11,94),[]),((445,11,79),[])]]
noncomputable def iX:=iW.adds 20 l2
noncomputable def x3:=dM 49 0 "House.__init__" 407 2 [1] (Y8 679) [((183,27,29),[8,1]),((183,31,33),[7])]
noncomputable def iY:=iX.ah "House" (.mH 27 x3.de.ps [B] 590 (zX [B] x3.de.lo.length x3.b))
noncomputable def l4:=[dF 87 825 0 [0,1,0,0,0] (zB 679) [((588,16,33),[7])] [(606,1000),(610,1000)],
 dF 78 764 0 [0] (U5 679) [((503,116,130),[9]),((503,57,98),[9]),((503,20,39),[9])],
 dF 79 771 0 [0,0] (U7 679) [((507,7,36),[7]),((509,21,37),[7])],
 dF 73 733 0 [0,0] (U9 679),
 dF 74 740 0 [0,0,0] (vl 679),
 dF 75 747 0 [0,0,0] (gr 679),
 dF 76 754 0 [0,0] (v8 679),
 dF 77 759 0 [0,0] (Vd 679) [((489,44,128),[0]),((499,42,64),[]),((500,33,55),[])] [] [3],
 dF 80 778 0 [0,0,0] (YI 679),
 dF 81 783 1 [0] (Vf 679),
 dF 82 790 0 [0,0,0] (Zv 679) [((526,44,88),[])],
 dF 85 811 0 [0,1,1] (Zw 679) [((550,7,43),[7]),((552,29,59),[7])] [(544,1000),(556,1000)],
 dF 46 381 2 [0] (Vh 679) [((169,85,89),[9]),((169,54,72),[9]),((169,16,25),[9])]]
noncomputable def iZ:=iY.adds 28 l4
noncomputable def l5:L Dh:=[#[dM 49 3 "House.check_new" 428 2 [0,0] (zm 679) [((198,11,30),[7]),((200,11,27),[7])],G]]
noncomputable def i_:=iZ.addsB 54 l5
noncomputable def l6:=[dM 64 5 "Rules.many" 676 0 [0] (Vi 679),
 dF 35 338 0 [0,0] (gv 679),
 dF 36 343 0 [0,0] (zo 679) [((132,15,57),[0])],
 dF 37 350 2 [0,0] (u5 679),
 dF 19 235 0 [0] (va 679),
 dF 24 268 0 [0,0,0] (GA 679),
 dF 25 275 0 [0,0,0] (gw 679),
 dF 26 282 0 [0,0,0] (Ua 679),
 dF 27 289 0 [0,0] (Uc 679),
 dF 28 296 0 [0,0,0] (gz 679),
 dF 22 254 0 [0,0,0] (Ue 679) [] [] [4],
 dF 29 303 0 [0,0,0] (gD 679),
 dF 20 242 0 [0,0] (Uf 679),
 dF 30 310 0 [0,0,0] (GY 679),
 dF 31 317 0 [0,0,0] (qM 679),
 dF 21 247 0 [0,0,0] (Vk 679) [] [] [4],
 dF 23 261 0 [0,0,1] (Vm 679),
 dF 38 357 0 [0,0] (k7 679),
 dF 39 364 2 [0,0] (Ug 679),
 dF 47 386 1 [0] (kb 679),
 dF 32 324 0 [0,0,1] (gF 679),
 dF 33 331 1 [0,0] (Vn 679) [] [] [2]]
noncomputable def CZ:=i_.adds 56 l6
noncomputable def x7:=dF 41 369 0 [0,0,1] ji [] [(156,1001)]
noncomputable def y7:=dF 42 376 0 [0,0,1] ji
noncomputable def I0:=CZ.ag "can_be_ended" (.fE (100+2*9) x7.de.ps x7.de.ks (G1 679 9))
noncomputable def l8:L Dh:=[#[dM 49 4 "House.check_ends" 435 2 [0,0] (JW 679),G],
 #[dM 49 5 "House.do" 442 2 [1,1] (Uh 679),B],
 #[dM 49 6 "House.put" 449 2 [1,1,1,1] (ZM 679) [((217,8,19),[7])] [(218,8)] [8],B],
 #[dM 49 7 "House.begin" 456 2 [1] (Ye 679),B],
 #[dM 49 1 "House.sheet" 414 2 [0,0] (vc 679) [((189,11,29),[7]),((191,15,27),[7])],G],
 #[dM 49 8 "House.offer" 463 2 [1,1,1] (Yg 679),B],
 #[dM 49 12 "House.fork" 491 2 [1,1] (YJ 679),B]]
noncomputable def Ia:=I0.addsB 118 l8
noncomputable def x9:=dF 88 832 2 [1,1] (JH 679) [] [(617,1000),(619,1000),(621,1000),(625,1000),(626,1000)]
noncomputable def BB:=Ia.ag "_law_act" (.fH 133 x9.de.ps x9.ks (zX x9.ks x9.de.lo.length x9.b))
noncomputable def Q_:=[dF 89 837 1 [0] (YK 679) [((631,62,102),[]),((631,11,103),[0])]]
noncomputable def BC:=BB.adds 134 Q_
noncomputable def UE:=dF 89 837 0 [0] (UD 679) [((631,62,102),[]),((631,11,103),[0])]
noncomputable def BD:=BC.as "_law_marks" (J1 UE.ks UE.de.lo.length UE.b)
noncomputable def gO:=dF 90 844 2 [1,1] (Z6 679) [((646,26,136),[]),((647,26,105),[]),((648,11,52),[11])]
noncomputable def BE:=BD.ag "_law_tried" (.fH 137 gO.de.ps gO.ks (zX gO.ks gO.de.lo.length gO.b))
noncomputable def kZ:=dF 67 695 0 [0,0] ji
noncomputable def BF:=BE.ag "_law_same" (.fE (138+6) kZ.de.ps kZ.de.ks (jL 679 6))
noncomputable def x0:=[dF 86 818 0 [1,0] (vd 679) [((568,8,38),[7]),((570,29,59),[7]),((572,8,38),[7]),((572,42,95),[]),((582,8,38),[7])] [(566,1000),(569,3),(574,1000),(576,1000),(580,1000),(582,4),(584,1000),(585,3)] [3,4]]
noncomputable def BG:=BF.adds 144 x0
noncomputable def x8:L Dh:=[#[dM 49 18 "House.rules" 531 2 [0] (vg 679),G]]
noncomputable def BH:=BG.addsB 146 x8
noncomputable def xa:=[dM 64 1 "Rules.kinds" 648 1 [0] (vh 679),
 dM 64 2 "Rules.shuns" 655 1 [0] (vi 679),
 dM 64 3 "Rules.bars" 662 1 [0] (Vp 679),
 dM 64 4 "Rules.dues" 669 1 [0] (Vq 679)]
noncomputable def BI:=BH.adds 148 xa
noncomputable def xb:L Dh:=[#[dM 49 20 "House.names" 545 2 [0] (vj 679) [((302,15,32),[7])],G],
 #[dM 49 21 "House.verses" 552 2 [0,0] (Zz 679),G],
 #[dM 49 22 "House.turned" 559 2 [0,0] (ZA 679),G]]
noncomputable def BJ:=BI.addsB 156 xb
noncomputable def xg:=[dF 91 851 0 [0,0,1] (Vr 679) [((653,88,105),[7]),((655,26,43),[7]),((656,33,60),[7])]]
noncomputable def Ib:=BJ.adds 162 xg
noncomputable def Uj:=dF 92 856 0 [0] (XQ 679) [((666,21,23),[7])]
end M
namespace M
open PySem L2 DS
def qN(C t):ZJ C [t3 t]=S (.bl (fK t)):=by
 obtain⟨x,y,z⟩:=t;unfold fK;simp only[ZJ,VX,t3];by_cases a:1<=x
 ·by_cases b:x<=y
  ·by_cases c:y<=4
   ·by_cases d:0<=z<;>simp[a,b,c,d]
   ·simp[a,b,c]
  ·simp[a,b]
 ·simp[a]
def qO(C t m):ZK C [t3 t,.int m]=S (.bl (fS m t)):=by
 obtain⟨x,y,z⟩:=t;unfold fS;simp only[ZK,VY,t3];by_cases a:0<=x
 ·by_cases b:x<m
  ·by_cases c:0<=y
   ·by_cases d:y<m
    ·by_cases e:1<=z<;>simp[a,b,c,d,e]
    ·simp[a,b,c,d]
   ·simp[a,b,c]
  ·simp[a,b]
 ·simp[a]
def qP(C t m s):ZL C [t3 t,.int m,.int s]=S (.bl (fB m s t)):=by
 obtain⟨x,y,z⟩:=t;unfold fB;simp only[ZL,VZ,t3];by_cases a:0<=x
 ·by_cases b:x<m
  ·by_cases c:1<=y
   ·by_cases d:y<=z<;>simp[a,b,c,d]
   ·simp[a,b,c]
  ·simp[a,b]
 ·simp[a]
def KS(C s k h b d):v7 C [.int s,.lst k,.lst h,.lst b,.lst d]=S (.bl (fC s k.length h.length b.length d.length)):=by
 unfold fC;simp only[v7,v6];by_cases a:1<=s
 ·by_cases f:s<=30
  ·by_cases c:(1:Int)<=k.length
   ·by_cases e:(k.length:Int)<=4
    ·by_cases g:(h.length:Int)<=20
     ·by_cases i:(b.length:Int)<=12<;>simp[a,f,c,e,g,i]
     ·simp[a,f,c,e,g]
    ·simp[a,c,e]
   ·simp[a,c]
  ·simp[a,f]
 ·simp[a]
theorem Y9{a:Type}(f):∀l:L a,UW (l.map λx=>D.bl (f x))=S (l.map f)
 |[]=>rfl
 |x::l=>by simp[Y9 f l]
def AF{a:Type}(f)(l m:L a):UW (l.map (λx=>D.bl (f x))++m.map λx=>D.bl (f x))=S (l.map f++m.map f):=by rw[<-uDa,Y9,uDa]
def qQ(C s k h b d)(e:k.length<=100)(l:h.length<=100)(r:b.length<=100)(p:d.length<=100):u2 C [.int s,.lst (k.map t3),.lst (h.map t3),.lst (b.map t3),.lst (d.map t3)]=S (.bl (fR s k h b d)):=by
 have c:∀n,n<=200->n<=sizeLine:=λn u=>Ym (wSa u (by decide));have g:∀a ,JA (gN 0) jN (j8 (ZJ C) [(B,dC 0)]) _ (.un::a)=S (k.map λt=>D.bl (fK t)):=λa=>Jn t3 _ λt _=>#[_,rfl,rfl,by simp[qN]]
 have i:∀a ,JA (gN 0) jN (j8 (ZK C) [(B,dC 0),(G,dV 1)]) _ (.un::.cl (.int k.length)::a)=S (h.map λt=>D.bl (fS k.length t)):=λa=>Jn t3 _ λt _=>#[_,rfl,rfl,by simp[qO]]
 have j:∀a ,JA (gN 0) jN (j8 (ZL C) [(B,dC 0),(G,dV 1),(G,dV 2)]) _ (.un::.cl (.int k.length)::.bo (.int s)::a)=S ((b++d).map λt=>D.bl (fB k.length s t)):=λa=>Jn t3 _ λt _=>#[_,rfl,rfl,by simp[qP]]
 rw[uDa]at j;unfold fR;have o:b.length+d.length<=sizeLine:=c _ (by lia);simp only[u2,V_];by_cases f:k.all fK=B
 ·by_cases m:h.all (fS k.length)=B
  ·simp[g,i,j,Y9,AF,c _ (Nat.le_trans e _),c _ (Nat.le_trans l _),o,f,m]
  ·simp[g,i,Y9,c _ (Nat.le_trans e _),c _ (Nat.le_trans l _),f,m]
 ·simp[g,Y9,c _ (Nat.le_trans e _),f]
structure OkB (b:Bk) where
 s1:1<=b.size
 s2:b.size<=30
 k1:1<=b.kinds.length
 k2:b.kinds.length<=4
 h2:b.shuns.length<=20
 b2:b.bars.length<=12
 d2:b.dues.length<=3
 ks:∀t∈b.kinds,fK t=B
 hs:∀t∈b.shuns,fS b.kinds.length t=B
 bs:∀t∈b.bars,fB b.kinds.length b.size t=B
 ds:∀t∈b.dues,fB b.kinds.length b.size t=B
def OkB.zk{b:Bk}(w:OkB b):b.kinds.length<=sizeLine:=Ym (wSa w.k2 (by decide))
def KT:QX b=B↔OkB b:=by
 unfold QX fC fR;simp only[Bool.and_eq_true,decide_eq_true_eq,List.all_eq_true,List.mem_append];constructor
 ·rintro⟨⟨g,c,m,i,k,j,l⟩,d,e,a⟩;exact#[g,c,by lia,by lia,by lia,by lia,by lia,d,e,λt h=>a t (.inl h),λt h=>a t (.inr h)]
 ·intro h;exact#[#[h.s1,h.s2,by have:=h.k1;lia,by have:=h.k2;lia,by have:=h.h2;lia,by have:=h.b2;lia,by have:=h.d2;lia],h.ks,h.hs,λt f=>f.elim (h.bs t) (h.ds t)]
def eL(C p b)(h:OkB b):yM C p [.int b.size,.lst (b.kinds.map t3),.lst (b.shuns.map t3),.lst (b.bars.map t3),.lst (b.dues.map t3)]=S (GU C b):=by
 have a:=KT.mpr h;unfold QX at a;rw[Bool.and_eq_true]at a;have c:=KS C b.size (b.kinds.map t3) (b.shuns.map t3) (b.bars.map t3) (b.dues.map t3);simp only[List.length_map]at c;rw[a.1]at c;have d:=qQ C b.size b.kinds b.shuns b.bars b.dues (by have:=h.k2;lia) (by have:=h.h2;lia) (by have:=h.b2;lia) (by have:=h.d2;lia);rw[a.2]at d;have i:("size" : Str)≠ "kind_rows":= by decide
 have e:("size" : Str)≠ "shun_rows":= by decide
 have g:("size" : Str)≠ "bar_rows":= by decide
 have j:("size" : Str)≠ "due_rows":= by decide
 have f:("kind_rows" : Str)≠ "shun_rows":= by decide
 have m:("kind_rows" : Str)≠ "bar_rows":= by decide
 have l:("kind_rows" : Str)≠ "due_rows":= by decide
 have k:("shun_rows" : Str)≠ "bar_rows":= by decide
 have o:("shun_rows" : Str)≠ "due_rows":= by decide
 have n:("bar_rows" : Str)≠ "due_rows":= by decide
 simp only[yM,Y7,GU];simp[c,d,i,e,g,j,f,m,l,k,o,n]
def Gp(C p a o)(h:yp C a=S o):yM C p a=S o:=by
 obtain⟨b,c,rfl,rfl⟩:=iU h;exact eL C p b (KT.mp c)
def eM(C b)(h:OkB b):yp C [.int b.size,.lst (b.kinds.map t3),.lst (b.shuns.map t3),.lst (b.bars.map t3),.lst (b.dues.map t3)]=S (GU C b):=by
 unfold yp KO;simp[GW,KT.mpr h]
def KU(C b)(h:OkB b):Yn C [jh b]=S (GU C b):=by
 have e:=eM C b h;simp only[Yn,u3];simp[e]
def eN(C b):yY C [jm C b]=S (.int b.kinds.length):=by
 have a:(("kind_rows" : Str)=="size")=G:=by decide
 simp only[yY,Vi,jm];simp[jR,List.lookup,a]
@[simp] theorem wC(C b):VC C "many" (yY C) (jm C b)=S (.int b.kinds.length):=by
 have e:=eN C b;unfold VC jm at *;have n:("many" : Str)∉(["size","kind_rows","shun_rows","bar_rows","due_rows"]:L Str):=by decide
 simp only[if_true];exact e
@[simp] theorem BK(C b):jR C "size" (jm C b)=S (.int b.size):=by unfold jR jm;simp 
@[simp] theorem mV(C b):jR C "kind_rows" (jm C b)=S (.tup (b.kinds.map t3)):=by
 have a:(("kind_rows" : Str)=="size")=G:=by decide
 unfold jR jm;simp[List.lookup,a]
@[simp] theorem mW(C b):jR C "shun_rows" (jm C b)=S (.tup (b.shuns.map t3)):=by
 have c:(("shun_rows" : Str)=="size")=G:=by decide
 have a:(("shun_rows" : Str)=="kind_rows")=G:=by decide
 unfold jR jm;simp[List.lookup,c,a]
@[simp] theorem M_(C b):jR C "bar_rows" (jm C b)=S (.tup (b.bars.map t3)):=by
 have c:(("bar_rows" : Str)=="size")=G:=by decide
 have a:(("bar_rows" : Str)=="kind_rows")=G:=by decide
 have d:(("bar_rows" : Str)=="shun_rows")=G:=by decide
 unfold jR jm;simp[List.lookup,c,a,d]
@[simp] theorem BL(C b):jR C "due_rows" (jm C b)=S (.tup (b.dues.map t3)):=by
 have c:(("due_rows" : Str)=="size")=G:=by decide
 have a:(("due_rows" : Str)=="kind_rows")=G:=by decide
 have d:(("due_rows" : Str)=="shun_rows")=G:=by decide
 have e:(("due_rows" : Str)=="bar_rows")=G:=by decide
 unfold jR jm;simp[List.lookup,c,a,d,e]
def XS(C b n):VM C [jm C b,.int n]=S (.bl (decide (0<=n)&&decide (n<b.kinds.length))):=by
 have e:=wC C b;simp only[VM,gv];by_cases h:0<=n<;>simp[h]
def KW(C b)(a:L Int)(g:a.length<=1000):yN C [jm C b,.lst (a.map .int)]=S (.bl (a.all λn=>decide (0<=n)&&decide (n<b.kinds.length))):=by
 have f:∀c ,JA (gN 0) jN (j8 (VM C) [(G,dV 1),(G,dV 0)]) _ (.un::.bo (jm C b)::c)=S (a.map λn=>D.bl (decide (0<=n)&&decide (n<(b.kinds.length:Int)))):=λc=>Jn D.int _ λt _=>#[_,rfl,rfl,by simp[XS]]
 have d:a.length<=sizeLine:=Ym g;have e:=Y9 (λn:Int=>decide (0<=n)&&decide (n<b.kinds.length)) a;simp only[yN,zo];simp[f,d,e]
noncomputable def C_(b:Bk)(a:L Int):=(∀n∈a,0<=n/\n<b.kinds.length)/\a.length<=b.size
noncomputable def Z9(b:Bk)(a:L Int):=a.all λn=>decide (0<=n)&&decide (n<b.kinds.length)
def Vt{a}(h:Z9 b a=B):∀n∈a,0<=n/\n<b.kinds.length:=λn c=>by
 have:=List.all_eq_true.mp h n c;rw[Bool.and_eq_true]at this;exact#[of_decide_eq_true this.1,of_decide_eq_true this.2]
def qR{a}(h:∀n∈a,0<=n/\n<b.kinds.length):Z9 b a=B:=by
 unfold Z9;rw[List.all_eq_true];intro n c;have:=h n c;simp[this.1,this.2]
def qS(C b a)(f:a.length<=1000):u6 C [jm C b,.lst (a.map .int)]=S (if Z9 b a=G then .xc ("NoKind",[])else if b.size<a.length then .xc ("TooLong",[])else .ok .non):=by
 have e:=KW C b a f;have e:yN C _=S (.bl (Z9 b a)):=e;have g:=BK C b;simp only[u6,u5];cases d:Z9 b a with
 |false=>rw[d]at e;simp[e]
 |true=>
  rw[d]at e;by_cases c:b.size<a.length<;>simp[e,c]
def BM(C b)(a:OkB b):vb C [jm C b]=S (J3 (Jg b)):=by
 have e:=wC C b;have f:=BL C b;have h:=a.k2;have g:=a.d2;have d:(b.kinds.length:Int)<=1000:=by lia
 have c:(b.dues.length:Int)<=1000:=by lia
 simp only[vb,va];simp[d,c,J3,Jg]
noncomputable def oS:Y Str->D
 |none=>.non
 |S x=>.str x
structure Fit (b:Bk) (s:Sd) where
 c0:-1<=s.kind
 c1:s.kind<b.kinds.length
 w:s.waits.length=b.kinds.length
 m:s.met.length=b.dues.length
noncomputable def Yv(b:Bk)(k:Int):=0<=k/\k<b.kinds.length
def GD(C s k):vC C [J3 s,.int k]=S (.int (GX s k)):=by
 unfold GX;simp only[vC,Uf];by_cases e:s.kind=k<;>simp[e]
def any_map{a:Type}(b:a->D)(p q)(h:∀x,p (b x)=q x)(l:L a):(l.map b).any p=l.any q:=by
 induction l with
 |nil=>rfl
 |cons x l c=>rw[vWa,List.any_cons,List.any_cons,h,c]
noncomputable def qT(q:T3->Bool)(d:D):Bool:=match CW d with
 |S t=>q t
 |none=>G
def YO(q t):qT q (t3 t)=q t:=rfl
def qU{c a r}{I:jr->Prop}{k}(h:t a=S k)(d:c a=S r)(e:I a):(k=B/\jc t c ji a=S r)\/(k=G/\∃b,jc t c ji a=S (.nx b)/\I b):=by
 cases k
 ·exact .inr #[rfl,a,jF h rfl,e]
 ·exact .inl #[rfl,Jm h d]
def AG(C b s k):GC C [jm C b,J3 s,.int k]=S (.bl (Zm b s k)):=by
 have a:=Zi (g:=Uz) (s:=UA C) (items:=b.bars.map t3) (λc=>∃x y z,c=[.bo (jm C b),.bo (J3 s),.bo (.int k),.cl (.int (s.place+1)),x,y,z]) (qT (zK k (s.place+1))) (.rt (.bl B)) (.inl #[_,rfl]) ?_ #[.un,.un,.un,rfl]
 ·rw[any_map t3 _ _ (YO _)]at a;unfold Zm;rcases a with⟨e,L2⟩|⟨e,f,_,L2⟩<;>rw[e]
  ·exact fE (sq rfl (J_ (by simp_all)))
  ·exact fE (sq rfl (sq (by simp[L2]<;>rfl) rfl))
 ·rintro d h c ⟨x,y,z,rfl⟩;obtain⟨t,_,rfl⟩:=uVa h;obtain⟨u,v,w⟩:=t;refine#[_,rfl,?_];rw[YO];unfold zK;exact qU (by by_cases g:u=k<;>by_cases i:v<=s.place+1<;>simp[g,i]) rfl #[_,_,_,rfl]
def eP(C b s k)(h:Yv b k):gy C [jm C b,J3 s,.int k]=S (.bl (U1 b s k)):=by
 unfold U1;simp only[gy,gw];by_cases a:s.kind=k<;>simp[a,Zl h.1 h.2]
def BN(C b s k)(X:Fit b s):Ub C [jm C b,J3 s,.int k]=S (.bl (YF b s k)):=by
 unfold YF;simp only[Ub,Ua];by_cases a:s.kind=k
 ·simp[a]
 ·by_cases c:s.kind=-1
  ·simp[c]
  ·simp[a,c,Zl (by have:=X.c0;lia) X.c1]
def BO(C s)(k:Int)(c:0<=k)(a:k<s.waits.length):Ud C [J3 s,.int k]=S (.bl (zy s k)):=by
 unfold zy;have b:=Zk (f:=D.int) (d:=0) c a;simp only[Ud,Uc];by_cases a:s.kind=k<;>simp[a,b]
def eQ(C b s k):gA C [jm C b,J3 s,.int k]=S (.bl (U4 b s k)):=by
 have a:=Zi (g:=uB) (s:=Zx C) (items:=b.shuns.map t3) (λe=>∃x y z u,e=[.bo (jm C b),.bo (J3 s),.bo (.int k),x,y,z,u]) (qT (Va s k)) (.rt (.bl B)) (.inl #[_,rfl]) ?_ #[.un,.un,.un,.un,rfl]
 ·rw[any_map t3 _ _ (YO _)]at a;unfold U4;rcases a with⟨c,L2⟩|⟨c,f,_,L2⟩<;>rw[c]
  ·exact fE (J_ (by simp_all))
  ·exact fE (sq (by simp[L2]<;>rfl) rfl)
 ·rintro d h e ⟨x,y,z,j,rfl⟩;obtain⟨t,_,rfl⟩:=uVa h;obtain⟨u,v,w⟩:=t;refine#[_,rfl,?_];rw[YO];unfold Va;unfold Zx;rw[sq (a:=[.bo (jm C b),.bo (J3 s),.bo (.int k),.cl (.int u),.cl (.int v),.cl (.int w),.cl (.int (if w=1 then s.kind else s.before))]) (by by_cases i:w=1<;>simp[i]) rfl];exact qU (by by_cases g:v=k<;>simp[g]) rfl #[_,_,_,_,rfl]
def qV{s k}(X:Fit b s):(zl b s k).length=b.dues.length:=by
 unfold zl;rw[List.length_zipWith,X.m]
 lia
def eS{b:Bk}{s:Sd}{i:Nat}{d}(h:(List.zipWith (λp q=>D.tup [p,q]) (b.dues.map t3) (s.met.map D.bl))[i]?=S d):∃t m,b.dues[i]?=S t/\s.met[i]?=S m/\d=.tup [t3 t,.bl m]:=by
 rw[List.getElem?_zipWith,uAa,uAa]at h;cases a:b.dues[i]? with
 |none=>rw[a]at h;exact Zn h
 |some t=>
  cases c:s.met[i]? with
  |none=>rw[a,c]at h;exact Zn h
  |some m=>rw[a,c]at h;obtain rfl:=Zj h;exact#[t,m,rfl,rfl,rfl]
def AH{b:Type}{a:L b}{i t}(h:a[i]?=S t):a.take (i+1)=a.take i++[t]:=by
 rw[List.take_add_one,h];rfl
def AI(C b s k)(I:OkB b)(X:Fit b s):vB C [jm C b,J3 s,.int k]=S (.tup ((zl b s k).map .bl)):=by
 have w:=qV (k:=k) X;have j:=I.d2;have a:=YE (g:=gB) (s:=Vj C) (items:=List.zipWith (λp q=>D.tup [p,q]) (b.dues.map t3) (s.met.map D.bl)) (λi e=>∃x y z u v,e=[.bo (jm C b),.bo (J3 s),.bo (.int k),.cl (.int (s.place+1)),.ow J (.lst (((zl b s k).take i).map .bl)),x,y,z,u,v]) ?_ #[.un,.un,.un,.un,.un,rfl]
 ·obtain⟨h,g,x,y,z,u,v,rfl⟩:=a;have l:(List.zipWith (λp q=>D.tup [p,q]) (b.dues.map t3) (s.met.map D.bl)).length=(zl b s k).length:=by
   rw[List.length_zipWith,vYa,vYa,X.m,w];lia
  rw[l,List.take_length,List.take_zero,uJa]at g;simp only[vB,Ue];simp[-List.zipWith_map,g]
 ·rintro i d e n ⟨x,y,z,u,v,rfl⟩;obtain⟨t,m,o,H,rfl⟩:=eS n;have F:(zl b s k)[i]?=S (m||zK k (s.place+1) t):=by
   unfold zl;rw[List.getElem?_zipWith,o,H]
  have c:min i (zl b s k).length<sizeLine:=JK (by lia);obtain⟨p,q,r⟩:=t;rw[AH F];unfold zK;refine#[_,_,rfl,?_,.cl (t3 (p,q,r)),.cl (.bl m),.cl (.int p),.cl (.int q),.cl (.int r),rfl];simp only[Vj];cases m with
  |true=>simp[t3,c]
  |false=>
   by_cases f:p=k
   ·by_cases A:q<=s.place+1<;>simp[t3,c,f,A]
   ·simp[t3,c,f]
def Ic(C b s k)(l:OkB b)(X:Fit b s):gE C [jm C b,J3 s,.int k]=S (.bl (KP b s k)):=by
 have f:=AI C b s k l X;have a:=Zi (g:=uC) (s:=uD C) (items:=(List.zip b.dues (zl b s k)).map λp=>D.tup [t3 p.1,.bl p.2]) (λc=>∃x y,c=[.bo (jm C b),.bo (J3 s),.bo (.int k),.cl (.int (s.place+1)),x,y]) (λd=>match d with|.tup [t,.bl m]=>qT (λt=>decide (t.2.2=s.place+1)&&!m) t|_=>G) (.rt (.bl B)) (.inl #[_,rfl]) ?_ #[.un,.un,rfl]
 ·rw[any_map (λp=>D.tup _) _ (λp=>decide _&&!p.2) (λp=>rfl)]at a;have g:(List.zip b.dues (zl b s k)).map (λp=>D.tup [t3 p.1,.bl p.2])=List.zipWith (λp q=>D.tup [p,q]) (b.dues.map t3) ((zl b s k).map D.bl):=by
   rw[List.zipWith_map,List.zip,List.map_zipWith]
  rw[g]at a;unfold KP;rcases a with⟨e,L2⟩|⟨e,j,_,L2⟩<;>rw[e]
  ·exact fE (sq (by simp<;>rfl) (J_ (by simp_all)))
  ·exact fE (sq (by simp<;>rfl) (sq (by simp[-List.zipWith_map,L2,f]<;>rfl) rfl))
 ·rintro d h c ⟨x,y,rfl⟩;obtain⟨⟨t,m⟩,_,rfl⟩:=uVa h;obtain⟨u,v,w⟩:=t;refine#[_,rfl,?_];simp only[YO];exact qU (by by_cases i:w=s.place+1<;>simp[i]) rfl #[_,_,rfl]
def Ie(C b s k)(h:Yv b k):GZ C [jm C b,J3 s,.int k]=S (.bl (KQ b s k)):=by
 unfold KQ;simp only[GZ,GY];by_cases a:s.place+1=b.size<;>simp[a,GD,Zl h.1 h.2]
def wD(C b s k)(p:OkB b)(X:Fit b s)(h:Yv b k):G_ C [jm C b,J3 s,.int k]=S (oS (J8 b s k)):=by
 have e:=AG C b s k;have l:=eP C b s k h;have f:=BN C b s k X;have i:=BO C s k h.1 (by rw[X.w];exact h.2);have g:=eQ C b s k;have j:=Ic C b s k p X;have m:=Ie C b s k h;refine fE ?_;have go:∀{t c a k w o},t a=S k->c a=S (.rt (oS o))->j0 (jc t (jd (dK (.str w))) ji) c a=S (.rt (oS (if k=B then S w else o))):=λ{t c a k w o} d n=>by
  cases k
  ·exact sq (jF d rfl) n
  ·exact J_ (Jm d rfl)
 exact go (Bn e rfl) (go (by simp[l]) (go (Bn f rfl) (go (by simp[i]) (go (by simp[g]) (go (by simp[j]) (go (by simp[m]) rfl))))))
def BP(C b s k)(g:OkB b)(X:Fit b s)(h:Yv b k):Vl C [jm C b,J3 s,.int k]=S (.tup ((ZT b s k).map .int)):=by
 have e:JA (gN 0) jN (j8 VS [(G,d2 zg (dV 0) (dK (D.int 1))),(G,dK (D.int 0))]) _ [.un]=S (s.waits.map λx=>D.int (mx _ 0)):=Jn D.int _ λt _=>#[_,rfl,rfl,rfl]
 have f:=g.k2;have j:=X.w;have c:s.waits.length<=sizeLine:=wQa (JK (by lia));have d:∀n ,n=s.waits.length->Uq n k=S _:=λn l=>AD h.1 (by have:=h.2;lia);simp only[Vl,Vk,ZT];by_cases a:s.kind=-1
 ·simp[e,c,a,d];rfl
 ·have i:Uq s.waits.length s.kind=S _:=AD (by have:=X.c0;lia) (by have:=X.c1;lia);simp[e,c,a,d,i,Zl (by have:=X.c0;lia) X.c1];rfl
def qW(C b s k)(a:OkB b)(X:Fit b s)(h:Yv b k):Z4 C [jm C b,J3 s,.int k]=S (J3 (zx b s k)):=by
 simp only[Z4,Vm];simp[GD,BP C b s k a X h,AI C b s k a X];rfl
def XU(b s k):(ZT b s k).length=s.waits.length:=by
 unfold ZT;split<;>simp
def Fit.next(X:Fit b s){k}(h:Yv b k):Fit b (zx b s k):=#[by have:=h.1;show -1<=k;lia,h.2,by show(ZT b s k).length=_;rw[XU,X.w],qV X]
def Fit.empty(b):Fit b (Jg b):=#[by show -1<=(-1);decide,by show(-1)<_;lia,by simp[Jg],by simp[Jg]]
def AJ(C b a)(m:OkB b)(h:∀n∈a,Yv b n):ka C [jm C b,.lst (a.map .int)]=S (.tup [J3 (jK b (Jg b) a).1,oS (jK b (Jg b) a).2]):=by
 have l:∀(r s x y),Fit b s->(∀n∈r,Yv b n)->∃g c,Jq vF (vG C) (r.map D.int) [.bo (jm C b),.bo (.lst (a.map .int)),.cl (J3 s),x,y]=S (match jK b s r with
   |(f,none)=>.nx [.bo (jm C b),.bo (.lst (a.map .int)),.cl (J3 f),g,c]
   |(f,S w)=>.rt (.tup [J3 f,.str w])):=by
  intro r;induction r with
  |nil=>intro s x y _ _;exact#[x,y,rfl]
  |cons k r t=>
   intro s x y X o;have i:=o k wNa;have e:=wD C b s k m X i;cases d:J8 b s k with
   |some w=>
    rw[d]at e;refine#[.un,.un,?_];have j:jK b s (k::r)=(s,S w):=by unfold jK;rw[d]
    rw[j];simp[Jq,vF,vG,e,oS]
   |none=>
    rw[d]at e;have u:=qW C b s k m X i;obtain⟨g,c,q⟩:=t _ (.cl (.int k)) (.cl .non) (X.next i) λn v=>o n (wMa _ v);refine#[g,c,?_];have j:jK b s (k::r)=jK b (zx b s k) r:=by rw[jK,d]
    rw[j,<-q];simp[Jq,vF,vG,e,u,oS]
 obtain⟨g,c,q⟩:=l _ _ .un .un (Fit.empty b) h;simp only[ka,k7];have p:=BM C b m;revert q;generalize jK b _ _=z;obtain⟨f,w⟩:=z;intro q;cases w<;>simp[p,q,oS]
noncomputable def yd(b:Bk)(a:L Int):Y (Int×Str):=match jK b (Jg b) a with
 |(_,none)=>J
 |(s,S w)=>S (s.place+1,w)
noncomputable def oJ:Y (Int×Str)->D
 |none=>.non
 |S p=>.tup [.int p.1,.str p.2]
def jX{a b:Int}(h:0<b):0<=a%b/\a%b<b:=#[Int.emod_nonneg _ (by lia),Int.emod_lt_of_pos _ h]
def Jw{a b:Type}(f:a->b)(xs lo hi):jP (xs.map f) lo hi=(jP xs lo hi).map f:=by
 unfold jP;rw[vYa,List.map_take,List.map_drop]
def YQ{b:Type}(a:L b)(lo hi):(jP a lo hi).length<=a.length:=by
 unfold jP;rw[uOa,uNa]
 lia
def k_{a:Type}(xs:L a)(n:Nat):jP xs (S n) J=xs.drop n:=by
 unfold jP;have e:HT.sIx xs.length _ J=xs.length:=rfl;rw[HT.sIx_nat,e];by_cases h:n<=xs.length
 ·rw[Nat.min_eq_left h,List.take_of_length_le (by rw[uNa];lia)]
 ·rw[Nat.min_eq_right (by lia),List.drop_of_length_le (by lia),List.drop_of_length_le (by lia)];simp
def qX{a:Type}(xs:L a)(n:Nat):jP xs J (S n)=xs.take n:=by
 unfold jP;have e:HT.sIx xs.length 0 J=0:=rfl;rw[HT.sIx_nat,e,List.drop_zero,Nat.sub_zero];by_cases h:n<=xs.length
 ·simp_all
 ·simp_all
def qY{b:Type}(a:L b)(n m)(d:n<=a.length)(c:m<=a.length):jP a (S n) (S m)=(a.drop n).take (m-n):=by
 unfold jP;rw[HT.sIx_nat,HT.sIx_nat,Nat.min_eq_left d,Nat.min_eq_left c]
def VN(a:-(2^64)<i)(b:i<2^64):GJ i j=B:=by
 have e:(2)^64=18446744073709551616:=by decide
 unfold GJ;rw[Bool.or_eq_true,Nat.blt_eq];exact .inl (by lia)
def XV(C:Addr)(n:L Int)(m:Int)(h63:n.length<=63)(m0:0<=m)(m1:m<=1000):∃g:L Int,Zp C [.scr n,.int m]=S (.lst (g.map .int))/\(g.length:Int)=m:=by
 have o:∀(v x b:Int) (g:L Int) (r:Sl) (c:Nat),g.length<=c->c<=5000->∃(f:L Int) (k:Int) (j:Sl),Jq zL (ym C) (Jv 0 60) [.bo (.scr n),.bo (.int m),.ow J (.lst (g.map .int)),.cl (.int b),.cl (.int x),.cl (.int v),r]=S (.nx [.bo (.scr n),.bo (.int m),.ow J (.lst (f.map .int)),.cl (.int b),.cl (.int x),.cl (.int k),j])/\f.length<=c+60:=by
  intro v x b g r c W hc2;have a:=YE (g:=zL) (s:=ym C) (items:=Jv 0 60) (λi s=>∃(f:L Int) (k:Int) (j:Sl),s=[.bo (.scr n),.bo (.int m),.ow J (.lst (f.map .int)),.cl (.int b),.cl (.int x),.cl (.int k),j]/\f.length<=c+i) ?_ #[g,v,r,rfl,W]
  ·obtain⟨Q,I,f,k,j,rfl,t⟩:=a;exact#[f,k,j,I,t]
  ·rintro i d s u ⟨f,k,j,rfl,t⟩;have X:i<60:=by have:=(uSa u).1;simpa[Jv]using this
   have A:f.length<sizeLine:=JK (by lia);by_cases y:0<k
   ·refine#[_,[.bo (.scr n),.bo (.int m),.ow J (.lst ((f++[k%1009]).map .int)),.cl (.int b),.cl (.int x),.cl (.int (k/1009)),.cl d],rfl,?_,f++[k%1009],k/1009,.cl d,rfl,by simp;lia];simp[ym,y,A]
   ·refine#[_,[.bo (.scr n),.bo (.int m),.ow J (.lst (f.map .int)),.cl (.int b),.cl (.int x),.cl (.int k),.cl d],rfl,?_,f,k,.cl d,rfl,by lia];simp[ym,y]
 have a:=YE (g:=Y5) (s:=Y6 C) (items:=(jP n J (S 63)).map D.int) (λi s=>∃(g:L Int) (b:Int) (F H r:Sl),s=[.bo (.scr n),.bo (.int m),.ow J (.lst (g.map .int)),.cl (.int b),F,H,r]/\0<=b/\b<2147483648/\g.length<=i*61) ?_ #[[],29,.un,.un,.un,rfl,by decide,by decide,by simp]
 ·obtain⟨Q,I,g,b,F,H,r,rfl,P,N,t⟩:=a;have W:=YQ n J (S 63);rw[vYa]at t;have t:g.length<=4000:=by lia
  obtain⟨Z,W1,⟨p,R,rfl,t0,t1,hl2⟩,W2⟩:=qK (dt:=yo C) (s:=zM C) (λs=>∃(g:L Int) (b:Int),s=[.bo (.scr n),.bo (.int m),.ow J (.lst (g.map .int)),.cl (.int b),F,H,r]/\0<=b/\b<2147483648/\g.length<=4000) (λs=>match s with|[_,_,.ow _ (.lst l),_,_,_,_]=>6000-l.length|_=>0) (λs=>by
    rintro⟨g,b,rfl,P,N,t⟩;by_cases h:(g.length:Int)<m
    ·right;refine#[by simp[yo,h],?_];have M:=jX (a:=b*b+69621*b+7*(g.length:Int)+5) (b:=2147483629) (by decide);have A:g.length<sizeLine:=JK (by lia);refine#[[.bo (.scr n),.bo (.int m),.ow J (.lst ((g++[(b*b+69621*b+7*(g.length:Int)+5)%2147483629/1013%9973]).map .int)),.cl (.int ((b*b+69621*b+7*(g.length:Int)+5)%2147483629)),F,H,r],?_,#[_,_,rfl,M.1,by lia,by simp;lia],by simp;lia];simp[zM,VN (i:=b) (j:=b) (by lia) (by lia),VN (i:=69621) (j:=b) (by decide) (by decide),VN (i:=7) (j:=(g.length:Int)) (by decide) (by decide),A]
    ·left;simp[yo,h]) (n:=20000) #[g,b,rfl,P,N,t] (by simp;lia)
  have hm:m<=(p.length:Int):=by
   simp[yo]at W2
   lia
  refine#[p.take m.toNat,?_,by rw[uOa];lia];simp only[Zp,Zo];have em:m=((m.toNat:Nat):Int):=by lia
  have UQ:jP (p.map D.int) J (S m)=(p.take m.toNat).map D.int:=by
   have z:=qX p m.toNat
   rw[<-em]at z;rw[Jw,z]
  rw[uJa]at I;have w:JI 60=B:=by decide
  simp[Jw,I,W1]at UQ⊢;simp[UQ]
 ·rintro i d s u ⟨g,b,F,H,r,rfl,P,N,t⟩;have hlt:i<63:=by
   have h1:=(uSa u).1;have h2:=YQ n J (S 63);rw[vYa]at h1
   lia
  obtain⟨x,rfl⟩:∃x,d=D.int x:=by
   rw[uAa]at u;cases q:(jP n J (S 63))[i]? with
   |none=>rw[q]at u;exact Zn u
   |some z=>rw[q]at u;exact#[z,(vFa u).symm]
  have M:=jX (a:=b*48271+x%1000003+11) (b:=2147483647) (by decide);have w:JI 60=B:=by decide
  have A:g.length<sizeLine:=JK (by lia);by_cases y:x-10^18<0
  ·obtain⟨f,k,j,e,O⟩:=o (x-10^18) x ((b*48271+x%1000003+11)%2147483647) (g++[x%9973]) r (i*61+1) (by simp;lia) (by lia);refine#[_,[.bo (.scr n),.bo (.int m),.ow J (.lst (f.map .int)),.cl (.int ((b*48271+x%1000003+11)%2147483647)),.cl (.int x),.cl (.int k),j],rfl,?_,f,_,_,_,_,rfl,M.1,by lia,by lia];rw[uDa]at e;simp only[Y6,Y5];simp at e y;simp[VN (i:=b) (j:=48271) (by lia) (by lia),y,A,e,w]
  ·obtain⟨f,k,j,e,O⟩:=o (x-10^18) x ((b*48271+x%1000003+11)%2147483647) g r (i*61+1) (by lia) (by lia);refine#[_,[.bo (.scr n),.bo (.int m),.ow J (.lst (f.map .int)),.cl (.int ((b*48271+x%1000003+11)%2147483647)),.cl (.int x),.cl (.int k),j],rfl,?_,f,_,_,_,_,rfl,M.1,by lia,by lia];simp only[Y6,Y5];simp at e y;have T:¬(x-1000000000000000000<0):=by lia
   simp[VN (i:=b) (j:=48271) (by lia) (by lia),T,A,e,w]
def Vu{ds:L Int}{k:Int}(a:0<=k)(b:k<ds.length):∃v ,atI (ds.map D.int) k=S (.int v):=#[_,Zk (d:=0) a b]
def Yb{b:Type}{p:b->Prop}{a t}(h:∀x∈a,p x)(d:p t):∀x∈a++[t],p x:=λx c=>by
 rcases uWa c with z|z
 ·exact h x z
 ·simp_all
def eT{n i d}(h:(Jv lo n)[i]?=S d):i<n/\d=.int (lo+i):=by
 unfold Jv at h;rw[uAa]at h;cases q:(List.range n)[i]? with
 |none=>rw[q]at h;exact Zn h
 |some j=>
  rw[q]at h;obtain⟨a,b⟩:=uSa q;rw[List.getElem_range]at b;rw[List.length_range]at a;exact#[a,by simp_all]
def LE{ns:L Int}{k lo hi:Int}(d:0<=k)(c:k<ns.length)(b:∀v∈ns,lo<=v/\v<=hi):∃v,atI (ns.map D.int) k=S (.int v)/\lo<=v/\v<=hi:=by
 have a:k.toNat<ns.length:=by lia
 refine#[ns.getD k.toNat 0,Zk d c,?_];rw[uBa,uCa a];exact b _ (List.getElem_mem a)
def n8{i c:Nat}{m:Int}(h:i<m.toNat)(a:m<=c):i<c:=by lia
def LF{a:Int}(h:a<=2):0<5-(1+a)/\1+a<5:=by lia
def LG(f:0<=a)(d:a<=2)(c:0<=x/\x<5-(1+a))(e:0<=r)(b:r<=4):fK (1+a,1+a+x,r)=B:=by
 unfold fK
 lia
def XW{m a b c}(d:0<=a/\a<m)(e:0<=b/\b<m)(f:1<=c/\c<=2):fS m (a,b,c)=B:=by
 unfold fS
 lia
def XX{m s a f l}(b:0<=a/\a<m)(c:1<=f)(e:f<=l)(d:l<=s):fB m s (a,f,l)=B:=by
 unfold fB
 lia
def XY{m a s b t}(h:fB m s t=B)(d:m<=a)(c:s<=b):fB a b t=B:=by
 unfold fB at *;simp only[Bool.and_eq_true]at *
 lia
def na{m:Int}(h:k=m.toNat)(a:1<=m)(b:m<=4):1<=k/\k<=4/\k=m:=by lia
def LH(a:0<=n)(b:n<=20):JI n=B:=YY (by lia) (by lia)
def eU{x:Int}:0<=x%5*(x/5%2)/\x%5*(x/5%2)<=4:=by
 have a:=jX (a:=x/5) (b:=2) (by decide);have:x/5%2=0\/x/5%2=1:=by lia
 rcases this with z|z<;>rw[z]<;>lia
def uI{lo hi}{t:T3}(h:t∈jP a lo hi):t∈a:=by
 exact List.mem_of_mem_drop (List.mem_of_mem_take h)
def xh(C:Addr)(ds:L Int)(r:Int)(hn:27<=ds.length)(T:1<=r)(mo2:r<=9):∃b:Bk,VW C [.lst (ds.map .int),.int r]=S (jh b)/\OkB b/\b.size<=r/\b.shuns.length<=2/\b.bars.length<=1/\b.dues.length<=1:=by
 have a:∀k:Int,0<=k->k<27->∃v:Int,atI (ds.map D.int) k=S (.int v):=λk h0 h1=>Vu h0 (by lia);have z:∀(i:Nat) (k:Int),i<4->0<=k->k<=10->∃v:Int,atI (ds.map D.int) (k+(0+(i:Int)))=S (.int v):=λi k h h0 h1=>a _ (by lia) (by lia);obtain⟨u0,a0⟩:=a 0 (by decide) (by decide);obtain⟨u1,a1⟩:=a 1 (by decide) (by decide);obtain⟨w,a14⟩:=a 14 (by decide) (by decide);obtain⟨M,a15⟩:=a 15 (by decide) (by decide);obtain⟨P,a16⟩:=a 16 (by decide) (by decide);obtain⟨A,a17⟩:=a 17 (by decide) (by decide);obtain⟨H,a18⟩:=a 18 (by decide) (by decide);obtain⟨f,a19⟩:=a 19 (by decide) (by decide);obtain⟨F,a20⟩:=a 20 (by decide) (by decide);obtain⟨x,a21⟩:=a 21 (by decide) (by decide);obtain⟨y,a22⟩:=a 22 (by decide) (by decide);obtain⟨I,a23⟩:=a 23 (by decide) (by decide);obtain⟨s,a24⟩:=a 24 (by decide) (by decide);obtain⟨u,a25⟩:=a 25 (by decide) (by decide);obtain⟨p,a26⟩:=a 26 (by decide) (by decide);have g0:=jX (a:=u0) (b:=4) (by decide);have g1:=jX (a:=u1) (b:=r) T;generalize hm:1+u0%4=m at *;generalize hs:1+u1%r=c at *;have m1:1<=m:=by lia
 have m4:m<=4:=by lia
 have s1:1<=c:=by lia
 have s2:c<=r:=by lia
 have o:0<m:=m1;have qs:0<c:=s1;have qmo:0<r:=T;have e14:=jX (a:=w) o;have e15:=jX (a:=M) o;have e16:=jX (a:=P) (b:=2) (by decide);have e17:=jX (a:=A) o;have e18:=jX (a:=H) o;have e19:=jX (a:=f) qs;have e21:=jX (a:=x) o;have e22:=jX (a:=y) o;have e23:=jX (a:=I) qs;have W:0<c-(1+f%c)+1:=by lia
 have e20:=jX (a:=F) W;have K1:=YE (g:=Uy) (s:=v5 C) (items:=Jv 0 m.toNat) (λi ρ=>∃(R:L T3) (x5 x6:Sl),ρ=[.bo (.lst (ds.map .int)),.bo (.int r),.cl (.int m),.cl (.int c),.ow J (.lst (R.map t3)),x5,x6,.un,.un,.un,.un,.un]/\R.length=i/\∀t∈R,fK t=B) ?_ #[[],.un,.un,rfl,rfl,λ_ h=>by cases h]
 rotate_left
 ·rintro i d ρ hi ⟨R,x5,x6,rfl,hl,e⟩;obtain⟨hi1,rfl⟩:=eT hi;have i4:=n8 (c:=4) hi1 m4;obtain⟨w2,b2⟩:=z i 2 i4 (by decide) (by decide);obtain⟨w6,b6⟩:=z i 6 i4 (by decide) (by decide);obtain⟨n,b10⟩:=z i 10 i4 (by decide) (by decide);have e2:=jX (a:=w2) (b:=6) (by decide);obtain⟨Z,pl,le0,le3⟩:=LE (ns:=[0,0,1,0,2,0]) (k:=w2%6) (lo:=0) (hi:=2) e2.1 e2.2 (by decide);clear e2;obtain⟨q5,q5'⟩:=LF le3;have e6:=jX (a:=w6) (b:=5-(1+Z)) q5;have hz:R.length<sizeLine:=JK (by rw[hl];exact wSa (wQa i4) (by decide));have er:=eU (x:=n);have e5:=jX (a:=n) (b:=5) (by decide);have cm:GJ (n%5) (n/5%2)=B:=VN (by lia) (by lia);simp at b2 b6 b10 pl cm;unfold v5;exact#[_,_,rfl,sq (by simp[b2,pl]<;>rfl) (by simp[b6,b10,q5,q5',hz,cm]<;>rfl),R++[(1+Z,1+Z+w6%(5-(1+Z)),n%5*(n/5%2))],.cl (.int (0+(i:Int))),.cl (.int (1+Z)),by simp[t3],by simp[hl],Yb e (LG le0 le3 e6 er.1 er.2)]
 obtain⟨ρk,K2,ks,x5,x6,rfl,lk,hk⟩:=K1;have hrk:(Jv 0 m.toNat).length=m.toNat:=by simp[Jv]
 rw[hrk]at lk;obtain⟨ek1,ek4,ek⟩:=na lk m1 m4;have sm:JI m=B:=LH (by lia) (by lia);rw[uJa]at K2;generalize N:([(w%m,M%m,1+P%2),(A%m,H%m,2)]:L T3)=j;generalize O:([(x%m,1+f%c,1+f%c+F%(c-(1+f%c)+1))]:L T3)=l;generalize Q:([(y%m,1+I%c,c)]:L T3)=g;have fh:∀t∈j,fS m t=B:=by
  subst N;intro t e;rcases uTa e with rfl|e
  ·exact XW e14 e15 (by lia)
  ·rcases uTa e with rfl|e
   ·exact XW e17 e18 (by lia)
   ·cases e
 have fb:∀t∈l,fB m c t=B:=by
  subst O;intro t e;rcases uTa e with rfl|e
  ·exact XX e21 (by lia) (by lia) (by lia)
  ·cases e
 have fd:∀t∈g,fB m c t=B:=by
  subst Q;intro t e;rcases uTa e with rfl|e
  ·exact XX e22 (by lia) (by lia) (by lia)
  ·cases e
 have l1:=YQ j J (S (s%4%3));have l2:=YQ l J (S (u%2));have l3:=YQ g J (S (p%2));have z1:j.length=2:=by subst N;rfl
 have z2:l.length=1:=by subst O;rfl
 have z3:g.length=1:=by subst Q;rfl
 have c1:jP (j.map t3) J (S (s%4%3))=(jP j J (S (s%4%3))).map t3:=Jw _ _ _ _;have c2:jP (l.map t3) J (S (u%2))=(jP l J (S (u%2))).map t3:=Jw _ _ _ _;have c3:jP (g.map t3) J (S (p%2))=(jP g J (S (p%2))).map t3:=Jw _ _ _ _;have UQ:j.map t3=[.tup [.int (w%m),.int (M%m),.int (1+P%2)],.tup [.int (A%m),.int (H%m),.int 2]]:=by subst N;rfl
 have X:l.map t3=[.tup [.int (x%m),.int (1+f%c),.int (1+f%c+F%(c-(1+f%c)+1))]]:=by subst O;rfl
 have ds0':g.map t3=[.tup [.int (y%m),.int (1+I%c),.int c]]:=by subst Q;rfl
 refine#[#[c,ks,jP j J (S (s%4%3)),jP l J (S (u%2)),jP g J (S (p%2))],fE ?_,#[s1,by lia,ek1,ek4,by lia,by lia,by lia,hk,?_,?_,?_],s2,by lia,by lia,by lia]
 rotate_left
 ·intro t e;show fS (ks.length:Int) t=B;rw[ek];exact fh t (uI e)
 ·intro t e;show fB (ks.length:Int) c t=B;rw[ek];exact fb t (uI e)
 ·intro t e;show fB (ks.length:Int) c t=B;rw[ek];exact fd t (uI e)
 simp only[VV];refine sq (by simp[a0,hm]<;>rfl) (sq (by simp[a1,qmo,hs]<;>rfl) (sq (by simp<;>rfl) (sq (by simp[sm,K2]<;>rfl) (sq (by simp[a14,a15,a16,a17,a18,o,<-UQ]<;>rfl) (sq (by simp[a19,qs]<;>rfl) (sq (by simp[a20,W]<;>rfl) (sq (by simp[a21,o,<-X]<;>rfl) (sq (by simp[a22,a23,o,qs,<-ds0']<;>rfl) ?_))))))));simp[a24,a25,a26,c1,c2,c3,jh]
mutual
noncomputable def Ig:D->Prop
 |.tup l=>l.length<=sizeLine/\KY l
 |.lst l=>l.length<=sizeLine/\KY l
 |.ins _ _ _=>False
 |.scr _=>False
 |.dct _ _=>False
 |.exn _ _=>False
 |.mem _=>False
 |.dk _ _=>False
 |.obj _ _ _ _ _=>False
 |_=>True
noncomputable def KY:L D->Prop
 |[]=>True
 |d::a=>Ig d/\KY a
end
theorem kf:∀{l d},KY l->d∈l->Ig d
 |e::l,d,h,a=>by
  rcases uTa a with rfl|a
  ·exact h.1
  ·exact kf h.2 a
def qZ(l):List.zipWith (λp q=>D.tup [p,q]) l l=l.map λx=>D.tup [x,x]:=by simp
noncomputable def V7(l:L a):=Y9 (λ_=>B) l
def vM(C:Addr)(d:D):∀n:Nat,Ig d->dep d<n->jL C n [d,d]=S (.bl B):=by
 induction d using D.ind with
 |h d o m=>
  intro n f k;cases n with
  |zero=>lia
  |succ n=>
   have j:∀l:L D,(∀x∈l,jL C n [x,x]=S (.bl B))->JA (gT 2 (gC (gN 0) (gC (gN 1) gZ))) jN (j8 (jL C n) [(G,dV 0),(G,dV 1)]) _ [.un,.un]=S (l.map λ_=>D.bl B):=λl h=>Jn (λx=>D.tup [x,x]) _ λx g=>#[_,rfl,rfl,by simp[h x g]]
   simp only[jL,ZO];cases d with
   |non=>simp
   |bl b=>simp[kE,uS]
   |int i=>simp[kE,uS]
   |str s=>simp[kE,uS]
   |tup l=>
    rw[Kr]at k;have q:=j l λx g=>o l rfl x g n (kf f.2 g) (by have:=GN g;lia);simp[kE,uS,qZ,q,f.1,V7]
   |lst l=>
    rw[Zd]at k;have q:=j l λx g=>m l rfl x g n (kf f.2 g) (by have:=GN g;lia);simp[kE,uS,qZ,q,f.1,V7]
   |ins r p t=>exact f.elim
   |scr p=>exact f.elim
   |dct w u=>exact f.elim
   |exn c v=>exact f.elim
   |mem l=>exact f.elim
   |dk a b=>exact f.elim
   |obj a b c d e=>exact f.elim
structure Form (b s) extends Fit b s where
 wn:∀x∈s.waits,0<=x
def q_{k}{i:Nat}{t m}(c:b.dues[i]?=S t)(a:s.met[i]?=S m):(zl b s k)[i]?=S (m||zK k (s.place+1) t):=by
 unfold zl;rw[List.getElem?_zipWith,c,a]
noncomputable def xi:Y Sd->D
 |none=>.non
 |S s=>J3 s
noncomputable def K0(b:Bk)(s:Sd)(k:Int)(i:Nat)(t:T3)(x:Int):=if i=k then 0 else mx ((if i=s.kind then t.2.2 else x)-1) 0
def eV{s k i t x}(X:Fit b s)(h:Yv b k)(n:b.kinds[i]?=S t)(f:s.waits[i]?=S x):(ZT b s k)[i]?=S (K0 b s k i t x):=by
 have o:=(uSa f).1;have p:=h.1;have m:∀j ,0<=j->j.toNat=i->yI b.kinds j=t:=λj r g=>by
  unfold yI;rw[g,uBa,n];rfl
 unfold ZT K0;by_cases e:i=k
 ·have c:k.toNat=i:=by lia
  rw[if_pos e,c,List.getElem?_set];rw[if_pos rfl,if_pos (by split<;>simp<;>lia)]
 ·have c:k.toNat≠i:=by lia
  rw[if_neg e,List.getElem?_set,if_neg c];by_cases l:s.kind=-1
  ·simp_all
  ·have u:=X.c0;rw[if_neg l,List.getElem?_set];by_cases d:i=s.kind
   ·have a:s.kind.toNat=i:=by lia
    rw[if_pos a,if_pos d,if_pos (by rw[vYa];lia),m s.kind (by lia) a]
   ·have a:¬s.kind.toNat=i:=by lia
    rw[if_neg a,if_neg d,uAa,f];rfl
theorem gP:∀l:L Int,ya (l.map D.int)=0
 |[]=>rfl
 |x::l=>by rw[vWa,ya,gP l];rfl
theorem wE:∀l m:L Int,l.length=m.length->YB (l.map D.int) (m.map D.int)=S (decide (l=m))
 |[],[],_=>rfl
 |[],_::_,h=>by simp at h
 |_::_,[],h=>by simp at h
 |x::l,y::m,h=>by
  rw[vWa,vWa,YB,wE l m (by simpa using h),YA];simp only[Option.bind_some];by_cases a:x=y<;>by_cases b:l=m<;>simp[a]
def eW(l m:L Int):Je (.lst (l.map D.int)) (.lst (m.map D.int))=S (.bl (!decide (l=m))):=by
 have e:dep (.lst (l.map D.int))<=20:=by rw[Zd,gP];decide
 have a:Ze (D.lst (l.map D.int)) (D.lst (m.map D.int))=B:=rfl;unfold Je;rw[if_pos a];unfold v_;rw[if_pos #[a,e],YA];by_cases h:l.length=m.length
 ·rw[if_pos (by simpa using h),wE l m h];rfl
 ·have b:¬l=m:=λz=>h (by rw[z]);rw[if_neg (by simpa using h),decide_eq_false b];rfl
def Ih(l):Je (.lst (l.map D.int)) (.lst [])=S (.bl (!decide (l=[]))):=eW l []
def Q0{d:D}:atI (l++[d]) (-1)=S d:=by
 unfold atI Uq;rw[if_neg (by decide),if_pos (by simp;lia),vZa,uIa];have:(-1+((l.length+1:Nat):Int)).toNat=l.length:=by lia
 rw[this];simp 
def d4(x):0<=mx x 0:=by unfold mx;split<;>lia
noncomputable def Q1{a:L Int}{i x y}(h:y∈a.set i x):=List.mem_or_eq_of_mem_set h
set_option tactic.hygienic true in
theorem Form.next{s}(X:Form b s){k}(h:Yv b k):Form b (zx b s k):=by
 refine#[X.toFit.next h,λx a=>?_];have c:∀x∈s.waits.map (λx=>mx (x-1) 0),0<=x:=λx a=>by
  obtain⟨y,_,rfl⟩:=uVa a;exact d4 _
 rcases Q1 a with a|rfl
 ·split at a
  ·exact c x a
  ·rcases Q1 a with a|rfl
   ·exact c x a
   ·exact d4 _
 ·lia
def Form.empty(b):Form b (Jg b):=#[Fit.empty b,λx a=>by
 have:=List.eq_of_mem_replicate a
 lia]
theorem vI{k}:∀{a c s},jK b c a=(s,J)->J8 b s k=J->jK b c (a++[k])=(zx b s k,J)
 |[],c,s,h,d=>by
  cases h;rw[List.nil_append,jK,d];rfl
 |n::a,c,s,h,d=>by
  rw[jK]at h;rw[List.cons_append,jK];cases q:J8 b c n with
  |some w=>rw[q]at h;cases h
  |none=>rw[q]at h;exact vI h d
set_option tactic.hygienic true in
theorem K3{s a k}(h:za b s k=S a):J8 b s k=J/\a=zx b s k/\s.place<b.size:=by
 unfold za at h;split at h
 ·exact Zn h
 ·simp_all
noncomputable def ra(row:L Int)(i):=row.getD i 0
def YR{i}(h:i<row.length):row[i]?=S (ra row i):=by
 unfold ra;rw[uBa,uCa h];rfl
def vJ{row:L Int}{i}{k:Int}(h:i<row.length)(a:k=i):atI (row.map D.int) k=S (.int (ra row i)):=by
 subst a;refine ut (by lia) ?_;rw[uAa,Int.toNat_natCast,YR h];rfl
noncomputable def yq(row:L Int):Nat->Nat
 |0=>1
 |i+1=>if ra row (i+1)=ra row i then yq row i+1 else 1
def BQ(row i):1<=yq row i:=by
 cases i with
 |zero=>exact wPa _
 |succ i=>unfold yq;split<;>lia
theorem Q2(row):∀(i a),1<=a->a<=i+1->(∀j,j<a->ra row (i-j)=ra row i)->¬(a<=i/\ra row (i-a)=ra row i)->yq row i=a
 |0,a,f,c,_,_=>by unfold yq;lia
 |i+1,a,f,c,b,d=>by
  unfold yq;by_cases e:ra row (i+1)=ra row i
  ·have h:2<=a:=by
    by_cases z:a=1
    ·simp_all
    ·lia
   have g:=Q2 row i (a-1) (by lia) (by lia) (λj k=>by
    have:=b (j+1) (by lia);rw[show i+1-(j+1)=i-j by lia]at this;rw[this,e]) (λz=>d #[by lia,by rw[show i+1-a=i-(a-1) by lia,z.2,e]])
   lia
  ·by_cases z:a=1
   ·lia
   ·exact vDa (by have:=b 1 (by lia);exact this.symm) e
def Q3(C:Addr)(row)(i:Nat)(h:i<row.length)(v:row.length<=1000){k:Int}(u:k=(i:Int)):Z0 C [.lst (row.map .int),.int k]=S (.int (yq row i)):=by
 subst u;obtain⟨s,m,⟨a,rfl,n,l,e⟩,r⟩:=qK (dt:=yU C) (s:=Vc C) (λd=>∃a:Nat,d=[.bo (.lst (row.map .int)),.bo (.int (i:Int)),.cl (.int a)]/\1<=a/\a<=i+1/\∀j,j<a->ra row (i-j)=ra row i) (λd=>match d with|[_,_,.cl (.int z)]=>i+2-z.toNat|_=>0) (λd=>by
   rintro⟨a,rfl,n,l,e⟩;have c:=vJ h rfl;by_cases g:a<=i
   ·have b:=vJ (row:=row) (i:=i-a) (k:=i-a) (by lia) (by lia);by_cases f:ra row (i-a)=ra row i
    ·right;refine#[by simp[yU,c,b,g,f],_,by simp[Vc],#[a+1,rfl,by lia,by lia,λj o=>?_],?_]
     ·by_cases p:j=a
      ·rw[p];exact f
      ·exact e j (by lia)
     ·lia
    ·left;simp[yU,c,b,g,f]
   ·left;simp[yU,g]) (n:=20000) #[1,rfl,wPa _,by lia,λj o=>congrArg (ra row) (by lia)] (by lia)
 have t:=Q2 row i a n l e (λz=>by
  have c:=vJ h rfl;have b:=vJ (row:=row) (i:=i-a) (k:=i-(a:Int)) (by lia) (by lia);simp[yU,c,b,z.1,z.2]at r)
 rw[t];simp only[Z0,U9];simp at m;simp[m]
noncomputable def uJ(a:L Int):Nat->Int->Y Nat
 |0,_=>J
 |i+1,c=>if ra a i=c then S i else uJ a i c
noncomputable def VO(b:Bk)(a:L Int)(i:Nat)(c:Int):Int:=match uJ a i c with
 |none=>0
 |S j=>if j+1=i then 0 else mx ((yI b.kinds c).2.2-(i-1-j)) 0
noncomputable def Vv(row:L Int):Nat->T3->Bool
 |0,_=>G
 |i+1,t=>Vv row i t||zK (ra row i) (i+1) t
theorem Q4:∀{i j c},uJ a i c=S j->j<i/\ra a j=c
 |0,j,c,h=>Zn h
 |i+1,j,c,h=>by
  unfold uJ at h;split at h
  ·simp_all
  ·have:=Q4 h;exact#[by lia,this.2]
theorem kg:∀{i c},uJ a i c=J->∀j,j<i->ra a j≠c
 |0,c,h,j,b=>by lia
 |i+1,c,h,j,b=>by
  unfold uJ at h;split at h
  ·exact Zs h
  ·by_cases e:j=i
   ·rw[e];assumption
   ·exact kg h j (by lia)
theorem kh:∀{i j c},uJ a i c=S j->∀m,j<m->m<i->ra a m≠c
 |0,j,c,h,m,b,d=>by lia
 |i+1,j,c,h,m,b,d=>by
  unfold uJ at h;split at h
  ·obtain rfl:=Zj h;lia
  ·by_cases e:m=i
   ·rw[e];assumption
   ·exact kh h m b (by lia)
structure StOf (b:Bk) (row) (i:Nat) (s:Sd) where
 pl:s.place=i
 kd:s.kind=if i=0 then -1 else ra row (i-1)
 ln:s.len=if i=0 then 0 else(yq row (i-1):Int)
 bf:s.before=if i<2 then -1 else ra row (i-2)
 ws:∀c ,c<b.kinds.length->s.waits[c]?=S (VO b row i c)
 ms:∀(j:Nat) (t),b.dues[j]?=S t->s.met[j]?=S (Vv row i t)
 fo:Form b s
def StOf.empty(b a):StOf b a 0 (Jg b):=#[rfl,rfl,rfl,rfl,λc d=>by simp[Jg,d,VO,uJ],λj t e=>by
 have:=(uSa e).1;simp[Jg,this,Vv],Form.empty b]
def StOf.run{row i s}(R:StOf b row i s)(c:0<=ra row i):GX s (ra row i)=(yq row i):=by
 unfold GX;rw[R.kd,R.ln];cases i with
 |zero=>
  rw[if_pos rfl,if_neg (show¬(-1)=ra row 0 by lia)];rfl
 |succ i=>
  have a:yq row (i+1)=if ra row (i+1)=ra row i then yq row i+1 else 1:=rfl
  simp only[Nat.add_sub_cancel,if_neg (Nat.succ_ne_zero i)];rw[a];by_cases e:ra row i=ra row (i+1)
  ·simp_all
  ·rw[if_neg e,if_neg (λz=>e z.symm)];rfl
def AL(b a i s)(R:StOf b a i s)(c t)(m:b.kinds[c]?=S t):K0 b s (ra a i) c t (VO b a i c)=VO b a (i+1) c:=by
 have o:yI b.kinds c=t:=by
  unfold yI;rw[Int.toNat_natCast,uBa,m];rfl
 have n:uJ a (i+1) _=if ra a i=c then S i else uJ a i c:=rfl
 unfold K0 VO;rw[o,n];by_cases h:c=ra a i
 ·simp_all
 ·rw[if_neg h,if_neg (show¬ra a i=c from λz=>h z.symm)];rw[R.kd];cases g:uJ a i _ with
  |none=>
   have l:=kg g;by_cases d:i=0
   ·subst d;simp[mx]
   ·have f:=l (i-1) (by lia);rw[if_neg d];rw[if_neg (λz=>f z.symm)];simp[mx]
  |some j=>
   obtain⟨p,f⟩:=Q4 g;have d:¬i=0:=by lia
   rw[if_neg d];by_cases k:j+1=i
   ·have e:c=ra a (i-1):=by rw[<-f];congr 1;lia
    simp only[if_pos e,if_neg (show¬j+1=i+1 by lia)];congr 1
    lia
   ·have e:¬c=ra a (i-1):=λz=>kh g (i-1) (by lia) (by lia) z.symm;simp only[if_neg e,if_neg k,if_neg (show¬j+1=i+1 by lia)];unfold mx;split<;>split<;>split<;>lia
def StOf.next{a i s}(R:StOf b a i s)(h:Yv b (ra a i)):StOf b a (i+1) (zx b s (ra a i)) where
 pl:=by show s.place+1=_;rw[R.pl];lia
 kd:=by rfl
 ln:=by exact R.run h.1
 bf:=by
  show s.kind=_;rw[R.kd];by_cases e:i=0
  ·simp_all
  ·rw[if_neg e,if_neg (by lia)];rfl
 ws:=λc g=>by
  have f:=R.ws c g;have d:b.kinds[c]?=S b.kinds[c]:=by simp 
  rw[<-AL b a i s R c _ d];exact eV R.fo.toFit h d f
 ms:=λj t d=>by
  have:=q_ (k:=ra a i) d (R.ms j t d);rw[R.pl]at this;exact this
 fo:=R.fo.next h
theorem wF:∀l:L Int,WT (l.map D.int)=S (l.map V.int)
 |[]=>rfl
 |x::l=>by rw[vWa,WT,wF l];rfl
def BR(k)(l:L Int):QE (.int k) (l.map V.int)=decide (k∈l):=by
 unfold QE;induction l with
 |nil=>simp
 |cons x l b=>
  rw[vWa,List.any_cons,b];show((x==k)||_)=_;by_cases e:x=k
  ·simp[e]
  ·have a:¬k=x:=λz=>e z.symm;simp[e,a]
def xj(a k)(l:L Int):zU a (.int k) (.lst (l.map D.int))=S (.bl (if a then !decide (k∈l)else decide (k∈l))):=by
 simp[wF,BR]
def xk{f e k}(c:e<=row.length):k∈(row.drop f).take (e-f)↔∃j,f<=j/\j<e/\ra row j=k:=by
 rw[List.mem_iff_getElem?];constructor
 ·rintro⟨n,a⟩;rw[List.getElem?_take]at a;split at a
  ·rw[List.getElem?_drop]at a;refine#[f+n,by lia,by lia,?_];have:=YR (row:=row) (i:=f+n) (by lia);rw[this]at a;exact vFa a
  ·exact Zn a
 ·rintro⟨j,b,d,rfl⟩;refine#[j-f,?_];rw[List.getElem?_take,if_pos (by lia),List.getElem?_drop,show f+(j-f)=j by lia];exact YR (by lia)
def BS{k}(h:Yv b k)(c:OkB b):fK (yI b.kinds k)=B:=by
 refine c.ks _ ?_;unfold yI;have a:k.toNat<b.kinds.length:=by have:=h.1;have:=h.2;lia
 rw[uBa,uCa a];exact List.getElem_mem a
noncomputable def K4(b:Bk)(s:Sd)(k:Int):Y Str:=if U1 b s k=B then S "long" else if YF b s k=B then S "short" else if zy s k=B then S "early" else if U4 b s k=B then S "shun" else J
def BU{row i s}(R:StOf b row i s)(y:OkB b)(o:∀n∈row,Yv b n)(r:i<row.length)(f:Nat)(l:f=if i-(yI b.kinds (ra row i)).2.2 > 0 then i-(yI b.kinds (ra row i)).2.2 else 0)(a:s.kind≠ra row i):zy s (ra row i)=decide (ra row i∈(row.drop f).take (i-f)):=by
 have g:=o _ (wYa (YR r));have x:=R.ws (ra row i).toNat (by have:=g.1;have:=g.2;lia)
 have A:((ra row i).toNat)=ra row i:=by have:=g.1;lia
 unfold zy;rw[decide_eq_false a,Bool.not_false,Bool.true_and,uBa,x];show(!decide _)=_;have v:VO b row i (ra row i)≠0↔ra row i∈(row.drop f).take (i-f):=by
  rw[xk (by lia)];unfold VO;have h:=R.kd;cases d:uJ row i _ with
  |none=>
   simp only[ne_eq,not_true_eq_false,false_iff];rintro⟨j,k,c,p⟩;exact kg d j c p
  |some j=>
   obtain⟨k,c⟩:=Q4 d;have w:¬j+1=i:=λz=>a (by
    rw[h,if_neg (by lia),<-c];congr 1
    lia)
   simp only[if_neg w];have u:mx ((yI b.kinds (ra row i)).2.2-(i-1-j)) 0≠0↔i-1-j<(yI b.kinds (ra row i)).2.2:=by
    unfold mx;split<;>lia
   rw[u];constructor
   ·intro z;refine#[j,?_,k,c];split at l<;>lia
   ·rintro⟨e,C,m,t⟩;have:e<=j:=by
     by_cases z:e<=j
     ·exact z
     ·exact vDa t (kh d e (by lia) m)
    split at l<;>lia
 by_cases z:VO b row i (ra row i)=0
 ·simp_all
 ·simp_all
def eX(C:Addr)(b:Bk)(row:L Int)(i:Nat)(s:Sd)(ok:OkB b)(hr:∀n∈row,Yv b n)(hi:i<row.length)(hl:row.length<=1000)(R:StOf b row i s):vm C [jh b,.lst (row.map .int),.int (i:Int)]=S (oS (K4 b s (ra row i))):=by
 have hk:=hr (ra row i) (wYa (YR hi));have fk:=BS hk ok;unfold fK at fk;simp only[Bool.and_eq_true,decide_eq_true_eq]at fk;have a0:=vJ (row:=row) (k:=(i:Int)) hi rfl;have e1:=Q3 C row i hi hl (k:=(i:Int)) rfl;have ek:=Zl hk.1 hk.2;have g:=R.run hk.1;have P:s.kind=ra row i->1<=s.len:=λz=>by
  rw[R.ln];have:=R.kd;by_cases e:i=0
  ·rw[if_pos e]at this;have:=hk.1;lia
  ·rw[if_neg e];have:=BQ row (i-1);lia
 unfold GX at g;have r:U1 b s (ra row i)=decide ((yI b.kinds (ra row i)).2.1<(yq row i:Int)):=by
  unfold U1;by_cases z:s.kind=ra row i
  ·rw[if_pos z]at g;rw[decide_eq_true z,Bool.true_and];by_cases y:s.len>=(yI b.kinds (ra row i)).2.1
   ·rw[decide_eq_true y,decide_eq_true (by lia)]
   ·rw[decide_eq_false y,decide_eq_false (by lia)]
  ·rw[if_neg z]at g;rw[decide_eq_false z,Bool.false_and,decide_eq_false (by lia)]
 have o:(yq row i:Int)=1↔s.kind≠ra row i:=by
  by_cases z:s.kind=ra row i
  ·rw[if_pos z]at g;have:=P z;constructor
   ·intro y;lia
   ·intro y;exact vDa z y
  ·rw[if_neg z]at g;exact#[λ_=>z,λ_=>g.symm]
 have a:=λ(H k I:Sl)=>Zi (g:=Yo) (s:=yv C) (items:=b.shuns.map t3) (λρ=>∃x y z,ρ=[.bo (jh b),.bo (.lst (row.map .int)),.bo (.int (i:Int)),.cl (.int (ra row i)),H,k,I,x,y,z]) (qT (Va s (ra row i))) (.rt (.str "shun")) (.inl #[_,rfl]) (by
  rintro d hd ρ ⟨x,y,z,rfl⟩;obtain⟨t,ht,rfl⟩:=uVa hd;have O:=ok.hs t ht;obtain⟨u,v,w⟩:=t;unfold fS at O;simp only[Bool.and_eq_true,decide_eq_true_eq]at O;refine#[_,rfl,?_];rw[YO];unfold Va;simp only[yv];by_cases Z:v=ra row i
  ·have c:=R.kd;have l:=R.bf;by_cases h1:w=1
   ·subst h1;by_cases h3:1<=i
    ·have N:=vJ (row:=row) (i:=i-1) (k:=(i:Int)-1) (by lia) (by lia);rw[if_neg (by lia)]at c;have h:(1:Int)<=(i:Int):=by lia
     have h3'':0<i:=by lia
     by_cases h4:ra row (i-1)=u<;>simp[Z,h3,h,h3'',N,c,h4]
    ·have h:i=0:=by lia
     rw[if_pos h]at c;have h5:¬(-1:Int)=u:=by lia
     simp[Z,h,c,h5]
   ·have h1:w=2:=by lia
    subst h1;by_cases h3:2<=i
    ·have N:=vJ (row:=row) (i:=i-2) (k:=(i:Int)-2) (by lia) (by lia);rw[if_neg (by lia)]at l;have h:(2:Int)<=(i:Int):=by lia
     by_cases h4:ra row (i-2)=u<;>simp[Z,h,N,l,h4]
    ·rw[if_pos (by lia)]at l;have h:¬(2:Int)<=(i:Int):=by lia
     have h5:¬(-1:Int)=u:=by lia
     simp[Z,h,l,h5]
  ·simp[Z]) (b:=[.bo (jh b),.bo (.lst (row.map .int)),.bo (.int (i:Int)),.cl (.int (ra row i)),H,k,I,.un,.un,.un]) #[.un,.un,.un,rfl]
 have hsh:U4 b s (ra row i)=b.shuns.any (Va s (ra row i)):=rfl;simp only[any_map t3 _ (Va s (ra row i)) (YO _),<-hsh]at a;unfold K4;rw[r];refine fE (sq (by simp[a0]<;>rfl) (sq (by simp[e1]<;>rfl) ?_));by_cases c1:(yI b.kinds (ra row i)).2.1<(yq row i:Int)
 ·rw[decide_eq_true c1];exact J_ (Jm (by simp[ek,c1]) rfl)
 rw[decide_eq_false c1];refine sq (jF (by simp[ek,c1]) rfl) ?_;have fin:∀H k I:Sl,(j0 (yC (Ji (d2 j3 (dV 0) (dK (.int 2)))) Yo (yv C)) (jd (dK .non))) [.bo (jh b),.bo (.lst (row.map .int)),.bo (.int (i:Int)),.cl (.int (ra row i)),H,k,I,.un,.un,.un]=S (.rt (oS (if U4 b s (ra row i)=B then S "shun" else J))):=λH k I=>by
  rcases a H k I with⟨L1,L2⟩|⟨L1,ρ',_,L2⟩<;>rw[L1]
  ·exact J_ L2
  ·exact sq L2 rfl
 by_cases M:s.kind=ra row i
 ·have m:¬(yq row i:Int)=1:=λz=>o.mp z M;have s1:YF b s (ra row i)=G:=by unfold YF;simp[M]
  have s2:zy s (ra row i)=G:=by unfold zy;simp[M]
  have W:¬yq row i=1:=λz=>m (by lia);rw[s1,s2];refine sq (jF (by by_cases F:0<i<;>simp[F,m,W]) rfl) (sq (jF (by simp[m,W]) rfl) (fin _ _ _))
 ·have m:yq row i=1:=by have:=o.mpr M;lia
  obtain⟨f,O⟩:∃f:Nat,(f:Int)=if(i:Int)-(yI b.kinds (ra row i)).2.2 > 0 then(i:Int)-(yI b.kinds (ra row i)).2.2 else 0:=#[(if(i:Int)-(yI b.kinds (ra row i)).2.2 > 0 then(i:Int)-(yI b.kinds (ra row i)).2.2 else 0).toNat,by split<;>lia]
  have hea:=BU R ok hr hi f O M;have hfi:f<=i:=by split at O<;>lia
  have ec:jP (row.map D.int) (S (f:Int)) (S (i:Int))=((row.drop f).take (i-f)).map D.int:=by
   rw[Jw,qY row f i (by lia) (by lia)]
  have j:=xj G (ra row i) ((row.drop f).take (i-f));rw[<-hea]at j;have emx:VS [.int 0,.int ((i:Int)-(yI b.kinds (ra row i)).2.2)]=S (.int (f:Int)):=by rw[O];rfl
  generalize(row.drop f).take (i-f)=cut at ec j;refine Nt (λUQ=>YF b s (ra row i)=G/\∃k,UQ=[.bo (jh b),.bo (.lst (row.map .int)),.bo (.int (i:Int)),.cl (.int (ra row i)),.cl (.int (yq row i)),k,.un,.un,.un,.un]) ?_ ?_
  ·have c:=R.kd;by_cases F:i=0
   ·rw[if_pos F]at c;exact .inr #[_,jF (by simp[F]) rfl,by unfold YF;simp[c],_,rfl]
   ·rw[if_neg F]at c;have N:=vJ (row:=row) (i:=i-1) (k:=(i:Int)-1) (by lia) (by lia);have A:=hr (ra row (i-1)) (wYa (YR (by lia)));have X:=Zl A.1 A.2;have T:=Q3 C row (i-1) (by lia) hl (k:=(i:Int)-1) (by lia);have Q:0<i:=by lia
    have p:YF b s (ra row i)=decide ((yq row (i-1):Int)<(yI b.kinds (ra row (i-1))).1):=by
     unfold YF;have n1:¬s.kind=-1:=by rw[c];have:=A.1;lia
     rw[decide_eq_false M,decide_eq_false n1,R.ln,if_neg F,c];rfl
    by_cases c4:(yq row (i-1):Int)<(yI b.kinds (ra row (i-1))).1
    ·rw[p,decide_eq_true c4];exact .inl #[_,Jm (by simp[Q,m]) (sq (by simp[N,X]<;>rfl) (Jm (by simp[T,c4]) rfl)),rfl]
    ·rw[p,decide_eq_false c4];exact .inr #[_,Jm (by simp[Q,m]) (sq (by simp[N,X]<;>rfl) (jF (by simp[T,c4]) rfl)),rfl,_,rfl]
  ·rintro UQ ⟨s1,k,rfl⟩;rw[s1];cases he:zy s (ra row i)<;>rw[he]at j
   ·exact sq (Jm (by simp[m]) (sq (by simp[-VS,ek,emx]<;>rfl) (jF (by simp[-zU,ec,j]) rfl))) (fin (.cl (.int (yq row i))) k (.cl (.int (f:Int))))
   ·exact J_ (Jm (by simp[m]) (sq (by simp[-VS,ek,emx]<;>rfl) (Jm (by simp[-zU,ec,j]) rfl)))
theorem Q5(a t):∀n ,Vv a n t=B↔∃j,j<n/\zK (ra a j) (j+1) t=B
 |0=>by simp[Vv]
 |n+1=>by
  unfold Vv;rw[Bool.or_eq_true,Q5 a t n];constructor
  ·rintro(⟨j,c,b⟩|h)
   ·exact#[j,by lia,b]
   ·exact#[n,by lia,h]
  ·rintro⟨j,c,b⟩;by_cases e:j=n
   ·simp_all
   ·exact .inl #[j,by lia,b]
def eY{i f:Nat}{t:T3}(h:i<row.length)(g:f=t.2.1-1)(e:t.2.2=i+1):Vv row (i+1) t=decide (t.1∈(row.drop f).take (i+1-f)):=by
 have d:Vv row (i+1) t=B↔t.1∈(row.drop f).take (i+1-f):=by
  rw[Q5,xk (by lia)];constructor
  ·rintro⟨j,b,a⟩;unfold zK at a;simp only[Bool.and_eq_true,decide_eq_true_eq]at a;exact#[j,by lia,b,a.1.symm]
  ·rintro⟨j,b,a,c⟩;refine#[j,a,?_];unfold zK;simp only[Bool.and_eq_true,decide_eq_true_eq];exact#[c.symm,by lia,by lia]
 by_cases z:t.1∈(row.drop f).take (i+1-f)
 ·simp_all
 ·simp_all
noncomputable def XZ(row:L Int)(i:Nat)(t:T3):=decide (t.2.2=i+1)&&!Vv row (i+1) t
def eZ{a i s}(R:StOf b a i s):List.zip b.dues (zl b s (ra a i))=b.dues.map λt=>(t,Vv a (i+1) t):=by
 apply List.ext_getElem?;intro j;rw[uAa,List.zip,List.getElem?_zipWith];cases h:b.dues[j]? with
 |none=>rfl
 |some t=>
  have:=q_ (k:=ra a i) h (R.ms j t h);rw[R.pl]at this;rw[this];rfl
def Ii{row i s}(R:StOf b row i s):KP b s (ra row i)=b.dues.any (XZ row i):=by
 unfold KP;rw[eZ R,List.any_map,R.pl];rfl
def Q6(b s k):J8 b s k=if Zm b s k=B then S (Str.ofString "barred")else match K4 b s k with
  |S w=>S w
  |none=>if KP b s k=B then S (Str.ofString "due")else if KQ b s k=B then S (Str.ofString "cut")else J:=by
 unfold J8 K4;cases Zm b s k<;>cases U1 b s k<;>cases YF b s k<;>cases zy s k<;>cases U4 b s k<;>rfl
def Q7(C:Addr)(b:Bk)(row:L Int)(i:Nat)(s:Sd)(UQ:OkB b)(O:∀n∈row,Yv b n)(h:i<row.length)(T:row.length<=1000)(R:StOf b row i s):Z1 C [jh b,.lst (row.map .int),.int (i:Int)]=S (oS (J8 b s (ra row i))):=by
 have p:=O (ra row i) (wYa (YR h));have a0:=vJ (row:=row) (k:=(i:Int)) h rfl;have Q:=Q3 C row i h T (k:=(i:Int)) rfl;have X:=Zl p.1 p.2;have j:=R.run p.1;have Z:=eX C b row i s UQ O h T R;have a:=Zi (g:=uu) (s:=Zq C) (items:=b.bars.map t3) (λg=>∃x,g=[.bo (jh b),.bo (.lst (row.map .int)),.bo (.int (i:Int)),.cl (.int (ra row i)),x,.un,.un]) (qT (zK (ra row i) ((i:Int)+1))) (.rt (.str "barred")) (.inl #[_,rfl]) (by
  rintro d z g ⟨x,rfl⟩;obtain⟨t,_,rfl⟩:=uVa z;obtain⟨u,v,w⟩:=t;refine#[_,rfl,?_];rw[YO];unfold zK;simp only[Zq];by_cases e:u=ra row i
  ·by_cases N:v<=(i:Int)+1
   ·by_cases h3:(i:Int)+1<=w<;>simp[e,N,h3]
   ·simp[e,N]
  ·simp[e]) #[.un,rfl]
 have H:Zm b s (ra row i)=b.bars.any (zK (ra row i) ((i:Int)+1)):=by unfold Zm;rw[R.pl]
 rw[any_map t3 _ (zK (ra row i) ((i:Int)+1)) (YO _),<-H]at a;have M:=λ(x4:Sl)=>Zi (g:=uw) (s:=Zr C) (items:=b.dues.map t3) (λg=>∃x,g=[.bo (jh b),.bo (.lst (row.map .int)),.bo (.int (i:Int)),.cl (.int (ra row i)),x4,.cl .non,x]) (qT (XZ row i)) (.rt (.str "due")) (.inl #[_,rfl]) (by
  rintro d z g ⟨x,rfl⟩;obtain⟨t,ht,rfl⟩:=uVa z;have W:=UQ.ds t ht;unfold fB at W;simp only[Bool.and_eq_true,decide_eq_true_eq]at W;refine#[_,rfl,?_];rw[YO];unfold XZ;simp only[Zr];by_cases e:t.2.2=(i:Int)+1
  ·obtain⟨f,k⟩:∃f:Nat,(f:Int)=t.2.1-1:=#[(t.2.1-1).toNat,by lia]
   have hm:=eY h k e;have r:jP (row.map D.int) (S (t.2.1-1)) (S ((i:Int)+1))=((row.drop f).take (i+1-f)).map D.int:=by
    rw[<-k,show(i:Int)+1=((i+1:Nat):Int) by lia,Jw,qY row f (i+1) (by lia) (by lia)]
   have c:=xj B t.1 ((row.drop f).take (i+1-f));rw[<-hm]at c;revert r c;generalize(row.drop f).take (i+1-f)=cut;intro r c;cases F:Vv row (i+1) t<;>rw[F]at c<;>simp[-zU,e,r,c]
  ·simp[e]) #[.un,rfl]
 simp only[any_map t3 _ (XZ row i) (YO _),<-Ii R]at M;rw[Q6];refine fE (sq (Bn a0 rfl) ?_);rcases a with⟨P,L2⟩|⟨P,o,⟨x,rfl⟩,L2⟩<;>rw[P]
 ·exact J_ L2
 ·refine sq L2 (sq (Bn Z rfl) ?_);cases hn:K4 b s (ra row i)with
  |some w=>exact J_ (Jm rfl rfl)
  |none=>
   refine sq (jF rfl rfl) ?_;rcases M x with⟨I,A⟩|⟨I,o,⟨y,rfl⟩,A⟩<;>rw[I]
   ·exact J_ A
   ·have hc:KQ b s (ra row i)=(decide ((i:Int)+1=b.size)&&decide ((yq row i:Int)<(yI b.kinds (ra row i)).1)):=by unfold KQ;rw[R.pl,j]
    refine sq A ?_;rw[hc];by_cases l:(i:Int)+1=b.size
    ·by_cases m:(yq row i:Int)<(yI b.kinds (ra row i)).1
     ·rw[decide_eq_true l,decide_eq_true m];exact J_ (Jm (by simp[Q,X,l,m]) rfl)
     ·rw[decide_eq_false m,Bool.and_false];exact sq (jF (by simp[Q,X,l,m]) rfl) rfl
    ·rw[decide_eq_false l];exact sq (jF (by simp[l]) rfl) rfl
def ki{a i s}(c:i<a.length):jK b s (a.drop i)=match J8 b s (ra a i)with
  |S w=>(s,S w)
  |none=>jK b (zx b s (ra a i)) (a.drop (i+1)):=by
 have e:a.drop i=ra a i::a.drop (i+1):=by
  have h:=YR c;rw[List.drop_eq_getElem_cons c];rw[uCa c]at h;rw[Option.some.inj h]
 rw[e,jK];all_goals(cases J8 b s _<;>rfl)
def Uk(h:(Jv 0 n)[i]?=S d):i<n/\d=.int i:=by
 unfold Jv at h;rw[uAa]at h;by_cases z:i<n
 ·rw[List.getElem?_range z]at h;refine#[z,?_];have:=vFa h;rw[<-this];simp
 ·simp_all
def K5(C b c)(z:OkB b)(m:∀n∈c,Yv b n)(u:c.length<=1000):zD C [jh b,.lst (c.map .int)]=S (oJ (yd b c)):=by
 have a:=BA (g:=VL) (s:=Z2 C) (r:=.nx []) (λi l=>∃x y s,l=[.bo (jh b),.bo (.lst (c.map .int)),x,y]/\StOf b c i s/\jK b _ c=jK b s (c.drop i)) (λi r=>∃s w,jK b _ c=(s,S w)/\r=.rt (.tup [.int (s.place+1),.str w])) (by
  rintro i d l j ⟨x,y,s,rfl,R,f⟩;obtain⟨k,rfl⟩:=Uk j;have e:=Q7 C b c i s z m k u R;have v:=m _ (wYa (YR k));rw[ki k]at f;refine#[_,rfl,?_];simp only[Z2];cases p:J8 b s _ with
  |some w=>
   rw[p]at e f;exact .inr #[.tup [.int (i+1),.str w],by simp[e,oS],s,w,f,by rw[R.pl]]
  |none=>
   rw[p]at e f;exact .inl #[[.bo (jh b),.bo _,.cl (.int i),.cl .non],by simp[e,oS],_,_,_,rfl,R.next v,f]) (c:=[.bo (jh b),.bo _,.un,.un]) #[_,_,_,rfl,StOf.empty b c,rfl]
 have o:JI c.length=B:=YY (by lia) (by lia);simp only[zD,v8];rcases a with⟨t,g,x,y,s,rfl,R,f⟩|⟨i,A,_,g,s,w,f,j⟩
 ·have h:yd b c=J:=by
   unfold yd;rw[f];have:c.drop (Jv 0 c.length).length=[]:=List.drop_eq_nil_of_le (by simp[Jv]);rw[this];rfl
  rw[h];simp[o,g,oJ]
 ·cases j;have h:yd b c=S (s.place+1,w):=by
   unfold yd;rw[f]
  rw[h];simp[o,g,oJ]
theorem StOf.walk{a}(h:∀n∈a,Yv b n){f}:∀(m i s),a.length-i=m->i<=a.length->StOf b a i s->jK b s (a.drop i)=(f,J)->StOf b a a.length f
 |0,i,s,l,j,R,c=>by
  have e:i=a.length:=by lia
  subst e;rw[List.drop_length]at c;cases c;exact R
 |m+1,i,s,l,j,R,c=>by
  have d:i<a.length:=by lia
  rw[ki d]at c;have k:=h _ (wYa (YR d));cases g:J8 b s _ with
  |some w=>rw[g]at c;cases c
  |none=>
   rw[g]at c;exact StOf.walk h m (i+1) _ (by lia) d (R.next k) c
noncomputable def StOf.all{a}(d){s}(c:jK b _ a=(s,J)):=
 StOf.walk d _ 0 _ rfl (Nat.zero_le _) (StOf.empty b a) c
noncomputable def Yp(b:Bk)(a:L Int):Y Xp:=if Z9 b a=G then S ("NoKind",[])else if b.size<a.length then S ("TooLong",[])else match jK b (Jg b) a with
 |(s,S w)=>S ("Broken",[("word",.str w),("place",.int (s.place+1))])
 |_=>J
theorem AM(C b a)(h:OkB b)(g:a.length<=1000):vH C [jm C b,.lst (a.map .int)]=S (match Yp b a with
  |S p=>.xc p
  |none=>.ok (J3 (jK b (Jg b) a).1)):=by
 have d:=qS C b a g;simp only[vH,Ug];unfold Yp;cases f:Z9 b a with
 |false=>rw[f]at d;simp[d]
 |true=>
  rw[f]at d;by_cases c:b.size<a.length
  ·simp[d,c]
  ·have e:=AJ C b a h (Vt f);revert e;generalize jK b _ a=q;obtain⟨s,o⟩:=q;intro e;cases o with
   |none=>simp[d,e,oS,c]
   |some x=>simp[d,e,oS,c,show∀(i:Int) (w:Str),Xr [.int i,.str w]=S [.int i,.str w] from λ_ _=>rfl]
def BV{a}(h:C_ b a){s}(c:jK b (Jg b) a=(s,J)):Yp b a=J:=by
 unfold Yp;have d:=h.2;rw[qR h.1,if_neg (by decide),if_neg (by lia),c]
def BW{a}(h:Yp b a=J):C_ b a/\∃s,jK b (Jg b) a=(s,J):=by
 unfold Yp at h;cases c:Z9 b a with
 |false=>rw[c]at h;exact Zs h
 |true=>
  rw[c]at h;by_cases d:b.size<a.length
  ·simp[d]at h
  ·simp only[d,if_false]at h;refine#[#[Vt c,by lia],?_];revert h;generalize jK b _ a=q;obtain⟨s,o⟩:=q;cases o with
   |none=>exact λ_=>#[s,rfl]
   |some x=>intro h;exact Zs h
def e_{n i}(h:i<n):ra (a.take n) i=ra a i:=by
 unfold ra;rw[uBa,uBa,List.getElem?_take,if_pos h]
theorem StOf.upto{a}(g:∀n∈a,Yv b n){n}(k:n<=a.length){h}:∀(m i s),n-i=m->i<=n->StOf b a i s->jK b s ((a.take n).drop i)=(h,J)->StOf b a n h
 |0,i,s,p,l,R,c=>by
  have e:i=n:=by lia
  subst e;rw[List.drop_eq_nil_of_le (by simp;lia)]at c;cases c;exact R
 |m+1,i,s,p,l,R,c=>by
  have f:i<(a.take n).length:=by simp;lia
  have d:i<a.length:=by lia
  rw[ki f,e_ (by lia)]at c;have o:=g _ (wYa (YR d));cases j:J8 b s _ with
  |some w=>rw[j]at c;cases c
  |none=>
   rw[j]at c;exact StOf.upto g k m (i+1) _ (by lia) (by lia) (R.next o) c
noncomputable def rD(r:L Int):D:=.lst (r.map .int)
noncomputable def ur(b)(r:L Int)(c:Nat):=(J8 b (jK b (Jg b) r).1 c).isNone
theorem Q8:∀l:L Bool,ya (l.map D.bl)=0
 |[]=>rfl
 |x::l=>by rw[vWa,ya,Q8 l];rfl
def X_(C b s k)(f:OkB b)(X:Fit b s)(h:Yv b k):gG C [jm C b,J3 s,.int k]=S (xi (za b s k)):=by
 have a:=wD C b s k f X h;have g:=qW C b s k f X h;unfold za;simp only[gG,gF];by_cases c:s.place>=b.size
 ·have d:=c;simp[d,xi]
 ·have d:=c;cases e:J8 b s k with
  |none=>rw[e]at a;simp[d,a,g,oS,xi]
  |some w=>rw[e]at a;simp[a,oS,xi]
noncomputable def Gt(t:Str):=t.cps.size<=20/\∀c∈t.cps.toList,c<128
theorem kj:∀a ,(Str.join "" a).cps.toList=(a.map (·.cps.toList)).flatten
 |[]=>rfl
 |[x]=>by simp[Str.join]
 |x::y::r=>by
  have b:=kj (y::r);rw[Str.join,vWa,List.flatten_cons,<-b]
  ·show(x.cps++(Str.ofString "").cps++(Str.join "" _).cps).toList=_;have e:(Str.ofString "").cps=#v[]:=by kernel_rfl
   rw[e];simp
  ·simp_all
def Q9(h:∀t∈b,t.cps.size=1)(g:b.length<=20):JoinOk "" b=B:=by
 have a:∀(l:L Str) (n),(∀t∈l,t.cps.size=1)->l.foldl (λx t=>x+t.length+(Str.ofString "").length) n=n+l.length:=by
  intro l;induction l with
  |nil=>intro n _;rfl
  |cons t l d=>
   intro n h;rw[List.foldl_cons,d _ λx f=>h x (List.mem_cons_of_mem _ f)];have e:t.length=1:=h t wNa;have c:(Str.ofString "").length=0:=by kernel_rfl
   rw[e,c,vXa]
   lia
 unfold JoinOk;rw[<-Array.foldl_toList];rw[a _ _ (by simpa using h)];unfold Builtin.Str.tooLong;have z:¬(0+b.toArray.toList.length > sizeLine):=by
  have:(20)<=sizeLine:=by decide
  lia
 rw[decide_eq_false z];rfl
def a6:(List.range 26).map (λi:Nat=>Zh (.str "abcdefghijklmnopqrstuvwxyz") (.int i))=(List.range 26).map λi=>S (.str #[#v[97+i]]):=by kernel_rfl
def AN:(List.range 10).map (λi:Nat=>Zh (.str "abcdefghyz") (.int i))=(List.range 10).map λi=>S (.str #[#v[if i<8 then 97+i else 113+i]]):=by kernel_rfl
def K6{a b:Type}{f g:a->b}{l:L a}(h:l.map f=l.map g){x}(c:x∈l):f x=g x:=by simp_all
def Ij(h:0<=i/\i<26):Zh (.str "abcdefghijklmnopqrstuvwxyz") (.int i)=S (.str #[#v[97+i.toNat]]):=by
 have:=K6 a6 (x:=i.toNat) (List.mem_range.mpr (by lia));rw[show(i.toNat:Int)=i by lia]at this;exact this
def BX(i:Nat)(h:i<10):Zh (.str "abcdefghyz") (.int (0+i))=S (.str #[#v[if i<8 then 97+i else 113+i]]):=by
 have:=K6 AN (List.mem_range.mpr h);rw[Int.zero_add];exact this
theorem wG:∀a ,Gf (a.map D.str)=S a
 |[]=>rfl
 |t::a=>by show(Gf (a.map D.str)).bind _=_;rw[wG a];rfl
def xl(C:Addr)(n:Int):∃t:Str,JD C [.int n]=S (.str t)/\Gt t:=by
 generalize I:1+n%8=f at *;have o:∀i:Nat,i<f.toNat->GJ (0+(i:Int)) (n/64%3)=B:=λi k=>VN (by lia) (by lia);have W:=Jn (g:=gN 0) (dc:=jN) (de:=d2 Zh (dV 1) (d2 jt (d2 jG (d2 Y2 (dV 2) (dK (.int 8))) (d2 zh (dV 0) (d2 jt (d2 Y2 (dV 2) (dK (.int 64))) (dK (.int 3))))) (dK (.int 26)))) (k:=[.un,.cl (.str "abcdefghijklmnopqrstuvwxyz"),.bo (.int n)]) (λi:Nat=>D.int (0+(i:Int))) (λi:Nat=>D.str #[#v[97+((n/8+(0+(i:Int))*(n/64%3))%26).toNat]]) (xs:=List.range f.toNat) λi k=>by
  have k:=List.mem_range.mp k;have e:=Ij (jX (a:=n/8+(0+(i:Int))*(n/64%3)) (by decide));have c:=o i k;refine#[_,rfl,rfl,?_];simp at c e;simp[c,e]
 generalize d:(List.range f.toNat).map (λi:Nat=>(#[_]:Str))=b at *;have p:JA (gN 0) jN (d2 Zh (dV 1) (d2 jt (d2 jG (d2 Y2 (dV 2) (dK (.int 8))) (d2 zh (dV 0) (d2 jt (d2 Y2 (dV 2) (dK (.int 64))) (dK (.int 3))))) (dK (.int 26)))) (Jv 0 f.toNat) [.un,.cl (.str "abcdefghijklmnopqrstuvwxyz"),.bo (.int n)]=S (b.map D.str):=by
  rw[<-d,List.map_map];exact W
 have O:b.length<=8:=by rw[<-d];simp;lia
 have g:∀t∈b,∃c,t=#[#v[c]]/\c<128:=λt j=>by
  rw[<-d]at j;obtain⟨i,_,rfl⟩:=uVa j;exact#[_,rfl,by lia]
 have a:=Q9 (λt j=>by obtain⟨c,rfl,_⟩:=g t j;rfl) (by lia);have s:JI f=B:=YY (by lia) (by lia);have u:(Jv 0 f.toNat).length<=sizeLine:=by
  simp only[Jv,List.length_map,List.length_range];have:(8:Nat)<=sizeLine:=by decide
  lia
 have N:∀l:L Str,(∀t∈l,∃c,t=#[#v[c]]/\c<128)->(l.map (·.cps.toList)).flatten.length=l.length/\∀c∈(l.map (·.cps.toList)).flatten,c<128:=by
  intro l;induction l with
  |nil=>intro _;exact#[rfl,by simp]
  |cons t l F=>
   intro h;obtain⟨c,rfl,m⟩:=h t wNa;obtain⟨v,r⟩:=F λx A=>h x (wMa _ A);refine#[by simp at v⊢;lia,λy w=>?_];rcases uWa w with z|z
   ·simp at z;lia
   ·exact r y z
 obtain⟨H,M⟩:=N b g;refine#[Txt.join "" b,fE ?_,?_]
 ·exact sq rfl (sq (by simp[I]<;>rfl) (by simp[s,p,u,wG,a]))
 ·have e:Txt.join "" b=Str.join "" b:=PySem.StrLaws.glued_eq_join _ _;rw[e];refine#[?_,λc m=>M c (by rw[<-kj];exact m)];rw[<-Array.length_toList,kj,H]
  lia
noncomputable def Gu(t:Str):=t.cps.size<=30/\∀c∈t.cps.toList,c<128
def Gt.u(h:Gt t):Gu t:=#[wSa h.1 (by decide),h.2]
def Gu.z(h:Gu t):t.length<=sizeLine:=wSa h.1 (by decide)
def Qa(h:Gt t)(d a):Gt (Txt.slice t d a):=by
 refine#[wSa (Txt.slice_le t d a) h.1,λc b=>?_];unfold Txt.slice at b;split at b
 ·exact h.2 c b
 ·obtain⟨i,_,e⟩:=List.mem_filterMap.mp (show c∈List.filterMap (λx=>t.cps[x]?) _ from b);obtain⟨a,rfl⟩:=Array.getElem?_eq_some_iff.mp e;exact h.2 _ (Array.getElem_mem_toList a)
def Ik(h:Gt t){c}(b:c<128):Gu (t++#[#v[c]]):=by
 have e:(t++#[#v[c]]).cps=t.cps++#v[c]:=rfl;refine#[by rw[e,Array.size_append];have:=h.1;show t.cps.size+1<=30;lia,λx a=>?_];rw[e,Array.toList_append]at a;rcases uWa a with z|z
 ·exact h.2 x z
 ·simp_all
def Il(h:Gt t){c}:jG (.str t) (.str #[#v[c]])=S (.str (t++#[#v[c]])):=by
 have z:t.length+(#[#v[c]]:Str).length<=sizeLine:=by
  have:=h.1;have e:(#[#v[c]]:Str).length=1:=rfl;have a:t.length=t.cps.size:=rfl;have:(30)<=sizeLine:=by decide
  lia
 simp[z]
noncomputable def nm(C:Addr)(n):=(xl C n).choose
def K7(C n):JD C [.int n]=S (.str (nm C n))/\Gt (nm C n):=(xl C n).choose_spec
noncomputable def wH(n:Int):Str:=match n with
 |0=>"" |1=>"abcdefghi" |2=>"Ab" |3=>"a b" |_=>"a1"
def Im(h:0<=n/\n<5):atI [D.str "",.str "abcdefghi",.str "Ab",.str "a b",.str "a1"] n=S (.str (wH n))/\Gt (wH n):=by
 obtain⟨k,rfl⟩:∃k:Nat,n=k:=#[n.toNat,by lia]
 have:k<5:=by lia
 have g:∀t∈(["","abcdefghi","Ab","a b","a1"]:L Str),Gt t:=by
  intro t a;simp only[List.mem_cons,List.not_mem_nil,or_false]at a;rcases a with rfl|rfl|rfl|rfl|rfl<;>exact#[by decide,by decide]
 match k,this with
 |0,_=>exact#[rfl,g _ (by simp[wH])]
 |1,_=>exact#[rfl,g _ (by simp[wH])]
 |2,_=>exact#[rfl,g _ (by simp[wH])]
 |3,_=>exact#[rfl,g _ (by simp[wH])]
 |4,_=>exact#[rfl,g _ (by simp[wH])]
noncomputable def AO(i):=if i<8 then 97+i else 113+i
def BZ(C:Addr)(d:L Int)(h:10<=d.length):∃g:L Str,gq C [.lst (d.map .int)]=S (.lst (g.map .str))/\g.length=11/\∀t∈g,Gu t:=by
 have m:∀k:Int,0<=k->k<10->atI (d.map D.int) k=S (.int (d.getD k.toNat 0)):=λk h0 y=>Zk h0 (by lia);have z20:(20:Nat)<=sizeLine:=by decide
 have W:=Jn (g:=gN 0) (dc:=jN) (de:=j8 (JD C) [(G,(d2 j3 (dV 1) (dV 0)))]) (k:=[.un,.bo (.lst (d.map D.int))]) (λi:Nat=>D.int (0+(i:Int))) (λi:Nat=>D.str (nm C (d.getD i 0))) (xs:=List.range 8) λi o=>by
  have o:=List.mem_range.mp o;have e:=m (0+(i:Int)) (by lia) (by lia);rw[show(0+(i:Int)).toNat=i by lia]at e;refine#[_,rfl,rfl,?_];have A:=(K7 C (d.getD i 0)).1;simp only[Int.zero_add]at e;simp[e]at A⊢;exact A
 generalize P:(List.range 8).map (λi:Nat=>nm C (d.getD i 0))++[nm C (d.getD 0 0+11),nm C (d.getD 1 0+13)]=v;have len1:v.length=10:=by rw[<-P];rfl
 have T:∀t∈v,Gt t:=by
  intro t n;rw[<-P]at n;rcases uWa n with z|z
  ·obtain⟨i,_,rfl⟩:=uVa z;exact(K7 C _).2
  ·simp only[List.mem_cons,List.not_mem_nil,or_false]at z;rcases z with rfl|rfl<;>exact(K7 C _).2
 have W2:JA (gN 0) jN (j8 (JD C) [(G,(d2 j3 (dV 1) (dV 0)))]) (Jv 0 8) [.un,.bo (.lst (d.map D.int))]=S ((List.range 8).map λi:Nat=>D.str (nm C (d.getD i 0))):=W;have S1:jg 1 (dL (yx JN (dL (yc 1 [0] (YZ (dN 8)) (gN 0) jN (j8 (JD C) [(G,(d2 j3 (dV 1) (dV 0)))]))) (dL (ju [(B,(j8 (JD C) [(G,(d2 jG (d2 j3 (dV 0) (dN 0)) (dN 11)))])),(B,(j8 (JD C) [(G,(d2 jG (d2 j3 (dV 0) (dN 1)) (dN 13)))]))])))) [.bo (.lst (d.map D.int)),.un]=S (.nx [.bo (.lst (d.map D.int)),.cl (.lst (v.map .str))]):=by
  have a0:=m 0 (by decide) (by decide);have X:=m 1 (by decide) (by decide);have s8:JI 8=B:=by decide
  have c8:(8:Nat)<=sizeLine:=by decide
  have w:(10:Nat)<=sizeLine:=by decide
  have r8:(Jv 0 8).length=8:=rfl;rw[<-P];have n0:=(K7 C (d.getD 0 0+11)).1;have n1:=(K7 C (d.getD 1 0+13)).1;simp only[Int.toNat_zero,Int.toNat_one]at a0 X;simp[s8,W2,r8,c8,w,a0,X]at n0 n1⊢;simp[n0,n1,Function.comp_def];rw[if_pos w];rfl
 have s:∀f:L Str,f.length=10->(∀t∈f,Gu t)->∃g:L Str,(yK (yx JN (dL (yx JN (dL (Jz (dV 1) (λ_=>S J) (λr=>((dN 8) r).bind yi))) (dL (ju [(B,(d2 j3 (dL (ju [(B,(dK (.str ""))),(B,(dK (.str "abcdefghi"))),(B,(dK (.str "Ab"))),(B,(dK (.str "a b"))),(B,(dK (.str "a1")))])) (d2 jt (d2 j3 (dV 0) (dN 8)) (dN 5))))])))) (dL (Jz (dV 1) (λr=>((dN 8) r).bind yi) (λ_=>S J))))) [.bo (.lst (d.map D.int)),.cl (.lst (f.map .str))]=S (.rf (.lst (g.map .str)))/\g.length=11/\∀t∈g,Gu t:=by
  intro f l Q;have H:=m 8 (by decide) (by decide);obtain⟨o1,o2⟩:=Im (jX (a:=d.getD 8 0) (b:=5) (by decide));have c1:jP (f.map D.str) J (S 8)=(f.take 8).map D.str:=by rw[Jw,show(8:Int)=((8:Nat):Int) by rfl,qX]
  have c2:jP (f.map D.str) (S 8) J=(f.drop 8).map D.str:=by rw[Jw,show(8:Int)=((8:Nat):Int) by rfl,k_]
  refine#[f.take 8++[wH (d.getD 8 0%5)]++f.drop 8,?_,by simp[l],λt n=>?_]
  ·have z1:(9:Nat)<=sizeLine:=by decide
   have R:(11:Nat)<=sizeLine:=by decide
   rw[show(8:Int).toNat=8 by rfl]at H;have l9:min 8 f.length+1<=sizeLine:=by rw[l];exact z1
   have M:min 8 f.length+1+(f.length-8)<=sizeLine:=by rw[l];exact R
   simp only[List.getD_eq_getElem?_getD]at H o1;simp[H,o1,c1,c2,l,-List.map_take,-List.map_drop]at l9 M⊢;rw[if_pos z1];simp;rw[if_pos (by rw[l];exact R)];simp
  ·rcases uWa n with z|z
   ·rcases uWa z with z|z
    ·exact Q t (List.mem_of_mem_take z)
    ·rw[List.mem_singleton.mp z];exact o2.u
   ·exact Q t (List.mem_of_mem_drop z)
 have x:=m 9 (by decide) (by decide);rw[show(9:Int).toNat=9 by rfl]at x;simp only[List.getD_eq_getElem?_getD]at x;by_cases UQ:d[9]?.getD 0%3=1
 ·obtain⟨j,u,rfl⟩:∃j u,v=j::u:=by
   cases v with
   |nil=>cases len1
   |cons a b=>exact#[a,b,rfl]
  have p:=T j wNa;have Z:=Jn (g:=gN 0) (dc:=jN) (de:=d2 jG (Gg (d2 j3 (dV 1) (dN 0)) (λ_=>S J) (λr=>((dN 7) r).bind yi)) (d2 Zh (dK (.str "abcdefghyz")) (dV 0))) (k:=[.un,.cl (.lst ((j::u).map D.str))]) (λi:Nat=>D.int (0+(i:Int))) (λi:Nat=>D.str (Txt.slice j J (S 7)++#[#v[AO i]])) (xs:=List.range 10) λi o=>by
   have o:=List.mem_range.mp o;have e:=BX i o;have A:=Il (Qa p J (S 7)) (c:=AO i);have e3:XA (.str j) J (S 7)=S (.str (Txt.slice j J (S 7))):=by show(if j.length<=sizeLine then _ else _)=_;rw[if_pos p.u.z]
   have e4:atI ((j::u).map D.str) 0=S (.str j):=ut (vEa 0) rfl;refine#[_,rfl,rfl,?_];simp only[d2,dV,Gg,dK,dN,List.map_cons]at e4⊢;simp[e4,e3,-fZ];rw[Int.zero_add]at e;rw[show(if i<8 then 97+i else 113+i)=AO i from rfl]at e;rw[e];exact A
  obtain⟨f,W4,q1,q2⟩:∃f:L Str,JA (gN 0) jN (d2 jG (Gg (d2 j3 (dV 1) (dN 0)) (λ_=>S J) (λr=>((dN 7) r).bind yi)) (d2 Zh (dK (.str "abcdefghyz")) (dV 0))) (Jv 0 10) [.un,.cl (.lst ((j::u).map D.str))]=S (f.map D.str)/\f.length=10/\∀t∈f,Gu t:=by
   refine#[(List.range 10).map λi:Nat=>Txt.slice j J (S 7)++#[#v[AO i]],?_,by rw[vYa,List.length_range],λt n=>?_]
   ·rw[List.map_map];exact Z
   ·obtain⟨i,o,rfl⟩:=uVa n;have:=List.mem_range.mp o;refine Ik (Qa p _ _) ?_;unfold AO;split<;>lia
  clear Z;obtain⟨g,e,y,N⟩:=s f q1 q2;clear s;refine#[g,?_,y,N];have F:JI 10=B:=by decide
  have I:(10:Nat)<=sizeLine:=by decide
  have O:(Jv 0 10).length=10:=rfl;generalize(j::u).map D.str=l0 at *;have c:JU C [.bo (.lst (d.map D.int)),.un]=S (.rf (.lst (g.map .str))):=by
   unfold JU;rw[sq S1 (r:=S (.rf (.lst (g.map .str))))];refine sq (a:=[.bo (.lst (d.map D.int)),.cl (.lst (f.map .str))]) (Jm (by simp[x,UQ]) ?_) e;simp only[jg,dL,yc,YZ,dN,dK,uP]at W4⊢;have W5:=W4;simp only[yi,Option.bind_some]at W5;simp[F,W5,O,I]
  show(JU C [.bo (.lst (d.map D.int)),.un]).bind _=_;rw[c];rfl
 ·obtain⟨g,e,y,N⟩:=s v len1 λt n=>(T t n).u;refine#[g,?_,y,N];have c:JU C [.bo (.lst (d.map D.int)),.un]=S (.rf (.lst (g.map .str))):=by
   unfold JU;rw[sq S1 (r:=S (.rf (.lst (g.map .str))))];exact sq (jF (by simp[x,UQ]) rfl) e
  show(JU C [.bo (.lst (d.map D.int)),.un]).bind _=_;rw[c];rfl
noncomputable def wI(c):=decide (97<=c)&&decide (c<=122)
noncomputable def UF(t:Str):=decide (1<=t.length)&&decide (t.length<=8)&&t.cps.toList.all wI
def Io:(List.range 128).map (λc=>KC (.str #[#v[c]]) (.str "abcdefghijklmnopqrstuvwxyz"))=(List.range 128).map λc=>S (.bl (wI c)):=by kernel_rfl
def LI:(List.range 128).map (λc=>(V5 (.str "a") (.str #[#v[c]]),V5 (.str #[#v[c]]) (.str "z")))=(List.range 128).map λc=>(S (.bl (decide (97<=c))),S (.bl (decide (c<=122)))):=by kernel_rfl
noncomputable def LJ(h:c<128):=K6 Io (List.mem_range.mpr h)
def LK(h:c<128):V5 (.str "a") (.str #[#v[c]])=S (.bl (decide (97<=c)))/\V5 (.str #[#v[c]]) (.str "z")=S (.bl (decide (c<=122))):=by
 have:=K6 LI (List.mem_range.mpr h);exact#[congrArg Prod.fst this,congrArg Prod.snd this]
def AQ(t)(h:Gu t)(b)(d:∀(c) (a:jr),c<128->b (.cl (.str #[#v[c]])::a)=S (.bl (wI c)))(a:jr):JA (gN 0) jN b (v4 t) (.un::a)=S (t.cps.toList.map λc=>D.bl (wI c)):=Jn (λc=>D.str _) _ λc e=>#[_,rfl,rfl,d c a (h.2 c e)]
def AR(C t)(h:Gu t):vA C [.str t]=S (.bl (!UF t)):=by
 have g:=AQ t h (d2 KC (dV 0) (dK _)) (λc k i=>by simpa using LJ i);have z:t.cps.size<=sizeLine:=h.z;have d:=h.z;have a:=Y9 wI t.cps.toList;unfold UF;simp only[vA,U5];unfold v4 at g;by_cases j:1<=t.length
 ·have e:(1:Int)<=t.length:=by lia
  by_cases f:t.length<=8
  ·have b:(t.length:Int)<=8:=by lia
   simp[d,j,f,e,b,g,z,a,v4]
  ·have b:¬(t.length:Int)<=8:=by lia
   simp[d,f,e,b,v4]
 ·simp_all
noncomputable def xn(t:Str):Rx:=if UF t=B then .ok .non else .xc ("BadName",[])
def wJ(C t)(h:Gu t):Z3 C [.str t]=S (xn t):=by
 have f:=AQ t h (Jd V5 V5 (dK (.str "a")) (dV 0) (dK (.str "z"))) (λc p n=>by
  obtain⟨i,k⟩:=LK n;unfold wI;by_cases l:97<=c<;>simp[i,k,l])
 have z:t.cps.size<=sizeLine:=h.z;have e:=h.z;have a:=Y9 wI t.cps.toList;unfold xn UF;simp only[Z3,Vh];unfold v4 at f;by_cases o:1<=t.length
 ·have d:(1:Int)<=t.length:=by lia
  by_cases g:t.length<=8
  ·have b:(t.length:Int)<=8:=by lia
   cases m:t.cps.toList.all wI<;>(have j:=m;simp[e,o,g,d,b,f,z,a,v4,j])
  ·have b:¬(t.length:Int)<=8:=by lia
   simp[e,g,d,b,v4]
 ·simp_all
def mX{b a r}(h:j0 c g b=S (.nx a))(k:f a=r):j0 c (j0 g f) b=r:=by
 rw[j0]at h⊢;cases e:c b with
 |none=>rw[e]at h;exact Zn h
 |some x=>
  rw[e]at h;cases x with
  |nx d=>exact sq h k
  |_=>cases h
def B_(C:Addr)(f:L Int)(i:Int)(h:131<=f.length)(H:1<=i)(y:i<=9):∃b u o:Bk,gk C [.lst (f.map .int),.int i]=S (.lst [jh b,jh u,jh o])/\OkB b/\OkB u/\OkB o/\b.size<=i:=by
 obtain⟨b,e0,c,s0,UQ,r0,d0⟩:=xh C f i (by lia) H y;obtain⟨u,e1,Q,s1,h1,r1,d1⟩:=xh C (f.drop 60) i (by rw[uNa];lia) H y;have T:jP (f.map D.int) (S 60) J=(f.drop 60).map D.int:=by rw[Jw,show(60:Int)=((60:Nat):Int) by rfl,k_]
 have j:∀k:Int,0<=k->k<131->∃v:Int,atI (f.map D.int) k=S (.int v):=λk UQ h1=>Vu UQ (by lia);obtain⟨m,d⟩:=j 120 (by decide) (by decide);obtain⟨p,I⟩:=j 121 (by decide) (by decide);obtain⟨r,x⟩:=j 122 (by decide) (by decide);obtain⟨A,l⟩:=j 130 (by decide) (by decide);have k1:=c.k1;have k4:=c.k2;have R:∀n,n<=200->n<=sizeLine:=λn hn=>Ym (wSa hn (by decide));have X:(0:Int)<b.kinds.length:=by lia
 have kn:0<b.kinds.length:=by lia
 have N:=jX (a:=p) X;have Z:=jX (a:=r) (b:=2) (by decide);obtain⟨g,M,S1⟩:∃g:Bk,OkB g/\∀F:Sl,(j0 (jc (je (d2 jD (d2 jt (d2 j3 (dV 0) (dN 120)) (dN 3)) (dN 1))) (jg 8 (jw [(tC 2),(tC 3),(B,(dL (yx JN (dV 4) (dL (ju [(B,(jw [(B,(dN 0)),(B,(d2 jt (d2 j3 (dV 0) (dN 121)) (j8 J9 [(fV 3)]))),(B,(d2 jG (dN 1) (d2 jt (d2 j3 (dV 0) (dN 122)) (dN 2))))]))]))))),(tC 5),(tC 6)])) ji)
 ((jc (je (d2 jD (d2 jt (d2 j3 (dV 0) (dN 120)) (dN 3)) (dN 2))) (jg 8 (jw [(tC 2),(tC 3),(B,(dL (Jz (dV 4) (λs=>((dN 1) s).bind yi) (λ_=>S J)))),(B,(dL (Jz (dV 5) (λs=>((dN 1) s).bind yi) (λ_=>S J)))),(B,(dL (yx JN (dL (Jz (dV 6) (λ_=>S J) (λs=>((dN 2) s).bind yi))) (dL (ju [(B,(jw [(B,(dN 0)),(B,(dN 1)),(tC 2)]))])))))])) ji))) [.bo (.lst (f.map D.int)),.bo (.int i),.cl (.int b.size),.cl (.lst (b.kinds.map t3)),.cl (.lst (b.shuns.map t3)),.cl (.lst (b.bars.map t3)),.cl (.lst (b.dues.map t3)),.cl (jh b),.cl (jh u),F]=S (.nx [.bo (.lst (f.map D.int)),.bo (.int i),.cl (.int b.size),.cl (.lst (b.kinds.map t3)),.cl (.lst (b.shuns.map t3)),.cl (.lst (b.bars.map t3)),.cl (.lst (b.dues.map t3)),.cl (jh b),.cl (jh g),F]):=by
  by_cases w:m%3=1
  ·refine#[#[b.size,b.kinds,b.shuns++[(0,p%b.kinds.length,1+r%2)],b.bars,b.dues],#[c.s1,c.s2,c.k1,c.k2,by simp;lia,c.b2,c.d2,c.ks,Yb c.hs (XW (by lia) N (by lia)),c.bs,c.ds],λF=>?_];have z:=R (b.shuns.length+1) (by lia);refine sq (Jm (by simp[d,w]) (by simp[I,x,X,kn]<;>rw[if_pos z]<;>rfl)) (jF (by simp[d,w]) ?_);simp[jh,t3]
  ·by_cases O:m%3=2
   ·have q1:jP (b.shuns.map t3) (S 1) J=(jP b.shuns (S 1) J).map t3:=Jw _ _ _ _;have q2:jP (b.bars.map t3) (S 1) J=(jP b.bars (S 1) J).map t3:=Jw _ _ _ _;have q3:jP (b.dues.map t3) J (S 2)=(jP b.dues J (S 2)).map t3:=Jw _ _ _ _;have l1:=YQ b.shuns (S 1) J;have l2:=YQ b.bars (S 1) J;have l3:=YQ b.dues J (S 2);have s01:=c.s1;refine#[#[b.size,b.kinds,jP b.shuns (S 1) J,jP b.bars (S 1) J,jP b.dues J (S 2)++[(0,1,b.size)]],#[c.s1,c.s2,c.k1,c.k2,by show(jP b.shuns (S 1) J).length<=20;lia,by show(jP b.bars (S 1) J).length<=12;lia,by simp;lia,c.ks,λt e=>c.hs t (uI e),λt e=>c.bs t (uI e),Yb (λt e=>c.ds t (uI e)) (XX (by lia) (by lia) (by lia) (by lia))],λF=>?_];have z:=R ((jP b.dues J (S 2)).length+1) (by lia);refine sq (jF (by simp[d,O]) rfl) (Jm (by simp[d,O]) (by simp[q1,q2,q3,z,jh,t3]<;>rfl))
   ·exact#[u,Q,λF=>sq (jF (by simp[d,w]) rfl) (jF (by simp[d,O]) rfl)]
 obtain⟨o,P,S2⟩:∃o:Bk,OkB o/\((j0 (jg 9 (jw [(B,(d2 jG (dV 2) (dN 1))),(tC 3),(tC 4),(tC 5),(tC 6)]))
 ((jc (je (d2 jD (d2 jt (d2 j3 (dV 0) (dN 130)) (dN 4)) (dN 3))) (jg 9 (jw [(tC 2),(B,(dL (yx JN (dV 3) (dL (Jz (dL (ju [(B,(jw [(B,(dN 1)),(B,(dN 4)),(B,(dN 0))]))])) (λ_=>S J) (λs=>((d2 zg (dN 4) (j8 J9 [(fV 3)])) s).bind yi)))))),(B,(dL (ju []))),(B,(dL (ju []))),(tC 6)])) ji)))) [.bo (.lst (f.map D.int)),.bo (.int i),.cl (.int b.size),.cl (.lst (b.kinds.map t3)),.cl (.lst (b.shuns.map t3)),.cl (.lst (b.bars.map t3)),.cl (.lst (b.dues.map t3)),.cl (jh b),.cl (jh g),.un]=S (.nx [.bo (.lst (f.map D.int)),.bo (.int i),.cl (.int b.size),.cl (.lst (b.kinds.map t3)),.cl (.lst (b.shuns.map t3)),.cl (.lst (b.bars.map t3)),.cl (.lst (b.dues.map t3)),.cl (jh b),.cl (jh g),.cl (jh o)]):=by
  by_cases w:A%4=3
  ·have e4:(4:Int)-b.kinds.length=((4-b.kinds.length:Nat):Int):=by lia
   have q:jP [D.tup [.int 1,.int 4,.int 0]] J (S (4-(b.kinds.length:Int)))=(List.take (4-b.kinds.length) [((1,4,0):T3)]).map t3:=by
    rw[e4,qX,List.map_take];rfl
   have ql:(List.take (4-b.kinds.length) [((1,4,0):T3)]).length<=4-b.kinds.length:=by rw[uOa];lia
   have z:=R (b.kinds.length+(List.take (4-b.kinds.length) [((1,4,0):T3)]).length) (by lia);have qx:∀t∈List.take (4-b.kinds.length) [((1,4,0):T3)],fK t=B:=λt e=>by
    have:=List.mem_of_mem_take e;rw[List.mem_singleton.mp this];rfl
   generalize List.take (4-b.kinds.length) [((1,4,0):T3)]=W at *;have le:(b.kinds.length:Int)<=((b.kinds++W).length:Int):=by rw[vZa];lia
   refine#[#[b.size,b.kinds++W,[],[],b.dues],#[c.s1,c.s2,by simp;lia,by simp;lia,by simp,by simp,c.d2,λt e=>?_,λt e=>(by cases e),λt e=>(by cases e),λt e=>XY (c.ds t e) le (vEa _)],?_]
   ·rcases uWa e with z|z
    ·exact c.ks t z
    ·exact qx t z
   ·refine sq (by simp<;>rfl) (Jm (by simp[l,w]) ?_);simp[q,jh];rw[if_pos z];rfl
  ·refine#[#[b.size+1,b.kinds,b.shuns,b.bars,b.dues],#[by show 1<=b.size+1;have:=c.s1;lia,by show b.size+1<=30;lia,c.k1,c.k2,c.h2,c.b2,c.d2,c.ks,c.hs,λt e=>XY (c.bs t e) (vEa _) (by show b.size<=b.size+1;lia),λt e=>XY (c.ds t e) (vEa _) (by show b.size<=b.size+1;lia)],?_];exact sq (by simp<;>rfl) (jF (by simp[l,w]) rfl)
 refine#[b,g,o,?_,c,M,P,s0];have a:YH C [.bo (.lst (f.map D.int)),.bo (.int i),.un,.un,.un,.un,.un,.un,.un,.un]=S (.rf (.lst [jh b,jh g,jh o])):=by
  unfold YH;refine sq (a:=[.bo (.lst (f.map D.int)),.bo (.int i),.cl (.int b.size),.cl (.lst (b.kinds.map t3)),.cl (.lst (b.shuns.map t3)),.cl (.lst (b.bars.map t3)),.cl (.lst (b.dues.map t3)),.un,.un,.un]) (Bn e0 rfl) ?_;refine sq (a:=[.bo (.lst (f.map D.int)),.bo (.int i),.cl (.int b.size),.cl (.lst (b.kinds.map t3)),.cl (.lst (b.shuns.map t3)),.cl (.lst (b.bars.map t3)),.cl (.lst (b.dues.map t3)),.cl (jh b),.un,.un]) (by simp[jh]<;>rfl) ?_;refine sq (a:=[.bo (.lst (f.map D.int)),.bo (.int i),.cl (.int b.size),.cl (.lst (b.kinds.map t3)),.cl (.lst (b.shuns.map t3)),.cl (.lst (b.bars.map t3)),.cl (.lst (b.dues.map t3)),.cl (jh b),.cl (jh u),.un]) (by simp[T,e1,-List.map_drop]<;>rfl) ?_;exact mX (S1 .un) (mX S2 (by simp))
 show(YH C [.bo (.lst (f.map D.int)),.bo (.int i),.un,.un,.un,.un,.un,.un,.un,.un]).bind _=_;rw[a];rfl
theorem Qc:∀l:L Int,ZF (l.map D.int)=S (l.map KD.i)
 |[]=>by rfl
 |x::l=>by rw[vWa,ZF,Jc,Qc l];rfl
theorem xo:∀l:L Bool,ZF (l.map D.bl)=S (l.map (λx=>KD.i (bi x)))
 |[]=>by rfl
 |x::l=>by rw[vWa,ZF,Jc,xo l];rfl
theorem xr:∀l:L Int,Yr (l.map KD.i)=0
 |[]=>rfl
 |x::l=>by rw[vWa,Yr,xr l];rfl
theorem xu:∀l:L Bool,Yr (l.map (λx=>KD.i (bi x)))=0
 |[]=>rfl
 |x::l=>by rw[vWa,Yr,xu l];rfl
def Ip(s):zQ (J3 s)=S (VJ s):=by
 have e:Jc (J3 s)=S (VJ s):=by
  unfold J3 VJ;simp[Jc,ZF,Qc,xo]
 have d:(VJ s).dep<=8:=by
  unfold VJ;simp[KD.dep,Yr,xr,xu]
 show(Jc (J3 s)).bind _=_;rw[e];simp[d]
theorem kl{c i:Type}{f:c->i}(h:∀a b,f a=f b->a=b):∀{l m:L c},l.map f=m.map f->l=m
 |[],[],_=>rfl
 |[],_::_,e=>by cases e
 |_::_,[],e=>by cases e
 |a::l,b::m,e=>by
  injection e with g d;rw[h _ _ g,kl h d]
def E1(h:VJ s=VJ t):s=t:=by
 unfold VJ at h;simp only[KD.t.injEq,List.cons.injEq,KD.i.injEq]at h;obtain⟨d,j,f,g,l,k,_⟩:=h;have i:=kl (λa b e=>by injection e) l;have c:=kl (λa b e=>by cases a<;>cases b<;>first|rfl|(simp[bi]at e)) k;obtain⟨x,u,y,m,w,n⟩:=s;obtain⟨r,o,p,v,A,z⟩:=t;simp only at d j f g i c;subst d j f g i c;rfl
noncomputable def gQ(b s n):=(List.range n).filterMap λ(c:Nat)=>(za b s c).map λt=>((c:Int),t)
noncomputable def ZV(b s):=gQ b s b.kinds.length
noncomputable def pD(p:Int×Sd):D:=.tup [.int p.1,J3 p.2]
def Qd(b s n):gQ b s (n+1)=gQ b s n++(match za b s n with|S t=>[(n,t)]|none=>[]):=by
 unfold gQ;rw[List.range_succ,List.filterMap_append];cases e:za b s n<;>simp[e]
def xw(b s n):(gQ b s n).length<=n:=by
 exact wSa (List.length_filterMap_le _ _) (by simp)
def E3{n p}(h:p∈gQ b s n):∃c ,c<n/\p.1=c/\za b s c=S p.2:=by
 obtain⟨c,a,e⟩:=List.mem_filterMap.mp h;obtain⟨t,d,rfl⟩:=Option.map_eq_some_iff.mp e;exact#[c,List.mem_range.mp a,rfl,d]
def c6(C b s)(j:OkB b)(X:Fit b s):Vo C [jm C b,J3 s]=S (.lst ((ZV b s).map pD)):=by
 have p:=j.k2;have l:JI b.kinds.length=B:=YY (by lia) (by lia);obtain⟨k,e,g,f,rfl⟩:=YE (g:=uE) (s:=zb C) (items:=Jv 0 b.kinds.length) (λi h=>∃g f ,h=[.bo (jm C b),.bo (J3 s),.ow J (.lst ((gQ b s i).map pD)),g,f]) (by
  rintro i d h o ⟨g,f,rfl⟩;obtain⟨u,rfl⟩:=Uk o;have a:=X_ C b s i j X #[by lia,by lia];have v:=xw b s i;have n:(gQ b s i).length<sizeLine:=JK (by lia);cases c:za b s _ with
  |none=>
   rw[c]at a;refine#[_,_,rfl,?_,.cl (.int i),.cl .non,rfl];rw[Qd,c,uFa];simp only[zb];simp[a,xi]
  |some t=>
   rw[c]at a;refine#[_,_,rfl,?_,.cl (.int i),.cl (J3 t),rfl];rw[Qd,c,uDa];have r:Vz (J3 t)=G:=rfl;simp only[zb];simp[a,xi,n,pD]) #[.un,.un,rfl]
 rw[show(Jv 0 _).length=b.kinds.length by simp[Jv]]at e;simp only[Vo,Vn];have m:(gQ b s 0).map pD=[]:=rfl;rw[m]at e;simp[l,e];rfl
theorem Qe{m:Nat}:∀{n r},r.length<=n->(∀k∈r,0<=k/\k<(m:Int))->r∈ZI m n
 |0,[],_,_=>by simp[ZI]
 |0,_::_,h,_=>by simp at h
 |n+1,[],_,_=>by simp[ZI]
 |n+1,k::r,h,a=>by
  have c:=Qe (by simpa using h) λx b=>a x (wMa _ b);have d:=a k wNa;refine wMa _ (List.mem_flatMap.mpr #[r,c,List.mem_map.mpr #[k.toNat,List.mem_range.mpr (by lia),?_]]);rw[show(k.toNat:Int)=k by lia]
noncomputable def tN:Nat->Nat
 |0=>1
 |n+1=>1+4*tN n
theorem Qf(h:m<=4):∀n ,(ZI m n).length<=tN n
 |0=>by simp[ZI,tN]
 |n+1=>by
  have a:=Qf h n;rw[ZI,tN,vXa,List.length_flatMap];have e:((ZI m n).map λr=>((List.range m).map λ(k:Nat)=>(k:Int)::r).length)=(ZI m n).map λ_=>m:=by simp_all
  rw[e,List.map_const',List.sum_replicate_nat];have:=Nat.mul_le_mul a h
  lia
noncomputable def wK(b s):=∃a ,(∀n∈a,Yv b n)/\a.length<=b.size/\jK b (Jg b) a=(s,J)
def wK.of{s}(R:wK b s):Fit b s/\0<=s.place/\s.place<=b.size:=by
 obtain⟨c,f,e,d⟩:=R;have a:=StOf.all f d;exact#[a.fo.toFit,by rw[a.pl];lia,by rw[a.pl];exact e]
def wK.next{s t}(R:wK b s){k}(j:Yv b k)(h:za b s k=S t):wK b t/\t.place=s.place+1:=by
 obtain⟨f,e,l,d⟩:=R;obtain⟨g,c,i⟩:=K3 h;have a:=StOf.all e d;refine#[#[_,Yb e j,?_,?_],by rw[c];rfl]
 ·rw[a.pl]at i;rw[vZa,uIa];lia
 ·rw[vI d g,c]
def Iq(R:wK b s):KB (YG b) (VJ s) (yu b s)=B:=by
 obtain⟨a,h,j,g⟩:=R;unfold KB;rw[Bool.and_eq_true,List.any_eq_true,List.all_eq_true];refine#[#[(VJ s,yu b s),?_,?_],?_]
 ·refine List.mem_map.mpr #[a,Qe (by lia) h,?_];rw[g]
 ·rw[Bool.and_eq_true];exact#[u9.mpr rfl,by simp]
 ·rintro⟨k,v⟩ i;obtain⟨r,_,e⟩:=uVa i;obtain⟨c,d⟩:=Prod.mk.inj e;by_cases f:k=VJ s
  ·rw[f]at c;have:=E1 c;rw[this]at d;simp[d]
  ·have:w8 k (VJ s)=G:=by
    cases q:w8 k (VJ s)
    ·rfl
    ·exact vDa (u9.mp q) f
   simp[this]
def wL{s}(h:s.place≠b.size)(d:s.place<=b.size):yu b s=(ZV b s).any λp=>yu b p.2:=by
 have e:(b.size-s.place).toNat=(b.size-(s.place+1)).toNat+1:=by lia
 unfold yu ZV gQ;rw[e,XN,if_neg h,List.any_filterMap];congr 1;funext k;cases a:za b s _ with
 |none=>rfl
 |some t=>
  obtain⟨_,c,_⟩:=K3 a;rw[show(b.size-(s.place+1)).toNat=(b.size-t.place).toNat by rw[c];rfl];rfl
def c7(C b F)(l:L Sd)(i:∀t∈l,F [jm C b,J3 t,.mem (YG b)]=S (.bl (yu b t))):J1 [G,G,B] 1 (JV F) [jm C b,.lst (l.map J3),.mem (YG b)]=S (.bl (l.any λt=>yu b t)):=by
 have f:∀(a:L Sd) (x),(∀t∈a,F [jm C b,J3 t,.mem (YG b)]=S (.bl (yu b t)))->(j0 (λj=>Jq (gN 3) (Wh F) (a.map J3) j) (jd (dK (.bl G)))) [.bo (jm C b),.bo (.lst (l.map J3)),.cl (.mem (YG b)),x]=S (.rt (.bl (a.any λt=>yu b t))):=by
  intro a;induction a with
  |nil=>intro x _;simp[Jq]
  |cons t a d=>
   intro x h;have e:=h t wNa;have d:=d (.cl (J3 t)) λu g=>h u (wMa _ g);cases c:yu b t with
   |true=>simp[Jq,Wh,e,c]
   |false=>
    rw[c]at e;rw[List.any_cons,c,Bool.false_or,<-d];simp[Jq,Wh,e]
 have:=f l .un i;refine fE ?_;rw[<-this];rfl
theorem xy(C b)(f:OkB b):∀(m s),wK b s->(b.size-s.place).toNat<m->G1 C m [jm C b,J3 s,.mem (YG b)]=S (.bl (yu b s))
 |0,s,_,h=>by lia
 |m+1,s,R,h=>by
  obtain⟨X,w,k⟩:=R.of;rw[G1];by_cases a:s.place=b.size
  ·have e:yu b s=B:=by
    unfold yu;rw[a,Int.sub_self];show decide _=B;simp[a]
   rw[e];refine fE (J_ (Jm ?_ rfl));simp[a]
  ·have j:=c6 C b s f X;have g:=Ip s;have l:=Iq R;have A:=c7 C b _ ((ZV b s).map (·.2)) λt o=>by
    obtain⟨p,d,rfl⟩:=uVa o;obtain⟨c,y,_,r⟩:=E3 d;have u:Yv b c:=#[by lia,by lia]
    obtain⟨R2,v⟩:=R.next u r;exact xy C b f m _ R2 (by lia)
   rw[List.any_map,show((λt=>yu b t)∘λx:Int×Sd=>x.2)=λp=>yu b p.2 from rfl,<-wL a k]at A;have i:JA (gT 2 (gC (gN 0) (gC (gN 1) gZ))) jN (dC 1) ((ZV b s).map pD) [.un,.un]=S _:=Jn pD _ λp _=>#[_,rfl,rfl,rfl]
   have z:=xw b s b.kinds.length;have H:=f.k2;have n:(ZV b s).length<=sizeLine:=wQa (JK (by unfold ZV;lia));rw[List.map_map,show(J3∘λx:Int×Sd=>x.2)=λp=>J3 p.2 from rfl]at A;generalize J1 _ 1 _=F at A⊢;refine fE (sq (jF (by simp[a]) rfl) ?_);simp[j,g,i,n,A,l]
theorem AS{s d V}(I:jr->Prop)(m:jr->Nat)(h:∀a,I a->(dt a=S G/\¬V)\/(dt a=S B/\s a=S (.rt d)/\V)\/(dt a=S B/\∃b,s a=S (.nx b)/\I b/\m b<m a)):∀{n a},I a->m a<n->(V/\zT dt s n a=S (.rt d))\/(¬V/\∃c,zT dt s n a=S (.nx c))
 |0,a,_,g=>vDa g (Nat.not_lt_zero _)
 |n+1,a,i,g=>by
  rcases h a i with⟨e,v⟩|⟨e,f,v⟩|⟨e,b,f,j,k⟩
  ·exact .inr #[v,a,by simp[zT,e]]
  ·exact .inl #[v,by simp[zT,e,f]]
  ·rcases AS I m h (n:=n) j (by lia)with⟨v,z⟩|⟨v,c,z⟩
   ·exact .inl #[v,by simp[zT,e,f,z]]
   ·exact .inr #[v,c,by simp[zT,e,f,z]]
structure RowG (b) (r:L _) where
 ks:∀n∈r,Yv b n
 ln:r.length<=b.size
 st:∃s,jK b (Jg b) r=(s,J)
def RowG.zr{r}(c:RowG b r)(w:OkB b):r.length+1<=sizeLine:=Ym (by have:=c.ln;have:=w.s2;lia)
noncomputable def vn(b:Bk)(r:L _):=(jK b (Jg b) r).1
def RowG.eq{r}(a:RowG b r):jK b (Jg b) r=(vn b r,J):=by
 obtain⟨s,h⟩:=a.st;unfold vn;rw[h]
def RowG.rch{r}(a:RowG b r):wK b (vn b r):=#[r,a.ks,a.ln,a.eq]
noncomputable def RowG.pl{r}(a:RowG b r):=(StOf.all a.ks a.eq).pl
noncomputable def eR(b)(r:L _):=yu b (vn b r)
noncomputable def uK(b y i):=(List.range i).filterMap λc=>if ur b y c=B then S (y++[(c:Int)])else J
def c9(b y i):uK b y (i+1)=uK b y i++(if ur b y i=B then[y++[(i:Int)]]else[]):=by
 unfold uK;rw[List.range_succ,List.filterMap_append];by_cases e:ur b y i=B<;>simp[e]
def xz(b y i):(uK b y i).length<=i:=wSa (List.length_filterMap_le _ _) (by simp)
def xA{y r i}(h:r∈uK b y i):∃c,c<i/\ur b y c=B/\r=y++[(c:Int)]:=by
 obtain⟨c,a,e⟩:=List.mem_filterMap.mp h;by_cases z:ur b y c=B
 ·rw[if_pos z]at e;obtain rfl:=Zj e;exact#[c,List.mem_range.mp a,z,rfl]
 ·simp_all
def uL{y c}:ur b y c=B↔J8 b (vn b y) c=J:=by
 unfold ur vn;simp
def RowG.next{y}(a:RowG b y)(h:y.length≠b.size){c}(e:c<b.kinds.length)(d:ur b y c=B):RowG b (y++[(c:Int)]):=by
 have:=a.ln;exact#[Yb a.ks #[by lia,by lia],by rw[vZa,uIa];lia,_,vI a.eq (uL.mp d)]
def E4{y}(a:RowG b y)(h:y.length≠b.size):eR b y=(uK b y b.kinds.length).any (eR b):=by
 have f:=a.ln;unfold eR;rw[wL (by rw[a.pl];exact h) (by rw[a.pl];exact f)];unfold ZV gQ uK;rw[List.any_filterMap,List.any_filterMap];congr 1;funext c;unfold za;rw[if_neg (by rw[a.pl];lia)];by_cases d:ur b y c=B
 ·have e:=uL.mp d;rw[if_pos d,e];have w:=vI a.eq e;simp[vn,w]
 ·rw[if_neg d];have:(J8 b (vn b y) c).isSome=B:=by
   cases q:J8 b _ _ with
   |none=>exact vDa (uL.mpr q) d
   |some x=>rfl
  rw[if_pos this];rfl
theorem Ir:∀n,1<=tN n
 |0=>wPa _
 |n+1=>by rw[tN];lia
noncomputable def vo(b:Bk)(xs:L (L Int)):=(xs.map λr=>tN (b.size.toNat-r.length)).sum
def K8(b xs a):vo b (xs++a)=vo b xs+vo b a:=by
 unfold vo;rw[uDa,List.sum_append_nat]
theorem Qg(b):∀xs ,xs.length<=vo b xs
 |[]=>Nat.zero_le _
 |x::xs=>by
  have a:=Qg b xs;have:=Ir (b.size.toNat-x.length);unfold vo at *;rw[vWa,List.sum_cons,vXa]
  lia
theorem d5{y:L Int}{n}(h:b.size.toNat-y.length=n+1):∀{xs},(∀r∈xs,r.length=y.length+1)->vo b xs=xs.length*tN n
 |[],_=>by simp[vo]
 |x::xs,a=>by
  have c:=d5 h λr d=>a r (wMa _ d);have e:=a x wNa;unfold vo at *;rw[vWa,List.sum_cons,c,vXa,e,show b.size.toNat-(y.length+1)=n by lia,Nat.add_mul]
  lia
theorem wM:∀a:L _,ya (a.map rD)<=2
 |[]=>by simp
 |x::a=>by
  have b:=wM a;have e:dep (rD x)<=2:=by unfold rD;rw[Zd,gP];decide
  rw[vWa,ya];omega
def E5(a:L _):Je (.lst (a.map rD)) (.lst [])=S (.bl (!a.isEmpty)):=by
 have e:dep (.lst (a.map rD))<=20:=by rw[Zd];have:=wM a;omega
 have b:Ze (D.lst (a.map rD)) (D.lst [])=B:=rfl;unfold Je v_;rw[if_pos b,if_pos #[b,e],YA];cases a<;>simp[YB]
def a7(C){b y}(d:OkB b)(a:RowG b y){c}(i:c<b.kinds.length):Z1 C [jh b,.lst ((y++[(c:Int)]).map .int),.int y.length]=S (oS (J8 b (vn b y) c)):=by
 have h:=d.s2;have g:=a.ln;have f:∀n∈y++[(c:Int)],Yv b n:=Yb a.ks #[by lia,by lia];have R:StOf b _ y.length _:=StOf.upto f (by simp) _ 0 _ rfl (Nat.zero_le _) (StOf.empty b _) (by rw[List.drop_zero,List.take_left' rfl];exact a.eq);have e:ra (y++[(c:Int)]) y.length=c:=by unfold ra;simp
 have:=Q7 C b _ _ _ d f (by simp) (by simp;lia) R;rw[e]at this;exact this
noncomputable def cH:D->Int
 |.int i=>i
 |_=>0
noncomputable def Uu:D->L Int
 |.lst l=>l.map cH
 |_=>[]
noncomputable def mR(b:Bk):jr->Nat
 |[_,_,_,.ow _ (.lst l),_]=>vo b (l.map Uu)
 |_=>0
def E6(a:L _):(a.map rD).map Uu=a:=by
 rw[List.map_map];have:∀r ,(Uu∘rD) r=r:=λr=>by
  show(r.map D.int).map cH=r;rw[List.map_map];exact List.map_id' r
 rw[List.map_congr_left λr _=>this r];exact List.map_id' a
def a8(b){q d e c a}(xs):mR b [d,e,c,.ow q (.lst (xs.map rD)),a]=vo b xs:=by
 show vo b _=_;rw[E6]
def Nw:∀n,n<7->tN n<=5461:=by decide
def AU(a:b.size<=6)(r):vo b [r]<=5461:=by
 exact Nw _ (by lia)
def Qb(C){c b d a q}(xs:L _):yW C [c,b,d,.ow q (.lst (xs.map rD)),a]=S (!xs.isEmpty):=by
 show(Je (.lst _) (.lst [])).bind VB=_;rw[E5];rfl
def AV(C:Addr)(b:Bk)(h:D)(F:OkB b)(Q:b.size<=6)(j m:Sl)(k:L Int)(G0:RowG b k):(j0 (zT (yW C) (yX C) 20000) (jd (dK (.bl G)))) [.bo (jh b),.bo h,j,.ow J (.lst [rD k]),m]=S (.rt (.bl (eR b k))):=by
 have k2:=F.k2;have s1:=F.s1;have n:∀(y:L Int) (g:L (L Int)) (j:Sl),RowG b y->(y.length:Int)≠b.size->g.length<=6000->∃o:Sl,Jq Zu (yV C) (Jv 0 b.kinds.length) [.bo (jh b),.bo h,j,.ow J (.lst (g.map rD)),.cl (rD y)]=S (.nx [.bo (jh b),.bo h,o,.ow J (.lst ((g++uK b y b.kinds.length).map rD)),.cl (rD y)]):=by
  intro y g j a l hi;have s2:=F.s2;have gl:=a.ln;obtain⟨Z,M,H,rfl⟩:=YE (g:=Zu) (s:=yV C) (items:=Jv 0 b.kinds.length) (λi t=>∃H:Sl,t=[.bo (jh b),.bo h,H,.ow J (.lst ((g++uK b y i).map rD)),.cl (rD y)]) (by
   rintro i d t X ⟨H,rfl⟩;obtain⟨N,rfl⟩:=Uk X;have f:=a7 C F a N;have hl:=xz b y i;have z:=JK (n:=(g++uK b y i).length) (by rw[vZa];lia);have P:=a.zr F;have u:=Nat.le_of_succ_le P;rw[uDa]at f;refine#[_,_,rfl,?_,.cl (.int (i:Int)),rfl];rw[c9];by_cases s:ur b y i=B
   ·rw[uL.mp s]at f;rw[if_pos s];simp[rD,oS]at f z⊢;simp[yV,rD,f,z,P,u]
   ·have O:∃w,J8 b (vn b y) (i:Int)=S w:=by
     cases q:J8 b (vn b y) (i:Int)with
     |none=>exact vDa (uL.mpr q) s
     |some w=>exact#[w,rfl]
    obtain⟨w,O⟩:=O;rw[O]at f;rw[if_neg s,uFa];simp[rD,oS]at f⊢;simp[yV,rD,f,P,u]) #[j,rfl]
  rw[show(Jv 0 b.kinds.length).length=b.kinds.length by simp[Jv]]at M;have e0:uK b y 0=[]:=rfl;rw[e0,uFa]at M;exact#[H,M]
 have W:=AS (dt:=yW C) (s:=yX C) (d:=.bl B) (V:=eR b k=B) (λt=>∃(p:L (L Int)) (j m:Sl),t=[.bo (jh b),.bo h,j,.ow J (.lst (p.map rD)),m]/\(∀r∈p,RowG b r)/\p.any (eR b)=eR b k/\vo b p<=6000) (mR b) (by
  rintro t ⟨p,j,m,rfl,R,I,hm⟩;rcases List.eq_nil_or_concat p with rfl|⟨g,y,rfl⟩
  ·left;exact#[Qb C [],by rw[<-I];simp]
  ·rw[show g.concat y=g++[y] by simp]at *;right;have a:=R y (by simp);have gl:=a.ln;have s2:=F.s2;have u:=Nat.le_of_succ_le (a.zr F);have q:yW C [.bo (jh b),.bo h,j,.ow J (.lst ((g++[y]).map rD)),m]=S B:=by
    rw[Qb,show(g++[y]).isEmpty=G by cases g<;>rfl];rfl
   have A:qo 3 4 [.bo (jh b),.bo h,j,.ow J (.lst ((g++[y]).map rD)),m]=S (.nx [.bo (jh b),.bo h,j,.ow J (.lst (g.map rD)),.cl (rD y)]):=by simp_all
   rw[K8]at hm;have my:=Qg b [y];have mi:=Qg b g;by_cases l:(y.length:Int)=b.size
   ·left;have ey:eR b y=B:=by
     unfold eR yu;rw[a.pl,l,Int.sub_self];show decide ((vn b y).place=b.size)=B;rw[a.pl,l];simp
    refine#[q,?_,by rw[<-I];simp[ey]];simp only[yX];exact sq A (J_ (Jm (by simp[rD,u,l]) rfl))
   ·right;obtain⟨o,e⟩:=n y g j a l (by lia);refine#[q,[.bo (jh b),.bo h,o,.ow J (.lst ((g++uK b y b.kinds.length).map rD)),.cl (rD y)],?_,#[_,_,_,rfl,?_,?_,?_],?_]
    ·simp only[yX];refine sq A (sq (jF (by simp[rD,u,l]) rfl) ?_);have UQ:JI (b.kinds.length:Int)=B:=YY (by lia) (by lia);have zk:=F.zk;simp[-List.map_append,UQ,zk,e]
    ·intro r x;rcases uWa x with z|z
     ·exact R r (by simp[z])
     ·obtain⟨c,hc,s,rfl⟩:=xA z;exact a.next l hc s
    ·rw[List.any_append,<-E4 a l,<-I];simp
    all_goals
     have T:b.size.toNat-y.length=(b.size.toNat-y.length-1)+1:=by lia
     have mn:=d5 (b:=b) (y:=y) T (xs:=uK b y b.kinds.length) (λr x=>by
      obtain⟨c,_,_,rfl⟩:=xA x;simp)
     have ml:=Nat.mul_le_mul_right (tN (b.size.toNat-y.length-1)) (wSa (xz b y b.kinds.length) k2);have my2:vo b [y]=1+4*tN (b.size.toNat-y.length-1):=by
      unfold vo;rw[List.map_singleton,List.sum_singleton,T,tN];simp
    ·rw[K8];lia
    ·rw[a8,a8,K8,K8];lia) (n:=20000) #[[k],j,m,rfl,λr x=>by rw[List.mem_singleton.mp x];exact G0,by simp,by
    have:=AU Q k;lia] (by
    rw[a8];have:=AU Q k;lia)
 rcases W with⟨v,w⟩|⟨v,ρ',w⟩
 ·rw[v];exact J_ w
 ·have v:eR b k=G:=by simpa using v
  rw[v];exact sq w rfl
noncomputable def Wi(b)(a:L Int):=(Yp b a).isNone&&eR b a
def km{c}:Yp b c=J↔RowG b c:=by
 constructor
 ·intro h;obtain⟨d,e⟩:=BW h;exact#[d.1,d.2,e]
 ·intro a;exact BV #[a.ks,a.ln] a.eq
def Qi(C:Addr)(b:Bk)(c:L Int)(j:OkB b)(y:b.size<=6)(x:c.length<=1000):Ve C [jh b,.lst (c.map .int)]=S (.bl (Wi b c)):=by
 have z:c.length<=sizeLine:=Ym x;have v:=j.zk;have k:=Gy (g:=gN 0) (dc:=Jp (je (Jd JB ZP (dN 0) (dV 0) (j8 J9 [(G,(d2 j3 (dV 1) (dN 1)))])))) (de:=dC 0) (k:=[.un,.bo (jh b)]) D.int (λn=>!(decide (0<=n)&&decide (n<(b.kinds.length:Int)))) D.int (xs:=c) λn t=>#[_,rfl,by by_cases h:0<=n<;>simp[h,v],rfl]
 have l:(c.filter λn=>!(decide (0<=n)&&decide (n<(b.kinds.length:Int))))=[]↔Z9 b c=B:=by
  unfold Z9;rw[List.filter_eq_nil_iff,List.all_eq_true];constructor
  ·intro h n t;have:=h n t;simpa using this
  ·simp_all
 refine fE ?_;unfold Vd;generalize(c.filter λn=>!(decide (0<=n)&&decide (n<(b.kinds.length:Int))))=p at k l;have u:=Ih p;have g:∀s,j0 (jc (yA (je (d2 vV (j8 J9 [(fV 1)]) (d2 j3 (dV 0) (dN 0)))) (je (d2 Je (dL (yc 1 [0] (Ji (dP 1)) (gN 0) (Jp (je (Jd JB ZP (dN 0) (dV 0) (j8 J9 [(G,(d2 j3 (dV 1) (dN 1)))])))) (dC 0))) (dL (ju []))))) (jd (dK (.bl G))) ji) s [.bo (jh b),.bo (.lst (c.map .int)),.un,.un,.un]=if(c.length:Int)<=b.size/\Z9 b c=B then s [.bo (jh b),.bo (.lst (c.map .int)),.un,.un,.un]else S (.rt (.bl G)):=by
  intro s;have r:je (d2 Je (dL (yc 1 [0] (Ji (dP 1)) (gN 0) (Jp (je (Jd JB ZP (dN 0) (dV 0) (j8 J9 [(G,(d2 j3 (dV 1) (dN 1)))])))) (dC 0))) (dL (ju []))) [.bo (jh b),.bo (.lst (c.map .int)),.un,.un,.un]=S (!decide (p=[])):=by
   generalize Je=F at u⊢;generalize(Jp _)=Z at k⊢;simp[k,z,u]
  by_cases f:(c.length:Int)<=b.size
  ·by_cases d:Z9 b c=B
   ·rw[if_pos #[f,d]];refine sq (jF ?_ rfl) rfl;rw[yA,r,l.mpr d];simp[z,f]
   ·rw[if_neg (λq=>d q.2)];refine J_ (Jm ?_ rfl);have:p≠[]:=λq=>d (l.mp q);rw[yA,r];simp[z,f,this]
  ·rw[if_neg (λq=>f q.1)];refine J_ (Jm ?_ rfl);have:b.size<(c.length:Int):=by lia
   rw[yA,r];simp[z,this]
 rw[show zI _ _ 3=[.bo (jh b),.bo _,.un,.un,.un] from rfl,g];unfold Wi Yp;by_cases d:Z9 b c=B
 ·by_cases f:(c.length:Int)<=b.size
  ·rw[if_pos #[f,d],if_neg (by rw[d];decide),if_neg (by lia)];have i:=K5 C b c j (Vt d) x;cases m:jK b (Jg b) c with
   |mk s o=>
   cases o with
   |some w=>
    have e:yd b c=S (s.place+1,w):=by unfold yd;rw[m]
    rw[e]at i;refine J_ (Jm (by simp[i,oJ]) rfl)
   |none=>
    have e:yd b c=J:=by unfold yd;rw[m]
    rw[e]at i;have a:RowG b c:=#[Vt d,f,s,m]
    refine sq (jF (by simp[i,oJ]) rfl) (sq (a:=[.bo (jh b),.bo _,.un,.ow J (.lst [rD c]),.un]) rfl ?_);rw[AV C b _ j y .un .un c a];rfl
  ·rw[if_neg (λq=>f q.1),if_neg (by rw[d];decide),if_pos (by lia)];rfl
 ·rw[if_neg (λq=>d q.2),if_pos (by simpa using d)];rfl
noncomputable def YS(b:Bk)(a:L Int):Y Xp:=match Yp b a with
 |S p=>S p
 |none=>if eR b a=B then J else S ("Stuck",[])
noncomputable def Z7(p:Xp):D:=if p.1 ="Broken" then .tup [(((p.2.lookup ("place" : Str)).bind Kx).getD .non),(((p.2.lookup ("word" : Str)).bind Kx).getD .non)]else .non
noncomputable def vD:Y Xp->D
 |none=>.tup [.str "",.non]
 |S p=>.tup [.str p.1,Z7 p]
def Qs(n w){d c a}:jd (jw [(B,dK (D.str "Broken")),tC 3]) [d,c,a,.cl (oJ (S (n,w)))]=S (.rt (vD (S ("Broken",[("word",.str w),("place",.int n)])))):=by
 have b:(("place" : Str)=="word")=G:=by decide
 simp[vD,Z7,List.lookup,b,oJ]
def KZ(C b a k)(i:OkB b)(r:b.size<=6)(p:Z9 b a=B)(u:a.length+1<=b.size):ZU C [jh b,.lst ((a++[k]).map .int),.int k]=S (vD (YS b (a++[k]))):=by
 have v:=i.zk;have j:(a++[k]).length<=1000:=by simp;lia
 have c:=Qi C b _ i r j;refine fE ?_;unfold YI YS Yp;by_cases f:0<=k/\k<b.kinds.length
 ·have d:=qR (Yb (Vt p) f);have m:¬b.size<((a++[k]).length):=by simp;lia
  have g:=K5 C b _ i (Vt d) j;rw[if_neg (by rw[d];decide),if_neg m];unfold Wi Yp at c;rw[if_neg (by rw[d];decide),if_neg m]at c;refine sq (jF (by simp[f.1,f.2]) rfl) ?_;generalize(a++[k]).map D.int=t at *;cases h:jK b _ _ with
  |mk s o=>
  rw[h]at c;cases o with
  |some w=>
   have e:yd b (a++[k])=S (s.place+1,w):=by unfold yd;rw[h]
   rw[e]at g;refine sq (Bn g rfl) (J_ (Jm rfl ?_));exact Qs _ _
  |none=>
   have e:yd b (a++[k])=J:=by unfold yd;rw[h]
   rw[e]at g;refine sq (Bn g rfl) (sq (jF rfl rfl) ?_);cases l:eR b _ with
   |true=>simp[c,l,vD]
   |false=>simp[c,l,vD,Z7];decide
 ·have d:Z9 b (a++[k])=G:=by
   cases q:Z9 b _ with
   |false=>rfl
   |true=>exact vDa (Vt q k (by simp)) f
  rw[d,if_pos rfl];refine J_ (Jm ?_ ?_)
  ·by_cases n:0<=k
   ·simp_all
   ·simp[n]
  ·simp[vD,Z7];decide
noncomputable abbrev Sh:=L (Str×Int)×Int
noncomputable def jV(p:Str×Int):D:=.tup [.str p.1,.int p.2]
noncomputable def J2(s:Sh):D:=.tup [.lst (s.1.map jV),.int s.2]
noncomputable def jB(s:Sh):D:=.tup [.tup (s.1.map jV),.int s.2]
noncomputable def Js(l:L (Str×Int)):=l.map (·.2)
def RowG.zz{l:L (Str×Int)}(c:RowG b (Js l))(w:OkB b):l.length+1<=sizeLine:=by simpa[Js]using c.zr w
structure Ivs (b) (ks:L Str) (ss:L Sh) where
 len:ks.length=ss.length
 k8:ks.length<=8
 gu:∀k∈ks,Gu k
 ok:∀s∈ss,RowG b (Js s.1)
inductive Dd where
 |beg (n:Str)|off (n p:Str) (k:Int)|frk (n m:Str)
noncomputable def dD:Dd->D
 |.beg n=>.tup [.str "begin",.str n]
 |.off n p k=>.tup [.str "offer",.str n,.str p,.int k]
 |.frk n m=>.tup [.str "fork",.str n,.str m]
@[simp] theorem ny(n):j3 (dD (.beg n)) (.int 0)=S (.str "begin"):=rfl
@[simp] theorem nA(n):j3 (dD (.beg n)) (.int 1)=S (.str n):=rfl
@[simp] theorem nB(n p k):j3 (dD (.off n p k)) (.int 0)=S (.str "offer"):=rfl
@[simp] theorem nC(n p k):j3 (dD (.off n p k)) (.int 1)=S (.str n):=rfl
@[simp] theorem nD(n p k):j3 (dD (.off n p k)) (.int 2)=S (.str p):=rfl
@[simp] theorem nE(n p k):j3 (dD (.off n p k)) (.int 3)=S (.int k):=rfl
@[simp] theorem nF(n m):j3 (dD (.frk n m)) (.int 0)=S (.str "fork"):=rfl
@[simp] theorem nG(n m):j3 (dD (.frk n m)) (.int 1)=S (.str n):=rfl
@[simp] theorem nH(n m):j3 (dD (.frk n m)) (.int 2)=S (.str m):=rfl
@[simp] theorem Nx(p):j3 (jV p) (.int 0)=S (.str p.1):=rfl
@[simp] theorem Ny(p):j3 (jV p) (.int 1)=S (.int p.2):=rfl
noncomputable def Dd.gu:Dd->Prop
 |.beg n=>Gu n
 |.off n p _=>Gu n/\Gu p
 |.frk n m=>Gu n/\Gu m
noncomputable def JO(ks:L Str)(n:Str):Y Xp:=if UF n=G then S ("BadName",[])else if(Jt n ks).isSome=B then S ("Known",[])else if 8<=ks.length then S ("Many",[])else J
noncomputable def Yw(ks)(ss:L Sh)(n):=(Jt n ks).bind λj=>ss[j]?
noncomputable def VP(l:L (Str×Int))(p):=match l.getLast? with
 |S q=>decide (q.1=p)
 |none=>G
noncomputable def u7(b:Bk)(l:L (Str×Int))(p:Str)(k:Int):Y Xp:=if UF p=G then S ("BadName",[])else if b.size<=l.length then S ("Whole",[])else if VP l p=B then S ("SamePoet",[])else YS b (Js l++[k])
noncomputable def jC(b:Bk)(ks:L Str)(ss:L Sh):Dd->Y Xp
 |.beg n=>match JO ks n with
  |S p=>S p
  |none=>YS b []
 |.off n p k=>match Yw ks ss n with
  |none=>S ("NoName",[])
  |S s=>u7 b s.1 p k
 |.frk n m=>match Yw ks ss n with
  |none=>S ("NoName",[])
  |S _=>JO ks m
theorem AW:∀{a n j},Jt n a=S j->j<a.length/\a[j]?=S n
 |[],n,j,h=>Zn h
 |k::a,n,j,h=>by
  rw[Jt]at h;by_cases e:k=n
  ·rw[if_pos e]at h;obtain rfl:=Zj h;exact#[by simp,by simp[e]]
  ·rw[if_neg e]at h;obtain⟨i,b,rfl⟩:=Option.map_eq_some_iff.mp h;have:=AW b;exact#[by simp;lia,by simpa using this.2]
def vO(h:Yw ks ss n=S s):s∈ss:=by
 obtain⟨j,_,h⟩:=j1 h;exact wYa h
def Vw(a:ks.length=ss.length){n}:(Yw ks ss n).isSome=(Jt n ks).isSome:=by
 unfold Yw;cases e:Jt n ks with
 |none=>rfl
 |some j=>
  have b:=(AW e).1;have:j<ss.length:=by lia
  simp[this]
def Go{n}(f):z9 (.dk ks (ss.map f)) (.str n)=(Yw ks ss n).map f:=by
 show(Jt n ks).bind (λj=>(ss.map f)[j]?)=_;unfold Yw;cases Jt n ks with
 |none=>rfl
 |some j=>simp
def K_{n a}:zY a (.str n) (.dk ks b)=S (.bl (xor a (Jt n ks).isSome)):=rfl
theorem Ul:∀a:L _,ya (a.map jV)<=2
 |[]=>by simp 
 |x::a=>by
  have b:=Ul a;have e:dep (jV x)<=2:=by unfold jV;simp
  rw[vWa,ya];omega
def cb(a:L _):Je (.lst (a.map jV)) (.lst [])=S (.bl (!a.isEmpty)):=by
 have e:dep (.lst (a.map jV))<=20:=by rw[Zd];have:=Ul a;omega
 have b:Ze (D.lst (a.map jV)) (D.lst [])=B:=rfl;unfold Je v_;rw[if_pos b,if_pos #[b,e],YA];cases a<;>simp[YB]
noncomputable def Yk:Y Xp->Str
 |none=>""
 |S p=>p.1
def AX(C ks e n)(h:Gu n):U8 C [.dk ks e,.str n]=S (.str (Yk (JO ks n))):=by
 have a:=AR C n h;refine fE ?_;unfold U7 JO;cases c:UF n with
 |false=>rw[c]at a;exact J_ (Jm (Bn a rfl) rfl)
 |true=>
  rw[c]at a;refine sq (jF (Bn a rfl) rfl) ?_;cases b:(Jt n ks).isSome with
  |true=>exact J_ (Jm (by simp[zY,b]) rfl)
  |false=>
   refine sq (jF (by simp[zY,b]) rfl) ?_;by_cases d:8<=ks.length
   ·have:(7:Int)<ks.length:=by lia
    rw[if_pos d];simp[vr,this,Yk]
   ·have:¬(7:Int)<ks.length:=by lia
    rw[if_neg d];simp[vr,this,Yk]
def cf(C l)(h:l.length<=1000):Vg C [.lst (l.map jV)]=S (.lst ((Js l).map .int)):=by
 have a:JA (gT 2 (gC (gN 0) (gC (gN 1) gZ))) jN (dC 1) (l.map jV) [.un,.un]=S _:=Jn jV _ λp _=>#[_,rfl,rfl,rfl]
 have z:l.length<=sizeLine:=Ym h;simp only[Vg,Vf];simp[a,z,Js]
def a9(C b l n p k)(w:OkB b)(v:b.size<=6)(c:RowG b (Js l))(j:Gu p):uz C [jh b,.lst (l.map jV),dD (.off n p k)]=S (vD (u7 b l p k)):=by
 have e:=AR C p j;have m:(Js l).length=l.length:=by simp[Js]
 have x:=c.ln;have z:=Nat.le_of_succ_le (c.zz w);refine fE ?_;unfold Zv u7;cases h:UF p with
 |false=>rw[h]at e;exact J_ (Jm (Bn e rfl) rfl)
 |true=>
  rw[h]at e;refine sq (jF (Bn e rfl) rfl) ?_;by_cases f:b.size<=l.length
  ·rw[if_pos f];exact J_ (Jm (by simp[f]) rfl)
  ·rw[if_neg f];refine sq (jF (by simp[f]) rfl) ?_;have T:J4 (je (d2 Je (dV 1) (dL (ju [])))) (je (d2 jD (d2 j3 (d2 j3 (dV 1) (ZZ (dN 1))) (dN 0)) (d2 j3 (dV 2) (dN 2)))) [.bo (jh b),.bo (.lst (l.map jV)),.bo (dD (.off n p k))]=S (VP l p):=by
    have o:=cb l;have s:je (d2 Je (dV 1) (dL (ju []))) [.bo (jh b),.bo (.lst (l.map jV)),.bo (dD (.off n p k))]=S (!l.isEmpty):=by
     show(Je (.lst _) (.lst [])).bind VB=_;rw[o];rfl
    rw[J4,s];rcases List.eq_nil_or_concat l with rfl|⟨d,q,rfl⟩
    ·rfl
    ·rw[show d.concat q=d++[q] by simp,show(d++[q]).isEmpty=G by cases d<;>rfl];have a:=Q0 (l:=d.map jV) (d:=jV q);unfold VP;simp[a]
   cases i:VP l p with
   |true=>
    rw[i]at T;exact J_ (Jm T rfl)
   |false=>
    rw[i]at T;refine sq (jF T rfl) ?_;have t:=cf C l (by lia);have g:=KZ C b (Js l) k w v (qR c.ks) (by lia);have u:=c.zz w;have r:(Js l).length+1<=sizeLine:=by rw[m];exact u
    simp at g;simp[t,g,r]
noncomputable def mD(ks:L Str)(ss:L Sh):D:=.tup [.int 0,.dk ks (ss.map J2)]
def Um(a n):JO a n=J\/JO a n=S (("BadName",[]):Xp)\/JO a n=S (("Known",[]):Xp)\/JO a n=S (("Many",[]):Xp):=by
 unfold JO;split
 ·simp
 ·split
  ·simp
  ·split
   ·simp
   ·simp
def E7:Yk (JO ks n) ="" ↔JO ks n=J:=by
 have c:¬(("BadName" : Str) =""):=by decide
 have a:¬(("Known" : Str) =""):=by decide
 have b:¬(("Many" : Str) =""):=by decide
 rcases Um ks n with h|h|h|h<;>rw[h]<;>simp[Yk,c,a,b]
def AY:vD (JO ks n)=.tup [.str (Yk (JO ks n)),.non]:=by
 have c:¬(("BadName" : Str) ="Broken"):=by decide
 have b:¬(("Known" : Str) ="Broken"):=by decide
 have a:¬(("Many" : Str) ="Broken"):=by decide
 rcases Um ks n with h|h|h|h<;>rw[h]<;>simp[vD,Z7,Yk,c,b,a]
def xB(c:OkB b):RowG b []:=#[λn a=>(by cases a),by have:=c.s1;simp;lia,_,rfl]
def aa(C:Addr)(b:Bk)(j:L D)(ks:L Str)(ss:L Sh)(dd:Dd)(y:OkB b)(H:b.size<=6)(I:Ivs b ks ss)(u:dd.gu):uA C [.lst (jh b::j),mD ks ss,dD dd]=S (vD (jC b ks ss dd)):=by
 have l:atI (jh b::j) 0=S (jh b):=ut (vEa 0) rfl;refine fE ?_;unfold Zw;have x:∀d:D,yB (dC 1) (gT 2 (gC (gN 3) (gC (gN 4) gZ))) [.bo (.lst (jh b::j)),.cl (mD ks ss),.cl d,.un,.un,.un,.un,.un,.un]=S _:=λd=>rfl;cases dd with
 |beg n=>
  have r:=AX C ks (ss.map J2) n u;have o:=Qi C b [] y H (by decide);have A:Yp b []=J:=km.mpr (xB y);refine sq (x _) (sq (a:=[.bo (.lst (jh b::j)),.cl (mD ks ss),.cl (dD (.beg n)),.cl (.int 0),.cl (.dk ks (ss.map J2)),.cl (.str "begin"),.un,.un,.un]) (by simp) (sq (jF rfl rfl) (J_ (Jm (by simp) ?_))));unfold Wi at o;rw[A,uJa]at o;cases i:JO ks n with
  |some p=>
   have w:¬Yk (JO ks n) ="":= λz=>by rw[E7,i]at z;exact Zs z
   have v:=AY (ks:=ks) (n:=n);refine sq (Bn r rfl) (sq (jF (by simp[w]) rfl) ?_);rw[i]at v;have f:jC b ks ss (.beg n)=S p:=by simp[jC,i]
   rw[f,v,i];simp
  |none=>
   rw[i]at r;have f:jC b ks ss (.beg n)=if eR b []=B then J else S (("Stuck",[]):Xp):=by simp[jC,i,YS,A]
   rw[f];refine sq (Bn r rfl) ?_;cases F:eR b []with
   |true=>rw[F]at o;exact sq (jF (by simp[Yk,l,o]) rfl) rfl
   |false=>rw[F]at o;exact sq (Jm (by simp[Yk,l,o]) (by simp<;>rfl)) (by simp[vD,Z7];decide)
 |off n p k=>
  obtain⟨i,M⟩:=u;have c:=Vw (ss:=ss) I.len (n:=n);have g:=Go (ks:=ks) (ss:=ss) (n:=n) J2;refine sq (x _) (sq (a:=[.bo (.lst (jh b::j)),.cl (mD ks ss),.cl (dD (.off n p k)),.cl (.int 0),.cl (.dk ks (ss.map J2)),.cl (.str "offer"),.un,.un,.un]) (by simp) (sq (jF rfl rfl) (sq (jF rfl rfl) ?_)));cases h:Yw ks ss n with
  |none=>
   rw[h]at c;have t:¬(("NoName" : Str) ="Broken"):=by decide
   have f:jC b ks ss (.off n p k)=S (("NoName",[]):Xp):=by simp[jC,h]
   rw[f];have c:(Jt n ks).isSome=G:=c.symm;refine J_ (Jm (by simp[K_,c]) (by simp[vD,Z7,t]))
  |some s=>
   rw[h]at c g;have f:jC b ks ss (.off n p k)=u7 b s.1 p k:=by simp[jC,h]
   rw[f];have c:(Jt n ks).isSome=B:=c.symm;have a:=I.ok s (vO h);have e:=a9 C b s.1 n p k y H a M;refine sq (jF (by simp[K_,c]) rfl) ?_;have g:z9 (.dk ks (ss.map J2)) (.str n)=S (.tup [.lst (s.1.map jV),.int s.2]):=g;refine sq (a:=[.bo (.lst (jh b::j)),.cl (mD ks ss),.cl (dD (.off n p k)),.cl (.int 0),.cl (.dk ks (ss.map J2)),.cl (.str "offer"),.un,.cl (.lst (s.1.map jV)),.cl (.int s.2)]) (Bn g rfl) (J_ (Jm (by simp) ?_));simp[l,e]
 |frk n m=>
  obtain⟨i,N⟩:=u;have r:=AX C ks (ss.map J2) m N;have c:=Vw (ss:=ss) I.len (n:=n);have g:=Go (ks:=ks) (ss:=ss) (n:=n) J2;refine sq (x _) (sq (a:=[.bo (.lst (jh b::j)),.cl (mD ks ss),.cl (dD (.frk n m)),.cl (.int 0),.cl (.dk ks (ss.map J2)),.cl (.str "fork"),.un,.un,.un]) (by simp) (sq (jF rfl rfl) (sq (jF rfl rfl) ?_)));cases h:Yw ks ss n with
  |none=>
   rw[h]at c;have t:¬(("NoName" : Str) ="Broken"):=by decide
   have f:jC b ks ss (.frk n m)=S (("NoName",[]):Xp):=by simp[jC,h]
   rw[f];have c:(Jt n ks).isSome=G:=c.symm;refine J_ (Jm (by simp[K_,c]) (by simp[vD,Z7,t]))
  |some s=>
   rw[h]at c g;have f:jC b ks ss (.frk n m)=JO ks m:=by simp[jC,h]
   rw[f];have c:(Jt n ks).isSome=B:=c.symm;refine sq (jF (by simp[K_,c]) rfl) ?_;have g:z9 (.dk ks (ss.map J2)) (.str n)=S (.tup [.lst (s.1.map jV),.int s.2]):=g;have v:=AY (ks:=ks) (n:=m);refine sq (a:=[.bo (.lst (jh b::j)),.cl (mD ks ss),.cl (dD (.frk n m)),.cl (.int 0),.cl (.dk ks (ss.map J2)),.cl (.str "fork"),.un,.cl (.lst (s.1.map jV)),.cl (.int s.2)]) (Bn g rfl) (sq (jF rfl rfl) (sq (jF rfl rfl) (J_ (Jm (by simp) ?_))));rw[v];simp[r]
noncomputable def Yq(C:Addr)(b:Bk)(ks:L Str)(vs:L D):D:=.tup [jm C b,.mem (YG b),.dk ks vs]
noncomputable def jQ(C:Addr)(b:Bk)(ks:L Str)(vs:L D)(dn un:L D):HS:=#[CH,["opened","now"],[jm C b,Yq C b ks vs],["done","undone"],[dn,un]]
def Iu:Jr "now" ["opened","now"]=S 1:=by decide
def d6:Jr "done" ["opened","now"]=J:=by decide
def d8:Jr "undone" ["opened","now"]=J:=by decide
def LL:Jr "done" ["done","undone"]=S 0:=by decide
def LM:Jr "undone" ["done","undone"]=S 1:=by decide
def gR:∀m∈(["do","put","check_new","check_ends","sheet","begin","offer","fork","verses","turned","rules","names"]:L Str),(Jr m ["opened","now"]).isNone=B/\(Jr m ["done","undone"]).isNone=B:=by decide
@[simp] theorem ZB(C b ks vs dn un):jR CH "now" (jQ C b ks vs dn un).toD=S (Yq C b ks vs):=by
 have a:(("now" : Str)=="opened")=G:=by decide
 show(if CH=CH then((["opened","now"]:L Str).zip [jm C b,Yq C b ks vs]).lookup ("now" : Str)else J)=_;simp[List.lookup,a]
@[simp] theorem nI(C b c a):j3 (Yq C b c a) (.int 0)=S (jm C b):=rfl
@[simp] theorem nJ(C b c a):j3 (Yq C b c a) (.int 2)=S (.dk c a):=rfl
noncomputable def Vx:Y Xp->Rx
 |none=>.ok .non
 |S p=>.xc p
def gS(C b ks vs dn un n)(h:Gu n):JJ C [(jQ C b ks vs dn un).toD,.str n]=S (Vx (JO ks n)):=by
 have a:=wJ C n h;have f:=ZB C b ks vs dn un;generalize(jQ C b ks vs dn un).toD=g at f⊢;unfold JO;simp only[JJ,zm];cases d:UF n with
 |false=>unfold xn at a;rw[d]at a;simp[a,Vx]
 |true=>
  unfold xn at a;rw[d]at a;cases c:(Jt n ks).isSome with
  |true=>simp[a,f,zY,c,Vx]
  |false=>
   by_cases e:8<=ks.length
   ·have:(8:Int)<=ks.length:=by lia
    simp[a,f,zY,c,e,vr,Vx,this]
   ·have:¬(8:Int)<=ks.length:=by lia
    simp[a,f,zY,c,e,vr,Vx,this]
theorem ko(C b ks ss dn un n)(d:ks.length=ss.length):Jf C [(jQ C b ks (ss.map jB) dn un).toD,.str n]=S (match Yw ks ss n with
  |none=>.xc ("NoName",[])
  |S s=>.ok (jB s)):=by
 have f:=ZB C b ks (ss.map jB) dn un;generalize(jQ C b ks _ dn un).toD=e at f⊢;have a:=Vw d (n:=n);have g:=Go (ks:=ks) (ss:=ss) (n:=n) jB;simp only[Jf,vc];cases c:Yw ks ss n with
 |none=>
  rw[c]at a;have a:=a.symm;simp[f,K_,a]
 |some s=>
  rw[c]at a g;have a:=a.symm;simp[f,K_,a,g]
def Iv(C l)(h:l.length<=1000):ke C [.tup (l.map jV)]=S (.lst ((Js l).map .int)):=by
 have a:JA (gT 2 (gC (gN 0) (gC (gN 1) gZ))) jN (dC 1) (l.map jV) [.un,.un]=S _:=Jn jV _ λp _=>#[_,rfl,rfl,rfl]
 have z:l.length<=sizeLine:=Ym h;simp only[ke,kb];simp[a,z,Js]
def UG(C b ks vs dn un l)(j:OkB b)(n:b.size<=6)(m:l.length<=1000):JX C [(jQ C b ks vs dn un).toD,.tup (l.map jV)]=S (Vx (YS b (Js l))):=by
 have f:=ZB C b ks vs dn un;generalize(jQ C b ks vs dn un).toD=e at f⊢;have k:=Iv C l m;have g:=AM C b (Js l) j (by simp[Js];lia);have A:∀x,yB (d1 (jR CH "now") (dV 0)) (gT 3 (gC (gN 2) (gC (gN 3) (gC (gN 4) gZ)))) [.bo e,.bo x,.un,.un,.un,.un]=S _:=λx=>by
  show(jR CH "now" e).bind _=_;rw[f];rfl
 have c:JW C [.bo e,.bo (.tup (l.map jV)),.un,.un,.un,.un]=(match YS b (Js l)with
   |none=>S (.nx [.bo e,.bo (.tup (l.map jV)),.cl (jm C b),.cl (.mem (YG b)),.cl (.dk ks vs),.cl (J3 (vn b (Js l)))])
   |S p=>match Yp b (Js l)with
    |S p=>S (.xc p [.bo e,.bo (.tup (l.map jV)),.cl (jm C b),.cl (.mem (YG b)),.cl (.dk ks vs),.un])
    |none=>S (.xc p [.bo e,.bo (.tup (l.map jV)),.cl (jm C b),.cl (.mem (YG b)),.cl (.dk ks vs),.cl (J3 (vn b (Js l)))])):=by
  unfold JW;rw[sq (A _) rfl];unfold YS;cases d:Yp b (Js l)with
  |some p=>
   rw[d]at g;simp[k,g]
  |none=>
   rw[d]at g;have a:=km.mp d;have R:=a.rch;obtain⟨_,r,o⟩:=R.of;have h:=xy C b j 9 _ R (by lia);have h:uF C _=S (.bl (eR b (Js l))):=h;have g:vH C _=S (.ok (J3 (vn b (Js l)))):=g;refine sq (a:=[.bo e,.bo (.tup (l.map jV)),.cl (jm C b),.cl (.mem (YG b)),.cl (.dk ks vs),.cl (J3 (vn b (Js l)))]) (by simp[k,g]) ?_;cases i:eR b (Js l)with
   |true=>rw[i]at h;simp[h]
   |false=>rw[i]at h;simp[h]
 show(JW C [.bo e,.bo _,.un,.un,.un,.un]).bind _=_;rw[c];unfold YS Vx;cases d:Yp b (Js l)with
 |some p=>simp
 |none=>cases i:eR b (Js l)<;>simp
def LN(C b g c e a d h i)(j:d.length<sizeLine):Ui C (jQ C b g e d h) [i,Yq C b c a]=S (.ok .non,jQ C b c a (d++[.tup [i,Yq C b g e]]) []):=by
 have f:=ZB C b g e d h;simp only[Ui,Uh,jQ]at f⊢;simp[j]at f⊢;simp[f,Iu,d6,d8,LL,LM,j]
def VQ{b c:Type}(f:b->c)(ks a k v):jU ks (a.map f) k (f v)=(jU ks a k v).map f:=by
 unfold jU;cases Jt k ks with
 |none=>simp
 |some j=>simp 
noncomputable def xD(C:Addr)(b:Bk)(ks:L Str)(c:L Sh)(a:Dd):D:=.tup [dD a,Yq C b ks (c.map jB)]
def Qj(C b ks c dn un d n s)(m:dn.length<sizeLine)(l:ks.length<sizeLine):ZN C (jQ C b ks (c.map jB) dn un) [d,.str n,.tup (s.1.map jV),.int s.2]=S (.ok .non,jQ C b (J5 ks n) ((jU ks c n s).map jB) (dn++[.tup [d,Yq C b ks (c.map jB)]]) []):=by
 have f:=ZB C b ks (c.map jB) dn un;have e:=LN C b ks (J5 ks n) (c.map jB) ((jU ks c n s).map jB) dn un d m;have j:=gR "do" (by decide);have k:=VQ jB ks c n s;have o:(jQ C b ks (c.map jB) dn un).C=CH:=rfl;have i:(jQ C b ks (c.map jB) dn un).ns=(["opened","now"]:L Str):=rfl;have h:(jQ C b ks (c.map jB) dn un).ms=(["done","undone"]:L Str):=rfl;generalize jQ C b ks _ dn un=g at *;have a:ZM C [.lo B g,.cl d,.cl (.str n),.cl (.tup (s.1.map jV)),.cl (.int s.2),.un,.un,.un,.un]=S (.nx [.lo B (jQ C b (J5 ks n) ((jU ks c n s).map jB) (dn++[.tup [d,Yq C b ks (c.map jB)]]) []),.cl d,.cl (.str n),.cl (.tup (s.1.map jV)),.cl (.int s.2),.cl (jm C b),.cl (.mem (YG b)),.cl (.dk ks (c.map jB)),.cl (.dk (J5 ks n) ((jU ks c n s).map jB))]):=by
  refine sq (by
   show(jR CH "now" g.toD).bind _=_;rw[f];rfl) ?_
  refine sq (a:=[.lo _ g,.cl d,.cl _,.cl (.tup _),.cl _,.cl _,.cl _,.cl (.dk ks _),.ow _ (.dk ks _)]) rfl ?_;refine sq (a:=[.lo B g,.cl d,.cl (.str n),.cl (.tup (s.1.map jV)),.cl (.int s.2),.cl (jm C b),.cl (.mem (YG b)),.cl (.dk ks (c.map jB)),.ow J (.dk (J5 ks n) (jU ks (c.map jB) n (jB s)))]) (by simp[l,jB]) ?_;rw[k];unfold Yq at e;simp[o,i,h,j.1,j.2,e,-J5,Yq]
 show(ZM C [.lo _ g,.cl d,.cl _,.cl _,.cl _,.un,.un,.un,.un]).bind _=_;rw[a];rfl
def YT{ks vs dn un m F ds}(c:m∈(["do","put","check_new","check_ends","sheet","begin","offer","fork","verses","turned","rules","names"]:L Str)):qh CH m F (jQ C b ks vs dn un).toD ds=F ((jQ C b ks vs dn un).toD::ds):=by
 have a:=gR m c;exact if_pos #[rfl,a.1,a.2]
noncomputable def u8(ks:L Str):Dd->L Str
 |.beg n=>J5 ks n
 |.off n _ _=>J5 ks n
 |.frk _ m=>J5 ks m
noncomputable def yZ(ks:L Str)(ss:L Sh):Dd->L Sh
 |.beg n=>jU ks ss n ([],0)
 |.off n p k=>match Yw ks ss n with
  |S s=>jU ks ss n (s.1++[(p,k)],s.2)
  |none=>ss
 |.frk n m=>match Yw ks ss n with
  |S s=>jU ks ss m s
  |none=>ss
noncomputable def Z8(C:Addr)(b:Bk)(ks:L Str)(ss:L Sh)(dn un:L D)(dd:Dd):Rx×HS:=match jC b ks ss dd with
 |S p=>(.xc p,jQ C b ks (ss.map jB) dn un)
 |none=>(.ok .non,jQ C b (u8 ks dd) ((yZ ks ss dd).map jB) (dn++[xD C b ks ss dd]) [])
def cg(C b ks c dn un n)(x:OkB b)(s:b.size<=6)(t:Gu n)(v:dn.length<sizeLine)(u:ks.length<sizeLine):UB C (jQ C b ks (c.map jB) dn un) [.str n]=S (Z8 C b ks c dn un (.beg n)):=by
 have w:=gS C b ks (c.map jB) dn un n t;have l:=UG C b ks (c.map jB) dn un [] x s (by decide);have m:=Qj C b ks c dn un (dD (.beg n)) n ([],0) v u;have d:=YT (C:=C) (b:=b) (ks:=ks) (vs:=c.map jB) (dn:=dn) (un:=un) (m:="check_new") (F:=JJ C) (ds:=[.str n]) (by decide);have e:=YT (C:=C) (b:=b) (ks:=ks) (vs:=c.map jB) (dn:=dn) (un:=un) (m:="check_ends") (F:=JX C) (ds:=[.tup []]) (by decide);have g:=gR "put" (by decide);unfold Z8 xD;have r:(jQ C b ks (c.map jB) dn un).C=CH:=rfl;have h:(jQ C b ks (c.map jB) dn un).ns=(["opened","now"]:L Str):=rfl;have i:(jQ C b ks (c.map jB) dn un).ms=(["done","undone"]:L Str):=rfl;generalize jQ C b ks _ dn un=j at *;rw[w]at d;rw[show([]).map _=[] from rfl,show Js []=[] from rfl]at l;rw[l]at e;have a:Ye C [.lo B j,.cl (.str n)]=match jC b ks c (.beg n)with
   |S p=>S (.xc p [.lo B j,.cl (.str n)])
   |none=>S (.nx [.lo B (jQ C b (J5 ks n) ((jU ks c n ([],0)).map jB) (dn++[.tup [dD (.beg n),Yq C b ks (c.map jB)]]) []),.cl (.str n)]):=by
  unfold Ye;cases f:JO ks n with
  |some p=>
   have k:jC b ks c (.beg n)=S p:=by simp[jC,f]
   rw[f]at d;rw[k];simp[d,Vx,-HS.toD]
  |none=>
   have k:jC b ks c (.beg n)=YS b []:=by simp[jC,f]
   rw[f]at d;rw[k];cases o:YS b []with
   |some p=>rw[o]at e;simp[d,e,Vx,-HS.toD]
   |none=>
    rw[o]at e;simp only[dD,List.map_nil]at m;simp only[Option.isNone_iff_eq_none]at g;simp[d,e,Vx,-HS.toD,r,h,i,g.1,g.2,m,dD]
 show(Ye C [.lo _ j,.cl _]).bind _=_;rw[a];cases jC b ks c _ with
 |some p=>rfl
 |none=>rfl
def ci(C:Addr)(b:Bk)(ks:L Str)(g:L Sh)(dn un:L D)(n p:Str)(k:Int)(W:OkB b)(Z:b.size<=6)(I:Ivs b ks g)(hn:Gu n)(hp:Gu p)(hl:dn.length<sizeLine)(hk:ks.length<sizeLine):UC C (jQ C b ks (g.map jB) dn un) [.str n,.str p,.int k]=S (Z8 C b ks g dn un (.off n p k)):=by
 have e0:=ko C b ks g dn un n I.len;have j:=wJ C p hp;have f:=ZB C b ks (g.map jB) dn un;have t:=YT (C:=C) (b:=b) (ks:=ks) (vs:=g.map jB) (dn:=dn) (un:=un) (m:="sheet") (F:=Jf C) (ds:=[.str n]) (by decide);have x2:∀l:L (Str×Int),l.length<=1000->qh CH "check_ends" (JX C) (jQ C b ks (g.map jB) dn un).toD [.tup (l.map jV)]=S (Vx (YS b (Js l))):=λl h=>by
  rw[YT (by decide)];exact UG C b ks (g.map jB) dn un l W Z h
 have u:=λs:Sh=>Qj C b ks g dn un (dD (.off n p k)) n s hl hk;have O:=gR "put" (by decide);unfold Z8 xD;have hC:(jQ C b ks (g.map jB) dn un).C=CH:=rfl;have H:(jQ C b ks (g.map jB) dn un).ns=(["opened","now"]:L Str):=rfl;have A:(jQ C b ks (g.map jB) dn un).ms=(["done","undone"]:L Str):=rfl;generalize jQ C b ks (g.map jB) dn un=m at *;rw[e0]at t;have e:∃x w M:Sl,Yg C [.lo B m,.cl (.str n),.cl (.str p),.cl (.int k),.un,.un,.un]=match jC b ks g (.off n p k)with
   |S q=>S (.xc q [.lo B m,.cl (.str n),.cl (.str p),.cl (.int k),x,w,M])
   |none=>S (.nx [.lo B (jQ C b (u8 ks (.off n p k)) ((yZ ks g (.off n p k)).map jB) (dn++[.tup [dD (.off n p k),Yq C b ks (g.map jB)]]) []),.cl (.str n),.cl (.str p),.cl (.int k),x,w,M]):=by
  unfold Yg;cases r:Yw ks g n with
  |none=>
   have N:jC b ks g (.off n p k)=S (("NoName",[]):Xp):=by simp[jC,r]
   rw[r]at t;rw[N];exact#[.un,.un,.un,by simp[t,-HS.toD]]
  |some s=>
   have N:jC b ks g (.off n p k)=u7 b s.1 p k:=by simp[jC,r]
   have X:yZ ks g (.off n p k)=jU ks g n (s.1++[(p,k)],s.2):=by simp[yZ,r]
   have c:=I.ok s (vO r);have ll:(Js s.1).length=s.1.length:=by simp[Js]
   have gl:=c.ln;have s2:=W.s2;have z:=Nat.le_of_succ_le (c.zz W);rw[r]at t;rw[N,X];refine#[.cl (.tup (s.1.map jV)),.cl (.int s.2),?_];have S1:zt (JM CH "sheet" (Jf C) (dV 0) [(fV 1)]) (λd ρ=>((gT 2 (gC (gN 4) (gC (gN 5) gZ))) d ρ).bind λF=>S (.nx F)) [.lo B m,.cl (.str n),.cl (.str p),.cl (.int k),.un,.un,.un]=S (.nx [.lo B m,.cl (.str n),.cl (.str p),.cl (.int k),.cl (.tup (s.1.map jV)),.cl (.int s.2),.un]):=by simp[t,-HS.toD,jB]
   rw[sq S1 rfl];unfold u7;cases UQ:UF p with
   |false=>
    unfold xn at j;rw[UQ]at j;exact#[.un,by simp[j]]
   |true=>
    unfold xn at j;rw[UQ]at j;rw[if_neg (by decide)];by_cases Q:b.size<=(s.1.length:Int)
    ·rw[if_pos Q];have i:(s.1.length:Int)=b.size:=by lia
     exact#[.un,by simp[j,f,z,i,-HS.toD]]
    ·rw[if_neg Q];have i:¬(s.1.length:Int)=b.size:=by lia
     have T:J4 (Jj (dV 4)) (je (d2 jD (d2 j3 (d2 j3 (dV 4) (ZZ (dN 1))) (dN 0)) (dV 2))) [.lo B m,.cl (.str n),.cl (.str p),.cl (.int k),.cl (.tup (s.1.map jV)),.cl (.int s.2),.un]=S (VP s.1 p):=by
      generalize s.1=l;rcases List.eq_nil_or_concat l with rfl|⟨v,q,rfl⟩
      ·rfl
      ·have a:=Q0 (l:=v.map jV) (d:=jV q);unfold VP;simp[a]
     cases R:VP s.1 p with
     |true=>
      rw[R]at T;refine#[.un,?_];refine sq (Bn j rfl) (sq (jF (by simp[f,z,i,-HS.toD]) rfl) ?_);rw[j0,Jm (r:=S (.xc ("SamePoet",[]) _)) T rfl];rfl
     |false=>
      rw[R]at T;have o:=x2 (s.1++[(p,k)]) (by simp;lia);have kd:Js (s.1++[(p,k)])=Js s.1++[k]:=by simp[Js]
      rw[kd]at o;have z2:=c.zz W;refine#[.cl (.tup ((s.1++[(p,k)]).map jV)),?_];refine sq (Bn j rfl) (sq (jF (by simp[f,z,i,-HS.toD]) rfl) (sq (jF T rfl) (sq (a:=[.lo B m,.cl (.str n),.cl (.str p),.cl (.int k),.cl (.tup (s.1.map jV)),.cl (.int s.2),.cl (.tup ((s.1++[(p,k)]).map jV))]) (by simp[z2,jV]) ?_)));have u:=u (s.1++[(p,k)],s.2);generalize y:(s.1++[(p,k)]).map jV=ll at o u⊢;cases P:YS b (Js s.1++[k])with
      |some q=>rw[P]at o;simp[o,Vx,-HS.toD]
      |none=>
       rw[P]at o;simp only[Option.isNone_iff_eq_none]at O;simp only[y,dD]at u;simp[o,Vx,-HS.toD,hC,H,A,O.1,O.2,u,dD,-J5,u8]
 obtain⟨x,w,M,e⟩:=e;show(Yg C [.lo B m,.cl (.str n),.cl (.str p),.cl (.int k),.un,.un,.un]).bind _=_;rw[e];cases jC b ks g (.off n p k)with
 |some p=>rfl
 |none=>rfl
def E8(C b ks c dn un n m)(I:Ivs b ks c)(O:Gu n)(x:Gu m)(A:dn.length<sizeLine)(H:ks.length<sizeLine):gJ C (jQ C b ks (c.map jB) dn un) [.str n,.str m]=S (Z8 C b ks c dn un (.frk n m)):=by
 have z:=ko C b ks c dn un n I.len;have N:=gS C b ks (c.map jB) dn un m x;have h:=YT (C:=C) (b:=b) (ks:=ks) (vs:=c.map jB) (dn:=dn) (un:=un) (m:="sheet") (F:=Jf C) (ds:=[.str n]) (by decide);have g:=YT (C:=C) (b:=b) (ks:=ks) (vs:=c.map jB) (dn:=dn) (un:=un) (m:="check_new") (F:=JJ C) (ds:=[.str m]) (by decide);have t:=λs=>Qj C b ks c dn un (dD (.frk n m)) m s A H;have l:=gR "put" (by decide);unfold Z8 xD;have y:(jQ C b ks (c.map jB) dn un).C=CH:=rfl;have o:(jQ C b ks (c.map jB) dn un).ns=(["opened","now"]:L Str):=rfl;have k:(jQ C b ks (c.map jB) dn un).ms=(["done","undone"]:L Str):=rfl;generalize jQ C b ks _ dn un=e at *;rw[z]at h;rw[N]at g;have a:∃u i ,YJ C [.lo B e,.cl (.str n),.cl (.str m),.un,.un]=match jC b ks c (.frk n m)with
   |S q=>S (.xc q [.lo B e,.cl (.str n),.cl (.str m),u,i])
   |none=>S (.nx [.lo B (jQ C b (u8 ks (.frk n m)) ((yZ ks c (.frk n m)).map jB) (dn++[.tup [dD (.frk n m),Yq C b ks (c.map jB)]]) []),.cl (.str n),.cl (.str m),u,i]):=by
  unfold YJ;cases f:Yw ks c n with
  |none=>
   have r:jC b ks c (.frk n m)=S (("NoName",[]):Xp):=by simp[jC,f]
   rw[f]at h;rw[r];exact#[.un,.un,by simp[h,-HS.toD]]
  |some s=>
   have r:jC b ks c (.frk n m)=JO ks m:=by simp[jC,f]
   have M:yZ ks c (.frk n m)=jU ks c m s:=by simp[yZ,f]
   rw[f]at h;rw[r,M];refine#[.cl (.tup (s.1.map jV)),.cl (.int s.2),?_];have F:zt (JM CH "sheet" (Jf C) (dV 0) [(fV 1)]) (λd w=>((gT 2 (gC (gN 3) (gC (gN 4) gZ))) d w).bind λj=>S (.nx j)) [.lo B e,.cl (.str n),.cl (.str m),.un,.un]=S (.nx [.lo B e,.cl (.str n),.cl (.str m),.cl (.tup (s.1.map jV)),.cl (.int s.2)]):=by simp[h,-HS.toD,jB]
   rw[sq F _];cases v:JO ks m with
   |some q=>rw[v]at g;simp[g,Vx,-HS.toD]
   |none=>
    rw[v]at g;simp only[Option.isNone_iff_eq_none]at l;simp only[dD]at t;simp[g,Vx,-HS.toD,y,o,k,l.1,l.2,t,dD,u8]
 obtain⟨i,P,a⟩:=a;show(YJ C [.lo _ e,.cl _,.cl _,.un,.un]).bind _=_;rw[a];cases jC b ks c _ with
 |some p=>rfl
 |none=>rfl
def Iw(C:Addr)(b:Bk)(f:L Str)(g:L Sh)(h i:L D)(c:D)(u:Dd)(M:OkB b)(H:b.size<=6)(I:Ivs b f g)(t:u.gu)(z:h.length<sizeLine)(x:f.length<sizeLine):Z5 C (jQ C b f (g.map jB) h i) [c,dD u]=S (Z8 C b f g h i u):=by
 have F:=gR "begin" (by decide);have v:=gR "offer" (by decide);have w:=gR "fork" (by decide);simp only[Option.isNone_iff_eq_none]at F v w;have y:(jQ C b f (g.map jB) h i).C=CH:=rfl;have s:(jQ C b f (g.map jB) h i).ns=(["opened","now"]:L Str):=rfl;have o:(jQ C b f (g.map jB) h i).ms=(["done","undone"]:L Str):=rfl;cases u with
 |beg n=>
  have e:=cg C b f g h i n M H t z x;generalize Z8 C b f g h i (.beg n)=r at e⊢;generalize jQ C b f (g.map jB) h i=j at *;obtain⟨r,l⟩:=r;have a:JH C [.lo B j,.cl c,.cl (dD (.beg n))]=match r with
    |.ok d=>S (.rh d [.lo B l,.cl c,.cl (dD (.beg n))])
    |.xc p=>S (.xc p [.lo B l,.cl c,.cl (dD (.beg n))]):=by
   unfold JH;cases r<;>simp[y,s,o,F.1,F.2,e]
  show(JH C [.lo B j,.cl c,.cl (dD (.beg n))]).bind _=_;rw[a];cases r<;>rfl
 |off n p k=>
  have e:=ci C b f g h i n p k M H I t.1 t.2 z x;generalize Z8 C b f g h i (.off n p k)=r at e⊢;generalize jQ C b f (g.map jB) h i=j at *;obtain⟨r,l⟩:=r;have a:JH C [.lo B j,.cl c,.cl (dD (.off n p k))]=match r with
    |.ok d=>S (.rh d [.lo B l,.cl c,.cl (dD (.off n p k))])
    |.xc A=>S (.xc A [.lo B l,.cl c,.cl (dD (.off n p k))]):=by
   unfold JH;refine sq (jF rfl rfl) ?_;cases r<;>simp[y,s,o,v.1,v.2,e]
  show(JH C [.lo B j,.cl c,.cl (dD (.off n p k))]).bind _=_;rw[a];cases r<;>rfl
 |frk n m=>
  have e:=E8 C b f g h i n m I t.1 t.2 z x;generalize Z8 C b f g h i (.frk n m)=r at e⊢;generalize jQ C b f (g.map jB) h i=j at *;obtain⟨r,l⟩:=r;have a:JH C [.lo B j,.cl c,.cl (dD (.frk n m))]=match r with
    |.ok d=>S (.rh d [.lo B l,.cl c,.cl (dD (.frk n m))])
    |.xc A=>S (.xc A [.lo B l,.cl c,.cl (dD (.frk n m))]):=by
   unfold JH;refine sq (jF rfl rfl) (sq (jF rfl rfl) (sq (jF rfl rfl) (sq (jF rfl rfl) (sq (jF rfl rfl) ?_))));cases r<;>simp[y,s,o,w.1,w.2,e]
  show(JH C [.lo B j,.cl c,.cl (dD (.frk n m))]).bind _=_;rw[a];cases r<;>rfl
noncomputable def gU:L Str:=["BadName","Known","NoName","Many","Whole","SamePoet","NoKind","Stuck","Turned","NoPlace","Broken","Stranded"]
noncomputable def mk(w:Str):=if w ="" then[]else gU.map λx=>decide (w=x)
noncomputable def ze:Y Xp->D
 |none=>.non
 |S p=>Z7 p
noncomputable def AZ(C:Addr):L Hd:=[#[["Broken"],["BadRules","NoKind","TooLong","BadName","Known","NoName","Many","Whole","SamePoet","Stuck","Turned","NoPlace","NothingLeft","Stranded"],6,(j0 (uW 6 3 (zE C) "Broken") (jg 4 (jw [(B,(d1 (g6 qL "place") (dV 6))),(B,(d1 (g6 qL "word") (dV 6)))])))],#[["Stranded"],["BadRules","NoKind","TooLong","BadName","Known","NoName","Many","Whole","SamePoet","Stuck","Turned","NoPlace","NothingLeft","Broken"],6,(j0 (uW 6 3 (zE C) "Stranded") (jg 4 (d1 (g6 qL "name") (dV 6))))],#[["BadRules","NoKind","TooLong","BadName","Known","NoName","Many","Whole","SamePoet","Stuck","Turned","NoPlace","NothingLeft","Broken","Stranded"],[],6,(j0 (jg 3 (dL (ju [(B,(d1 (yj zA "BadName") (dV 6))),(B,(d1 (yj zA "Known") (dV 6))),(B,(d1 (yj zA "NoName") (dV 6))),(B,(d1 (yj zA "Many") (dV 6)))])))
 (j0 (jg 3 (dL (yx JN (dV 3) (dL (ju [(B,(d1 (yj zA "Whole") (dV 6))),(B,(d1 (yj zA "SamePoet") (dV 6))),(B,(d1 (yj zA "NoKind") (dV 6))),(B,(d1 (yj zA "Stuck") (dV 6)))])))))
 (jg 3 (dL (yx JN (dV 3) (dL (ju [(B,(d1 (yj zA "Turned") (dV 6))),(B,(d1 (yj zA "NoPlace") (dV 6))),(B,(dK (.bl G))),(B,(dK (.bl G)))])))))))]]
noncomputable def Yx:L Str:=["BadName","Known","NoName","Many","Whole","SamePoet","NoKind","Stuck"]
def A_(C b c a w)(h:w∈Yx):qc (AZ C) (w,[]) [b,c,a,.cl (.lst []),.cl .non,.cl .non,.un]=S (.nx [b,c,a,.cl (.lst ((mk w).map .bl)),.cl .non,.cl .non,.un]):=by
 simp only[Yx,List.mem_cons,List.not_mem_nil,or_false]at h;rcases h with rfl|rfl|rfl|rfl|rfl|rfl|rfl|rfl<;>kernel_rfl
def b0(C a c b n w):qc (AZ C) ("Broken",[("word",.str w),("place",.int n)]) [a,c,b,.cl (.lst []),.cl .non,.cl .non,.un]=S (.nx [a,c,b,.cl (.lst ((mk "Broken").map .bl)),.cl (.tup [.int n,.str w]),.cl .non,.un]):=by kernel_rfl
noncomputable def Kd(p:Xp):=(p.2=[]/\p.1∈Yx)\/∃n w,p=(("Broken",[("word",V.str w),("place",V.int n)]):Xp)
def wN{a p}(h:(a.length:Int)<=b.size)(e:YS b a=S p):Kd p:=by
 have i:("NoKind" : Str)∈Yx:=by decide
 have g:("Stuck" : Str)∈Yx:=by decide
 unfold YS Yp at e;rw[if_neg (show¬b.size<a.length by lia)]at e;by_cases c:Z9 b a=G
 ·rw[if_pos c]at e;obtain rfl:=Zj e;exact .inl #[rfl,i]
 ·rw[if_neg c]at e;cases f:jK b _ a with
  |mk s o=>
  rw[f]at e;cases o with
  |some w=>obtain rfl:=Zj e;exact .inr #[_,_,rfl]
  |none=>
   cases d:eR b a with
   |true=>rw[d]at e;exact Zn e
   |false=>rw[d]at e;obtain rfl:=Zj e;exact .inl #[rfl,g]
def wO(e:JO d n=S p):Kd p:=by
 have b:("BadName" : Str)∈Yx:=by decide
 have a:("Known" : Str)∈Yx:=by decide
 have c:("Many" : Str)∈Yx:=by decide
 rcases Um d n with h|h|h|h<;>rw[h]at e<;>cases e
 ·exact .inl #[rfl,b]
 ·exact .inl #[rfl,a]
 ·exact .inl #[rfl,c]
def gV{ks ss dd p}(h:OkB b)(e:jC b ks ss dd=S p):Kd p:=by
 have d:("NoName" : Str)∈Yx:=by decide
 have l:("BadName" : Str)∈Yx:=by decide
 have i:("Whole" : Str)∈Yx:=by decide
 have j:("SamePoet" : Str)∈Yx:=by decide
 have o:=h.s1;cases dd with
 |beg n=>
  unfold jC at e;dsimp only at e;cases a:JO ks n with
  |some q=>rw[a]at e;obtain rfl:=Zj e;exact wO a
  |none=>rw[a]at e;exact wN (by simp;lia) e
 |off n q k=>
  unfold jC at e;dsimp only at e;cases a:Yw ks ss n with
  |none=>rw[a]at e;obtain rfl:=Zj e;exact .inl #[rfl,d]
  |some s=>
   rw[a]at e;have e:u7 b s.1 q k=S p:=e;unfold u7 at e;by_cases c:UF q=G
   ·rw[if_pos c]at e;obtain rfl:=Zj e;exact .inl #[rfl,l]
   ·rw[if_neg c]at e;by_cases g:b.size<=(s.1.length)
    ·rw[if_pos g]at e;obtain rfl:=Zj e;exact .inl #[rfl,i]
    ·rw[if_neg g]at e;by_cases f:VP s.1 q=B
     ·rw[if_pos f]at e;obtain rfl:=Zj e;exact .inl #[rfl,j]
     ·rw[if_neg f]at e;exact wN (by simp[Js];lia) e
 |frk n m=>
  unfold jC at e;dsimp only at e;cases a:Yw ks ss n with
  |none=>rw[a]at e;obtain rfl:=Zj e;exact .inl #[rfl,d]
  |some s=>rw[a]at e;exact wO e
def cj(C b ks ss f h c dd)(k:OkB b)(r:b.size<=6)(I:Ivs b ks ss)(v:dd.gu)(o:f.length<sizeLine)(s:ks.length<sizeLine):VH (gK C) (jQ C b ks (ss.map jB) f h) [c,dD dd]=S (.ok (.tup [.non,.lst ((mk (Yk (jC b ks ss dd))).map .bl),ze (jC b ks ss dd)]),(Z8 C b ks ss f h dd).2):=by
 have A:=Iw C b ks ss f h c dd k r I v o s;unfold Z8 at A⊢;generalize jQ C b ks _ f h=g at *;have a:Z6 C [.lo B g,.cl c,.cl (dD dd),.un,.un,.un,.un]=S (.rh (.tup [.non,.lst ((mk (Yk (jC b ks ss dd))).map .bl),ze (jC b ks ss dd)]) [.lo B (match jC b ks ss dd with
   |S p=>(Rx.xc p,g)
   |none=>(Rx.ok .non,jQ C b (u8 ks dd) ((yZ ks ss dd).map jB) (f++[xD C b ks ss dd]) [])).2,.cl c,.cl (dD dd),.cl (.lst ((mk (Yk (jC b ks ss dd))).map .bl)),.cl (ze (jC b ks ss dd)),.cl .non,.un]):=by
  refine sq rfl (sq rfl (sq rfl ?_));change j0 (VI _ _ (AZ C)) _ _=_;cases i:jC b ks ss dd with
  |none=>
   rw[i]at A;refine sq (a:=[.lo B (jQ C b (u8 ks dd) ((yZ ks ss dd).map jB) (f++[xD C b ks ss dd]) []),.cl c,.cl (dD dd),.cl (.lst []),.cl .non,.cl .non,.un]) ?_ ?_
   ·unfold VI;simp[A]
   ·have e:mk (Yk J)=[]:=by kernel_rfl
    rfl
  |some p=>
   rw[i]at A;have T:VI (y9 0 (Z5 C) [(tC 1),(tC 2)]) (zP (y9 0 (VH (Z5 C)) [(tC 1),(tC 2)]) λd m=>S (.nx (m.set 5 (.cl d)))) (AZ C) [.lo B g,.cl c,.cl (dD dd),.cl (.lst []),.cl .non,.cl .non,.un]=qc (AZ C) p [.lo B g,.cl c,.cl (dD dd),.cl (.lst []),.cl .non,.cl .non,.un]:=by
    unfold VI;simp[A]
   rcases gV k i with⟨l,j⟩|⟨n,w,rfl⟩
   ·obtain⟨w,x⟩:=p;subst l;have t:¬w ="Broken":= λz=>by
     rw[z]at j;revert j;decide
    have e:ze (S (w,[]))=.non:=by exact if_neg t
    rw[e];exact sq (T.trans (A_ C _ _ _ w j)) rfl
   ·have e:ze (S (("Broken",[("word",.str w),("place",.int n)])))=.tup [.int n,.str w]:=by
     have u:(("place" : Str)=="word")=G:=by decide
     simp[ze,Z7,List.lookup,u]
    exact sq (T.trans (b0 C _ _ _ n w)) rfl
 show(((Z6 C [.lo B g,.cl c,.cl (dD dd),.un,.un,.un,.un]).bind _).bind _)=_;rw[a];rfl
def ck(C w):YL C [.str w]=S (.lst ((mk w).map .bl)):=by
 have c:=Jn (g:=gN 0) (dc:=jN) (de:=d2 jD (dV 0) (dV 1)) (k:=[.un,.bo (.str w)]) D.str (λx=>D.bl _) (xs:=gU) λx _=>#[_,rfl,rfl,rfl]
 have z:(12)<=sizeLine:=by decide
 unfold mk;by_cases h:w =""
 ·simp only[YL,YK];simp[h]
 ·rw[if_neg h];have b:JA (gN 0) jN (d2 jD (dV 0) (dV 1)) (gU.map D.str) [.un,.bo (.str w)]=S ((gU.map λx=>decide (w=x)).map D.bl):=by
   rw[c,List.map_map];congr 1;exact List.map_congr_left λx _=>by simp[eq_comm]
  have a:YK C [.bo (.str w),.un]=S (.rf (.lst ((gU.map λx=>decide (w=x)).map .bl))):=by
   refine sq (a:=[.bo _,.cl (.lst ((gU.take 10).map D.str))]) rfl (sq (jF (by simp[h]) rfl) ?_);have d:Ji (dL (yx JN (dV 1) (dL (ju [(B,(dK (.str "Broken"))),(B,(dK (.str "Stranded")))])))) [.bo (.str w),.cl (.lst ((gU.take 10).map D.str))]=S (gU.map D.str):=by kernel_rfl
   rw[yK,yc,d,uEa,show uP 1 [0] _=[.un,.bo _] from rfl,b,uEa,if_pos (by exact z)];rfl
  show(YK C [.bo _,.un]).bind _=_;rw[a];rfl
def wP(h:JO ks n=J):(Jt n ks).isSome=G/\ks.length<8:=by
 unfold JO at h;by_cases a:UF n=G
 ·simp_all
 ·rw[if_neg a]at h;by_cases b:(Jt n ks).isSome=B
  ·simp_all
  ·simp_all
def w5{b:Type}{ks a}(h:ks.length=a.length)(k)(v:b):(J5 ks k).length=(jU ks a k v).length:=by
 unfold J5 jU;cases e:Jt k ks with
 |none=>simp[h]
 |some j=>simp[h]
def xF(h:∀k∈ks,Gu k)(a:Gu n):∀k∈J5 ks n,Gu k:=by
 unfold J5;split
 ·exact h
 ·exact Yb h a
def kq{c:Type}{P:c->Prop}{ks b n v}(h:∀x∈b,P x)(a:P v):∀x∈jU ks b n v,P x:=by
 unfold jU;cases Jt n ks with
 |none=>exact Yb h a
 |some j=>
  intro x d;rcases List.mem_or_eq_of_mem_set d with z|z
  ·exact h x z
  ·rw[z];exact a
def Qk:(J5 ks n).length<=ks.length+1:=by
 unfold J5;split<;>simp
def b7{a}(h:YS b a=J):RowG b a:=by
 unfold YS at h;cases c:Yp b a with
 |some p=>rw[c]at h;exact Zs h
 |none=>exact km.mp c
def Ivs.next{ks ss dd}(o:OkB b)(I:Ivs b ks ss)(f:dd.gu)(c:jC b ks ss dd=J):Ivs b (u8 ks dd) (yZ ks ss dd):=by
 cases dd with
 |beg n=>
  have j:JO ks n=J:=by
   unfold jC at c;dsimp only at c;cases d:JO ks n with
   |none=>rfl
   |some p=>rw[d]at c;exact Zs c
  have i:=(wP j).2;have l:=Qk (ks:=ks) (n:=n);exact#[w5 I.len _ _,by show(J5 ks n).length<=8;lia,xF I.gu f,kq I.ok (xB o)]
 |off n p k=>
  unfold jC at c;dsimp only at c;cases d:Yw ks ss n with
  |none=>rw[d]at c;exact Zs c
  |some s=>
   rw[d]at c;have c:u7 b s.1 p k=J:=c;have e:yZ ks ss (.off n p k)=jU ks ss n (s.1++[(p,k)],s.2):=by simp[yZ,d]
   have a:RowG b (Js (s.1++[(p,k)])):=by
    unfold u7 at c;split at c
    ·exact Zs c
    ·split at c
     ·exact Zs c
     ·split at c
      ·exact Zs c
      ·have:=b7 c;simpa[Js]using this
   have r:(Jt n ks).isSome=B:=by rw[<-Vw I.len,d];rfl
   have g:J5 ks n=ks:=by simp_all
   have h:=w5 I.len n ((s.1++[(p,k)],s.2));rw[e];exact#[h,by show(J5 ks n).length<=8;rw[g];exact I.k8,by show∀k∈J5 ks n,Gu k;rw[g];exact I.gu,kq I.ok a]
 |frk n m=>
  unfold jC at c;dsimp only at c;cases d:Yw ks ss n with
  |none=>rw[d]at c;exact Zs c
  |some s=>
   rw[d]at c;have i:=(wP c).2;have l:=Qk (ks:=ks) (n:=m);have e:yZ ks ss (.frk n m)=jU ks ss m s:=by simp[yZ,d]
   rw[e];exact#[w5 I.len _ _,by show(J5 ks m).length<=8;lia,xF I.gu f.2,kq I.ok (I.ok s (vO d))]
def b8(C:Addr)(b:Bk)(ks:L Str)(ss:L Sh)(dd:Dd)(r:OkB b)(I:Ivs b ks ss)(e:jC b ks ss dd=J):vf C [mD ks ss,dD dd]=S (mD (u8 ks dd) (yZ ks ss dd)):=by
 have h:ks.length<sizeLine:=JK (by have:=I.k8;lia);refine fE ?_;unfold vd;have j:∀d:D,yB (dC 0) (gT 2 (gC (gN 2) (gC (gN 3) gZ))) [.cl (mD ks ss),.bo d,.un,.un,.un,.un]=S _:=λd=>rfl;have l:∀d:D,zH 3 (jS uk [(fV 3)]) [.cl (mD ks ss),.bo d,.cl (.int 0),.cl (.dk ks (ss.map J2)),.un,.un]=S _:=λd=>rfl;refine sq (j _) (sq (l _) ?_);cases dd with
 |beg n=>
  have f:=VQ J2 ks ss n (([],0):Sh);refine sq (jF rfl rfl) (J_ (Jm (by simp) (sq (a:=[.cl (mD ks ss),.bo (dD (.beg n)),.cl (.int 0),.ow J (.dk (J5 ks n) (jU ks (ss.map J2) n (J2 ([],0)))),.un,.un]) (by simp[h,J2]) ?_)));rw[f];rfl
 |off n p k=>
  unfold jC at e;dsimp only at e;cases c:Yw ks ss n with
  |none=>rw[c]at e;exact Zs e
  |some s=>
   have i:yZ ks ss (.off n p k)=jU ks ss n (s.1++[(p,k)],s.2):=by simp[yZ,c]
   have f:=VQ J2 ks ss n ((s.1++[(p,k)],s.2):Sh);have g:=Go (ks:=ks) (ss:=ss) (n:=n) J2;rw[c]at g;have g:z9 (.dk ks (ss.map J2)) (.str n)=S (.tup [.lst (s.1.map jV),.int s.2]):=g;have a:=I.ok s (vO c);have t:(Js s.1).length=s.1.length:=by simp[Js]
   have v:=a.ln;have u:=r.s2;have o:=a.zz r;rw[i];refine sq (jF rfl rfl) (sq (jF rfl rfl) (sq (a:=[.cl (mD ks ss),.bo (dD (.off n p k)),.cl (.int 0),.ow J (.dk ks (ss.map J2)),.cl (.lst (s.1.map jV)),.cl (.int s.2)]) (Bn g rfl) ?_));refine sq (a:=[.cl (mD ks ss),.bo (dD (.off n p k)),.cl (.int 0),.ow J (.dk (J5 ks n) (jU ks (ss.map J2) n (J2 (s.1++[(p,k)],s.2)))),.cl (.lst (s.1.map jV)),.cl (.int s.2)]) (Jm (by simp) (by simp[h,J2,o,jV])) ?_;rw[f];refine sq (jF rfl rfl) (sq (jF rfl rfl) (sq (jF rfl rfl) (sq (jF rfl rfl) (sq (jF rfl rfl) rfl))))
 |frk n m=>
  unfold jC at e;dsimp only at e;cases c:Yw ks ss n with
  |none=>rw[c]at e;exact Zs e
  |some s=>
   have i:yZ ks ss (.frk n m)=jU ks ss m s:=by simp[yZ,c]
   have f:=VQ J2 ks ss m s;have g:=Go (ks:=ks) (ss:=ss) (n:=n) J2;rw[c]at g;have g:z9 (.dk ks (ss.map J2)) (.str n)=S (.tup [.lst (s.1.map jV),.int s.2]):=g;rw[i];refine sq (jF rfl rfl) (sq (jF rfl rfl) (sq (a:=[.cl (mD ks ss),.bo (dD (.frk n m)),.cl (.int 0),.ow J (.dk ks (ss.map J2)),.cl (.lst (s.1.map jV)),.cl (.int s.2)]) (Bn g rfl) ?_));refine sq (jF rfl rfl) (sq (jF rfl rfl) (sq (jF rfl rfl) (sq (jF rfl rfl) ?_)));refine sq (a:=[.cl (mD ks ss),.bo (dD (.frk n m)),.cl (.int 0),.ow J (.dk (J5 ks m) (jU ks (ss.map J2) m (J2 s))),.cl (.lst (s.1.map jV)),.cl (.int s.2)]) (Jm (by simp) (by simp[h,J2])) ?_;rw[f];exact sq (jF rfl rfl) rfl
theorem wQ:∀l:L Str,ya (l.map D.str)=0
 |[]=>rfl
 |x::l=>by rw[vWa,ya,wQ l];rfl
theorem wR:∀l:L Str,KY (l.map D.str)
 |[]=>trivial
 |x::l=>#[trivial,wR l]
theorem K9:∀l:L _,KY (l.map jV)
 |[]=>trivial
 |x::l=>#[#[by show 2<=sizeLine;decide,trivial,trivial,trivial],K9 l]
theorem Ka:∀l:L T3,YB (l.map t3) (l.map t3)=S B
 |[]=>rfl
 |x::l=>by
  rw[vWa,YB,Ka l];have e:YA (t3 x) (t3 x)=S B:=by
   obtain⟨a,b,c⟩:=x;simp[t3,YA,YB]
  rw[e];rfl
theorem gW:∀l:L T3,ya (l.map t3)<=1
 |[]=>by simp 
 |x::l=>by
  have d:=gW l;obtain⟨a,b,c⟩:=x;have e:dep (t3 (a,b,c))<=1:=by simp[t3]
  rw[vWa,ya];omega
noncomputable def YU(b:Bk):L D:=[.int b.size,.lst (b.kinds.map t3),.lst (b.shuns.map t3),.lst (b.bars.map t3),.lst (b.dues.map t3)]
def E9(b):Je (.lst (YU b)) (.lst (YU b))=S (.bl G):=by
 have c:=gW b.kinds;have g:=gW b.shuns;have d:=gW b.bars;have f:=gW b.dues;have e:dep (.lst (YU b))<=20:=by simp only[YU,Zd,Kr,Fx,MC,MD,ME,MF,MG];omega
 have a:Ze (D.lst (YU b)) (D.lst (YU b))=B:=rfl;unfold Je v_;rw[if_pos a,if_pos #[a,e],YA,if_pos rfl];simp only[YU,YB,YA,Ka];simp
def ad(C b):Yh C [jm C b]=S (.lst (b.kinds.map t3))/\Yi C [jm C b]=S (.lst (b.shuns.map t3))/\YM C [jm C b]=S (.lst (b.bars.map t3))/\YN C [jm C b]=S (.lst (b.dues.map t3)):=by
 refine#[?_,?_,?_,?_]
 ·simp[Yh,vh]
 ·simp[Yi,vi]
 ·simp[YM,Vp]
 ·simp[YN,Vq]
def VR{m F}(h:m∉(["size","kind_rows","shun_rows","bar_rows","due_rows"]:L Str)):Yd C m F (jm C b)=F [jm C b]:=by
 exact if_pos #[rfl,h]
def Ea(C b l m i g f o a k e):jg 6 (dL (ju [(B,(d1 (jR C "size") (dV 5))),(B,(dL (Gw (Yd C "kinds" (Yh C)) (dV 5)))),(B,(dL (Gw (Yd C "shuns" (Yi C)) (dV 5)))),(B,(dL (Gw (Yd C "bars" (YM C)) (dV 5)))),(B,(dL (Gw (Yd C "dues" (YN C)) (dV 5))))])) [l,m,i,g,f,.cl (jm C b),o,a,k,e]=S (.nx [l,m,i,g,f,.cl (jm C b),.cl (.lst (YU b)),a,k,e]):=by
 obtain⟨r,p,s,n⟩:=ad C b;have j:=VR (C:=C) (b:=b) (m:="kinds") (F:=Yh C) (by decide);have d:=VR (C:=C) (b:=b) (m:="shuns") (F:=Yi C) (by decide);have h:=VR (C:=C) (b:=b) (m:="bars") (F:=YM C) (by decide);have c:=VR (C:=C) (b:=b) (m:="dues") (F:=YN C) (by decide);rw[r]at j;rw[p]at d;rw[s]at h;rw[n]at c;simp[j,d,h,c,YU]
@[simp] theorem ou(s):j3 (jB s) (.int 0)=S (.tup (s.1.map jV)):=rfl
@[simp] theorem oy(s):j3 (jB s) (.int 1)=S (.int s.2):=rfl
def Eb(h:k∈ks):(Jt k ks).isSome=B:=by
 induction ks with
 |nil=>cases h
 |cons a l b=>
  rw[Jt];by_cases e:a=k
  ·rw[if_pos e];rfl
  ·rcases uTa h with z|z
   ·simp_all
   ·simp_all
def Ql(C:Addr)(b:Bk)(l:L D)(ks:L Str)(ss:L Sh)(dn un:L D)(M:OkB b)(I:Ivs b ks ss):Vs C [(jQ C b ks (ss.map jB) dn un).toD,.lst (jh b::l),mD ks ss]=S (.bl B):=by
 have f:=ZB C b ks (ss.map jB) dn un;have H:=λn=>ko C b ks ss dn un n I.len;have N:=λn=>YT (C:=C) (b:=b) (ks:=ks) (vs:=ss.map jB) (dn:=dn) (un:=un) (m:="sheet") (F:=Jf C) (ds:=[.str n]) (by decide);have R:=λn=>YT (C:=C) (b:=b) (ks:=ks) (vs:=ss.map jB) (dn:=dn) (un:=un) (m:="verses") (F:=zc C) (ds:=[.str n]) (by decide);have x2:=λn=>YT (C:=C) (b:=b) (ks:=ks) (vs:=ss.map jB) (dn:=dn) (un:=un) (m:="turned") (F:=zd C) (ds:=[.str n]) (by decide);have F:=YT (C:=C) (b:=b) (ks:=ks) (vs:=ss.map jB) (dn:=dn) (un:=un) (m:="rules") (F:=zF C) (ds:=[]) (by decide);have w:=YT (C:=C) (b:=b) (ks:=ks) (vs:=ss.map jB) (dn:=dn) (un:=un) (m:="names") (F:=Yj C) (ds:=[]) (by decide);have k8:=I.k8;generalize(jQ C b ks (ss.map jB) dn un).toD=j at *;have X:ks.length<=sizeLine:=Ym (wSa I.k8 (by decide));have p:atI (jh b::l) 0=S (jh b):=ut (vEa 0) rfl;have Q:zF C [j]=S (.ok (jm C b)):=by simp[zF,vg,f]
 have UQ:Yj C [j]=S (.ok (.lst (ks.map .str))):=by simp[Yj,vj,f,YC]
 rw[Q]at F;rw[UQ]at w;have r1:∀n s,Yw ks ss n=S s->zc C [j,.str n]=S (.ok (.lst (s.1.map jV))):=λn s h=>by
  have y:=N n;rw[H n,h]at y;have e:=I.ok s (vO h);have ll:(Js s.1).length=s.1.length:=by simp[Js]
  have gl:=e.ln;have s2:=M.s2;have z:=Nat.le_of_succ_le (e.zz M);simp[zc,Zz,y,yy,z]
 have T:∀n s,Yw ks ss n=S s->zd C [j,.str n]=S (.ok (.int s.2)):=λn s h=>by
  have y:=N n;rw[H n,h]at y;simp[zd,ZA,y]
 have W:jL C 6 [.lst (ks.map .str),.lst (ks.map .str)]=S (.bl B):=vM C _ 6 #[by rw[vYa];exact X,wR ks] (by rw[dep,wQ];decide);obtain⟨Z,a,r,u,t,rfl⟩:=YE (g:=uG) (s:=uH C) (items:=ks.map D.str) (λi m=>∃r u t:Sl,m=[.bo j,.bo (.lst (jh b::l)),.cl (mD ks ss),.cl (.int 0),.cl (.dk ks (ss.map J2)),.cl (jm C b),.cl (.lst (YU b)),r,u,t]) (by
  rintro i d m hi ⟨r,u,t,rfl⟩;obtain⟨k,hk,rfl⟩:∃k,k∈ks/\d=.str k:=by
   have:=wYa hi;obtain⟨k,h1,P⟩:=uVa this;exact#[k,h1,P.symm]
  have v:=Eb hk;rw[<-Vw (ss:=ss) I.len]at v;cases o:Yw ks ss k with
  |none=>rw[o]at v;exact Zf v
  |some s=>
   have e:=I.ok s (vO o);have ll:(Js s.1).length=s.1.length:=by simp[Js]
   have gl:=e.ln;have s2:=M.s2;have z:=Nat.le_of_succ_le (e.zz M);have g:=Go (ks:=ks) (ss:=ss) (n:=k) J2;rw[o]at g;have g:z9 (.dk ks (ss.map J2)) (.str k)=S (.tup [.lst (s.1.map jV),.int s.2]):=g;have sl:jL C 6 [.lst (s.1.map jV),.lst (s.1.map jV)]=S (.bl B):=vM C _ 6 #[by rw[vYa];exact z,K9 _] (by rw[dep];have:=Ul s.1;omega);have O:jL C 6 [.int s.2,.int s.2]=S (.bl B):=vM C _ 6 trivial (by show 0<6;decide);have A:=R k;have x:=x2 k;rw[r1 k s o]at A;rw[T k s o]at x;refine#[_,[.bo j,.bo (.lst (jh b::l)),.cl (mD ks ss),.cl (.int 0),.cl (.dk ks (ss.map J2)),.cl (jm C b),.cl (.lst (YU b)),.cl (.str k),.cl (.lst (s.1.map jV)),.cl (.int s.2)],rfl,?_,_,_,_,rfl];refine sq (Bn g rfl) (jF ?_ rfl);simp[A,x,sl,O]) (a:=[.bo j,.bo (.lst (jh b::l)),.cl (mD ks ss),.cl (.int 0),.cl (.dk ks (ss.map J2)),.cl (jm C b),.cl (.lst (YU b)),.un,.un,.un]) #[_,_,_,rfl]
 refine fE ?_;unfold Vr;refine sq rfl (sq (a:=[.bo j,.bo (.lst (jh b::l)),.cl (mD ks ss),.cl (.int 0),.cl (.dk ks (ss.map J2)),.cl (jm C b),.un,.un,.un,.un]) (by simp[F]) (sq (Ea C b _ _ _ _ _ _ _ _ _) ?_));have nb:=E9 b;have T1:je (d2 Je (dV 6) (dL (jS yy [(G,(d2 j3 (dV 1) (dV 3)))]))) [.bo j,.bo (.lst (jh b::l)),.cl (mD ks ss),.cl (.int 0),.cl (.dk ks (ss.map J2)),.cl (jm C b),.cl (.lst (YU b)),.un,.un,.un]=S G:=by
  have z5:(5:Nat)<=sizeLine:=by decide
  have tk:jh b=.tup (YU b):=rfl;have lb:(YU b).length=5:=rfl;have D1:dL (jS yy [(G,(d2 j3 (dV 1) (dV 3)))]) [.bo j,.bo (.lst (jh b::l)),.cl (mD ks ss),.cl (.int 0),.cl (.dk ks (ss.map J2)),.cl (jm C b),.cl (.lst (YU b)),.un,.un,.un]=S (.lst (YU b)):=by
   rw[tk]at p⊢;simp[p]
  rw[show∀c:DE,∀m:jr,m[6]?=S (.cl (.lst (YU b)))->je (d2 Je (dV 6) c) m=((c m).bind λy=>Je (.lst (YU b)) y).bind VB from λc m h=>by rw[je,d2,dV,h];rfl]
  rotate_left
  ·rfl
  rw[D1];show(Je (.lst (YU b)) (.lst (YU b))).bind VB=_;rw[nb];rfl
 have T2:Jj (j8 (jL C 6) [(G,(gf (JM CH "names" (Yj C) (dV 0) []))),(G,(dL (jS YC [(fV 4)])))]) [.bo j,.bo (.lst (jh b::l)),.cl (mD ks ss),.cl (.int 0),.cl (.dk ks (ss.map J2)),.cl (jm C b),.cl (.lst (YU b)),.un,.un,.un]=S B:=by
  simp[w,YC,W]
 refine sq (jF ?_ rfl) ?_
 ·rw[yA,T1,Jp,T2];rfl
 ·refine sq (a:=[.bo j,.bo (.lst (jh b::l)),.cl (mD ks ss),.cl (.int 0),.cl (.dk ks (ss.map J2)),.cl (jm C b),.cl (.lst (YU b)),r,u,t]) ?_ rfl;rw[yC];simp[YC,a]
theorem Uo:∀l:L _,ya (l.map D.str)=0
 |[]=>rfl
 |x::l=>by rw[vWa,ya,Uo l];rfl
def Ec(l:L _):Je (.lst (l.map D.str)) (.lst [])=S (.bl (!l.isEmpty)):=by
 have e:dep (.lst (l.map D.str))<=20:=by rw[Zd,Uo];decide
 have a:Ze (D.lst (l.map D.str)) (D.lst [])=B:=rfl;unfold Je v_;rw[if_pos a,if_pos #[a,e],YA];cases l<;>simp[YB]
def Ed(l:L _):jD (.lst (l.map D.str)) (.lst [])=S (.bl l.isEmpty):=by
 have e:dep (.lst (l.map D.str))<=20:=by rw[Zd,Uo];decide
 have a:Ze (D.lst (l.map D.str)) (D.lst [])=B:=rfl;unfold jD v_;rw[if_pos a,if_pos #[a,e],YA];cases l<;>simp[YB]
def Kb{a:L _}(h:∀t∈a,Gu t){i:Int}(c:0<=i)(d:i<a.length):∃t,Gu t/\atI (a.map D.str) i=S (.str t):=by
 have b:i.toNat<a.length:=by lia
 refine#[a.getD _ "",?_,Zk c d];rw[uBa,uCa b];exact h _ (List.getElem_mem b)
noncomputable def y_:L Str:=["offer","begin","offer","offer","offer","offer","offer","fork","offer","offer"]
def cn:ge (.str "offer begin offer offer offer offer offer fork offer offer") (.str " ")=S (.lst (y_.map .str)):=by kernel_rfl
def Ix(c:0<=i)(d:i<10):∃w:Str,(w ="offer"\/w ="begin"\/w ="fork")/\atI (y_.map D.str) i=S (.str w):=by
 have a:i.toNat<y_.length:=by show i.toNat<10;lia
 refine#[y_.getD _ "",?_,Zk c (by simp_all)];rw[uBa,uCa a];have:∀t∈y_,t ="offer"\/t ="begin"\/t ="fork":= by
  intro t b;simp only[y_,List.mem_cons,List.not_mem_nil,or_false]at b;rcases b with rfl|rfl|rfl|rfl|rfl|rfl|rfl|rfl|rfl|rfl<;>simp
 exact this _ (List.getElem_mem a)
def nc:d2 (zU G) (dV 11) (dL (ju [(B,(dK (.str "begin"))),(B,(dK (.str "take"))),(B,(dK (.str "turn"))),(B,(dK (.str "drop")))]))=λa=>(dV 11 a).bind λx=>zU G x (.lst [.str "begin",.str "take",.str "turn",.str "drop"]):=rfl
def LO:zU G (.str "begin") (.lst [.str "begin",.str "take",.str "turn",.str "drop"])=S (.bl B):=rfl
def LP:zU G (.str "offer") (.lst [.str "begin",.str "take",.str "turn",.str "drop"])=S (.bl G):=rfl
def LQ:zU G (.str "fork") (.lst [.str "begin",.str "take",.str "turn",.str "drop"])=S (.bl G):=rfl
def Ee(C:Addr)(b:Bk)(bs:L D)(ks:L Str)(ss:L Sh)(d:L Str)(f:L Int)(ok:OkB b)(I:Ivs b ks ss)(t11:d.length=11)(UQ:∀t∈d,Gu t)(h5:5<=f.length):∃dd:Dd,dd.gu/\u4 C [.lst (jh b::bs),mD ks ss,.lst (d.map .str),.lst (f.map .int),.lst (y_.map .str)]=S (dD dd):=by
 have W:atI (jh b::bs) 0=S (jh b):=ut (vEa 0) rfl;have j:∀k:Int,0<=k->k<5->∃v:Int,atI (f.map D.int) k=S (.int v):=λk h0 h1=>Vu h0 (by lia);obtain⟨n0,a0⟩:=j 0 (by decide) (by decide);obtain⟨R,T⟩:=j 1 (by decide) (by decide);obtain⟨x,F⟩:=j 2 (by decide) (by decide);obtain⟨n3,a3⟩:=j 3 (by decide) (by decide);obtain⟨n4,X⟩:=j 4 (by decide) (by decide);have k8:=I.k8;have zk:ks.length<=sizeLine:=Ym (wSa k8 (by decide));have kk1:=ok.k1;have kk2:=ok.k2;have zn:=ok.zk;have pn:0<b.kinds.length:=kk1;generalize hB:D.lst (jh b::bs)=c at *;have B0:j3 c (.int 0)=S (jh b):=by rw[<-hB];exact W
 have m1:=jX (a:=R) (b:=5) (by decide);obtain⟨O,g8,e8⟩:=Kb UQ (i:=R%5) m1.1 (by lia);obtain⟨i,y,S8⟩:∃i:Str,Gu i/\jc (J4 (je (d2 Je (dV 7) (dL (ju [])))) (je (d2 vV (d2 jt (d2 Y2 (d2 j3 (dV 3) (dN 1)) (dN 5)) (dN 5)) (dN 0)))) (jg 8 (d2 j3 (dV 7) (d2 jt (d2 Y2 (d2 j3 (dV 3) (dN 1)) (dN 25)) (j8 J9 [(fV 7)])))) ji [.bo c,.cl (mD ks ss),.bo (.lst (d.map .str)),.bo (.lst (f.map .int)),.bo (.lst (y_.map .str)),.cl (.int 0),.cl (.dk ks (ss.map J2)),.cl (.lst (ks.map .str)),.cl (.str O),.un,.un,.un,.un]=S (.nx [.bo c,.cl (mD ks ss),.bo (.lst (d.map .str)),.bo (.lst (f.map .int)),.bo (.lst (y_.map .str)),.cl (.int 0),.cl (.dk ks (ss.map J2)),.cl (.lst (ks.map .str)),.cl (.str i),.un,.un,.un,.un]):=by
  have n:je (d2 Je (dV 7) (dL (ju []))) [.bo c,.cl (mD ks ss),.bo (.lst (d.map .str)),.bo (.lst (f.map .int)),.bo (.lst (y_.map .str)),.cl (.int 0),.cl (.dk ks (ss.map J2)),.cl (.lst (ks.map .str)),.cl (.str O),.un,.un,.un,.un]=S (!ks.isEmpty):=by
   show(Je (.lst (ks.map .str)) (.lst [])).bind VB=_;rw[Ec];rfl
  cases A:ks.isEmpty with
  |true=>
   rw[A]at n;exact#[O,g8,jF (by rw[J4,n];rfl) rfl]
  |false=>
   rw[A]at n;by_cases h:0<R/5%5
   ·have pk:0<ks.length:=by
     cases ks with
     |nil=>exact Zt A
     |cons a l=>simp
    have N:(0:Int)<(ks.length:Int):=by lia
    have m:=jX (a:=R/25) N;obtain⟨t,gt,e⟩:=Kb I.gu m.1 m.2;refine#[t,gt,Jm (by rw[J4,n];simp[T,h]) ?_];simp[T,zk,pk,N,e]
   ·exact#[O,g8,jF (by rw[J4,n];simp[T,h]) rfl]
 obtain⟨o,Z⟩:∃o:Int,jc (je (d2 jD (d2 jt (d2 Y2 (d2 j3 (dV 3) (dN 3)) (dN 5)) (dN 9)) (dN 8))) (jg 10 (d2 j3 (dL (ju [(B,(ZZ (dN 1))),(tC 9),(B,(d2 WG (dN 10) (dN 20)))])) (d2 jt (d2 j3 (dV 3) (dN 4)) (dN 3)))) ji [.bo c,.cl (mD ks ss),.bo (.lst (d.map .str)),.bo (.lst (f.map .int)),.bo (.lst (y_.map .str)),.cl (.int 0),.cl (.dk ks (ss.map J2)),.cl (.lst (ks.map .str)),.cl (.str i),.cl (.int b.kinds.length),.cl (.int (n3%b.kinds.length)),.un,.un]=S (.nx [.bo c,.cl (mD ks ss),.bo (.lst (d.map .str)),.bo (.lst (f.map .int)),.bo (.lst (y_.map .str)),.cl (.int 0),.cl (.dk ks (ss.map J2)),.cl (.lst (ks.map .str)),.cl (.str i),.cl (.int b.kinds.length),.cl (.int o),.un,.un]):=by
  by_cases h:n3/5%9=8
  ·have m4:=jX (a:=n4) (b:=3) (by decide);obtain⟨v,e⟩:=Vu (ds:=[-1,(b.kinds.length:Int),100000000000000000000]) m4.1 (by simpa using m4.2);refine#[v,Jm (by simp[a3,h]) ?_];simp at e;simp[X,e]
  ·exact#[_,jF (by simp[a3,h]) rfl]
 obtain⟨M,H,e0⟩:=Ix (i:=n0%10) (jX (by decide)).1 (jX (by decide)).2;obtain⟨w,hw,S11⟩:∃w:Str,(w ="offer"\/w ="begin"\/w ="fork")/\jc (J4 (je (d2 jD (dV 7) (dL (ju [])))) (je (d2 vV (d2 jt (d2 j3 (dV 3) (dN 4)) (dN 4)) (dN 0)))) (jg 11 (dK (.str "begin"))) ji [.bo c,.cl (mD ks ss),.bo (.lst (d.map .str)),.bo (.lst (f.map .int)),.bo (.lst (y_.map .str)),.cl (.int 0),.cl (.dk ks (ss.map J2)),.cl (.lst (ks.map .str)),.cl (.str i),.cl (.int b.kinds.length),.cl (.int o),.cl (.str M),.un]=S (.nx [.bo c,.cl (mD ks ss),.bo (.lst (d.map .str)),.bo (.lst (f.map .int)),.bo (.lst (y_.map .str)),.cl (.int 0),.cl (.dk ks (ss.map J2)),.cl (.lst (ks.map .str)),.cl (.str i),.cl (.int b.kinds.length),.cl (.int o),.cl (.str w),.un]):=by
  have n:je (d2 jD (dV 7) (dL (ju []))) [.bo c,.cl (mD ks ss),.bo (.lst (d.map .str)),.bo (.lst (f.map .int)),.bo (.lst (y_.map .str)),.cl (.int 0),.cl (.dk ks (ss.map J2)),.cl (.lst (ks.map .str)),.cl (.str i),.cl (.int b.kinds.length),.cl (.int o),.cl (.str M),.un]=S ks.isEmpty:=by
   show(jD (.lst (ks.map .str)) (.lst [])).bind VB=_;rw[Ed];rfl
  cases A:ks.isEmpty with
  |false=>
   rw[A]at n;exact#[M,H,jF (by rw[J4,n];rfl) rfl]
  |true=>
   rw[A]at n;by_cases h:0<n4%4
   ·exact#["begin",by simp,Jm (by rw[J4,n];simp[X,h]) rfl]
   ·exact#[M,H,jF (by rw[J4,n];simp[X,h]) rfl]
 have z:∀dd:Dd,(zB C [.bo c,.cl (mD ks ss),.bo (.lst (d.map .str)),.bo (.lst (f.map .int)),.bo (.lst (y_.map .str)),.un,.un,.un,.un,.un,.un,.un,.un]=S (.rt (dD dd)))->u4 C [c,mD ks ss,.lst (d.map .str),.lst (f.map .int),.lst (y_.map .str)]=S (dD dd):=λdd h=>fE h;have z10:(10:Nat)<=sizeLine:=by decide
 have lw:(y_.map D.str).length=10:=rfl
 suffices h:∃dd:Dd,dd.gu/\zB C [.bo c,.cl (mD ks ss),.bo (.lst (d.map .str)),.bo (.lst (f.map .int)),.bo (.lst (y_.map .str)),.un,.un,.un,.un,.un,.un,.un,.un]=S (.rt (dD dd)) by
  obtain⟨dd,g,h⟩:=h;exact#[dd,g,z dd h]
 have P:∀(r:Y Rs) (s:DS.DS),s [.bo c,.cl (mD ks ss),.bo (.lst (d.map .str)),.bo (.lst (f.map .int)),.bo (.lst (y_.map .str)),.cl (.int 0),.cl (.dk ks (ss.map J2)),.cl (.lst (ks.map .str)),.cl (.str i),.cl (.int b.kinds.length),.cl (.int o),.cl (.str w),.un]=r->True:=λ_ _ _=>trivial;clear P;generalize hwd:y_.map D.str=u at *;unfold zB;rw[sq (a:=[.bo c,.cl (mD ks ss),.bo (.lst (d.map .str)),.bo (.lst (f.map .int)),.bo (.lst u),.cl (.int 0),.cl (.dk ks (ss.map J2)),.un,.un,.un,.un,.un,.un]) rfl rfl,
  sq (a:=[.bo c,.cl (mD ks ss),.bo (.lst (d.map .str)),.bo (.lst (f.map .int)),.bo (.lst u),.cl (.int 0),.cl (.dk ks (ss.map J2)),.cl (.lst (ks.map .str)),.un,.un,.un,.un,.un]) rfl rfl,
  sq (a:=[.bo c,.cl (mD ks ss),.bo (.lst (d.map .str)),.bo (.lst (f.map .int)),.bo (.lst u),.cl (.int 0),.cl (.dk ks (ss.map J2)),.cl (.lst (ks.map .str)),.cl (.str O),.un,.un,.un,.un]) (by simp[T,e8]) rfl,
  sq S8 rfl,
  sq (a:=[.bo c,.cl (mD ks ss),.bo (.lst (d.map .str)),.bo (.lst (f.map .int)),.bo (.lst u),.cl (.int 0),.cl (.dk ks (ss.map J2)),.cl (.lst (ks.map .str)),.cl (.str i),.cl (.int b.kinds.length),.un,.un,.un]) (by simp[B0,zn]) rfl,
  sq (a:=[.bo c,.cl (mD ks ss),.bo (.lst (d.map .str)),.bo (.lst (f.map .int)),.bo (.lst u),.cl (.int 0),.cl (.dk ks (ss.map J2)),.cl (.lst (ks.map .str)),.cl (.str i),.cl (.int b.kinds.length),.cl (.int (n3%b.kinds.length)),.un,.un]) (by simp[a3,pn]) rfl,
  sq Z rfl,
  sq (a:=[.bo c,.cl (mD ks ss),.bo (.lst (d.map .str)),.bo (.lst (f.map .int)),.bo (.lst u),.cl (.int 0),.cl (.dk ks (ss.map J2)),.cl (.lst (ks.map .str)),.cl (.str i),.cl (.int b.kinds.length),.cl (.int o),.cl (.str M),.un]) (by simp[a0,lw,z10,e0]) rfl,
  sq S11 rfl]
 rw[nc];rcases hw with rfl|rfl|rfl
 ·have m2:=jX (a:=x%13) (b:=4) (by decide);obtain⟨p,gp,ep⟩:=Kb UQ (i:=5+x%13%4) (by lia) (by lia);refine#[.off i p o,#[y,gp],?_];refine sq (jF (by show(zU G (.str "offer") (.lst [.str "begin",.str "take",.str "turn",.str "drop"])).bind VB=_;rw[LP];rfl) rfl) (J_ (Jm (by simp) ?_));simp[F,ep,dD]
 ·obtain⟨Q,g9,S9⟩:∃Q:Str,Gu Q/\jc (J4 (je (d2 jD (dV 11) (dK (.str "begin")))) (je (d2 vV (d2 jt (d2 j3 (dV 3) (dN 2)) (dN 3)) (dN 0)))) (jg 8 (d2 j3 (dV 2) (d2 jt (d2 Y2 (d2 j3 (dV 3) (dN 2)) (dN 3)) (dN 11)))) ji [.bo c,.cl (mD ks ss),.bo (.lst (d.map .str)),.bo (.lst (f.map .int)),.bo (.lst u),.cl (.int 0),.cl (.dk ks (ss.map J2)),.cl (.lst (ks.map .str)),.cl (.str i),.cl (.int b.kinds.length),.cl (.int o),.cl (.str "begin"),.un]=S (.nx [.bo c,.cl (mD ks ss),.bo (.lst (d.map .str)),.bo (.lst (f.map .int)),.bo (.lst u),.cl (.int 0),.cl (.dk ks (ss.map J2)),.cl (.lst (ks.map .str)),.cl (.str Q),.cl (.int b.kinds.length),.cl (.int o),.cl (.str "begin"),.un]):=by
   by_cases h:0<x%3
   ·have m:=jX (a:=x/3) (b:=11) (by decide);obtain⟨t,gt,e⟩:=Kb UQ (i:=x/3%11) m.1 (by lia);exact#[t,gt,Jm (by simp[F,h]) (by simp[F,e])]
   ·exact#[i,y,jF (by simp[F,h]) rfl]
  exact#[.beg Q,g9,J_ (Jm (by show(zU G (.str "begin") (.lst [.str "begin",.str "take",.str "turn",.str "drop"])).bind VB=_;rw[LO];rfl) (sq S9 (by simp[dD])))]
 ·have m2:=jX (a:=x) (b:=11) (by decide);obtain⟨p,gp,ep⟩:=Kb UQ (i:=x%11) m2.1 (by lia);refine#[.frk i p,#[y,gp],?_];refine sq (jF (by show(zU G (.str "fork") (.lst [.str "begin",.str "take",.str "turn",.str "drop"])).bind VB=_;rw[LQ];rfl) rfl) (sq (jF rfl rfl) (sq (jF rfl rfl) (J_ (Jm (by simp) ?_))));simp[F,ep,dD]
def LR(o):vD o=.tup [.str (Yk o),ze o]:=by cases o<;>rfl
def b9(C b):XO (jm C b)=S b:=by
 unfold jm XO AE;simp[GW]
def Ef(C b):CY (jm C b)=YG b:=by
 unfold CY;rw[b9]
def Eg:∀n,n<10->tN n<=349525:=by decide
def Eh(a:OkB b)(c:b.size<=9):(YG b).length<=sizeLine:=by
 unfold YG;rw[vYa];have e:=Qf a.k2 b.size.toNat
 have d:=Eg b.size.toNat (by lia)
 have:(349525)<=sizeLine:=by decide
 lia
def Iy(C b)(g:OkB b)(d:b.size<=9):Vb C (qg CH) [jm C b]=S (.ok .non,jQ C b [] [] [] []):=by
 have z:=Eh g d;have e:=Ef C b;have f:Jr "now" ["opened"]=J:=by decide
 have h:Jr "done" []=J:=rfl;have c:Jr "undone" ["done"]=J:=by decide
 have a:Y8 C [.lo B (qg CH),.cl (jm C b)]=S (.nx [.lo B (jQ C b [] [] [] []),.cl (jm C b)]):=by
  refine sq rfl (sq (a:=[.lo B #[CH,["opened","now"],[jm C b,Yq C b [] []],[],[]],.cl (jm C b)]) ?_ (sq (a:=[.lo B #[CH,["opened","now"],[jm C b,Yq C b [] []],["done"],[[]]],.cl (jm C b)]) ?_ ?_))
  ·simp[e,z,f,Yq]
  ·simp[d6,h]
  ·simp[d8,c,jQ]
 show(Y8 C [.lo B _,.cl _]).bind _=_;rw[a];rfl
theorem Kc:∀l:L Bool,YB (l.map D.bl) (l.map D.bl)=S B
 |[]=>rfl
 |x::l=>by rw[vWa,YB,Kc l,YA];simp
def cq(l:L Bool):Je (.lst (l.map D.bl)) (.lst (l.map D.bl))=S (.bl G):=by
 have e:dep (.lst (l.map D.bl))<=20:=by rw[Zd,Q8];decide
 have a:Ze (D.lst (l.map D.bl)) (D.lst (l.map D.bl))=B:=rfl;unfold Je v_;rw[if_pos a,if_pos #[a,e],YA,if_pos rfl,Kc];rfl
def ba(C){o}(h:∀p,o=S p->Kd p):jL C 6 [ze o,ze o]=S (.bl B):=by
 cases o with
 |none=>exact vM C _ 6 trivial (by decide)
 |some p=>
  rcases h p rfl with⟨f,a⟩|⟨n,w,rfl⟩
  ·obtain⟨w,c⟩:=p;have a:w∈Yx:=a;have d:¬w ="Broken":= λz=>by
    rw[z]at a;revert a;decide
   have e:ze (S (w,c))=.non:=by exact if_neg d
   rw[e];exact vM C _ 6 trivial (by decide)
  ·have e:ze (S (("Broken",[("word",.str w),("place",.int n)])))=.tup [.int n,.str w]:=by
    have b:(("place" : Str)=="word")=G:=by decide
    simp[ze,Z7,List.lookup,b]
   exact vM C _ 6 #[by show 2<=sizeLine;decide,trivial,trivial,trivial] (by show 1<6;decide)
def cr{ks ss dd}(f:OkB b):Yk (jC b ks ss dd) ="" ↔jC b ks ss dd=J:=by
 have a:∀w∈Yx,¬w ="":= by decide
 have c:¬("Broken" : Str) ="":= by decide
 cases d:jC b ks ss dd with
 |none=>simp[Yk]
 |some p=>
  rcases gV f d with⟨_,e⟩|⟨n,w,rfl⟩
  ·have:=a _ e;simp[Yk,this]
  ·simp[Yk,c]
def Ei(C:Addr)(b:Bk)(UQ:L D)(d:D)(F:D)(l:L Int)(x:L Str)(ks:L Str)(ss:L Sh)(R un:L D)(i:Nat)(x9 x10 UE Q P X o:Sl)(H:OkB b)(s6:b.size<=6)(I:Ivs b ks ss)(t11:x.length=11)(hg:∀t∈x,Gu t)(m280:l.length=280)(hi:i<26)(hl:R.length<=i):
  ∃(e:L Str) (f:L Sh) (g k:L D) (Z y10 y11 n s m r:Sl),KR C [.bo F,.cl (.lst (l.map .int)),.cl (.lst (jh b::UQ)),.cl d,.cl (.lst (x.map .str)),.lo G (jQ C b ks (ss.map jB) R un),.cl (mD ks ss),.cl (.lst (y_.map .str)),.cl (.int (i:Int)),x9,x10,UE,Q,P,X,o]=S (.nx [.bo F,.cl (.lst (l.map .int)),.cl (.lst (jh b::UQ)),.cl d,.cl (.lst (x.map .str)),.lo G (jQ C b e (f.map jB) g k),.cl (mD e f),.cl (.lst (y_.map .str)),.cl (.int (i:Int)),Z,y10,y11,n,s,m,r])/\Ivs b e f/\g.length<=i+1:=by
 have hk:ks.length<sizeLine:=JK (by have:=I.k8;lia);have hdn:R.length<sizeLine:=JK (by lia);have cut:jP (l.map D.int) (S (145+5*(i:Int))) J=(l.drop (145+5*i)).map D.int:=by
  rw[Jw,show(145+5*(i:Int))=((145+5*i:Nat):Int) by lia,k_]
 obtain⟨j,gd,ed⟩:=Ee C b UQ ks ss x (l.drop (145+5*i)) H I t11 hg (by grind);have er:=aa C b UQ ks ss j H s6 I gd;rw[LR]at er;have et:=cj C b ks ss R un d j H s6 I gd hdn hk;have em:=ck C (Yk (jC b ks ss j));have nm:=cq (mk (Yk (jC b ks ss j)));have st:=ba C (o:=jC b ks ss j) λp hp=>gV H hp;have u:∃v:Int,atI (l.map D.int) 142=S (.int v):=Vu (by decide) (by lia);have w:∃v:Int,atI (l.map D.int) 143=S (.int v):=Vu (by decide) (by lia);obtain⟨O,u⟩:=u;obtain⟨A,w⟩:=w;have pm:0<1+A%4:=by lia
 have c5:GJ 5 (i:Int)=B:=VN (by decide) (by decide);obtain⟨e,f,g,k,eH,I',hl',eB⟩:∃(e:L Str) (f:L Sh) (g k:L D),(Z8 C b ks ss R un j).2=jQ C b e (f.map jB) g k/\Ivs b e f/\g.length<=i+1/\∀Z n s m r:Sl,jc (je (d2 jD (dV 10) (dK (.str "")))) (jg 6 (j8 (vf C) [(tC 6),(fV 9)])) ji [.bo F,.cl (.lst (l.map .int)),.cl (.lst (jh b::UQ)),.cl d,.cl _,.lo G (jQ C b e (f.map jB) g k),.cl (mD ks ss),.cl _,.cl (.int (i:Int)),.cl (dD j),.cl (.str (Yk (jC b ks ss j))),Z,n,s,m,r]=S (.nx [.bo F,.cl _,.cl _,.cl d,.cl (.lst (x.map .str)),.lo G (jQ C b e (f.map jB) g k),.cl (mD e f),.cl (.lst (y_.map .str)),.cl (.int (i:Int)),.cl (dD j),.cl (.str (Yk (jC b ks ss j))),Z,n,s,m,r]):=by
  have we:=cr (ks:=ks) (ss:=ss) (dd:=j) H;unfold Z8;cases hv:jC b ks ss j with
  |some p=>
   have nw:¬Yk (S p) ="":= λz=>by lia
   exact#[ks,ss,R,un,rfl,I,by lia,λZ n s m r=>jF (by simp[nw]) rfl]
  |none=>
   have eb:=b8 C b ks ss j H I hv;refine#[u8 ks j,yZ ks ss j,_,[],rfl,I.next H gd hv,by simp;lia,λZ n s m r=>Jm rfl ?_];simp[eb]
 have er2:=Ql C b UQ e f g k H I';rw[eH]at et;generalize hM:mk _=M at *;generalize hT:ze (jC b ks ss j)=T at *;generalize hW:Yk (jC b ks ss j)=W at *;generalize hB:D.lst (jh b::UQ)=c at *;generalize hN:D.lst (y_.map .str)=N at *;generalize jQ C b ks (ss.map jB) R un=h0 at *;generalize hh:jQ C b e (f.map jB) g k=h1 at *;refine#[e,f,g,k,.cl (dD j),.cl (.str W),.cl T,.cl .non,.cl (.lst (M.map .bl)),.cl T,.cl (.bl (decide (((i:Int)+O)%(1+A%4)=0))),?_,I',hl'];rw[hh];unfold KR;refine sq (a:=[.bo F,.cl (.lst (l.map .int)),.cl c,.cl d,.cl (.lst (x.map .str)),.lo G h0,.cl (mD ks ss),.cl N,.cl (.int (i:Int)),.cl (dD j),x10,UE,Q,P,X,o]) (by simp[c5,cut,ed,-List.map_drop]) ?_;refine sq (a:=[.bo F,.cl (.lst (l.map .int)),.cl c,.cl d,.cl (.lst (x.map .str)),.lo G h0,.cl (mD ks ss),.cl N,.cl (.int (i:Int)),.cl (dD j),.cl (.str W),.cl T,Q,P,X,o]) (Bn er rfl) ?_;refine sq (a:=[.bo F,.cl (.lst (l.map .int)),.cl c,.cl d,.cl (.lst (x.map .str)),.lo G h1,.cl (mD ks ss),.cl N,.cl (.int (i:Int)),.cl (dD j),.cl (.str W),.cl T,.cl .non,.cl (.lst (M.map .bl)),.cl T,o]) ?_ ?_
 ·simp_all
 refine sq (jF ?_ rfl) (sq (eB _ _ _ _ _) ?_)
 ·have T1:je (d2 Je (dV 13) (dL (jS (YL C) [(fV 10)]))) [.bo F,.cl (.lst (l.map .int)),.cl c,.cl d,.cl (.lst (x.map .str)),.lo G h1,.cl (mD ks ss),.cl N,.cl (.int (i:Int)),.cl (dD j),.cl (.str W),.cl T,.cl .non,.cl (.lst (M.map .bl)),.cl T,o]=S G:=by
   have D1:dL (jS (YL C) [(fV 10)]) [.bo F,.cl (.lst (l.map .int)),.cl c,.cl d,.cl (.lst (x.map .str)),.lo G h1,.cl (mD ks ss),.cl N,.cl (.int (i:Int)),.cl (dD j),.cl (.str W),.cl T,.cl .non,.cl (.lst (M.map .bl)),.cl T,o]=S (.lst (M.map .bl)):=by simp[em]
   rw[show∀a:DE,∀ρ:jr,ρ[13]?=S (.cl (.lst (M.map .bl)))->je (d2 Je (dV 13) a) ρ=((a ρ).bind λy=>Je (.lst (M.map .bl)) y).bind VB from λa ρ h=>by rw[je,d2,dV,h];rfl]
   rotate_left
   ·rfl
   rw[D1];show(Je (.lst (M.map .bl)) (.lst (M.map .bl))).bind VB=_;rw[nm];rfl
  rw[yA,yA,T1];simp[st]
 ·refine sq (by simp[u,w,pm]) (jF ?_ rfl);cases decide (((i:Int)+O)%(1+A%4)=0)with
  |false=>simp
  |true=>simp[er2,-HS.toD]
def cu(C:Addr)(j:L Int)(Q:j.length<=63):XR C [.scr j]=S (.bl B):=by
 obtain⟨h,e1,hm⟩:=XV C j 280 Q (by decide) (by decide);have hm:h.length=280:=by lia
 obtain⟨c,g,f,e2,u,M,P,s0⟩:=B_ C h 6 (by lia) (by decide) (by decide);have d1:=KU C c u;have d2':=KU C g M;have d3:=KU C f P;have Z:jP (h.map D.int) (S 131) J=(h.drop 131).map D.int:=by rw[Jw,show(131:Int)=((131:Nat):Int) by rfl,k_]
 obtain⟨y,e4,R,hg⟩:=BZ C (h.drop 131) (by grind);have eI:=Iy C c u (by lia);obtain⟨w,X⟩:∃v:Int,atI (h.map D.int) 141=S (.int v):=Vu (by decide) (by lia);have sm:JI (1+w%26)=B:=YY (by lia) (by lia);have z3:(3:Nat)<=sizeLine:=by decide
 obtain⟨ρ',a,t,s,x,z,F,A,m,r,k,p,l,n,rfl,I,_⟩:=YE (g:=QZ) (items:=Jv 0 (1+w%26).toNat) (λi W=>∃(t:L Str) (s:L Sh) (x z:L D) (F A m r k p l n:Sl),W=[.bo (.scr j),.cl _,.cl _,.cl _,.cl _,.lo G (jQ C c t (s.map jB) x z),.cl (mD t s),.cl _,F,A,m,r,k,p,l,n]/\Ivs c t s/\x.length<=i) (by
  rintro i d W hd ⟨t,s,x,z,F,A,m,r,k,p,l,n,rfl,I,hl⟩;obtain⟨hi,rfl⟩:=Uk hd;obtain⟨UQ,H,O,T,x9,x10,UE,gO,kZ,x14,x15,e,I',N⟩:=Ei C c [jh g,jh f] _ (.scr j) h y t s x z i A m r k p l n u s0 I R hg hm (by lia) hl;exact#[_,_,rfl,e,UQ,H,O,T,_,_,_,_,_,_,_,_,rfl,I',N]) (a:=[.bo (.scr j),.cl _,.cl _,.cl (.lst [jm C c,jm C g,jm C f]),.cl _,.lo G _,.cl (mD [] []),.cl _,.un,.un,.un,.un,.un,.un,.un,.un]) #[[],[],[],[],_,_,_,_,_,_,_,_,rfl,#[rfl,by simp,by simp,by simp],by simp]
 have er:=Ql C c [jh g,jh f] t s x z u I;refine fE ?_;refine sq (a:=[.bo (.scr j),.cl (.lst (h.map .int)),.un,.un,.un,.un,.un,.un,.un,.un,.un,.un,.un,.un,.un,.un]) (by simp[e1]) ?_;refine sq (a:=[.bo (.scr j),.cl (.lst (h.map .int)),.cl (.lst [jh c,jh g,jh f]),.un,.un,.un,.un,.un,.un,.un,.un,.un,.un,.un,.un,.un]) (by simp[e2]) ?_;refine sq (a:=[.bo (.scr j),.cl (.lst (h.map .int)),.cl (.lst [jh c,jh g,jh f]),.cl (.lst [jm C c,jm C g,jm C f]),.un,.un,.un,.un,.un,.un,.un,.un,.un,.un,.un,.un]) ?_ ?_
 ·have cm:JA (gN 0) jN (dL (jS (Yn C) [(fV 0)])) [jh c,jh g,jh f] [.un]=S _:=Jn jh (λb=>jm C b) (xs:=[c,g,f]) λb hb=>by
   refine#[_,rfl,rfl,?_];have e:Yn C [jh b]=S (GU C b):=by grind
   show((Yn C [jh b]).bind λo=>S o.toD)=_;rw[e];rfl
  have it:Ji (dP 2) [.bo (.scr j),.cl (.lst (h.map .int)),.cl (.lst _),.un,.un,.un,.un,.un,.un,.un,.un,.un,.un,.un,.un,.un]=S [jh c,jh g,jh f]:=rfl;rw[jg,dL,yc,it,uEa,show uP 1 [] _=[.un] from rfl,cm,uEa,if_pos (show[jh c,jh g,jh f].length<=sizeLine from z3)];rfl
 refine sq (a:=[.bo (.scr j),.cl (.lst (h.map .int)),.cl (.lst [jh c,jh g,jh f]),.cl (.lst [jm C c,jm C g,jm C f]),.cl (.lst (y.map .str)),.un,.un,.un,.un,.un,.un,.un,.un,.un,.un,.un]) (by simp_all) ?_;refine sq (a:=[.bo (.scr j),.cl (.lst (h.map .int)),.cl (.lst [jh c,jh g,jh f]),.cl (.lst [jm C c,jm C g,jm C f]),.cl (.lst (y.map .str)),.lo G (jQ C c [] [] [] []),.un,.un,.un,.un,.un,.un,.un,.un,.un,.un]) ?_ ?_
 ·have a0:atI [jm C c,jm C g,jm C f] 0=S (jm C c):=rfl;have nl:Ky (([.bo (.scr j),.cl (.lst (h.map .int)),.cl (.lst [jh c,jh g,jh f]),.cl (.lst [jm C c,jm C g,jm C f]),.cl (.lst (y.map .str)),.un,.un,.un,.un,.un,.un,.un,.un,.un,.un,.un]:jr).set 5 .un)=B:=rfl;rw[gc,if_pos nl];simp[a0,eI]
 refine sq (a:=[.bo (.scr j),.cl _,.cl _,.cl _,.cl _,.lo G _,.cl (mD [] []),.un,.un,.un,.un,.un,.un,.un,.un,.un]) rfl ?_;refine sq (a:=[.bo (.scr j),.cl (.lst (h.map .int)),.cl (.lst [jh c,jh g,jh f]),.cl (.lst [jm C c,jm C g,jm C f]),.cl (.lst (y.map .str)),.lo G (jQ C c [] [] [] []),.cl (mD [] []),.cl (.lst (y_.map .str)),.un,.un,.un,.un,.un,.un,.un,.un]) (by simp[cn]) ?_;refine sq (a:=[.bo (.scr j),.cl (.lst (h.map .int)),.cl (.lst [jh c,jh g,jh f]),.cl (.lst [jm C c,jm C g,jm C f]),.cl (.lst (y.map .str)),.lo G (jQ C c t (s.map jB) x z),.cl (mD t s),.cl (.lst (y_.map .str)),F,A,m,r,k,p,l,n]) ?_ ?_
 ·simp_all
 ·simp[er,-HS.toD]
end M
namespace M
open PySem L2 DS CP
def k0:gM.chks 2 l0=u_ l0:=by kernel_rfl
def k1:V8 iV x1.de G=S (Y7 679):=by kernel_rfl
def k2:iW.chks 20 l2=u_ l2:=by kernel_rfl
def k3:yF iX x3.de=S x3.b:=by kernel_rfl
def k4:iY.chks 28 l4=u_ l4:=by kernel_rfl
def k5:iZ.chkB 54 l5=qJ l5:=by kernel_rfl
def k6:i_.chks 56 l6=u_ l6:=by kernel_rfl
def Nz(m):V8 (CZ.ag "can_be_ended" (.fE (100+2*m) x7.de.ps x7.de.ks (G1 679 m))) y7.de G=S (JV (G1 679 m)):=by kernel_rfl
def NA(m):V8 (CZ.ag "any_can_be_ended" (.fE (100+2*m+1) y7.de.ps y7.de.ks (G2 679 m))) x7.de G=S (Zy 679 (G2 679 m)):=by kernel_rfl
def k8:I0.chkB 118 l8=qJ l8:=by kernel_rfl
def k9:yF Ia x9.de=S x9.b:=by kernel_rfl
def NB:BB.chks 134 Q_=u_ Q_:=by kernel_rfl
def NC:qI BC UE.de=S UE.b:=by kernel_rfl
def ND:yF BD gO.de=S gO.b:=by kernel_rfl
def NE(m):V8 (BE.ag "_law_same" (.fE (138+m) kZ.de.ps kZ.de.ks (jL 679 m))) kZ.de G=S (ZO 679 (jL 679 m)):=by kernel_rfl
def NF:BF.chks 144 x0=u_ x0:=by kernel_rfl
def NG:BG.chkB 146 x8=qJ x8:=by kernel_rfl
def NH:BH.chks 148 xa=u_ xa:=by kernel_rfl
def NI:BI.chkB 156 xb=qJ xb:=by kernel_rfl
def NJ:BJ.chks 162 xg=u_ xg:=by kernel_rfl
def LS:V8 Ib Uj.de G=S (XQ 679):=by kernel_rfl
end M
set_option maxHeartbeats 0
noncomputable def PySem.W.Fast.tw14377598602795917498:PySem.Program:=PySem.Challenge.pw_moonseat_k30_verses_offered
theorem PySem.W.Fast.te14377598602795917498:PySem.Challenge.pw_moonseat_k30_verses_offered=PySem.W.Fast.tw14377598602795917498:=rfl
namespace Hd
noncomputable section
open PySem PySem.W PyProof.Rows L2 M CP
noncomputable abbrev pw:=PySem.Challenge.pw_moonseat_k30_verses_offered
theorem prm:((λ(_:Params->Obj)=>B) boot_o_0)=B:=by first|k_qdec|rfl
noncomputable def de(P:Params)(x:Str)(t:Nat)(v:Value):DictEntry:=#[PyData.keyHash P x,.str x t,v]
noncomputable def f3(a b:Int)(r:Nat)(l:L Value):L Value:=.int a 0::.int b 0::.ref r::l
noncomputable def fC(n q:Str)(a b c:Nat)(l x1 x2 x3 x4:Int)(r1:Nat)(z:Bool)(k:Int)(r2:Nat)(m:Int)(e:Nat):Data:=.fields #v[.str n a,.str q b,.str "/claim/cut.py" c,.int l 0,.int x1 0,.int x2 0,.int x3 0,.int x4 0,.ref r1,.bool z,.int k 0,.ref r2,.none,.none,.none,.none,.int m 0,.int l 0,.str "/claim/cut.py" e]
noncomputable def oU(l:L Value):Obj:=#[.type "tuple",J,.seq (List.toArray l) 0,#v[]]
noncomputable def oF(n q:Str)(s:Stmt)(m:Str)(t cd:Nat):Obj:=#[.type "function",J,.func (fnOf n q (defArgs s) (defBody s) (defScope s) .none .none .none (.str m t) J (.ref cd) .none),#v[]]
noncomputable def oT(n q:Str)(s:Stmt):Obj:=#[.none,J,.func {name:=n,qualname:=q,params:=defArgs s,body:=.stmts (defBody s),scope:=defScope s,globals:=0,closure:=[],defaults:=.none,kwdefaults:=.none,doc:=.none,pyModule:=.none,annotations:=J,code:=.none,closureTuple:=.none,builtins:=0},#v[]]
noncomputable def ins2:BT->Nat->Obj->BT
 |.nil,_,o=>.node o .nil .nil
 |.node v l r,i,o=>match Nat.beq i 0 with
  |true=>.node o l r
  |false=>match Nat.beq (i%2) 1 with
   |true=>.node v (ins2 l (i/2) o) r
   |false=>.node v l (ins2 r (i/2-1) o)
noncomputable def putAll(t:BT)(l:L (Nat×Obj)):BT:=l.foldl (λt q=>ins2 t q.1 q.2) t
noncomputable def env:Env:={scope:=pw.main.scope,locals:=mainNs,globals:=mainNs,cells:=[],code:=.ref 13,frame:=S 14}
noncomputable def bd:L Stmt:=behindTheImports pw
noncomputable def cE:Code:=.body bd env
noncomputable def oD(l:L DictEntry)(k:Nat):Obj:=#[.type "dict",J,.dict (List.toArray l) k,#v[]]
noncomputable def oX(c d:Nat)(m:Str)(t:Nat):Obj:=#[.type "frame",J,.plain,#v[S (.ref c),S (.ref 3),S (.ref d),J,S (.str m t),J,S (.ref 0)]]
noncomputable def oS(a:Nat):Obj:=#[.type "super",J,.fields #v[.ref a,.ref a,.ref a],#v[]]
noncomputable def oB(a:Nat):Obj:=#[.type "builtin_function_or_method",J,.fields #v[.builtin "object.__init_subclass__",.ref a],#v[]]
noncomputable def oP:Obj:=#[.type "builtin_function_or_method",J,.fields #v[.builtin "type.__prepare__",.type "type"],#v[]]
noncomputable def oE(d:Data):Obj:=#[.type "code",J,d,#v[]]
noncomputable def oK(n:Str)(b o:L Value)(s:Nat)(u:L Value)(f:Y Value)(t t':Nat)(w:String):Obj:=#[.type "type",J,.cls {name:=n,bases:=b,mro:=o,ns:=s,qualname:=n,hasDict:=B,slotNames:=[],subclasses:=u,abstract:=G,collection:=J,hasDel:=G},#v[f,J,S (.str n t),S (.str n t'),S (.builtin w),S (.bool B)]]
noncomputable def oW(t:Nat):L Str->L Value
 |[]=>[]
 |x::l=>.str x t::oW (t+1) l
noncomputable def oV(t:Nat)(l:L Str):Obj:=oU (oW t l)
noncomputable def o0:Obj:=oU []
noncomputable def o1:Obj:=#[.none,J,.fields #v[],#v[]]
noncomputable def nz:Nat->L Obj->L (Nat×Obj)
 |_,[]=>[]
 |n,o::l=>(n,o)::nz (n+1) l
noncomputable def vN(s:Stmt):L Str:=((defScope s).names.filter λy=>y.2==.local).map (·.1)
noncomputable def oC(n q:Str)(s:Stmt)(a r:Nat)(l:L Value)(m:Nat):Obj:=oE (.fields (List.toArray (.str n a::.str q (a+1)::.str "/claim/cut.py" (a+2)::.int s.pos.line 0::.int (defArgs s).args.length 0::.int 0 0::.int 0 0::.int 3 0::.ref r::.bool B::.int 181 0::.ref (r+1)::.none::List.append l [.int m 0,.int s.pos.line 0,.str "/claim/cut.py" (m+1)])))
noncomputable def fO(q:Str)(m:Str)(u:Nat)(s:Stmt)(v:Bool)(a t:Nat):L Obj:=match v with
 |true=>[o0,o1,oV (t+3) (vN s),o0,oT (sN s) q s,oC (sN s) q s t a [.ref (a+2),.ref (a+3),.ref (a+4)] (t+3+(vN s).length),oF (sN s) q s m u (a+5)]
 |false=>[o0,o1,oT (sN s) q s,oC (sN s) q s t a [.none,.none,.ref (a+2)] (t+3),oF (sN s) q s m u (a+3)]
noncomputable def cO(P:Params)(m:Str)(u:Nat)(s:Stmt)(a t:Nat):L Obj:=
 [oU [.ref 31],oP,oD [de P "__module__" (t+7) (.str m u),de P "__qualname__" (t+9) (.str (sN s) (t+8)),de P "__firstlineno__" (t+11) (.int s.pos.line (t+10)),de P "__static_attributes__" (t+12) (.ref (a+7))] 4,o0,o1,
  oE (fC (sN s) (sN s) (t+2) (t+3) (t+4) s.pos.line 0 0 0 0 (a+3) G 181 (a+4) ↑(t+5) (t+6)),oX (a+5) (a+2) m u,o0,
  oD [de P "__module__" (t+7) (.str m u),de P "__firstlineno__" (t+11) (.int s.pos.line (t+10)),de P "__static_attributes__" (t+12) (.ref (a+7)),de P "__doc__" (t+13) .none] 2,
  oK (sN s) [.ref 31] [.ref (a+9),.ref 31,.type "ValueError",.type "Exception",.type "BaseException",.type "object"] (a+8) [] (S (.ref a)) t (t+8) "ValueError.__new__",oS (a+9),oB (a+9)]
noncomputable abbrev It:=Nat×Bool×Nat×Nat
noncomputable def iO(m:Str)(u:Nat)(y:It):L Obj:=fO (sN (top y.1)) m u (top y.1) y.2.1 y.2.2.1 y.2.2.2
noncomputable def iF(y:It):Nat:=y.2.2.1+cond y.2.1 6 4
noncomputable def iE(P:Params)(y:It):DictEntry:=de P (sN (top y.1)) (y.2.2.2+5+cond y.2.1 (vN (top y.1)).length 0) (.ref (iF y))
noncomputable def kI(y:It):L Nat:=cond y.2.1 [y.2.2.1,y.2.2.1+2,y.2.2.1+3,y.2.2.1+5,y.2.2.1+6] [y.2.2.1,y.2.2.1+3,y.2.2.1+4]
noncomputable def iT(y:It)(l:L Value):L Value:=f3 (top y.1).pos.line 0 (iF y-1) l
noncomputable def jO(P:Params)(m:Str)(u:Nat)(y:Nat×Nat×Nat):L Obj:=cO P m u (top y.1) y.2.1 y.2.2
noncomputable def jE(P:Params)(y:Nat×Nat×Nat):DictEntry:=de P (sN (top y.1)) (y.2.2+15) (.ref (y.2.1+9))
noncomputable def jT(y:Nat×Nat×Nat)(l:L Value):L Value:=f3 (top y.1).pos.line 0 (y.2.1+5) l
noncomputable def kJ(y:Nat×Nat×Nat):L Nat:=[y.2.1,y.2.1+7,y.2.1+8,y.2.1+9]
noncomputable def vE(u:L Value):Obj:=oK "VerseError" [.type "ValueError"] [.ref 31,.type "ValueError",.type "Exception",.type "BaseException",.type "object"] 30 u (S (.ref 22)) 196 204 "ValueError.__new__"
noncomputable def i1:L It:=[(0,B,15,187)]
noncomputable def i2:L (Nat×Nat×Nat):=[(3,35,214),(4,47,230),(5,59,246)]
noncomputable def i3:L (Nat×Nat×Nat):=[(6,71,262),(7,83,278),(8,95,294),(9,107,310)]
noncomputable def i4:L (Nat×Nat×Nat):=[(10,119,326),(11,131,342),(12,143,358),(13,155,374)]
noncomputable def i5:L (Nat×Nat×Nat):=[(14,167,390),(15,179,406)]
noncomputable def i6:L It:=[(19,B,229,476),(20,B,236,485)]
noncomputable def i7:L It:=[(21,G,243,493),(22,B,248,499),(23,B,255,515),(24,B,262,527),(25,B,269,540),(26,B,276,549),(27,B,283,559),(28,B,290,567),(29,B,297,580),(30,B,304,592),(31,B,311,601),(32,B,318,610),(33,B,325,619)]
noncomputable def i8:L It:=[(35,B,332,632),(36,G,339,640),(37,B,344,646),(38,B,351,654),(39,B,358,665)]
noncomputable def i9:L It:=[(41,G,365,677),(42,B,370,683)]
noncomputable def i10:L It:=[(46,G,377,699),(47,G,382,705),(48,B,387,711)]
noncomputable def i11:L It:=[(59,B,595,1010),(60,B,602,1020),(61,B,609,1031),(62,B,616,1043),(63,G,623,1054)]
noncomputable def i12:L It:=[(66,B,684,1134),(67,G,691,1147),(68,B,696,1153),(69,B,703,1171),(70,B,710,1178),(71,G,717,1194),(72,G,722,1200),(73,B,727,1206),(74,B,734,1215),(75,B,741,1231),(76,B,748,1244)]
noncomputable def i13:L It:=[(77,G,755,1254),(78,G,760,1260),(79,B,765,1266),(80,B,772,1274),(81,G,779,1284),(82,B,784,1290),(83,B,791,1299),(84,B,798,1311),(85,B,805,1320),(86,B,812,1335),(87,B,819,1347),(88,B,826,1366),(89,G,833,1375),(90,B,838,1381),(91,B,845,1394),(92,G,852,1410)]
noncomputable def n0(P:Params)(u:L Value):L Obj:=(List.append (i1.flatMap (iO "__main__" 164)) (List.append [oU [.type "ValueError"],oP,oD [de P "__module__" 203 (.str "moonseat.errors" 194),de P "__qualname__" 205 (.str "VerseError" 204),de P "__firstlineno__" 207 (.int 5 206),de P "__static_attributes__" 208 (.ref 29)] 4,o0,o1,oE (fC "VerseError" "VerseError" 198 199 200 5 0 0 0 0 25 G 181 26 201 202),oX 27 24 "moonseat.errors" 194,o0,oD [de P "__module__" 203 (.str "moonseat.errors" 194),de P "__firstlineno__" 207 (.int 5 206),de P "__static_attributes__" 208 (.ref 29),de P "__weakref__" 210 (.ref 32),de P "__doc__" 211 .none] 3,vE u,#[.type "getset_descriptor",J,(.fields #v[.str "__weakref__" 209,.ref 31,.builtin "ExceptionGroup.__weakref__",.none]),#v[]],oS 31,oB 31] (i2.flatMap (jO P "moonseat.errors" 194))))
noncomputable def n1(P:Params)(u:L Value):L Obj:=(i3.flatMap (jO P "moonseat.errors" 194))
noncomputable def n2(P:Params)(u:L Value):L Obj:=(i4.flatMap (jO P "moonseat.errors" 194))
noncomputable def n3(P:Params)(u:L Value):L Obj:=(List.append (i5.flatMap (jO P "moonseat.errors" 194)) (List.append [oU [.ref 31],oP,oD [de P "__module__" 429 (.str "moonseat.errors" 194),de P "__qualname__" 431 (.str "Broken" 430),de P "__firstlineno__" 433 (.int 33 432),de P "__init__" 442 (.ref 204),de P "__static_attributes__" 445 (.ref 205)] 5,o0,#[.none,J,(.fields #v[.int 35 0,.int 4 0,.ref 203]),#v[]],oE (fC "Broken" "Broken" 424 425 426 33 0 0 0 0 194 G 181 195 427 428),oX 196 193 "moonseat.errors" 194] (List.append (fO "Broken.__init__" "moonseat.errors" 194 (inClass (top 16) 0) B 198 434) (List.append [oV 443 ["place","word"],oD [de P "__module__" 429 (.str "moonseat.errors" 194),de P "__firstlineno__" 433 (.int 33 432),de P "__init__" 442 (.ref 204),de P "__static_attributes__" 445 (.ref 205),de P "__doc__" 446 .none] 2,oK "Broken" [.ref 31] [.ref 207,.ref 31,.type "ValueError",.type "Exception",.type "BaseException",.type "object"] 206 [] (S (.ref 191)) 422 430 "ValueError.__new__",oS 207,oB 207,oU [.ref 31],oP,oD [de P "__module__" 456 (.str "moonseat.errors" 194),de P "__qualname__" 458 (.str "Stranded" 457),de P "__firstlineno__" 460 (.int 38 459),de P "__init__" 468 (.ref 223),de P "__static_attributes__" 470 (.ref 224)] 5,o0,#[.none,J,(.fields #v[.int 40 0,.int 4 0,.ref 222]),#v[]],oE (fC "Stranded" "Stranded" 451 452 453 38 0 0 0 0 213 G 181 214 454 455),oX 215 212 "moonseat.errors" 194] (List.append (fO "Stranded.__init__" "moonseat.errors" 194 (inClass (top 17) 0) B 217 461) (List.append [oU [.str "name" 469],oD [de P "__module__" 456 (.str "moonseat.errors" 194),de P "__firstlineno__" 460 (.int 38 459),de P "__init__" 468 (.ref 223),de P "__static_attributes__" 470 (.ref 224),de P "__doc__" 471 .none] 2,oK "Stranded" [.ref 31] [.ref 226,.ref 31,.type "ValueError",.type "Exception",.type "BaseException",.type "object"] 225 [] (S (.ref 210)) 449 457 "ValueError.__new__",oS 226,oB 226] (i6.flatMap (iO "moonseat.stands" 474))))))))
noncomputable def n4(P:Params)(u:L Value):L Obj:=(List.append (i7.flatMap (iO "moonseat.stands" 474)) (List.append (i8.flatMap (iO "moonseat.sheets" 630)) (List.append (i9.flatMap (iO "moonseat.ahead" 675)) (i10.flatMap (iO "moonseat.house" 693)))))
noncomputable def n5(P:Params)(u:L Value):L Obj:=(List.append [o0,oP,oD [de P "__module__" 728 (.str "moonseat.house" 693),de P "__qualname__" 730 (.str "House" 729),de P "__firstlineno__" 732 (.int 179 731),de P "__init__" 740 (.ref 407),de P "sheet" 749 (.ref 414),de P "row" 757 (.ref 421),de P "check_new" 765 (.ref 428),de P "check_ends" 777 (.ref 435),de P "do" 786 (.ref 442),de P "put" 801 (.ref 449),de P "begin" 809 (.ref 456),de P "offer" 822 (.ref 463),de P "take" 832 (.ref 470),de P "amend" 846 (.ref 477),de P "turn" 856 (.ref 484),de P "fork" 867 (.ref 491),de P "drop" 873 (.ref 496),de P "change" 886 (.ref 503),de P "back" 895 (.ref 510),de P "again" 904 (.ref 517),de P "deeds" 911 (.ref 524),de P "rules" 918 (.ref 531),de P "first" 925 (.ref 538),de P "names" 932 (.ref 545),de P "verses" 940 (.ref 552),de P "turned" 948 (.ref 559),de P "onwards" 956 (.ref 566),de P "plan" 964 (.ref 573),de P "fitting" 972 (.ref 580),de P "twin" 979 (.ref 587),de P "__static_attributes__" 984 (.ref 588)] 31,o0,#[.none,J,(.fields (List.toArray (List.append (f3 181 4 406 (f3 187 4 413 (f3 193 4 420 (f3 196 4 427 (f3 203 4 434 (f3 209 4 441 (f3 214 4 448 (f3 220 4 455 ([]))))))))) (List.append (f3 225 4 462 (f3 236 4 469 (f3 242 4 476 (f3 253 4 483 (f3 259 4 490 (f3 264 4 495 (f3 270 4 502 (f3 278 4 509 ([]))))))))) (List.append (f3 285 4 516 (f3 292 4 523 (f3 295 4 530 (f3 298 4 537 (f3 301 4 544 (f3 304 4 551 (f3 307 4 558 (f3 310 4 565 ([]))))))))) (f3 313 4 572 (f3 316 4 579 (f3 319 4 586 ([]))))))))),#v[]],oE (fC "House" "House" 723 724 725 179 0 0 0 0 397 G 181 398 726 727),oX 399 396 "moonseat.house" 693] (List.append (fO "House.__init__" "moonseat.house" 693 (inClass (top 49) 0) B 401 733) (List.append (fO "House.sheet" "moonseat.house" 693 (inClass (top 49) 1) B 408 741) (List.append (fO "House.row" "moonseat.house" 693 (inClass (top 49) 2) B 415 750) (List.append (fO "House.check_new" "moonseat.house" 693 (inClass (top 49) 3) B 422 758) (List.append (fO "House.check_ends" "moonseat.house" 693 (inClass (top 49) 4) B 429 766) (List.append (fO "House.do" "moonseat.house" 693 (inClass (top 49) 5) B 436 778) (List.append (fO "House.put" "moonseat.house" 693 (inClass (top 49) 6) B 443 787) (List.append (fO "House.begin" "moonseat.house" 693 (inClass (top 49) 7) B 450 802) (List.append (fO "House.offer" "moonseat.house" 693 (inClass (top 49) 8) B 457 810) (List.append (fO "House.take" "moonseat.house" 693 (inClass (top 49) 9) B 464 823) (List.append (fO "House.amend" "moonseat.house" 693 (inClass (top 49) 10) B 471 833) (List.append (fO "House.turn" "moonseat.house" 693 (inClass (top 49) 11) B 478 847) (List.append (fO "House.fork" "moonseat.house" 693 (inClass (top 49) 12) B 485 857) (List.append (fO "House.drop" "moonseat.house" 693 (inClass (top 49) 13) G 492 868) (List.append (fO "House.change" "moonseat.house" 693 (inClass (top 49) 14) B 497 874) (List.append (fO "House.back" "moonseat.house" 693 (inClass (top 49) 15) B 504 887) (List.append (fO "House.again" "moonseat.house" 693 (inClass (top 49) 16) B 511 896) (List.append (fO "House.deeds" "moonseat.house" 693 (inClass (top 49) 17) B 518 905) (List.append (fO "House.rules" "moonseat.house" 693 (inClass (top 49) 18) B 525 912) (List.append (fO "House.first" "moonseat.house" 693 (inClass (top 49) 19) B 532 919) (List.append (fO "House.names" "moonseat.house" 693 (inClass (top 49) 20) B 539 926) (List.append (fO "House.verses" "moonseat.house" 693 (inClass (top 49) 21) B 546 933) (List.append (fO "House.turned" "moonseat.house" 693 (inClass (top 49) 22) B 553 941) (List.append (fO "House.onwards" "moonseat.house" 693 (inClass (top 49) 23) B 560 949) (List.append (fO "House.plan" "moonseat.house" 693 (inClass (top 49) 24) B 567 957) (List.append (fO "House.fitting" "moonseat.house" 693 (inClass (top 49) 25) B 574 965) (List.append (fO "House.twin" "moonseat.house" 693 (inClass (top 49) 26) B 581 973) [oV 980 ["done","now","opened","undone"],oD [de P "__module__" 728 (.str "moonseat.house" 693),de P "__firstlineno__" 732 (.int 179 731),de P "__init__" 740 (.ref 407),de P "sheet" 749 (.ref 414),de P "row" 757 (.ref 421),de P "check_new" 765 (.ref 428),de P "check_ends" 777 (.ref 435),de P "do" 786 (.ref 442),de P "put" 801 (.ref 449),de P "begin" 809 (.ref 456),de P "offer" 822 (.ref 463),de P "take" 832 (.ref 470),de P "amend" 846 (.ref 477),de P "turn" 856 (.ref 484),de P "fork" 867 (.ref 491),de P "drop" 873 (.ref 496),de P "change" 886 (.ref 503),de P "back" 895 (.ref 510),de P "again" 904 (.ref 517),de P "deeds" 911 (.ref 524),de P "rules" 918 (.ref 531),de P "first" 925 (.ref 538),de P "names" 932 (.ref 545),de P "verses" 940 (.ref 552),de P "turned" 948 (.ref 559),de P "onwards" 956 (.ref 566),de P "plan" 964 (.ref 573),de P "fitting" 972 (.ref 580),de P "twin" 979 (.ref 587),de P "__static_attributes__" 984 (.ref 588),de P "__dict__" 986 (.ref 591),de P "__weakref__" 988 (.ref 592),de P "__doc__" 989 .none] 4,oK "House" [.type "object"] [.ref 590,.type "object"] 589 [] (J) 721 729 "object.__new__",#[.type "getset_descriptor",J,(.fields #v[.str "__dict__" 985,.ref 590,.builtin "function.__dict__",.builtin "function.__dict__#set"]),#v[]],#[.type "getset_descriptor",J,(.fields #v[.str "__weakref__" 987,.ref 590,.builtin "ExceptionGroup.__weakref__",.none]),#v[]],oS 590,oB 590]))))))))))))))))))))))))))))
noncomputable def n6(P:Params)(u:L Value):L Obj:=(List.append (i11.flatMap (iO "moonseat.rules" 992)) (List.append [o0,oP,oD [de P "__module__" 1067 (.str "moonseat.rules" 992),de P "__qualname__" 1069 (.str "Rules" 1068),de P "__firstlineno__" 1071 (.int 356 1070),de P "__init__" 1083 (.ref 641),de P "kinds" 1090 (.ref 648),de P "shuns" 1097 (.ref 655),de P "bars" 1104 (.ref 662),de P "dues" 1111 (.ref 669),de P "many" 1118 (.ref 676),de P "__static_attributes__" 1124 (.ref 677)] 10,o0,#[.none,J,(.fields (List.toArray (f3 358 4 640 (f3 369 4 647 (f3 372 4 654 (f3 375 4 661 (f3 378 4 668 (f3 381 4 675 ([]))))))))),#v[]],oE (fC "Rules" "Rules" 1062 1063 1064 356 0 0 0 0 631 G 181 632 1065 1066),oX 633 630 "moonseat.rules" 992] (List.append (fO "Rules.__init__" "moonseat.rules" 992 (inClass (top 64) 0) B 635 1072) (List.append (fO "Rules.kinds" "moonseat.rules" 992 (inClass (top 64) 1) B 642 1084) (List.append (fO "Rules.shuns" "moonseat.rules" 992 (inClass (top 64) 2) B 649 1091) (List.append (fO "Rules.bars" "moonseat.rules" 992 (inClass (top 64) 3) B 656 1098) (List.append (fO "Rules.dues" "moonseat.rules" 992 (inClass (top 64) 4) B 663 1105) (List.append (fO "Rules.many" "moonseat.rules" 992 (inClass (top 64) 5) B 670 1112) (List.append [oV 1119 ["bar_rows","due_rows","kind_rows","shun_rows","size"],oD [de P "__module__" 1067 (.str "moonseat.rules" 992),de P "__firstlineno__" 1071 (.int 356 1070),de P "__init__" 1083 (.ref 641),de P "kinds" 1090 (.ref 648),de P "shuns" 1097 (.ref 655),de P "bars" 1104 (.ref 662),de P "dues" 1111 (.ref 669),de P "many" 1118 (.ref 676),de P "__static_attributes__" 1124 (.ref 677),de P "__dict__" 1126 (.ref 680),de P "__weakref__" 1128 (.ref 681),de P "__doc__" 1129 .none] 4,oK "Rules" [.type "object"] [.ref 679,.type "object"] 678 [] (J) 1060 1068 "object.__new__",#[.type "getset_descriptor",J,(.fields #v[.str "__dict__" 1125,.ref 679,.builtin "function.__dict__",.builtin "function.__dict__#set"]),#v[]],#[.type "getset_descriptor",J,(.fields #v[.str "__weakref__" 1127,.ref 679,.builtin "ExceptionGroup.__weakref__",.none]),#v[]],oS 679,oB 679] (i12.flatMap (iO "law_moonseat_k30_verses_offered" 1132)))))))))))
noncomputable def n7(P:Params)(u:L Value):L Obj:=(i13.flatMap (iO "law_moonseat_k30_verses_offered" 1132))
noncomputable def E(P:Params):L DictEntry:=(List.append [de P "__doc__" 166 .none,de P "__package__" 167 .none,de P "__loader__" 168 (.builtin "__main__.__loader__#opaque"),de P "__spec__" 169 .none,de P "__annotations__" 170 (.ref 6),de P "__builtins__" 171 (.ref 4),de P "__file__" 173 (.str "/claim/cut.py" 172),de P "__cached__" 174 .none] (List.append (i1.map (iE P)) (List.append [de P "VerseError" 213 (.ref 31)] (List.append (i2.map (jE P)) (List.append (i3.map (jE P)) (List.append (i4.map (jE P)) (List.append (i5.map (jE P)) (List.append [de P "Broken" 448 (.ref 207),de P "Stranded" 473 (.ref 226)] (List.append (i6.map (iE P)) (List.append (i7.map (iE P)) (List.append (i8.map (iE P)) (List.append (i9.map (iE P)) (List.append [de P "MOST_SHEETS" 696 (.int 8 695),de P "MOST_LETTERS" 698 (.int 8 697)] (List.append (i10.map (iE P)) (List.append [de P "House" 991 (.ref 590),de P "MOST_SIZE" 995 (.int 30 994),de P "MOST_KINDS" 997 (.int 4 996),de P "MOST_SHUNS" 999 (.int 20 998),de P "MOST_BARS" 1001 (.int 12 1000),de P "MOST_DUES" 1003 (.int 3 1002),de P "MOST_RUN" 1005 (.int 4 1004),de P "MOST_REST" 1007 (.int 4 1006),de P "MOST_FAR" 1009 (.int 2 1008)] (List.append (i11.map (iE P)) (List.append [de P "Rules" 1131 (.ref 679)] (List.append (i12.map (iE P)) (i13.map (iE P))))))))))))))))))))
noncomputable def mT(k:Nat):Obj:=#[.none,J,.fields (List.toArray (List.take (3*k) (i1.foldr iT (f3 5 0 27 (i2.foldr jT (i3.foldr jT (i4.foldr jT (i5.foldr jT (f3 33 0 196 (f3 38 0 215 (i6.foldr iT (i7.foldr iT (i8.foldr iT (i9.foldr iT (i10.foldr iT (f3 179 0 399 (i11.foldr iT (f3 356 0 633 (i12.foldr iT (i13.foldr iT [])))))))))))))))))))),#v[]]
noncomputable def mD(P:Params)(x:Str)(t k:Nat):Obj:=oD (de P "__name__" 165 (.str x t)::(E P).take k) (k+1)
noncomputable def lA(P:Params):L Obj:=[boot_o_0 P,boot_o_1 P,boot_o_2 P,boot_o_3 P,boot_o_4 P,boot_o_5 P,boot_o_6 P,boot_o_7 P,boot_o_8 P,boot_o_9 P,boot_o_10 P,o0,o1,oE (fC "<module>" "<module>" 182 183 184 1 0 0 0 0 11 G 181 12 185 186),oX 13 3 "__main__" 164]
noncomputable def hA(P:Params):Heap:=#[#[lA P],{}]
noncomputable def t0(P:Params):BT:=putAll .nil (nz 0 (lA P))
noncomputable def t1(P:Params):BT:=putAll (t0 P) ((3,mD P "moonseat.errors" 194 13)::(12,mT 5)::nz 15 (n0 P [.ref 44,.ref 56,.ref 68]))
noncomputable def t2(P:Params):BT:=putAll (t1 P) ((3,mD P "moonseat.errors" 194 17)::(12,mT 9)::(31,vE [.ref 44,.ref 56,.ref 68,.ref 80,.ref 92,.ref 104,.ref 116])::nz 71 (n1 P [.ref 44,.ref 56,.ref 68,.ref 80,.ref 92,.ref 104,.ref 116]))
noncomputable def t3(P:Params):BT:=putAll (t2 P) ((3,mD P "moonseat.errors" 194 21)::(12,mT 13)::(31,vE [.ref 44,.ref 56,.ref 68,.ref 80,.ref 92,.ref 104,.ref 116,.ref 128,.ref 140,.ref 152,.ref 164])::nz 119 (n2 P [.ref 44,.ref 56,.ref 68,.ref 80,.ref 92,.ref 104,.ref 116,.ref 128,.ref 140,.ref 152,.ref 164]))
noncomputable def t4(P:Params):BT:=putAll (t3 P) ((3,mD P "moonseat.stands" 474 27)::(12,mT 19)::(31,vE [.ref 44,.ref 56,.ref 68,.ref 80,.ref 92,.ref 104,.ref 116,.ref 128,.ref 140,.ref 152,.ref 164,.ref 176,.ref 188,.ref 207,.ref 226])::nz 167 (n3 P [.ref 44,.ref 56,.ref 68,.ref 80,.ref 92,.ref 104,.ref 116,.ref 128,.ref 140,.ref 152,.ref 164,.ref 176,.ref 188,.ref 207,.ref 226]))
noncomputable def t5(P:Params):BT:=putAll (t4 P) ((3,mD P "moonseat.house" 693 52)::(12,mT 42)::nz 243 (n4 P []))
noncomputable def t6(P:Params):BT:=putAll (t5 P) ((3,mD P "moonseat.house" 693 53)::(12,mT 43)::nz 394 (n5 P []))
noncomputable def t7(P:Params):BT:=putAll (t6 P) ((3,mD P "law_moonseat_k30_verses_offered" 1132 78)::(12,mT 60)::nz 595 (n6 P []))
noncomputable def t8(P:Params):BT:=putAll (t7 P) ((3,mD P "law_moonseat_k30_verses_offered" 1132 94)::(12,mT 76)::nz 755 (n7 P []))
noncomputable def lF(P:Params):L Obj:=(List.append [boot_o_0 P,boot_o_1 P,boot_o_2 P,mD P "law_moonseat_k30_verses_offered" 1132 94,boot_o_4 P,boot_o_5 P,boot_o_6 P,boot_o_7 P,boot_o_8 P,boot_o_9 P,boot_o_10 P,o0,mT 76,oE (fC "<module>" "<module>" 182 183 184 1 0 0 0 0 11 G 181 12 185 186),oX 13 3 "__main__" 164] (List.append (n0 P [.ref 44,.ref 56,.ref 68,.ref 80,.ref 92,.ref 104,.ref 116,.ref 128,.ref 140,.ref 152,.ref 164,.ref 176,.ref 188,.ref 207,.ref 226]) (List.append (n1 P [.ref 44,.ref 56,.ref 68,.ref 80,.ref 92,.ref 104,.ref 116,.ref 128,.ref 140,.ref 152,.ref 164,.ref 176,.ref 188,.ref 207,.ref 226]) (List.append (n2 P [.ref 44,.ref 56,.ref 68,.ref 80,.ref 92,.ref 104,.ref 116,.ref 128,.ref 140,.ref 152,.ref 164,.ref 176,.ref 188,.ref 207,.ref 226]) (List.append (n3 P [.ref 44,.ref 56,.ref 68,.ref 80,.ref 92,.ref 104,.ref 116,.ref 128,.ref 140,.ref 152,.ref 164,.ref 176,.ref 188,.ref 207,.ref 226]) (List.append (n4 P [.ref 44,.ref 56,.ref 68,.ref 80,.ref 92,.ref 104,.ref 116,.ref 128,.ref 140,.ref 152,.ref 164,.ref 176,.ref 188,.ref 207,.ref 226]) (List.append (n5 P [.ref 44,.ref 56,.ref 68,.ref 80,.ref 92,.ref 104,.ref 116,.ref 128,.ref 140,.ref 152,.ref 164,.ref 176,.ref 188,.ref 207,.ref 226]) (List.append (n6 P [.ref 44,.ref 56,.ref 68,.ref 80,.ref 92,.ref 104,.ref 116,.ref 128,.ref 140,.ref 152,.ref 164,.ref 176,.ref 188,.ref 207,.ref 226]) (n7 P [.ref 44,.ref 56,.ref 68,.ref 80,.ref 92,.ref 104,.ref 116,.ref 128,.ref 140,.ref 152,.ref 164,.ref 176,.ref 188,.ref 207,.ref 226])))))))))
noncomputable def hF(P:Params):Heap:=#[#[lF P],{}]
noncomputable def kA:L Addr:=(List.append [2,3] (List.append (i1.flatMap kI) (List.append [22,29,30,31,32] (List.append (i2.flatMap kJ) (List.append (i3.flatMap kJ) (List.append (i4.flatMap kJ) (List.append (i5.flatMap kJ) (List.append [191,198,200,201,203,204,205,206,207,210,217,219,220,222,223,224,225,226] (List.append (i6.flatMap kI) (List.append (i7.flatMap kI) (List.append (i8.flatMap kI) (List.append (i9.flatMap kI) (List.append (i10.flatMap kI) (List.append [401,403,404,406,407,408,410,411,413,414,415,417,418,420,421,422,424,425,427,428,429,431,432,434,435,436,438,439,441,442,443,445,446,448,449,450,452,453,455,456,457,459,460,462,463,464,466,467,469,470,471,473,474,476,477,478,480,481,483,484,485,487,488,490,491,492,495,496,497,499,500,502,503,504,506,507,509,510,511,513,514,516,517,518,520,521,523,524,525,527,528,530,531,532,534,535,537,538,539,541,542,544,545,546,548,549,551,552,553,555,556,558,559,560,562,563,565,566,567,569,570,572,573,574,576,577,579,580,581,583,584,586,587,588,589,590,591,592] (List.append (i11.flatMap kI) (List.append [635,637,638,640,641,642,644,645,647,648,649,651,652,654,655,656,658,659,661,662,663,665,666,668,669,670,672,673,675,676,677,678,679,680,681] (List.append (i12.flatMap kI) (i13.flatMap kI))))))))))))))))))
noncomputable def K(P:Params):Frag:=kA.map λa=>(a,(lF P).getD a o0)
def kOk:∀P,kA=(K P).map (·.1):=λ_=>by kernel_rfl
noncomputable def sts0:L Stmt:=(List.range' 0 6).map top
noncomputable def sts1:L Stmt:=(List.range' 6 4).map top
noncomputable def sts2:L Stmt:=(List.range' 10 4).map top
noncomputable def sts3:L Stmt:=(List.range' 14 7).map top
noncomputable def sts4:L Stmt:=(List.range' 21 28).map top
noncomputable def sts5:L Stmt:=(List.range' 49 1).map top
noncomputable def sts6:L Stmt:=(List.range' 50 27).map top
noncomputable def sts7:L Stmt:=(List.range' 77 16).map top
noncomputable def q:Program:={pw with main:={pw.main with body:=((List.append (List.range' 0 1) (List.append (List.range' 2 16) (List.append (List.range' 19 15) (List.append (List.range' 35 5) (List.append (List.range' 41 2) (List.append (List.range' 44 6) (List.append (List.range' 51 14) (List.range' 66 27))))))))).map top} }
noncomputable abbrev Xt:Shared->Bool:=λs=>xlAt q [] s&&recOk (RowW.records (OpenRow.toRowW (OpenLaw.row PySem.Challenge.rw_moonseat_k30_verses_offered))) s
noncomputable def G2(p:Program)(w:World)(m:Nat)(an:Y Value)(n:Nat)(s:Shared)(t:Thread):=segRun treeTable p w m an 1 n s t
lay_quick G2
def g2{p:Program}{w:World}{m:Nat}{an:Y Value}{n:Nat}{s:Shared}{t:Thread}{r}(e:PySem.W.Fast.tw10880070632800087129 p w m an n s t=r):segRun treeTable p w m an 1 n s t=r:=by rw[<-PySem.W.Fast.te10880070632800087129]at e;exact e
noncomputable def G3(p:Program)(w:World)(m:Nat)(an:Y Value)(n:Nat)(s:SharedT)(t:Thread):=segRunT treeTable p w m an 1 n s t
lay_quick G3
def g3{p:Program}{w:World}{m:Nat}{an:Y Value}{n:Nat}{s:SharedT}{t:Thread}{r}(e:PySem.W.Fast.tw4145583888436359099 p w m an n s t=r):segRunT treeTable p w m an 1 n s t=r:=by rw[<-PySem.W.Fast.te4145583888436359099]at e;exact e
noncomputable def G4(p:Program)(w:World)(m:Nat)(an:Y Value)(n:Nat)(s:Shared)(t:Thread):=topRun treeTable p w m an n s t
lay_quick G4
def g4{p:Program}{w:World}{m:Nat}{an:Y Value}{n:Nat}{s:Shared}{t:Thread}{r}(e:PySem.W.Fast.tw6531939937263253831 p w m an n s t=r):topRun treeTable p w m an n s t=r:=by rw[<-PySem.W.Fast.te6531939937263253831]at e;exact e
noncomputable def G7(p:Program)(g h:Heap)(s:Shared):=(staticsOk (importedModules p.main.body) g h&&namesBound p h&&gensDone s&&laidKept g h)
lay_quick G7
def g7{p:Program}{g h:Heap}{s:Shared}{r}(e:PySem.W.Fast.tw9566738594451217396 p g h s=r):(staticsOk (importedModules p.main.body) g h&&namesBound p h&&gensDone s&&laidKept g h)=r:=by rw[<-PySem.W.Fast.te9566738594451217396]at e;exact e
noncomputable def G9(h:Heap):=(h.isNs mainGlobals&&(Array.mk []:Array GenState).size==0,h.objs.size,h.nsMap mainGlobals "__annotations__")
lay_quick G9
def g9{h:Heap}{r}(e:PySem.W.Fast.tw14578262778655688011 h=r):(h.isNs mainGlobals&&(Array.mk []:Array GenState).size==0,h.objs.size,h.nsMap mainGlobals "__annotations__")=r:=by rw[<-PySem.W.Fast.te14578262778655688011]at e;exact e
noncomputable def G5(q:Program)(R:WRecords)(md:L Str)(s:Shared):=(openSeen q [] md (λs=>xlAt q [] s&&recOk R s) B s)
noncomputable def G6(q:Program):=openGood q []
lay_quick G5 G6
def g5{q:Program}{R:WRecords}{md:L Str}{s:Shared}{α:Type}(f:_->α)(e:f (PySem.W.Fast.tw5989712690265804088 q R md s)=f (PySem.W.Fast.tw12956129408465502666 q)):f (openSeen q [] md (λs=>xlAt q [] s&&recOk R s) B s)=f (openGood q []):=by rw[<-PySem.W.Fast.te5989712690265804088,<-PySem.W.Fast.te12956129408465502666]at e;exact e
noncomputable def Lpre(w:World)(os:OsState):=topGo treeTable pw w 11 (S (.ref 6)) 12 (#[boot_heap w.params,Array.mk [],boot_drawn,boot_toks,os]:Shared) (topStub pw)
noncomputable def Rpre(w:World)(os:OsState):=S ((#[hA w.params,Array.mk [],{},187,os]:Shared),(#[denote treeTable cE,cE,(#[0,0,0,0]:Pos),[topFrame (#[0,0,0,0]:Pos)]]:Thread))
lay_quick Lpre Rpre
def Qpre:Lpre=Rpre:=PySem.W.Fast.te10476676399240795362.trans ((by kernel_rfl:PySem.W.Fast.tw10476676399240795362=PySem.W.Fast.tw9996742816549557572).trans PySem.W.Fast.te9996742816549557572.symm)
def Ppre(w:World)(os:OsState):topGo treeTable pw w 11 (S (.ref 6)) 12 (#[boot_heap w.params,Array.mk [],boot_drawn,boot_toks,os]:Shared) (topStub pw)=S ((#[hA w.params,Array.mk [],{},187,os]:Shared),(#[denote treeTable cE,cE,(#[0,0,0,0]:Pos),[topFrame (#[0,0,0,0]:Pos)]]:Thread)):=congrFun (congrFun Qpre w) os
def Pblk(w:World)(os:OsState):segRun treeTable pw w 11 (S (.ref 6)) 1 1 (#[hA w.params,Array.mk [],{},187,os]:Shared) (blockOf bd env cE (#[0,0,0,0]:Pos) [topFrame (#[0,0,0,0]:Pos)])=S (Flow.next,SharedT.abs (#[t0 w.params,15,{},Array.mk [],{},187,os]:SharedT),cE,(#[0,0,0,0]:Pos)):=g2 (by kernel_rfl)
def P0(w:World)(os:OsState):segRunT treeTable pw w 11 (S (.ref 6)) 1 864 (#[t0 w.params,15,{},Array.mk [],{},187,os]:SharedT) (piecesOf sts0 env cE (#[0,0,0,0]:Pos) [topFrame (#[0,0,0,0]:Pos)])=S (Flow.next,(#[t1 w.params,71,{},Array.mk [],{},262,os]:SharedT),cE,(#[11,0,12,8]:Pos)):=g3 (by kernel_rfl)
def P1(w:World)(os:OsState):segRunT treeTable pw w 11 (S (.ref 6)) 1 853 (#[t1 w.params,71,{},Array.mk [],{},262,os]:SharedT) (piecesOf sts1 env cE (#[11,0,12,8]:Pos) [topFrame (#[0,0,0,0]:Pos)])=S (Flow.next,(#[t2 w.params,119,{},Array.mk [],{},326,os]:SharedT),cE,(#[19,0,20,8]:Pos)):=g3 (by kernel_rfl)
def P2(w:World)(os:OsState):segRunT treeTable pw w 11 (S (.ref 6)) 1 853 (#[t2 w.params,119,{},Array.mk [],{},326,os]:SharedT) (piecesOf sts2 env cE (#[19,0,20,8]:Pos) [topFrame (#[0,0,0,0]:Pos)])=S (Flow.next,(#[t3 w.params,167,{},Array.mk [],{},390,os]:SharedT),cE,(#[27,0,28,8]:Pos)):=g3 (by kernel_rfl)
def P3(w:World)(os:OsState):segRunT treeTable pw w 11 (S (.ref 6)) 1 989 (#[t3 w.params,167,{},Array.mk [],{},390,os]:SharedT) (piecesOf sts3 env cE (#[27,0,28,8]:Pos) [topFrame (#[0,0,0,0]:Pos)])=S (Flow.next,(#[t4 w.params,243,{},Array.mk [],{},493,os]:SharedT),cE,(#[47,0,50,12]:Pos)):=g3 (by kernel_rfl)
def P4(w:World)(os:OsState):segRunT treeTable pw w 11 (S (.ref 6)) 1 760 (#[t4 w.params,243,{},Array.mk [],{},493,os]:SharedT) (piecesOf sts4 env cE (#[47,0,50,12]:Pos) [topFrame (#[0,0,0,0]:Pos)])=S (Flow.next,(#[t5 w.params,394,{},Array.mk [],{},721,os]:SharedT),cE,(#[173,0,178,44]:Pos)):=g3 (by kernel_rfl)
def P5(w:World)(os:OsState):segRunT treeTable pw w 11 (S (.ref 6)) 1 1087 (#[t5 w.params,394,{},Array.mk [],{},721,os]:SharedT) (piecesOf sts5 env cE (#[173,0,178,44]:Pos) [topFrame (#[0,0,0,0]:Pos)])=S (Flow.next,(#[t6 w.params,595,{},Array.mk [],{},992,os]:SharedT),cE,(#[179,0,320,16]:Pos)):=g3 (by kernel_rfl)
def P6(w:World)(os:OsState):segRunT treeTable pw w 11 (S (.ref 6)) 1 990 (#[t6 w.params,595,{},Array.mk [],{},992,os]:SharedT) (piecesOf sts6 env cE (#[179,0,320,16]:Pos) [topFrame (#[0,0,0,0]:Pos)])=S (Flow.next,(#[t7 w.params,755,{},Array.mk [],{},1254,os]:SharedT),cE,(#[482,0,487,15]:Pos)):=g3 (by kernel_rfl)
def P7(w:World)(os:OsState):segRunT treeTable pw w 11 (S (.ref 6)) 1 505 (#[t7 w.params,755,{},Array.mk [],{},1254,os]:SharedT) (piecesOf sts7 env cE (#[482,0,487,15]:Pos) [topFrame (#[0,0,0,0]:Pos)])=S (Flow.next,(#[t8 w.params,857,{},Array.mk [],{},1416,os]:SharedT),cE,(#[660,0,679,62]:Pos)):=g3 (by kernel_rfl)
def Pfin(w:World)(os:OsState):topRun treeTable pw w 11 (S (.ref 6)) 2 (SharedT.abs (#[t8 w.params,857,{},Array.mk [],{},1416,os]:SharedT)) (#[doneF .next,cE,(#[660,0,679,62]:Pos),[topFrame (#[0,0,0,0]:Pos)]]:Thread)=S (#[hF w.params,Array.mk [],{},1416,os]:Shared):=g4 (by kernel_rfl)
def Pc0(w:World)(os:OsState):(openSeen q [] (importedModules pw.main.body) Xt B (#[hF w.params,Array.mk [],{},1416,os]:Shared)).1=(openGood q []).1:=g5 (·.1) (by kernel_rfl)
def Pc1(w:World)(os:OsState):(openSeen q [] (importedModules pw.main.body) Xt B (#[hF w.params,Array.mk [],{},1416,os]:Shared)).2.1=(openGood q []).2.1:=g5 (·.2.1) (by kernel_rfl)
def Pc2(w:World)(os:OsState):(openSeen q [] (importedModules pw.main.body) Xt B (#[hF w.params,Array.mk [],{},1416,os]:Shared)).2.2.1=(openGood q []).2.2.1:=g5 (·.2.2.1) (by kernel_rfl)
def Pc3(w:World)(os:OsState):(openSeen q [] (importedModules pw.main.body) Xt B (#[hF w.params,Array.mk [],{},1416,os]:Shared)).2.2.2.1=(openGood q []).2.2.2.1:=g5 (·.2.2.2.1) (by kernel_rfl)
def Pc4(w:World)(os:OsState):(openSeen q [] (importedModules pw.main.body) Xt B (#[hF w.params,Array.mk [],{},1416,os]:Shared)).2.2.2.2.1=(openGood q []).2.2.2.2.1:=g5 (·.2.2.2.2.1) (by kernel_rfl)
def Pc5(w:World)(os:OsState):(openSeen q [] (importedModules pw.main.body) Xt B (#[hF w.params,Array.mk [],{},1416,os]:Shared)).2.2.2.2.2.1=(openGood q []).2.2.2.2.2.1:=g5 (·.2.2.2.2.2.1) (by kernel_rfl)
def Pc6(w:World)(os:OsState):(openSeen q [] (importedModules pw.main.body) Xt B (#[hF w.params,Array.mk [],{},1416,os]:Shared)).2.2.2.2.2.2.1=(openGood q []).2.2.2.2.2.2.1:=g5 (·.2.2.2.2.2.2.1) (by kernel_rfl)
def Pc7(w:World)(os:OsState):(openSeen q [] (importedModules pw.main.body) Xt B (#[hF w.params,Array.mk [],{},1416,os]:Shared)).2.2.2.2.2.2.2.1=(openGood q []).2.2.2.2.2.2.2.1:=g5 (·.2.2.2.2.2.2.2.1) (by kernel_rfl)
def Pc8(w:World)(os:OsState):(openSeen q [] (importedModules pw.main.body) Xt B (#[hF w.params,Array.mk [],{},1416,os]:Shared)).2.2.2.2.2.2.2.2=(openGood q []).2.2.2.2.2.2.2.2:=g5 (·.2.2.2.2.2.2.2.2) (by kernel_rfl)
def Pa(w:World)(os:OsState):(staticsOk (importedModules pw.main.body) (boot_heap w.params) (hF w.params)&&namesBound pw (hF w.params)&&gensDone (#[hF w.params,Array.mk [],{},1416,os]:Shared)&&laidKept (boot_heap w.params) (hF w.params))=B:=g7 (by kernel_rfl)
def Py(w:World)(os:OsState):kA.map ((#[hF w.params,Array.mk [],{},1416,os]:Shared)).heap.get?=(K w.params).map λp=>S p.2:=by kernel_rfl
def Pz(w:World):((boot_heap w.params).isNs mainGlobals&&(Array.mk []:Array GenState).size==0,(boot_heap w.params).objs.size,(boot_heap w.params).nsMap mainGlobals "__annotations__")=(B,11,(S (.ref 6))):=g9 (by kernel_rfl)
def run(w:World)(os:OsState):topRun treeTable pw w 11 (S (.ref 6)) (12+(1+(864+(853+(853+(989+(760+(1087+(990+(505+2)))))))))) (#[boot_heap w.params,Array.mk [],boot_drawn,boot_toks,os]:Shared) (topStub pw)=S (#[hF w.params,Array.mk [],{},1416,os]:Shared):=
 go_top (Ppre w os) (piece_block (Pblk w os) (piece_app (l:=sts0) (segRun_of (P0 w os)) (piece_app (l:=sts1) (segRun_of (P1 w os)) (piece_app (l:=sts2) (segRun_of (P2 w os)) (piece_app (l:=sts3) (segRun_of (P3 w os)) (piece_app (l:=sts4) (segRun_of (P4 w os)) (piece_app (l:=sts5) (segRun_of (P5 w os)) (piece_app (l:=sts6) (segRun_of (P6 w os)) (piece_app (l:=sts7) (segRun_of (P7 w os)) (piece_nil (Pfin w os)))))))))))
def opn:opening pw=plainProg pw.main.scope.names:=by kernel_rfl
def fen(s:Shared):fenceModules? pw s=S s:=by kernel_rfl
def left:LeftO pw q [] Xt (Hook.obs (kHook K kA kOk)) (Hook.val (kHook K kA kOk)) 13912:=
 LeftO.of_pieces (H₀:=boot_heap) (H₁:=hF) (boot_open opn (by decide) fen) Pz run (by decide) λw=>funext λos=>Prod.ext (Pa w os) (Prod.ext (Prod.ext (Pc0 w os) (Prod.ext (Pc1 w os) (Prod.ext (Pc2 w os) (Prod.ext (Pc3 w os) (Prod.ext (Pc4 w os) (Prod.ext (Pc5 w os) (Prod.ext (Pc6 w os) (Prod.ext (Pc7 w os) (Pc8 w os))))))))) (Py w os))
end
end Hd
namespace M
open PySem L2 DS CP
noncomputable def Qm(K:W.Frag):Sp:=λc H Q _=>∃(a:Addr) (b:L Int),c=[.ref a]/\jY K H a (b.map V.int)/\b.length<=63/\∀d,Q (.bl B) d
def Ej(d H Q E)(h:Qm K d H Q E):vY K [G] (XR 679) d H Q E:=by
 obtain⟨a,c,rfl,i,g,q⟩:=h;have e:j6 H []=H:=by funext b;rfl
 exact#[[],[.scr c],_,(λa h=>by cases h),#[.inl (by exact#[a,rfl,i]),trivial],cu 679 c g,λv f _ r=>by rw[r];exact q f]
noncomputable def Qn:=dM 16 0 "Broken.__init__" 204 0 [1,0,0] ji
noncomputable def Ke:=dM 17 0 "Stranded.__init__" 223 0 [1,0] ji
def Iz{l:W.OpenLaw}{w:World}{K:W.Frag}{h:Heap}{g:Tj}{fa:Addr}(X:K.In h)(b:h.Ns mainGlobals g)(hfa:g "law" = S (.ref fa))
 (aC:W.nsIn K mainGlobals "Rules" = S (S (.ref 679)))
 (pg:W.plainGet K 679 Str.empty=B)
 (hd:W.hasDictIn K 679=B)
 (po:W.plainOver K 679=B)
 (sa:W.findIn K (.ref 679) "__setattr__" = S (S (.builtin "object.__setattr__")))
 (mk:W.makesIn K 679=B)
 (kc:W.keepIn K (.ref 679)=B)
 (aCH:W.nsIn K mainGlobals "House" = S (S (.ref 590)))
 (pgH:W.plainGet K 590 Str.empty=B)
 (hdH:W.hasDictIn K 590=B)
 (R:W.plainOver K 590=B)
 (saH:W.findIn K (.ref 590) "__setattr__" = S (S (.builtin "object.__setattr__")))
 (mkH:W.makesIn K 590=B)
 (Q:W.keepIn K (.ref 590)=B)
 (A0:l0.map (JR K 679)=l0.map (JZ K))
 (A1:JR K 679 x1=JZ K x1)
 (A2:l2.map (JR K 679)=l2.map (JZ K))
 (A3:JR K 590 x3=JZ K x3)
 (A4:l4.map (JR K 679)=l4.map (JZ K))
 (A5:l5.map (λd=>JR K 590 d.d)=l5.map (λd=>JZ K d.d))
 (A6:l6.map (JR K 679)=l6.map (JZ K))
 (A7:JR K 679 x7=JZ K x7)
 (B7:JR K 679 y7=JZ K y7)
 (A8:l8.map (λd=>JR K 590 d.d)=l8.map (λd=>JZ K d.d))
 (A9:JR K 679 x9=JZ K x9)
 (A10:Q_.map (JR K 679)=Q_.map (JZ K))
 (A11:JR K 679 UE=JZ K UE)
 (T:JR K 679 gO=JZ K gO)
 (A13:JR K 679 kZ=JZ K kZ)
 (UQ:x0.map (JR K 679)=x0.map (JZ K))
 (A15:x8.map (λd=>JR K 590 d.d)=x8.map (λd=>JZ K d.d))
 (A16:xa.map (JR K 679)=xa.map (JZ K))
 (Z:xb.map (λd=>JR K 590 d.d)=xb.map (λd=>JZ K d.d))
 (A18:xg.map (JR K 679)=xg.map (JZ K))
 (X1:xt.ex.map (iK K)=xt.ex.map (iL K))
 (X2:(xt.ex.map λx=>xt.ex.map λy=>W.kitOne K (.ref (jz K x)) (.ref (jz K y)))=xt.ex.map λx=>xt.ex.map λy=>S (x==y))
 (X3:xt.ct.map (λh=>(W.nsIn K mainGlobals h.1,h.2.1.map (λx=>W.exmOne K (.ref (jz K x)) (.ref (jz K h.1))),h.2.2.map λx=>W.exmOne K (.ref (jz K x)) (.ref (jz K h.1))))=xt.ct.map λh=>(S (S (.ref (jz K h.1))),h.2.1.map (λ_=>S B),h.2.2.map λ_=>S G))
 (X4:xt.xf.map (iM K)=xt.xf.map λ_=>(S (S (.builtin "BaseException.__getattribute__")),S J,B,B,S J))
 (X5:xt.xp.map (λx=>(W.nsIn K mainGlobals x,W.excIn K (jz K x) kW "ValueError.__new__"))=xt.xp.map λx=>(S (S (.ref (jz K x))),B))
 (F:W.nsIn K mainGlobals "Broken" = S (S (.ref (jz K "Broken"))))
 (I:V3 K (jz K "Broken") kW "ValueError.__new__" 204=B)
 (C:W.keepIn K (.ref (jz K "Broken"))=B)
 (A:W.findIn K (.ref (jz K "Broken")) "__init__" = S (S (.ref 204)))
 (M:JR K (jz K "Broken") Qn=JZ K Qn)
 (u:wB K "Broken" "place" = (S (S (.builtin "object.__setattr__")),B,S J,B))
 (H:wB K "Broken" "word" = (S (S (.builtin "object.__setattr__")),B,S J,B))
 (t:W.nsIn K mainGlobals "Stranded" = S (S (.ref (jz K "Stranded"))))
 (k:V3 K (jz K "Stranded") kW "ValueError.__new__" 223=B)
 (o:W.keepIn K (.ref (jz K "Stranded"))=B)
 (j:W.findIn K (.ref (jz K "Stranded")) "__init__" = S (S (.ref 223)))
 (n:JR K (jz K "Stranded") Ke=JZ K Ke)
 (r:wB K "Stranded" "name" = (S (S (.builtin "object.__setattr__")),B,S J,B))
 (Al:JR K 679 Uj=JZ K Uj)
 (hF:gM.fl.map (W.findIn K (.ref 679))=gM.fl.map λ_=>S J)
 (hFH:(gM.hfl++gM.hls).map (W.findIn K (.ref 590))=(gM.hfl++gM.hls).map λ_=>S J)
 (hG:gM.gs.map (λp=>(CU (W.nsIn K mainGlobals p.1),(CV p.2).isSome))=gM.gs.map λp=>(CV p.2,B)):
  ∃fd:FuncData,(∀(s:Shared) (v:Value),BindsTo s fd #[[v],[]] [("_law_script",v)])/\∀c:Heap,K.In c->c.Ns mainGlobals g->FnOk l.prog w K g c yG 165 fa fd ["_law_script"] (Qm K):=by
 have i:∀x v,W.nsIn K mainGlobals x=S (S v)->g x=S v:=λx v a=>W.mg_of X b a;obtain⟨f_law,XR,O,N⟩:=vz Al rfl;have e:=hfa.symm.trans (i _ _ O);cases e;obtain⟨_,_,kV,dc,pm,an,cd,ct,_,rfl,_,_⟩:=N.ex;refine#[W.fnOf "law" "law" (defArgs Uj.st) (defBody Uj.st) (defScope Uj.st) .none kV dc pm an cd ct,λs v=>.of_eq rfl,λc _ _=>?_];have h:TOk l.prog w K g c 2 gM:=#[λp P=>Lx i (λx a=>W.mg_none_of X b a) (Ly hG p P),(λ_ h=>by cases h),#[pg,hd,po,sa],yl hF,Lz i X1 X2 X3 X4 (λz=>by cases z) rfl,LA X5,λx fs e=>?_,#[pgH,hdH,R,saH],λf hf=>yl hFH f (List.mem_append.mpr hf),(λp P=>by cases P),λp P=>by cases P]
 rotate_left
 ·have m:=Y4 e;rcases uTa m with z|m
  ·cases z;exact iP F I C A (V9 M rfl) u H (by kernel_rfl) rfl (by kernel_rfl) (by kernel_rfl) (by kernel_rfl) (yL (by kernel_rfl))
  rcases uTa m with z|m
  ·cases z;exact iQ t k o j (V9 n rfl) r rfl (by kernel_rfl) (by kernel_rfl) (by kernel_rfl) (yL (by kernel_rfl))
  ·cases m
 have h:TOk l.prog w K g c 18 iV:=TOk.adds i l0 h k0 A0;have h:TOk l.prog w K g c 20 iW:=TOk.I i (d:=x1.de) h (V9 A1 rfl) (by kernel_rfl) k1 (by kernel_rfl) (yL (by kernel_rfl)) mk kc aC (Gp 679);have h:TOk l.prog w K g c 26 iX:=TOk.adds i l2 h k2 A2;have h:TOk l.prog w K g c 28 iY:=TOk.hIB i (d:=x3) (ks:=[B]) (C:=590) (x:="House") h h A3 (by kernel_rfl) k3 (by kernel_rfl) mkH Q aCH;have h:TOk l.prog w K g c 54 iZ:=TOk.adds i l4 h k4 A4;have h:TOk l.prog w K g c 56 i_:=TOk.addsB l5 h k5 A5;have h:TOk l.prog w K g c 100 CZ:=TOk.adds i l6 h k6 A6;have h:TOk l.prog w K g c 118 I0:=TOk.R2 i (d1:=x7.de) (d2:=y7.de) h (vz A7 rfl) (vz B7 rfl) (G1 679) (G2 679) (Zy 679) JV 9 (λ_=>rfl) (λ_=>rfl) (λ_=>rfl) Nz NA (by kernel_rfl) (yL (by kernel_rfl)) (by kernel_rfl) (yL (by kernel_rfl));have h:TOk l.prog w K g c 132 Ia:=TOk.addsB l8 h k8 A8;have h:TOk l.prog w K g c 134 BB:=TOk.GB i (d:=x9) h A9 rfl k9 (by kernel_rfl);have h:TOk l.prog w K g c 136 BC:=TOk.adds i Q_ h NB A10;have h:TOk l.prog w K g c 136 BD:=TOk.SB i (d:=UE) h A11 rfl NC (by kernel_rfl);have h:TOk l.prog w K g c 138 BE:=TOk.GB i (d:=gO) h T rfl ND (by kernel_rfl);have h:TOk l.prog w K g c 144 BF:=TOk.R i (d:=kZ.de) h (vz A13 rfl) (jL 679) (ZO 679) 6 (λ_=>rfl) (λ_=>rfl) NE (by kernel_rfl) (yL (by kernel_rfl));have h:TOk l.prog w K g c 146 BG:=TOk.adds i x0 h NF UQ;have h:TOk l.prog w K g c 148 BH:=TOk.addsB x8 h NG A15;have h:TOk l.prog w K g c 156 BI:=TOk.adds i xa h NH A16;have h:TOk l.prog w K g c 162 BJ:=TOk.addsB xb h NI Z;have h:TOk l.prog w K g c 164 Ib:=TOk.adds i xg h NJ A18;exact(QW (d:=Uj.de) h N LS rfl).imp Ej
def walk{l:W.OpenLaw}{q loose XP YP d}{K:Params->W.Frag}(o:l.most=S 63)(e:d.params.defaults=[])
  (m:∀(w h),YP w h->(K w.params).In h)
  (F:∀(w c g h),(K w.params).In h->h.Ns mainGlobals c->c d.name=S (.ref g)->
   ∃i ,(∀(s u),BindsTo s i #[[u],[]] [("_law_script",u)])/\∀b ,(K w.params).In b->b.Ns mainGlobals c->FnOk l.prog w (K w.params) c b yG 165 g i ["_law_script"] (Qm (K w.params))):
  W.WalkO q loose XP YP l.row.toRowW d [] (λf k=>PySem.call f k):=
 L2.dJ o (by decide) e #[rfl,by decide,by decide] m F (λ_ _ a n j _ p=>#[a,n,rfl,p,j,λ_=>rfl]) λ_ _ _ _ _ z=>z
end M
open PySem PySem.W PyProof.Rows
set_option maxHeartbeats 0 in
theorem PySem.Challenge.cw_moonseat_k30_verses_offered_holds : PySem.Challenge.rw_moonseat_k30_verses_offered.Holds := by
 w_on;o_law
 refine holds_open (q:=Hd.q) (loose:=[]) (Xt:=Hd.Xt) (XP:=XL Hd.q []) (Yf:=Hook.obs (kHook Hd.K Hd.kA Hd.kOk)) (Ya:=Hook.val (kHook Hd.K Hd.kA Hd.kOk)) (YP:=Hook.says (kHook Hd.K Hd.kA Hd.kOk)) (N:=13912) Hd.left (Hook.of _) (Hook.keeps _) (fun s e=>xl_of s (Bool.and_eq_true_iff.mp e).1) XL.keeps (by rfl) (by rfl) (by rfl) (fun s e=>recFacts_of (Bool.and_eq_true_iff.mp e).2) (by rfl) (by assumption) (by decide +kernel) ⟨rfl,rfl,rfl,rfl,rfl,by decide +kernel⟩ ?hw ?hc
 case hw=>w_witness2
 exact M.walk (l:=PySem.Challenge.rw_moonseat_k30_verses_offered) rfl rfl (fun w h Y00=>kIn_of Y00) fun w mg fa h KX G00 hmg=>M.Iz KX G00 hmg (by kernel_rfl) (by kernel_rfl) (by kernel_rfl) (by kernel_rfl) (by kernel_rfl) (by kernel_rfl) (by kernel_rfl) (by kernel_rfl) (by kernel_rfl) (by kernel_rfl) (by kernel_rfl) (by kernel_rfl) (by kernel_rfl) (by kernel_rfl) (by kernel_rfl) (by kernel_rfl) (by kernel_rfl) (by kernel_rfl) (by kernel_rfl) (by kernel_rfl) (by kernel_rfl) (by kernel_rfl) (by kernel_rfl) (by kernel_rfl) (by kernel_rfl) (by kernel_rfl) (by kernel_rfl) (by kernel_rfl) (by kernel_rfl) (by kernel_rfl) (by kernel_rfl) (by kernel_rfl) (by kernel_rfl) (by kernel_rfl) (by kernel_rfl) (by kernel_rfl) (by kernel_rfl) (by kernel_rfl) (by kernel_rfl) (by kernel_rfl) (by kernel_rfl) (by kernel_rfl) (by kernel_rfl) (by kernel_rfl) (by kernel_rfl) (by kernel_rfl) (by kernel_rfl) (by kernel_rfl) (by kernel_rfl) (by kernel_rfl) (by kernel_rfl) (by kernel_rfl) (by kernel_rfl) (by kernel_rfl) (by kernel_rfl) (by kernel_rfl)
