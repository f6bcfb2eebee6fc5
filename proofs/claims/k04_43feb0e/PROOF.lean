import PyProof.Rows.All
import Wide.All
import OpenK.AllK
import Wide.FinOn
import Lean
import PyProof.EqAt
import PyProof.EqKinds
import PyProof.TupleCall
import PyProof.NeKinds
import PyProof.IsiTupleOf
import PyProof.IsiPairs
import PyProof.IsiHeapPairs
import PyProof.ConsumeWalk
import PyProof.EnumFor
import PyProof.EnumMake
import PyProof.AutoSeq1
import KE.KRevIter
import KE.KTryMore
import PyProof.AutoListH
import PyProof.ExcArgsOwn
import PyProof.ExcAttrAll.ValueError
import PyProof.FactsAll.list_3
import PyProof.InstStoreFacts
import PyProof.ListRange
import PyProof.MinMaxWalk
import PyProof.SumWalkG
import PyProof.FactsAll.list_2
import PySem.Challenge.RW_moonseat_k04_rows_refused
noncomputable section
set_option tactic.hygienic false
set_option bootstrap.genMatcherCode false
set_option genSizeOf false
set_option linter.all false
set_option Elab.async false
set_option maxRecDepth 100000
set_option maxHeartbeats 4000000
set_option compiler.extract_closed false
section
open PySem PySem.Spec PyProof.Rows
abbrev Tq:=List (Addr×Obj)
abbrev Tz:=Value->Shared->Prop
abbrev Tj:=Str->Option Value
abbrev Tv:=List (Str×Nat)
def wAa:=@wpAny_bind
def wBa:=@wpAny_pure
def wCa:=@wpAny_mono
def wDa:=@wpAny_holding
def wGa:=@wpAny_execs_cons
def wHa:=@wpAny_call
def wIa:=@Heap.get?_push_of_some
def wJa:=@Heap.get?_push_size
def wKa:=@Heap.get?_update_other
def wLa:=@Heap.lt_size
def wMa:=@List.mem_cons_of_mem
def wNa:=@List.mem_cons_self
def wPa:=@Nat.le_refl
def wQa:=@Nat.le_of_lt
def wSa:=@Nat.le_trans
def wTa:=@Nat.ne_of_lt
def wUa:=@Nat.lt_irrefl
def wYa:=@List.mem_of_getElem?
def vBa:=@decide_eq_false
def vDa:=@absurd
def vFa:=@Option.some.inj
def vIa:=@List.mem_append_left
def vJa:=@List.mem_append_right
def vKa:=@Nat.le_add_right
def vLa:=@eq_of_beq
def vMa:=@Nat.le_succ
def vNa:=@Bool.false_ne_true
def vOa:=@wpAny_standAt
def vTa:=@wpAny_newObj_type
def vUa:=@Heap.get?_update_self
def vWa:=@List.map_cons
def vXa:=@List.length_cons
def vYa:=@List.length_map
def vZa:=@List.length_append
def uAa:=@List.getElem?_map
def uBa:=@List.getD_eq_getElem?_getD
def uCa:=@List.getElem?_eq_getElem
def uDa:=@List.map_append
def uEa:=@Option.bind_some
def uFa:=@List.append_nil
def uJa:=@List.map_nil
def uLa:=@List.size_toArray
def uNa:=@List.length_drop
def uOa:=@List.length_take
def uPa:=@Heap.size_push
def uRa:=@List.getElem?_append_left
def uSa{α:Type _}{l:List α}{i:Nat}{a:α}(h:l[i]?=some a):∃h:i<l.length,l[i]=a:=List.getElem?_eq_some_iff.mp h
def uTa{α:Type _}{a b:α}{l:List α}(h:a∈b::l):a=b∨a∈l:=List.mem_cons.mp h
def uVa{α β:Type _}{f:α->β}{b:β}{l:List α}(h:b∈l.map f):∃a,a∈l/\f a=b:=List.mem_map.mp h
abbrev uXa:=PySem.W.Frag
namespace L2
inductive KD where
 | i (n:Int) | s (x:Str) | t (l:List KD)
noncomputable instance:DecidableEq KD:=fun _ _=>Classical.propDecidable _
mutual
noncomputable def jN(h:Heap):KD->Value->Prop
 | .i n,v=>(∃t,v=.int n t) \/∃b:Bool,v=.bool b/\n=(if b then 1 else 0)
 | .s x,v=>∃t,v=.str x t
 | .t l,v=>∃a its,v=.ref a/\h.IsTuple a its/\J0 h l its.toList
noncomputable def J0(h:Heap):List KD->List Value->Prop
 | [],vs=>vs=[]
 | k::ks,vs=>∃v r,vs=v::r/\jN h k v/\J0 h ks r
end
mutual
noncomputable def KD.dep:KD->Nat
 | .i _=>0
 | .s _=>0
 | .t l=>Yi l+1
noncomputable def Yi:List KD->Nat
 | []=>0
 | k::ks=>max k.dep (Yi ks)
end
mutual
noncomputable def KD.drw:KD->Nat
 | .i _=>1
 | .s _=>1
 | .t l=>Gw l+1
noncomputable def Gw:List KD->Nat
 | []=>0
 | k::ks=>k.drw+Gw ks
end
mutual
noncomputable def US(w:World):KD->Int
 | .i n=>hashInt n
 | .s x=>hashStr w x
 | .t l=>reduceHash (Builtin.Tuple.tupleHashOf (uQ w l))
noncomputable def uQ(w:World):List KD->List Int
 | []=>[]
 | k::ks=>US w k::uQ w ks
end
mutual
theorem jN.inj{h:Heap}:∀{x y:KD} {v:Value},jN h x v->jN h y v->x=y
 | .i n,.i m,v,p,q=>by
  rw[jN]at p;rw[jN]at q;rcases p with⟨t,rfl⟩ | ⟨b,rfl,rfl⟩
  ·rcases q with⟨t,e⟩ | ⟨b,e,_⟩ <;> cases e
   rfl
  ·rcases q with⟨t,e⟩ | ⟨b,e,rfl⟩ <;> cases e
   rfl
 | .s n,.s m,v,p,q=>by
  rw[jN]at p;rw[jN]at q;obtain⟨t,rfl⟩:=p;obtain⟨t,e⟩:=q;cases e;rfl
 | .t n,.t m,v,p,q=>by
  rw[jN]at p;rw[jN]at q;obtain⟨a,its,rfl,o1,p⟩:=p;obtain⟨a',its',e,o2,q⟩:=q;cases e;obtain⟨o,g,_,_,d⟩:=o1;obtain⟨o',g',_,_,d'⟩:=o2;rw[g]at g';cases g';rw[d]at d';cases d';rw[J0.inj p q]
 | .i n,.s m,v,p,q=>by
  rw[jN]at p;rw[jN]at q;obtain⟨t,rfl⟩:=q;rcases p with⟨t,e⟩ | ⟨b,e,_⟩ <;> cases e
 | .i n,.t m,v,p,q=>by
  rw[jN]at p;rw[jN]at q;obtain⟨_,_,rfl,_⟩:=q;rcases p with⟨t,e⟩ | ⟨b,e,_⟩ <;> cases e
 | .s n,.i m,v,p,q=>by
  rw[jN]at p;rw[jN]at q;obtain⟨t,rfl⟩:=p;rcases q with⟨t,e⟩ | ⟨b,e,_⟩ <;> cases e
 | .s n,.t m,v,p,q=>by
  rw[jN]at p;rw[jN]at q;obtain⟨t,rfl⟩:=p;obtain⟨_,_,e,_⟩:=q;cases e
 | .t n,.i m,v,p,q=>by
  rw[jN]at p;rw[jN]at q;obtain⟨_,_,rfl,_⟩:=p;rcases q with⟨t,e⟩ | ⟨b,e,_⟩ <;> cases e
 | .t n,.s m,v,p,q=>by
  rw[jN]at p;rw[jN]at q;obtain⟨_,_,rfl,_⟩:=p;obtain⟨t,e⟩:=q;cases e
theorem J0.inj{h:Heap}:∀{x y:List KD} {v:List Value},J0 h x v->J0 h y v->x=y
 | [],[],_,_,_=>rfl
 | [],_::_,_,p,q=>by
  rw[J0]at p;rw[J0]at q;subst p;obtain⟨_,_,e,_⟩:=q;cases e
 | _::_,[],_,p,q=>by
  rw[J0]at p;rw[J0]at q;subst q;obtain⟨_,_,e,_⟩:=p;cases e
 | x::xs,y::ys,_,p,q=>by
  rw[J0]at p;rw[J0]at q;obtain⟨v,r,rfl,p1,p2⟩:=p;obtain⟨v',r',e,q1,q2⟩:=q;cases e;rw[jN.inj p1 q1,J0.inj p2 q2]
end
mutual
theorem jN.keep{h h':Heap}(m:∀a its,h.IsTuple a its->h'.IsTuple a its):∀{k:KD} {v:Value},jN h k v->jN h' k v
 | .i _,_,p=>by rw[jN]at p⊢;exact p
 | .s _,_,p=>by rw[jN]at p⊢;exact p
 | .t l,_,p=>by
  rw[jN]at p⊢;obtain⟨a,its,rfl,o,p⟩:=p;exact⟨a,its,rfl,m a its o,J0.keep m p⟩
theorem J0.keep{h h':Heap}(m:∀a its,h.IsTuple a its->h'.IsTuple a its):∀{k:List KD} {v:List Value},J0 h k v->J0 h' k v
 | [],_,p=>by rw[J0]at p⊢;exact p
 | k::ks,_,p=>by
  rw[J0]at p⊢;obtain⟨v,r,rfl,p1,p2⟩:=p;exact⟨v,r,rfl,jN.keep m p1,J0.keep m p2⟩
end
def QE(hu:A.units < cLine)(h:Q (hashInt (if b then 1 else 0)) { s with toks:=s.toks+1 }):wpAny (model prog w) A (pyHash (.bool b)) Q E s:=by
 refine PySem.W.pyHash_slot (v:=.bool b) (T := "bool") rfl F.slot_bool_hash entry_int_hash (args_int_hash _) (beq_builtin_none _) (.inr hu) ?_;cases b
 ·exact(show wpAny _ _ (do ret (<-mkInt 0)) _ _ s from wAa (wpAny_mkInt (wBa ⟨_,_,rfl,by
    have e:reduceHash 0=hashInt 0:=by decide
    rw[e];exact h⟩)))
 ·exact(show wpAny _ _ (do ret (<-mkInt 1)) _ _ s from wAa (wpAny_mkInt (wBa ⟨_,_,rfl,by
    have e:reduceHash 1=hashInt 1:=by decide
    rw[e];exact h⟩)))
mutual
theorem WL:∀(k:KD) (v:Value) (A:Around) (s:Shared) (Q:Int->Shared->Prop),jN s.heap k v->A.units+k.dep < cLine->Q (US w k) { s with toks:=s.toks+k.drw }->wpAny (model prog w) A (pyHash v) Q E s
 | .i n,v,A,s,Q,p,hu,h=>by
  rw[jN]at p;rw[US,KD.drw]at h;rcases p with⟨t,rfl⟩ | ⟨b,rfl,rfl⟩
  ·exact wpAny_pyHash_int h
  ·exact QE (by rw[KD.dep]at hu;exact hu) h
 | .s x,v,A,s,Q,p,hu,h=>by
  rw[jN]at p;rw[US,KD.drw]at h;obtain⟨t,rfl⟩:=p;exact wpAny_pyHash_str h
 | .t l,v,A,s,Q,p,hu,h=>by
  rw[jN]at p;rw[US,KD.drw]at h;rw[KD.dep]at hu;obtain⟨a,its,rfl,o,p⟩:=p;obtain⟨ob,g,c,n,dt⟩:=o;refine PySem.W.pyHash_slot (v:=.ref a) (T := "tuple") ⟨_,g,c⟩ F.slot_tuple_hash F.entry_tuple_hash (F.args_tuple_hash_1 _) (beq_builtin_none _) (.inr (by lia)) ?_;refine(show wpAny _ _ (Builtin.Tuple.tupleItemsOf (.ref a) >>= _) _ _ s from wAa (wpAny_tupleItemsOf g dt (wAa ?_)));rw[<-Array.forIn_toList];refine KQ l its.toList A.in1 s #[] _ p (by rw[Around.in1_units];lia) fun b' hb=>?_;show wpAny _ _ (retInt (Builtin.Tuple.tupleHashOf b'.toList)) _ _ _;rw[hb];exact wAa (wpAny_mkInt (wBa ⟨_,_,rfl,by simpa[Nat.add_assoc]using h⟩))
theorem KQ:∀(ks:List KD) (vs:List Value) (A:Around) (s:Shared) (b:Array Int) (Q:Array Int->Shared->Prop),J0 s.heap ks vs->A.units+Yi ks < cLine->(∀b':Array Int,b'.toList=b.toList++uQ w ks->Q b' { s with toks:=s.toks+Gw ks })->
  wpAny (model prog w) A (forIn vs b fun x r=>do let h<-pyHash x;pure (ForInStep.yield (r.push h))) Q E s
 | [],vs,A,s,b,Q,p,hu,h=>by
  rw[J0]at p;subst p;rw[List.forIn_nil];exact wBa (by simpa[Gw,uQ]using h b)
 | k::ks,vs,A,s,b,Q,p,hu,h=>by
  rw[J0]at p;rw[Yi]at hu;obtain⟨v,r,rfl,p1,p2⟩:=p;rw[List.forIn_cons];refine wAa (wAa (WL k v A s _ p1 (by lia) (wBa ?_)));refine KQ ks r A _ _ Q p2 (by lia) fun b' hb=>?_;have:=h b' (by rw[hb,uQ];simp);rw[Gw]at this;simpa[Nat.add_assoc]using this
end
section
open SeqAt
variable {s:Shared}
def Vp{α:Type}[DecidableEq α]{a b:α}{c:Bool}(h:c=true↔a=b):decide (a=b)=c:=by
 cases c with
 | true=>exact decide_eq_true (h.mp rfl)
 | false=>exact vBa fun z=>by have:=h.mpr z;cases this
theorem J0.len:∀{ks:List KD} {vs:List Value},J0 h ks vs->vs.length=ks.length
 | [],_,p=>by rw[J0]at p;subst p;rfl
 | k::ks,_,p=>by
  rw[J0]at p;obtain⟨v,r,rfl,_,p2⟩:=p;simp[p2.len]
theorem J0.get:∀{ks:List KD} {vs:List Value} {j:Nat} {v:Value},J0 h ks vs->vs[j]?=some v->∃k,ks[j]?=some k/\jN h k v
 | [],_,_,_,p,e=>by rw[J0]at p;subst p;simp at e
 | k::ks,_,j,v',p,e=>by
  rw[J0]at p;obtain⟨v,r,rfl,p1,p2⟩:=p;cases j with
  | zero=>cases e;exact⟨k,rfl,p1⟩
  | succ j=>exact p2.get (j:=j) e
theorem K8:∀{ks:List KD} {k:KD},k∈ks->k.dep<=Yi ks
 | [],_,h=>by cases h
 | x::xs,k,h=>by
  rw[Yi];rcases uTa h with rfl | h
  ·lia
  ·have:=K8 h
   lia
theorem AD:∀(n:Nat) (x y:KD) (u v:Value) (A:Around),x.dep<=n->jN s.heap x u->jN s.heap y v->A.units+n < cLine->EqAt A s u v (decide (x=y))
 | n,.i a,.i b,u,v,A,hn,p,q,hu=>by
  rw[jN]at p;rw[jN]at q;rcases p with⟨t,rfl⟩ | ⟨c,rfl,rfl⟩
  ·rcases q with⟨t',rfl⟩ | ⟨c',rfl,rfl⟩
   ·rw[Vp (c:=(a==b)) (by simp)];exact .int_int a t b t'
   ·rw[Vp (c:=(a==if c' then 1 else 0)) (by simp)];exact .int_bool a t c'
  ·rcases q with⟨t',rfl⟩ | ⟨c',rfl,rfl⟩
   ·rw[Vp (c:=((if c then 1 else 0)==b)) (by simp)];exact .bool_int c b t'
   ·rw[Vp (c:=(c==c')) (by cases c <;> cases c' <;> simp)];exact .bool_bool c c'
 | n,.s a,.s b,u,v,A,hn,p,q,hu=>by
  rw[jN]at p;rw[jN]at q;obtain⟨t,rfl⟩:=p;obtain⟨t',rfl⟩:=q;rw[Vp (c:=(a==b)) (by simp)];exact .str_str a t b t'
 | n,.i a,.s b,u,v,A,hn,p,q,hu=>by
  rw[jN]at p;rw[jN]at q;obtain⟨t',rfl⟩:=q;rw[decide_eq_false (by intro z;cases z)];rcases p with⟨t,rfl⟩ | ⟨c,rfl,rfl⟩
  ·exact .int_str a t b t'
  ·exact .bool_str c b t'
 | n,.s a,.i b,u,v,A,hn,p,q,hu=>by
  rw[jN]at p;rw[jN]at q;obtain⟨t',rfl⟩:=p;rw[decide_eq_false (by intro z;cases z)];rcases q with⟨t,rfl⟩ | ⟨c,rfl,rfl⟩
  ·exact .str_int a t' b t
  ·exact .str_bool a t' c
 | n,.i a,.t b,u,v,A,hn,p,q,hu=>by
  rw[jN]at p;rw[jN]at q;obtain⟨e,its,rfl,o,_⟩:=q;rw[decide_eq_false (by intro z;cases z)];rcases p with⟨t,rfl⟩ | ⟨c,rfl,rfl⟩
  ·exact .int_tuple a t o (by lia)
  ·exact .bool_tuple c o (by lia)
 | n,.t a,.i b,u,v,A,hn,p,q,hu=>by
  rw[jN]at p;rw[jN]at q;obtain⟨e,its,rfl,o,_⟩:=p;rw[decide_eq_false (by intro z;cases z)];rcases q with⟨t,rfl⟩ | ⟨c,rfl,rfl⟩
  ·exact .tuple_int b t o (by lia)
  ·exact .tuple_bool c o (by lia)
 | n,.s a,.t b,u,v,A,hn,p,q,hu=>by
  rw[jN]at p;rw[jN]at q;obtain⟨e,its,rfl,o,_⟩:=q;obtain⟨t,rfl⟩:=p;rw[decide_eq_false (by intro z;cases z)];exact .str_tuple a t o (by lia)
 | n,.t a,.s b,u,v,A,hn,p,q,hu=>by
  rw[jN]at p;rw[jN]at q;obtain⟨e,its,rfl,o,_⟩:=p;obtain⟨t,rfl⟩:=q;rw[decide_eq_false (by intro z;cases z)];exact .tuple_str b t o (by lia)
 | 0,.t a,.t b,u,v,A,hn,p,q,hu=>by rw[KD.dep]at hn;lia
 | n+1,.t a,.t b,u,v,A,hn,p,q,hu=>by
  rw[KD.dep]at hn;rw[jN]at p;rw[jN]at q;obtain⟨l,its,rfl,o,p⟩:=p;obtain⟨l',its',rfl,o',q⟩:=q;by_cases hl:l=l'
  ·subst hl;obtain⟨z,g,_,_,d⟩:=o;obtain⟨z',g',_,_,d'⟩:=o';rw[g]at g';cases g';rw[d]at d';cases d';rw[J0.inj p q,decide_eq_true rfl];exact .same _
  ·have l1:=p.len;have l2:=q.len;have ev:=RcAt.tuples (A:=A) (e:=fun j=>decide (a[j]?=b[j]?)) o o' (by lia) fun j h1 h2=>by
    have g1:its.toList[j]?=some its[j]:=by simp[h1]
    have g2:its'.toList[j]?=some its'[j]:=by simp[h2]
    obtain⟨k1,e1,r1⟩:=p.get g1;obtain⟨k2,e2,r2⟩:=q.get g2;have:=AD n k1 k2 _ _ A.in1 (wSa (K8 (wYa e1)) (by lia)) r1 r2 (by rw[Around.in1_units];lia);rw[e1,e2];have ee:decide (some k1=some k2)=decide (k1=k2):=by
     by_cases z:k1=k2
     ·rw[decide_eq_true z,decide_eq_true (by rw[z])]
     ·rw[decide_eq_false z,decide_eq_false (fun y=>z (Option.some.inj y))]
    rw[ee];exact this
   refine .of_refs hl ?_;rw[Vp (c:=((List.range (min its.size its'.size)).all (fun j=>decide (a[j]?=b[j]?))&&its.size==its'.size))]
   ·exact ev
   ·rw[Bool.and_eq_true,beq_iff_eq,List.all_eq_true];have z1:its.size=a.length:=by rw[<-l1];simp
    have z2:its'.size=b.length:=by rw[<-l2];simp
    rw[z1,z2];constructor
    ·rintro⟨h1,h2⟩;congr 1;refine List.ext_getElem? fun j=>?_;by_cases hj:j < a.length
     ·exact of_decide_eq_true (h1 j (by simp;lia))
     ·rw[List.getElem?_eq_none (by lia),List.getElem?_eq_none (by lia)]
    ·intro h;cases h;exact⟨fun j _=>by simp,rfl⟩
end
theorem KR:∀(n:Nat) (k:KD) (v:Value) (A:Around) (Q:Bool->Shared->Prop),k.dep<=n->jN s.heap k v->Q true s->wpAny (model prog w) A (eqIsQuiet n v) Q E s
 | n,.i _,v,A,Q,_,p,h=>by
  rw[jN]at p;rcases p with⟨t,rfl⟩ | ⟨b,rfl,_⟩
  ·rw[eqIsQuiet_byValue n (v:=.int _ t) rfl];exact wBa h
  ·rw[eqIsQuiet_byValue n (v:=.bool b) rfl];exact wBa h
 | n,.s x,v,A,Q,_,p,h=>by
  rw[jN]at p;obtain⟨t,rfl⟩:=p;rw[eqIsQuiet_byValue n (v:=.str x t) rfl];exact wBa h
 | 0,.t l,v,A,Q,hn,p,h=>by rw[KD.dep]at hn;lia
 | n+1,.t l,v,A,Q,hn,p,h=>by
  rw[KD.dep]at hn;rw[jN]at p;obtain⟨a,its,rfl,o,p⟩:=p;obtain⟨ob,g,c,m,dt⟩:=o;have ty:s.TypeIs (.ref a) "tuple" := ⟨ob,g,c⟩
  unfold eqIsQuiet;refine wAa (wpAny_specialOf ty F.slot_tuple_eq.lookup ?_);refine(show wpAny _ _ (isInstance (.ref a) (.type "tuple") >>= _) _ _ s from wAa (wpAny_isInstance ty isSubtype_tuple_tuple ?_));rw[if_neg (by decide)];refine wAa (wpAny_seqItems g dt (wAa ?_));rw[Option.getD_some,<-Array.forIn_toList];have ql:∀(rest:List Value),(∃ks,J0 s.heap ks rest/\Yi ks<=n)->wpAny (model prog w) A (forIn rest ((none:Option Bool),PUnit.unit) fun y r=>do
    if (!(<-eqIsQuiet n y))=true then pure (ForInStep.done (some false,PUnit.unit))else do pure PUnit.unit;pure (ForInStep.yield (none,PUnit.unit))) (fun r s'=>r=(none,PUnit.unit)/\s'=s) E s:=by
   intro rest;induction rest with
   | nil=>intro _;rw[List.forIn_nil];exact wBa ⟨rfl,rfl⟩
   | cons y rest ih=>
    rintro⟨ks,hk,hd⟩;cases ks with
    | nil=>rw[J0]at hk;cases hk
    | cons k ks=>
     rw[J0]at hk;obtain⟨_,_,e,k1,k2⟩:=hk;cases e;rw[Yi]at hd;rw[List.forIn_cons];refine wAa (wAa (KR n k y A _ (by lia) k1 ?_));rw[if_neg (by decide)];exact wBa (ih ⟨ks,k2,by lia⟩)
  refine wCa (ql its.toList ⟨l,p,by lia⟩) ?_ fun _ _ x=>x;rintro r s' ⟨rfl,rfl⟩;exact wBa h
def yg(prog:Program)(w:World):HeapKind prog w KD where
 is:=fun h k a=>jN h k (.ref a)/\k.dep<=8
 hash:=US w
 draws:=KD.drw
 room:=fun A=>A.units+8 < cLine
 inj:=fun p q=>p.1.inj q.1
 keeps:=fun p ho hd hs=>by
  refine⟨p.1.keep fun b its t=>?_,p.2⟩;obtain⟨ob,g,c,m,dt⟩:=t;refine⟨ob,(hs.2 b ?_).trans g,c,m,dt⟩;rintro rfl;rw[ho]at g;cases g;rw[hd]at dt;cases dt
 pyHash:=fun hu p h=>WL _ _ _ _ _ p.1 (by have:=p.2;lia) h
 eqBool:=fun hu p q h=>AD 8 _ _ _ _ _ p.2 p.1 q.1 hu _ _ _ _ h
 quiet:=fun p h=>KR 8 _ _ _ _ p.2 p.1 h
noncomputable abbrev ZJ:=Sum Int Str
noncomputable def AE:ZJ->Value->Bool
 | .inl k,v=>Value.isInt k v
 | .inr x,v=>Value.isStrOf x v
noncomputable def ip(w:World):ZJ->Int
 | .inl k=>hashInt k
 | .inr x=>hashStr w x
theorem JD:∀{k:ZJ} {v:Value},AE k v=true->(∃i t,k=Sum.inl i/\v=Value.int i t) \/ (∃x t,k=Sum.inr x/\v=Value.str x t)
 | .inl i,v,h=>by
  obtain⟨t,e⟩:=Value.isInt_shape (k:=i) (v:=v) h;exact .inl ⟨i,t,rfl,e⟩
 | .inr x,v,h=>by
  obtain⟨t,e⟩:=Value.isStrOf_shape (x:=x) (v:=v) h;exact .inr ⟨x,t,rfl,e⟩
def Cj(a b:Int):decide ((Sum.inl a:ZJ)=Sum.inl b)=(a==b):=by
 by_cases e:a=b
 ·subst e;simp
 ·have h:¬(Sum.inl a:ZJ)=Sum.inl b:=fun q=>e (Sum.inl.inj q);rw[decide_eq_false h];exact(beq_eq_false_iff_ne.mpr e).symm
def Cl(a b:Str):decide ((Sum.inr a:ZJ)=Sum.inr b)=decide (a=b):=by
 by_cases e:a=b
 ·subst e;simp
 ·have h:¬(Sum.inr a:ZJ)=Sum.inr b:=fun q=>e (Sum.inr.inj q);rw[decide_eq_false h,decide_eq_false e]
def Cm(a:Int)(b:Str):decide ((Sum.inl a:ZJ)=Sum.inr b)=false:=vBa (fun q=>nomatch q)
def Cn(a:Str)(b:Int):decide ((Sum.inr a:ZJ)=Sum.inl b)=false:=vBa (fun q=>nomatch q)
def kv(prog:Program)(w:World):PySem.KeyKind prog w ZJ where
 is:=AE
 hash:=ip w
 inj:=fun v a b ha hb=>by
  rcases JD ha with⟨i,t,rfl,rfl⟩ | ⟨x,t,rfl,rfl⟩
  ·rcases JD hb with⟨j,u,rfl,e⟩ | ⟨y,u,rfl,e⟩
   ·injection e with e1 _;rw[e1]
   ·exact nomatch e
  ·rcases JD hb with⟨j,u,rfl,e⟩ | ⟨y,u,rfl,e⟩
   ·exact nomatch e
   ·injection e with e1 _;rw[e1]
 byValue:=fun k v h=>by
  rcases JD h with⟨i,t,rfl,rfl⟩ | ⟨x,t,rfl,rfl⟩ <;> rfl
 pyHash:=fun hv h=>by
  rcases JD hv with⟨i,t,rfl,rfl⟩ | ⟨x,t,rfl,rfl⟩
  ·exact wpAny_pyHash_int h
  ·exact wpAny_pyHash_str h
 eqBool:=fun hu hv h=>by
  rcases JD hu with⟨i,t,rfl,rfl⟩ | ⟨x,t,rfl,rfl⟩
  ·rcases JD hv with⟨j,u,rfl,rfl⟩ | ⟨y,u,rfl,rfl⟩
   ·rw[Cj]at h;exact wpAny_eqBool_int h
   ·rw[Cm]at h;exact SeqAt.EqAt.int_str i t y u _ _ _ _ h
  ·rcases JD hv with⟨j,u,rfl,rfl⟩ | ⟨y,u,rfl,rfl⟩
   ·rw[Cn]at h;exact SeqAt.EqAt.str_int x t j u _ _ _ _ h
   ·rw[Cl]at h;exact wpAny_eqBool_str h
 «strs»:=fun k x t v h=>by
  rcases JD h with⟨i,u,rfl,e⟩ | ⟨y,u,rfl,e⟩
  ·exact nomatch e
  ·injection e with e1 _;subst e1;cases v <;> rfl
inductive V where
 | non | bl (b:Bool) | int (i:Int) | str (x:Str) | ref (a:Addr) | ty (n:String)
 deriving DecidableEq
def jq:V->Value->Prop
 | .non,u=>u=Value.none
 | .bl b,u=>u=Value.bool b
 | .int i,u=>∃t,u=Value.int i t
 | .str x,u=>∃t,u=Value.str x t
 | .ref a,u=>u=Value.ref a
 | .ty n,u=>u=Value.type n
abbrev jp:List V->List Value->Prop:=Paired jq
def jp.length{xs:List V}{us:List Value}(r:jp xs us):xs.length=us.length:=Paired.length r
theorem jp.get:∀{xs:List V} {us:List Value} {i:Nat} {x:V},jp xs us->xs[i]?=some x->∃u,us[i]?=some u/\jq x u
 | _,_,_,_,.nil,e=>by simp at e
 | _,_,0,_,.cons r _,e=>by simp at e;subst e;exact⟨_,rfl,r⟩
 | _,_,i+1,x,.cons _ t,e=>by
  obtain⟨u,h1,h2⟩:=jp.get (i:=i) (x:=x) t (by simpa using e);exact⟨u,by simpa using h1,h2⟩
theorem jp.set(r:jq x u):∀{xs:List V} {us:List Value} (i:Nat),jp xs us->jp (xs.set i x) (us.set i u)
 | _,_,_,.nil=>.nil
 | _,_,0,.cons _ t=>.cons r t
 | _,_,i+1,.cons q t=>.cons q (jp.set r i t)
theorem jp.append:∀{xs ys:List V} {us ws:List Value},jp xs us->jp ys ws->jp (xs++ys) (us++ws)
 | _,_,_,_,.nil,s=>s
 | _,_,_,_,.cons r t,s=>.cons r (jp.append t s)
theorem jp.take:∀{xs:List V} {us:List Value} (n:Nat),jp xs us->jp (xs.take n) (us.take n)
 | _,_,0,_=>.nil
 | _,_,_+1,.nil=>.nil
 | _,_,n+1,.cons r t=>.cons r (jp.take n t)
theorem jp.drop:∀{xs:List V} {us:List Value} (n:Nat),jp xs us->jp (xs.drop n) (us.drop n)
 | _,_,0,r=>r
 | _,_,_+1,.nil=>.nil
 | _,_,n+1,.cons _ t=>jp.drop n t
def Vc:Option V->Option Value->Prop
 | some v,some u=>jq v u
 | none,none=>True
 | _,_=>False
def KV:List (κ×V)->List (κ×Value)->Prop:=Paired fun(p:κ×V) (q:κ×Value)=>p.1=q.1/\jq p.2 q.2
noncomputable def kV:ZJ->V
 | .inl i=>.int i
 | .inr x=>.str x
inductive HO where
 | lst (xs:List V)
 | tup (xs:List V)
 | dD (kvs:List (KD×Addr×V)) (ep:Nat)
 | ins (C dx:Addr) (fs:List (Str×V))
 | own (x:Addr)
 | met (f x:Addr)
 | rng (lo hi:Int)
 | frz (o:Obj) (u:HO)
 | tbl (ps:Array Value)
 | ext (φ:Heap->Prop)
noncomputable abbrev Hp:=Addr->Option HO
noncomputable def upd(H:Hp)(a:Addr)(o:HO):Hp:=fun b=>if b=a then some o else H b
def jw:upd H a o a=some o:=by unfold upd;rw[if_pos rfl]
def jh{H:Hp}{a b:Addr}{o:HO}(h:b≠a):upd H a o b=H b:=by unfold upd;rw[if_neg h]
def jy{H:Hp}{a b:Addr}{o:HO}(h:H a=some o)(h':H b=none):a≠b:=by
 intro e;subst e;rw[h]at h';cases h'
section
variable (P:Program) (w:World)
def Jq(H:Hp)(h:Heap)(a:Addr):HO->Prop
 | .lst xs=>xs.length<=sizeLine/\∃(its:List Value) (n:Nat),jp xs its/\h.get? a=some { cls:=.type "list",data:=.seq its.toArray n }
 | .tup xs=>xs.length<=sizeLine/\∃its:List Value,jp xs its/\IsTup h a its.toArray
 | .dD kvs ep=>kvs.length<=sizeLine/\(a==sysModules)=false/\(kvs.map (·.1)).Nodup/\∃xs:List (KD×Addr×Value),
   Paired (fun(p:KD×Addr×V) (q:KD×Addr×Value)=>p.1=q.1/\p.2.1=q.2.1/\jq p.2.2 q.2.2) kvs xs/\
   ∃o es,h.get? a=some o/\o.ExactDict/\o.data=.dict es ep/\es.toList=xs.map (entryOfKey (yg P w))
 | .ins C dx fs=>H dx=some (.own a)/\fs.length<=1000/\dx≠a/\h.get? a=some (PySem.W.instObj C dx)/\
   ∃mA,h.Ns1 dx mA/\(∀f,Vc (fs.lookup f) (mA f))/\PySem.Within mA (fs.map (·.1))
 | .own _=>∃o,h.get? a=some o
 | .rng lo hi=>∃t u v,h.get? a=some { cls:=.type "range",data:=.fields #[.int lo t,.int hi u,.int 1 v] }
 | .frz o u=>h.get? a=some o/\Jq H h a u
 | .tbl ps=>h.get? a=some { cls:=.none,data:=.fields ps }
 | .met f x=>h.get? a=some (PySem.W.methodObj (.ref f) (.ref x))
 | .ext φ=>φ h/\(∃o,h.get? a=some o)/\∀h1 h2:Heap,φ h1->(∀o,h1.get? a=some o->h2.get? a=some o)->φ h2
def yh(H:Hp)(h:Heap):Prop:=∀a o,H a=some o->Jq P w H h a o
end
section
variable {P:Program} {w:World} {H H':Hp} {h h':Heap} {a:Addr} {o:HO}
def Jq.lt(x:Jq P w H h a o):a < h.objs.size:=by
 cases o with
 | lst xs=>obtain⟨_,_,_,_,e⟩:=x;exact wLa e
 | tup xs=>obtain⟨_,_,_,p⟩:=x;exact p.lt
 | dD kvs ep=>obtain⟨_,_,_,_,_,o,_,e,_⟩:=x;exact wLa e
 | ins C dx fs=>obtain⟨_,_,_,e,_⟩:=x;exact wLa e
 | own y=>obtain⟨_,e⟩:=x;exact wLa e
 | rng lo hi=>obtain⟨_,_,_,e⟩:=x;exact wLa e
 | frz ob u=>obtain⟨e,_⟩:=x;exact wLa e
 | tbl ps=>exact wLa (show h.get? a=some _ from x)
 | met f y=>exact wLa (show h.get? a=some _ from x)
 | ext φ=>obtain⟨_,⟨_,e⟩,_⟩:=x;exact wLa e
theorem Paired.mapP:∀{l₁:List α} {l₂:List β},Paired F l₁ l₂->(∀a b,F a b->G a b)->Paired G l₁ l₂
 | _,_,.nil,_=>.nil
 | _,_,.cons r t,f=>.cons (f _ _ r) (Paired.mapP t f)
theorem Jq.stay(x:Jq P w H h a o)(k:∀b u,(b=a \/ H b=some (.own a))->h.get? b=some u->h'.get? b=some u)
  (ho:∀b,H b=some (.own a)->H' b=some (.own a)) (ht:∀b xs,H b=some (.tup xs)->H' b=some (.tup xs)):Jq P w H' h' a o:=by
 induction o with
 | lst xs=>obtain⟨z,its,n,r,e⟩:=x;exact⟨z,its,n,r,k _ _ (.inl rfl) e⟩
 | tup xs=>obtain⟨z,its,r,ob,e,c⟩:=x;exact⟨z,its,r,ob,k _ _ (.inl rfl) e,c⟩
 | dD kvs ep=>obtain⟨z,y,nd,xs,r,ob,es,e,c⟩:=x;exact⟨z,y,nd,xs,r,ob,es,k _ _ (.inl rfl) e,c⟩
 | ins C dx fs=>
  obtain⟨d,z,ne,e,mA,⟨od,es,ep,e2,c⟩,r⟩:=x;exact⟨ho _ d,z,ne,k _ _ (.inl rfl) e,mA,⟨od,es,ep,k _ _ (.inr d) e2,c⟩,r⟩
 | own y=>obtain⟨ob,e⟩:=x;exact⟨ob,k _ _ (.inl rfl) e⟩
 | rng lo hi=>obtain⟨t,u,v,e⟩:=x;exact⟨t,u,v,k _ _ (.inl rfl) e⟩
 | frz ob u ih=>obtain⟨e,q⟩:=x;exact⟨k _ _ (.inl rfl) e,ih q⟩
 | tbl ps=>
  have e:h.get? a=some { cls:=.none,data:=.fields ps }:=x;show h'.get? a=some { cls:=.none,data:=.fields ps };exact k a _ (.inl rfl) e
 | met f y=>
  have e:h.get? a=some (PySem.W.methodObj (.ref f) (.ref y)):=x;show h'.get? a=some (PySem.W.methodObj (.ref f) (.ref y));exact k a _ (.inl rfl) e
 | ext φ=>obtain⟨p,⟨o,e⟩,st⟩:=x;exact⟨st _ _ p fun o q=>k _ _ (.inl rfl) q,⟨o,k _ _ (.inl rfl) e⟩,st⟩
def yh.lt(x:yh P w H h)(e:H a=some o):a < h.objs.size:=(x a o e).lt
def yh.fresh(x:yh P w H h)(e:h.objs.size<=a):H a=none:=by
 cases q:H a with
 | none=>rfl
 | some u=>exact vDa (Nat.lt_of_lt_of_le (x.lt q) e) (wUa _)
def yh.kept(x:yh P w H h)(k:∀b u,h.get? b=some u->h'.get? b=some u):yh P w H h':=fun a o e=>
 (x a o e).stay (fun b u _ q=>k b u q) (fun _ q=>q) fun _ _ q=>q
def yh.laid(x:yh P w H h)(k:∀b u,h.get? b=some u->h'.get? b=some u)(hp:h.objs.size<=a)(new:Jq P w (upd H a o) h' a o):yh P w (upd H a o) h':=fun b u e=>by
 have hn:=x.fresh hp;by_cases hb:b=a
 ·subst hb;rw[jw]at e;cases e;exact new
 ·rw[jh hb]at e;exact(x b u e).stay (fun c v _ q=>k c v q) (fun c q=>by rw[jh (jy q hn)];exact q) fun c xs q=>by rw[jh (jy q hn)];exact q
end
def Rd(H:Hp)(a:Addr)(u:HO):Prop:=H a=some u \/∃o,H a=some (.frz o u)
def Rd.ok{P:Program}{w:World}{H:Hp}{h:Heap}{a:Addr}{u:HO}(r:Rd H a u)(x:yh P w H h):Jq P w H h a u:=by
 rcases r with r | ⟨o,r⟩
 ·exact x a u r
 ·obtain⟨_,q⟩:=x a _ r;exact q
def AF:Option HO->Prop
 | some (.lst _)=>True
 | some (.dD _ _)=>True
 | some (.ins _ _ _)=>True
 | some (.ext _)=>True
 | _=>False
section
variable {P:Program} {w:World} {H:Hp} {h h':Heap} {x e:Addr} {o':HO}
def yh.write(ok:yh P w H h)(mu:AF (H x))(he:e=x \/ H e=some (.own x))(k:∀b u,b≠e->h.get? b=some u->h'.get? b=some u)(heo:∃u,h'.get? e=some u)
  (new:Jq P w (upd H x o') h' x o'):yh P w (upd H x o') h':=fun b u q=>by
 have nown:∀c y,H c=some (.own y)->c≠x:=fun c y r z=>by subst z;rw[r]at mu;exact mu
 have ntup:∀c xs,H c=some (.tup xs)->c≠x:=fun c xs r z=>by subst z;rw[r]at mu;exact mu
 by_cases hb:b=x
 ·subst hb;rw[jw]at q;cases q;exact new
 ·rw[jh hb]at q;by_cases hbe:b=e
  ·have q':H b=some (.own x):=by
    rcases he with z | z
    ·exact vDa (hbe.trans z) hb
    ·rw[hbe];exact z
   rw[q]at q';cases q';obtain⟨v,hv⟩:=heo;exact⟨v,by rw[hbe];exact hv⟩
  ·refine(ok b u q).stay (fun c v hc r=>k c v ?_ r) (fun c r=>by rw[jh (nown c b r)];exact r) fun c xs r=>by rw[jh (ntup c xs r)];exact r
   rcases hc with rfl | hc
   ·exact hbe
   ·rintro rfl;rcases he with z | z
    ·exact nown c b hc z
    ·rw[hc]at z;cases z;exact hb rfl
end
structure Un (fs ex:List Addr) (H H':Hp) (h h':Heap):Prop where
 keep:∀b o,h.get? b=some o->H b=none->b∉fs->b∉ex->h'.get? b=some o
 slot:∀b o,h.get? b=some o->H b=none->b∈fs->b∉ex->∃sl,h'.get? b=some { o with slots:=sl }
 free:∀b o,h.get? b=some o->H b=none->b∉ex->H' b=none
 there:∀b o,h.get? b=some o->b∉ex->∃o',h'.get? b=some o'
 tups:∀b xs,H b=some (.tup xs)->H' b=some (.tup xs)
 frzs:∀b o u,H b=some (.frz o u)->H' b=some (.frz o u)
 tbls:∀b ps,H b=some (.tbl ps)->∃more,H' b=some (.tbl (ps++more))
section
variable {fs fs' ex ex':List Addr} {H H1 H2:Hp} {h h1 h2 h':Heap} {a x e:Addr} {o:HO}
def Un.any(u:Un fs ex H H1 h h1){b:Addr}{ob:Obj}(q:h.get? b=some ob)(n:H b=none)(hx:b∉ex):∃sl,h1.get? b=some { ob with slots:=sl }:=by
 by_cases hb:b∈fs
 ·exact u.slot b ob q n hb hx
 ·exact⟨ob.slots,u.keep b ob q n hb hx⟩
def Un.kept(k:∀b u,h.get? b=some u->h'.get? b=some u):Un fs ex H H h h':=
 ⟨fun b ob q _ _ _=>k b ob q,fun b ob q _ _ _=>⟨ob.slots,k b ob q⟩,fun _ _ _ n _=>n,fun b ob q _=>⟨ob,k b ob q⟩,fun _ _ q=>q,fun _ _ _ q=>q,fun _ ps q=>⟨#[],by rw[q];simp⟩⟩
def Un.refl:Un fs ex H H h h:=Un.kept fun _ _ q=>q
def Un.laid(k:∀b u,h.get? b=some u->h'.get? b=some u)(hp:h.objs.size<=a)(hn:H a=none):Un fs ex H (upd H a o) h h' where
 keep:=fun b u q _ _ _=>k b u q
 slot:=fun b u q _ _ _=>⟨u.slots,k b u q⟩
 free:=fun b u q n _=>by rw[jh (Nat.ne_of_lt (Nat.lt_of_lt_of_le (Heap.lt_size q) hp))];exact n
 there:=fun b u q _=>⟨u,k b u q⟩
 tups:=fun b xs q=>by rw[jh (jy q hn)];exact q
 frzs:=fun b u xs q=>by rw[jh (jy q hn)];exact q
 tbls:=fun b ps q=>⟨#[],by rw[jh (jy q hn),q];simp⟩
def Un.write(mu:AF (H x))(he:e=x \/ H e=some (.own x))(k:∀b u,b≠e->h.get? b=some u->h'.get? b=some u)(heo:∃u,h'.get? e=some u):Un fs ex H (upd H x o) h h':=by
 have hx:∀b,H b=none->b≠x:=fun b n z=>by subst z;rw[n]at mu;exact mu
 have hb:∀b,H b=none->b≠e:=fun b n z=>by
  subst z;rcases he with r | r
  ·exact hx b n r
  ·rw[n]at r;cases r
 have hm:∀b u,H b=some u->¬AF (some u)->b≠x:=fun b u q nm z=>by subst z;rw[q]at mu;exact nm mu
 refine⟨fun b u q n _ _=>k b u (hb b n) q,fun b u q n _ _=>⟨u.slots,k b u (hb b n) q⟩,fun b u q n _=>by rw[jh (hx b n)];exact n,fun b u q _=>?_,
  fun b xs q=>by rw[jh (hm b _ q fun z=>z)];exact q,fun b u xs q=>by rw[jh (hm b _ q fun z=>z)];exact q,fun b ps q=>⟨#[],by rw[jh (hm b _ q fun z=>z),q];simp⟩⟩
 by_cases hbe:b=e
 ·subst hbe;exact heo
 ·exact⟨u,k b u hbe q⟩
end
noncomputable def vV(h:Heap)(H:Hp):List Addr:=(List.range h.objs.size).filter fun a=>(H a).isSome
def VP(h:Heap)(H:Hp):Heap:=PySem.W.hideAll h (vV h H)
def QF(h:Heap)(H:Hp):(VP h H).objs.size=h.objs.size:=PySem.W.hideAll_size _ _
def Xz(e:h.get? b=some o)(n:H b=none):(VP h H).get? b=some o:=
 PySem.W.hideAll_get _ e fun hm=>by
  have q:(H b).isSome=true:=(List.mem_filter.mp hm).2;rw[n]at q;simp at q
def B4(e:(VP h H).get? b=some o):h.get? b=some o/\H b=none:=by
 have e':h.get? b=some o:=PySem.W.of_hideAll (vV h H) e;refine⟨e',?_⟩;cases q:H b with
 | none=>rfl
 | some x=>
  have hm:b∈vV h H:=List.mem_filter.mpr ⟨List.mem_range.mpr (wLa e'),by simp[q]⟩;have z:(VP h H).get? b=none:=PySem.W.hideAll_none (vV h H) hm;rw[z]at e;cases e
structure Mod (K:uXa) (mg:Tj) (base:Heap):Prop where
 kin:K.In base
 glob:base.Ns mainGlobals mg
 blt:∃mb,base.Ns builtinsNs mb/\∀x:Str,x≠ "__name__" ->mb x=bootBuiltins x
 nolimit:base.NoLimit
structure Cx where
 prog:Program
 w:World
 K:uXa
 mg:Str->Option Value
 base:Heap
 A:Around
 N:List Str
 s₀:Shared
 H₀:Hp
 env:Env
 outer:List Env
 stack:List Env
 ex:List Addr
 fn:Str->Bool
 calm:Bool
 pn:List (Addr×Obj)
 xe:Value->Shared->Prop
noncomputable def Jh(l:List Env):List Addr:=l.filterMap (·.frame)
abbrev Cx.fs(X:Cx):List Addr:=Jh X.outer
def Gx(sc:Scope)(x:Str):Prop:=sc.names.lookup x=some .local \/ sc.names.lookup x=some .cell \/ sc.names.lookup x=some .free
def gp(sc:Scope)(x:Str):Prop:=sc.names.lookup x=some .local \/ sc.names.lookup x=some .cell
def iq(env:Env)(h:Heap)(m:Tj)(x:Str)(u:Value):Prop:=
 (env.kindOf x=some .local/\m x=some u) \/ ((env.kindOf x=some .cell \/ env.kindOf x=some .free)/\∃c,env.cells.lookup x=some c/\h.IsCell c (some u))
structure Cx.Ok (X:Cx):Prop where
 mod:Mod X.K X.mg X.base
 kind:X.env.scope.kind=.function
 glob:X.env.globals=mainGlobals
 blt:X.env.builtins=builtinsNs
 above:X.s₀.heap.objs.size<=X.env.locals
 inj:∀x y c,X.env.cells.lookup x=some c->X.env.cells.lookup y=some c->x=y
 has:∀x,(X.env.kindOf x=some .cell \/ X.env.kindOf x=some .free)->∃c,X.env.cells.lookup x=some c
 cab:∀x c,X.fn x=true->X.env.cells.lookup x=some c->X.s₀.heap.objs.size<=c
 hd:X.calm=true->X.A.handled=none
 frames:X.A.frames=some X.stack
 stk:X.stack=X.outer \/ (X.stack=X.env::X.outer/\X.env.frame=some X.env.locals)
 exf:∀b∈X.ex,b≠X.env.locals/\∀x c,X.env.cells.lookup x=some c->c≠b
 bs:∀b o,X.base.get? b=some o->X.s₀.heap.get? b=some o/\X.H₀ b=none
 bsz:X.base.objs.size<=X.s₀.heap.objs.size
 noex:∀b o,X.base.get? b=some o->b∉X.ex
 exfs:∀b∈X.ex,b∉X.fs
 funs:X.s₀.heap.FunFrames X.base X.outer
 frf:∀b∈X.fs,X.H₀ b=none
structure Inv (X:Cx) (pins:Tq) (U:List (Option V)) (H:Hp) (s:Shared):Prop where
 ok:X.Ok
 os:s.os=X.s₀.os
 bare:AllBare s.gens
 base:Un X.fs X.ex X.H₀ H X.s₀.heap s.heap
 loc:∃m,s.heap.Ns X.env.locals m/\∀(i:Nat) (x:Str) (v:V),X.N[i]?=some x->U[i]?=some (some v)->Gx X.env.scope x->∃u,jq v u/\iq X.env s.heap m x u
 cell:∀x c,X.env.cells.lookup x=some c->∃v,s.heap.IsCell c v
 free:H X.env.locals=none
 freeC:∀x c,X.env.cells.lookup x=some c->H c=none
 pin:∀p∈X.pn++pins,s.heap.get? p.1=some p.2/\H p.1=none/\p.1≠X.env.locals/\p.1∉X.fs/\∀v,p.2.data≠.cell v
 hok:yh X.prog X.w H s.heap
 len:U.length=X.N.length
section
variable {X:Cx} {pins:Tq} {U:List (Option V)} {H H':Hp} {s:Shared} {h':Heap}
def Cx.Ok.nofr(ok:X.Ok){b:Addr}{o:Obj}(e:X.base.get? b=some o):b∉X.fs:=fun hb=>by
 have:=(ok.funs.mem hb).1;rw[e]at this;cases this
def Inv.bs(I:Inv X pins U H s):∀b o,X.base.get? b=some o->s.heap.get? b=some o/\H b=none:=fun b o e=>
 ⟨I.base.keep b o (I.ok.bs b o e).1 (I.ok.bs b o e).2 (I.ok.nofr e) (I.ok.noex b o e),I.base.free b o (I.ok.bs b o e).1 (I.ok.bs b o e).2 (I.ok.noex b o e)⟩
def Inv.bk(I:Inv X pins U H s):∀b o,X.base.get? b=some o->s.heap.get? b=some o:=fun b o e=>(I.bs b o e).1
def Inv.mod(I:Inv X pins U H s):Mod X.K X.mg X.base:=I.ok.mod
def Inv.kIn(I:Inv X pins U H s):X.K.In s.heap:=I.ok.mod.kin.keeps I.bk
def Inv.lt(I:Inv X pins U H s):X.env.locals < s.heap.objs.size:=let ⟨_,hn,_⟩:=I.loc;hn.lt
def Inv.sz(I:Inv X pins U H s):X.s₀.heap.objs.size<=s.heap.objs.size:=wSa I.ok.above (wQa I.lt)
def Inv.nofs(I:Inv X pins U H s)(h:s.heap.objs.size<=a):a∉X.fs:=fun hb=>by
 obtain⟨_,o,ho,_⟩:=I.ok.funs.mem hb;exact vDa (Nat.lt_of_lt_of_le (wLa ho) (wSa I.sz h)) (wUa _)
def Inv.cne(I:Inv X pins U H s):∀x c,X.env.cells.lookup x=some c->c≠X.env.locals:=fun x c e z=>by
 obtain⟨v,o,ho,hd⟩:=I.cell x c e;obtain⟨m,⟨o',es,ep,ho',hd',_⟩,_⟩:=I.loc;rw[z,ho']at ho;cases ho;rw[hd']at hd;cases hd
def Inv.funs(I:Inv X pins U H s):s.heap.FunFrames X.base X.outer:=by
 have all:∀(l:List Env),(∀b∈Jh l,b∈X.fs)->X.s₀.heap.FunFrames X.base l->s.heap.FunFrames X.base l:=by
  intro l;induction l with
  | nil=>intro _ _;trivial
  | cons env r ih=>
   intro hs hl;obtain⟨hk,⟨L,o,hf,hn,ho,hd⟩,hr⟩:=hl;have hL:L∈X.fs:=hs L (by unfold Jh;rw[List.filterMap_cons,hf];exact wNa);obtain⟨sl,e⟩:=I.base.slot L o ho (I.ok.frf L hL) hL fun z=>I.ok.exfs L z hL;exact⟨hk,⟨L,_,hf,hn,e,hd⟩,ih (fun b hb=>hs b (by unfold Jh;rw[List.filterMap_cons,hf];exact wMa _ hb)) hr⟩
 exact all X.outer (fun _ hb=>hb) I.ok.funs
def Inv.stack(I:Inv X pins U H s):s.heap.FunFrames X.base X.stack:=by
 rcases I.ok.stk with e | ⟨e,hf⟩
 ·rw[e];exact I.funs
 ·rw[e];obtain⟨m,hn,_⟩:=I.loc;refine .cons (by rw[I.ok.kind];decide) hf hn ?_ I.funs;exact Heap.get?_none_of_le (wSa I.ok.bsz I.ok.above)
def Inv.stkSub(I:Inv X pins U H s):∀b∈Jh X.stack,b∈X.env.locals::X.fs:=fun b hb=>by
 rcases I.ok.stk with e | ⟨e,hf⟩
 ·rw[e]at hb;exact wMa _ hb
 ·rw[e]at hb;unfold Jh at hb;rw[List.filterMap_cons,hf]at hb;exact hb
def Inv.stkFree(I:Inv X pins U H s):∀b∈Jh X.stack,H b=none:=fun b hb=>by
 rcases uTa (I.stkSub b hb)with e | hb
 ·rw[e];exact I.free
 ·obtain⟨_,o,ho,_⟩:=I.ok.funs.mem hb;exact I.base.free b o ho (I.ok.frf b hb) fun z=>I.ok.exfs b z hb
def Inv.step{g':Array GenState}{t':Nat}{d':Drawn}{ch:List Addr}(I:Inv X pins U H s)
  (hch:∀b∈ch,(b∈X.ex \/ X.s₀.heap.objs.size<=b)/\b≠X.env.locals/\(∀x c,X.env.cells.lookup x=some c->c≠b)/\∀p∈X.pn++pins,p.1≠b)
  (keep:∀b o,b≠X.env.locals->b∉X.fs->b∉ch->s.heap.get? b=some o->H b=none->h'.get? b=some o)
  (slot:∀b o,b≠X.env.locals->b∈X.fs->b∉ch->s.heap.get? b=some o->H b=none->∃sl,h'.get? b=some { o with slots:=sl }) (free:∀b o,b∉ch->s.heap.get? b=some o->H b=none->H' b=none)
  (there:∀b o,b∉ch->s.heap.get? b=some o->∃o',h'.get? b=some o')
  (tups:∀b xs,H b=some (.tup xs)->H' b=some (.tup xs)) (frzs:∀b o u,H b=some (.frz o u)->H' b=some (.frz o u)) (tbls:∀b ps,H b=some (.tbl ps)->∃more,H' b=some (.tbl (ps++more)))
  (ns:∀m,s.heap.Ns X.env.locals m->h'.Ns X.env.locals m) (hok:yh X.prog X.w H' h') (hg:AllBare g'):
  Inv X pins U H' { s with heap:=h',gens:=g',drawn:=d',toks:=t' }:=by
 have neL:∀b o,X.s₀.heap.get? b=some o->b≠X.env.locals:=fun b o e=>wTa (Nat.lt_of_lt_of_le (wLa e) I.ok.above);have neC:∀b o,X.s₀.heap.get? b=some o->b∉X.ex->b∉ch:=fun b o e hx hb=>by
  rcases(hch b hb).1 with z | z
  ·exact hx z
  ·exact vDa (Nat.lt_of_lt_of_le (wLa e) z) (wUa _)
 have cellK:∀x c,X.env.cells.lookup x=some c->∀v,s.heap.IsCell c v->h'.IsCell c v:=fun x c e v xx=>by
  obtain⟨o,ho,hd⟩:=xx;have nch:c∉ch:=fun z=>(hch c z).2.2.1 x c e rfl;by_cases hc:c∈X.fs
  ·obtain⟨sl,q⟩:=slot c o (I.cne x c e) hc nch ho (I.freeC x c e);exact⟨_,q,hd⟩
  ·exact⟨o,keep c o (I.cne x c e) hc nch ho (I.freeC x c e),hd⟩
 refine⟨I.ok,I.os,hg,⟨fun b o e n hb hx=>?_,fun b o e n hb hx=>?_,fun b o e n hx=>?_,fun b o e hx=>?_,fun b xs e=>tups b xs (I.base.tups b xs e),fun b o xs e=>frzs b o xs (I.base.frzs b o xs e),fun b ps e=>?_⟩,?_,fun x c e=>?_,?_,fun x c e=>?_,fun p hp=>?_,hok,I.len⟩
 ·exact keep b o (neL b o e) hb (neC b o e hx) (I.base.keep b o e n hb hx) (I.base.free b o e n hx)
 ·obtain⟨sl,e1⟩:=I.base.slot b o e n hb hx;obtain⟨sl',e2⟩:=slot b _ (neL b o e) hb (neC b o e hx) e1 (I.base.free b o e n hx);exact⟨sl',e2⟩
 ·obtain⟨o',e1⟩:=I.base.there b o e hx;exact free b o' (neC b o e hx) e1 (I.base.free b o e n hx)
 ·obtain⟨o',e1⟩:=I.base.there b o e hx;exact there b o' (neC b o e hx) e1
 ·obtain⟨m1,e1⟩:=I.base.tbls b ps e;obtain⟨m2,e2⟩:=tbls b _ e1;exact⟨m1++m2,by rw[e2,Array.append_assoc]⟩
 ·obtain⟨m,hn,hl⟩:=I.loc;refine⟨m,ns m hn,fun i x v e1 e2 e3=>?_⟩;obtain⟨u,r,l⟩:=hl i x v e1 e2 e3;refine⟨u,r,?_⟩;rcases l with l | ⟨k,c,e,z⟩
  ·exact .inl l
  ·exact .inr ⟨k,c,e,cellK x c e _ z⟩
 ·obtain⟨v,z⟩:=I.cell x c e;exact⟨v,cellK x c e v z⟩
 ·obtain⟨m,⟨o,_,_,ho,_⟩,_⟩:=I.loc;exact free _ o (fun z=>(hch _ z).2.1 rfl) ho I.free
 ·obtain⟨v,o,ho,hd⟩:=I.cell x c e;exact free c o (fun z=>(hch c z).2.2.1 x c e rfl) ho (I.freeC x c e)
 ·obtain⟨e,n,ne,nf,d⟩:=I.pin p hp;have nch:p.1∉ch:=fun z=>(hch p.1 z).2.2.2 p hp rfl;exact⟨keep p.1 p.2 ne nf nch e n,free p.1 p.2 nch e n,ne,nf,d⟩
def Inv.un{t':Nat}(I:Inv X pins U H s)(u:Un X.fs [] H H' s.heap h')(hok:yh X.prog X.w H' h'):Inv X pins U H' { s with heap:=h',toks:=t' }:=by
 obtain⟨m,⟨o,es,ep,ho,r⟩,_⟩:=id I.loc;obtain⟨sl,hL⟩:=u.any ho I.free (by simp);exact I.step (g':=s.gens) (d':=s.drawn) (ch:=[]) (fun _ z=>nomatch z) (fun b o _ hb _ e n=>u.keep b o e n hb (by simp)) (fun b o _ hb _ e n=>u.slot b o e n hb (by simp)) (fun b o _ e n=>u.free b o e n (by simp)) (fun b o _ e=>u.there b o e (by simp)) u.tups u.frzs u.tbls (fun m' hm=>by
  obtain⟨o',es',ep',ho',r'⟩:=hm;rw[ho]at ho';cases ho';exact⟨_,es',ep',hL,r'⟩) hok I.bare
def Inv.call{g':Array GenState}{t':Nat}{d':Drawn}{ch:List Addr}(I:Inv X pins U H s)(u:Un (Jh X.stack) ch H H' s.heap h')(hok:yh X.prog X.w H' h')(hg:AllBare g')
  (hch:∀b∈ch,(b∈X.ex \/ X.s₀.heap.objs.size<=b)/\b≠X.env.locals/\(∀x c,X.env.cells.lookup x=some c->c≠b)/\∀p∈X.pn++pins,p.1≠b):
  Inv X pins U H' { s with heap:=h',gens:=g',drawn:=d',toks:=t' }:=by
 obtain⟨m,⟨o,es,ep,ho,r⟩,_⟩:=id I.loc;obtain⟨sl,hL⟩:=u.any ho I.free fun z=>(hch _ z).2.1 rfl;exact I.step (ch:=ch) hch (fun b o hL hb hc e n=>u.keep b o e n (fun z=>(uTa (I.stkSub b z)).elim hL hb) hc) (fun b o _ _ hc e n=>u.any e n hc) (fun b o hc e n=>u.free b o e n hc) (fun b o hc e=>u.there b o e hc) u.tups u.frzs u.tbls (fun m' hm=>by
  obtain⟨o',es',ep',ho',r'⟩:=hm;rw[ho]at ho';cases ho';exact⟨_,es',ep',hL,r'⟩) hok hg
def Inv.turned{t':Nat}{it:Addr}(I:Inv X pins U H s)(k:∀b o,b≠it->s.heap.get? b=some o->h'.get? b=some o)(hn:H it=none)(hL:it≠X.env.locals)
  (h1:it∈X.ex \/ X.s₀.heap.objs.size<=it) (h2:∀x c,X.env.cells.lookup x=some c->c≠it) (h3:∀p∈X.pn++pins,p.1≠it):Inv X pins U H { s with heap:=h',toks:=t' }:=by
 have nit:∀b u,H b=some u->b≠it:=fun b u e z=>by rw[z,hn]at e;cases e
 refine I.step (g':=s.gens) (d':=s.drawn) (ch:=[it]) (fun b hb=>?_) (fun b o _ _ hc e _=>k b o (fun z=>hc (by simp[z])) e) (fun b o _ _ hc e _=>⟨o.slots,k b o (fun z=>hc (by simp[z])) e⟩) (fun _ _ _ _ n=>n)
  (fun b o hc e=>⟨o,k b o (fun z=>hc (by simp[z])) e⟩) (fun _ _ e=>e) (fun _ _ _ e=>e) (fun b ps e=>⟨#[],by rw[e];simp⟩) (fun m hm=>?_) (fun b u e=>?_) I.bare
 ·have e:b=it:=by simpa using hb
  subst e;exact⟨h1,hL,h2,h3⟩
 ·obtain⟨o,es,ep,ho,r⟩:=hm;exact⟨o,es,ep,k _ o (Ne.symm hL) ho,r⟩
 ·refine(I.hok b u e).stay (fun c v hc q=>k c v ?_ q) (fun _ q=>q) fun _ _ q=>q;rcases hc with z | z
  ·rw[z];exact nit b u e
  ·exact nit c _ z
def Inv.tok(I:Inv X pins U H s)(t:Nat):Inv X pins U H { s with toks:=t }:=I.un (h':=s.heap) (t':=t) Un.refl I.hok
def Inv.kept(I:Inv X pins U H s)(k:∀b u,s.heap.get? b=some u->h'.get? b=some u):Inv X pins U H { s with heap:=h',toks:=t' }:=I.un (Un.kept k) (I.hok.kept k)
def Inv.laid(I:Inv X pins U H s)(k:∀b u,s.heap.get? b=some u->h'.get? b=some u)(hp:s.heap.objs.size<=a)(new:Jq X.prog X.w (upd H a o) h' a o):
  Inv X pins U (upd H a o) { s with heap:=h',toks:=t' }:=I.un (Un.laid k hp (I.hok.fresh hp)) (I.hok.laid k hp new)
def Inv.write(I:Inv X pins U H s)(mu:AF (H x))(he:e=x \/ H e=some (.own x))(k:∀b u,b≠e->s.heap.get? b=some u->h'.get? b=some u)(heo:∃u,h'.get? e=some u)
  (new:Jq X.prog X.w (upd H x o) h' x o):Inv X pins U (upd H x o) { s with heap:=h',toks:=t' }:=I.un (Un.write mu he k heo) (I.hok.write mu he k heo new)
def Inv.weak(I:Inv X pins U H s)(hl:U'.length=U.length)(w:∀(i:Nat) v,U'[i]?=some (some v)->U[i]?=some (some v)):Inv X pins U' H s:=
 ⟨I.ok,I.os,I.bare,I.base,let ⟨m,hn,hl'⟩:=I.loc;⟨m,hn,fun i x v e1 e2 e3=>hl' i x v e1 (w i v e2) e3⟩,I.cell,I.free,I.freeC,I.pin,I.hok,hl.trans I.len⟩
def Inv.pins_of(I:Inv X pins U H s)(h:∀p∈pins',s.heap.get? p.1=some p.2/\H p.1=none/\p.1≠X.env.locals/\p.1∉X.fs/\∀v,p.2.data≠.cell v):Inv X pins' U H s:=
 ⟨I.ok,I.os,I.bare,I.base,I.loc,I.cell,I.free,I.freeC,fun p hp=>(List.mem_append.mp hp).elim (fun z=>I.pin p (vIa _ z)) (h p),I.hok,I.len⟩
def gG{N:List Str}(hN:N.Nodup){i j:Nat}{x:Str}(a:N[i]?=some x)(b:N[j]?=some x):i=j:=by
 obtain⟨h1,e1⟩:=uSa a;obtain⟨h2,e2⟩:=uSa b;exact(List.getElem_inj hN).mp (e1.trans e2.symm)
def K9{M:Model}{A:Around}{E:Tz}{i:Nat}{x:Str}{v:V}{u:Value}{Q:Unit->Shared->Prop}(I:Inv X pins U H s)(hN:X.N.Nodup)(hi:X.N[i]?=some x)(hx:gp X.env.scope x)(r:jq v u)
  (h:∀s',Inv X pins (U.set i (some v)) H s'->(∃a,Heap.SameBut a s.heap s'.heap/\(a=X.env.locals \/ X.env.cells.lookup x=some a))->Q () s') (hf:X.fn x=true \/ X.env.scope.names.lookup x=some .local:=by first | exact .inl rfl | exact .inr rfl | assumption):wpAny M A (storeName X.env x u) Q E s:=by
 obtain⟨m,hn,hl⟩:=id I.loc;have hcls:(X.env.scope.kind==.class||(X.env.scope.kind==.module&&X.env.locals != X.env.globals))=false:=by rw[I.ok.kind];rfl
 have hiU:i < U.length:=by rw[I.len];exact(uSa hi).1
 have cne:=I.cne;have tracked:∀{a:Addr} {h':Heap},(∃o,s.heap.get? a=some o/\H a=none)->Heap.SameBut a s.heap h'->yh X.prog X.w H h':=fun {a h'} ha hs b ob e=>by
  obtain⟨_,_,hfree⟩:=ha;refine(I.hok b ob e).stay (fun c w' hc q=>(hs.2 c ?_).trans q) (fun _ q=>q) fun _ _ q=>q;rintro rfl;rcases hc with rfl | hc
  ·rw[hfree]at e;cases e
  ·rw[hfree]at hc;cases hc
 rcases hx with hk | hk
 ·refine wpAny_storeName_local hk hn (fun h' hn' hs=>?_) hcls;obtain⟨oL,_,_,hoL,_⟩:=id hn;refine h _ ⟨I.ok,I.os,I.bare,⟨fun b o e n hb hx=>?_,fun b o e n hb hx=>?_,I.base.free,fun b o e hx=>?_,I.base.tups,I.base.frzs,I.base.tbls⟩,⟨_,hn',fun j y v' e1 e2 e3=>?_⟩,fun y c e=>?_,I.free,I.freeC,fun p hp=>?_,tracked ⟨oL,hoL,I.free⟩ hs,by simpa using I.len⟩ ⟨_,hs,.inl rfl⟩
  ·exact(hs.2 b (wTa (Nat.lt_of_lt_of_le (wLa e) I.ok.above))).trans (I.base.keep b o e n hb hx)
  ·obtain⟨sl,e1⟩:=I.base.slot b o e n hb hx;exact⟨sl,(hs.2 b (wTa (Nat.lt_of_lt_of_le (wLa e) I.ok.above))).trans e1⟩
  ·obtain⟨o',e1⟩:=I.base.there b o e hx;exact⟨o',(hs.2 b (wTa (Nat.lt_of_lt_of_le (wLa e) I.ok.above))).trans e1⟩
  ·by_cases hj:j=i
   ·subst hj;rw[hi]at e1;cases e1;rw[List.getElem?_set_self hiU]at e2;cases e2;exact⟨u,r,.inl ⟨hk,by simp⟩⟩
   ·rw[List.getElem?_set_ne (Ne.symm hj)]at e2;obtain⟨u',r',q⟩:=hl j y v' e1 e2 e3;refine⟨u',r',?_⟩;rcases q with⟨k,e⟩ | ⟨k,c,e,z⟩
    ·refine .inl ⟨k,?_⟩;have:y≠x:=fun e=>hj (gG hN e1 (e▸hi));simp[this,e]
    ·exact .inr ⟨k,c,e,z.sameBut hs (cne y c e)⟩
  ·obtain⟨w',z⟩:=I.cell y c e;exact⟨w',z.sameBut hs (cne y c e)⟩
  ·obtain⟨e,n,ne,nf,d⟩:=I.pin p hp;exact⟨(hs.2 p.1 ne).trans e,n,ne,nf,d⟩
 ·have hfn:X.fn x=true:=by
   rcases hf with z | z
   ·exact z
   ·rw[z]at hk;cases hk
  obtain⟨c,hc⟩:=I.ok.has x (.inl hk);obtain⟨w',z⟩:=I.cell x c hc;refine wpAny_storeName_cell I.ok.kind hk hc z (fun h' hc' hs=>?_);obtain⟨oc,hoc,hocd⟩:=id z;refine h { s with heap:=h' } ⟨I.ok,I.os,I.bare,⟨fun b o e n hb hx=>?_,fun b o e n hb hx=>?_,I.base.free,fun b o e hx=>?_,I.base.tups,I.base.frzs,I.base.tbls⟩,⟨m,hn.sameBut hs (Ne.symm (cne x c hc)),fun j y v' e1 e2 e3=>?_⟩,fun y c' e=>?_,I.free,I.freeC,fun p hp=>?_,tracked ⟨oc,hoc,I.freeC x c hc⟩ hs,by simpa using I.len⟩ ⟨c,hs,.inr hc⟩
  ·exact(hs.2 b (wTa (Nat.lt_of_lt_of_le (wLa e) (I.ok.cab x c hfn hc)))).trans (I.base.keep b o e n hb hx)
  ·obtain⟨sl,e1⟩:=I.base.slot b o e n hb hx;exact⟨sl,(hs.2 b (wTa (Nat.lt_of_lt_of_le (wLa e) (I.ok.cab x c hfn hc)))).trans e1⟩
  ·obtain⟨o',e1⟩:=I.base.there b o e hx;exact⟨o',(hs.2 b (wTa (Nat.lt_of_lt_of_le (wLa e) (I.ok.cab x c hfn hc)))).trans e1⟩
  ·by_cases hj:j=i
   ·subst hj;rw[hi]at e1;cases e1;rw[List.getElem?_set_self hiU]at e2;cases e2;exact⟨u,r,.inr ⟨.inl hk,c,hc,hc'⟩⟩
   ·rw[List.getElem?_set_ne (Ne.symm hj)]at e2;obtain⟨u',r',q⟩:=hl j y v' e1 e2 e3;refine⟨u',r',?_⟩;rcases q with q | ⟨k,c',e,z'⟩
    ·exact .inl q
    ·refine .inr ⟨k,c',e,z'.sameBut hs ?_⟩;rintro rfl;exact hj (gG hN e1 (I.ok.inj _ _ _ e hc▸hi))
  ·by_cases hcc:c'=c
   ·subst hcc;exact⟨_,hc'⟩
   ·obtain⟨w2,z2⟩:=I.cell y c' e;exact⟨w2,z2.sameBut hs hcc⟩
  ·obtain⟨e,n,ne,nf,d⟩:=I.pin p hp;refine⟨(hs.2 p.1 ?_).trans e,n,ne,nf,d⟩;intro q;rw[q,hoc]at e;have q':oc=p.2:=vFa e;exact d w' (by rw[<-q'];exact hocd)
def vh(I:Inv X pins U H s)(hN:X.N.Nodup)(hi:X.N[i]?=some x)(hx:gp X.env.scope x)(r:jq v u)
  (h:∀s',Inv X pins (U.set i (some v)) H s'->Q () s') (hf:X.fn x=true \/ X.env.scope.names.lookup x=some .local:=by first | exact .inl rfl | exact .inr rfl | assumption):wpAny M A (storeName X.env x u) Q E s:=
 K9 I hN hi hx r (fun s' I' _=>h s' I') hf
def Inv.call'(I:Inv X pins U H s)(ho:s'.os=s.os)(u:Un (Jh X.stack) ch H H' s.heap s'.heap)(hok:yh X.prog X.w H' s'.heap)(hg:AllBare s'.gens)
  (hch:∀b∈ch,(b∈X.ex \/ X.s₀.heap.objs.size<=b)/\b≠X.env.locals/\(∀x c,X.env.cells.lookup x=some c->c≠b)/\∀p∈X.pn++pins,p.1≠b):Inv X pins U H' s':=by
 obtain⟨h',g',d',t',o'⟩:=s';have e:o'=s.os:=ho;subst e;exact I.call (g':=g') (t':=t') (d':=d') u hok hg hch
end
noncomputable abbrev XK:=Value->Option Addr->Hp->Prop
noncomputable abbrev St:=List (Option V)
noncomputable abbrev VK:=V->Hp->Prop
noncomputable abbrev TE:=St->Hp->VK->Prop
noncomputable abbrev TT:=St->Hp->(Bool->Hp->Prop)->Prop
noncomputable abbrev TA:=St->Hp->(List V->Hp->Prop)->Prop
structure Ends where
 nx:St->Hp->Prop
 rt:VK
 bk:St->Hp->Prop:=fun _ _=>False
 ct:St->Hp->Prop:=fun _ _=>False
noncomputable abbrev TS:=Ends->St->Hp->Prop
def EP(X:Cx)(pins:Tq)(U:St)(Q:VK)(u:Value)(s':Shared):Prop:=∃v H',Inv X pins U H' s'/\jq v u/\Q v H'
def TP(X:Cx)(pins:Tq)(U:St)(Q:Bool->Hp->Prop)(b:Bool)(s':Shared):Prop:=∃H',Inv X pins U H' s'/\Q b H'
def AP(X:Cx)(pins:Tq)(U:St)(Q:List V->Hp->Prop)(us:List Value)(s':Shared):Prop:=∃vs H',Inv X pins U H' s'/\jp vs us/\Q vs H'
def SP(X:Cx)(pins:Tq)(D:Ends)(f:Flow)(s':Shared):Prop:=
 match f with
 | .next=>∃U' H',Inv X pins U' H' s'/\D.nx U' H'
 | .brk=>∃U' H',Inv X pins U' H' s'/\D.bk U' H'
 | .cont=>∃U' H',Inv X pins U' H' s'/\D.ct U' H'
 | .ret u=>∃v U' H',Inv X pins U' H' s'/\jq v u/\D.rt v H'
def PE(X:Cx)(e:Expr)(t:TE):Prop:=
 ∀(pins:Tq) (s:Shared) (U:St) (H:Hp) (Q:VK),Inv X pins U H s->t U H Q->wpAny (model X.prog X.w) X.A (eval e X.env) (EP X pins U Q) X.xe s
def PT(X:Cx)(e:Expr)(t:TT):Prop:=
 ∀(pins:Tq) (s:Shared) (U:St) (H:Hp) (Q:Bool->Hp->Prop),Inv X pins U H s->t U H Q->wpAny (model X.prog X.w) X.A (isTrue e X.env (eval e X.env)) (TP X pins U Q) X.xe s
def PW(X:Cx)(e:Expr)(t:TT):Prop:=
 ∀(whole:Sem Value) (pins:Tq) (s:Shared) (U:St) (H:Hp) (Q:Bool->Hp->Prop),Inv X pins U H s->t U H Q->wpAny (model X.prog X.w) X.A (isTrue e X.env whole) (TP X pins U Q) X.xe s
def PW.pt(h:PW X e t):PT X e t:=h _
def PA(X:Cx)(es:List Expr)(t:TA):Prop:=
 ∀(pos:Pos) (pins:Tq) (s:Shared) (U:St) (H:Hp) (Q:List V->Hp->Prop),Inv X pins U H s->t U H Q->wpAny (model X.prog X.w) X.A (spliced (backTo pos (starEach es X.env))) (AP X pins U Q) X.xe s
def PS(X:Cx)(st:Stmt)(t:TS):Prop:=
 ∀(pins:Tq) (s:Shared) (U:St) (H:Hp) (D:Ends),Inv X pins U H s->t D U H->wpAny (model X.prog X.w) X.A (exec st X.env) (SP X pins D) X.xe s
def Ji(X:Cx)(st:List Stmt)(t:TS):Prop:=
 ∀(pins:Tq) (s:Shared) (U:St) (H:Hp) (D:Ends),Inv X pins U H s->t D U H->wpAny (model X.prog X.w) X.A (execs st X.env) (SP X pins D) X.xe s
def jv{α:Type}{t:Sem α}{Q Q':α->Shared->Prop}{M:Model}{A:Around}{E:Tz}{s:Shared}(h:wpAny M A t Q E s)(hQ:∀a s,Q a s->Q' a s):wpAny M A t Q' E s:=wCa h hQ fun _ _ x=>x
section
variable {X:Cx}
def Zp(i:Nat):TE:=fun U H Q=>∃v,U[i]?=some (some v)/\Q v H
def tC(v:V):TE:=fun _ H Q=>Q v H
def uR(hN:X.N[i]?=some x)(hv:Gx X.env.scope x)(hd:(x==("__debug__" : Str))=false:=by decide)(hcd:(x==("__classdict__" : Str))=false:=by decide):PE X (.Name x pos) (Zp i):=by
 intro pins s U H Q I h;obtain⟨v,e,h⟩:=h;obtain⟨m,hn,hl⟩:=I.loc;obtain⟨u,r,l⟩:=hl i x v hN e hv;have fin:EP X pins U Q u s:=⟨v,H,I,r,h⟩
 rcases l with⟨hk,hm⟩ | ⟨hk,c,hc,hcell⟩
 ·exact wpAny_Name (wpAny_loadName_local I.ok.kind hk hn hm fin) hd
 ·rcases hk with hk | hk
  ·exact wpAny_Name (wpAny_loadName_cell I.ok.kind hk hc hcell fin) hd
  ·exact wpAny_Name (wpAny_loadName_free I.ok.kind hk hc hcell fin hcd) hd
def Co{i j pos}:PE X (.Constant (.int i) j pos) (tC (.int i)):=fun _ _ _ H _ I h=>wpAny_Constant_int ⟨.int i,H,I.tok _,⟨_,rfl⟩,h⟩
def ER{b j pos}:PE X (.Constant (.bool b) j pos) (tC (.bl b)):=fun _ _ _ H _ I h=>Constant_bool ⟨.bl b,H,I,rfl,h⟩
def Cp{j pos}:PE X (.Constant .none j pos) (tC .non):=fun _ _ _ H _ I h=>Constant_none ⟨.non,H,I,rfl,h⟩
def QG{x j pos}:PE X (.Constant (.str x) j pos) (tC (.str x)):=fun _ _ _ H _ I h=>Calls.Constant_str ⟨.str x,H,I.tok _,⟨_,rfl⟩,h⟩
def Gl(X:Cx)(x:Str):Prop:=X.env.kindOf x=some .globalImplicit
def zH(I:Inv X pins U H s)(hg:Gl X x)(hm:X.mg x=some u)(h:Q u s)
  (hd:(x==("__debug__" : Str))=false:=by decide):wpAny (model X.prog X.w) X.A (eval (.Name x pos) X.env) Q E s:=
 Calls.Name_function_global I.ok.kind hg (Calls.loadGlobal_global (by rw[I.ok.glob];exact I.mod.glob.keeps I.bk) hm h) hd
def Zb(I:Inv X pins U H s)(hg:Gl X x)(hm:X.mg x=none)(hv:bootBuiltins x=some u)(h:Q u s)
  (hn:x≠ "__name__" := by decide) (hd:(x==("__debug__" : Str))=false:=by decide):wpAny (model X.prog X.w) X.A (eval (.Name x pos) X.env) Q E s:=by
 obtain⟨mb,h1,h2⟩:=I.mod.blt;exact Calls.Name_function_global I.ok.kind hg (Calls.loadGlobal_builtin (by rw[I.ok.glob];exact I.mod.glob.keeps I.bk) hm (by rw[I.ok.blt];exact h1.keeps I.bk) ((h2 x hn).trans hv) h) hd
def WM(hg:Gl X x)(hm:X.mg x=some u)(r:jq v u)(hd:(x==("__debug__" : Str))=false:=by decide):PE X (.Name x pos) (tC v):=
 fun _ _ _ H _ I h=>zH I hg hm ⟨v,H,I,r,h⟩ hd
def kx(hg:Gl X x)(hm:X.mg x=none)(hv:bootBuiltins x=some u)(r:jq v u)(hn:x≠ "__name__" := by decide)(hd:(x==("__debug__" : Str))=false:=by decide):PE X (.Name x pos) (tC v):=
 fun _ _ _ H _ I h=>Zb I hg hm hv ⟨v,H,I,r,h⟩ hn hd
variable {a b:Expr} {ta tb:TE} {pos:Pos}
variable {tA tB':TT} {rest:List Expr}
def ir(t u:TT):TT:=fun U H Q=>t U H fun c H1=>if c=true then u U H1 Q else Q false H1
def l7(t u:TT):TT:=fun U H Q=>t U H fun c H1=>if c=true then Q true H1 else u U H1 Q
def iu(t:TT):TT:=fun U H Q=>t U H fun c H1=>Q (!c) H1
def B5(ha:PT X a tA):PW X (.BoolOp .And [a] pos) tA:=by
 intro wh pins s U H Q I h;refine isTrue_and (jv (ha pins s U H Q I h) fun c s1 e=>?_);cases c with
 | true=>exact isTrue_and_nil e
 | false=>exact e
def Cq(ha:PT X a tA):PW X (.BoolOp .Or [a] pos) tA:=by
 intro wh pins s U H Q I h;refine isTrue_or (jv (ha pins s U H Q I h) fun c s1 e=>?_);cases c with
 | false=>exact isTrue_or_nil e
 | true=>exact e
def Cr(ha:PT X a tA)(hb:PW X (.BoolOp .And (b::rest) pos) tB'):PW X (.BoolOp .And (a::b::rest) pos) (ir tA tB'):=by
 intro wh pins s U H Q I h;refine isTrue_and (jv (ha pins s U H _ I h) fun c s1 xx=>?_);obtain⟨H1,I1,q1⟩:=xx;cases c with
 | true=>exact hb wh pins s1 U H1 Q I1 q1
 | false=>exact⟨H1,I1,q1⟩
def ES(ha:PT X a tA)(hb:PW X (.BoolOp .Or (b::rest) pos) tB'):PW X (.BoolOp .Or (a::b::rest) pos) (l7 tA tB'):=by
 intro wh pins s U H Q I h;refine isTrue_or (jv (ha pins s U H _ I h) fun c s1 xx=>?_);obtain⟨H1,I1,q1⟩:=xx;cases c with
 | true=>exact⟨H1,I1,q1⟩
 | false=>exact hb wh pins s1 U H1 Q I1 q1
def Ct(ha:PT X a tA):PT X (.UnaryOp .Not a pos) (iu tA):=by
 intro pins s U H Q I h;exact isTrue_not (ha pins s U H (fun c H1=>Q (!c) H1) I h)
def ET(ta tb:TE):TE:=fun U H Q=>ta U H fun x H1=>∃c,x=.bl c/\if c=true then tb U H1 Q else Q (.bl false) H1
def iw(ta tb:TE):TE:=fun U H Q=>ta U H fun x H1=>∃c,x=.bl c/\if c=true then Q (.bl true) H1 else tb U H1 Q
def EU(ta:TE):TE:=fun U H Q=>ta U H fun x H1=>∃c,x=.bl c/\Q (.bl (!c)) H1
def Cu{op}(h:PE X a t):PE X (.BoolOp op [a] pos) t:=fun pins s U H Q I hw=>BoolOp_one (h pins s U H Q I hw)
def Cv(ha:PE X a ta)(hb:PE X (.BoolOp .And (b::rest) pos) tb):PE X (.BoolOp .And (a::b::rest) pos) (ET ta tb):=by
 intro pins s U H Q I h;refine BoolOp_and (jv (ha pins s U H _ I h) fun v s1 xx=>?_);obtain⟨x,H1,I1,r1,q1⟩:=xx;obtain⟨c,rfl,q1⟩:=q1;cases r1;refine wpAny_truthy_bool ?_;cases c with
 | true=>exact hb pins s1 U H1 Q I1 q1
 | false=>exact⟨.bl false,H1,I1,rfl,q1⟩
def EV(ha:PE X a ta)(hb:PE X (.BoolOp .Or (b::rest) pos) tb):PE X (.BoolOp .Or (a::b::rest) pos) (iw ta tb):=by
 intro pins s U H Q I h;refine BoolOp_or (jv (ha pins s U H _ I h) fun v s1 xx=>?_);obtain⟨x,H1,I1,r1,q1⟩:=xx;obtain⟨c,rfl,q1⟩:=q1;cases r1;refine wpAny_truthy_bool ?_;cases c with
 | false=>exact hb pins s1 U H1 Q I1 q1
 | true=>exact⟨.bl true,H1,I1,rfl,q1⟩
def Cw(ha:PE X a ta):PE X (.UnaryOp .Not a pos) (EU ta):=by
 intro pins s U H Q I h;refine UnaryOp_ (jv (ha pins s U H _ I h) fun v s1 xx=>?_);obtain⟨x,H1,I1,r1,q1⟩:=xx;obtain⟨c,rfl,q1⟩:=q1;cases r1;exact not_of (wpAny_truthy_bool ⟨.bl (!c),H1,I1,rfl,q1⟩)
def l8(t:TT)(ta tb:TE):TE:=fun U H Q=>t U H fun c H1=>if c=true then ta U H1 Q else tb U H1 Q
def XA(hc:PT X c tA)(ha:PE X a ta)(hb:PE X b tb):PE X (.IfExp c a b pos) (l8 tA ta tb):=by
 intro pins s U H Q I h;refine wpAny_IfExp (jv (hc pins s U H _ I h) fun d s1 xx=>?_);obtain⟨H1,I1,q1⟩:=xx;cases d with
 | true=>exact ha pins s1 U H1 Q I1 q1
 | false=>exact hb pins s1 U H1 Q I1 q1
end
def jC(K:uXa)(H:Hp)(a:Addr)(xs:List V):Prop:=
 Rd H a (.lst xs) \/
  ∃(o:Obj) (its:Array Value) (n:Nat),K.lookup a=some o/\o.cls=.type "list" /\o.dict=none/\o.data=.seq its n/\its.size<=sizeLine/\jp xs its.toList
def JN(K:uXa)(H:Hp)(a:Addr)(xs:List V):Prop:=
 Rd H a (.tup xs) \/
  ∃(o:Obj) (its:Array Value) (n:Nat),K.lookup a=some o/\o.cls=.type "tuple" /\o.data=.seq its n/\its.size<=sizeLine/\jp xs its.toList
noncomputable def ix:Value->Option V
 | .none=>some .non
 | .bool b=>some (.bl b)
 | .int i _=>some (.int i)
 | .str x _=>some (.str x)
 | .ref a=>some (.ref a)
 | .type n=>some (.ty n)
 | _=>none
def jq.abs(r:jq x u):ix u=some x:=by
 cases x with
 | non=>cases r;rfl
 | bl _=>cases r;rfl
 | int _=>obtain⟨t,rfl⟩:=r;rfl
 | str _=>obtain⟨t,rfl⟩:=r;rfl
 | ref _=>cases r;rfl
 | ty _=>cases r;rfl
def jq.inj(r:jq x u)(q:jq y u):x=y:=vFa (r.abs.symm.trans q.abs)
theorem jp.inj:∀{xs ys:List V} {us:List Value},jp xs us->jp ys us->xs=ys
 | _,_,_,.nil,.nil=>rfl
 | _,_,_,.cons r t,.cons r' t'=>by rw[r.inj r',jp.inj t t']
section
variable {X:Cx} {pins:Tq} {U:St} {H:Hp} {s:Shared} {a:Addr} {xs ys:List V}
def jC.of{K:uXa}(h:H a=some (.lst xs)):jC K H a xs:=.inl (.inl h)
def JN.of{K:uXa}(h:H a=some (.tup xs)):JN K H a xs:=.inl (.inl h)
def Inv.list(I:Inv X pins U H s)(h:jC X.K H a xs):∃its:List Value,jp xs its/\PlainL s.heap a its.toArray/\xs.length<=sizeLine:=by
 rcases h with h | ⟨o,its,n,hk,hc,hd,hs,hz,r⟩
 ·obtain⟨z,its,n,r,e⟩:=h.ok I.hok;exact⟨its,r,⟨_,n,e,rfl,rfl,rfl⟩,z⟩
 ·refine⟨its.toList,r,⟨o,n,I.kIn a o hk,hc,hd,by simpa using hs⟩,?_⟩;have e:=r.length;simp only[Array.length_toList]at e
  lia
def Inv.tuple(I:Inv X pins U H s)(h:JN X.K H a xs):∃its:List Value,jp xs its/\IsTup s.heap a its.toArray/\xs.length<=sizeLine:=by
 rcases h with h | ⟨o,its,n,hk,hc,hs,hz,r⟩
 ·obtain⟨z,its,r,p⟩:=h.ok I.hok;exact⟨its,r,p,z⟩
 ·refine⟨its.toList,r,⟨o,I.kIn a o hk,hc,n,by simpa using hs⟩,?_⟩;have e:=r.length;simp only[Array.length_toList]at e
  lia
def Inv.list_inj(I:Inv X pins U H s)(h:jC X.K H a xs)(h':jC X.K H a ys):xs=ys:=by
 obtain⟨its,r,⟨o,n,e,_,_,d⟩,_⟩:=I.list h;obtain⟨its',r',⟨o',n',e',_,_,d'⟩,_⟩:=I.list h';rw[e]at e';cases e';rw[d]at d';injection d' with d1 _;have:its=its':=by simpa using congrArg Array.toList d1
 subst this;exact r.inj r'
def Inv.tuple_inj(I:Inv X pins U H s)(h:JN X.K H a xs)(h':JN X.K H a ys):xs=ys:=by
 obtain⟨its,r,⟨o,e,_,n,d⟩,_⟩:=I.tuple h;obtain⟨its',r',⟨o',e',_,n',d'⟩,_⟩:=I.tuple h';rw[e]at e';cases e';rw[d]at d';injection d' with d1 _;have:its=its':=by simpa using congrArg Array.toList d1
 subst this;exact r.inj r'
end
noncomputable abbrev Cx.wish(X:Cx)(E:Tz):Cx:={ X with xe:=E }
abbrev Cx.nox(X:Cx):Cx:=X.wish fun _ _=>False
def Cx.Ok.wish{X:Cx}(ok:X.Ok)(E:Tz):(X.wish E).Ok:=
 ⟨ok.mod,ok.kind,ok.glob,ok.blt,ok.above,ok.inj,ok.has,ok.cab,ok.hd,ok.frames,ok.stk,ok.exf,ok.bs,ok.bsz,ok.noex,ok.exfs,ok.funs,ok.frf⟩
def Cx.Ok.unwish{X:Cx}{E:Tz}(ok:(X.wish E).Ok):X.Ok:=
 ⟨ok.mod,ok.kind,ok.glob,ok.blt,ok.above,ok.inj,ok.has,ok.cab,ok.hd,ok.frames,ok.stk,ok.exf,ok.bs,ok.bsz,ok.noex,ok.exfs,ok.funs,ok.frf⟩
section
variable {X:Cx} {pins:Tq} {U:St} {H:Hp} {s:Shared} {E:Tz}
def Inv.wish(I:Inv X pins U H s)(E:Tz):Inv (X.wish E) pins U H s:=⟨I.ok.wish E,I.os,I.bare,I.base,I.loc,I.cell,I.free,I.freeC,I.pin,I.hok,I.len⟩
def Inv.unwish(I:Inv (X.wish E) pins U H s):Inv X pins U H s:=⟨I.ok.unwish,I.os,I.bare,I.base,I.loc,I.cell,I.free,I.freeC,I.pin,I.hok,I.len⟩
def SP.unwish(h:SP (X.wish E) pins D f s'):SP X pins D f s':=by
 cases f with
 | next=>obtain⟨U',H',I,q⟩:=h;exact⟨U',H',I.unwish,q⟩
 | brk=>obtain⟨U',H',I,q⟩:=h;exact⟨U',H',I.unwish,q⟩
 | cont=>obtain⟨U',H',I,q⟩:=h;exact⟨U',H',I.unwish,q⟩
 | ret u=>obtain⟨v,U',H',I,r,q⟩:=h;exact⟨v,U',H',I.unwish,r,q⟩
def Ji.nox{st:List Stmt}{t:TS}(h:Ji X.nox st t):Ji X st t:=fun pins s U H D I hw=>
 wCa (h pins s U H D (I.wish _) hw) (fun _ _ q=>q.unwish) fun _ _ z=>False.elim z
end
section
variable {X:Cx} {st:Stmt} {rest:List Stmt} {t u:TS} {e:Expr} {te:TE} {pos:Pos}
def EW:TS:=fun D U H=>D.nx U H
def iy(t u:TS):TS:=fun D U H=>t { D with nx:=u D } U H
def B6:Ji X [] EW:=fun _ _ U H _ I h=>wpAny_execs_nil ⟨U,H,I,h⟩
def KS(h1:PS X st t)(h2:Ji X rest u):Ji X (st::rest) (iy t u):=by
 intro pins s U H D I h;refine wGa (jv (h1 pins s U H { D with nx:=u D } I h) fun f s1 q=>?_);cases f with
 | next=>
  obtain⟨U',H',I',q⟩:=q;exact h2 pins s1 U' H' D I' q
 | ret v=>exact q
 | brk=>exact q
 | cont=>exact q
def WN(h1:PS X st t):Ji X [st] t:=by
 intro pins s U H D I h;refine wGa (jv (h1 pins s U H D I h) fun f s1 q=>?_);cases f with
 | next=>exact wpAny_execs_nil q
 | ret v=>exact q
 | brk=>exact q
 | cont=>exact q
def Inv.quiet(I:Inv X pins U H s):interactive X.env=false:=by simp[interactive,I.ok.kind]
def Gy(te:TE):TS:=fun D U H=>te U H fun _ H1=>D.nx U H1
def Vq(he:PE X e te)(hs:swapsWith e none pos.line X.env=pure false:=by rfl):PS X (.Expr e pos) (Gy te):=by
 intro pins s U H D I h;exact wpAny_Expr_any (jv (he pins s U H _ I h) fun v s1 ⟨x,H1,I1,r1,q1⟩=>⟨U,H1,I1,q1⟩) I.quiet hs
def iz(te:TE):TS:=fun D U H=>te U H D.rt
def Gz(he:PE X e te):PS X (.Return (some e) pos) (iz te):=by
 intro pins s U H D I h;exact wpAny_Return_some (jv (he pins s U H _ I h) fun v s1 ⟨x,H1,I1,r1,q1⟩=>⟨x,U,H1,I1,r1,q1⟩)
def EX:TS:=fun D _ H=>D.rt .non H
def B7:PS X (.Return none pos) EX:=fun _ _ U H _ I h=>wpAny_Return_none ⟨.non,U,H,I,rfl,h⟩
def iA(c:TT)(t u:TS):TS:=fun D U H=>c U H fun b H1=>if b=true then t D U H1 else u D U H1
def EY(hc:PT X c tc)(ha:Ji X a t)(hb:Ji X b u):PS X (.If c a b pos) (iA tc t u):=by
 intro pins s U H D I h;refine wpAny_If (jv (hc pins s U H _ I h) fun d s1 xx=>?_);obtain⟨H1,I1,q1⟩:=xx;cases d with
 | true=>exact ha pins s1 U H1 D I1 q1
 | false=>exact hb pins s1 U H1 D I1 q1
def Cy:TS:=fun _ _ _=>False
def QH:Ji X sts Cy:=fun _ _ _ _ _ _ h=>h.elim
end
noncomputable abbrev TG:=V->St->Hp->(St->Hp->Prop)->Prop
noncomputable abbrev WO:=List V->St->Hp->(St->Hp->Prop)->Prop
def PG(X:Cx)(target:Expr)(t:TG):Prop:=
 ∀(pins:Tq) (s:Shared) (U:St) (H:Hp) (v:V) (u:Value) (Q:St->Hp->Prop),Inv X pins U H s->jq v u->t v U H Q->
  wpAny (model X.prog X.w) X.A (assign target X.env u) (fun _ s'=>∃U' H',Inv X pins U' H' s'/\Q U' H') X.xe s
def uS(X:Cx)(ts:List Expr)(t:WO):Prop:=
 ∀(pins:Tq) (s:Shared) (U:St) (H:Hp) (vs:List V) (us:List Value) (Q:St->Hp->Prop),Inv X pins U H s->jp vs us->t vs U H Q->
  wpAny (model X.prog X.w) X.A (assignInOrder ((assignEach ts X.env).map (·.2)) us) (fun _ s'=>∃U' H',Inv X pins U' H' s'/\Q U' H') X.xe s
noncomputable abbrev Cz:=V->V->V->Hp->(Hp->Prop)->Prop
def XB(X:Cx)(t:Cz):Prop:=
 ∀(pins:Tq) (s:Shared) (U:St) (H:Hp) (o i v:V) (ov iv u:Value) (Q:Hp->Prop),Inv X pins U H s->jq o ov->jq i iv->jq v u->t o i v H Q->
  wpAny (model X.prog X.w) X.A (setItem ov iv u) (fun _ s'=>∃H',Inv X pins U H' s'/\Q H') X.xe s
noncomputable abbrev CA:=V->V->Hp->VK->Prop
def CB(X:Cx)(op:Operator)(t:CA):Prop:=
 ∀(pins:Tq) (s:Shared) (U:St) (H:Hp) (x y:V) (v u:Value) (Q:VK),Inv X pins U H s->jq x v->jq y u->t x y H Q->
  wpAny (model X.prog X.w) X.A (inplaceOp op v u) (EP X pins U Q) X.xe s
section
variable {X:Cx} {pos:Pos}
def ZR(i:Nat):TG:=fun v U H Q=>Q (U.set i (some v)) H
def B8(hN:X.N.Nodup)(hi:X.N[i]?=some x)(hx:gp X.env.scope x)(hf:X.fn x=true \/ X.env.scope.names.lookup x=some .local:=by first | exact .inl rfl | exact .inr rfl | assumption):PG X (.Name x pos) (ZR i):=by
 intro pins s U H v u Q I r h;exact wpAny_assign_Name (vh I hN hi hx r (fun s' I'=>⟨_,H,I',h⟩) hf)
def iB:WO:=fun vs U H Q=>vs=[]/\Q U H
def EZ(t:TG)(u:WO):WO:=fun vs U H Q=>∃v r,vs=v::r/\t v U H fun U' H'=>u r U' H' Q
def B9:uS X [] iB:=by
 intro pins s U H vs us Q I r h;obtain⟨e,h⟩:=h;subst e;cases r;exact assignInOrder_nil ⟨U,H,I,h⟩
theorem XC(h1:PG X e t)(h2:uS X es u)
  (hs:(assignEach (e::es) X.env).map (·.2)=assign e X.env::(assignEach es X.env).map (·.2):=by rfl):uS X (e::es) (EZ t u):=by
 intro pins s U H vs us Q I r h;obtain⟨v,vr,e1,h⟩:=h;subst e1;cases r with
 | cons r rr=>
  rw[hs];refine assignInOrder_cons (jv (h1 pins s U H _ _ _ I r h) fun _ s1 xx=>?_);obtain⟨U1,H1,I1,q1⟩:=xx;exact h2 pins s1 U1 H1 _ _ Q I1 rr q1
def iC(K:uXa)(n:Nat)(t:WO):TG:=fun v U H Q=>∃a xs,v=.ref a/\JN K H a xs/\xs.length=n/\t xs U H Q
def CD(hc:X.calm=true)(h:uS X es t)
  (hn:(assignEach es X.env).length=n:=by rfl) (hst:(assignEach es X.env).findIdx? (·.1)=none:=by rfl):PG X (.Tuple es k pos) (iC X.K n t):=by
 intro pins s U H v u Q I r hw;obtain⟨a,xs,e1,hq,hl,hw⟩:=hw;subst e1;cases r;obtain⟨its,rv,ht,hz⟩:=I.tuple hq;refine assign_Tuple_tuple (I.ok.hd hc) ht (by simp[hn,<-hl,rv.length]) hst fun h' hx=>?_;have I1:Inv X pins U H { s with heap:=h' }:=I.kept (t':=s.toks) fun b o e=>hx b o (wTa (wLa e)) e;exact h pins _ U H xs _ Q I1 (by simpa using rv) hw
def XD(to ti:TE)(t:Cz):TG:=fun v U H Q=>to U H fun o H1=>ti U H1 fun i H2=>t o i v H2 fun H3=>Q U H3
def QI(ho:PE X o to)(hi:PE X i ti)(hs:XB X t)
  (ha:∀v,assign (.Subscript o i pos) X.env v=(do
   let ov<-holding [v] (eval o X.env)
   let iv<-holding [v,ov] (eval i X.env)
   standAt pos
   holding [v,ov,iv] (setItem ov iv v)
   release [v,ov,iv] []):=by intro _;rfl):PG X (.Subscript o i pos) (XD to ti t):=by
 intro pins s U H v u Q I r h;rw[ha];refine wAa (wDa (jv (ho pins s U H _ I h) fun ov s1 xx=>?_));obtain⟨x,H1,I1,r1,q1⟩:=xx;refine wAa (wDa (jv (hi pins s1 U H1 _ I1 q1) fun iv s2 xx=>?_));obtain⟨y,H2,I2,r2,q2⟩:=xx;refine wAa (vOa (wAa (wDa (jv (hs pins s2 U H2 x y v ov iv u _ I2 r1 r2 r q2) fun _ s3 xx=>?_))));obtain⟨H3,I3,q3⟩:=xx;exact wpAny_release ⟨U,H3,I3,q3⟩
def zI(te:TE)(g:TG):TS:=fun D U H=>te U H fun x H1=>g x U H1 D.nx
def KT(he:PE X e te)(hg:PG X tg g)(hs:swapsWithSole [tg] e pos.line X.env=pure false:=by rfl)(hw:swappedStores [tg] e X.env=pure none:=by rfl)
  (h1:(assignEach [tg] X.env).map (·.2)=[assign tg X.env]:=by rfl):PS X (.Assign [tg] e pos) (zI te g):=by
 intro pins s U H D I h;refine wpAny_Assign_stores (jv (he pins s U H _ I h) fun v s1 xx=>?_) hs hw;obtain⟨x,H1,I1,r1,q1⟩:=xx;rw[h1];exact jv (hg pins s1 U H1 x v _ I1 r1 q1) fun _ s2 q=>q
def KU(hN:X.N.Nodup)(hi:X.N[i]?=some x)(hx:gp X.env.scope x)(he:PE X e te)(hs:swapsWith e (some (.Name x pos')) pos.line X.env=pure false:=by rfl)(hf:X.fn x=true \/ X.env.scope.names.lookup x=some .local:=by first | exact .inl rfl | exact .inr rfl | assumption):
  PS X (.Assign [.Name x pos'] e pos) (zI te (ZR i)):=by
 intro pins s U H D I h;refine wpAny_Assign_Name (jv (he pins s U H _ I h) fun v s1 xx=>?_) hs;obtain⟨y,H1,I1,r1,q1⟩:=xx;exact vh I1 hN hi hx r1 (fun s2 I2=>⟨_,H1,I2,q1⟩) hf
def CF(i:Nat)(te:TE)(ti:CA):TS:=fun D U H=>∃x,U[i]?=some (some x)/\te U H fun y H1=>ti x y H1 fun z H2=>D.nx (U.set i (some z)) H2
def QJ(hN:X.N.Nodup)(hi:X.N[i]?=some x)(hx:gp X.env.scope x)(he:PE X e te)(ho:CB X op ti)(hf:X.fn x=true \/ X.env.scope.names.lookup x=some .local:=by first | exact .inl rfl | exact .inr rfl | assumption):
  PS X (.AugAssign (.Name x pos') op e pos) (CF i te ti):=by
 intro pins s U H D I h;obtain⟨v,e1,h⟩:=h;obtain⟨m,hn,hl⟩:=I.loc;have vis:Gx X.env.scope x:=by rcases hx with k | k;exact .inl k;exact .inr (.inl k)
 obtain⟨u,r,l⟩:=hl i x v hi e1 vis;refine wpAny_AugAssign_Name ?_;have go:wpAny (model X.prog X.w) X.A (eval e X.env) (fun w s₂=>wpAny (model X.prog X.w) X.A (inplaceOp op u w) (fun r s₃=>wpAny (model X.prog X.w) X.A (storeName X.env x r) (fun _=>SP X pins D .next) X.xe s₃) X.xe s₂) X.xe s:=by
  refine jv (he pins s U H _ I h) fun w s1 xx=>?_;obtain⟨y,H1,I1,r1,q1⟩:=xx;refine jv (ho pins s1 U H1 v y u w _ I1 r r1 q1) fun z s2 xx=>?_;obtain⟨zv,H2,I2,r2,q2⟩:=xx;exact vh I2 hN hi hx r2 (fun s3 I3=>⟨_,H2,I3,q2⟩) hf
 rcases l with⟨hk,hm⟩ | ⟨hk,c,hc,hcell⟩
 ·exact wpAny_loadName_local I.ok.kind hk hn hm go
 ·rcases hk with hk | hk
  ·exact wpAny_loadName_cell I.ok.kind hk hc hcell go
  ·rcases hx with k | k
   ·have:X.env.scope.names.lookup x=some .free:=hk;rw[k]at this;cases this
   ·have:X.env.scope.names.lookup x=some .free:=hk;rw[k]at this;cases this
noncomputable def CG(f:Int->Int->Int):CA:=fun x y H Q=>∃i j,x=.int i/\y=.int j/\Q (.int (f i j)) H
def CH:CB X .Add (CG fun i j=>i+j):=by
 intro pins s U H x y v u Q I r1 r2 h;obtain⟨i,j,e1,e2,q⟩:=h;subst e1;subst e2;obtain⟨t,rfl⟩:=r1;obtain⟨t',rfl⟩:=r2;exact iadd_int ⟨.int _,H,I.tok _,⟨_,rfl⟩,q⟩
def CI:CB X .Sub (CG fun i j=>i - j):=by
 intro pins s U H x y v u Q I r1 r2 h;obtain⟨i,j,e1,e2,q⟩:=h;subst e1;subst e2;obtain⟨t,rfl⟩:=r1;obtain⟨t',rfl⟩:=r2;exact isub_int ⟨.int _,H,I.tok _,⟨_,rfl⟩,q⟩
end
section
variable {X:Cx} {pos:Pos}
def CJ(c:TT)(tb:TS):TS:=fun D U H=>∃W:Nat->St->Hp->Prop,(∃m,W m U H)/\∀m U H,W m U H->
 c U H fun b H1=>if b=true then∃N:St->Hp->Prop,(∀U' H',N U' H'->∃m',m' < m/\W m' U' H')/\tb { D with nx:=N,ct:=N,bk:=D.nx } U H1 else D.nx U H1
def XE(hp:PassesOwn (model X.prog X.w) X.A X.env X.xe)(hc:PT X c tc)(hb:Ji X body tb):PS X (.While c body [] pos) (CJ tc tb):=by
 intro pins s U H D I h;obtain⟨W,⟨m0,w0⟩,turn⟩:=h;refine wpAny_While (codeAny_whileLoop (fun n s'=>∃U' H',Inv X pins U' H' s'/\W n U' H') ?_ m0 ⟨U,H,I,w0⟩);rintro n s1 ⟨U1,H1,I1,w1⟩;refine wpAny_passesOwn hp (jv (hc pins s1 U1 H1 _ I1 (turn n U1 H1 w1)) fun b s2 xx=>?_);obtain⟨H2,I2,q2⟩:=xx;cases b with
 | true=>
  obtain⟨N,hN,q2⟩:=q2;rw[if_pos rfl];refine wpAny_passesOwn hp (jv (hb pins s2 U1 H2 _ I2 q2) fun f s3 q3=>?_);cases f with
  | next=>
   obtain⟨U3,H3,I3,n3⟩:=q3;obtain⟨m',hm,w3⟩:=hN U3 H3 n3;exact⟨m',hm,U3,H3,I3,w3⟩
  | cont=>
   obtain⟨U3,H3,I3,n3⟩:=q3;obtain⟨m',hm,w3⟩:=hN U3 H3 n3;exact⟨m',hm,U3,H3,I3,w3⟩
  | brk=>exact q3
  | ret v=>exact q3
 | false=>
  rw[if_neg Bool.false_ne_true];exact wpAny_execs_nil ⟨U1,H2,I2,q2⟩
end
structure It where
 go:Nat->Hp->Prop
 yld:Nat->Hp->V->Hp->Prop
 stop:Nat->Hp->Prop
def JH(X:Cx)(pins:Tq)(H:Hp)(b:Addr):Prop:=
 H b=none/\b≠X.env.locals/\b∉X.fs/\(b∈X.ex \/ X.s₀.heap.objs.size<=b)/\(∀x c,X.env.cells.lookup x=some c->c≠b)/\∀p∈X.pn++pins,p.1≠b
def Inv.fpOk(I:Inv X pins U H s)(hb:s.heap.objs.size<=b)(hn:H' b=none):JH X pins H' b:=by
 refine⟨hn,Nat.ne_of_gt (Nat.lt_of_lt_of_le I.lt hb),I.nofs hb,.inr (wSa I.sz hb),fun x c e z=>?_,fun p hp z=>?_⟩
 ·obtain⟨v,q⟩:=I.cell x c e;exact vDa (Nat.lt_of_lt_of_le q.lt (by rw[z];exact hb)) (wUa _)
 ·exact vDa (Nat.lt_of_lt_of_le (wLa (I.pin p hp).1) (by rw[z];exact hb)) (wUa _)
structure Turn (P:Program) (w:World) (K:uXa) (tg:Expr) (J:It) (fp:List Addr) (it:Addr) (tn:Nat->Heap->Prop):Prop where
 mem:it∈fp
 obj:∀i h,tn i h->∀b∈fp,∃o,h.get? b=some o/\∀v,o.data≠.cell v
 keep:∀i h h',tn i h->(∀b∈fp,∀o,h.get? b=some o->h'.get? b=some o)->tn i h'
 item:∀(X:Cx),X.prog=P->X.w=w->X.K=K->X.calm=true->∀(i:Nat) (pins:Tq) (s:Shared) (U:St) (H:Hp) (E:Tz),Inv X pins U H s->(∀b∈fp,JH X pins H b)->tn i s.heap->J.go i H->
  wpAny (model P w) X.A (pyNext (.ref it)) (fun r s1=>∃u,r=some u/\
   wpAny (model P w) X.A (letOwnedTupleGo tg (.ref it) u) (fun _ s2=>∃x H',Inv X pins U H' s2/\jq x u/\J.yld i H x H'/\tn (i+1) s2.heap/\∀b∈fp,H' b=none) E s1) E s
 done:∀(X:Cx),X.prog=P->X.w=w->X.K=K->X.calm=true->∀(i:Nat) (pins:Tq) (s:Shared) (U:St) (H:Hp) (E:Tz),Inv X pins U H s->(∀b∈fp,JH X pins H b)->tn i s.heap->J.stop i H->
  wpAny (model P w) X.A (pyNext (.ref it)) (fun r s1=>r=none/\Inv X pins U H s1) E s
 self:∀(A:Around) (i:Nat) (s:Shared) (Q:Tz) (E:Tz),tn i s.heap->Q (.ref it) s->wpAny (model P w) A (pyIter (.ref it)) Q E s
noncomputable abbrev TI:=St->Hp->(It->Hp->Prop)->Prop
def Hr(X:Cx)(pins:Tq)(U:St)(tg:Expr)(R:It->Hp->Prop)(itv:Value)(s2:Shared):Prop:=
 ∃(it:Addr) (fp:List Addr) (tn:Nat->Heap->Prop) (J:It) (H':Hp),itv=.ref it/\Inv X pins U H' s2/\Turn X.prog X.w X.K tg J fp it tn/\tn 0 s2.heap/\(∀b∈fp,JH X pins H' b)/\R J H'
def PI(X:Cx)(tg iter:Expr)(wi:TI):Prop:=
 ∀(pins:Tq) (s:Shared) (U:St) (H:Hp) (R:It->Hp->Prop),Inv X pins U H s->wi U H R->
  wpAny (model X.prog X.w) X.A (eval iter X.env) (fun v s1=>wpAny (model X.prog X.w) X.A (pyIter v) (Hr X pins U tg R) X.xe s1) X.xe s
def GA(ho:s.heap.get? it=some o)(hc:o.cls=.type n)(hd:o.data=.fields vs)
  (hn:["enumerate", "zip", "dict_itemiterator", "dict_reverseitemiterator", "odict_iterator", "itertools.zip_longest", "itertools.pairwise"].contains n=false) (hQ:Q () s):wpAny M A (letOwnedTupleGo tg (.ref it) u) Q E s:=by
 unfold letOwnedTupleGo;cases tg <;> first
  | exact wBa hQ
  | (cases u <;> first
    | exact wBa hQ
    | (refine wAa (wpAny_load ho ?_)
       rw[hc,hd];show wpAny M A (if (["enumerate", "zip", "dict_itemiterator", "dict_reverseitemiterator", "odict_iterator", "itertools.zip_longest", "itertools.pairwise"].contains n&&vs[0]?==some (rawInt _))=true then _ else _) Q E s;rw[if_neg (by intro h;rw[hn,Bool.false_and]at h;cases h)];exact wBa hQ))
def CK(K:uXa)(a:Addr):It:=
 ⟨fun i H=>∃xs x,jC K H a xs/\xs[i]?=some x,fun i H x H'=>H'=H/\∀xs,jC K H a xs->xs[i]?=some x,fun i H=>∃xs,jC K H a xs/\xs.length<=i⟩
def CL(K:uXa)(a:Addr):It:=
 ⟨fun i H=>∃xs x,JN K H a xs/\xs[i]?=some x,fun i H x H'=>H'=H/\∀xs,JN K H a xs->xs[i]?=some x,fun i H=>∃xs,JN K H a xs/\xs.length<=i⟩
def AG(lo:Int)(n:Nat):It:=⟨fun i _=>i < n,fun i H x H'=>H'=H/\x=.int (lo+i),fun i _=>n<=i⟩
def QK{P:Program}{w:World}{K:uXa}{tg:Expr}(a it:Addr):Turn P w K tg (CK K a) [it] it (fun i h=>h.IsListIter it a i) where
 mem:=by simp
 obj:=fun i h st b hb=>by
  have e:b=it:=by simpa using hb
  subst e;obtain⟨o,e,c,d⟩:=st;exact⟨o,e,fun v z=>by rw[d]at z;cases z⟩
 keep:=fun i h h' st k=>st.at fun o e=>k it (by simp) o e
 item:=by
  intro X hP hw hK hc i pins s U H E I hf st hg;subst hP hw hK;obtain⟨xs,x,hq,hx⟩:=hg;obtain⟨its,rv,p,hz⟩:=I.list hq;obtain⟨u,hu,ru⟩:=rv.get hx;obtain⟨f0,f1,f2,f3,f4,f5⟩:=hf it (by simp);refine wpAny_pyNext_list_item st p.isList (x:=u) (by simpa using hu) fun h' st' sb=>?_;have I1:Inv X pins U H { s with heap:=h' }:=I.turned (t':=s.toks) (fun b o hb e=>(sb.2 b hb).trans e) f0 f1 f3 f4 f5;obtain⟨o,e,c,d⟩:=id st';exact⟨u,rfl,GA (s:={ s with heap:=h' }) e c d (by decide) ⟨x,H,I1,ru,⟨rfl,fun ys hy=>by rw[I.list_inj hy hq];exact hx⟩,st',fun b hb=>(hf b hb).1⟩⟩
 done:=by
  intro X hP hw hK hc i pins s U H E I hf st hg;subst hP hw hK;obtain⟨xs,hq,hx⟩:=hg;obtain⟨its,rv,p,hz⟩:=I.list hq;obtain⟨f0,f1,f2,f3,f4,f5⟩:=hf it (by simp);have hl:=rv.length;exact wpAny_pyNext_list_end (I.ok.hd hc) st p.isList (by simp;lia) fun h' eb=>⟨rfl,I.turned (t':=s.toks) (fun b o hb e=>eb b o hb e) f0 f1 f3 f4 f5⟩
 self:=fun _ _ _ _ _ st h=>wpAny_pyIter_listiter st h
def qS{P:Program}{w:World}{K:uXa}{tg:Expr}(a it:Addr):Turn P w K tg (CL K a) [it] it (fun i h=>h.IsTupleIter it a i) where
 mem:=by simp
 obj:=fun i h st b hb=>by
  have e:b=it:=by simpa using hb
  subst e;obtain⟨o,e,c,d⟩:=st;exact⟨o,e,fun v z=>by rw[d]at z;cases z⟩
 keep:=fun i h h' st k=>st.at fun o e=>k it (by simp) o e
 item:=by
  intro X hP hw hK hc i pins s U H E I hf st hg;subst hP hw hK;obtain⟨xs,x,hq,hx⟩:=hg;obtain⟨its,rv,p,hz⟩:=I.tuple hq;obtain⟨u,hu,ru⟩:=rv.get hx;obtain⟨f0,f1,f2,f3,f4,f5⟩:=hf it (by simp);refine wpAny_pyNext_tuple_item st (show s.heap.IsTuple a its.toArray from p) (x:=u) (by simpa using hu) fun h' st' sb=>?_;have I1:Inv X pins U H { s with heap:=h' }:=I.turned (t':=s.toks) (fun b o hb e=>(sb.2 b hb).trans e) f0 f1 f3 f4 f5;obtain⟨o,e,c,d⟩:=id st';exact⟨u,rfl,GA (s:={ s with heap:=h' }) e c d (by decide) ⟨x,H,I1,ru,⟨rfl,fun ys hy=>by rw[I.tuple_inj hy hq];exact hx⟩,st',fun b hb=>(hf b hb).1⟩⟩
 done:=by
  intro X hP hw hK hc i pins s U H E I hf st hg;subst hP hw hK;obtain⟨xs,hq,hx⟩:=hg;obtain⟨its,rv,p,hz⟩:=I.tuple hq;obtain⟨f0,f1,f2,f3,f4,f5⟩:=hf it (by simp);have hl:=rv.length;exact wpAny_pyNext_tuple_end (I.ok.hd hc) st (show s.heap.IsTuple a its.toArray from p) (by simp;lia) fun h' eb=>⟨rfl,I.turned (t':=s.toks) (fun b o hb e=>eb b o hb e) f0 f1 f3 f4 f5⟩
 self:=fun _ _ _ _ _ st h=>wpAny_pyIter_tupleiter st h
def qT{P:Program}{w:World}{K:uXa}{tg:Expr}(it:Addr)(lo:Int)(n:Nat):Turn P w K tg (AG lo n) [it] it (fun i h=>IsRangeIter h it (lo+(i:Nat) * 1) ((n:Int) - (i:Nat)) 1) where
 mem:=by simp
 obj:=fun i h st b hb=>by
  have e:b=it:=by simpa using hb
  subst e;exact⟨_,st,fun v z=>by
   have z':Data.fields _=Data.cell v:=z;cases z'⟩
 keep:=fun i h h' st k=>k it (by simp) _ st
 item:=by
  intro X hP hw hK hc i pins s U H E I hf st hg;subst hP hw hK;obtain⟨f0,f1,f2,f3,f4,f5⟩:=hf it (by simp);have W:=Walks.range (prog:=X.prog) (w:=X.w) (I.ok.hd hc) it lo 1 n;refine W.item i s _ _ hg st fun v h' tk hv st' kk=>?_;obtain⟨t,rfl⟩:=hv;have I1:Inv X pins U H { s with heap:=h',toks:=tk }:=I.turned (fun b o hb e=>kk b o (by simpa using hb) e) f0 f1 f3 f4 f5;refine⟨_,rfl,GA (s:={ s with heap:=h',toks:=tk }) (n := "range_iterator") st' rfl rfl (by decide) ⟨.int (lo+i),H,I1,⟨t,?_⟩,⟨rfl,rfl⟩,st',fun b hb=>(hf b hb).1⟩⟩;rw[Int.mul_one]
 done:=by
  intro X hP hw hK hc i pins s U H E I hf st hg;subst hP hw hK;obtain⟨f0,f1,f2,f3,f4,f5⟩:=hf it (by simp);exact wpAny_pyNext_range_end (I.ok.hd hc) st (by have:n<=i:=hg;lia) fun h' eb=>⟨rfl,I.turned (t':=s.toks) (fun b o hb e=>eb b o hb e) f0 f1 f3 f4 f5⟩
 self:=fun _ _ _ _ _ st h=>wpAny_pyIter_rangeiter st h
section
variable {X:Cx} {tg:Expr}
def XF{pins:Tq}{U:St}{H:Hp}{s:Shared}{R:It->Hp->Prop}{E:Tz}{lo hi:Int}{t u v:Tok}{tk:Nat}(I:Inv X pins U H s)(h1:-(2 ^ 62)<=lo)(h2:lo < 2 ^ 62)(h3:-(2 ^ 62)<=hi)(h4:hi < 2 ^ 62)
  (q:R (AG lo (hi - lo).toNat) H):wpAny (model X.prog X.w) X.A (pyIter (.ref s.heap.objs.size)) (Hr X pins U tg R) E { s with heap:=s.heap.push { cls:=.type "range",data:=.fields #[.int lo t,.int hi u,.int 1 v] },toks:=tk }:=by
 refine wpAny_pyIter_range (IsRange.new ..) (small_one h1 h2 h3 h4) ?_;have I1:Inv X pins U H { s with heap:=s.heap.push { cls:=.type "range",data:=.fields #[.int lo t,.int hi u,.int 1 v] },toks:=tk }:=I.kept fun b o e=>wIa _ e;refine⟨(s.heap.push { cls:=.type "range",data:=.fields #[.int lo t,.int hi u,.int 1 v] }).objs.size,[(s.heap.push { cls:=.type "range",data:=.fields #[.int lo t,.int hi u,.int 1 v] }).objs.size],_,_,H,rfl,
  I1.kept (t':=tk) fun b o e=>wIa _ e,qT _ lo (hi - lo).toNat,?_,fun b hb=>?_,q⟩
 ·have e1:lo+((0:Nat):Int) * 1=lo:=by simp
  have e2:(((hi - lo).toNat:Nat):Int) - ((0:Nat):Int)=Builtin.Range.rangeSize lo hi 1:=by rw[rangeSize_one];split <;> lia
  show IsRangeIter _ _ (lo+((0:Nat):Int) * 1) ((((hi - lo).toNat:Nat):Int) - ((0:Nat):Int)) 1;rw[e1,e2];exact wJa _ rfl
 ·have e:b=(s.heap.push { cls:=.type "range",data:=.fields #[.int lo t,.int hi u,.int 1 v] }).objs.size:=by simpa using hb
  subst e;exact I1.fpOk (wPa _) (I1.hok.fresh (wPa _))
def E_(ta:TA):TI:=fun U H R=>ta U H fun vs H1=>∃j:Int,vs=[.int j]/\-(2 ^ 62)<=j/\j < 2 ^ 62/\R (AG 0 j.toNat) H1
def QL(hg:Gl X "range")(hm:X.mg "range" = none)(ha:PA X [a] ta)(hs:starEach [a] X.env=[(false,eval a X.env)]:=by rfl):PI X tg (.Call (.Name "range" p) [a] [] pos) (E_ ta):=by
 intro pins s U H R I h;refine Call_ (Zb I hg hm boot_range (PyProof.Rows.callWith_type1 (jv (ha pos pins s U H _ I h) fun us s1 xx=>?_) hs rfl));obtain⟨vs,H1,I1,r1,q1⟩:=xx;obtain⟨j,e,q1,q2,q⟩:=q1;subst e;cases r1 with
 | cons r rr=>
  cases rr;obtain⟨t,rfl⟩:=r;exact call_range_1 (XF I1 (by lia) (by lia) q1 q2 (by simpa using q))
def iG(wi:TI)(g:TG)(tb:TS):TS:=fun D U H=>wi U H fun J H1=>∃W:Nat->Nat->St->Hp->Prop,(∃m,W 0 m U H1)/\∀i m U H,W i m U H->
 (J.stop i H/\D.nx U H) \/ (J.go i H/\∃N:St->Hp->Prop,(∀U' H',N U' H'->∃m',m' < m/\W (i+1) m' U' H')/\∀x H',J.yld i H x H'->g x U H' fun U2 H2=>tb { D with nx:=N,ct:=N,bk:=D.nx } U2 H2)
noncomputable def uT(fp:List Addr)(h:Heap):List (Addr×Obj):=fp.filterMap fun b=>(h.get? b).map fun o=>(b,o)
def ZS(hb:b∈fp)(e:h.get? b=some o):(b,o)∈uT fp h:=List.mem_filterMap.mpr ⟨b,hb,by rw[e];rfl⟩
def QM(hp:p∈uT fp h):p.1∈fp/\h.get? p.1=some p.2:=by
 obtain⟨b,hb,e⟩:=List.mem_filterMap.mp hp;cases q:h.get? b with
 | none=>rw[q]at e;cases e
 | some o=>
  rw[q]at e;have e':(b,o)=p:=vFa e;subst e';exact⟨hb,q⟩
def Inv.pinned(I:Inv X pins U H s)(hf:∀b∈fp,JH X pins H b)(ho:∀b∈fp,∃o,s.heap.get? b=some o/\∀v,o.data≠.cell v):Inv X (pins++uT fp s.heap) U H s:=
 I.pins_of fun p hp=>(List.mem_append.mp hp).elim (fun z=>I.pin p (vJa _ z)) fun z=>by
  obtain⟨hb,e⟩:=QM z;obtain⟨f0,f1,f2,_⟩:=hf p.1 hb;obtain⟨o,e',d⟩:=ho p.1 hb;rw[e]at e';cases e';exact⟨e,f0,f1,f2,d⟩
def Inv.unpinned(I:Inv X (pins++pl) U H s):Inv X pins U H s:=I.pins_of fun p hp=>I.pin p (vJa _ (vIa _ hp))
def CM(hp:PassesOwn (model X.prog X.w) X.A X.env X.xe)(hc:X.calm=true)(hi:PI X tg iter wi)(hg:PG X tg g)(hb:Ji X body tb)
  (hs:∀x,foldedSetIterable iter X.env x=pure x:=by intro _;rfl):PS X (.For tg iter body [] pos) (iG wi g tb):=by
 intro pins s U H D I h;refine wpAny_For (jv (hi pins s U H _ I h) fun v s1 h1=>jv h1 fun itv s2 h2=>?_) hs;obtain⟨it,fp,tn,J,H2,e,I2,T,st2,f2,W,⟨m0,w0⟩,turn⟩:=h2;subst e;have stat:∀{H':Hp},(∀b∈fp,H' b=none)->∀b∈fp,JH X pins H' b:=fun hn b hb=>⟨hn b hb,(f2 b hb).2⟩
 refine codeAny_forLoop_any (fun n s'=>∃i U' H',Inv X pins U' H' s'/\tn i s'.heap/\(∀b∈fp,H' b=none)/\W i n U' H') ?_ m0 ⟨0,U,H2,I2,st2,fun b hb=>(f2 b hb).1,w0⟩;rintro n s3 ⟨i,U3,H3,I3,st3,fr3,w3⟩;rcases turn i n U3 H3 w3 with⟨stop,qn⟩ | ⟨go,N,hN,step⟩
 ·refine wpAny_passesOwn hp (jv (T.done X rfl rfl rfl hc i pins s3 U3 H3 X.xe I3 (stat fr3) st3 stop) fun r s4 xx=>?_);obtain⟨hr,I4⟩:=xx;subst hr;exact wpAny_execs_nil ⟨U3,H3,I4,qn⟩
 ·refine wpAny_passesOwn hp (jv (T.item X rfl rfl rfl hc i pins s3 U3 H3 X.xe I3 (stat fr3) st3 go) fun r s4 xx=>?_);obtain⟨u,hr,h4⟩:=xx;subst hr;refine wpAny_passesOwn hp (jv h4 fun _ s5 xx=>?_);obtain⟨x,H5,I5,r5,y5,st5,fr5⟩:=xx;have I5':=I5.pinned (stat fr5) (T.obj _ _ st5);refine wpAny_passesOwn hp (jv (hg _ s5 U3 H5 x u _ I5' r5 (step x H5 y5)) fun _ s6 xx=>?_);obtain⟨U6,H6,I6,q6⟩:=xx;refine wpAny_passesOwn hp (jv (hb _ s6 U6 H6 _ I6 q6) fun f s7 q7=>?_);have again:∀{U7:St} {H7:Hp},Inv X (pins++uT fp s5.heap) U7 H7 s7->N U7 H7->∃m,m < n/\∃i U' H',Inv X pins U' H' s7/\tn i s7.heap/\(∀b∈fp,H' b=none)/\W i m U' H':=fun {U7 H7} I7 n7=>by
   obtain⟨m',hm,w7⟩:=hN U7 H7 n7;refine⟨m',hm,i+1,U7,H7,I7.unpinned,T.keep _ _ _ st5 fun b hb o e=>(I7.pin (b,o) (vJa _ (vJa _ (ZS hb e)))).1,fun b hb=>?_,w7⟩;obtain⟨o,e,d⟩:=T.obj _ _ st5 b hb;exact(I7.pin (b,o) (vJa _ (vJa _ (ZS hb e)))).2.1
  cases f with
  | next=>obtain⟨U7,H7,I7,n7⟩:=q7;exact again I7 n7
  | cont=>obtain⟨U7,H7,I7,n7⟩:=q7;exact again I7 n7
  | brk=>obtain⟨U7,H7,I7,q7⟩:=q7;exact⟨U7,H7,I7.unpinned,q7⟩
  | ret v=>obtain⟨x7,U7,H7,I7,r7,q7⟩:=q7;exact⟨x7,U7,H7,I7.unpinned,r7,q7⟩
end
noncomputable abbrev R2:=V->V->Hp->VK->Prop
def jS(X:Cx)(f:Value->Value->Sem Value)(r:R2):Prop:=
 ∀(pins:Tq) (s:Shared) (U:St) (H:Hp) (x y:V) (v u:Value) (Q:VK),Inv X pins U H s->jq x v->jq y u->r x y H Q->
  wpAny (model X.prog X.w) X.A (f v u) (EP X pins U Q) X.xe s
def CN(X:Cx)(f:Value->Sem Value)(r:V->Hp->VK->Prop):Prop:=
 ∀(pins:Tq) (s:Shared) (U:St) (H:Hp) (x:V) (v:Value) (Q:VK),Inv X pins U H s->jq x v->r x H Q->
  wpAny (model X.prog X.w) X.A (f v) (EP X pins U Q) X.xe s
def YD(X:Cx)(f:Value)(r:List V->Hp->VK->Prop):Prop:=
 ∀(pins:Tq) (s:Shared) (U:St) (H:Hp) (xs:List V) (us:List Value) (Q:VK),Inv X pins U H s->jp xs us->r xs H Q->
  wpAny (model X.prog X.w) X.A (call f us) (EP X pins U Q) X.xe s
def iH(X:Cx)(r:V->Hp->(Bool->Hp->Prop)->Prop):Prop:=
 ∀(pins:Tq) (s:Shared) (U:St) (H:Hp) (x:V) (v:Value) (Q:Bool->Hp->Prop),Inv X pins U H s->jq x v->r x H Q->
  wpAny (model X.prog X.w) X.A (truthy v) (TP X pins U Q) X.xe s
def QN(r:R2)(ta tb:TE):TE:=fun U H Q=>ta U H fun x H1=>tb U H1 fun y H2=>r x y H2 Q
def lf(r:V->Hp->VK->Prop)(ta:TE):TE:=fun U H Q=>ta U H fun x H1=>r x H1 Q
def rI(C:Int->Int->Prop)(g:Int->Int->V):R2:=fun x y H Q=>∃i j,x=.int i/\y=.int j/\C i j/\Q (g i j) H
def ZK(g:Int->Int->V):R2:=fun x y H Q=>∃i j,x=.int i/\y=.int j/\Q (g i j) H
def rU(g:Int->V):V->Hp->VK->Prop:=fun x H Q=>∃i,x=.int i/\Q (g i) H
section
variable {X:Cx} {a b c:Expr} {ta tb tc:TE} {pos:Pos}
def XH(ha:PE X a ta)(hb:PE X b tb){pins:Tq}{s:Shared}{U:St}{H:Hp}{R:V->V->Hp->Prop}(I:Inv X pins U H s)
  (h:ta U H fun x H1=>tb U H1 fun y H2=>R x y H2) {Q:Tz} {f:Value->Value->Sem Value}
  (hf:∀v u s2 x y H2,Inv X pins U H2 s2->jq x v->jq y u->R x y H2->wpAny (model X.prog X.w) X.A (f v u) Q X.xe s2):
  wpAny (model X.prog X.w) X.A (eval a X.env) (fun v s₁=>wpAny (model X.prog X.w) X.A (eval b X.env) (fun u s₂=>wpAny (model X.prog X.w) X.A (f v u) Q X.xe s₂) X.xe s₁) X.xe s:=by
 refine jv (ha pins s U H _ I h) fun v s1 xx=>?_;obtain⟨x,H1,I1,r1,q1⟩:=xx;refine jv (hb pins s1 U H1 _ I1 q1) fun u s2 xx=>?_;obtain⟨y,H2,I2,r2,q2⟩:=xx;exact hf v u s2 x y H2 I2 r1 r2 q2
def AH{op:Operator}{r:R2}(ho:jS X (binaryOp op) r)(ha:PE X a ta)(hb:PE X b tb):PE X (.BinOp a op b pos) (QN r ta tb):=by
 intro pins s U H Q I h;exact wpAny_BinOp (XH ha hb I h fun v u s2 x y H2 I2 rx ry q=>ho pins s2 U H2 x y v u Q I2 rx ry q)
def f9(ho:CN X (unaryOp op) r)(ha:PE X a ta):PE X (.UnaryOp op a pos) (lf r ta):=by
 intro pins s U H Q I h;exact UnaryOp_ (jv (ha pins s U H _ I h) fun v s1 ⟨x,H1,I1,r1,q1⟩=>ho pins s1 U H1 x v Q I1 r1 q1)
def AI{f:Value->Value->Sem Value}{C:Int->Int->Prop}{g:Int->Int->Int}
  (rule:∀(i j:Int) (t u:Tok) (s:Shared) (Q:Tz) (E:Tz),C i j->Q (.int (g i j) s.toks) { s with toks:=s.toks+1 }->wpAny (model X.prog X.w) X.A (f (.int i t) (.int j u)) Q E s):
  jS X f (rI C fun i j=>.int (g i j)):=by
 intro pins s U H x y v u Q I rx ry h;obtain⟨i,j,rfl,rfl,hc,q⟩:=h;obtain⟨t,rfl⟩:=rx;obtain⟨t',rfl⟩:=ry;exact rule i j t t' s _ _ hc ⟨.int (g i j),H,I.tok _,⟨_,rfl⟩,q⟩
def CO{f:Value->Value->Sem Value}{g:Int->Int->Int}
  (rule:∀(i j:Int) (t u:Tok) (s:Shared) (Q:Tz) (E:Tz),Q (.int (g i j) s.toks) { s with toks:=s.toks+1 }->wpAny (model X.prog X.w) X.A (f (.int i t) (.int j u)) Q E s):
  jS X f (ZK fun i j=>.int (g i j)):=by
 intro pins s U H x y v u Q I rx ry h;obtain⟨i,j,rfl,rfl,q⟩:=h;obtain⟨t,rfl⟩:=rx;obtain⟨t',rfl⟩:=ry;exact rule i j t t' s _ _ ⟨.int (g i j),H,I.tok _,⟨_,rfl⟩,q⟩
def qU{f:Value->Value->Sem Value}{g:Int->Int->Bool}
  (rule:∀(i j:Int) (t u:Tok) (s:Shared) (Q:Tz) (E:Tz),Q (.bool (g i j)) s->wpAny (model X.prog X.w) X.A (f (.int i t) (.int j u)) Q E s):
  jS X f (ZK fun i j=>.bl (g i j)):=by
 intro pins s U H x y v u Q I rx ry h;obtain⟨i,j,rfl,rfl,q⟩:=h;obtain⟨t,rfl⟩:=rx;obtain⟨t',rfl⟩:=ry;exact rule i j t t' s _ _ ⟨.bl (g i j),H,I,rfl,q⟩
def XI(i j:Int):Prop:=0 < j/\j < 1073741824
def XJ(i j:Int):Prop:=0<=j/\j<=1000000/\i.natAbs < 2 ^ 64
def gH(i j:Int):Prop:=(-(2 ^ 64) < i/\i < 2 ^ 64) \/ (-(2 ^ 64) < j/\j < 2 ^ 64)
def gH.ok{i j:Int}(h:gH i j):IntMulOk i j:=by
 rcases h with⟨h1,h2⟩ | ⟨h1,h2⟩
 ·exact .of_left (intBits_le_64 h1 h2)
 ·exact .of_right (intBits_le_64 h1 h2)
def CQ:jS X (binaryOp .Add) (ZK fun i j=>.int (i+j)):=CO fun _ _ _ _ _ _ _ q=>add_int q
def CS:jS X (binaryOp .Sub) (ZK fun i j=>.int (i - j)):=CO fun _ _ _ _ _ _ _ q=>sub_int q
def CT:jS X (binaryOp .Mult) (rI gH fun i j=>.int (i * j)):=AI fun _ _ _ _ _ _ _ hc q=>mul_int q hc.ok
def Ba:jS X (binaryOp .FloorDiv) (rI XI fun i j=>.int (i / j)):=AI fun i j _ _ _ _ _ hc q=>by
 have h1:(0:Int) < j:=hc.1;have h2:j < 1073741824:=hc.2;exact floordiv_int (by lia) (by rw[Int.fdiv_eq_ediv_of_nonneg i (by lia)];exact q) (.inl (PyProof.noPylong_small (by lia)))
def CU:jS X (binaryOp .Mod) (rI (fun _ j=>0 < j) fun i j=>.int (i % j)):=AI fun i j _ _ _ _ _ hc q=>by
 have h1:(0:Int) < j:=hc;exact mod_int' (by lia) (by rw[Int.fmod_eq_emod_of_nonneg i (by lia)];exact q)
def CV:jS X (binaryOp .Pow) (rI XJ fun i j=>.int (i ^ j.toNat)):=AI fun _ _ _ _ _ _ _ hc q=>pow_int_small hc.1 hc.2.1 hc.2.2 q
def lg{f:Value->Sem Value}{g:Int->Int}
  (rule:∀(i:Int) (t:Tok) (s:Shared) (Q:Tz) (E:Tz),Q (.int (g i) s.toks) { s with toks:=s.toks+1 }->wpAny (model X.prog X.w) X.A (f (.int i t)) Q E s):
  CN X f (rU fun i=>.int (g i)):=by
 intro pins s U H x v Q I rx h;obtain⟨i,rfl,q⟩:=h;obtain⟨t,rfl⟩:=rx;exact rule i t s _ _ ⟨.int (g i),H,I.tok _,⟨_,rfl⟩,q⟩
def CW:CN X (unaryOp .USub) (rU fun i=>.int (-i)):=lg fun _ _ _ _ _ q=>neg_int q
end
noncomputable def CY:V->V->Bool
 | .non,.non=>true | .non,.int _=>true | .int _,.non=>true | .non,.bl _=>true | .bl _,.non=>true | .non,.str _=>true | .str _,.non=>true
 | .int _,.int _=>true | .bl _,.bl _=>true | .str _,.str _=>true
 | .int _,.str _=>true | .str _,.int _=>true | .bl _,.str _=>true | .str _,.bl _=>true
 | _,_=>false
def AJ:R2:=fun x y H Q=>CY x y=true/\Q (.bl (decide (x=y))) H
def AL:R2:=fun x y H Q=>CY x y=true/\Q (.bl (!decide (x=y))) H
def Vr:decide (V.int i=V.int j)=(i==j):=by
 rw[Bool.eq_iff_iff];simp
def uU:decide (V.bl i=V.bl j)=(i==j):=by
 rw[Bool.eq_iff_iff];simp
def Vs:decide (V.str i=V.str j)=(i==j):=by
 rw[Bool.eq_iff_iff];simp
section
variable {X:Cx} {a b c:Expr} {ta tb tc:TE} {pos:Pos}
def jH(I:Inv X pins U H s)(q:Q (.bl k) H)(e:k=k'):EP X pins U Q (.bool k') s:=by
 subst e;exact⟨.bl k,H,I,rfl,q⟩
def fc:jS X (compareOp .Eq) AJ:=by
 intro pins s U H x y v u Q I rx ry h;obtain⟨hs,q⟩:=h;cases x with
 | non=>
  cases rx;cases y with
  | non=>cases ry;exact PySem.EqNone.eq_none_none (jH I q (by simp))
  | bl j=>cases ry;exact PySem.EqNone.eq_none_bool (jH I q (by simp))
  | int j=>obtain⟨t',rfl⟩:=ry;exact PySem.EqNone.eq_none_int (jH I q (by simp))
  | str j=>obtain⟨t',rfl⟩:=ry;exact PySem.EqNone.eq_none_str (jH I q (by simp))
  | _=>exact vDa (show false=true from hs) vNa
 | bl i=>
  cases rx;cases y with
  | non=>cases ry;exact PySem.EqNone.eq_bool_none (jH I q (by simp))
  | bl j=>cases ry;exact eq_bool (jH I q uU)
  | str j=>obtain⟨t',rfl⟩:=ry;exact PySem.EqMixed.eq_bool_str (jH I q (by simp))
  | _=>exact vDa (show false=true from hs) vNa
 | int i=>
  obtain⟨t,rfl⟩:=rx;cases y with
  | non=>cases ry;exact PySem.EqNone.eq_int_none (jH I q (by simp))
  | int j=>obtain⟨t',rfl⟩:=ry;exact eq_int (jH I q Vr)
  | str j=>obtain⟨t',rfl⟩:=ry;exact PySem.EqMixed.eq_int_str (jH I q (by simp))
  | _=>exact vDa (show false=true from hs) vNa
 | str i=>
  obtain⟨t,rfl⟩:=rx;cases y with
  | non=>cases ry;exact PySem.EqNone.eq_str_none (jH I q (by simp))
  | bl j=>cases ry;exact PySem.EqMixed.eq_str_bool (jH I q (by simp))
  | int j=>obtain⟨t',rfl⟩:=ry;exact PySem.EqMixed.eq_str_int (jH I q (by simp))
  | str j=>obtain⟨t',rfl⟩:=ry;exact eq_str (jH I q Vs)
  | _=>exact vDa (show false=true from hs) vNa
 | _=>cases y <;> exact vDa (show false=true from hs) vNa
def fe:jS X (compareOp .NotEq) AL:=by
 intro pins s U H x y v u Q I rx ry h;obtain⟨hs,q⟩:=h;cases x with
 | non=>
  cases rx;cases y with
  | non=>cases ry;exact PySem.EqNone.ne_none_none (jH I q (by simp))
  | bl j=>cases ry;exact PySem.EqNone.ne_none_bool (jH I q (by simp))
  | int j=>obtain⟨t',rfl⟩:=ry;exact PySem.EqNone.ne_none_int (jH I q (by simp))
  | str j=>obtain⟨t',rfl⟩:=ry;exact PySem.EqNone.ne_none_str (jH I q (by simp))
  | _=>exact vDa (show false=true from hs) vNa
 | bl i=>
  cases rx;cases y with
  | non=>cases ry;exact PySem.EqNone.ne_bool_none (jH I q (by simp))
  | bl j=>cases ry;exact ne_bool (jH I q (congrArg not uU))
  | str j=>obtain⟨t',rfl⟩:=ry;exact PySem.EqMixed.ne_bool_str (jH I q (by simp))
  | _=>exact vDa (show false=true from hs) vNa
 | int i=>
  obtain⟨t,rfl⟩:=rx;cases y with
  | non=>cases ry;exact PySem.EqNone.ne_int_none (jH I q (by simp))
  | int j=>obtain⟨t',rfl⟩:=ry;exact ne_int (jH I q (congrArg not Vr))
  | str j=>obtain⟨t',rfl⟩:=ry;exact PySem.EqMixed.ne_int_str (jH I q (by simp))
  | _=>exact vDa (show false=true from hs) vNa
 | str i=>
  obtain⟨t,rfl⟩:=rx;cases y with
  | non=>cases ry;exact PySem.EqNone.ne_str_none (jH I q (by simp))
  | bl j=>cases ry;exact PySem.EqMixed.ne_str_bool (jH I q (by simp))
  | int j=>obtain⟨t',rfl⟩:=ry;exact PySem.EqMixed.ne_str_int (jH I q (by simp))
  | str j=>obtain⟨t',rfl⟩:=ry;exact ne_str (jH I q (congrArg not Vs))
  | _=>exact vDa (show false=true from hs) vNa
 | _=>cases y <;> exact vDa (show false=true from hs) vNa
def ff:jS X (compareOp .Lt) (ZK fun i j=>.bl (decide (i < j))):=qU fun _ _ _ _ _ _ _ q=>lt_int q
def fg:jS X (compareOp .LtE) (ZK fun i j=>.bl (decide (i<=j))):=qU fun _ _ _ _ _ _ _ q=>le_int q
def fh:jS X (compareOp .Gt) (ZK fun i j=>.bl (decide (j < i))):=qU fun _ _ _ _ _ _ _ q=>gt_int q
def fj:jS X (compareOp .GtE) (ZK fun i j=>.bl (decide (j<=i))):=qU fun _ _ _ _ _ _ _ q=>ge_int q
def CZ:jS X (compareOp .Is) (fun x y H Q=>y=.non/\Q (.bl (decide (x=.non))) H):=by
 intro pins s U H x y v u Q I rx ry h;obtain⟨rfl,q⟩:=h;cases ry;refine is_none_gen (jH I q ?_);cases x <;> first
  | (cases rx;rfl)
  | (obtain⟨t,rfl⟩:=rx;rfl)
def Bb:jS X (compareOp .IsNot) (fun x y H Q=>y=.non/\Q (.bl (!decide (x=.non))) H):=by
 intro pins s U H x y v u Q I rx ry h;obtain⟨rfl,q⟩:=h;cases ry;refine isnot_none_gen (jH I q ?_);cases x <;> first
  | (cases rx;rfl)
  | (obtain⟨t,rfl⟩:=rx;rfl)
def jS.or(h:jS X f r)(h':jS X f r'):jS X f (fun x y H Q=>r x y H Q \/ r' x y H Q):=by
 intro pins s U H x y v u Q I rx ry q;rcases q with q | q
 ·exact h pins s U H x y v u Q I rx ry q
 ·exact h' pins s U H x y v u Q I rx ry q
def Bc(ho:jS X (compareOp op) r)(ha:PE X a ta)(hb:PE X b tb)(hm:behindInMarks op b=false):PE X (.Compare a [op] [b] pos) (QN r ta tb):=by
 intro pins s U H Q I h;exact wpAny_Compare1 (XH ha hb I h fun v u s2 x y H2 I2 rx ry q=>ho pins s2 U H2 x y v u Q I2 rx ry q) hm
def AM(t:TE):TT:=fun U H Q=>t U H fun x H'=>∃k,x=.bl k/\Q k H'
def Be(ho:jS X (compareOp op) r)(ha:PE X a ta)(hb:PE X b tb)(hm:behindInMarks op b=false):PT X (.Compare a [op] [b] pos) (AM (QN r ta tb)):=by
 intro pins s U H Q I h;refine wpAny_isTrue_Compare1 (jv (ha pins s U H _ I h) fun v s1 ⟨x,H1,I1,r1,q1⟩=>jv (hb pins s1 U H1 _ I1 q1) fun u s2 ⟨y,H2,I2,r2,q2⟩=>
  jv (ho pins s2 U H2 x y v u _ I2 r1 r2 q2) fun c s3 ⟨z,H3,I3,r3,k,e,q3⟩=>?_) hm
 subst e;cases r3;exact wpAny_truthy_bool ⟨H3,I3,q3⟩
def KW(r r':R2)(ta tb tc:TE):TE:=fun U H Q=>ta U H fun x H1=>tb U H1 fun y H2=>r x y H2 fun z H3=>∃k,z=.bl k/\
 (if k=true then tc U H3 fun w' H4=>r' y w' H4 Q else Q (.bl false) H3)
theorem XM(ho:jS X (compareOp op) r)(ho':jS X (compareOp op') r')(ha:PE X a ta)(hb:PE X b tb)(hc:PE X c tc)
  (hm:lastMarks [op,op'] [b,c]=false:=by with_unfolding_all rfl):PE X (.Compare a [op,op'] [b,c] pos) (KW r r' ta tb tc):=by
 intro pins s U H Q I h;refine Compare_chain (jv (ha pins s U H _ I h) fun v s1 ⟨x,H1,I1,r1,q1⟩=>chain_link (jv (hb pins s1 U H1 _ I1 q1) fun u s2 ⟨y,H2,I2,r2,q2⟩=>
  jv (ho pins s2 U H2 x y v u _ I2 r1 r2 q2) fun d s3 ⟨z,H3,I3,r3,k,e,q3⟩=>?_)) hm
 subst e;cases r3;refine wpAny_truthy_bool ?_;cases k with
 | false=>exact ite_ff ⟨.bl false,H3,I3,rfl,q3⟩
 | true=>exact ite_tt (chain_last (jv (hc pins s3 U H3 _ I3 q3) fun w' s4 ⟨z',H4,I4,r4,q4⟩=>ho' pins s4 U H4 y z' u w' Q I4 r2 r4 q4))
theorem XO(ho:jS X (compareOp op) r)(ho':jS X (compareOp op') r')(ha:PE X a ta)(hb:PE X b tb)(hc:PE X c tc)
  (hm:lastMarks [op,op'] [b,c]=false:=by with_unfolding_all rfl):PT X (.Compare a [op,op'] [b,c] pos) (AM (KW r r' ta tb tc)):=by
 intro pins s U H Q I h;refine isTrue_chain (jv (ha pins s U H _ I h) fun v s1 ⟨x,H1,I1,r1,q1⟩=>test_link (jv (hb pins s1 U H1 _ I1 q1) fun u s2 ⟨y,H2,I2,r2,q2⟩=>
  jv (ho pins s2 U H2 x y v u _ I2 r1 r2 q2) fun d s3 ⟨z,H3,I3,r3,k,e,q3⟩=>?_)) hm
 subst e;cases r3;refine wpAny_truthy_bool ?_;cases k with
 | false=>
  obtain⟨k',e',q'⟩:=q3;cases e';exact ite_ff ⟨H3,I3,q'⟩
 | true=>
  refine ite_tt (test_last (jv (hc pins s3 U H3 _ I3 q3) fun w' s4 ⟨z',H4,I4,r4,q4⟩=>jv (ho' pins s4 U H4 y z' u w' _ I4 r2 r4 q4) fun d' s5 xx=>?_));obtain⟨z2,H5,I5,r5,k2,e2,q5⟩:=xx;subst e2;cases r5;exact wpAny_truthy_bool ⟨H5,I5,q5⟩
def XQ(K:uXa)(x:V)(H:Hp)(k:Bool):Prop:=
 match x with
 | .non=>k=false
 | .bl b=>k=b
 | .int i=>k=(i != 0)
 | .str y=>y.length<=sizeLine/\k=((y.length:Int) != 0)
 | .ref p=>(∃xs,jC K H p xs/\k=!xs.isEmpty) \/ (∃xs,JN K H p xs/\k=!xs.isEmpty)
 | _=>False
def GB(r:jp xs its):(!its.toArray.isEmpty)=!xs.isEmpty:=by
 cases r <;> simp
def Vt:(sizeLine:Nat) < 2 ^ 63:=by rw[sizeLine_eq];decide
def C_:iH X (fun x H Q=>∃k,XQ X.K x H k/\Q k H):=by
 intro pins s U H x v Q I rx h;obtain⟨k,e,q⟩:=h;have hl:=Vt;have hs:sizeLine=16777216:=sizeLine_eq;cases x with
 | non=>
  cases rx;have e':k=false:=e;subst e';exact truthy_none ⟨H,I,q⟩
 | bl b=>
  cases rx;have e':k=b:=e;subst e';exact wpAny_truthy_bool ⟨H,I,q⟩
 | int i=>
  obtain⟨t,rfl⟩:=rx;have e':k=(i != 0):=e;subst e';exact PySem.P.truthy_int ⟨H,I,q⟩
 | str y=>
  obtain⟨t,rfl⟩:=rx;obtain⟨hy,e'⟩:y.length<=sizeLine/\k=((y.length:Int) != 0):=e;subst e';exact PySem.P.truthy_str (by lia) ⟨H,I.tok _,q⟩
 | ref p=>
  cases rx;have e':(∃xs,jC X.K H p xs/\k=!xs.isEmpty) \/ (∃xs,JN X.K H p xs/\k=!xs.isEmpty):=e;rcases e' with⟨xs,hx,e'⟩ | ⟨xs,hx,e'⟩
  ·subst e';obtain⟨its,r,pl,hz⟩:=I.list hx;have hlen:=r.length;exact wpAny_truthy_list pl.isList (by simp only[List.size_toArray];lia) ⟨H,I.tok _,by rw[GB r];exact q⟩
  ·subst e';obtain⟨its,r,pl,hz⟩:=I.tuple hx;have hlen:=r.length;exact truthy_tuple pl (by simp only[List.size_toArray];lia) ⟨H,I.tok _,by rw[GB r];exact q⟩
 | _=>exact(show False from e).elim
def XR(ha:PE X a ta)(he:∀whole,isTrue a X.env whole=(do let v<-whole;standAt a.pos;holding [v] (truthy v))):
  PT X a (fun U H Q=>ta U H fun x H'=>∃k,XQ X.K x H' k/\Q k H'):=by
 intro pins s U H Q I h;exact isTrue_plain (jv (ha pins s U H _ I h) fun v s1 ⟨x,H1,I1,r1,q1⟩=>C_ pins s1 U H1 x v Q I1 r1 q1) (he _)
def qW:jS X (binaryOp .Add) (fun x y H Q=>∃i j,x=.str i/\y=.str j/\i.length+j.length<=sizeLine/\Q (.str (i++j)) H):=by
 intro pins s U H x y v u Q I rx ry h;obtain⟨i,j,rfl,rfl,hz,q⟩:=h;obtain⟨t,rfl⟩:=rx;obtain⟨t',rfl⟩:=ry;exact add_str (fun t' tk=>⟨.str (i++j),H,I.tok _,⟨_,rfl⟩,q⟩) hz
def qX(r:jp [x] us):∃u,us=[u]/\jq x u:=by
 cases r with
 | cons r1 r2=>cases r2;exact⟨_,rfl,r1⟩
def fm(r:jp [x,y] us):∃u w',us=[u,w']/\jq x u/\jq y w':=by
 cases r with
 | cons r1 r2=>
  cases r2 with
  | cons r3 r4=>cases r4;exact⟨_,_,rfl,r1,r3⟩
def QO(hc:X.calm=true):YD X (.builtin "max") (fun xs H Q=>∃i j,xs=[.int i,.int j]/\Q (.int (if j > i then j else i)) H):=by
 intro pins s U H xs us Q I r h;obtain⟨i,j,rfl,q⟩:=h;obtain⟨u,w',rfl,⟨t,rfl⟩,⟨t',rfl⟩⟩:=fm r;refine max_two_ints (I.ok.hd hc) fun h' tk k=>⟨_,H,I.kept k,?_,q⟩
 by_cases hj:j > i
 ·rw[if_pos hj,if_pos hj];exact⟨_,rfl⟩
 ·rw[if_neg hj,if_neg hj];exact⟨_,rfl⟩
end
structure ObjM (h:Heap) (x dx C:Addr) (mA:Tj):Prop where
 obj:h.get? x=some (PySem.W.instObj C dx)
 ns:h.Ns1 dx mA
 ne:dx≠x
set_option tactic.hygienic true in
theorem Ka{h:Heap}(n:h.Ns1 dx mA):∃od,h.get? dx=some od/\∀name,PySem.W.lookIn name od=some (mA name):=by
 obtain⟨o,es,ep,ho,hd,hk,_,hm⟩:=n;refine⟨o,ho,fun name=>?_⟩;have e:=hm name;unfold nsFind findBy at e;rw[<-Array.find?_toList]at e;unfold PySem.W.lookIn;rw[hd];dsimp only;split
 ·rename_i y q;rw[q]at e;exact congrArg some e
 ·rename_i q;rw[q]at e;have a:es.toList.any (·.refKey)=false:=by
   rw[List.any_eq_false];intro y hy;obtain⟨z,t,hkey⟩:=hk y (Array.mem_toList_iff.mp hy);simp[DictEntry.refKey,hkey]
  have a':¬es.toList.any (·.refKey)=true:=by rw[a];exact vNa
  rw[if_neg a'];exact congrArg some e
def ObjM.look{h:Heap}{x dx C:Addr}{mA:Tj}(I:ObjM h x dx C mA):∃od,PySem.W.InstAt h x (PySem.W.instObj C dx) C (some od)/\∀name,PySem.W.lookIn name od=some (mA name):=
 let ⟨od,ho,hl⟩:=Ka I.ns
 ⟨od,⟨I.obj,rfl,rfl,ho⟩,hl⟩
section
variable {prog:Program} {w:World} {A:Around} {E:Tz} {s:Shared} {K:uXa} {x dx C f:Addr} {mA:Tj} {name:Str} {v:Value}
def Bf{expr:Bool}{Q:Tz}(X:K.In s.heap)(I:ObjM s.heap x dx C mA)(hg:PySem.W.plainGet K C name=true)(hh:PySem.W.hasDictIn K C=true)
  (ha:PySem.W.findIn K (.ref C) name=some none) (hv:mA name=some v) (hv':PySem.W.handedIn v=true) (h:Q v { s with toks:=s.toks+1 }):
  wpAny (model prog w) A (getAttr (.ref x) name expr) Q E s:=by
 obtain⟨od,J,hl⟩:=I.look;exact PySem.W.get_value X J (PySem.W.plainGet_of hg).1 (PySem.W.findObj_own hh ha rfl (by rw[hl,hv])) hv' h
def XS{pl:Sem Bool}{Q:Value×List Value->Shared->Prop}(X:K.In s.heap)(I:ObjM s.heap x dx C mA)(hg:PySem.W.plainGet K C name=true)
  (hf:PySem.W.findIn K (.ref C) name=some (some (.ref f))) (ht:PySem.W.isFn K (.ref f)=true) (hv:mA name=none) (h:Q (.ref f,[.ref x]) s):
  wpAny (model prog w) A (getMethod (.ref x) name pl) Q E s:=by
 obtain⟨od,J,hl⟩:=I.look;exact PySem.W.method_fn X J (PySem.W.plainGet_of hg).1 (PySem.W.plainGet_of hg).2 hf (beq_iff_eq.mp ht) (by show(PySem.W.lookIn name od).map (·.isSome)=some false;rw[hl,hv];rfl) h
def Bg{ns:List Str}{Q:Unit->Shared->Prop}(X:K.In s.heap)(I:ObjM s.heap x dx C mA)
  (hs:PySem.W.findIn K (.ref C) "__setattr__" = some (some (.builtin "object.__setattr__"))) (hp:PySem.W.plainOver K C=true) (ht:PySem.W.takerIn K C name=some none) (hh:PySem.W.hasDictIn K C=true)
  (hw:PySem.Within mA ns) (hsz:ns.length<=sizeLine)
  (h:∀h',ObjM h' x dx C (fun y=>if y=name then some v else mA y)->Heap.SameBut dx s.heap h'->Q () { s with heap:=h',toks:=s.toks+2 }):
  wpAny (model prog w) A (setAttr (.ref x) name v) Q E s:=by
 obtain⟨od,J,hl⟩:=I.look;refine PySem.W.set_plain X J hs (PySem.W.osa_open (s:={ s with toks:=s.toks+1 }) (r:=none) X J hp ht fun b=>?_);obtain⟨cd,hc,hd'⟩:=PySem.W.any_some hh;have hx:s.heap.get? x=some ⟨.ref C,some dx,.plain,#[]⟩:=I.obj;refine wAa (wBa (wAa (wAa (wpAny_loadPart hx (wAa (PySem.W.Looks.here (s:={ s with toks:=s.toks+1 }) (PySem.W.looks_clsIn X hc) ?_))))));rw[hd'];refine wBa (a:=some dx) (wAa (wBa (wAa ?_)));refine wpAny_nsSet1 (s:={ s with toks:=s.toks+1 }) I.ns fun h' hn2 hs2=>?_;obtain⟨oD,esD,epD,hoD,hdD,hcD⟩:=hn2.count (PySem.Within.cons name v hw);refine wAa (wpAny_lookBehind hoD (by rw[hdD];exact pastItsLine_dict (wSa hcD (by rw[vXa];lia))) ?_);exact wBa (h _ ⟨(hs2.2 _ (Ne.symm I.ne)).trans I.obj,hn2,I.ne⟩ hs2)
def XU{R:Result->Shared->Prop}{vs:List Value}{kw:List (Str×Value)}(X:K.In s.heap)(hm:PySem.W.makesIn K C=true)
  (hi:PySem.W.findIn K (.ref C) "__init__" = some (some (.ref f))) (hf:PySem.W.typeIn K (.ref f)=some (.type "function"))
  (h:codeAny (model prog w) (A.under (.builtin "type.__call__" ⟨.ref C::vs,kw⟩)) (.call (.ref f) ⟨.ref (s.heap.objs.size+1)::vs,kw⟩) (PySem.W.InitBack (s.heap.objs.size+1) R)
   { s with heap:=(s.heap.push PySem.W.emptyDict).push (PySem.W.instObj C s.heap.objs.size) }):
  codeAny (model prog w) A (.call (.ref C) ⟨vs,kw⟩) R s:=by
 obtain⟨hh,g,d,t,os⟩:=s;exact PySem.W.make_core (PySem.W.makes_of X hm) (PySem.W.looks_findIn X hi) (fun self=>PySem.W.bind_fn X self hf) (.inl rfl) h
end
noncomputable def Y1(f:Str)(v:V):List (Str×V)->List (Str×V)
 | []=>[(f,v)]
 | (g,x)::r=>if g=f then(g,v)::r else(g,x)::Y1 f v r
theorem gq(f g:Str)(v:V):∀fs:List (Str×V),(Y1 f v fs).lookup g=if g=f then some v else fs.lookup g
 | []=>by
  show List.lookup g [(f,v)]=_;by_cases h:g=f
  ·have hb:(g==f)=true:=beq_iff_eq.mpr h;simp only[List.lookup,hb,if_pos h]
  ·have hb:(g==f)=false:=beq_eq_false_iff_ne.mpr h;simp only[List.lookup,hb,if_neg h]
 | (k,x)::r=>by
  have ih:=gq f g v r;rw[show Y1 f v ((k,x)::r)=(if k=f then(k,v)::r else(k,x)::Y1 f v r) from rfl];by_cases hk:k=f
  ·rw[if_pos hk];by_cases h:g=k
   ·have hb:(g==k)=true:=beq_iff_eq.mpr h;simp only[List.lookup,hb,if_pos (h.trans hk)]
   ·have hb:(g==k)=false:=beq_eq_false_iff_ne.mpr h;simp only[List.lookup,hb,if_neg (fun e:g=f=>h (e.trans hk.symm))]
  ·rw[if_neg hk];by_cases h:g=k
   ·have hb:(g==k)=true:=beq_iff_eq.mpr h;simp only[List.lookup,hb,if_neg (fun e:g=f=>hk (h.symm.trans e))]
   ·have hb:(g==k)=false:=beq_eq_false_iff_ne.mpr h;simp only[List.lookup,hb];exact ih
theorem uV(f:Str)(v:V):∀fs:List (Str×V),f∈(Y1 f v fs).map (·.1)/\∀g,g∈fs.map (·.1)->g∈(Y1 f v fs).map (·.1)
 | []=>⟨by simp[Y1],fun g h=>by simp at h⟩
 | (k,x)::r=>by
  obtain⟨i1,i2⟩:=uV f v r;rw[show Y1 f v ((k,x)::r)=(if k=f then(k,v)::r else(k,x)::Y1 f v r) from rfl];by_cases hk:k=f
  ·rw[if_pos hk];subst hk;exact⟨by simp,fun g h=>by simpa using h⟩
  ·rw[if_neg hk];refine⟨?_,fun g h=>?_⟩
   ·rw[vWa];exact wMa _ i1
   ·rw[vWa]at h⊢;rcases uTa h with e | e
    ·exact List.mem_cons.mpr (.inl e)
    ·exact wMa _ (i2 g e)
theorem gr(f:Str)(v:V):∀fs:List (Str×V),(Y1 f v fs).length<=fs.length+1
 | []=>by simp[Y1]
 | (k,x)::r=>by
  have ih:=gr f v r;rw[show Y1 f v ((k,x)::r)=(if k=f then(k,v)::r else(k,x)::Y1 f v r) from rfl];by_cases hk:k=f
  ·rw[if_pos hk,vXa,vXa];lia
  ·rw[if_neg hk,vXa,vXa];lia
def Vc.some_of(r:Vc (some v) o):∃u,o=some u/\jq v u:=by
 cases o with
 | none=>exact(show False from r).elim
 | some u=>exact⟨u,rfl,r⟩
def Vc.none_of(r:Vc none o):o=none:=by
 cases o with
 | none=>rfl
 | some u=>exact(show False from r).elim
def Kb(r:jq v u):PySem.W.handedIn u=true:=by
 cases v with
 | non=>cases (show u=Value.none from r);rfl
 | bl b=>cases (show u=Value.bool b from r);rfl
 | int i=>obtain⟨t,e⟩:=(show∃t,u=Value.int i t from r);cases e;rfl
 | str x=>obtain⟨t,e⟩:=(show∃t,u=Value.str x t from r);cases e;rfl
 | ref a=>cases (show u=Value.ref a from r);rfl
 | ty n=>cases (show u=Value.type n from r);rfl
def ky(hok:yh P w H h)(e:H a=some (.ins C dx fs)):∃mA,ObjM h a dx C mA/\(∀f,Vc (fs.lookup f) (mA f))/\PySem.Within mA (fs.map (·.1))/\fs.length<=1000/\H dx=some (.own a):=by
 obtain⟨d,z,ne,ob,mA,n,r,q⟩:=(show Jq P w H h a (.ins C dx fs) from hok a _ e)
 exact⟨mA,⟨ob,n,ne⟩,r,q,z,d⟩
structure Cls (K:uXa) (C:Addr):Prop where
 pg:PySem.W.plainGet K C Str.empty=true
 hd:PySem.W.hasDictIn K C=true
 po:PySem.W.plainOver K C=true
 sa:PySem.W.findIn K (.ref C) "__setattr__" = some (some (.builtin "object.__setattr__"))
def Cls.get{K:uXa}{C:Addr}(c:Cls K C)(f:Str):PySem.W.plainGet K C f=true:=c.pg
def Yy(K:uXa)(C:Addr)(f:Str):Prop:=PySem.W.findIn K (.ref C) f=some none
def Yy.taker{K:uXa}{C:Addr}{f:Str}(n:Yy K C f):PySem.W.takerIn K C f=some none:=by
 unfold PySem.W.takerIn;rw[show PySem.W.findIn K (.ref C) f=some none from n];rfl
structure Meth (K:uXa) (C:Addr) (m:Str) (f:Addr):Prop where
 at_:PySem.W.findIn K (.ref C) m=some (some (.ref f))
 fn:PySem.W.isFn K (.ref f)=true
 kp:PySem.W.keepIn K (.ref f)=true
def qY(I:Inv X pins U H s)(e:H a=some (.ins C dx fs))(c:Cls X.K C)(n:Yy X.K C f)(l:fs.lookup f=some v)
  (h:∀u s',Inv X pins U H s'->jq v u->Q u s'):wpAny (model X.prog X.w) A (getAttr (.ref a) f b) Q E s:=by
 obtain⟨mA,O,r,_,_,_⟩:=ky I.hok e;obtain⟨u,hu,ru⟩:=Vc.some_of (v:=v) (o:=mA f) (by rw[<-l];exact r f);exact Bf I.kIn O (c.get f) c.hd n hu (Kb ru) (h u _ (I.tok _) ru)
def qZ(I:Inv X pins U H s)(e:H a=some (.ins C dx fs))(c:Cls X.K C)(k:Meth X.K C m g)(l:fs.lookup m=none)
  (h:Q (.ref g,[.ref a]) s):wpAny (model X.prog X.w) A (getMethod (.ref a) m pl) Q E s:=by
 obtain⟨mA,O,r,_,_,_⟩:=ky I.hok e;have hn:mA m=none:=Vc.none_of (by rw[<-l];exact r m);exact XS I.kIn O (c.get m) k.at_ k.fn hn h
def q_(I:Inv X pins U H s)(e:H a=some (.ins C dx fs))(c:Cls X.K C)(n:Yy X.K C f)(hl:fs.length < 1000)(ry:jq y u)
  (h:∀s',Inv X pins U (upd H a (.ins C dx (Y1 f y fs))) s'->Q () s'):wpAny (model X.prog X.w) A (setAttr (.ref a) f u) Q E s:=by
 obtain⟨mA,O,r,wi,_,ho⟩:=ky I.hok e;have hz:(fs.map (·.1)).length<=sizeLine:=by rw[vYa,sizeLine_eq];lia
 refine Bg I.kIn O c.sa c.po n.taker c.hd wi hz fun h' O' sb=>h _ ?_;have hd:∃o,h'.get? dx=some o:=let ⟨o,_,_,e',_⟩:=O'.ns;⟨o,e'⟩
 refine I.write (x:=a) (e:=dx) (by rw[e];exact True.intro) (.inr ho) (fun b q hb z=>(sb.2 b hb).trans z) hd ?_;refine⟨by rw[jh O.ne];exact ho,?_,O.ne,O'.obj,_,O'.ns,fun g=>?_,fun g hg=>?_⟩
 ·have:=gr f y fs;lia
 ·show Vc ((Y1 f y fs).lookup g) (if g=f then some u else mA g);rw[gq];by_cases q:g=f
  ·rw[if_pos q,if_pos q];exact ry
  ·rw[if_neg q,if_neg q];exact r g
 ·by_cases q:g=f
  ·rw[q];exact(uV f y fs).1
  ·refine(uV f y fs).2 g (wi g fun z=>hg ?_);show(if g=f then some u else mA g)=none;rw[if_neg q];exact z
def Inv.made(I:Inv X pins U H s):Inv X pins U (upd (upd H s.heap.objs.size (.own (s.heap.objs.size+1))) (s.heap.objs.size+1) (.ins C s.heap.objs.size []))
  { s with heap:=(s.heap.push PySem.W.emptyDict).push (PySem.W.instObj C s.heap.objs.size) }:=by
 have e1:(s.heap.push PySem.W.emptyDict).get? s.heap.objs.size=some PySem.W.emptyDict:=wJa s.heap rfl;have e2:((s.heap.push PySem.W.emptyDict).push (PySem.W.instObj C s.heap.objs.size)).get? (s.heap.objs.size+1)=some (PySem.W.instObj C s.heap.objs.size):=by
  have:=wJa (s.heap.push PySem.W.emptyDict) (o:=PySem.W.instObj C s.heap.objs.size) rfl;rwa [uPa]at this
 have e3:(s.heap.push PySem.W.emptyDict).Ns s.heap.objs.size (fun _=>none):=⟨PySem.W.emptyDict,#[],_,e1,rfl,(fun e he=>vDa he (by simp)),fun _=>rfl⟩
 have I1:=I.laid (a:=s.heap.objs.size) (o:=.own (s.heap.objs.size+1)) (h':=s.heap.push PySem.W.emptyDict) (t':=s.toks) (fun b u q=>wIa _ q) (wPa _) ⟨_,e1⟩;refine I1.laid (a:=s.heap.objs.size+1) (o:=.ins C s.heap.objs.size []) (t':=s.toks) (fun b u q=>wIa _ q) (Nat.le_of_eq (Heap.size_push _ _)) ?_;have ne:s.heap.objs.size≠s.heap.objs.size+1:=wTa (Nat.lt_succ_self _);refine⟨by rw[jh ne,jw],Nat.zero_le _,ne,e2,fun _=>none,(Heap.Ns1.of_empty e3).at fun o q=>wIa _ q,fun _=>True.intro,fun y hy=>vDa rfl hy⟩
def ve(hb:attributeBase e f env (eval e env)=eval e env)
  (h:wpAny (model prog w) A (eval e env) (fun o s₁=>wpAny (model prog w) A (getAttr o f true) Q E s₁) E s):wpAny (model prog w) A (eval (.Attribute e f pos) env) Q E s:=
 Attribute_any_ h (by rw[arm_eval_Attribute,hb])
def iI(K:uXa)(ta:TE)(f:Str):TE:=fun U H Q=>ta U H fun x H1=>∃a C dx fs v,x=.ref a/\H1 a=some (.ins C dx fs)/\Cls K C/\Yy K C f/\fs.lookup f=some v/\Q v H1
def d4(K:uXa)(ta tv:TE)(f:Str):TS:=fun D U H=>tv U H fun y H1=>ta U H1 fun x H2=>∃a C dx fs,x=.ref a/\H2 a=some (.ins C dx fs)/\Cls K C/\Yy K C f/\fs.length < 1000/\
 D.nx U (upd H2 a (.ins C dx (Y1 f y fs)))
def d5(he:PE X e ta)(hb:attributeBase e f X.env (eval e X.env)=eval e X.env):PE X (.Attribute e f pos) (iI X.K ta f):=by
 intro pins s U H Q I h;refine ve hb (jv (he pins s U H _ I h) fun u s1 xx=>?_);obtain⟨x,H1,I1,rx,a,C,dx,fs,v,ex,ea,c,n,l,q⟩:=xx;subst ex;obtain rfl:u=Value.ref a:=rx;exact qY I1 ea c n l fun u' s2 I2 ru=>⟨v,H1,I2,ru,q⟩
def d6(ha:PE X o ta)(hv:PE X value tv)(hs:swapsWith value (some (.Attribute o f pos')) pos.line X.env=pure false):PS X (.Assign [.Attribute o f pos'] value pos) (d4 X.K ta tv f):=by
 intro pins s U H D I h;refine plainObj_wpAny_Assign_Attribute (jv (hv pins s U H _ I h) fun u s1 ⟨y,H1,I1,ry,q⟩=>jv (ha pins s1 U H1 _ I1 q) fun ov s2 xx=>?_) hs;obtain⟨x,H2,I2,rx,a,C,dx,fs,ex,ea,c,n,l,q2⟩:=xx;subst ex;obtain rfl:ov=Value.ref a:=rx;exact q_ I2 ea c n l ry fun s3 I3=>⟨U,_,I3,q2⟩
structure Room (k:Nat) (A:Around):Prop where
 hd:A.handled=none
 dp:A.depth+3 * k+5 < recursionLimit
 un:A.units+16 * k+200 < cLine
def Room.mono(r:Room k A)(h:j<=k):Room j A:=⟨r.hd,by have:=r.dp;lia,by have:=r.un;lia⟩
def Room.deeper{k:Nat}{A:Around}(r:Room (k+1) A)(env:Env):Room k (A.deeper env):=
 ⟨r.hd,by have:=r.dp;show A.depth+1+3 * k+5 < _;lia,by have:=r.un;show A.units+3+16 * k+200 < _;lia⟩
def Q0{A:Around}:(A.under (.builtin "type.__call__" ⟨.ref C::us,kw⟩)).depth=A.depth+1:=by
 first | rfl | simp[Around.under,Code.weight,Code.isCreation,Code.isGuard,Code.isCaller,Code.frames,Code.isFrame,guardIds]
def Q1{A:Around}:(A.under (.builtin "type.__call__" ⟨.ref C::us,kw⟩)).units=A.units+1:=by
 first | rfl | simp[Around.under,Code.cUnits,Code.frames,Code.isFrame]
def Room.make(r:Room (k+1) A)(C:Addr)(us:List Value)(kw:List (Str×Value)):Room k (A.under (.builtin "type.__call__" ⟨.ref C::us,kw⟩)):=
 ⟨r.hd,by have:=r.dp;rw[Q0];lia,by have:=r.un;rw[Q1];lia⟩
def Room.depth{A:Around}(r:Room k A):A.depth < recursionLimit:=by have:=r.dp;lia
def Room.units(r:Room k A):A.units+64 < cLine:=by have:=r.un;lia
def gJ:TA:=fun _ H Q=>Q [] H
def vW(ta:TE)(tr:TA):TA:=fun U H Q=>ta U H fun x H1=>tr U H1 fun xs H2=>Q (x::xs) H2
section
variable {X:Cx} {e:Expr} {es:List Expr} {te:TE} {t:TA} {pos:Pos}
def yQ:PA X [] gJ:=fun _ _ _ _ H Q I h=>Calls.spliced_nil ⟨[],H,I,.nil,h⟩
def Jj(ha:PE X e te)(hr:PA X es t)(hs:starEach (e::es) X.env=(false,eval e X.env)::starEach es X.env:=by rfl):PA X (e::es) (vW te t):=by
 intro pos pins s U H Q I h;rw[hs];show wpAny _ _ (spliced ((false,eval e X.env)::backTo pos (starEach es X.env))) _ _ s;refine Calls.spliced_cons (jv (ha pins s U H _ I h) fun u s1 xx=>?_);obtain⟨x,H1,I1,r1,q1⟩:=xx;exact jv (hr pos pins s1 U H1 _ I1 q1) fun us s2 ⟨xs,H2,I2,r2,q2⟩=>⟨x::xs,H2,I2,.cons r1 r2,q2⟩
def iJ(t:TA):TE:=fun U H Q=>t U H fun xs H1=>xs.length<=sizeLine/\∀p,H1 p=none->Q (.ref p) (upd H1 p (.tup xs))
def iK(t:TA):TE:=fun U H Q=>t U H fun xs H1=>xs.length<=sizeLine/\∀p,H1 p=none->Q (.ref p) (upd H1 p (.lst xs))
def d8{x1}(h:PA X es t):PE X (.Tuple es x1 pos) (iJ t):=by
 intro pins s U H Q I hq;refine wpAny_Tuple_spliced (jv (h pos pins s U H _ I hq) fun us s1 ⟨xs,H1,I1,r,z,q⟩=>⟨by rw[<-r.length];exact z,?_⟩);have hf:H1 s1.heap.objs.size=none:=I1.hok.fresh (wPa _);refine⟨.ref s1.heap.objs.size,upd H1 s1.heap.objs.size (.tup xs),I1.laid (t':=s1.toks) (fun b u e=>wIa _ e) (wPa _) ?_,rfl,q _ hf⟩;exact⟨z,us,r,⟨_,wJa _ rfl,rfl,_,rfl⟩⟩
def dg(h:PA X es t):PE X (.List es pos) (iK t):=by
 intro pins s U H Q I hq;refine wpAny_List_spliced (jv (h pos pins s U H _ I hq) fun us s1 ⟨xs,H1,I1,r,z,q⟩=>⟨by rw[<-r.length];exact z,?_⟩);have hf:H1 s1.heap.objs.size=none:=I1.hok.fresh (wPa _);refine⟨.ref s1.heap.objs.size,upd H1 s1.heap.objs.size (.lst xs),I1.laid (t':=s1.toks) (fun b u e=>wIa _ e) (wPa _) ?_,rfl,q _ hf⟩;exact⟨z,us,0,r,wJa _ rfl⟩
end
noncomputable abbrev Sp:=List V->Hp->VK->XK->Prop
noncomputable abbrev uz:=List Env->Hp->Shared->XK->Value->Shared->Prop
structure Env0 (P:Program) (w:World) (K:uXa) (mg:Tj) (base:Heap) (A:Around) (outer:List Env) (s:Shared) (H:Hp):Prop where
 frames:A.frames=some outer
 mod:Mod K mg base
 bs:∀b o,base.get? b=some o->s.heap.get? b=some o/\H b=none
 bsz:base.objs.size<=s.heap.objs.size
 funs:s.heap.FunFrames base outer
 frf:∀b∈Jh outer,H b=none
 hok:yh P w H s.heap
 bare:AllBare s.gens
def CE(outer:List Env)(P:Program)(w:World)(H:Hp)(s:Shared)(Q:VK)(u:Value)(s':Shared):Prop:=
 ∃v H',s'.os=s.os/\AllBare s'.gens/\Un (Jh outer) [] H H' s.heap s'.heap/\yh P w H' s'.heap/\jq v u/\Q v H'
def CR(CX:uz)(outer:List Env)(P:Program)(w:World)(H:Hp)(s:Shared)(Q:VK)(E:XK)(r:Result)(s':Shared):Prop:=
 match r with
 | .ok (.ret u)=>CE outer P w H s Q u s'
 | .ok _=>False
 | .error e=>CX outer H s E e s'
structure FnOk (P:Program) (w:World) (K:uXa) (mg:Tj) (base:Heap) (CX:uz) (k:Nat) (f:Addr) (fd:FuncData) (ps:List Str) (sp:Sp):Prop where
 len:∀vs H Q E,sp vs H Q E->vs.length=ps.length
 run:∀(A:Around) (outer:List Env) (s:Shared) (H:Hp) (args:Args) (us:List Value) (vs:List V) (Q:VK) (E:XK),Room k A->Env0 P w K mg base A outer s H->BindsTo s fd args (ps.zip us)->jp vs us->sp vs H Q E->
  codeAny (model P w) A (.call (.ref f) args) (CR CX outer P w H s Q E) s
def FnOk.imp{P:Program}{w:World}{K:uXa}{mg:Tj}{base:Heap}{CX:uz}{k:Nat}{f:Addr}{fd:FuncData}{ps:List Str}{sp sp':Sp}(F:FnOk P w K mg base CX k f fd ps sp)
  (h:∀vs H Q E,sp' vs H Q E->sp vs H Q E):FnOk P w K mg base CX k f fd ps sp':=
 ⟨fun vs H Q E q=>F.len vs H Q E (h _ _ _ _ q),fun A outer s H args us vs Q E hr he hb hv hs=>F.run A outer s H args us vs Q E hr he hb hv (h _ _ _ _ hs)⟩
def Env0.make{P:Program}{w:World}{K:uXa}{mg:Tj}{base:Heap}{A:Around}{outer:List Env}{s:Shared}{H:Hp}(e:Env0 P w K mg base A outer s H)(C:Addr)(us:List Value)(kw:List (Str×Value)):
  Env0 P w K mg base (A.under (.builtin "type.__call__" ⟨.ref C::us,kw⟩)) outer s H:=⟨by first | exact e.frames | (simpa[Around.under,Code.envs,Code.isFrame,pushEnvs]using e.frames),e.mod,e.bs,e.bsz,e.funs,e.frf,e.hok,e.bare⟩
section
variable {X:Cx} {pins:Tq} {U:St} {H:Hp} {s s':Shared}
def Inv.env0(I:Inv X pins U H s):Env0 X.prog X.w X.K X.mg X.base X.A X.stack s H:=
 ⟨I.ok.frames,I.ok.mod,I.bs,wSa I.ok.bsz I.sz,I.stack,I.stkFree,I.hok,I.bare⟩
def Inv.after(I:Inv X pins U H s)(h:CE X.stack X.prog X.w H s Q u s'):EP X pins U Q u s':=by
 obtain⟨v,H',os,bare,un,hok,r,q⟩:=h;obtain⟨hh,g,d,t,os'⟩:=s';obtain rfl:os'=s.os:=os;exact⟨v,H',I.call (h':=hh) (g':=g) (d':=d) (t':=t) (ch:=[]) un hok bare (fun b z=>vDa z (by simp)),r,q⟩
end
def AN(sp:Sp)(dvs:List V)(E:XK)(t:TA):TE:=fun U H Q=>t U H fun vs H1=>sp (vs++dvs) H1 Q E
def AO(C:Addr)(m:Str)(sp:Sp)(dvs:List V)(E:XK)(ta:TE)(t:TA):TE:=fun U H Q=>ta U H fun x H1=>∃a dx fs,x=.ref a/\H1 a=some (.ins C dx fs)/\fs.lookup m=none/\
 t U H1 fun vs H2=>sp (x::(vs++dvs)) H2 Q E
def AQ(C:Addr)(sp:Sp)(dvs:List V)(E:XK)(t:TA):TE:=fun U H Q=>t U H fun vs H1=>∀x dx,H1 x=none->H1 dx=none->dx≠x->
 sp (.ref x::(vs++dvs)) (upd (upd H1 dx (.own x)) x (.ins C dx [])) (fun v H2=>v=.non/\Q (.ref x) H2) E
def JX(K:uXa)(fd:FuncData)(ps:List Str)(ds:List Value):Prop:=
 ∀(s:Shared) (us:List Value),K.In s.heap->(us++ds).length=ps.length->BindsTo s fd ⟨us,[]⟩ (ps.zip (us++ds))
def JX.all{K:uXa}{fd:FuncData}{ps:List Str}(h:∀us:List Value,us.length=ps.length->bindArgs fd ⟨us,[]⟩=pure (ps.zip us)):JX K fd ps []:=fun s us _ hl=>by
 rw[uFa]at hl⊢;exact .of_eq (h us hl)
def za(CX:uz)(X:Cx)(E:XK):Prop:=∀(pins:Tq) (U:St) (H:Hp) (s:Shared) (e:Value) (s':Shared),Inv X pins U H s->CX X.stack H s E e s'->X.xe e s'
section
variable {X:Cx} {CX:uz} {k:Nat} {f C:Addr} {fd:FuncData} {ps:List Str} {sp:Sp} {dvs:List V} {ds:List Value} {E:XK} {x m:Str} {p pos apos:Pos} {e o:Expr} {es:List Expr} {ta:TE} {t:TA}
theorem QP(F:FnOk X.prog X.w X.K X.mg X.base CX k f fd ps sp)(hr:Room k X.A)(hb:JX X.K fd ps ds)(hd:jp dvs ds)(hx:za CX X E)
  (I:Inv X pins U H s) (r:jp vs us) (h:sp (vs++dvs) H Q E):wpAny (model X.prog X.w) X.A (call (.ref f) us) (EP X pins U Q) X.xe s:=by
 have r2:jp (vs++dvs) (us++ds):=r.append hd;have hl:(us++ds).length=ps.length:=by rw[<-r2.length];exact F.len _ _ _ _ h
 refine wHa (codeAny_mono (F.run X.A X.stack s H ⟨us,[]⟩ (us++ds) (vs++dvs) Q E hr I.env0 (hb s us I.kIn hl) r2 h) fun r s' hq=>?_);cases r with
 | error e=>exact hx pins U H s e s' I hq
 | ok fl=>
  cases fl with
  | ret u=>exact I.after hq
  | next=>exact False.elim hq
  | brk=>exact False.elim hq
  | cont=>exact False.elim hq
def WQ(F:FnOk X.prog X.w X.K X.mg X.base CX k f fd ps sp)(hr:Room k X.A)(hg:Gl X x)(hm:X.mg x=some (.ref f))(hk:PySem.W.keepIn X.K (.ref f)=true)(hb:JX X.K fd ps ds)(hd:jp dvs ds)(hx:za CX X E)
  (ha:PA X (e::es) t) (hdb:(x==("__debug__" : Str))=false:=by decide) (he:starEach (e::es) X.env=(false,eval e X.env)::starEach es X.env:=by rfl) (hpl:(backTo pos (starEach es X.env)).any (·.1)=false:=by rfl):
  PE X (.Call (.Name x p) (e::es) [] pos) (AN sp dvs E t):=by
 intro pins s U H Q I h;refine wpAny_Call_Name_kw (zH I hg hm ?_ hdb);refine PySem.W.callWith_K (h₀:=X.base) I.ok.mod.kin hk (jv (ha pos pins s U H _ I h) fun us s1 ⟨vs,H1,I1,r,q⟩=>⟨I1.kIn,?_⟩) he hpl;exact QP F hr hb hd hx I1 r q
def XV(he:PE X o ta)(c:Cls X.K C)(hm:Meth X.K C m f)(F:FnOk X.prog X.w X.K X.mg X.base CX k f fd ps sp)(hr:Room k X.A)(hb:JX X.K fd ps ds)(hd:jp dvs ds)(hx:za CX X E)
  (ht:eval (.Call (.Attribute o m apos) [] [] pos) X.env=(do
   let ov<-eval o X.env
   standAt apos.atName
   let (f,first)<-holding [ov] (getMethod ov m pl)
   callWith pos f first (backTo pos (starEach [] X.env)) (backToKw pos (keywordEach [] X.env))):=by rfl):
  PE X (.Call (.Attribute o m apos) [] [] pos) (AO C m sp dvs E ta gJ):=by
 intro pins s U H Q I h;refine PySem.W.methodCall_KW (pl:=pl) (jv (he pins s U H _ I h) fun u s1 xx=>?_) ht;obtain⟨x,H1,I1,rx,a,dx,fs,ex,ea,l,q⟩:=xx;subst ex;obtain rfl:u=Value.ref a:=rx;refine qZ I1 ea c hm l ?_;exact PySem.W.callWith_K0 (first:=[.ref a]) I1.kIn hm.kp (QP (us:=[.ref a]) (vs:=[.ref a]) F hr hb hd hx I1 (.cons rfl .nil) q)
structure Mk (K:uXa) (C f:Addr):Prop where
 makes:PySem.W.makesIn K C=true
 init:PySem.W.findIn K (.ref C) "__init__" = some (some (.ref f))
 fn:PySem.W.isFn K (.ref f)=true
 kp:PySem.W.keepIn K (.ref C)=true
theorem XW(M:Mk X.K C f)(F:FnOk X.prog X.w X.K X.mg X.base CX k f fd ps sp)(hr:Room (k+1) X.A)(hb:JX X.K fd ps ds)(hd:jp dvs ds)
  (hx:za CX X E) (I:Inv X pins U H s) (r:jp vs us)
  (h:∀x dx,H x=none->H dx=none->dx≠x->sp (.ref x::(vs++dvs)) (upd (upd H dx (.own x)) x (.ins C dx [])) (fun v H2=>v=.non/\Q (.ref x) H2) E):
  wpAny (model X.prog X.w) X.A (call (.ref C) us) (EP X pins U Q) X.xe s:=by
 have hq:=h (s.heap.objs.size+1) s.heap.objs.size (I.hok.fresh (vMa _)) (I.hok.fresh (wPa _)) (wTa (Nat.lt_succ_self _));have I2:=Inv.made (C:=C) I;have r2:jp (V.ref (s.heap.objs.size+1)::(vs++dvs)) (Value.ref (s.heap.objs.size+1)::(us++ds)):=.cons rfl (r.append hd);have hl:(Value.ref (s.heap.objs.size+1)::us++ds).length=ps.length:=by
  have e:=r2.length;rw[F.len _ _ _ _ hq]at e;exact e.symm
 refine wHa (XU (f:=f) I.kIn M.makes M.init (beq_iff_eq.mp M.fn) (codeAny_mono (F.run _ X.stack _ _ ⟨Value.ref (s.heap.objs.size+1)::us,[]⟩ (Value.ref (s.heap.objs.size+1)::(us++ds)) _ _ E (hr.make C us [])
  (I2.env0.make C us []) (hb _ (Value.ref (s.heap.objs.size+1)::us) I2.kIn hl) r2 hq) fun r s' hq'=>?_))
 cases r with
 | error e=>exact hx pins U _ _ e s' I2 hq'
 | ok fl=>
  cases fl with
  | ret u=>
   obtain⟨v,H',I3,rv,ev,q3⟩:=I2.after hq';subst ev;exact⟨rv,⟨V.ref (s.heap.objs.size+1),H',I3,rfl,q3⟩⟩
  | next=>exact False.elim hq'
  | brk=>exact False.elim hq'
  | cont=>exact False.elim hq'
def Bh(M:Mk X.K C f)(F:FnOk X.prog X.w X.K X.mg X.base CX k f fd ps sp)(hr:Room (k+1) X.A)(hg:Gl X x)(hm:X.mg x=some (.ref C))(hb:JX X.K fd ps ds)(hd:jp dvs ds)(hx:za CX X E)
  (ha:PA X (e::es) t) (hdb:(x==("__debug__" : Str))=false:=by decide) (he:starEach (e::es) X.env=(false,eval e X.env)::starEach es X.env:=by rfl) (hpl:(backTo pos (starEach es X.env)).any (·.1)=false:=by rfl):
  PE X (.Call (.Name x p) (e::es) [] pos) (AQ C sp dvs E t):=by
 intro pins s U H Q I h;refine wpAny_Call_Name_kw (zH I hg hm ?_ hdb);refine PySem.W.callWith_K (h₀:=X.base) I.ok.mod.kin M.kp (jv (ha pos pins s U H _ I h) fun us s1 ⟨vs,H1,I1,r,q⟩=>⟨I1.kIn,?_⟩) he hpl;exact XW M F hr hb hd hx I1 r q
end
structure FnScope (N P:List Str) (sc:Scope):Prop where
 kind:sc.kind=.function
 co:sc.isCoroutine=false
 gen:sc.isGenerator=false
 nd:N.Nodup
 pre:N.take P.length=P
 par:∀x∈P,sc.names.lookup x=some .local \/ sc.names.lookup x=some .cell
 nofree:∀y∈sc.names,y.2≠.free
theorem Kc{kindOf:Str->Option NameKind}{x:Str}:∀{binds:List (Str×Value)} {m:Tj},(∀v,(x,v)∉binds)->bindL kindOf binds m x=m x
 | [],_,_=>rfl
 | (n,v)::r,m,h=>by
  unfold bindL;rw[Kc fun w hw=>h w (List.mem_cons_of_mem _ hw)];split
  ·have:x≠n:=by rintro rfl;exact h v wNa
   simp[this]
  ·rfl
theorem Ke{kindOf:Str->Option NameKind}{x:Str}:∀{binds:List (Str×Value)} {m:Tj},(∀v,(x,v)∉binds)->bindC kindOf binds m x=m x
 | [],_,_=>rfl
 | (n,v)::r,m,h=>by
  unfold bindC;rw[Ke fun w hw=>h w (List.mem_cons_of_mem _ hw)];split
  ·rfl
  ·have:x≠n:=by rintro rfl;exact h v wNa
   simp[this]
theorem Kf{kindOf:Str->Option NameKind}{x:Str}{v:Value}:∀{P:List Str} {vs:List Value} {i:Nat} {m:Tj},P.Nodup->P[i]?=some x->vs[i]?=some v->kindOf x=some .local->
  bindL kindOf (P.zip vs) m x=some v
 | [],_,_,_,_,h,_,_=>by simp at h
 | _::_,[],_,_,_,_,h,_=>by simp at h
 | p::P,w::vs,0,m,nd,h1,h2,hk=>by
  simp at h1 h2;subst h1;subst h2;show bindL kindOf ((p,w)::P.zip vs) m p=_;unfold bindL;rw[Kc fun v hv=>(List.nodup_cons.mp nd).1 (List.of_mem_zip hv).1,if_pos hk];simp
 | p::P,w::vs,i+1,m,nd,h1,h2,hk=>by
  show bindL kindOf ((p,w)::P.zip vs) m x=_;unfold bindL;exact Kf (i:=i) (List.nodup_cons.mp nd).2 (by simpa using h1) (by simpa using h2) hk
theorem Kg{kindOf:Str->Option NameKind}{x:Str}{v:Value}:∀{P:List Str} {vs:List Value} {i:Nat} {m:Tj},P.Nodup->P[i]?=some x->vs[i]?=some v->kindOf x≠some .local->
  bindC kindOf (P.zip vs) m x=some v
 | [],_,_,_,_,h,_,_=>by simp at h
 | _::_,[],_,_,_,_,h,_=>by simp at h
 | p::P,w::vs,0,m,nd,h1,h2,hk=>by
  simp at h1 h2;subst h1;subst h2;show bindC kindOf ((p,w)::P.zip vs) m p=_;unfold bindC;rw[Ke fun v hv=>(List.nodup_cons.mp nd).1 (List.of_mem_zip hv).1,if_neg hk];simp
 | p::P,w::vs,i+1,m,nd,h1,h2,hk=>by
  show bindC kindOf ((p,w)::P.zip vs) m x=_;unfold bindC;exact Kg (i:=i) (List.nodup_cons.mp nd).2 (by simpa using h1) (by simpa using h2) hk
noncomputable def YE(N:List Str)(vs:List V):St:=vs.map some++List.replicate (N.length - vs.length) none
noncomputable def Js(CX:uz)(P:Program)(w:World)(K:uXa)(mg:Tj)(base:Heap)(N:List Str)(qual:Str)(scope:Scope)(f:Addr)(cd:Value)(A:Around)(outer:List Env)(s:Shared)(H:Hp)(E:XK):Cx where
 prog:=P
 w:=w
 K:=K
 mg:=mg
 base:=base
 A:=A.deeper (envOfC qual scope s.heap.objs.size f cd)
 N:=N
 s₀:=s
 H₀:=H
 env:=envOfC qual scope s.heap.objs.size f cd
 outer:=outer
 stack:=envOfC qual scope s.heap.objs.size f cd::outer
 ex:=[]
 calm:=true
 fn:=fun _=>true
 pn:=[]
 xe:=fun e s'=>wpAny (model P w) (A.deeper (envOfC qual scope s.heap.objs.size f cd)) (leaving (envOfC qual scope s.heap.objs.size f cd) e) (fun _ s''=>CX outer H s E e s'') (fun e' s''=>CX outer H s E e' s'') s'
def KY{sc:Scope}(h:sc.names.lookup x=some .cell):∃c,(cellsFrom n sc.names []).lookup x=some c:=by
 have q:=PySem.W.cellsFrom_some sc.names n [] (.inl h);exact Option.isSome_iff_exists.mp q
def QQ{CX:uz}{P:Program}{w:World}{K:uXa}{mg:Tj}{base:Heap}{N ps:List Str}{qual:Str}{scope:Scope}{f:Addr}{cd:Value}{A:Around}{outer:List Env}{s s1:Shared}{H:Hp}{E:XK}{us:List Value}{vs:List V}
  (S:FnScope N ps scope) (hd:A.handled=none) (e0:Env0 P w K mg base A outer s H) (hl:vs.length=ps.length) (r:jp vs us)
  (x:InCallC s s.heap.objs.size (bindL (envOfC qual scope s.heap.objs.size f cd).kindOf (ps.zip us) fun _=>none) (cellsFrom (s.heap.objs.size+1) scope.names []) (bindC (envOfC qual scope s.heap.objs.size f cd).kindOf (ps.zip us) fun _=>none) s1):
  Inv (Js CX P w K mg base N qual scope f cd A outer s H E) [] (YE N vs) H s1:=by
 have hpl:ps.length<=N.length:=by have:=congrArg List.length S.pre;rw[uOa]at this;lia
 obtain⟨h1,tk,rfl,hk⟩:=x.done;have noA:∀b:Addr,b∉(Js CX P w K mg base N qual scope f cd A outer s H E).ex:=fun b z=>vDa (show b∈([]:List Addr) from z) (by simp);refine⟨⟨e0.mod,S.kind,rfl,rfl,wPa _,fun y z c h1 h2=>?_,fun y hy=>?_,fun y c _ h=>?_,fun _=>hd,Around.frames_deeper e0.frames,.inr ⟨rfl,rfl⟩,fun b z=>vDa z (noA b),e0.bs,e0.bsz,fun b _ _=>noA b,fun b z=>vDa z (noA b),e0.funs,e0.frf⟩,
  rfl,e0.bare,Un.kept hk,⟨_,x.toInCall.ns,fun i y v h1 h2 h3=>?_⟩,fun y c h=>⟨_,x.cell y c h⟩,e0.hok.fresh (wPa _),fun y c h=>?_,fun p hp=>vDa (show p∈([]:Tq) from hp) (by simp),e0.hok.kept hk,?_⟩
 ·exact name_of_addr x.apart (PySem.mem_of_lookup h1) (PySem.mem_of_lookup h2)
 ·have hy:scope.names.lookup y=some .cell \/ scope.names.lookup y=some .free:=hy;rcases hy with hy | hy
  ·exact KY hy
  ·exact vDa rfl (S.nofree _ (PySem.mem_of_lookup hy))
 ·exact wQa (x.above y c (PySem.mem_of_lookup h))
 ·have hi:i < vs.length:=by
   unfold YE at h2;by_cases hi:i < vs.length
   ·exact hi
   ·rw[List.getElem?_append_right (by simpa using hi)]at h2;rw[List.getElem?_replicate]at h2;split at h2 <;> cases h2
  have ha:vs[i]?=some v:=by
   unfold YE at h2;rw[uRa (by simpa using hi),uAa]at h2;cases e:vs[i]? with
   | none=>rw[e]at h2;cases h2
   | some a=>rw[e]at h2;cases h2;rfl
  obtain⟨u,hu,rv⟩:=r.get ha;have hp:ps[i]?=some y:=by
   rw[<-S.pre,List.getElem?_take_of_lt (by lia)];exact h1
  have ndP:ps.Nodup:=by rw[<-S.pre];exact S.nd.sublist (List.take_sublist _ _)
  refine⟨u,rv,?_⟩;rcases S.par y (wYa hp)with k | k
  ·exact .inl ⟨k,Kf ndP hp hu k⟩
  ·obtain⟨c,e⟩:=KY (n:=s.heap.objs.size+1) k;refine .inr ⟨.inl k,c,e,?_⟩;have q:=x.cell y c e;rw[Kg ndP hp hu (by show scope.names.lookup y≠_;rw[k];decide)]at q;exact q
 ·exact e0.hok.fresh (wQa (x.above y c (PySem.mem_of_lookup h)))
 ·unfold YE;show _=N.length;rw[vZa,vYa,List.length_replicate]
  lia
theorem AR{CX:uz}{P:Program}{w:World}{K:uXa}{mg:Tj}{base:Heap}{k:Nat}{f:Addr}{name qual:Str}{params:Arguments}{body:List Stmt}{scope:Scope}{dV kV doc pm cdv ct oc:Value}{an od:Option Addr}
  {osl:Array (Option Value)} {N ps:List Str} {sp:Sp} (lk:K.lookup f=some ⟨oc,od,.func (PySem.W.fnOf name qual params body scope dV kV doc pm an cdv ct),osl⟩) (hcd:PySem.W.codeIn K cdv qual=true) (S:FnScope N ps scope)
  (len:∀vs H Q E,sp vs H Q E->vs.length=ps.length)
  (hbody:∀(A:Around) (outer:List Env) (s:Shared) (H:Hp) (vs:List V) (Q:VK) (E:XK),Room k (A.deeper (envOfC qual scope s.heap.objs.size f cdv))->sp vs H Q E->
   ∃t,Ji (Js CX P w K mg base N qual scope f cdv A outer s H E) body t/\t { nx:=fun _ H'=>Q .non H',rt:=Q } (YE N vs) H):
  FnOk P w K mg base CX (k+1) f (PySem.W.fnOf name qual params body scope dV kV doc pm an cdv ct) ps sp:=by
 refine⟨len,fun A outer s H args us vs Q E hr e0 hb r hsp=>?_⟩;have hl:=len _ _ _ _ hsp;have KX:K.In s.heap:=e0.mod.kin.keeps fun b o e=>(e0.bs b o e).1;have lim:s.heap.NoLimit:=e0.mod.nolimit.keeps fun b o e=>(e0.bs b o e).1;have hkind:∀y∈ps.zip us,scope.names.lookup y.1=some .local \/ (scope.names.lookup y.1=some .cell/\((cellsFrom (s.heap.objs.size+1) scope.names []).lookup y.1).isSome=true):=fun⟨n,v⟩ hy=>by
  rcases S.par n (List.of_mem_zip hy).1 with q | q
  ·exact .inl q
  ·exact .inr ⟨q,PySem.W.cellsFrom_some _ _ _ (.inl q)⟩
 refine codeAny_call_function hr.depth (KX _ _ lk) rfl S.co S.gen rfl (PySem.W.codeRec_of KX hcd) (hb _ _ _ _ ?_);refine wpAny_newFunctionEnv_cells S.kind hkind fun env he s1 x=>?_;subst he;refine⟨lim.keeps x.toInCall.keep,codeAny_func ?_⟩;obtain⟨t,ht,hq⟩:=hbody A outer s H vs Q E (hr.deeper _) hsp;have I:Inv (Js CX P w K mg base N qual scope f cdv A outer s H E) [] (YE N vs) H s1:=QQ S hr.hd e0 hl r x;refine wCa (ht [] s1 (YE N vs) H _ I hq) (fun fl s' hs=>?_) fun e s' hs=>hs;have fin:∀{U':St} {H':Hp} {v:V} {u:Value},Inv (Js CX P w K mg base N qual scope f cdv A outer s H E) [] U' H' s'->jq v u->Q v H'->CE outer P w H s Q u s':=
  fun {U' H' v u} J rv q=>⟨v,H',J.os,J.bare,J.base,J.hok,rv,q⟩
 cases fl with
 | ret u=>
  obtain⟨v,U',H',J,rv,q⟩:=hs;exact fin J rv q
 | next=>
  obtain⟨U',H',J,q⟩:=hs;exact fin (v:=V.non) (u:=Value.none) J rfl q
 | brk=>
  obtain⟨_,_,_,q⟩:=hs;exact False.elim q
 | cont=>
  obtain⟨_,_,_,q⟩:=hs;exact False.elim q
section
variable {X:Cx} {x:Str} {p pos:Pos} {e:Expr} {es:List Expr} {t:TA} {id T:String} {r:List V->Hp->VK->Prop}
def QR(r:List V->Hp->VK->Prop)(t:TA):TE:=fun U H Q=>t U H fun vs H1=>r vs H1 Q
def YQ(hc:YD X (.builtin id) r)(hg:Gl X x)(hm:X.mg x=none)(hv:bootBuiltins x=some (.builtin id))(ha:PA X (e::es) t)(hn:x≠ "__name__" := by decide)(hdb:(x==("__debug__" : Str))=false:=by decide)
  (he:starEach (e::es) X.env=(false,eval e X.env)::starEach es X.env:=by rfl) (hpl:(backTo pos (starEach es X.env)).any (·.1)=false:=by rfl):PE X (.Call (.Name x p) (e::es) [] pos) (QR r t):=by
 intro pins s U H Q I h;refine wpAny_Call_Name_kw (Zb I hg hm hv ?_ hn hdb);exact PyProof.Rows.callWith_builtin1 (jv (ha pos pins s U H _ I h) fun us s1 ⟨vs,H1,I1,r1,q1⟩=>hc pins s1 U H1 vs us Q I1 r1 q1) he hpl
def uW(hc:YD X (.type T) r)(hg:Gl X x)(hm:X.mg x=none)(hv:bootBuiltins x=some (.type T))(ha:PA X (e::es) t)(hn:x≠ "__name__" := by decide)(hdb:(x==("__debug__" : Str))=false:=by decide)
  (he:starEach (e::es) X.env=(false,eval e X.env)::starEach es X.env:=by rfl) (hpl:(backTo pos (starEach es X.env)).any (·.1)=false:=by rfl):PE X (.Call (.Name x p) (e::es) [] pos) (QR r t):=by
 intro pins s U H Q I h;refine wpAny_Call_Name_kw (Zb I hg hm hv ?_ hn hdb);exact PyProof.Rows.callWith_type1 (jv (ha pos pins s U H _ I h) fun us s1 ⟨vs,H1,I1,r1,q1⟩=>hc pins s1 U H1 vs us Q I1 r1 q1) he hpl
end
end L2
namespace HT
section
open PySem.SeqAt
open PySem.AutoSeq1 (wpAny_loadPart')
open PySem.MeetsSeq PySem.MeetsSeq2 PySem.MeetsSeq3
end
section
variable {prog:Program} {w:World} {A:Around} {E:Tz} {s:Shared}
def cat_tup(ht:IsTup s.heap t vs.toArray)(hb:IsTup s.heap b ws.toArray)(hv:vs≠[])
  (h1:ws=[]->Q (.ref t) s) (h2:ws≠[]->Q (.ref s.heap.objs.size) { s with heap:=s.heap.push { cls:=.type "tuple",data:=.seq (vs++ws).toArray } })
  (hsz:vs.length+ws.length<=sizeLine):wpAny (model prog w) A (binaryOp .Add (.ref t) (.ref b)) Q E s:=by
 obtain⟨⟨cls,dd,data,sl⟩,ho,hc,n,hd⟩:=id ht;obtain⟨⟨cls2,dd2,data2,sl2⟩,ho2,hc2,n2,hd2⟩:=id hb;simp only at hc hd hc2 hd2;subst hc hd hc2 hd2;have e:vs.toArray++ws.toArray=(vs++ws).toArray:=by simp
 by_cases hw:ws=[]
 ·exact concat_meets ⟨_,ho,rfl⟩ ⟨_,ho2,rfl⟩ noFill_tuple_add seq_tuple_add PySem.F.slot_tuple_add PySem.F.entry_tuple_add (PySem.F.args_tuple_add_2 _ _)
   (tuple_addW1 t b vs.toArray ws.toArray n n2 dd dd2 sl sl2 (by simpa using hv) (by simp[hw])) ⟨ho,ho2,h1 hw⟩
 ·refine concat_meets ⟨_,ho,rfl⟩ ⟨_,ho2,rfl⟩ noFill_tuple_add seq_tuple_add PySem.F.slot_tuple_add PySem.F.entry_tuple_add (PySem.F.args_tuple_add_2 _ _)
   (tuple_addW2 t b vs.toArray ws.toArray n n2 dd dd2 sl sl2 (by simpa using hv) (by simpa using hw) (by rw[List.size_toArray,List.size_toArray];exact hsz)) ⟨ho,ho2,?_⟩
  rw[e];exact h2 hw
noncomputable def sIx(n d:Nat):Option Int->Nat
 | none=>d
 | some v=>if v < 0 then(v+(n:Int)).toNat else min v.toNat n
def sIx_nat(n d k:Nat):sIx n d (some (k:Int))=min k n:=by
 show(if (k:Int) < 0 then((k:Int)+(n:Int)).toNat else min (k:Int).toNat n)=min k n;rw[if_neg (by lia),Int.toNat_natCast]
def sIx_le(n d:Nat)(hd:d<=n)(o:Option Int):sIx n d o<=n:=by
 cases o with
 | none=>exact hd
 | some v=>
  show(if v < 0 then(v+(n:Int)).toNat else min v.toNat n)<=n;by_cases hv:v < 0
  ·rw[if_pos hv];lia
  ·rw[if_neg hv];exact Nat.min_le_right _ _
def clip_eq(v:Int)(n d:Nat):(if v < 0 then max (v+(n:Int)) 0 else min v (n:Int))=((sIx n d (some v):Nat):Int):=by
 show(if v < 0 then max (v+(n:Int)) 0 else min v (n:Int))=(((if v < 0 then(v+(n:Int)).toNat else min v.toNat n):Nat):Int)
 by_cases hv:v < 0
 ·simp only[if_pos hv];lia
 ·simp only[if_neg hv];lia
def adjust_gen(lo hi:Option Int)(n:Nat):Builtin.Slice.sliceAdjust lo hi 1 (n:Int)=(((sIx n 0 lo:Nat):Int),((sIx n n hi:Nat):Int)):=by
 have h1:¬((1:Int) < 0):=by lia
 unfold Builtin.Slice.sliceAdjust;simp only[h1,if_false];refine Prod.ext ?_ ?_
 ·cases lo with
  | none=>rfl
  | some v=>exact clip_eq v n 0
 ·cases hi with
  | none=>rfl
  | some v=>exact clip_eq v n n
def places_gen(i j:Nat):Builtin.Slice.slicePlaces (i:Int) (j:Int) 1=j - i:=by
 unfold Builtin.Slice.slicePlaces;have h1:(1:Int) > 0:=by lia
 simp only[h1,if_true,Int.ediv_one];split <;> lia
def slicePart_(p:IsPart v o)(h:Q o s):wpAny (model prog w) A (Builtin.Slice.slicePartIndex v) Q E s:=by
 cases p with
 | none=>exact slicePart_none h
 | int i t=>exact slicePart_int h
def sliceApplied_gen{sl:Addr}{vl vu:Value}{lo hi:Option Int}{n:Nat}{Q:Int×Int×Nat->Shared->Prop}(hs:s.heap.IsSliceOf sl vl vu .none)(pl:IsPart vl lo)(pu:IsPart vu hi)
  (h:Q (((sIx n 0 lo:Nat):Int),1,sIx n n hi - sIx n 0 lo) s):wpAny (model prog w) A (Builtin.Slice.sliceApplied (.ref sl) (pure (n:Int))) Q E s:=by
 obtain⟨os,hos,hcs,hds⟩:=id hs;unfold Builtin.Slice.sliceApplied Builtin.Slice.sliceFields;refine wAa (wAa (wpAny_field hos hds (x:=vl) rfl (wAa (wpAny_field hos hds (x:=vu) rfl (wAa (wpAny_field hos hds (x:=.none) rfl (wBa ?_)))))));refine wAa (slicePart_none ?_);show wpAny _ _ (if ((1:Int)==0)=true then _ else _) _ _ s;rw[if_neg (by decide)];refine wAa (slicePart_ pl (wAa (slicePart_ pu (wAa (wBa ?_)))));show wpAny _ _ (match Builtin.Slice.sliceAdjust lo hi 1 (n:Int)with | (lo,hi)=>pure (lo,(1:Int),Builtin.Slice.slicePlaces lo hi 1)) _ _ s;rw[adjust_gen lo hi n];show wpAny _ _ (pure (((sIx n 0 lo:Nat):Int),(1:Int),Builtin.Slice.slicePlaces ((sIx n 0 lo:Nat):Int) ((sIx n n hi:Nat):Int) 1)) _ _ s;rw[places_gen];exact wBa h
def pick_gen(xs:Array Value)(i k:Nat):((List.range k).filterMap fun(m:Nat)=>xs[((i:Int)+(m:Int) * 1).toNat]?).toArray=((xs.toList.drop i).take k).toArray:=by
 have e:(fun(m:Nat)=>xs[((i:Int)+(m:Int) * 1).toNat]?)=fun m=>xs[i+m]?:=by
  funext m;have:((i:Int)+(m:Int) * 1).toNat=i+m:=by lia
  rw[this]
 rw[e];have:=pick_run xs i k;rw[List.filterMap_map]at this;have e2:((fun x=>xs[x]?)∘fun x=>i+x)=fun m=>xs[i+m]?:=rfl;rw[e2]at this;rw[this]
def getItem_tuple_cut{t sl:Addr}{items:Array Value}{vl vu:Value}{lo hi:Option Int}{Q:Tz}(ht:IsTup s.heap t items)(hs:s.heap.IsSliceOf sl vl vu .none)(pl:IsPart vl lo)(pu:IsPart vu hi)
  (hw:¬(sIx items.size 0 lo=0/\sIx items.size items.size hi=items.size))
  (h:Q (.ref s.heap.objs.size) { s with heap:=s.heap.push { cls:=.type "tuple",data:=.seq ((items.toList.drop (sIx items.size 0 lo)).take (sIx items.size items.size hi - sIx items.size 0 lo)).toArray } })
  (hsz:items.size<=sizeLine):wpAny (model prog w) A (getItem (.ref t) (.ref sl)) Q E s:=by
 have htake:sizeOk (.seq ((items.toList.drop (sIx items.size 0 lo)).take (sIx items.size items.size hi - sIx items.size 0 lo)).toArray):=by
  show((items.toList.drop (sIx items.size 0 lo)).take (sIx items.size items.size hi - sIx items.size 0 lo)).toArray.size<=sizeLine;rw[uLa,uOa,uNa,Array.length_toList]
  lia
 have hj:sIx items.size items.size hi<=items.size:=sIx_le _ _ (wPa _) hi;obtain⟨os,hos,hcs,hds⟩:=id hs;have hTs:s.TypeIs (.ref sl) "slice" := ⟨os,hos,hcs⟩
 unfold getItem
 try with_reducible refine wDa ?_
 first | refine wAa (wBa ?_) | skip
 refine wAa (wpAny_sequenceKey ht.typeIs (by decide) ?_);refine wAa (wpAny_callSpecial?_slot (name:=Str.ofString "__getitem__") ht.typeIs PyProof.Rows.slot_tuple_getitem
  (wpAny_call_entry PyProof.Rows.slot_tuple_getitem ht.typeIs entry_tuple_getitem ?_ (args_tuple_getitem _ _)))
 show wpAny _ _ (Builtin.Tuple.tupleItemsOf (.ref t) >>= _) _ _ s;refine wAa (tupleItemsOf_ ht ?_);refine wAa (wpAny_typeOf hTs ?_);rw[if_pos (by decide)];refine wAa (sliceApplied_gen hs pl pu ?_);have hno:¬((((sIx items.size 0 lo:Nat):Int)==0&&(1:Int)==1&&(sIx items.size items.size hi - sIx items.size 0 lo)==items.size)=true):=by
  intro q;rw[Bool.and_eq_true,Bool.and_eq_true]at q;have q1:((sIx items.size 0 lo:Nat):Int)=0:=vLa q.1.1;have q2:sIx items.size items.size hi - sIx items.size 0 lo=items.size:=vLa q.2;exact hw ⟨by lia,by lia⟩
 show wpAny _ _ (if (((sIx items.size 0 lo:Nat):Int)==0&&(1:Int)==1&&(sIx items.size items.size hi - sIx items.size 0 lo)==items.size)=true then _ else _) _ _ s;rw[if_neg hno,pick_gen]
 first
  | exact wAa (m:=Builtin.Tuple.tupleExact _) (vTa (wBa ⟨_,rfl,wBa h⟩) htake)
  | exact wAa (m:=Builtin.Tuple.tupleExact _) (vTa (wAa (wBa (wBa ⟨_,rfl,wBa h⟩))) htake)
  | exact wAa (wAa (m:=Builtin.Tuple.tupleExact _) (vTa (wBa (wBa ⟨_,rfl,wBa h⟩)) htake))
  | exact wAa (wAa (m:=Builtin.Tuple.tupleExact _) (vTa (wBa ⟨_,rfl,wBa h⟩) htake))
end
end HT
namespace L2
noncomputable abbrev TO:=St->Hp->(Option Int->Hp->Prop)->Prop
def PO(X:Cx)(e:Option Expr)(t:TO):Prop:=
 ∀(pins:Tq) (s:Shared) (U:St) (H:Hp) (Q:Option Int->Hp->Prop),Inv X pins U H s->t U H Q->
  wpAny (model X.prog X.w) X.A (evalPart e X.env) (fun u s'=>∃o H',Inv X pins U H' s'/\IsPart u o/\Q o H') X.xe s
noncomputable def Bi:TO:=fun _ H Q=>Q none H
noncomputable def fq(t:TE):TO:=fun U H Q=>t U H fun x H1=>∃i,x=.int i/\Q (some i) H1
section
variable {X:Cx} {e:Expr} {te:TE} {lo hi:Option Expr} {tl th:TO} {pos p2:Pos}
def Bj:PO X none Bi:=by
 intro pins s U H Q I h;rw[evalPart_none];exact wBa ⟨none,H,I,.none,h⟩
def Bl(h:PE X e te):PO X (some e) (fq te):=by
 intro pins s U H Q I hw;rw[evalPart_some];refine jv (h pins s U H _ I hw) fun u s1 xx=>?_;obtain⟨x,H1,I1,r1,q1⟩:=xx;obtain⟨i,rfl,q⟩:=q1;obtain⟨t,rfl⟩:=r1;exact⟨some i,H1,I1,.int i t,q⟩
def dh(X:Cx)(r:V->Option Int->Option Int->Hp->VK->Prop):Prop:=
 ∀(pins:Tq) (s:Shared) (U:St) (H:Hp) (x:V) (v vl vu:Value) (lo hi:Option Int) (sl:Addr) (Q:VK),Inv X pins U H s->jq x v->s.heap.IsSliceOf sl vl vu .none->IsPart vl lo->IsPart vu hi->r x lo hi H Q->
  ∃T id,typeLookup (.type T) "__getitem__" = pure (some (.builtin id))/\s.TypeIs v T/\wpAny (model X.prog X.w) X.A (getItem v (.ref sl)) (EP X pins U Q) X.xe s
def li(r:V->Option Int->Option Int->Hp->VK->Prop)(te:TE)(tl th:TO):TE:=fun U H Q=>te U H fun x H1=>tl U H1 fun l H2=>th U H2 fun u H3=>r x l u H3 Q
def KZ{r:V->Option Int->Option Int->Hp->VK->Prop}(hr:dh X r)(he:PE X e te)(hl:PO X lo tl)(hu:PO X hi th):PE X (.Subscript e (.Slice lo hi none p2) pos) (li r te tl th):=by
 intro pins s U H Q I h;refine Subscript_ (jv (he pins s U H _ I h) fun v s1 xx=>?_);obtain⟨x,H1,I1,r1,q1⟩:=xx;refine wpAny_Slice (jv (hl pins s1 U H1 _ I1 q1) fun vl s2 ⟨l,H2,I2,pl,q2⟩=>jv (hu pins s2 U H2 _ I2 q2) fun vu s3 xx=>?_);obtain⟨u,H3,I3,pu,q3⟩:=xx;rw[evalPart_none];refine wBa ?_;have I4:Inv X pins U H3 { s3 with heap:=s3.heap.push { cls:=.type "slice",data:=.fields #[vl,vu,.none] } }:=I3.kept (t':=s3.toks) fun b ob q=>wIa _ q;obtain⟨T,id,hT,ht,hg⟩:=hr pins { s3 with heap:=s3.heap.push { cls:=.type "slice",data:=.fields #[vl,vu,.none] } } U H3 x v vl vu l u s3.heap.objs.size Q I4 r1 (Heap.IsSliceOf.new ..) pl pu q3;show wpAny (model X.prog X.w) X.A (subscriptTail e (.Slice lo hi none p2) v (.ref s3.heap.objs.size)) (EP X pins U Q) X.xe { s3 with heap:=s3.heap.push { cls:=.type "slice",data:=.fields #[vl,vu,.none] } };exact tail_any (ops:=[.ref s3.heap.objs.size,v]) ht hT hg (by with_unfolding_all rfl)
def uX(xs:List V)(lo hi:Option Int):List V:=(xs.drop (HT.sIx xs.length 0 lo)).take (HT.sIx xs.length xs.length hi - HT.sIx xs.length 0 lo)
def gu(xs:List V)(lo hi:Option Int):(uX xs lo hi).length<=xs.length:=by
 unfold uX;rw[uOa,uNa]
 lia
def iL(K:uXa):V->Option Int->Option Int->Hp->VK->Prop:=fun x lo hi H Q=>∃a xs,x=.ref a/\JN K H a xs/\
 ¬(HT.sIx xs.length 0 lo=0/\HT.sIx xs.length xs.length hi=xs.length)/\∀p,H p=none->Q (.ref p) (upd H p (.tup (uX xs lo hi)))
def dj:dh X (iL X.K):=by
 intro pins s U H x v vl vu lo hi sl Q I rx hs pl pu h;obtain⟨a,xs,rfl,hx,hw,q⟩:=h;cases rx;obtain⟨its,r,ht,hz⟩:=I.tuple hx;have hlen:its.toArray.size=xs.length:=by rw[uLa];exact r.length.symm
 refine⟨"tuple",_,PyProof.Rows.slot_tuple_getitem.lookup,ht.typeIs,?_⟩;refine HT.getItem_tuple_cut ht hs pl pu (by rw[hlen];exact hw) ?_ (by rw[hlen];exact hz);rw[hlen];refine⟨.ref s.heap.objs.size,_,I.laid (t':=s.toks) (o:=.tup (uX xs lo hi)) (fun b ob q=>wIa _ q) (wPa _) ?_,rfl,q _ (I.hok.fresh (wPa _))⟩;exact⟨wSa (gu xs lo hi) hz,_,(r.drop (HT.sIx xs.length 0 lo)).take (HT.sIx xs.length xs.length hi - HT.sIx xs.length 0 lo),IsTup.new _ _⟩
def Q2(K:uXa):R2:=fun x y H Q=>∃a b xs ys,x=.ref a/\y=.ref b/\JN K H a xs/\JN K H b ys/\xs≠[]/\xs.length+ys.length<=sizeLine/\
 (ys=[]->Q (.ref a) H)/\(ys≠[]->∀p,H p=none->Q (.ref p) (upd H p (.tup (xs++ys))))
def jp.nil_iff(r:jp xs us):us=[]↔xs=[]:=by
 cases r with
 | nil=>simp
 | cons _ _=>simp
def Bm:jS X (binaryOp .Add) (Q2 X.K):=by
 intro pins s U H x y v u Q I rx ry h;obtain⟨a,b,xs,ys,rfl,rfl,ha,hb,hx,hz,q1,q2⟩:=h;cases rx;cases ry;obtain⟨its,r1,p1,_⟩:=I.tuple ha;obtain⟨its2,r2,p2,_⟩:=I.tuple hb;refine HT.cat_tup p1 p2 (fun z=>hx (r1.nil_iff.mp z)) (fun z=>⟨.ref a,H,I,rfl,q1 (r2.nil_iff.mp z)⟩) (fun z=>?_) (by rw[<-r1.length,<-r2.length];exact hz);refine⟨.ref s.heap.objs.size,_,I.laid (t':=s.toks) (o:=.tup (xs++ys)) (fun b ob q=>wIa _ q) (wPa _) ?_,rfl,q2 (fun w=>z (r2.nil_iff.mpr w)) _ (I.hok.fresh (wPa _))⟩;exact⟨by rw[vZa];exact hz,_,r1.append r2,IsTup.new _ _⟩
end
noncomputable def uA(n:Nat)(i:Int):Option Nat:=if 0<=i then(if i < n then some i.toNat else none)else if -(n:Int)<=i then some (i+n).toNat else none
def atI(xs:List α)(i:Int):Option α:=(uA xs.length i).bind fun j=>xs[j]?
def WR(h:uA n i=some j):seqIndex? i n=some j/\j < n/\-(n:Int)<=i/\i < n:=by
 unfold uA at h;by_cases h0:0<=i
 ·rw[if_pos h0]at h;by_cases h1:i < n
  ·rw[if_pos h1]at h;have e:i.toNat=j:=vFa h;exact⟨by rw[seqIndex_of h0 h1,e],by lia,by lia,h1⟩
  ·rw[if_neg h1]at h;cases h
 ·rw[if_neg h0]at h;by_cases h1:-(n:Int)<=i
  ·rw[if_pos h1]at h;have e:(i+n).toNat=j:=vFa h;exact⟨by rw[seqIndex_neg (by lia) h1,e],by lia,h1,by lia⟩
  ·rw[if_neg h1]at h;cases h
def kz(h:atI xs i=some v):∃j,seqIndex? i xs.length=some j/\xs[j]?=some v/\j < xs.length/\-(xs.length:Int)<=i/\i < xs.length:=by
 unfold atI at h;cases e:uA xs.length i with
 | none=>rw[e]at h;cases h
 | some j=>
  rw[e]at h;obtain⟨h1,h2,h3,h4⟩:=WR e;exact⟨j,h1,h,h2,h3,h4⟩
def kC(b:Expr):Prop:=∀o i,subscripted b false o i=operate [o,i] (getItem o i)
def uY(X:Cx)(r:R2):Prop:=
 ∀(value slice:Expr) (pins:Tq) (s:Shared) (U:St) (H:Hp) (x y:V) (v u:Value) (Q:VK),Inv X pins U H s->jq x v->jq y u->r x y H Q->
  subscripted slice false v u=operate [v,u] (getItem v u)->wpAny (model X.prog X.w) X.A (subscriptTail value slice v u) (EP X pins U Q) X.xe s
def lj(X:Cx)(id:String)(r:V->List V->Hp->VK->Prop):Prop:=
 ∀(pins:Tq) (s:Shared) (U:St) (H:Hp) (x:V) (xs:List V) (v:Value) (us:List Value) (Q:VK),Inv X pins U H s->jq x v->jp xs us->r x xs H Q->
  wpAny (model X.prog X.w) X.A (call (.builtin id) (v::us)) (EP X pins U Q) X.xe s
section
variable {X:Cx} {a b:Expr} {ta tb:TE} {pos:Pos}
def uY.or(h:uY X r)(h':uY X r'):uY X (fun x y H Q=>r x y H Q \/ r' x y H Q):=by
 intro value slice pins s U H x y v u Q I rx ry q hs;rcases q with q | q
 ·exact h value slice pins s U H x y v u Q I rx ry q hs
 ·exact h' value slice pins s U H x y v u Q I rx ry q hs
def fu(hr:uY X r)(ha:PE X a ta)(hb:PE X b tb)(hs:kC b):PE X (.Subscript a b pos) (QN r ta tb):=by
 intro pins s U H Q I h;exact Subscript_ (XH ha hb I h fun v u s2 x y H2 I2 rx ry q=>hr a b pins s2 U H2 x y v u Q I2 rx ry q (hs _ _))
def dl(K:uXa):R2:=fun x y H Q=>∃p xs i v,x=.ref p/\y=.int i/\jC K H p xs/\atI xs i=some v/\Q v H
def dm(K:uXa):R2:=fun x y H Q=>∃p xs i v,x=.ref p/\y=.int i/\JN K H p xs/\atI xs i=some v/\Q v H
def dn:R2:=fun x y H Q=>∃z i c,x=.str z/\y=.int i/\z.length<=sizeLine/\atI z.cps.toList i=some c/\Q (.str ⟨#[c]⟩) H
def Bn:uY X (dl X.K):=by
 intro value slice pins s U H x y v u Q I rx ry h hs;obtain⟨p,xs,i,z,rfl,rfl,hq,he,q⟩:=h;cases rx;obtain⟨t,rfl⟩:=ry;obtain⟨its,r,pl,hz⟩:=I.list hq;obtain⟨j,h1,h2,h3,h4,h5⟩:=kz he;obtain⟨w,ew,rw'⟩:=r.get h2;have hl:=r.length;have hn:=Vt;have fin:EP X pins U Q w s:=⟨z,H,I,rw',q⟩
 by_cases h0:0<=i
 ·have hj:i.toNat=j:=by
   rw[seqIndex_of h0 h5]at h1;exact vFa h1
  exact item_listR pl.isList h0 (by lia) (by rw[hj];simpa using ew) fin hs
 ·have hj:(i+(its.toArray.size:Int)).toNat=j:=by
   rw[seqIndex_neg (by lia) h4]at h1;rw[uLa,<-hl];exact vFa h1
  exact subscriptTail_builtinR (x:=w) pl.isList.typeIs slot_list_getitem.lookup
   (wpAny_getItem_list_neg (Q:=fun r s'=>r=w/\EP X pins U Q r s') pl.isList (by lia) (by rw[uLa] <;> lia) (by lia) (by rw[hj];simpa using ew) ⟨rfl,fin⟩) hs
def dw:uY X (dm X.K):=by
 intro value slice pins s U H x y v u Q I rx ry h hs;obtain⟨p,xs,i,z,rfl,rfl,hq,he,q⟩:=h;cases rx;obtain⟨t,rfl⟩:=ry;obtain⟨its,r,pl,hz⟩:=I.tuple hq;obtain⟨j,h1,h2,h3,h4,h5⟩:=kz he;obtain⟨w,ew,rw'⟩:=r.get h2;have hl:=r.length;have hn:=Vt;have fin:EP X pins U Q w s:=⟨z,H,I,rw',q⟩
 exact subscriptTail_builtinR (x:=w) pl.typeIs slot_tuple_getitem.lookup
  (getItem_tuple (j:=j) (Q:=fun r s'=>r=w/\EP X pins U Q r s') pl (by lia) (by lia) (by rw[uLa,<-hl];exact h1) (by simpa using ew) ⟨rfl,fin⟩) hs
def dz:uY X dn:=by
 intro value slice pins s U H x y v u Q I rx ry h hs;obtain⟨z,i,c,rfl,rfl,hz,he,q⟩:=h;obtain⟨t,rfl⟩:=rx;obtain⟨t',rfl⟩:=ry;obtain⟨j,h1,h2,h3,h4,h5⟩:=kz he;have hl:z.cps.toList.length=z.length:=by simp[Str.length]
 rw[hl]at h1 h4 h5;have hn:=Vt;exact tail_any (typeIs_str s z t) slot_str_getitem.lookup (getItem_str (c:=c) (by
  have e1:decide (i < -(2 ^ 63:Int))=false:=vBa (by lia);have e2:decide (i>=2 ^ 63)=false:=vBa (by lia);rw[e1,e2,Bool.or_false]) (by rw[h1];simpa using h2) ⟨.str ⟨#[c]⟩,H,I.tok _,⟨_,rfl⟩,q⟩) hs
def Hs(K:uXa):R2:=fun x y H Q=>dl K x y H Q \/ dm K x y H Q \/ dn x y H Q
def dA:uY X (Hs X.K):=Bn.or (dw.or dz)
def Q3(its:List Value)(n j:Nat)(u:Value):Obj.mapSeq (·.setIfInBounds j u) { cls:=.type "list",data:=.seq its.toArray n }={ cls:=.type "list",data:=.seq (its.set j u).toArray n }:=by
 simp[Obj.mapSeq]
def Inv.lst{pins:Tq}{U:St}{H:Hp}{s:Shared}{p:Addr}{xs:List V}(I:Inv X pins U H s)(h:H p=some (.lst xs)):
  ∃(its:List Value) (n:Nat),jp xs its/\s.heap.get? p=some { cls:=.type "list",data:=.seq its.toArray n }/\xs.length<=sizeLine:=by
 obtain⟨z,its,n,r,e⟩:=I.hok p _ h;exact⟨its,n,r,e,z⟩
def Inv.lstUpd{s:Shared}{ys:List V}{its its':List Value}(I:Inv X pins U H s)(h:H p=some (.lst xs))
  (ho:s.heap.get? p=some { cls:=.type "list",data:=.seq its.toArray n }) (hf:f { cls:=.type "list",data:=.seq its.toArray n }={ cls:=.type "list",data:=.seq its'.toArray n' }) (r:jp ys its') (hz:ys.length<=sizeLine) (t:Nat):
  Inv X pins U (upd H p (.lst ys)) { s with heap:=s.heap.update p f,toks:=t }:=by
 have e:(s.heap.update p f).get? p=some { cls:=.type "list",data:=.seq its'.toArray n' }:=by
  rw[Heap.get?_update_self f ho (by rw[hf] <;> rfl),hf]
 refine I.write (x:=p) (e:=p) (by rw[h];trivial) (.inl rfl) (fun b u hb q=>(wKa _ _ (Ne.symm hb)).trans q) ⟨_,e⟩ ?_;exact⟨hz,its',n',r,e⟩
def AS:V->V->V->Hp->(Hp->Prop)->Prop:=fun o i v H Q=>∃p xs k j,o=.ref p/\i=.int k/\H p=some (.lst xs)/\uA xs.length k=some j/\Q (upd H p (.lst (xs.set j v)))
def XX:XB X AS:=by
 intro pins s U H o i v ov iv u Q I ro ri rv h;obtain⟨p,xs,k,j,rfl,rfl,hp,hj,q⟩:=h;cases ro;obtain⟨t,rfl⟩:=ri;obtain⟨its,n,r,ho,hz⟩:=I.lst hp;obtain⟨h1,h2,h3,h4⟩:=WR hj;have hl:=r.length;have hn:=Vt;have I':Inv X pins U (upd H p (.lst (xs.set j v))) { s with heap:=s.heap.update p (Obj.mapSeq (·.setIfInBounds j u)) }:=
  I.lstUpd hp ho (Q3 its n j u) (r.set rv j) (by rw[List.length_set];exact hz) s.toks
 by_cases h0:0<=k
 ·have hk:k.toNat=j:=by
   rw[seqIndex_of h0 h4]at h1;exact vFa h1
  exact PySem.W.ki_setAt ho h0 (by lia) (by rw[uLa,<-hl];exact h4) (by rw[hk];exact⟨_,I',q⟩)
 ·have hk:(k+(its.toArray.size:Int)).toNat=j:=by
   rw[seqIndex_neg (by lia) h3]at h1;rw[uLa,<-hl];exact vFa h1
  exact PySem.W.ki_setBack ho (by lia) (by rw[uLa,<-hl];exact h3) (by lia) (by rw[hk];exact⟨_,I',q⟩)
def K_(lo hi:Option Int)(n:Nat):(sliceBounds lo hi none n).1=((HT.sIx n 0 lo:Nat):Int)/\(sliceBounds lo hi none n).2.1=((HT.sIx n n hi:Nat):Int)/\(sliceBounds lo hi none n).2.2=1:=by
 refine⟨?_,?_,rfl⟩
 ·cases lo with
  | none=>simp[sliceBounds,HT.sIx]
  | some i=>
   simp only[sliceBounds,HT.sIx,Option.getD_none,show(1:Int) > 0 by decide,if_true];by_cases h:i < 0
   ·simp only[h,if_true] <;> lia
   ·simp only[h,if_false] <;> lia
 ·cases hi with
  | none=>simp[sliceBounds,HT.sIx]
  | some i=>
   simp only[sliceBounds,HT.sIx,Option.getD_none,show(1:Int) > 0 by decide,if_true];by_cases h:i < 0
   ·simp only[h,if_true] <;> lia
   ·simp only[h,if_false] <;> lia
def Ku(its:List Value)(lo hi:Option Int):slicePick its.toArray lo hi none=((its.drop (HT.sIx its.length 0 lo)).take (HT.sIx its.length its.length hi - HT.sIx its.length 0 lo)).toArray:=by
 obtain⟨h1,h2,h3⟩:=K_ lo hi its.toArray.size;unfold slicePick;rw[h1,h2,h3];simp only[sliceRange_one,pick_run,List.size_toArray] <;> rfl
def iM(K:uXa):V->Option Int->Option Int->Hp->VK->Prop:=fun x lo hi H Q=>∃a xs,x=.ref a/\jC K H a xs/\∀p,H p=none->Q (.ref p) (upd H p (.lst (uX xs lo hi)))
def Bo:dh X (iM X.K):=by
 intro pins s U H x v vl vu lo hi sl Q I rx hs pl pu h;obtain⟨a,xs,rfl,hx,q⟩:=h;cases rx;obtain⟨its,r,ht,hz⟩:=I.list hx;have hlen:=r.length;refine⟨"list",_,slot_list_getitem.lookup,ht.isList.typeIs,?_⟩;refine wpAny_getItem_list_slice ht.isList hs pl pu .none (by simp) ?_ (by rw[List.size_toArray] <;> lia);rw[Ku,<-hlen];refine⟨.ref s.heap.objs.size,_,I.laid (t':=s.toks) (o:=.lst (uX xs lo hi)) (fun b ob q=>wIa _ q) (wPa _) ?_,rfl,q _ (I.hok.fresh (wPa _))⟩;exact⟨wSa (gu xs lo hi) hz,_,0,(r.drop (HT.sIx xs.length 0 lo)).take (HT.sIx xs.length xs.length hi - HT.sIx xs.length 0 lo),wJa _ rfl⟩
noncomputable def zX:V->Bool
 | .non=>true
 | .bl _=>true
 | .int _=>true
 | .str _=>true
 | _=>false
noncomputable def uZ:V->V->Bool
 | .non,.non=>true
 | .bl a,.bl b=>a==b
 | .bl a,.int b=>(if a then 1 else 0)==b
 | .int a,.bl b=>a==(if b then 1 else 0)
 | .int a,.int b=>a==b
 | .str a,.str b=>a==b
 | _,_=>false
def dB(ry:jq y u)(rx:jq x v)(fy:zX y=true)(fx:zX x=true):SeqAt.EqAt A s u v (uZ y x):=by
 cases y with
 | non=>
  cases ry;cases x with
  | non=>cases rx;exact SeqAt.EqAt.same _
  | bl b=>cases rx;exact SeqAt.EqAt.none_bool b
  | int b=>obtain⟨t,rfl⟩:=rx;exact SeqAt.EqAt.none_int b t
  | str b=>obtain⟨t,rfl⟩:=rx;exact SeqAt.EqAt.none_str b t
  | _=>exact vDa (show false=true from fx) vNa
 | bl a=>
  cases ry;cases x with
  | non=>cases rx;exact SeqAt.EqAt.bool_none a
  | bl b=>cases rx;exact SeqAt.EqAt.bool_bool a b
  | int b=>obtain⟨t,rfl⟩:=rx;exact SeqAt.EqAt.bool_int a b t
  | str b=>obtain⟨t,rfl⟩:=rx;exact SeqAt.EqAt.bool_str a b t
  | _=>exact vDa (show false=true from fx) vNa
 | int a=>
  obtain⟨t',rfl⟩:=ry;cases x with
  | non=>cases rx;exact SeqAt.EqAt.int_none a t'
  | bl b=>cases rx;exact SeqAt.EqAt.int_bool a t' b
  | int b=>obtain⟨t,rfl⟩:=rx;exact SeqAt.EqAt.int_int a t' b t
  | str b=>obtain⟨t,rfl⟩:=rx;exact SeqAt.EqAt.int_str a t' b t
  | _=>exact vDa (show false=true from fx) vNa
 | str a=>
  obtain⟨t',rfl⟩:=ry;cases x with
  | non=>cases rx;exact SeqAt.EqAt.str_none a t'
  | bl b=>cases rx;exact SeqAt.EqAt.str_bool a t' b
  | int b=>obtain⟨t,rfl⟩:=rx;exact SeqAt.EqAt.str_int a t' b t
  | str b=>obtain⟨t,rfl⟩:=rx;exact SeqAt.EqAt.str_str a t' b t
  | _=>exact vDa (show false=true from fx) vNa
 | _=>exact vDa (show false=true from fy) vNa
def vi(x:V)(u:Value):Bool:=match u with
 | .none=>uZ .non x
 | .bool b=>uZ (.bl b) x
 | .int i _=>uZ (.int i) x
 | .str z _=>uZ (.str z) x
 | _=>false
def QS(r:jq y u)(f:zX y=true):vi x u=uZ y x:=by
 cases y with
 | non=>cases r;rfl
 | bl b=>cases r;rfl
 | int i=>obtain⟨t,rfl⟩:=r;rfl
 | str z=>obtain⟨t,rfl⟩:=r;rfl
 | _=>exact vDa (show false=true from f) vNa
theorem Vu:∀{xs:List V} {us:List Value},jp xs us->xs.all zX=true->us.any (vi x)=xs.any fun y=>uZ y x
 | _,_,.nil,_=>rfl
 | y::xs,u::us,.cons r t,f=>by
  rw[List.all_cons,Bool.and_eq_true]at f;rw[List.any_cons,List.any_cons,QS r f.1,Vu t f.2]
theorem vj(rx:jq x v)(fx:zX x=true):∀{xs:List V} {us:List Value},jp xs us->xs.all zX=true->∀u∈us,SeqAt.EqAt A s u v (vi x u)
 | _,_,.nil,_=>fun u hu=>by cases hu
 | y::xs,u::us,.cons r t,f=>fun u' hu=>by
  rw[List.all_cons,Bool.and_eq_true]at f;rcases uTa hu with rfl | hu
  ·rw[QS r f.1];exact dB r rx f.1 fx
  ·exact vj rx fx t f.2 u' hu
def w5(x:V)(xs:List V):Bool:=xs.any fun y=>uZ y x
def dE(K:uXa)(neg:Bool):R2:=fun x y H Q=>∃p xs,y=.ref p/\(jC K H p xs \/ JN K H p xs)/\zX x=true/\xs.all zX=true/\Q (.bl (if neg then !w5 x xs else w5 x xs)) H
def QT:jS X (compareOp .In) (dE X.K false):=by
 intro pins s U H x y v u Q I rx ry h;obtain⟨p,xs,rfl,hq,fx,fs,q⟩:=h;cases ry;rcases hq with hq | hq
 ·obtain⟨its,r,pl,hz⟩:=I.list hq;refine SeqAt.in_listAt (vi x) pl.isList (fun w hw=>vj rx fx r fs w (by simpa using hw)) ⟨.bl _,H,I,rfl,?_⟩;rw[show its.toArray.any (vi x)=its.any (vi x) by simp,Vu r fs];exact q
 ·obtain⟨its,r,pl,hz⟩:=I.tuple hq;refine SeqAt.in_tupleAt (vi x) pl (fun w hw=>vj rx fx r fs w (by simpa using hw)) ⟨.bl _,H,I,rfl,?_⟩;rw[show its.toArray.any (vi x)=its.any (vi x) by simp,Vu r fs];exact q
def w8:jS X (compareOp .NotIn) (dE X.K true):=by
 intro pins s U H x y v u Q I rx ry h;obtain⟨p,xs,rfl,hq,fx,fs,q⟩:=h;cases ry;rcases hq with hq | hq
 ·obtain⟨its,r,pl,hz⟩:=I.list hq;refine SeqAt.notIn_listAt (vi x) pl.isList (fun w hw=>vj rx fx r fs w (by simpa using hw)) ⟨.bl _,H,I,rfl,?_⟩;rw[show its.toArray.any (vi x)=its.any (vi x) by simp,Vu r fs];exact q
 ·obtain⟨its,r,pl,hz⟩:=I.tuple hq;refine SeqAt.notIn_tupleAt (vi x) pl (fun w hw=>vj rx fx r fs w (by simpa using hw)) ⟨.bl _,H,I,rfl,?_⟩;rw[show its.toArray.any (vi x)=its.any (vi x) by simp,Vu r fs];exact q
def wa:YD X (.builtin "len") (fun xs H Q=>∃p ys,xs=[.ref p]/\(jC X.K H p ys \/ JN X.K H p ys)/\Q (.int ys.length) H):=by
 intro pins s U H xs us Q I r h;obtain⟨p,ys,rfl,hq,q⟩:=h;obtain⟨u,rfl,rx⟩:=qX r;cases rx;have hn:=Vt;rcases hq with hq | hq
 ·obtain⟨its,r',pl,hz⟩:=I.list hq;have hlen:=r'.length;exact Calls.call_len_list pl.isList (by simp only[List.size_toArray] <;> lia) ⟨.int ys.length,H,I.tok _,⟨s.toks+1,by rw[uLa,hlen]⟩,q⟩
 ·obtain⟨its,r',pl,hz⟩:=I.tuple hq;have hlen:=r'.length;exact len_tuple pl (by simp only[List.size_toArray] <;> lia) ⟨.int ys.length,H,I.tok _,⟨s.toks+1,by rw[uLa,hlen]⟩,q⟩
def wb:YD X (.type "list") (fun xs H Q=>∃p ys,xs=[.ref p]/\(jC X.K H p ys \/ JN X.K H p ys)/\∀l,H l=none->Q (.ref l) (upd H l (.lst ys))):=by
 intro pins s U H xs us Q I r h;obtain⟨p,ys,rfl,hq,q⟩:=h;obtain⟨u,rfl,rx⟩:=qX r;cases rx;have fin:∀(its:List Value),jp ys its->ys.length<=sizeLine->∀(h':Heap) (c':Nat),(∀b o',s.heap.get? b=some o'->h'.get? b=some o')->
   h'.get? s.heap.objs.size=some { cls:=.type "list",dict:=none,data:=.seq its.toArray c',slots:=#[] }->EP X pins U Q (.ref s.heap.objs.size) { s with heap:=h' }:=fun its r' hz h' c' kp e=>
  ⟨.ref s.heap.objs.size,_,I.laid (t':=s.toks) kp (wPa _) (show Jq X.prog X.w _ h' _ (.lst ys) from⟨hz,its,c',r',e⟩),rfl,q _ (I.hok.fresh (wPa _))⟩
 rcases hq with hq | hq
 ·obtain⟨its,r',pl,hz⟩:=I.list hq;have hlen:=r'.length;obtain⟨o,ho,hc,n,hd⟩:=pl.isList;exact call_list_seq p (.inl rfl) ho hc hd (fun h' c' kp e=>fin its r' hz h' c' kp e) (by simp only[List.size_toArray] <;> lia)
 ·obtain⟨its,r',pl,hz⟩:=I.tuple hq;have hlen:=r'.length;obtain⟨o,ho,hc,n,hd⟩:=pl;exact call_list_seq p (.inr rfl) ho hc hd (fun h' c' kp e=>fin its r' hz h' c' kp e) (by simp only[List.size_toArray] <;> lia)
def Kv:YD X (.type "tuple") (fun xs H Q=>∃p ys,xs=[.ref p]/\((jC X.K H p ys/\∀l,H l=none->Q (.ref l) (upd H l (.tup ys))) \/ (JN X.K H p ys/\Q (.ref p) H))):=by
 intro pins s U H xs us Q I r h;obtain⟨p,ys,rfl,h⟩:=h;obtain⟨u,rfl,rx⟩:=qX r;cases rx;rcases h with⟨hq,q⟩ | ⟨hq,q⟩
 ·obtain⟨its,r',pl,hz⟩:=I.list hq;have hlen:=r'.length;refine call_tuple_list pl.isList (fun h' kp=>?_) (by simp only[List.size_toArray] <;> lia);have I1:Inv X pins U H { s with heap:=h' }:=I.kept (t':=s.toks) kp;have I2:Inv X pins U (upd H h'.objs.size (.tup ys)) { s with heap:=h'.push { cls:=.type "tuple",data:=.seq its.toArray } }:=
   I1.laid (t':=s.toks) (fun b o e=>wIa _ e) (wPa _) (show Jq X.prog X.w _ _ _ (.tup ys) from⟨hz,its,r',IsTup.new _ _⟩)
  exact⟨.ref h'.objs.size,_,I2,rfl,q _ (I1.hok.fresh (wPa _))⟩
 ·obtain⟨its,r',pl,hz⟩:=I.tuple hq;exact call_tuple_same pl ⟨.ref p,H,I,rfl,q⟩
def Ht(K:uXa)(T:String)(x:V)(H:Hp):Prop:=match x with
 | .str _=>T = "str"
 | .int _=>T = "int"
 | .ref p=>(T = "list" /\∃xs,jC K H p xs) \/ (T = "tuple" /\∃o,K.lookup p=some o/\o.cls=.type "tuple" /\o.dict=none) \/
   (T = "dict" /\∃kvs ep,H p=some (.dD kvs ep))
 | _=>False
theorem dG{pins:Tq}{U:St}{H:Hp}{s:Shared}{T:String}{x:V}{v:Value}(I:Inv X pins U H s)(r:jq x v)(ty:Ht X.K T x H):
  s.TypeIs v T/\∀a,v=.ref a->∃ob,s.heap.get? a=some ob/\ob.dict=none:=by
 cases x with
 | str z=>
  obtain⟨t,rfl⟩:=r;cases (show T = "str" from ty);exact⟨typeIs_str s z t,fun _ e=>nomatch e⟩
 | int i=>
  obtain⟨t,rfl⟩:=r;cases (show T = "int" from ty);exact⟨typeIs_int s i t,fun _ e=>nomatch e⟩
 | ref p=>
  cases r;rcases ty with⟨rfl,xs,hq⟩ | ⟨rfl,o,hk,hc,hd⟩ | ⟨rfl,kvs,ep,hk⟩
  ·obtain⟨its,_,pl,_⟩:=I.list hq;refine⟨pl.isList.typeIs,fun a e=>?_⟩;cases e;obtain⟨o,n,e,c,hd,_⟩:=pl;exact⟨o,e,hd⟩
  ·refine⟨⟨o,I.kIn p o hk,hc⟩,fun a e=>?_⟩;cases e;exact⟨o,I.kIn _ o hk,hd⟩
  ·have z:∃o,s.heap.get? p=some o/\o.ExactDict:=by
    obtain⟨_,_,_,_,_,o,_,e,ex,_⟩:=I.hok p _ hk;exact⟨o,e,ex⟩
   obtain⟨o,e,ex⟩:=z;refine⟨⟨o,e,ex.1⟩,fun a e2=>?_⟩;cases e2;exact⟨o,e,ex.2.1⟩
 | _=>exact False.elim ty
def QU(K:uXa)(T:String)(r:V->List V->Hp->VK->Prop)(to:TE)(t:TA):TE:=fun U H Q=>to U H fun x H1=>Ht K T x H1/\t U H1 fun xs H2=>r x xs H2 Q
variable {o e:Expr} {es:List Expr} {to:TE} {t:TA} {name:Str} {apos cpos:Pos} {T id:String} {r:V->List V->Hp->VK->Prop}
def AU(pa:PlainAttrs T)(slot:Slot T name id)(hty:typeOf (.builtin id)=pure (.type "method_descriptor"))(hm:lj X id r)(ho:PE X o to)(ha:PA X (e::es) t)
  (hbase:attributeBase o name X.env (eval o X.env)=eval o X.env:=by rfl)
  (hfew:((backTo cpos (starEach (e::es) X.env)).all (fun x=>!x.1)&&(backToKw cpos (keywordEach [] X.env)).all (fun x=>x.1.isSome)
   && decide ((e::es).length+([]:List Keyword).length+(if ([]:List Keyword).isEmpty then 0 else 1) < 30))=true:=by rfl)
  (hline:(apos.endLine==cpos.line)=true:=by rfl) (hs:starEach (e::es) X.env=(false,eval e X.env)::starEach es X.env:=by rfl) (hplain:(backTo cpos (starEach es X.env)).any (·.1)=false:=by rfl):
  PE X (.Call (.Attribute o name apos) (e::es) [] cpos) (QU X.K T r to t):=by
 intro pins s U H Q I h;refine wpAny_Call_method_late hbase hfew hline rfl (jv (ho pins s U H _ I h) fun v s1 xx=>?_);obtain⟨x,H1,I1,r1,ty,q1⟩:=xx;obtain⟨h1,h2⟩:=dG I1 r1 ty;refine⟨T,id,pa,slot,hty,h1,h2,?_⟩;have hA:=ha cpos pins s1 U H1 _ I1 q1;rw[hs]at hA⊢;refine Calls.callWith_builtin (by show(false||(backTo cpos (starEach es X.env)).any (·.1))=false;rw[hplain] <;> rfl) (Calls.evalArgs_plain ?_)
 exact jv hA fun us s2 ⟨vs,H2,I2,r2,q2⟩=>hm pins s2 U H2 x vs v us Q I2 r1 r2 q2
end
def Hu(X:Cx)(id:String)(r:V->List V->Hp->VK->Prop):Prop:=
 ∀(pins:Tq) (s:Shared) (U:St) (H:Hp) (x:V) (xs:List V) (v:Value) (us:List Value) (Q:VK),Inv X pins U H s->jq x v->jp xs us->r x xs H Q->
  wpAny (model X.prog X.w) X.A (call (.builtin id) (v::us)) (EP X pins U Q) X.xe s
theorem jp.one:∀{x:V} {us:List Value},jp [x] us->∃u,us=[u]/\jq x u
 | _,_,.cons r .nil=>⟨_,rfl,r⟩
section
variable {X:Cx} {pins:Tq} {U:St} {H:Hp} {s:Shared} {l b:Addr} {xs ys zs:List V}
def Inv.lset{its its':List Value}{n:Nat}{f:Array Value->Array Value}{t':Nat}(I:Inv X pins U H s)(hH:H l=some (.lst xs))
  (e:s.heap.get? l=some { cls:=.type "list",data:=.seq its.toArray n }) (hf:f its.toArray=its'.toArray) (hv:jp ys its') (hz:ys.length<=sizeLine):
  Inv X pins U (upd H l (.lst ys)) { s with heap:=s.heap.update l (Obj.mapSeq f),toks:=t' }:=by
 have q:=PySem.IsL.update e f;rw[hf]at q;refine I.write (x:=l) (e:=l) (by rw[hH];exact trivial) (.inl rfl) (fun b' u hb hu=>(wKa s.heap (Obj.mapSeq f) (Ne.symm hb)).trans hu) ⟨_,q⟩ ?_;exact⟨hz,its',_,hv,q⟩
def Inv.lnew(I:Inv X pins U H s)(hv:jp ys its)(hz:ys.length<=sizeLine):
  Inv X pins U (upd H s.heap.objs.size (.lst ys)) { s with heap:=s.heap.push { cls:=.type "list",data:=.seq its.toArray },toks:=t' }:=
 I.laid (fun _ _ q=>wIa _ q) (wPa _) ⟨hz,its,0,hv,wJa _ rfl⟩
def Inv.fresh(I:Inv X pins U H s):H s.heap.objs.size=none:=I.hok.fresh (wPa _)
def Inv.lstM(I:Inv X pins U H s)(hH:H l=some (.lst xs)):xs.length<=sizeLine/\∃(its:List Value) (n:Nat),jp xs its/\xs.length=its.length/\s.heap.get? l=some { cls:=.type "list",data:=.seq its.toArray n }:=by
 obtain⟨z,its,n,r,e⟩:=I.hok l _ hH;exact⟨z,its,n,r,r.length,e⟩
end
section
variable {X:Cx}
def kD:V->List V->Hp->VK->Prop:=fun x vs H Q=>∃l xs y,x=.ref l/\vs=[y]/\H l=some (.lst xs)/\xs.length < sizeLine/\Q .non (upd H l (.lst (xs++[y])))
def QV:Hu X "list.append" kD:=by
 intro pins s U H x vs v us Q I rx rv h;obtain⟨l,xs,y,rfl,rfl,hH,hz,q⟩:=h;cases rx;obtain⟨u,rfl,ru⟩:=rv.one;obtain⟨z,its,n,r,hl,e⟩:=I.lstM hH;refine call_meets F.slot_list_append ⟨_,e,rfl⟩ F.entry_list_append (F.args_list_append_2 _ _) (PySem.list_append l its.toArray n u (by rw[uLa];lia)) ⟨e,?_⟩;refine⟨.non,_,I.lset (its':=its++[u]) hH e (by simp) (r.append (.cons ru .nil)) ?_,rfl,q⟩;rw[vZa,List.length_singleton]
 lia
def dH:R2:=fun x y H Q=>∃l b xs zs,x=.ref l/\y=.ref b/\H l=some (.lst xs)/\H b=some (.lst zs)/\xs.length+zs.length<=sizeLine/\∀p,H p=none->Q (.ref p) (upd H p (.lst (xs++zs)))
def dI:jS X (binaryOp .Add) dH:=by
 intro pins s U H x y v u Q I rx ry h;obtain⟨l,b,xs,zs,rfl,rfl,hH,hB,hz,q⟩:=h;cases rx;cases ry;obtain⟨z,its,n,r,hl,e⟩:=I.lstM hH;obtain⟨z2,its2,n2,r2,hl2,e2⟩:=I.lstM hB;refine PySem.P.add_list e e2 ?_ (by rw[uLa,uLa];lia);have ea:its.toArray++its2.toArray=(its++its2).toArray:=by simp
 rw[ea];exact⟨.ref _,_,I.lnew (t':=s.toks) (r.append r2) (by rw[vZa];lia),rfl,q _ I.fresh⟩
end
end L2
namespace Att
open PySem.W PySem.Calls
def ints_of_wellAll:∀(ns:List Int) (vs:List Value),WellAll P h vs (ns.map WData.int)->IntsAre vs ns:=by
 intro ns;induction ns with
 | nil=>
  intro vs w;rw[uJa]at w;cases w;exact .nil
 | cons n ns ih=>
  intro vs w;rw[vWa]at w;cases w with
  | cons a b=>
   cases a;exact .cons _ _ (ih _ b)
theorem script_of{l:OpenLaw}(hn:l.most=some n){h:Heap}
  (hpre:l.row.toRowW.claim.pre args=true) (hwl:WellAll P h vals args):
  ∃a vs ns,vals=[Value.ref a]/\args=[WData.list (ns.map WData.int)]/\h.get? a=some { cls:=.type "list",data:=.seq vs.toArray }/\IntsAre vs ns/\ns.length<=n:=by
 have hsh:WShape.hasAll [] args [.list .int]=true:=(pre_splitW hpre).1;have hc:l.pre.holds [] { args:=args }=true:=(pre_splitW hpre).2;obtain⟨d,r,rfl,h1,h2⟩:=hasAllW_cons hsh;obtain rfl:=hasAllW_nil h2;obtain⟨xs,rfl,h3⟩:=hasW_list h1;obtain⟨ns,rfl⟩:=items_int h3;have hlen:ns.length<=n:=by
  unfold OpenLaw.pre at hc;have h4:(WTm.not (.lt (.lit (.int (n:Int))) (.len (.arg 0)))).holds [] { args:=[.list (ns.map .int)] }=true:=by
   have h4:=(holds_andW hc).1;rw[hn]at h4;exact h4
  have h5:=condW_of h4 (w_not (w_lt w_lit (w_len_list (w_arg rfl))));rw[vYa]at h5;refine Nat.le_of_not_lt fun q=>?_;have q':(n:Int) < ((ns.length:Nat):Int):=by lia
  first
   | (rw[decide_eq_true q']at h5;exact vDa h5 (by decide))
   | (simp at h5;lia)
 cases hwl with
 | cons w1 w2=>
  cases w2;cases w1 with
  | list ho hall=>exact⟨_,_,ns,rfl,rfl,ho,ints_of_wellAll ns _ hall,hlen⟩
def post_true(l:OpenLaw)(args:List WData):l.row.toRowW.claim.post args (.bool true) args=true:=
 postW_of (r:=l.row.toRowW) (X:=(true==true))
  (show WShape.has [] (.bool true) .bool=true by first | rfl | decide | simp[WShape.has,WShape.arms,WShape.armsAll])
  (show(WTm.eq .res (.lit (.bool true))).value [] { args:=args,res:=some (.bool true),after:=args }=some (.bool (true==true)) from w_eq_bool (w_res rfl) w_lit) rfl
def attach_call{l:OpenLaw}{d:DefRec}
  (hn:l.most=some n) (hdf:d.params.defaults=[])
  (call:∀(w:World) (s₀ s₁:Shared) (mg mb:Tj) (fa:Addr) (o:Obj) (pm cd doc:Value) (a:Addr) (vs:List Value) (ns:List Int),
   Ground q loose [] XP w s₀ mg mb s₁.heap->YP w s₁.heap->
   s₁.heap.get? fa=some o->o.data=.func (docDef d.name d.params d.body d.scope pm cd doc)->s₁.heap.CodeRec cd d.name->mg d.name=some (.ref fa)->
   s₁.heap.get? a=some { cls:=.type "list",data:=.seq vs.toArray }->IntsAre vs ns->ns.length<=n->s₁.gens=#[]->
   codeAny (model l.prog w) callerA (.call (.ref fa) ⟨[.ref a],[]⟩) (fun r s'=>r=.ok (.ret (.bool true))/\OldK s₁.heap s'.heap/\s'.os=s₁.os/\AllBare s'.gens) s₁):
  WalkO q loose XP YP l.row.toRowW d [] (fun f vs=>PySem.call f vs):=by
 intro w s₀ s₁ mg mb G Y fa o pm cd doc dV kV ho hd hcd hD hmg hg args vals as hpre hlay hrd hwl hlo;obtain rfl:dV=.none:=Dflts.none hD hdf;obtain rfl:kV=.none:=Dflts.noKw hD;obtain⟨a,vs,ns,rfl,rfl,hobj,hints,hlen⟩:=script_of hn hpre hwl;refine enter_call (codeAny_mono (call w s₀ s₁ mg mb fa o pm cd doc a vs ns G Y ho (fd_plain hd) hcd hmg hobj hints hlen hg) fun r s' hq=>?_);obtain⟨rfl,h2,h3,h4⟩:=hq;exact⟨.inl ⟨.bool true,.bool true,[],rfl,fun _=>rfl,.bool true,post_true l _,fun _=>⟨List.Pairwise.nil,fun _ hm=>(nomatch hm)⟩⟩,h2,h3,h4⟩
end Att
namespace L2
theorem Kh:∀{vs:List Value} {ns:List Int},IntsAre vs ns->jp (ns.map V.int) vs
 | _,_,.nil=>.nil
 | _,_,.cons n t h=>.cons ⟨t,rfl⟩ (Kh h)
def XY(H:Hp):Prop:=∀b,H b=none \/∃o xs,H b=some (.frz o (.lst xs))
theorem XZ{K:uXa}{s₁:Shared}{vs:List Value}{ns:List Int}
  (KX:K.In s₁.heap) (hns:s₁.heap.Ns mainGlobals mg) (hb:s₁.heap.Ns builtinsNs mb) (hbb:∀x:Str,x≠ "__name__" ->mb x=bootBuiltins x) (hlim:s₁.heap.NoLimit) (hg:s₁.gens=#[])
  (ha:s₁.heap.get? a=some { cls:=.type "list",data:=.seq vs.toArray }) (hi:IntsAre vs ns) (hl:ns.length<=sizeLine) (hr:Room k callerA)
  (F:∀base:Heap,K.In base->base.Ns mainGlobals mg->FnOk P w K mg base CX k fa fd [x] sp) (hbind:∀(s:Shared) (u:Value),BindsTo s fd ⟨[u],[]⟩ [(x,u)])
  (hsp:∀H:Hp,XY H->jC K H a (ns.map V.int)->sp [.ref a] H (fun v _=>v=.bl true) fun _ _ _=>False)
  (hCX:∀H e s',CX [] H s₁ (fun _ _ _=>False) e s'->False):
  codeAny (model P w) callerA (.call (.ref fa) ⟨[.ref a],[]⟩) (fun r s'=>r=.ok (.ret (.bool true))/\OldK s₁.heap s'.heap/\s'.os=s₁.os/\AllBare s'.gens) s₁:=by
 have rv:=Kh hi;have lenV:=hi.length;have core:∀H:Hp,XY H->jC K H a (ns.map V.int)->yh P w H s₁.heap->(∀b,H b≠none->b=a)->(H a≠none->K.lookup a=none)->
   codeAny (model P w) callerA (.call (.ref fa) ⟨[.ref a],[]⟩) (fun r s'=>r=.ok (.ret (.bool true))/\OldK s₁.heap s'.heap/\s'.os=s₁.os/\AllBare s'.gens) s₁:=by
  intro H hO hS hok hA hK;have base_of:∀{b:Addr} {o:Obj},s₁.heap.get? b=some o->H b=none->(VP s₁.heap H).get? b=some o:=fun e n=>Xz e n;have noA:∀{b:Addr} {o:Obj} {es:Array DictEntry} {ep:Nat},s₁.heap.get? b=some o->o.data=.dict es ep->H b=none:=fun {b o es ep} e d=>by
   cases q:H b with
   | none=>rfl
   | some u=>
    have e':b=a:=hA b (by rw[q];simp);subst e';rw[ha]at e;cases e;have d':Data.seq vs.toArray _=Data.dict es ep:=d;cases d'
  have nsK:∀{b:Addr} {m:Tj},s₁.heap.Ns b m->(VP s₁.heap H).Ns b m:=fun {b m} ⟨o,es,ep,e,d,r⟩=>⟨o,es,ep,base_of e (noA e d),d,r⟩
  have hKb:K.In (VP s₁.heap H):=fun b o e=>base_of (KX b o e) (by
   cases q:H b with
   | none=>rfl
   | some u=>
    have e':b=a:=hA b (by rw[q];simp);subst e';rw[hK (by rw[q];simp)]at e;cases e)
  have hM:Mod K mg (VP s₁.heap H):=⟨hKb,nsK hns,⟨mb,nsK hb,hbb⟩,let ⟨mc,h1,h2⟩:=hlim;⟨mc,nsK h1,h2⟩⟩
  have e0:Env0 P w K mg (VP s₁.heap H) callerA [] s₁ H:=⟨rfl,hM,fun b o e=>B4 e,Nat.le_of_eq (QF _ _),trivial,fun b hb=>vDa (show b∈([]:List Addr) from hb) (by simp),hok,.of_eq hg⟩
  refine codeAny_mono ((F _ hKb (nsK hns)).run callerA [] s₁ H ⟨[.ref a],[]⟩ [.ref a] [.ref a] _ _ hr e0 (hbind s₁ (.ref a)) (.cons rfl .nil) (hsp H hO hS)) fun r s' h=>?_;cases r with
  | error e=>exact(hCX H e s' h).elim
  | ok fl=>
   cases fl with
   | next=>exact False.elim h
   | brk=>exact False.elim h
   | cont=>exact False.elim h
   | ret u=>
    obtain⟨v,H',os,bare,un,hok',r',q⟩:=h;have q':v=.bl true:=q;subst q';obtain rfl:u=Value.bool true:=r';refine⟨rfl,OldK.of_keep fun b o e=>?_,os,bare⟩;cases q:H b with
    | none=>exact un.keep b o e q (by intro z;exact vDa (show b∈([]:List Addr) from z) (by simp)) (by simp)
    | some u=>
     rcases hO b with z | ⟨ob,xs,z⟩
     ·rw[q]at z;cases z
     ·have z2:=un.frzs b ob _ z;obtain⟨e1,_⟩:=hok b _ z;obtain⟨e2,_⟩:=hok' b _ z2;rw[e]at e1;cases e1;exact e2
 cases hk:K.lookup a with
 | some o=>
  have e:=KX a o hk;rw[ha]at e;cases e;refine core (fun _=>none) (fun _=>.inl rfl) (.inr ⟨_,vs.toArray,_,hk,rfl,rfl,rfl,by rw[uLa,lenV];exact hl,by simpa using rv⟩) (fun b u z=>by have z':(none:Option HO)=some u:=z;cases z') (fun b z=>vDa rfl z) fun z=>vDa rfl z
 | none=>
  refine core (fun b=>if b=a then some (.frz { cls:=.type "list",data:=.seq vs.toArray } (.lst (ns.map V.int)))else none) (fun b=>?_) (.inl (.inr ⟨{ cls:=.type "list",data:=.seq vs.toArray },if_pos rfl⟩)) (fun b u z=>?_) (fun b z=>?_) fun _=>hk
  ·by_cases hb:b=a
   ·exact .inr ⟨_,_,if_pos hb⟩
   ·exact .inl (if_neg hb)
  ·by_cases hb:b=a
   ·have z':=(if_pos hb).symm.trans z;cases z';subst hb;exact⟨ha,by rw[vYa];exact hl,vs,_,rv,ha⟩
   ·have z':=(if_neg hb).symm.trans z;cases z'
  ·by_cases hb:b=a
   ·exact hb
   ·exact vDa (if_neg hb) z
noncomputable abbrev L9{K:uXa}(_:K.In h):uXa:=K
def Bp{l:PySem.W.OpenLaw}{n k:Nat}{q:Program}{loose:List Str}{XP:(Str->Option Value)->Heap->Prop}{YP:World->Heap->Prop}{d:DefRec}{K:Params->uXa}{CX:World->uz}{sp:World->Sp}{x:Str}
  (hn:l.most=some n) (hn2:n<=sizeLine) (hdf:d.params.defaults=[]) (hr:Room k callerA)
  (hY:∀(w:World) (h:Heap),YP w h->(K w.params).In h)
  (F:∀(w:World) (mg:Tj) (fa:Addr) (h:Heap),(K w.params).In h->h.Ns mainGlobals mg->mg d.name=some (.ref fa)->
   ∃fd:FuncData,(∀(s:Shared) (u:Value),BindsTo s fd ⟨[u],[]⟩ [(x,u)])/\
    ∀base:Heap,(K w.params).In base->base.Ns mainGlobals mg->FnOk l.prog w (K w.params) mg base (CX w) k fa fd [x] (sp w))
  (hsp:∀(w:World) (H:Hp) (a:Addr) (ns:List Int),ns.length<=n->XY H->jC (K w.params) H a (ns.map V.int)->sp w [.ref a] H (fun v _=>v=.bl true) fun _ _ _=>False)
  (hCX:∀(w:World) (H:Hp) (s:Shared) (e:Value) (s':Shared),CX w [] H s (fun _ _ _=>False) e s'->False):
  PySem.W.WalkO q loose XP YP l.row.toRowW d [] (fun f vs=>PySem.call f vs):=by
 refine Att.attach_call hn hdf fun w s₀ s₁ mg mb fa o pm cd doc a vs ns G Y ho hd hcd hmg hobj hints hlen hg=>?_;have KX:=hY w _ Y;obtain⟨fd,hb,hF⟩:=F w mg fa _ KX G.T.g hmg;exact XZ KX G.T.g G.T.b G.T.builtins G.T.nolimit hg hobj hints (wSa hlen hn2) hr hF hb (fun H hO hS=>hsp w H a ns hlen hO hS) fun H e s'=>hCX w H s₁ e s'
noncomputable def inClass(s:Stmt)(j:Nat):Stmt:=match s with
 | .ClassDef _ _ _ body _ _ _ _ _ _ _=>body.getD j (.Pass ⟨0,0,0,0⟩)
 | _=>.Pass ⟨0,0,0,0⟩
noncomputable def defArgs(s:Stmt):Arguments:=match s with
 | .FunctionDef _ a _ _ _ _ _ _ _ _=>a
 | _=>{ posonlyargs:=[],args:=[],vararg:=none,kwonlyargs:=[],kw_defaults:=[],kwarg:=none,defaults:=[] }
noncomputable def defBody(s:Stmt):List Stmt:=match s with
 | .FunctionDef _ _ b _ _ _ _ _ _ _=>b
 | _=>[]
noncomputable def defScope(s:Stmt):Scope:=match s with
 | .FunctionDef _ _ _ _ _ _ sc _ _ _=>sc
 | _=>{ kind:=.function,names:=[],isGenerator:=false,isCoroutine:=false }
abbrev Y4:uz:=fun _ _ _ _ _ _=>False
abbrev E0:XK:=fun _ _ _=>False
def Q4:za Y4 X E0:=fun _ _ _ _ _ _ _ h=>h.elim
structure Fun (K:uXa) (x qual:Str) (st:Stmt) (f:Addr) (fd:FuncData):Prop where
 ex:∃(oc:Value) (od:Option Addr) (kV doc pm:Value) (an:Option Addr) (cdv ct:Value) (osl:Array (Option Value)),
  fd=PySem.W.fnOf x qual (defArgs st) (defBody st) (defScope st) .none kV doc pm an cdv ct/\K.lookup f=some ⟨oc,od,.func fd,osl⟩/\PySem.W.codeIn K cdv qual=true
 kp:PySem.W.keepIn K (.ref f)=true
section
variable {P:Program} {w:World} {K:uXa} {mg:Tj} {base:Heap}
def Fun.ok{x qual:Str}{st:Stmt}{f:Addr}{fd:FuncData}{N ps:List Str}{k:Nat}{sp:Sp}(F:Fun K x qual st f fd)(S:FnScope N ps (defScope st))(len:∀vs H Q E,sp vs H Q E->vs.length=ps.length)
  (hbody:∀(cdv:Value) (A:Around) (outer:List Env) (s:Shared) (H:Hp) (vs:List V) (Q:VK) (E:XK),Room k (A.deeper (envOfC qual (defScope st) s.heap.objs.size f cdv))->sp vs H Q E->
   ∃t,Ji (Js Y4 P w K mg base N qual (defScope st) f cdv A outer s H E).nox (defBody st) t/\t { nx:=fun _ H'=>Q .non H',rt:=Q } (YE N vs) H):FnOk P w K mg base Y4 (k+1) f fd ps sp:=by
 obtain⟨oc,od,kV,doc,pm,an,cdv,ct,osl,rfl,lk,hcd⟩:=F.ex;refine AR lk hcd S len fun A outer s H vs Q E hr hsp=>?_;obtain⟨t,h,q⟩:=hbody cdv A outer s H vs Q E hr hsp;exact⟨t,h.nox,q⟩
def Fun.binds{x qual:Str}{st:Stmt}{f:Addr}{fd:FuncData}{ps:List Str}(F:Fun K x qual st f fd)
  (h:∀(kV doc pm:Value) (an:Option Addr) (cdv ct:Value) (us:List Value),us.length=ps.length->bindArgs (PySem.W.fnOf x qual (defArgs st) (defBody st) (defScope st) .none kV doc pm an cdv ct) ⟨us,[]⟩=pure (ps.zip us)):JX K fd ps []:=by
 obtain⟨oc,od,kV,doc,pm,an,cdv,ct,osl,rfl,lk,hcd⟩:=F.ex;exact .all (h kV doc pm an cdv ct)
def QW{x qual:Str}{st:Stmt}{f:Addr}{oc:Value}{od an:Option Addr}{osl:Array (Option Value)}{kV doc pm cdv ct:Value}(l:K.lookup f=some ⟨oc,od,.func (PySem.W.fnOf x qual (defArgs st) (defBody st) (defScope st) .none kV doc pm an cdv ct),osl⟩)
  (c:PySem.W.codeIn K cdv qual=true) (k:PySem.W.keepIn K (.ref f)=true):Fun K x qual st f (PySem.W.fnOf x qual (defArgs st) (defBody st) (defScope st) .none kV doc pm an cdv ct):=⟨⟨oc,od,kV,doc,pm,an,cdv,ct,osl,rfl,l,c⟩,k⟩
end
def QX(h:n<=1000):n < sizeLine:=Nat.lt_of_le_of_lt h (by decide)
def pv(i:Nat)(hN:X.N[i]?=some x:=by rfl)(hv:Gx X.env.scope x:=by first | exact Or.inl rfl | exact Or.inr (Or.inl rfl) | exact Or.inr (Or.inr rfl))(hd:(x==("__debug__" : Str))=false:=by decide)
  (hcd:(x==("__classdict__" : Str))=false:=by decide):PE X (.Name x pos) (Zp i):=uR hN hv hd hcd
def Zq{A B:Prop}(h:B):if false=true then A else B:=by
 rw[if_neg Bool.false_ne_true];exact h
def Zr{A B:Prop}(h:A):if true=true then A else B:=by
 rw[if_pos rfl];exact h
def j5(H H':Hp):Prop:=∀b o,H b=some o->H' b=some o
def j5.refl(H:Hp):j5 H H:=fun _ _ h=>h
def j5.trans(a:j5 H H1)(b:j5 H1 H2):j5 H H2:=fun c o h=>b c o (a c o h)
def j5.free(e:j5 H H')(h:H' l=Option.none):H l=Option.none:=by
 cases q:H l with
 | none=>rfl
 | some o=>
  rw[e l o q]at h;cases h
def j5.seq{K:uXa}{H H':Hp}{a:Addr}{xs:List V}(e:j5 H H')(h:jC K H a xs):jC K H' a xs:=by
 rcases h with(h | ⟨o,h⟩) | h
 ·exact .inl (.inl (e _ _ h))
 ·exact .inl (.inr ⟨o,e _ _ h⟩)
 ·exact .inr h
end L2
namespace L2
noncomputable def Yt(env:Env):List (Str×NameKind)->List (Str×Addr)->List (Str×Addr)
 | [],cs=>cs
 | (n,k)::r,cs=>Yt env r (if k==.free then(match env.cells.lookup n with | some a=>(n,a)::cs | none=>cs)else cs)
theorem kE:∀{ns:List (Str×NameKind)} {cs:List (Str×Addr)},(∀x c,cs.lookup x=some c->env.cells.lookup x=some c)->∀x c,(Yt env ns cs).lookup x=some c->env.cells.lookup x=some c
 | [],_,h,x,c,e=>h x c e
 | (n,k)::r,cs,h,x,c,e=>by
  refine kE (ns:=r) ?_ x c e;intro y d q;by_cases hk:(k==NameKind.free)=true
  ·rw[if_pos hk]at q;cases hl:env.cells.lookup n with
   | none=>rw[hl]at q;exact h y d q
   | some a=>
    rw[hl]at q;have q:((n,a)::cs).lookup y=some d:=q;rw[List.lookup_cons]at q;cases hy:(y==n)with
    | true=>
     rw[hy]at q;have e1:y=n:=by simpa using hy
     have e2:a=d:=by simpa using q
     rw[e1,hl,e2]
    | false=>rw[hy]at q;exact h y d q
  ·rw[if_neg hk]at q;exact h y d q
theorem Ki:∀{ns:List (Str×NameKind)} {cs:List (Str×Addr)} {x:Str},(∃c,cs.lookup x=some c)->∃c,(Yt env ns cs).lookup x=some c
 | [],_,_,h=>h
 | (n,k)::r,cs,x,h=>by
  refine Ki (ns:=r) ?_;by_cases hk:(k==NameKind.free)=true
  ·rw[if_pos hk];cases hl:env.cells.lookup n with
   | none=>exact h
   | some a=>
    show∃c,((n,a)::cs).lookup x=some c;rw[List.lookup_cons];cases hy:(x==n)with
    | true=>exact⟨a,rfl⟩
    | false=>exact h
  ·rw[if_neg hk];exact h
theorem gK:∀{ns:List (Str×NameKind)} {cs:List (Str×Addr)} {x:Str},(x,NameKind.free)∈ns->(∃c,env.cells.lookup x=some c)->∃c,(Yt env ns cs).lookup x=some c
 | (n,k)::r,cs,x,hm,hc=>by
  rcases uTa hm with e | hm
  ·cases e;obtain⟨c,hc⟩:=hc;refine Ki (ns:=r) ?_;rw[if_pos (by rfl)];rw[hc];exact⟨c,by rw[List.lookup_cons];simp⟩
  ·exact gK (ns:=r) hm hc
def WS(h:∀y∈scope.names,y.2=.free->∃c,env.cells.lookup y.1=some c):closureFor scope env=pure (Yt env scope.names []):=by
 unfold closureFor;have go:∀(ns:List (Str×NameKind)) (cs:List (Str×Addr)),(∀y∈ns,y.2=.free->∃c,env.cells.lookup y.1=some c)->
   (forIn ns cs fun(x:Str×NameKind) (r:List (Str×Addr))=>(match x with
    | (name,kind)=>if (kind==NameKind.free)=true then(do let a<-cellOf env name;pure (ForInStep.yield ((name,a)::r)))else pure (ForInStep.yield r):Sem (ForInStep (List (Str×Addr)))))=pure (Yt env ns cs):=by
  intro ns;induction ns with
  | nil=>intro cs _;rfl
  | cons p r ih=>
   obtain⟨n,k⟩:=p;intro cs hh;rw[List.forIn_cons];by_cases hk:(k==NameKind.free)=true
   ·obtain⟨c,hc⟩:=hh (n,k) wNa (by simpa using hk);have hc:env.cells.lookup n=some c:=hc;have e1:cellOf env n=pure c:=by unfold cellOf;rw[hc]
    have e2:Yt env ((n,k)::r) cs=Yt env r ((n,c)::cs):=by
     show Yt env r (if (k==NameKind.free)=true then _ else _)=_;rw[if_pos hk,hc]
    dsimp only;rw[if_pos hk,e1,e2,<-ih ((n,c)::cs) fun y hy=>hh y (List.mem_cons_of_mem _ hy)];rfl
   ·have e2:Yt env ((n,k)::r) cs=Yt env r cs:=by
     show Yt env r (if (k==NameKind.free)=true then _ else _)=_;rw[if_neg hk]
    dsimp only;rw[if_neg hk,e2,<-ih cs fun y hy=>hh y (List.mem_cons_of_mem _ hy)];rfl
 exact(congrArg (fun m=>m >>= fun r=>(pure r:Sem (List (Str×Addr)))) (go scope.names [] h)).trans rfl
def Cx.comp(X:Cx)(N':List Str)(scope:Scope)(s3:Shared)(H3:Hp)(ex':List Addr):Cx:=
 { X with N:=N',s₀:=s3,H₀:=H3,env:=compEnvC scope (Yt X.env scope.names []) s3.heap.objs.size X.env,outer:=X.stack,stack:=X.stack,ex:=ex',fn:=fun _=>false,pn:=[],xe:=fun _ _=>False }
inductive Caps (X:Cx) (scope:Scope):List (Str×Nat)->Prop
 | nil:Caps X scope []
 | cons {y:Str} {j:Nat} {r:Tv}:X.N[j]?=some y->(X.env.kindOf y=some .cell \/ X.env.kindOf y=some .free)->scope.names.lookup y=some .free->Caps X scope r->Caps X scope ((y,j)::r)
theorem Caps.get:∀{caps:Tv} {k:Nat} {y:Str} {j:Nat},Caps X scope caps->caps[k]?=some (y,j)->
  X.N[j]?=some y/\(X.env.kindOf y=some .cell \/ X.env.kindOf y=some .free)/\scope.names.lookup y=some .free
 | _,_,_,_,.nil,e=>by simp at e
 | _,0,_,_,.cons a b c _,e=>by simp at e;obtain⟨rfl,rfl⟩:=e;exact⟨a,b,c⟩
 | _,k+1,_,_,.cons _ _ _ t,e=>Caps.get (k:=k) t (by simpa using e)
noncomputable abbrev cN(own:List Str)(caps:Tv):List Str:=own++caps.map (·.1)
noncomputable abbrev vX(own:List Str)(caps:Tv)(U:St):St:=own.map (fun _=>none)++caps.map fun p=>(U[p.2]?).join
def Zs(X:Cx)(ifs:List Expr)(t:TT):Prop:=
 ∀(pins:Tq) (s:Shared) (U:St) (H:Hp) (Q:Bool->Hp->Prop),Inv X pins U H s->t U H Q->
  wpAny (model X.prog X.w) X.A (forIn ifs true fun c r=>if r=true then do let ok<-isTrue c X.env (eval c X.env);pure (ForInStep.yield ok)else pure (ForInStep.yield r)) (TP X pins U Q) X.xe s
def fz:TT:=fun _ H Q=>Q true H
def Bq:Zs X [] fz:=fun _ _ _ H _ I h=>wpAny_tests_nil ⟨H,I,h⟩
def Br(h:PT X c t):Zs X [c] t:=fun pins s U H Q I q=>wpAny_tests_one (h pins s U H Q I q)
def u_(h:(relabel scope env).names.lookup x=some k):∃k0,scope.names.lookup x=some k0/\(k=k0 \/ (k0=.free/\k=.cell)):=by
 have go:∀ns:List (Str×NameKind),(ns.map fun(n,k)=>if (k==NameKind.free&&env.scope.kind==.function&&env.kindOf n==some .cell)then(n,NameKind.cell)else(n,k)).lookup x=some k->
   ∃k0,ns.lookup x=some k0/\(k=k0 \/ (k0=.free/\k=.cell)):=by
  intro ns;induction ns with
  | nil=>intro q;simp at q
  | cons p r ih=>
   obtain⟨n,k1⟩:=p;intro q;have q:List.lookup x ((if (k1==NameKind.free&&env.scope.kind==.function&&env.kindOf n==some .cell)=true then(n,NameKind.cell)else(n,k1))::(r.map fun(n,k)=>if (k==NameKind.free&&env.scope.kind==.function&&env.kindOf n==some .cell)then(n,NameKind.cell)else(n,k)))=some k:=q;by_cases hc:(k1==NameKind.free&&env.scope.kind==.function&&env.kindOf n==some .cell)=true
   ·rw[if_pos hc,List.lookup_cons]at q;rw[List.lookup_cons];cases hx:(x==n)with
    | true=>
     rw[hx]at q;have e:NameKind.cell=k:=by simpa using q
     refine⟨k1,rfl,.inr ⟨?_,e.symm⟩⟩;simp only[Bool.and_eq_true]at hc;simpa using hc.1.1
    | false=>rw[hx]at q;exact ih q
   ·rw[if_neg hc,List.lookup_cons]at q;rw[List.lookup_cons];cases hx:(x==n)with
    | true=>
     rw[hx]at q;have e:k1=k:=by simpa using q
     exact⟨k1,rfl,.inl e.symm⟩
    | false=>rw[hx]at q;exact ih q
 exact go scope.names h
def wc(k:Nat)(J:It)(U0:St)(g:TG)(tc:TT)(te:TE)(Qv:VK)(W:Nat->Nat->List V->Hp->Prop):Prop:=∀i m vs H,W i m vs H->
  (J.stop i H/\vs.length<=sizeLine/\∀D,H D=none->Qv (.ref D) (upd H D (.lst vs))) \/
  (J.go i H/\vs.length < sizeLine/\∃N:List V->Hp->Prop,(∀vs' H',N vs' H'->∃m',m' < m/\W (i+1) m' vs' H')/\
   ∀x H',J.yld i H x H'->g x U0 H' fun U2 H2=>U2.drop k=U0.drop k/\tc U2 H2 fun b H3=>if b=true then te U2 H3 fun y H4=>N (vs++[y]) H4 else N vs H3)
def Bs(hcell:∀y∈scope.names,y.2≠.cell)(hkind:scope.kind=.function)
  (hfr:∀y∈scope.names,y.2=.free->X.env.kindOf y.1=some .cell \/ X.env.kindOf y.1=some .free)
  (I:Inv X pins U H s2) (hf:∀b∈ex',b < s2.heap.objs.size/\JH X pins H b):(X.comp (cN own caps) scope s2 H ex').Ok:=by
 have cin:∀x c,(Yt X.env scope.names []).lookup x=some c->X.env.cells.lookup x=some c:=kE fun _ _ e=>by simp at e
 refine⟨I.ok.mod,hkind,I.ok.glob,I.ok.blt,wPa _,fun x y c h1 h2=>I.ok.inj x y c (cin x c h1) (cin y c h2),fun x hx=>?_,fun _ _ z=>(by cases z),I.ok.hd,I.ok.frames,.inl rfl,fun b hb=>⟨wTa (hf b hb).1,fun x c h=>(hf b hb).2.2.2.2.2.1 x c (cin x c h)⟩,
  I.bs,wSa I.ok.bsz I.sz,fun b o e hb=>?_,fun b hb hs=>?_,I.stack,I.stkFree⟩
 ·have q:∃k,(relabel scope X.env).names.lookup x=some k/\(k=.cell \/ k=.free):=by
   rcases hx with hx | hx
   ·exact⟨_,hx,.inl rfl⟩
   ·exact⟨_,hx,.inr rfl⟩
  obtain⟨k,q,hk⟩:=q;obtain⟨k0,q0,hk0⟩:=u_ q;have m0:=PySem.mem_of_lookup q0;have e0:k0=.free:=by
   rcases hk0 with e | e
   ·rcases hk with z | z
    ·exact vDa (e.symm.trans z) (hcell _ m0)
    ·exact e.symm.trans z
   ·exact e.1
  subst e0;exact gK m0 (I.ok.has x (hfr _ m0 rfl))
 ·rcases(hf b hb).2.2.2.2.1 with z | z
  ·exact I.ok.noex b o e z
  ·exact vDa (Nat.lt_of_lt_of_le (wLa e) (wSa I.ok.bsz z)) (wUa _)
 ·rcases uTa (I.stkSub b hs)with z | z
  ·exact(hf b hb).2.2.1 z
  ·exact(hf b hb).2.2.2.1 z
def Q5(hcell:∀y∈scope.names,y.2≠.cell)(hkind:scope.kind=.function)
  (hfr:∀y∈scope.names,y.2=.free->X.env.kindOf y.1=some .cell \/ X.env.kindOf y.1=some .free) (hcap:Caps X scope caps)
  (I:Inv X pins U H s2) (hf:∀b∈ex',b < s2.heap.objs.size/\JH X pins H b) {t:Nat} (hn:h1.Ns s2.heap.objs.size m) (hk:∀b o,s2.heap.get? b=some o->h1.get? b=some o):
  Inv (X.comp (cN own caps) scope s2 H ex') [] (vX own caps U) H { s2 with heap:=h1,toks:=t }:=by
 have cin:∀x c,(Yt X.env scope.names []).lookup x=some c->X.env.cells.lookup x=some c:=kE fun _ _ e=>by simp at e
 have ok:=Bs (own:=own) (caps:=caps) hcell hkind hfr I hf;refine⟨ok,rfl,I.bare,Un.kept hk,⟨m,hn,fun i x v e1 e2 e3=>?_⟩,fun x c e=>?_,I.hok.fresh (wPa _),fun x c e=>I.freeC x c (cin x c e),fun p hp=>vDa (show p∈([]:Tq) from hp) (by simp),I.hok.kept hk,by simp[Cx.comp,cN,vX]⟩
 ·by_cases hi:i < own.length
  ·have e2:(own.map (fun _=>(none:Option V))++caps.map fun p=>(U[p.2]?).join)[i]?=some (some v):=e2;rw[uRa (by simpa using hi),uAa]at e2;cases q:own[i]? with
   | none=>rw[q]at e2;cases e2
   | some _=>rw[q]at e2;cases e2
  ·have e2:(own.map (fun _=>(none:Option V))++caps.map fun p=>(U[p.2]?).join)[i]?=some (some v):=e2;have e1:(own++caps.map (·.1))[i]?=some x:=e1;rw[List.getElem?_append_right (by simpa using hi),uAa]at e2;rw[List.getElem?_append_right (by simpa using hi),uAa]at e1;rw[vYa]at e2;cases q:caps[i - own.length]? with
   | none=>rw[q]at e1;cases e1
   | some p=>
    obtain⟨y,j⟩:=p;rw[q]at e1 e2;have e1:y=x:=vFa e1;subst e1;have e2:(U[j]?).join=some v:=vFa e2;obtain⟨a1,a2,a3⟩:=hcap.get q;have sj:U[j]?=some (some v):=by
     cases z:U[j]? with
     | none=>rw[z]at e2;cases e2
     | some z'=>rw[z]at e2;exact congrArg some e2
    obtain⟨m0,hn0,hl0⟩:=I.loc;have vis:Gx X.env.scope y:=by
     rcases a2 with z | z
     ·exact .inr (.inl z)
     ·exact .inr (.inr z)
    obtain⟨u,r,l⟩:=hl0 j y v a1 sj vis;refine⟨u,r,.inr ⟨?_,?_⟩⟩
    ·rcases e3 with z | z
     ·obtain⟨k0,q0,hk0⟩:=u_ z;rw[a3]at q0;cases q0;rcases hk0 with z' | z'
      ·cases z'
      ·cases z'.2
     ·exact z
    ·rcases l with⟨hk',_⟩ | ⟨_,c,hc,z⟩
     ·rcases a2 with z | z <;> rw[hk']at z <;> cases z
     ·obtain⟨c',hc'⟩:=gK (cs:=[]) (PySem.mem_of_lookup a3) ⟨c,hc⟩;have:=cin y c' hc';rw[hc]at this;cases this;obtain⟨o,ho,hd⟩:=z;exact⟨c,hc',o,hk c o ho,hd⟩
 ·obtain⟨v,o,ho,hd⟩:=I.cell x c (cin x c e);exact⟨v,o,hk c o ho,hd⟩
def yh.adopt(x:yh P w H h)(hn:H D=none)(hl:vs.length<=sizeLine)(r:jp vs ys)(e:h.get? D=some { cls:=.type "list",data:=.seq ys.toArray k }):yh P w (upd H D (.lst vs)) h:=fun b u q=>by
 by_cases hb:b=D
 ·subst hb;rw[jw]at q;cases q;exact⟨hl,ys,k,r,e⟩
 ·rw[jh hb]at q;exact(x b u q).stay (fun _ _ _ z=>z) (fun c z=>by rw[jh (jy z hn)];exact z) fun c xs z=>by rw[jh (jy z hn)];exact z
def QY(I:Inv X pins U H s2)(hD:D < s2.heap.objs.size)(fD:JH X pins H D)(hf:∀b∈fp,JH X pins H b)
  (J':Inv (X.comp N' scope s2 H (D::fp)) [] U' H' s') (hn:H' D=none) (hl:vs.length<=sizeLine) (r:jp vs ys) (e:s'.heap.get? D=some { cls:=.type "list",data:=.seq ys.toArray k }):
  Inv X pins U (upd H' D (.lst vs)) s':=by
 have u:Un (Jh X.stack) (D::fp) H H' s2.heap s'.heap:=J'.base;have nD:∀b,b∉D::fp->b≠D:=fun b hb z=>hb (by rw[z];exact wNa);refine I.call' (ch:=D::fp) J'.os ⟨u.keep,u.slot,fun b o q n hx=>?_,u.there,fun b xs q=>?_,fun b o v q=>?_,fun b ps q=>?_⟩ (J'.hok.adopt hn hl r e) J'.bare fun b hb=>?_
 ·rw[jh (nD b hx)];exact u.free b o q n hx
 ·rw[jh (jy q fD.1)];exact u.tups b xs q
 ·rw[jh (jy q fD.1)];exact u.frzs b o v q
 ·rw[jh (jy q fD.1)];exact u.tbls b ps q
 ·have F:JH X pins H b:=by
   rcases uTa hb with z | z
   ·rw[z];exact fD
   ·exact hf b z
  exact⟨F.2.2.2.1,F.2.1,F.2.2.2.2.1,F.2.2.2.2.2⟩
def Bt{C:Addr}(hc:X.calm=true)
  (hg:∀s3 H3 ex',PG (X.comp (cN own caps) scope s3 H3 ex') tg g) (ht:∀s3 H3 ex',Zs (X.comp (cN own caps) scope s3 H3 ex') ifs tc) (he:∀s3 H3 ex',PE (X.comp (cN own caps) scope s3 H3 ex') elt te)
  (I:Inv X pins U H s2) (hD:D < s2.heap.objs.size) (fD:JH X pins H D) (nDf:D∉fp) (hfl:∀b∈fp,b < s2.heap.objs.size) (hf:∀b∈fp,JH X pins H b) (T:Turn X.prog X.w X.K tg J fp it tn) (turn:wc own.length J (vX own caps U) g tc te Qv W)
  (R:Result->Shared->Prop) (hR:∀s',(∃H' m,Inv X pins U H' s'/\s'.heap.Ns s2.heap.objs.size m/\JH X pins H' s2.heap.objs.size/\Qv (.ref D) H')->R (.ok .next) s')
  (n:Nat) (s4:Shared) (st:∃i vs H' ys k,Inv (X.comp (cN own caps) scope s2 H (D::fp)) [] (vX own caps U) H' s4/\tn i s4.heap/\(∀b∈fp,H' b=none)/\H' D=none/\
   s4.heap.get? D=some { cls:=.type "list",data:=.seq (ys:List Value).toArray k }/\jp vs ys/\W i n vs H'):
  codeAny (model X.prog X.w) X.A (.compLoop (.ListComp elt [⟨tg,iter,ifs,0⟩] scope pos) 0 (.ref it) (.ref D) (X.comp (cN own caps) scope s2 H (D::fp)).env) R s4:=by
 let Y:=X.comp (cN own caps) scope s2 H (D::fp)
 have stat:∀{H':Hp},H' D=none->(∀b∈fp,H' b=none)->∀s':Shared,∀U',Inv Y [] U' H' s'->∀b∈D::fp,JH Y [] H' b:=fun {H'} h0 h1 s' U' I' b hb=>by
  have hb':b < s2.heap.objs.size:=by
   rcases uTa hb with z | z
   ·rw[z];exact hD
   ·exact hfl b z
  refine⟨?_,wTa hb',I'.ok.exfs b hb,.inl hb,(I'.ok.exf b hb).2,fun p hp=>vDa (show p∈([]:Tq) from hp) (by simp)⟩;rcases uTa hb with z | z
  ·rw[z];exact h0
  ·exact h1 b z
 refine codeAny_loop rfl (fun n s'=>∃i vs H' ys k,Inv Y [] (vX own caps U) H' s'/\tn i s'.heap/\(∀b∈fp,H' b=none)/\H' D=none/\
   s'.heap.get? D=some { cls:=.type "list",data:=.seq (ys:List Value).toArray k }/\jp vs ys/\W i n vs H') ?_ n st
 rintro n s3 ⟨i,vs,H3,ys,k,I3,st3,fr3,n3,g3,r3,w3⟩;show wpAny _ _ ((compTurn (.ListComp elt [⟨tg,iter,ifs,0⟩] scope pos) 0 (.ref it) (.ref D) Y.env).onRaise (fun x=>do noteFrame x Y.env;theTreesLotGoes x)) _ _ s3;refine wpAny_noted ?_;rw[compTurn_list];have F0:=stat n3 fr3 s3 _ I3;have pinD:∀{U':St} {H':Hp} {s':Shared} {ps:Tq} {zs:List Value} {kk:Nat},Inv Y ps U' H' s'->H' D=none->s'.heap.get? D=some { cls:=.type "list",data:=.seq zs.toArray kk }->Inv Y (ps++[(D,{ cls:=.type "list",data:=.seq zs.toArray kk })]) U' H' s':=fun {U' H' s' ps zs kk} I' hn hg'=>
  I'.pins_of fun p hp=>(List.mem_append.mp hp).elim (fun z=>I'.pin p (vJa _ z)) fun z=>by
   have e:p=(D,{ cls:=.type "list",data:=.seq zs.toArray kk }):=by simpa using z
   subst e;have f:=(stat n3 fr3 s3 _ I3) D wNa;exact⟨hg',hn,f.2.1,f.2.2.1,fun v z=>by cases z⟩
 have I3p:=pinD I3 n3 g3;have F3:∀b∈fp,JH Y ([]++[(D,{ cls:=.type "list",data:=.seq ys.toArray k })]) H3 b:=fun b hb=>by
  obtain⟨f0,f1,f2,f3,f4,f5⟩:=F0 b (wMa _ hb);refine⟨f0,f1,f2,f3,f4,fun p hp z=>?_⟩;have e:p=(D,{ cls:=.type "list",data:=.seq ys.toArray k }):=by simpa[Y,Cx.comp]using hp
  subst e;exact nDf (by rw[show D=b from z];exact hb)
 rcases turn i n vs H3 w3 with⟨stop,hl,q⟩ | ⟨go,hl,N,hN,step⟩
 ·refine wAa (vOa (wAa (wCa (T.done Y rfl rfl rfl hc i _ s3 _ H3 (fun _ _=>False) I3p F3 st3 stop) (fun r s5 h5=>?_) fun _ _ z=>z.elim)));obtain⟨hr,I5p⟩:=h5;subst hr;refine wBa (hR s5 ?_);have g5:s5.heap.get? D=some { cls:=.type "list",data:=.seq ys.toArray k }:=(I5p.pin (D,_) (by simp)).1;have I5:Inv Y [] (vX own caps U) H3 s5:=I5p.unpinned (pins:=[]);obtain⟨m5,hm5,_⟩:=id I5.loc;refine⟨_,m5,QY I hD fD hf I5 n3 hl r3 g5,hm5,I.fpOk (wPa _) ?_,q D n3⟩;rw[jh (Nat.ne_of_gt hD)];exact I5.free
 ·refine wAa (vOa (wAa (wCa (T.item Y rfl rfl rfl hc i _ s3 _ H3 (fun _ _=>False) I3p F3 st3 go) (fun r s5 h5=>?_) fun _ _ z=>z.elim)));obtain⟨u,hr,h5⟩:=h5;subst hr;refine wAa (wCa h5 (fun _ s6 h6=>?_) fun _ _ z=>z.elim);obtain⟨x,H6,I6,r6,y6,st6,fr6⟩:=h6;have F6:∀b∈fp,JH Y ([]++[(D,{ cls:=.type "list",data:=.seq ys.toArray k })]) H6 b:=fun b hb=>⟨fr6 b hb,(F3 b hb).2⟩
  have I6':=I6.pinned F6 (T.obj _ _ st6);refine wAa (wCa (hg s2 H (D::fp) _ s6 _ H6 x u _ I6' r6 (step x H6 y6)) (fun _ s7 h7=>?_) fun _ _ z=>z.elim);obtain⟨U7,H7,I7,d7,q7⟩:=h7;refine wAa (wCa (ht s2 H (D::fp) _ s7 U7 H7 _ I7 q7) (fun b s8 h8=>?_) fun _ _ z=>z.elim);obtain⟨H8,I8,q8⟩:=h8;have fin:∀{s9:Shared} {H9:Hp} {vs':List V} {zs:List Value} {kk:Nat},Inv Y [] U7 H9 s9->tn (i+1) s9.heap->(∀b∈fp,H9 b=none)->H9 D=none->s9.heap.get? D=some { cls:=.type "list",data:=.seq zs.toArray kk }->jp vs' zs->N vs' H9->
    ∃m,m < n/\∃i vs H' ys k,Inv Y [] (vX own caps U) H' s9/\tn i s9.heap/\(∀b∈fp,H' b=none)/\H' D=none/\s9.heap.get? D=some { cls:=.type "list",data:=.seq (ys:List Value).toArray k }/\jp vs ys/\W i m vs H':=fun {s9 H9 vs' zs kk} I9 st9 fr9 n9 g9 r9 w9=>by
   obtain⟨m',hm,w'⟩:=hN vs' H9 w9;refine⟨m',hm,i+1,vs',H9,zs,kk,?_,st9,fr9,n9,g9,r9,w'⟩;have l9:U7.length=(vX own caps U).length:=I9.len.trans (by simp[Y,Cx.comp,cN,vX]);refine I9.weak l9.symm fun j v e=>?_;by_cases hj:j < own.length
   ·rw[uRa (by simpa using hj),uAa]at e;cases q:own[j]? with
    | none=>rw[q]at e;cases e
    | some _=>rw[q]at e;cases e
   ·have z:=congrArg (fun l=>l[j - own.length]?) d7;simp only[List.getElem?_drop]at z;have ej:own.length+(j - own.length)=j:=by omega
    rw[ej]at z;exact z.trans e
  have pins8:∀{s9:Shared} {H9:Hp},Inv Y ([]++[(D,{ cls:=.type "list",data:=.seq ys.toArray k })]++uT fp s6.heap) U7 H9 s9->tn (i+1) s9.heap/\(∀b∈fp,H9 b=none)/\H9 D=none/\s9.heap.get? D=some { cls:=.type "list",data:=.seq ys.toArray k }:=fun {s9 H9} I9=>by
   refine⟨T.keep _ _ _ st6 fun b hb o e=>(I9.pin (b,o) (vJa _ (vJa _ (ZS hb e)))).1,fun b hb=>?_,(I9.pin (D,{ cls:=.type "list",data:=.seq ys.toArray k }) (vJa _ (vIa _ (by simp)))).2.1,(I9.pin (D,{ cls:=.type "list",data:=.seq ys.toArray k }) (vJa _ (vIa _ (by simp)))).1⟩;obtain⟨o,e,d⟩:=T.obj _ _ st6 b hb;exact(I9.pin (b,o) (vJa _ (vJa _ (ZS hb e)))).2.1
  cases b with
  | false=>
   obtain⟨a1,a2,a3,a4⟩:=pins8 I8;exact wBa ⟨rfl,fin (I8.unpinned.unpinned) a1 a2 a3 a4 r3 q8⟩
  | true=>
   refine wAa (wAa (wCa (he s2 H (D::fp) _ s8 U7 H8 _ I8 q8) (fun y s9 h9=>?_) fun _ _ z=>z.elim));obtain⟨v9,H9,I9,r9,q9⟩:=h9;obtain⟨a1,a2,a3,a4⟩:=pins8 I9;have hlz:ys.toArray.size<=sizeLine:=by
    have:=r3.length;simp only[List.size_toArray];omega
   refine wAa (wpAny_list_append_plain (hsz:=hlz) ⟨k,a4⟩ fun h' hp sb=>wBa (wBa ⟨rfl,?_⟩));obtain⟨k',g'⟩:=hp;have I9':Inv Y [] U7 H9 s9:=I9.unpinned.unpinned;have F9:=stat a3 a2 s9 _ I9' D wNa;obtain⟨f0,f1,f2,f3,f4,f5⟩:=F9;have I10:Inv Y [] U7 H9 { s9 with heap:=h' }:=I9'.turned (t':=s9.toks) (fun b o hb e=>(sb.2 b hb).trans e) f0 f1 f3 f4 f5;refine fin (zs:=ys++[y]) (kk:=k') I10 (T.keep _ _ _ a1 fun b hb o e=>(sb.2 b fun z=>nDf (by rw[<-z];exact hb)).trans e) a2 a3 ?_ (r3.append (.cons r9 .nil)) q9;rw[g'];simp
structure CScope (X:Cx) (scope:Scope):Prop where
 kind:scope.kind=.function
 loc:(scope.names.all fun y=>y.2 != .local||scope.names.lookup y.1==some .local)=true
 nocell:(scope.names.all fun y=>y.2 != .cell)=true
 free:(scope.names.all fun y=>y.2 != .free||X.env.scope.names.lookup y.1==some .cell||X.env.scope.names.lookup y.1==some .free)=true
section
variable {X:Cx} {elt tg iter:Expr} {ifs:List Expr} {scope:Scope} {pos:Pos} {own:List Str} {caps:Tv} {g:TG} {tc:TT} {te:TE} {pins:Tq} {U:St} {H:Hp} {s2:Shared} {J:It} {fp:List Addr} {it:Addr} {tn:Nat->Heap->Prop} {Qv:VK}
def CScope.l(S:CScope X scope):∀x∈scope.names,x.2=.local->scope.names.lookup x.1=some .local:=fun x hx e=>by
 have:=List.all_eq_true.mp S.loc x hx;rw[e]at this;simpa using this
def CScope.c(S:CScope X scope):∀x∈scope.names,x.2≠.cell:=fun x hx e=>by
 have:=List.all_eq_true.mp S.nocell x hx;rw[e]at this;simp at this
def CScope.f(S:CScope X scope):∀y∈scope.names,y.2=.free->X.env.kindOf y.1=some .cell \/ X.env.kindOf y.1=some .free:=fun x hx e=>by
 have:=List.all_eq_true.mp S.free x hx;rw[e]at this;simpa[Env.kindOf]using this
def WT{E:Tz}{RR:Value->Addr->Result->Shared->Prop}(S:CScope X scope)(hcap:Caps X scope caps)(hc:X.calm=true)
  (hg:∀s3 H3 ex',PG (X.comp (cN own caps) scope s3 H3 ex') tg g) (ht:∀s3 H3 ex',Zs (X.comp (cN own caps) scope s3 H3 ex') ifs tc) (he:∀s3 H3 ex',PE (X.comp (cN own caps) scope s3 H3 ex') elt te)
  (I:Inv X pins U H s2) (T:Turn X.prog X.w X.K tg J fp it tn) (st:tn 0 s2.heap) (hf:∀b∈fp,JH X pins H b)
  (w:∃W,(∃m,W 0 m [] H)/\wc own.length J (vX own caps U) g tc te Qv W)
  (hRR:∀D C s' H' m,Inv X pins U H' s'->s'.heap.Ns C m->JH X pins H' C->Qv (.ref D) H'->RR (.ref D) C (.ok .next) s'):
  wpAny (model X.prog X.w) X.A (newList []) (fun acc s3=>wpAny (model X.prog X.w) X.A (newFunctionEnv scope X.env.globals (Yt X.env scope.names []) [] X.env.qual none .none (some X.env)) (fun cenv s4=>
   codeAny (model X.prog X.w) X.A (.compStart (.ListComp elt [⟨tg,iter,ifs,0⟩] scope pos) 0 (.ref it) acc { cenv with scope:=relabel scope X.env }) (RR acc cenv.locals) s4) E s3) E s2:=by
 obtain⟨W,⟨m0,w0⟩,turn⟩:=w;refine vTa (wpAny_newFunctionEnv S.c (by intro y hy;simp at hy) (fun h1 hns hsb=>?_) S.kind);have hlt:∀b∈fp,b < s2.heap.objs.size:=fun b hb=>by
  obtain⟨o,e,_⟩:=T.obj _ _ st b hb;exact wLa e
 let s3:Shared:={ s2 with heap:=s2.heap.push { cls:=.type "list",dict:=none,data:=.seq ([]:List Value).toArray } }
 have e3:s3.heap.objs.size=s2.heap.objs.size+1:=Heap.size_push ..;have I3:Inv X pins U H s3:=I.kept (t':=s2.toks) fun b o e=>wIa _ e;have fD:JH X pins H s2.heap.objs.size:=I.fpOk (wPa _) (I.hok.fresh (wPa _));have hk:∀b o,s3.heap.get? b=some o->h1.get? b=some o:=fun b o e=>hsb.extBut b o (wTa (wLa e)) (wIa _ e);have hD:s2.heap.objs.size < s3.heap.objs.size:=by rw[e3];exact Nat.lt_succ_self _
 have hl3:∀b∈fp,b < s3.heap.objs.size:=fun b hb=>Nat.lt_trans (hlt b hb) hD;have I4:Inv (X.comp (cN own caps) scope s3 H (s2.heap.objs.size::fp)) [] (vX own caps U) H { s3 with heap:=h1,toks:=s2.toks+([]:List (Str×Value)).length }:=by
  refine Q5 S.c S.kind S.f hcap I3 (fun b hb=>?_) hns hk;rcases uTa hb with z | z
  ·rw[z];exact⟨hD,fD⟩
  ·exact⟨hl3 b z,hf b z⟩
 have st4:tn 0 h1:=T.keep _ _ _ st fun b hb o e=>hk b o (wIa _ e);have g4:h1.get? s2.heap.objs.size=some { cls:=.type "list",data:=.seq ([]:List Value).toArray }:=hk _ _ (wJa _ rfl);have loop:=Bt (C:=0) (iter:=iter) (pos:=pos) hc hg ht he I3 hD fD (fun z=>wUa _ (hlt _ z)) hl3 hf T turn (RR (.ref s2.heap.objs.size) s3.heap.objs.size) (fun s' ⟨H',m,a1,a2,a3,a4⟩=>hRR _ _ s' H' m a1 a2 a3 a4) m0
  { s3 with heap:=h1,toks:=s2.toks+([]:List (Str×Value)).length } ⟨0,[],H,[],0,I4,st4,fun b hb=>(hf b hb).1,fD.1,g4,.nil,w0⟩
 exact codeAny_compStart_list loop (T.self _ 0 _ _ _ st4 loop)
def dJ(own:List Str)(caps:Tv)(wi:TI)(g:TG)(tc:TT)(te:TE):TE:=fun U H Q=>wi U H fun J H1=>∃W,(∃m,W 0 m [] H1)/\wc own.length J (vX own caps U) g tc te Q W
def fA(own:List Str)(caps:Tv)(S:CScope X scope)(hcap:Caps X scope caps)(hc:X.calm=true)(hi:PI X tg iter wi)
  (hg:∀s3 H3 ex',PG (X.comp (cN own caps) scope s3 H3 ex') tg g) (ht:∀s3 H3 ex',Zs (X.comp (cN own caps) scope s3 H3 ex') ifs tc) (he:∀s3 H3 ex',PE (X.comp (cN own caps) scope s3 H3 ex') elt te)
  (hs:∀x,foldedSetIterable iter X.env x=pure x:=by intro _;rfl):PE X (.ListComp elt [⟨tg,iter,ifs,0⟩] scope pos) (dJ own caps wi g tc te):=by
 intro pins s U H Q I h;rw[eval_ListComp];refine wpAny_comprehension_free (use:=none) rfl hs (WS fun y hy e=>I.ok.has y.1 (S.f y hy e)) S.kind S.l (jv (hi pins s U H _ I h) fun xv s1 h1=>jv h1 fun itv s2 h2=>?_);obtain⟨it,fp,tn,J,H2,e,I2,T,st,f2,w⟩:=h2;subst e;refine WT (RR:=fun acc C=>compPost (model X.prog X.w) X.A X.xe none (EP X pins U Q) acc C) S hcap hc hg ht he I2 T st f2 w ?_;intro D C s' H' m I' hn hf' q;refine⟨m,hn,fun h' sb=>⟨.ref D,H',?_,rfl,q⟩⟩;obtain⟨f0,f1,f2,f3,f4,f5⟩:=hf';exact I'.turned (t':=s'.toks) (fun b o hb e=>(sb.2 b hb).trans e) f0 f1 f3 f4 f5
set_option tactic.hygienic true in
theorem wd(own:List Str)(caps:Tv)(hN:X.N.Nodup)(hix:X.N[i]?=some x)(hx:gp X.env.scope x)(S:CScope X scope)(hcap:Caps X scope caps)(hc:X.calm=true)(hi:PI X tg iter wi)
  (hg:∀s3 H3 ex',PG (X.comp (cN own caps) scope s3 H3 ex') tg g) (ht:∀s3 H3 ex',Zs (X.comp (cN own caps) scope s3 H3 ex') ifs tc) (he:∀s3 H3 ex',PE (X.comp (cN own caps) scope s3 H3 ex') elt te)
  (hs:∀x,foldedSetIterable iter X.env x=pure x:=by intro _;rfl)
  (hsw:swapsWith (.ListComp elt [⟨tg,iter,ifs,0⟩] scope pos) (some (.Name x pos')) spos.line X.env=pure true:=by rfl) (hf:X.fn x=true \/ X.env.scope.names.lookup x=some .local:=by first | exact .inl rfl | exact .inr rfl | assumption):
  PS X (.Assign [.Name x pos'] (.ListComp elt [⟨tg,iter,ifs,0⟩] scope pos) spos) (zI (dJ own caps wi g tc te) (ZR i)):=by
 intro pins s U H D I h;rw[exec_Assign_Name_used _ _ _ _ hsw];refine wAa (vOa (wAa ?_));show wpAny _ _ (do let _<-comprehension (.ListComp elt [⟨tg,iter,ifs,0⟩] scope pos) scope X.env _ (newList []) false (eval iter X.env) (some (assign (.Name x pos') X.env))) _ _ s;refine wAa (wCa (wpAny_comprehension_free (use:=some (assign (.Name x pos') X.env)) (Q:=fun _ s'=>SP X pins D .next s') rfl hs (WS fun y hy e=>I.ok.has y.1 (S.f y hy e)) S.kind S.l
  (jv (hi pins s U H _ I h) fun xv s1 h1=>jv h1 fun itv s2 h2=>?_)) (fun _ s' hq=>wBa (wBa hq)) fun _ _ e=>e)
 obtain⟨it,fp,tn,J,H2,e,I2,T,st,f2,w⟩:=h2;subst e;refine WT (RR:=fun acc C=>compPost (model X.prog X.w) X.A X.xe (some (assign (.Name x pos') X.env)) (fun _ s'=>SP X pins D .next s') acc C) S hcap hc hg ht he I2 T st f2 w ?_;intro A C s' H' m I' hn hf' q;obtain⟨f0,f1,f2,f3,f4,f5⟩:=hf';show wpAny _ _ (assign (.Name x pos') X.env (.ref A)) _ _ _;refine wpAny_assign_Name (K9 (v:=.ref A) I' hN hix hx rfl (fun s'' I'' hsb=>?_) hf);obtain⟨a,sb,ha⟩:=hsb;have aC:C≠a:=by
  rcases ha with z | z
  ·rw[z];exact f1
  ·exact fun e=>f4 x a z e.symm
 refine⟨m,hn.sameBut sb aC,fun h' sb'=>⟨_,H',?_,q⟩⟩;exact I''.turned (t':=s''.toks) (fun b o hb e=>(sb'.2 b hb).trans e) f0 f1 f3 f4 f5
end
inductive Sk where
 | l | t
def uE(K:uXa):Sk->Hp->Addr->List V->Prop
 | .l=>jC K
 | .t=>JN K
def Ja:Sk->Heap->Addr->Array Value->Prop
 | .l,h,a,vs=>h.IsList a vs
 | .t,h,a,vs=>h.IsTuple a vs
def Je:Sk->Heap->Addr->Addr->Nat->Prop
 | .l,h,it,a,i=>h.IsListIter it a i
 | .t,h,it,a,i=>h.IsTupleIter it a i
def Ja.at{k:Sk}{h h':Heap}{a:Addr}{vs:Array Value}(x:Ja k h a vs)(e:∀o,h.get? a=some o->h'.get? a=some o):Ja k h' a vs:=by
 cases k
 ·exact Heap.IsList.at x e
 ·obtain⟨o,ho,r⟩:=x;exact⟨o,e o ho,r⟩
def Je.at{k:Sk}{h h':Heap}{it a:Addr}{i:Nat}(x:Je k h it a i)(e:∀o,h.get? it=some o->h'.get? it=some o):Je k h' it a i:=by
 cases k <;> (obtain⟨o,ho,r⟩:=x;exact⟨o,e o ho,r⟩)
def Je.obj(x:Je k h it a i):∃o,h.get? it=some o/\∀v,o.data≠.cell v:=by
 cases k <;> (obtain⟨o,ho,_,d⟩:=x;exact⟨o,ho,fun v z=>by rw[d]at z;cases z⟩)
def Ja.lt(x:Ja k h a vs):a < h.objs.size:=by
 cases k <;> (obtain⟨o,ho,_⟩:=x;exact wLa ho)
section
variable {prog:Program} {w:World} {A:Around} {E:Tz} {s:Shared} {it a:Addr} {i:Nat} {its:Array Value} {x:Value}
def Kw(hi:s.heap.IsTupleIter it a i)(ht:s.heap.IsTuple a its)(hx:its[i]?=some x)
  (hQ:∀h',h'.IsTupleIter it a (i+1)->Heap.SameBut it s.heap h'->Q x { s with heap:=h' }):wpAny (model prog w) A (Builtin.SmallTypes.nextOf (.ref it)) Q E s:=by
 obtain⟨o,ho,hc,hd⟩:=id hi;obtain⟨oa,hoa,_,na,hda⟩:=ht;unfold Builtin.SmallTypes.nextOf;refine wAa (wpAny_callSpecial?_slot (name:=Str.ofString "__next__") hi.typeIs F.slot_tuple_iterator_next (wpAny_call_entry F.slot_tuple_iterator_next hi.typeIs F.entry_tuple_iterator_next ?_ (F.args_tuple_iterator_next_1 _)));show wpAny _ _ (field (.ref it) 0 >>= _) _ _ s;refine wAa (wpAny_field ho hd (x:=.ref a) rfl ?_);show wpAny _ _ (if (Value.ref a==Value.none)=true then _ else _) _ _ s;have nn:¬((Value.ref a==Value.none)=true):=vNa;rw[if_neg nn];show wpAny _ _ (field (.ref it) 1 >>= _) _ _ s;refine wAa (wpAny_field ho hd (x:=.int i 0) rfl ?_);show wpAny _ _ (seqItems? (.ref a) >>= _) _ _ s;refine wAa (wpAny_seqItems hoa hda ?_);simp only[Int.toNat_natCast,hx];refine wAa (wpAny_setField ho hd (by simp) (wBa ⟨x,rfl,wBa (hQ _ ⟨_,vUa _ ho (Obj.isFreed_of_fields (Obj.data_mapFields hd _)),(Obj.cls_mapFields ..).trans hc,?_⟩ (Heap.SameBut.update ..))⟩));rw[Obj.data_mapFields hd];simp[rawInt]
def we(hh:A.handled=none)(hi:s.heap.IsTupleIter it a i)(ht:s.heap.IsTuple a its)(hx:its[i]?=none)
  (hE:∀h' e,Heap.ExtBut it s.heap h'->(∃o,h'.get? e=some o/\o.cls=.type "StopIteration")->E (.ref e) { s with heap:=h' }):wpAny (model prog w) A (Builtin.SmallTypes.nextOf (.ref it)) Q E s:=by
 obtain⟨o,ho,hc,hd⟩:=id hi;obtain⟨oa,hoa,_,na,hda⟩:=ht;unfold Builtin.SmallTypes.nextOf;refine wAa (wpAny_callSpecial?_slot (name:=Str.ofString "__next__") hi.typeIs F.slot_tuple_iterator_next (wpAny_call_entry F.slot_tuple_iterator_next hi.typeIs F.entry_tuple_iterator_next ?_ (F.args_tuple_iterator_next_1 _)));show wpAny _ _ (field (.ref it) 0 >>= _) _ _ s;refine wAa (wpAny_field ho hd (x:=.ref a) rfl ?_);show wpAny _ _ (if (Value.ref a==Value.none)=true then _ else _) _ _ s;have nn:¬((Value.ref a==Value.none)=true):=vNa;rw[if_neg nn];show wpAny _ _ (field (.ref it) 1 >>= _) _ _ s;refine wAa (wpAny_field ho hd (x:=.int i 0) rfl ?_);show wpAny _ _ (seqItems? (.ref a) >>= _) _ _ s;refine wAa (wpAny_seqItems hoa hda ?_);simp only[Int.toNat_natCast,hx];refine wAa (wpAny_rule (wAa (wpAny_setField ho hd (by simp) ?_)));show wpAny _ _ (newExc (.type "StopIteration") [] >>= _) _ _ _;refine wAa ?_;simp only[newExc,newTuple];refine wAa (vTa ?_ (by size_fits));refine wAa (m:=firstArgMember _ _) (wpAny_of_eq (a:=Value.none) (by first | rfl | (simp only[firstArgMember];rfl)) (vTa ?_ (by size_fits)));simp only[raiseNew];refine wAa (wpAny_handled ?_)
 first | rw[show A.in1.handled=none from hh] | rw[hh]
 exact wAa (wBa (wpAny_throw (hE _ _ (((Heap.SameBut.update ..).extBut.push _).push _) ⟨_,wJa _ rfl,rfl⟩)))
def U4{k:Sk}{Q:Tz}(hi:Je k s.heap it a i)(ht:Ja k s.heap a its)(hx:its[i]?=some x)
  (hQ:∀h',Je k h' it a (i+1)->Heap.SameBut it s.heap h'->Q x { s with heap:=h' }):wpAny (model prog w) A (Builtin.SmallTypes.nextOf (.ref it)) Q E s:=by
 cases k
 ·exact wpAny_nextOf_list_item hi ht hx hQ
 ·exact Kw hi ht hx hQ
def wf(hh:A.handled=none)(hi:Je k s.heap it a i)(ht:Ja k s.heap a its)(hx:its[i]?=none)
  (hE:∀h' e,Heap.ExtBut it s.heap h'->(∃o,h'.get? e=some o/\o.cls=.type "StopIteration")->E (.ref e) { s with heap:=h' }):wpAny (model prog w) A (Builtin.SmallTypes.nextOf (.ref it)) Q E s:=by
 cases k
 ·exact wpAny_nextOf_list_end hh hi ht hx hE
 ·exact we hh hi ht hx hE
noncomputable def VQ(k:Sk)(a:Addr):Obj:={ cls:=.type (match k with | .l => "list_iterator" | .t => "tuple_iterator"),data:=.fields #[.ref a,.int 0 0] }
def GC(e:h.get? it=some (VQ k a)):Je k h it a 0:=by
 cases k <;> exact⟨_,e,rfl,rfl⟩
def WU(ht:Ja k s.heap a its)(hQ:Q (.ref s.heap.objs.size) { s with heap:=s.heap.push (VQ k a) }):wpAny (model prog w) A (pyIter (.ref a)) Q E s:=by
 cases k
 ·exact wpAny_pyIter_list ht hQ
 ·exact wpAny_pyIter_tuple ht hQ
end
abbrev AV(k:Sk)(h:Heap)(a:Addr):Heap:=h.push (VQ k a)
abbrev QZ(k j:Sk)(h:Heap)(a b:Addr):Heap:=(AV k h a).push (VQ j b)
abbrev AW(k j:Sk)(h:Heap)(a b:Addr):Heap:=(QZ k j h a b).push { cls:=.type "tuple",data:=.seq #[.ref h.objs.size,.ref (AV k h a).objs.size] }
abbrev AX(k j:Sk)(h:Heap)(a b:Addr):Heap:=(AW k j h a b).push { cls:=.type "tuple",data:=.seq #[.none,.none] }
abbrev wg(k j:Sk)(h:Heap)(a b:Addr):Heap:=(AX k j h a b).push { cls:=.type "zip",data:=.fields #[.none,.bool false,.bool false,.ref (QZ k j h a b).objs.size,.ref (AW k j h a b).objs.size] }
def Kx(k j:Sk)(a b:Addr)(xs ys:Array Value):
  Meets (Builtin.«zip.__new__» ⟨[.type "zip",.ref a,.ref b],[]⟩) (fun _ R s=>Ja k s.heap a xs/\Ja j s.heap b ys/\R (.ok (.ret (.ref (AX k j s.heap a b).objs.size))) { s with heap:=wg k j s.heap a b }):=
 .of_wp fun prog w A R s h=>by
  obtain⟨hp,g,d,tk,os⟩:=s;obtain⟨ha,hb,h⟩:=h;have hsub:=sub_zip;have ha':Ja k (Shared.heap ⟨hp,g,d,tk,os⟩) a xs:=ha;have hb':Ja j (Shared.heap ⟨hp.push (VQ k a),g,d,tk,os⟩) b ys:=hb.at fun o e=>wIa _ e
  wp_walk using WU ha',WU hb'
  exact⟨_,rfl,h⟩
section
variable {prog:Program} {w:World} {A:Around} {E:Tz} {s:Shared}
def X_(ha:Ja k s.heap a xs)(hb:Ja j s.heap b ys)
  (h:∀h',IsZip h' (s.heap.objs.size+4) (s.heap.objs.size+2) (s.heap.objs.size+3) .none->IsPair h' (s.heap.objs.size+2) (.ref s.heap.objs.size) (.ref (s.heap.objs.size+1))->
   IsPair h' (s.heap.objs.size+3) .none .none->Je k h' s.heap.objs.size a 0->Je j h' (s.heap.objs.size+1) b 0->
   (∀c o,s.heap.get? c=some o->h'.get? c=some o)->Q (.ref (s.heap.objs.size+4)) { s with heap:=h' }):
  wpAny (model prog w) A (call (.type "zip") [.ref a,.ref b]) Q E s:=by
 refine callType_new F.called_zip (by decide) (F.typeCall_zip_2 _ _) (F.newCall_zip_2 _ _) (fun obj=>F.args_object_init_3 obj _ _) F.entry_zip_new (Kx k j a b xs ys) ⟨ha,hb,?_⟩;have z1:(AV k s.heap a).objs.size=s.heap.objs.size+1:=Heap.size_push ..;have z2:(QZ k j s.heap a b).objs.size=s.heap.objs.size+2:=by rw[uPa,z1]
 have z3:(AW k j s.heap a b).objs.size=s.heap.objs.size+3:=by rw[uPa,z2]
 have z4:(AX k j s.heap a b).objs.size=s.heap.objs.size+4:=by rw[uPa,z3]
 have up:∀c o,(QZ k j s.heap a b).get? c=some o->(wg k j s.heap a b).get? c=some o:=fun c o e=>wIa _ (wIa _ (wIa _ e));have g5:(wg k j s.heap a b).get? (AX k j s.heap a b).objs.size=some _:=wJa _ rfl;have g4:(wg k j s.heap a b).get? (AW k j s.heap a b).objs.size=some _:=wIa _ (wJa _ rfl);have g3:(wg k j s.heap a b).get? (QZ k j s.heap a b).objs.size=some _:=wIa _ (wIa _ (wJa _ rfl));have g2:(wg k j s.heap a b).get? (AV k s.heap a).objs.size=some (VQ j b):=up _ _ (wJa _ rfl);have g1:(wg k j s.heap a b).get? s.heap.objs.size=some (VQ k a):=up _ _ (wIa _ (wJa _ rfl));show _/\_;rw[z2,z3,z4]at g5;rw[z1,z2]at g3;rw[z3]at g4;rw[z1]at g2;rw[z4];exact⟨⟨_,g5,rfl⟩,h _ g5 g3 g4 (GC g1) (GC g2) fun c o x=>up c o (wIa _ (wIa _ x))⟩
variable {z TI TO i1 i2 a b:Addr} {k j:Sk} {n1 n2:Nat} {xs ys:Array Value} {x y:Value}
def ad{u v:Value}{Q:Tz}(D:ZipApart z TI TO i1 i2 a b)(hz:IsZip s.heap z TI TO .none)(hTI:IsPair s.heap TI (.ref i1) (.ref i2))(hTO:IsPair s.heap TO u v)
  (h1:Je k s.heap i1 a n1) (h2:Je j s.heap i2 b n2) (ha:Ja k s.heap a xs) (hb:Ja j s.heap b ys) (hx:xs[n1]?=some x) (hy:ys[n2]?=some y)
  (hQ:∀h',IsZip h' z TI TO (rawInt s.heap.objs.size)->IsPair h' TO x y->Je k h' i1 a (n1+1)->Je j h' i2 b (n2+1)->IsPair h' s.heap.objs.size x y->
   (∀c o,c≠z->c≠TO->c≠i1->c≠i2->s.heap.get? c=some o->h'.get? c=some o)->Q (.ref s.heap.objs.size) { s with heap:=h' }):
  wpAny (model prog w) A (Builtin.«zip.__next__» ⟨[.ref z],[]⟩) (fun fin s'=>∃v,fin=.done (.ret v)/\Q v s') E s:=by
 show wpAny _ _ (field (.ref z) 2 >>= _) _ _ _;refine wAa (wpAny_field hz rfl (x:=.bool false) rfl ?_);show wpAny _ _ (field (.ref z) 3 >>= _) _ _ _;refine wAa (wpAny_field hz rfl (x:=.ref TI) rfl (wAa (wpAny_seqItems hTI rfl ?_)));show wpAny _ _ (Builtin.SmallTypes.ownedTupleIsFree (.ref z) >>= _) _ _ _;refine wAa ?_;unfold Builtin.SmallTypes.ownedTupleIsFree;refine wAa (wpAny_field hz rfl (x:=.none) rfl (wBa ?_));simp only[if_true];refine wAa (wpAny_rule (wAa (wpAny_field hz rfl (x:=.ref TO) rfl (wAa (wpAny_setField_rec hz (by simp) fun g1 z1 s1=>?_)))))
 replace z1:IsZip g1 z TI TO .ellipsis:=z1
 refine wAa ?_;simp only[List.zipIdx_cons,List.zipIdx_nil,List.forIn_cons,List.forIn_nil];have e1:∀c o,c≠z->s.heap.get? c=some o->g1.get? c=some o:=fun c o hc e=>s1.extBut c o hc e;refine wAa (wAa (wpAny_onRaise ?_));show wpAny _ _ (Builtin.SmallTypes.nextOf (.ref i1) >>= _) _ _ _;refine wAa (U4 (h1.at fun o e=>e1 _ o D.i1z e) (ha.at fun o e=>e1 _ o D.l1z e) hx fun g2 it2 s2=>wBa ?_);have e2:∀c o,c≠z->c≠i1->s.heap.get? c=some o->g2.get? c=some o:=fun c o hc hd e=>s2.extBut c o hd (e1 c o hc e);have t2:IsPair g2 TO u v:=e2 _ _ D.TOz D.TOi1 hTO;refine wAa (wpAny_seqItems t2 rfl (wAa (wpAny_updateSeq_pair t2 fun g3 t3 s3=>?_)))
 replace t3:IsPair g3 TO x v:=t3
 refine wAa (wpAny_letGo (wBa (wAa (wAa (wpAny_onRaise ?_)))));have e3:∀c o,c≠z->c≠i1->c≠TO->s.heap.get? c=some o->g3.get? c=some o:=fun c o hc hd he e=>s3.extBut c o he (e2 c o hc hd e);show wpAny _ _ (Builtin.SmallTypes.nextOf (.ref i2) >>= _) _ _ _;refine wAa (U4 (h2.at fun o e=>e3 _ o D.i2z D.i12.symm D.TOi2.symm e) (hb.at fun o e=>e3 _ o D.l2z D.l2i1 D.l2TO e) hy fun g4 it4 s4=>wBa ?_);have t4:IsPair g4 TO x v:=s4.extBut _ _ D.TOi2 t3;refine wAa (wpAny_seqItems t4 rfl (wAa (wpAny_updateSeq_pair t4 fun g5 t5 s5=>?_)))
 replace t5:IsPair g5 TO x y:=t5
 refine wAa (wpAny_letGo (wBa (wBa (wAa (wpAny_seqItems t5 rfl (wAa (wpAny_newTuple ?_)))))));have sz:g5.objs.size=s.heap.objs.size:=by rw[s5.1,s4.1,s3.1,s2.1,s1.1]
 have z5:IsZip g5 z TI TO .ellipsis:=s5.extBut _ _ D.TOz.symm (s4.extBut _ _ D.i2z.symm (s3.extBut _ _ D.TOz.symm (s2.extBut _ _ D.i1z.symm z1)));have e5:∀c o,c≠z->c≠TO->c≠i1->c≠i2->s.heap.get? c=some o->g5.get? c=some o:=fun c o c1 c2 c3 c4 e=>s5.extBut _ _ c2 (s4.extBut _ _ c4 (e3 c o c1 c3 c2 e));have it5:Je k g5 i1 a (n1+1):=((it2.at fun o e=>s3.extBut _ o D.TOi1.symm e).at fun o e=>s4.extBut _ o D.i12 e).at fun o e=>s5.extBut _ o D.TOi1.symm e;have jt5:Je j g5 i2 b (n2+1):=it4.at fun o e=>s5.extBut _ o D.TOi2.symm e;have lz:z < g5.objs.size:=wLa z5;show wpAny _ _ (Builtin.SmallTypes.ownedTupleHandOut (.ref z) (.ref g5.objs.size) >>= _) _ _ _;refine wAa ?_;unfold Builtin.SmallTypes.ownedTupleHandOut;have z6:IsZip (g5.push { cls:=.type "tuple",data:=.seq #[x,y] }) z TI TO .ellipsis:=wIa _ z5;refine wAa (wpAny_setField_rec z6 (by simp) fun g7 z7 s7=>?_)
 replace z7:IsZip g7 z TI TO (rawInt g5.objs.size):=z7
 refine wpAny_setField_rec z7 (by simp) fun g8 z8 s8=>?_
 replace z8:IsZip g8 z TI TO (rawInt g5.objs.size):=z8
 have up:∀c o,c≠z->g5.get? c=some o->g8.get? c=some o:=fun c o c1 e=>s8.extBut _ _ c1 (s7.extBut _ _ c1 (wIa _ e));have t8:IsPair g8 g5.objs.size x y:=s8.extBut _ _ (Nat.ne_of_gt lz) (s7.extBut _ _ (Nat.ne_of_gt lz) (wJa _ rfl));rw[sz]at z8 t8;refine wBa ⟨_,rfl,?_⟩;show Q (.ref g5.objs.size) _;rw[sz];exact hQ g8 z8 (up _ _ D.TOz t5) (it5.at fun o e=>up _ o D.i1z e) (jt5.at fun o e=>up _ o D.i2z e) t8 fun c o c1 c2 c3 c4 e=>up c o c1 (e5 c o c1 c2 c3 c4 e)
theorem ae{u v:Value}{Q:Fin->Shared->Prop}(hh:A.handled=none)(D:ZipApart z TI TO i1 i2 a b)(hz:IsZip s.heap z TI TO .none)(hTI:IsPair s.heap TI (.ref i1) (.ref i2))(hTO:IsPair s.heap TO u v)
  (h1:Je k s.heap i1 a n1) (h2:Je j s.heap i2 b n2) (ha:Ja k s.heap a xs) (hb:Ja j s.heap b ys) (hend:xs[n1]?=none \/ ys[n2]?=none)
  (hE:∀h' e,(∀c o,c≠z->c≠TO->c≠i1->c≠i2->s.heap.get? c=some o->h'.get? c=some o)->(∃o,h'.get? e=some o/\o.cls=.type "StopIteration")->E (.ref e) { s with heap:=h' }):
  wpAny (model prog w) A (Builtin.«zip.__next__» ⟨[.ref z],[]⟩) Q E s:=by
 show wpAny _ _ (field (.ref z) 2 >>= _) _ _ _;refine wAa (wpAny_field hz rfl (x:=.bool false) rfl ?_);show wpAny _ _ (field (.ref z) 3 >>= _) _ _ _;refine wAa (wpAny_field hz rfl (x:=.ref TI) rfl (wAa (wpAny_seqItems hTI rfl ?_)));show wpAny _ _ (Builtin.SmallTypes.ownedTupleIsFree (.ref z) >>= _) _ _ _;refine wAa ?_;unfold Builtin.SmallTypes.ownedTupleIsFree;refine wAa (wpAny_field hz rfl (x:=.none) rfl (wBa ?_));simp only[if_true];refine wAa (wpAny_rule (wAa (wpAny_field hz rfl (x:=.ref TO) rfl (wAa (wpAny_setField_rec hz (by simp) fun g1 z1 s1=>?_)))))
 replace z1:IsZip g1 z TI TO .ellipsis:=z1
 refine wAa ?_;simp only[List.zipIdx_cons,List.zipIdx_nil,List.forIn_cons,List.forIn_nil];have e1:∀c o,c≠z->s.heap.get? c=some o->g1.get? c=some o:=fun c o hc e=>s1.extBut c o hc e;refine wAa (wAa (wpAny_onRaise ?_));show wpAny _ _ (Builtin.SmallTypes.nextOf (.ref i1) >>= _) _ _ _;cases hx:xs[n1]? with
 | none=>
  refine wAa (wf hh (h1.at fun o e=>e1 _ o D.i1z e) (ha.at fun o e=>e1 _ o D.l1z e) hx fun g2 e s2 he=>?_);obtain⟨oe,hoe,hce⟩:=he;have z2:IsZip g2 z TI TO .ellipsis:=s2 _ _ D.i1z.symm z1;have ez:e≠z:=fun q=>by subst q;rw[z2]at hoe;cases hoe;simp at hce
  exact wpAny_setField_rec z2 (by simp) fun g3 _ s3=>hE g3 e (fun c o c1 _ c3 _ q=>s3.extBut _ _ c1 (s2 _ _ c3 (e1 _ _ c1 q))) ⟨oe,s3.extBut _ _ ez hoe,hce⟩
 | some x=>
  have hy:ys[n2]?=none:=by
   rcases hend with q | q
   ·rw[hx]at q;cases q
   ·exact q
  refine wAa (U4 (h1.at fun o e=>e1 _ o D.i1z e) (ha.at fun o e=>e1 _ o D.l1z e) hx fun g2 it2 s2=>wBa ?_);have e2:∀c o,c≠z->c≠i1->s.heap.get? c=some o->g2.get? c=some o:=fun c o hc hd e=>s2.extBut c o hd (e1 c o hc e);have t2:IsPair g2 TO u v:=e2 _ _ D.TOz D.TOi1 hTO;refine wAa (wpAny_seqItems t2 rfl (wAa (wpAny_updateSeq_pair t2 fun g3 t3 s3=>?_)));refine wAa (wpAny_letGo (wBa (wAa (wAa (wpAny_onRaise ?_)))));have e3:∀c o,c≠z->c≠i1->c≠TO->s.heap.get? c=some o->g3.get? c=some o:=fun c o hc hd he e=>s3.extBut c o he (e2 c o hc hd e);show wpAny _ _ (Builtin.SmallTypes.nextOf (.ref i2) >>= _) _ _ _;refine wAa (wf hh (h2.at fun o e=>e3 _ o D.i2z D.i12.symm D.TOi2.symm e) (hb.at fun o e=>e3 _ o D.l2z D.l2i1 D.l2TO e) hy fun g4 e s4 he=>?_);obtain⟨oe,hoe,hce⟩:=he;have z4:IsZip g4 z TI TO .ellipsis:=s4 _ _ D.i2z.symm (s3.extBut _ _ D.TOz.symm (s2.extBut _ _ D.i1z.symm z1));have ez:e≠z:=fun q=>by subst q;rw[z4]at hoe;cases hoe;simp at hce
  exact wpAny_setField_rec z4 (by simp) fun g5 _ s5=>hE g5 e (fun c o c1 c2 c3 c4 q=>s5.extBut _ _ c1 (s4 _ _ c4 (e3 c o c1 c3 c2 q))) ⟨oe,s5.extBut _ _ ez hoe,hce⟩
def Q6{u v:Value}{Q:Option Value->Shared->Prop}(D:ZipApart z TI TO i1 i2 a b)(hz:IsZip s.heap z TI TO .none)(hTI:IsPair s.heap TI (.ref i1) (.ref i2))(hTO:IsPair s.heap TO u v)
  (h1:Je k s.heap i1 a n1) (h2:Je j s.heap i2 b n2) (ha:Ja k s.heap a xs) (hb:Ja j s.heap b ys) (hx:xs[n1]?=some x) (hy:ys[n2]?=some y)
  (hQ:∀h',IsZip h' z TI TO (rawInt s.heap.objs.size)->IsPair h' TO x y->Je k h' i1 a (n1+1)->Je j h' i2 b (n2+1)->IsPair h' s.heap.objs.size x y->
   (∀c o,c≠z->c≠TO->c≠i1->c≠i2->s.heap.get? c=some o->h'.get? c=some o)->Q (some (.ref s.heap.objs.size)) { s with heap:=h' }):
  wpAny (model prog w) A (pyNext (.ref z)) Q E s:=by
 have hT:s.TypeIs (.ref z) "zip" := ⟨_,hz,rfl⟩
 unfold pyNext;exact wAa (wpAny_attempt (wpAny_callSpecial?_slot (name:=Str.ofString "__next__") hT F.slot_zip_next (wpAny_call_entry F.slot_zip_next hT F.entry_zip_next
   (ad D hz hTI hTO h1 h2 ha hb hx hy fun h' a1 a2 a3 a4 a5 a6=>wBa (hQ h' a1 a2 a3 a4 a5 a6)) (F.args_zip_next_1 _))))
def Q_{u v:Value}{Q:Option Value->Shared->Prop}(hh:A.handled=none)(D:ZipApart z TI TO i1 i2 a b)(hz:IsZip s.heap z TI TO .none)(hTI:IsPair s.heap TI (.ref i1) (.ref i2))(hTO:IsPair s.heap TO u v)
  (h1:Je k s.heap i1 a n1) (h2:Je j s.heap i2 b n2) (ha:Ja k s.heap a xs) (hb:Ja j s.heap b ys) (hend:xs[n1]?=none \/ ys[n2]?=none)
  (hQ:∀h',(∀c o,c≠z->c≠TO->c≠i1->c≠i2->s.heap.get? c=some o->h'.get? c=some o)->Q none { s with heap:=h' }):wpAny (model prog w) A (pyNext (.ref z)) Q E s:=by
 have hT:s.TypeIs (.ref z) "zip" := ⟨_,hz,rfl⟩
 unfold pyNext;refine wAa (wpAny_attempt (wpAny_callSpecial?_slot (name:=Str.ofString "__next__") hT F.slot_zip_next (wpAny_call_entry F.slot_zip_next hT F.entry_zip_next (ae hh D hz hTI hTO h1 h2 ha hb hend fun h' e hk he=>?_) (F.args_zip_next_1 _))));obtain⟨o,ho,hc⟩:=he;exact wAa (wpAny_isInstance (T := "StopIteration") (b:=true) ⟨o,ho,hc⟩ isSubtype_stop (wBa (hQ _ hk)))
end
def Inv.turnedL{t':Nat}{ch:List Addr}(I:Inv X pins U H s)(hch:∀b∈ch,JH X pins H b)(k:∀c o,c∉ch->s.heap.get? c=some o->h'.get? c=some o):Inv X pins U H { s with heap:=h',toks:=t' }:=by
 have nit:∀b u,H b=some u->b∉ch:=fun b u e z=>by rw[(hch b z).1]at e;cases e
 refine I.step (g':=s.gens) (d':=s.drawn) (ch:=ch) (fun b hb=>?_) (fun b o _ _ hc e _=>k b o hc e) (fun b o _ _ hc e _=>⟨o.slots,k b o hc e⟩) (fun _ _ _ _ n=>n)
  (fun b o hc e=>⟨o,k b o hc e⟩) (fun _ _ e=>e) (fun _ _ _ e=>e) (fun b ps e=>⟨#[],by rw[e];simp⟩) (fun m hm=>?_) (fun b u e=>?_) I.bare
 ·obtain⟨f0,f1,f2,f3,f4,f5⟩:=hch b hb;exact⟨f3,f1,f4,f5⟩
 ·obtain⟨o,es,ep,ho,r⟩:=hm;exact⟨o,es,ep,k _ o (fun z=>(hch _ z).2.1 rfl) ho,r⟩
 ·refine(I.hok b u e).stay (fun c v hc q=>k c v ?_ q) (fun _ q=>q) fun _ _ q=>q;rcases hc with z | z
  ·rw[z];exact nit b u e
  ·exact nit c _ z
def Inv.tupled{t':Nat}{ch:List Addr}{T:Addr}{vs:List V}{us:List Value}(I:Inv X pins U H s)(hT:T=s.heap.objs.size)(hch:∀b∈ch,JH X pins H b)(k:∀c o,c∉ch->s.heap.get? c=some o->h'.get? c=some o)
  (r:jp vs us) (hz:vs.length<=sizeLine) (ht:IsTup h' T us.toArray):Inv X pins U (upd H T (.tup vs)) { s with heap:=h',toks:=t' }:=by
 have nit:∀b u,H b=some u->b∉ch:=fun b u e z=>by rw[(hch b z).1]at e;cases e
 have nT:∀b o,s.heap.get? b=some o->b≠T:=fun b o e=>by rw[hT];exact wTa (wLa e)
 have fT:H T=none:=by rw[hT];exact I.hok.fresh (wPa _)
 refine I.step (g':=s.gens) (d':=s.drawn) (ch:=ch) (fun b hb=>?_) (fun b o _ _ hc e _=>k b o hc e) (fun b o _ _ hc e _=>⟨o.slots,k b o hc e⟩) (fun b o _ e n=>by rw[jh (nT b o e)];exact n)
  (fun b o hc e=>⟨o,k b o hc e⟩) (fun b xs e=>by rw[jh (jy e fT)];exact e) (fun b o u e=>by rw[jh (jy e fT)];exact e) (fun b ps e=>⟨#[],by rw[jh (jy e fT),e];simp⟩) (fun m hm=>?_) (fun b u e=>?_) I.bare
 ·obtain⟨f0,f1,f2,f3,f4,f5⟩:=hch b hb;exact⟨f3,f1,f4,f5⟩
 ·obtain⟨o,es,ep,ho,r⟩:=hm;exact⟨o,es,ep,k _ o (fun z=>(hch _ z).2.1 rfl) ho,r⟩
 ·by_cases hb:b=T
  ·subst hb;rw[jw]at e;cases e;exact⟨hz,us,r,ht⟩
  ·rw[jh hb]at e;refine(I.hok b u e).stay (fun c v hc q=>k c v ?_ q) (fun c q=>by rw[jh (jy q fT)];exact q) fun c xs q=>by rw[jh (jy q fT)];exact q
   rcases hc with z | z
   ·rw[z];exact nit b u e
   ·exact nit c _ z
def Inv.seqK(I:Inv X pins U H s)(h:uE X.K k H a xs):∃its:List Value,jp xs its/\Ja k s.heap a its.toArray/\xs.length<=sizeLine:=by
 cases k
 ·obtain⟨its,r,p,z⟩:=I.list h;exact⟨its,r,p.isList,z⟩
 ·obtain⟨its,r,p,z⟩:=I.tuple h;exact⟨its,r,p,z⟩
def Inv.seqK_inj(I:Inv X pins U H s)(h:uE X.K k H a xs)(h':uE X.K k H a ys):xs=ys:=by
 cases k
 ·exact I.list_inj h h'
 ·exact I.tuple_inj h h'
def Zc:2<=sizeLine:=by decide
def Hv(K:uXa)(k j:Sk)(a b:Addr):It:=
 ⟨fun i H=>∃xs ys x y,uE K k H a xs/\uE K j H b ys/\xs[i]?=some x/\ys[i]?=some y,
  fun i H v H'=>∃p,H p=none/\v=.ref p/\∀xs ys x y,uE K k H a xs->uE K j H b ys->xs[i]?=some x->ys[i]?=some y->H'=upd H p (.tup [x,y]),
  fun i H=>∃xs ys,uE K k H a xs/\uE K j H b ys/\(xs.length<=i \/ ys.length<=i)⟩
def af{P:Program}{w:World}{K:uXa}{es:List Expr}{x1:Nat}{tp:Pos}{k j:Sk}{a b z TI TO i1 i2:Addr}(D:ZipApart z TI TO i1 i2 a b):
  Turn P w K (.Tuple es x1 tp) (Hv K k j a b) [z,TI,TO,i1,i2] z (fun i h=>IsZip h z TI TO .none/\IsPair h TI (.ref i1) (.ref i2)/\(∃u v,IsPair h TO u v)/\Je k h i1 a i/\Je j h i2 b i) where
 mem:=by simp
 obj:=fun i h st c hc=>by
  obtain⟨s1,s2,⟨u,v,s3⟩,s4,s5⟩:=st;simp only[List.mem_cons,List.not_mem_nil,or_false]at hc;rcases hc with rfl | rfl | rfl | rfl | rfl
  ·exact⟨_,s1,fun v z=>by cases z⟩
  ·exact⟨_,s2,fun v z=>by cases z⟩
  ·exact⟨_,s3,fun v z=>by cases z⟩
  ·exact s4.obj
  ·exact s5.obj
 keep:=fun i h h' st kk=>by
  obtain⟨s1,s2,⟨u,v,s3⟩,s4,s5⟩:=st;exact⟨kk z (by simp) _ s1,kk TI (by simp) _ s2,⟨u,v,kk TO (by simp) _ s3⟩,s4.at fun o e=>kk i1 (by simp) o e,s5.at fun o e=>kk i2 (by simp) o e⟩
 item:=by
  intro X hP hw hK hc i pins s U H E I hf st hg;subst hP hw hK;obtain⟨s1,s2,⟨u,v,s3⟩,s4,s5⟩:=st;obtain⟨xs,ys,x,y,qa,qb,ex,ey⟩:=hg;obtain⟨ia,ra,pa,_⟩:=I.seqK qa;obtain⟨ib,rb,pb,_⟩:=I.seqK qb;obtain⟨ux,eux,rx⟩:=ra.get ex;obtain⟨uy,euy,ry⟩:=rb.get ey;refine Q6 D s1 s2 s3 s4 s5 pa pb (x:=ux) (y:=uy) (by simpa using eux) (by simpa using euy) fun h' b1 b2 b3 b4 b5 bk=>?_;refine⟨_,rfl,wpAny_letOwnedTupleGo_zip b1 fun h2 c1 c2=>?_⟩;have F4:∀c∈[z,TO,i1,i2],JH X pins H c:=fun c hc=>hf c (by
   simp only[List.mem_cons,List.not_mem_nil,or_false]at hc⊢;rcases hc with q | q | q | q
   ·exact .inl q
   ·exact .inr (.inr (.inl q))
   ·exact .inr (.inr (.inr (.inl q)))
   ·exact .inr (.inr (.inr (.inr q))))
  have kp:∀c o,c∉[z,TO,i1,i2]->s.heap.get? c=some o->h2.get? c=some o:=fun c o hc e=>by
   simp only[List.mem_cons,List.not_mem_nil,or_false,not_or]at hc;exact c2.extBut c o hc.1 (bk c o hc.1 hc.2.1 hc.2.2.1 hc.2.2.2 e)
  have nz:s.heap.objs.size≠z:=Nat.ne_of_gt (wLa s1);have ht:IsTup h2 s.heap.objs.size ([ux,uy]:List Value).toArray:=⟨_,c2.extBut _ _ nz b5,rfl,_,rfl⟩
  have I2:=I.tupled (t':=s.toks) (h':=h2) rfl F4 kp (vs:=[x,y]) (us:=[ux,uy]) (.cons rx (.cons ry .nil)) Zc ht;refine⟨.ref s.heap.objs.size,_,I2,rfl,⟨s.heap.objs.size,I.hok.fresh (wPa _),rfl,fun xs' ys' x' y' qa' qb' ex' ey'=>?_⟩,⟨c1,kp _ _ (by simp[D.TIz,D.TITO,D.TIi1,D.TIi2]) s2,⟨ux,uy,c2.extBut _ _ D.TOz b2⟩,b3.at fun o e=>c2.extBut _ o D.i1z e,b4.at fun o e=>c2.extBut _ o D.i2z e⟩,fun c hc=>?_⟩
  ·rw[I.seqK_inj qa' qa,ex]at ex';rw[I.seqK_inj qb' qb,ey]at ey';cases ex';cases ey';rfl
  ·have q:=(hf c hc).1;rw[jh ?_]
   ·exact q
   ·intro e;have:c < s.heap.objs.size:=by
     simp only[List.mem_cons,List.not_mem_nil,or_false]at hc;rcases hc with rfl | rfl | rfl | rfl | rfl
     ·exact wLa s1
     ·exact wLa s2
     ·exact wLa s3
     ·obtain⟨o,e,_⟩:=s4.obj;exact wLa e
     ·obtain⟨o,e,_⟩:=s5.obj;exact wLa e
    rw[e]at this;exact wUa _ this
 done:=by
  intro X hP hw hK hc i pins s U H E I hf st hg;subst hP hw hK;obtain⟨s1,s2,⟨u,v,s3⟩,s4,s5⟩:=st;obtain⟨xs,ys,qa,qb,hend⟩:=hg;obtain⟨ia,ra,pa,_⟩:=I.seqK qa;obtain⟨ib,rb,pb,_⟩:=I.seqK qb;have la:=ra.length;have lb:=rb.length;have hend':ia.toArray[i]?=none \/ ib.toArray[i]?=none:=by
   rcases hend with q | q
   ·exact .inl (by simp;lia)
   ·exact .inr (by simp;lia)
  refine Q_ (I.ok.hd hc) D s1 s2 s3 s4 s5 pa pb hend' fun h' bk=>⟨rfl,?_⟩
  refine I.turnedL (t':=s.toks) (ch:=[z,TI,TO,i1,i2]) hf fun c o hc e=>?_;simp only[List.mem_cons,List.not_mem_nil,or_false,not_or]at hc;exact bk c o hc.1 hc.2.2.1 hc.2.2.2.1 hc.2.2.2.2 e
 self:=fun _ _ _ _ _ st h=>wpAny_pyIter_zip st.1 h
def j5.tup{K:uXa}{H H':Hp}{a:Addr}{xs:List V}(e:j5 H H')(h:JN K H a xs):JN K H' a xs:=by
 rcases h with(h | ⟨o,h⟩) | h
 ·exact .inl (.inl (e _ _ h))
 ·exact .inl (.inr ⟨o,e _ _ h⟩)
 ·exact .inr h
def ah(hc:X.calm=true):YD X (.builtin "all") (fun xs H Q=>∃(p:Addr) (bs:List Bool),xs=[.ref p]/\jC X.K H p (bs.map V.bl)/\Q (.bl (bs.all id)) H):=by
 intro pins s U H xs us Q I r h;obtain⟨p,bs,e,hq,q⟩:=h;subst e;cases r with
 | cons r rr=>
  cases rr;cases r;obtain⟨its,rv,pl,hz⟩:=I.list hq;refine call_all_walk (wpAny_pyIter_list pl.isList ?_);have hp:p < s.heap.objs.size:=by obtain⟨o,ho,_⟩:=pl.isList;exact wLa ho
  have hlen:its.length=bs.length:=by have:=rv.length;simp at this;lia
  refine⟨s.heap.objs.size,_,_,_,_,_,fun i=>(bs[i]?).getD true,rfl,Walks.list (A:=X.A.in1) (I.ok.hd hc) s.heap.objs.size p (wTa hp) its.toArray,⟨⟨_,wJa _ rfl,rfl,rfl⟩,Heap.IsList.at pl.isList fun o e=>wIa _ e⟩,?_,fun h' tk hk=>?_⟩
  ·intro i v s' Q' E' hv hq';have hv:its[i]?=some v:=by simpa using hv
   have hi:i < bs.length:=by rw[<-hlen];exact(uSa hv).1
   obtain⟨u,eu,ru⟩:=rv.get (i:=i) (x:=V.bl bs[i]) (by simp[hi]);rw[hv]at eu;cases eu;cases ru;have e1:(bs[i]?).getD true=bs[i]:=by simp[hi]
   have hq':Q' ((bs[i]?).getD true) s':=hq';rw[e1]at hq';exact wpAny_truthy_bool hq'
  ·have e:((List.range its.toArray.size).all fun i=>(bs[i]?).getD true)=bs.all id:=by
    rw[uLa,hlen,Bool.eq_iff_iff];simp only[List.all_eq_true,List.mem_range,id];constructor
    ·intro hh x hx;obtain⟨i,hi,rfl⟩:=List.mem_iff_getElem.mp hx;have:=hh i hi;simpa[hi]using this
    ·intro hh i hi;have:=hh bs[i] (List.getElem_mem hi);simpa[hi]using this
   rw[e];have I':Inv X pins U H { s with heap:=h',toks:=tk }:=I.turnedL (t':=tk) (ch:=[s.heap.objs.size]) (fun b hb=>by
    have e:b=s.heap.objs.size:=by simpa using hb
    subst e;exact I.fpOk (wPa _) (I.hok.fresh (wPa _))) (fun c o hc' e'=>hk c o hc' (wIa _ e'))
   exact⟨.bl (bs.all id),H,I',rfl,q⟩
inductive Kd where
 | i | b | s | l | t
def ai(K:uXa)(H:Hp):V->Kd->Prop
 | .int _,.i=>True
 | .bl _,.b=>True
 | .str _,.s=>True
 | .ref a,.l=>∃xs,jC K H a xs
 | .ref a,.t=>∃xs,JN K H a xs
 | _,_=>False
@[simp] noncomputable def uF:Kd->Nat
 | .i=>0 | .b=>1 | .s=>2 | .l=>3 | .t=>4
def GD(k:Kd)(T:String):Option Bool:=if T = "int" then some (uF k==0||uF k==1)else if T = "bool" then some (uF k==1)else if T = "str" then some (uF k==2)else if T = "list" then some (uF k==3)else if T = "tuple" then some (uF k==4)else none
def U5(h:GD k T=some b):(T = "int" /\(uF k==0||uF k==1)=b) \/ (T = "bool" /\(uF k==1)=b) \/ (T = "str" /\(uF k==2)=b) \/ (T = "list" /\(uF k==3)=b) \/ (T = "tuple" /\(uF k==4)=b):=by
 unfold GD at h;by_cases t1:T = "int"
 ·rw[if_pos t1]at h;exact .inl ⟨t1,vFa h⟩
 rw[if_neg t1]at h;by_cases t2:T = "bool"
 ·rw[if_pos t2]at h;exact .inr (.inl ⟨t2,vFa h⟩)
 rw[if_neg t2]at h;by_cases t3:T = "str"
 ·rw[if_pos t3]at h;exact .inr (.inr (.inl ⟨t3,vFa h⟩))
 rw[if_neg t3]at h;by_cases t4:T = "list"
 ·rw[if_pos t4]at h;exact .inr (.inr (.inr (.inl ⟨t4,vFa h⟩)))
 rw[if_neg t4]at h;by_cases t5:T = "tuple"
 ·rw[if_pos t5]at h;exact .inr (.inr (.inr (.inr ⟨t5,vFa h⟩)))
 rw[if_neg t5]at h;cases h
def dQ(K:uXa):List V->Hp->VK->Prop:=fun xs H Q=>∃x T k b,xs=[x,.ty T]/\ai K H x k/\GD k T=some b/\Q (.bl b) H
def aj:YD X (.builtin "isinstance") (dQ X.K):=by
 intro pins s U H xs us Q I r h;obtain⟨x,T,k,b,e,hk,hb,q⟩:=h;subst e;cases r with
 | cons r rr=>
  cases rr with
  | cons r' rr=>
   cases rr;cases r';have fin:∀tk,EP X pins U Q (.bool b) { s with toks:=tk }:=fun tk=>⟨.bl b,H,I.tok tk,rfl,q⟩
   have fin0:EP X pins U Q (.bool b) s:=⟨.bl b,H,I,rfl,q⟩
   cases k with
   | i=>
    cases x <;> try exact hk.elim
    obtain⟨t,rfl⟩:=r;rcases U5 hb with⟨rfl,rfl⟩ | ⟨rfl,rfl⟩ | ⟨rfl,rfl⟩ | ⟨rfl,rfl⟩ | ⟨rfl,rfl⟩
    all_goals (first | exact IsiPair.int_int fin0 | exact IsiPair.int_bool (fin _) | exact IsiPair.int_str (fin _) | exact IsiPair.int_list (fin _) | exact IsiPair.int_tuple (fin _))
   | b=>
    cases x <;> try exact hk.elim
    cases r;rcases U5 hb with⟨rfl,rfl⟩ | ⟨rfl,rfl⟩ | ⟨rfl,rfl⟩ | ⟨rfl,rfl⟩ | ⟨rfl,rfl⟩
    all_goals (first | exact IsiPair.bool_int fin0 | exact IsiPair.bool_bool fin0 | exact IsiPair.bool_str (fin _) | exact IsiPair.bool_list (fin _) | exact IsiPair.bool_tuple (fin _))
   | s=>
    cases x <;> try exact hk.elim
    obtain⟨t,rfl⟩:=r;rcases U5 hb with⟨rfl,rfl⟩ | ⟨rfl,rfl⟩ | ⟨rfl,rfl⟩ | ⟨rfl,rfl⟩ | ⟨rfl,rfl⟩
    all_goals (first | exact IsiPair.str_str fin0 | exact IsiPair.str_int (fin _) | exact IsiPair.str_bool (fin _) | exact IsiPair.str_list (fin _) | exact IsiPair.str_tuple (fin _))
   | l=>
    cases x <;> try exact hk.elim
    cases r;obtain⟨ys,hq⟩:=hk;obtain⟨its,rv,pl,_⟩:=I.list hq;obtain⟨o,ho,hc,_⟩:=pl.isList;rcases U5 hb with⟨rfl,rfl⟩ | ⟨rfl,rfl⟩ | ⟨rfl,rfl⟩ | ⟨rfl,rfl⟩ | ⟨rfl,rfl⟩
    all_goals (first | exact IsiPair.list_list ho hc fin0 | exact IsiPair.list_int ho hc (fin _) | exact IsiPair.list_bool ho hc (fin _) | exact IsiPair.list_str ho hc (fin _) | exact IsiPair.list_tuple ho hc (fin _))
   | t=>
    cases x <;> try exact hk.elim
    cases r;obtain⟨ys,hq⟩:=hk;obtain⟨its,rv,pl,_⟩:=I.tuple hq;obtain⟨o,ho,hc,_⟩:=pl;rcases U5 hb with⟨rfl,rfl⟩ | ⟨rfl,rfl⟩ | ⟨rfl,rfl⟩ | ⟨rfl,rfl⟩ | ⟨rfl,rfl⟩
    all_goals (first | exact IsiPair.tuple_tuple ho hc fin0 | exact IsiPair.tuple_int ho hc (fin _) | exact IsiPair.tuple_bool ho hc (fin _) | exact IsiPair.tuple_str ho hc (fin _) | exact IsiPair.tuple_list ho hc (fin _))
def Bu(r r' r'':R2)(ta tb tc td:TE):TE:=fun U H Q=>ta U H fun x H1=>tb U H1 fun y H2=>r x y H2 fun z H3=>∃k,z=.bl k/\
 (if k=true then tc U H3 fun w' H4=>r' y w' H4 fun z' H5=>∃k',z'=.bl k'/\(if k'=true then td U H5 fun q H6=>r'' w' q H6 Q else Q (.bl false) H5)else Q (.bl false) H3)
theorem xa(ho:jS X (compareOp op) r)(ho':jS X (compareOp op') r')(ho'':jS X (compareOp op'') r'')(ha:PE X a ta)(hb:PE X b tb)(hc:PE X c tc)(hd:PE X d td)
  (hm:lastMarks [op,op',op''] [b,c,d]=false:=by with_unfolding_all rfl):PE X (.Compare a [op,op',op''] [b,c,d] pos) (Bu r r' r'' ta tb tc td):=by
 intro pins s U H Q I h;refine Compare_chain (jv (ha pins s U H _ I h) fun v s1 ⟨x,H1,I1,r1,q1⟩=>chain_link (jv (hb pins s1 U H1 _ I1 q1) fun u s2 ⟨y,H2,I2,r2,q2⟩=>
  jv (ho pins s2 U H2 x y v u _ I2 r1 r2 q2) fun _ s3 ⟨z,H3,I3,r3,k,e,q3⟩=>?_)) hm
 subst e;cases r3;refine wpAny_truthy_bool ?_;cases k with
 | false=>exact ite_ff ⟨.bl false,H3,I3,rfl,q3⟩
 | true=>
  refine ite_tt (chain_link (jv (hc pins s3 U H3 _ I3 q3) fun w' s4 ⟨z',H4,I4,r4,q4⟩=>jv (ho' pins s4 U H4 y z' u w' _ I4 r2 r4 q4) fun _ s5 xx=>?_));obtain⟨z5,H5,I5,r5,k5,e5,q5⟩:=xx;subst e5;cases r5;refine wpAny_truthy_bool ?_;cases k5 with
  | false=>exact ite_ff ⟨.bl false,H5,I5,rfl,q5⟩
  | true=>exact ite_tt (chain_last (jv (hd pins s5 U H5 _ I5 q5) fun w6 s6 ⟨z6,H6,I6,r6,q6⟩=>ho'' pins s6 U H6 z' z6 w' w6 Q I6 r4 r6 q6))
section
open PySem.SeqAt
end
structure FnI (P:Program) (w:World) (K:uXa) (mg:Tj) (base:Heap) (k:Nat) (x:Str) (ps:List Str) (sp:Sp):Prop where
 ex:∃f fd,FnOk P w K mg base Y4 k f fd ps sp/\JX K fd ps []/\PySem.W.keepIn K (.ref f)=true/\mg x=some (.ref f)
structure MtI (P:Program) (w:World) (K:uXa) (mg:Tj) (base:Heap) (k:Nat) (C:Addr) (m:Str) (ps:List Str) (sp:Sp):Prop where
 ex:∃f fd,FnOk P w K mg base Y4 k f fd ps sp/\JX K fd ps []/\Meth K C m f
structure MkI (P:Program) (w:World) (K:uXa) (mg:Tj) (base:Heap) (k:Nat) (C:Addr) (x:Str) (ps:List Str) (sp:Sp):Prop where
 ex:∃f fd,FnOk P w K mg base Y4 k f fd ps sp/\JX K fd ps []/\Mk K C f/\mg x=some (.ref C)
def Q7(F:FnI X.prog X.w X.K X.mg X.base k x ps sp)(hr:Room k X.A)(ha:PA X (e::es) t)(hg:Gl X x:=by rfl)(hdb:(x==("__debug__" : Str))=false:=by decide)
  (he:starEach (e::es) X.env=(false,eval e X.env)::starEach es X.env:=by rfl) (hpl:(backTo pos (starEach es X.env)).any (·.1)=false:=by rfl):PE X (.Call (.Name x p) (e::es) [] pos) (AN sp [] E0 t):=by
 obtain⟨f,fd,G,b,kp,hm⟩:=F.ex;exact WQ G hr hg hm kp b .nil Q4 ha hdb he hpl
def dR(he:PE X o ta)(c:Cls X.K C)(M:MtI X.prog X.w X.K X.mg X.base k C m ps sp)(hr:Room k X.A)
  (ht:eval (.Call (.Attribute o m apos) [] [] pos) X.env=(do
   let ov<-eval o X.env
   standAt apos.atName
   let (f,first)<-holding [ov] (getMethod ov m pl)
   callWith pos f first (backTo pos (starEach [] X.env)) (backToKw pos (keywordEach [] X.env))):=by rfl):
  PE X (.Call (.Attribute o m apos) [] [] pos) (AO C m sp [] E0 ta gJ):=by
 obtain⟨f,fd,G,b,hm⟩:=M.ex;exact XV he c hm G hr b .nil Q4 ht
def fG(M:MkI X.prog X.w X.K X.mg X.base k C x ps sp)(hr:Room (k+1) X.A)(ha:PA X (e::es) t)(hg:Gl X x:=by rfl)(hdb:(x==("__debug__" : Str))=false:=by decide)
  (he:starEach (e::es) X.env=(false,eval e X.env)::starEach es X.env:=by rfl) (hpl:(backTo pos (starEach es X.env)).any (·.1)=false:=by rfl):PE X (.Call (.Name x p) (e::es) [] pos) (AQ C sp [] E0 t):=by
 obtain⟨f,fd,G,b,mk,hm⟩:=M.ex;exact Bh mk G hr hg hm b .nil Q4 ha hdb he hpl
def iP(ho:PE X o ta)(ha:PA X [e] t)(hbase:attributeBase o "append" X.env (eval o X.env)=eval o X.env:=by rfl)
  (hfew:((backTo pos (starEach [e] X.env)).all (fun x=>!x.1)&&(backToKw pos (keywordEach [] X.env)).all (fun x=>x.1.isSome)
   && decide (([e]:List Expr).length+([]:List Keyword).length+(if ([]:List Keyword).isEmpty then 0 else 1) < 30))=true:=by rfl)
  (hline:(apos.endLine==pos.line)=true:=by rfl) (hs:starEach [e] X.env=(false,eval e X.env)::starEach [] X.env:=by rfl) (hplain:(backTo pos (starEach [] X.env)).any (·.1)=false:=by rfl):
  PE X (.Call (.Attribute o "append" apos) [e] [] pos) (QU X.K "list" kD ta t):=
 AU PySem.F.plainAttrs_list PySem.F.slot_list_append PySem.F.type_list_append QV ho ha hbase hfew hline hs hplain
def ll(hm:∃t,X.mg x=some (.int i t))(hg:Gl X x:=by rfl)(hd:(x==("__debug__" : Str))=false:=by decide):PE X (.Name x pos) (tC (.int i)):=by
 obtain⟨t,h⟩:=hm;exact WM hg h ⟨t,rfl⟩ hd
def jQ(h:H p=none)(o:HO):j5 H (upd H p o):=fun b u q=>by rw[jh (jy q h)];exact q
def j5.upd(s:j5 H0 H)(h:H0 p=none)(o:HO):j5 H0 (upd H p o):=fun b u q=>by rw[jh (jy q h)];exact s b u q
def j5.none(s:j5 H H')(h:H' p=Option.none):H p=Option.none:=s.free h
def fH(h:n<=1000):n<=sizeLine:=wQa (QX h)
noncomputable abbrev T3:=Int×Int×Int
def Hw(K:uXa)(a:Addr):It:=
 ⟨fun i H=>∃xs x,jC K H a xs/\xs[i]?=some x,fun i H v H'=>∃p,H p=none/\v=.ref p/\∀xs x,jC K H a xs->xs[i]?=some x->H'=upd H p (.tup [.int i,x]),fun i H=>∃xs,jC K H a xs/\xs.length<=i⟩
def xb{P:Program}{w:World}{K:uXa}{es:List Expr}{x1:Nat}{tp:Pos}{a e it:Addr}(hei:e≠it)(hle:a≠e)(hli:a≠it):
  Turn P w K (.Tuple es x1 tp) (Hw K a) [e,it] e (fun i h=>(∃old,IsEnum h e it (i:Nat) old)/\h.IsListIter it a i) where
 mem:=by simp
 obj:=fun i h st c hc=>by
  obtain⟨⟨old,s1⟩,s2⟩:=st;simp only[List.mem_cons,List.not_mem_nil,or_false]at hc;rcases hc with rfl | rfl
  ·exact⟨_,s1,fun v z=>by cases z⟩
  ·obtain⟨o,ho,_,d⟩:=s2;exact⟨o,ho,fun v z=>by rw[d]at z;cases z⟩
 keep:=fun i h h' st kk=>by
  obtain⟨⟨old,s1⟩,s2⟩:=st;exact⟨⟨old,kk e (by simp) _ s1⟩,s2.at fun o z=>kk it (by simp) o z⟩
 item:=by
  intro X hP hw hK hc i pins s U H E I hf st hg;subst hP hw hK;obtain⟨⟨old,s1⟩,s2⟩:=st;obtain⟨xs,x,qa,ex⟩:=hg;obtain⟨ia,ra,pa,_⟩:=I.list qa;obtain⟨ux,eux,rx⟩:=ra.get ex;refine wpAny_pyNext_enum_item s1 s2 pa.isList (x:=ux) (by simpa using eux) hei fun h' b1 b2 b3 b4 bk=>?_;refine⟨_,rfl,wpAny_letOwnedTupleGo_enum b1 fun h2 c1 c2=>?_⟩;have lt1:e < s.heap.objs.size:=wLa s1;have lt2:it < s.heap.objs.size:=by obtain⟨o,ho,_⟩:=s2;exact wLa ho
  have kp:∀c o,c∉[e,it]->s.heap.get? c=some o->h2.get? c=some o:=fun c o hc z=>by
   simp only[List.mem_cons,List.not_mem_nil,or_false,not_or]at hc;exact c2.extBut c o hc.1 (bk c o hc.1 hc.2 z)
  have ht:IsTup h2 s.heap.objs.size ([.int i s.toks,ux]:List Value).toArray:=⟨_,c2.extBut _ _ (Nat.ne_of_gt lt1) b3,rfl,_,rfl⟩
  have I2:=I.tupled (t':=s.toks+1) (h':=h2) rfl hf kp (vs:=[.int i,x]) (us:=[.int i s.toks,ux]) (.cons ⟨_,rfl⟩ (.cons rx .nil)) Zc ht;refine⟨.ref s.heap.objs.size,_,I2,rfl,⟨s.heap.objs.size,I.hok.fresh (wPa _),rfl,fun xs' x' qa' ex'=>?_⟩,⟨⟨ux,by simpa using c1⟩,b2.at fun o z=>c2.extBut _ o hei.symm z⟩,fun c hc=>?_⟩
  ·rw[I.list_inj qa' qa,ex]at ex';cases ex';rfl
  ·have q:=(hf c hc).1;rw[jh ?_]
   ·exact q
   ·intro z;simp only[List.mem_cons,List.not_mem_nil,or_false]at hc;rcases hc with rfl | rfl
    ·rw[z]at lt1;exact wUa _ lt1
    ·rw[z]at lt2;exact wUa _ lt2
 done:=by
  intro X hP hw hK hc i pins s U H E I hf st hg;subst hP hw hK;obtain⟨⟨old,s1⟩,s2⟩:=st;obtain⟨xs,qa,hend⟩:=hg;obtain⟨ia,ra,pa,_⟩:=I.list qa;have la:=ra.length;refine wpAny_pyNext_enum_end (I.ok.hd hc) s1 s2 pa.isList (by simp;lia) fun h' bk=>⟨rfl,?_⟩
  refine I.turnedL (t':=s.toks) (ch:=[e,it]) hf fun c o hc z=>?_;simp only[List.mem_cons,List.not_mem_nil,or_false,not_or]at hc;exact bk c o hc.2 z
 self:=fun _ _ _ _ _ st h=>by
  obtain⟨⟨old,s1⟩,s2⟩:=st;exact wpAny_pyIter_enum s1 h
def xg:bootBuiltins "enumerate" = some (.type "enumerate"):=by decide +kernel
def fJ(K:uXa)(ta:TA):TI:=fun U H R=>ta U H fun vs H1=>∃a xs,vs=[.ref a]/\jC K H1 a xs/\R (Hw K a) H1
def Bv{X:Cx}{es:List Expr}{x1:Nat}{tp:Pos}{e1:Expr}{ta:TA}{p pos:Pos}(hg:Gl X "enumerate")(hm:X.mg "enumerate" = none)(ha:PA X [e1] ta)(hs:starEach [e1] X.env=[(false,eval e1 X.env)]:=by rfl):
  PI X (.Tuple es x1 tp) (.Call (.Name "enumerate" p) [e1] [] pos) (fJ X.K ta):=by
 intro pins s U H R I h;refine Call_ (Zb I hg hm xg (PyProof.Rows.callWith_type1 (jv (ha pos pins s U H _ I h) fun us s1 xx=>?_) hs rfl));obtain⟨vs,H1,I1,r1,q1⟩:=xx;obtain⟨a,xs,e,qa,q⟩:=q1;subst e;cases r1 with
 | cons r rr=>
  cases rr;cases r;obtain⟨ia,ra,pa,_⟩:=I1.list qa;have lt:a < s1.heap.objs.size:=by obtain⟨o,ho,_⟩:=pa.isList;exact wLa ho
  refine call_enumerate_list pa.isList fun h' b1 b2 b3 bk=>?_;refine wpAny_pyIter_enum b1 ?_;have fr:∀m,JH X pins H1 (s1.heap.objs.size+m):=fun m=>I1.fpOk (vKa _ _) (I1.hok.fresh (vKa _ _));refine⟨_,_,_,_,H1,rfl,I1.kept (t':=s1.toks) bk,xb (a:=a) (e:=s1.heap.objs.size+1) (it:=s1.heap.objs.size) (Nat.ne_of_gt (Nat.lt_succ_self _)) (wTa (Nat.lt_succ_of_lt lt)) (wTa lt),⟨⟨_,b1⟩,b2⟩,fun c hc=>?_,q⟩;simp only[List.mem_cons,List.not_mem_nil,or_false]at hc;rcases hc with rfl | rfl
  ·exact fr 1
  ·exact fr 0
noncomputable def jG(K:uXa)(c:Str):Addr:=match PySem.W.nsIn K mainGlobals c with
 | some (some (.ref C))=>C
 | _=>0
def GE{K:uXa}{c:Str}{C:Addr}(h:PySem.W.nsIn K mainGlobals c=some (some (.ref C))):jG K c=C:=by unfold jG;rw[h]
noncomputable def xW(dx:Addr)(fv:List (Str×V)):HO:=.ext fun h=>∃mA,h.Ns1 dx mA/\PySem.Within mA (fv.map (·.1))/\∀p∈fv,∃u,mA p.1=some u/\jq p.2 u
noncomputable def xC(e C:Addr)(od:Option Addr):HO:=.ext fun h=>∃oe,h.get? e=some oe/\oe.cls=.ref C/\PySem.W.notCls oe=true/\∀d,od=some d->oe.dict=some d
def AY{P:Program}{w:World}{H:Hp}{hp:Heap}{dx:Addr}{fv:List (Str×V)}{mA:Tj}(hn:hp.Ns1 dx mA)(hw:PySem.Within mA (fv.map (·.1)))(hu:∀p∈fv,∃u,mA p.1=some u/\jq p.2 u):Jq P w H hp dx (xW dx fv):=
 ⟨⟨mA,hn,hw,hu⟩,(let ⟨o,_,_,e,_⟩:=hn;⟨o,e⟩),fun _ _ xx k=>by
  obtain⟨mA,⟨o,es,ep,e,c⟩,w⟩:=xx;exact⟨mA,⟨o,es,ep,k _ e,c⟩,w⟩⟩
def fL{P:Program}{w:World}{H:Hp}{hp:Heap}{e C:Addr}{od:Option Addr}{oe:Obj}(h:hp.get? e=some oe)(hc:oe.cls=.ref C)(hn:PySem.W.notCls oe=true)(hd:∀d,od=some d->oe.dict=some d):Jq P w H hp e (xC e C od):=
 ⟨⟨oe,h,hc,hn,hd⟩,⟨oe,h⟩,fun _ _ xx k=>by
  obtain⟨o,a,b⟩:=xx;exact⟨o,k _ a,b⟩⟩
end L2
namespace DS
open L2
set_option genSizeOf true in
inductive D where
 | non | bl (b:Bool) | int (i:Int) | str (x:Str) | tup (l:List D) | lst (l:List D) | ins (C:Addr) (ns:List Str) (ds:List D) | scr (ns:List Int) | dct (ks vs:List D) | exn (c:Str) (fv:List (Str×V))
mutual
noncomputable def yI:D->Option KD
 | .int n=>some (.i n)
 | .bl b=>some (.i (if b then 1 else 0))
 | .str x=>some (.s x)
 | .tup l=>(YF l).bind fun ks=>some (.t ks)
 | _=>none
noncomputable def YF:List D->Option (List KD)
 | []=>some []
 | d::ds=>(yI d).bind fun k=>(YF ds).bind fun ks=>some (k::ks)
end
def yv:D->Option KD
 | .tup l=>(yI (.tup l)).bind fun k=>if k.dep<=8 then some k else none
 | _=>none
def Jb:List D->Option (List KD)
 | []=>some []
 | d::ds=>(yv d).bind fun k=>(Jb ds).bind fun ks=>some (k::ks)
mutual
noncomputable def j8(K:uXa)(H:Hp):D->V->Prop
 | .non,v=>v=.non
 | .bl b,v=>v=.bl b
 | .int i,v=>v=.int i
 | .str x,v=>v=.str x
 | .tup l,v=>∃a xs,v=.ref a/\JN K H a xs/\j4 K H l xs
 | .lst l,v=>∃a xs,v=.ref a/\H a=some (.lst xs)/\j4 K H l xs
 | .scr ns,v=>∃a,v=.ref a/\jC K H a (ns.map V.int)
 | .ins C ns l,v=>∃a dx xs,v=.ref a/\H a=some (.ins C dx (ns.zip xs))/\ns.length=xs.length/\j4 K H l xs
 | .dct ks vs,v=>∃a kvs ep,v=.ref a/\H a=some (.dD kvs ep)/\Jb ks=some (kvs.map (·.1))/\j4 K H ks (kvs.map fun p=>V.ref p.2.1)/\j4 K H vs (kvs.map (·.2.2))
 | .exn c fv,v=>∃e od,v=.ref e/\H e=some (xC e (jG K c) od)/\(fv≠[]->∃dx,od=some dx/\H dx=some (xW dx fv))
noncomputable def j4(K:uXa)(H:Hp):List D->List V->Prop
 | [],vs=>vs=[]
 | d::ds,vs=>∃v r,vs=v::r/\j8 K H d v/\j4 K H ds r
end
mutual
theorem j8.same{K:uXa}{H H':Hp}(e:j5 H H'):∀{d:D} {v:V},j8 K H d v->j8 K H' d v
 | .non,_,h=>h
 | .bl _,_,h=>h
 | .int _,_,h=>h
 | .str _,_,h=>h
 | .tup l,_,h=>by
  rw[j8]at h⊢;obtain⟨a,xs,rfl,q,r⟩:=h;exact⟨a,xs,rfl,e.tup q,j4.same e r⟩
 | .lst l,_,h=>by
  rw[j8]at h⊢;obtain⟨a,xs,rfl,q,r⟩:=h;exact⟨a,xs,rfl,e _ _ q,j4.same e r⟩
 | .scr ns,_,h=>by
  rw[j8]at h⊢;obtain⟨a,rfl,q⟩:=h;exact⟨a,rfl,e.seq q⟩
 | .ins C ns l,_,h=>by
  rw[j8]at h⊢;obtain⟨a,dx,xs,rfl,q,n,r⟩:=h;exact⟨a,dx,xs,rfl,e _ _ q,n,j4.same e r⟩
 | .dct ks vs,_,h=>by
  rw[j8]at h⊢;obtain⟨a,kvs,ep,rfl,q,n,r1,r2⟩:=h;exact⟨a,kvs,ep,rfl,e _ _ q,n,j4.same e r1,j4.same e r2⟩
 | .exn c fv,_,h=>by
  rw[j8]at h⊢;obtain⟨a,od,rfl,q,n⟩:=h;exact⟨a,od,rfl,e _ _ q,fun z=>let ⟨dx,z1,z2⟩:=n z;⟨dx,z1,e _ _ z2⟩⟩
theorem j4.same{K:uXa}{H H':Hp}(e:j5 H H'):∀{ds:List D} {vs:List V},j4 K H ds vs->j4 K H' ds vs
 | [],_,h=>h
 | d::ds,_,h=>by
  rw[j4]at h⊢;obtain⟨v,r,rfl,a,b⟩:=h;exact⟨v,r,rfl,j8.same e a,j4.same e b⟩
end
section
variable {K:uXa} {H:Hp}
theorem j4.len:∀{ds:List D} {vs:List V},j4 K H ds vs->vs.length=ds.length
 | [],_,h=>by rw[j4]at h;subst h;rfl
 | d::ds,_,h=>by
  rw[j4]at h;obtain⟨v,r,rfl,a,b⟩:=h;rw[vXa,vXa,j4.len b]
theorem j4.get:∀{ds:List D} {vs:List V} {i:Nat} {d:D},j4 K H ds vs->ds[i]?=some d->∃v,vs[i]?=some v/\j8 K H d v
 | [],_,_,_,h,e=>by simp at e
 | d::ds,_,0,_,h,e=>by
  rw[j4]at h;obtain⟨v,r,rfl,a,b⟩:=h;simp at e;subst e;exact⟨v,rfl,a⟩
 | d::ds,_,i+1,d',h,e=>by
  rw[j4]at h;obtain⟨v,r,rfl,a,b⟩:=h;obtain⟨v',e',q⟩:=j4.get (i:=i) b (by simpa using e);exact⟨v',by simpa using e',q⟩
def j4.nil:j4 K H [] []:=by rw[j4]
def j4.cons{d:D}{ds:List D}{v:V}{vs:List V}(a:j8 K H d v)(b:j4 K H ds vs):j4 K H (d::ds) (v::vs):=by rw[j4];exact⟨v,vs,rfl,a,b⟩
theorem j4.app:∀{ds es:List D} {vs us:List V},j4 K H ds vs->j4 K H es us->j4 K H (ds++es) (vs++us)
 | [],_,_,_,h,g=>by rw[j4]at h;subst h;exact g
 | d::ds,es,_,us,h,g=>by
  rw[j4]at h;obtain⟨u,r,rfl,a,b⟩:=h;exact j4.cons a (j4.app b g)
def j4.snoc(h:j4 K H ds vs)(q:j8 K H d v):j4 K H (ds++[d]) (vs++[v]):=h.app (j4.cons q j4.nil)
theorem j4.drop:∀{ds:List D} {vs:List V} (n:Nat),j4 K H ds vs->j4 K H (ds.drop n) (vs.drop n)
 | _,_,0,h=>h
 | [],_,n+1,h=>by rw[j4]at h;subst h;exact j4.nil
 | d::ds,_,n+1,h=>by
  rw[j4]at h;obtain⟨u,r,rfl,a,b⟩:=h;exact j4.drop n b
theorem j4.take:∀{ds:List D} {vs:List V} (n:Nat),j4 K H ds vs->j4 K H (ds.take n) (vs.take n)
 | _,_,0,h=>j4.nil
 | [],_,n+1,h=>by rw[j4]at h;subst h;exact j4.nil
 | d::ds,_,n+1,h=>by
  rw[j4]at h;obtain⟨u,r,rfl,a,b⟩:=h;exact j4.cons a (j4.take n b)
theorem j4.set{d:D}{v:V}(q:j8 K H d v):∀{ds:List D} {vs:List V} (n:Nat),j4 K H ds vs->j4 K H (ds.set n d) (vs.set n v)
 | [],_,n,h=>by rw[j4]at h;subst h;exact j4.nil
 | e::ds,_,0,h=>by
  rw[j4]at h;obtain⟨u,r,rfl,a,b⟩:=h;exact j4.cons q b
 | e::ds,_,n+1,h=>by
  rw[j4]at h;obtain⟨u,r,rfl,a,b⟩:=h;exact j4.cons a (j4.set q n b)
end
noncomputable def je(H:Hp)(O:List Addr):Hp:=fun b=>if b∈O then none else H b
def UT(h:b∈O):je H O b=none:=if_pos h
def j_(h:b∉O):je H O b=H b:=if_neg h
def yi(h:je H O b=some o):b∉O/\H b=some o:=by
 by_cases hb:b∈O
 ·rw[UT hb]at h;cases h
 ·rw[j_ hb]at h;exact⟨hb,h⟩
def yW:j5 (je H O) H:=fun b o h=>(yi h).2
def JP(s:∀a∈O',a∈O):j5 (je H O) (je H O'):=fun b o h=>by
 obtain⟨h1,h2⟩:=yi h;rw[j_ (fun z=>h1 (s b z))];exact h2
def jm(s:j5 H H'):j5 (je H O) (je H' O):=fun b o h=>by
 obtain⟨h1,h2⟩:=yi h;rw[j_ h1];exact s _ _ h2
def Zd(s:j5 H H')(hl:H l=none):j5 (je H O) (je H' (l::O)):=fun b o h=>by
 obtain⟨h1,h2⟩:=yi h;have ne:b≠l:=jy h2 hl;rw[j_ (by intro z;rcases List.mem_cons.mp z with z | z;exact ne z;exact h1 z)];exact s _ _ h2
def Y8(h:l∈O):je (upd H l o) O=je H O:=by
 funext b;by_cases hb:b∈O
 ·rw[UT hb,UT hb]
 ·rw[j_ hb,j_ hb,jh (fun e=>hb (by rw[e];exact h))]
inductive OD where
 | lst (ds:List D) | ins (C:Addr) (ns:List Str) (ds:List D) | dct (ks vs:List D)
@[simp] noncomputable def OD.toD:OD->D
 | .lst ds=>.lst ds
 | .ins C ns ds=>.ins C ns ds
 | .dct ks vs=>.dct ks vs
def JY(K:uXa)(H Hd:Hp)(l:Addr):OD->Prop
 | .lst ds=>∃vs,H l=some (.lst vs)/\j4 K Hd ds vs
 | .ins C ns ds=>∃dx vs,H l=some (.ins C dx (ns.zip vs))/\ns.length=vs.length/\j4 K Hd ds vs
 | .dct ks vs=>∃kvs ep,H l=some (.dD kvs ep)/\Jb ks=some (kvs.map (·.1))/\j4 K Hd ks (kvs.map fun p=>V.ref p.2.1)/\j4 K Hd vs (kvs.map (·.2.2))
def JY.same{K:uXa}{H H' Hd Hd':Hp}{l:Addr}{o:OD}(s:∀u,H l=some u->H' l=some u)(sd:j5 Hd Hd')(h:JY K H Hd l o):JY K H' Hd' l o:=by
 cases o with
 | lst ds=>obtain⟨vs,a,b⟩:=h;exact⟨vs,s _ a,b.same sd⟩
 | ins C ns ds=>obtain⟨dx,vs,a,n,b⟩:=h;exact⟨dx,vs,s _ a,n,b.same sd⟩
 | dct ks vs=>obtain⟨kvs,ep,a,n,b,c⟩:=h;exact⟨kvs,ep,s _ a,n,b.same sd,c.same sd⟩
def JY.there{K:uXa}{H Hd:Hp}{l:Addr}{o:OD}(h:JY K H Hd l o):H l≠none:=by
 cases o with
 | lst ds=>obtain⟨vs,a,b⟩:=h;rw[a];exact fun z=>nomatch z
 | ins C ns ds=>obtain⟨dx,vs,a,n,b⟩:=h;rw[a];exact fun z=>nomatch z
 | dct ks vs=>obtain⟨kvs,ep,a,n,b⟩:=h;rw[a];exact fun z=>nomatch z
def JY.rep{K:uXa}{H Hd:Hp}{l:Addr}{o:OD}(s:∀u,H l=some u->Hd l=some u)(h:JY K H Hd l o):j8 K Hd o.toD (.ref l):=by
 cases o with
 | lst ds=>obtain⟨vs,a,b⟩:=h;show j8 K Hd (.lst ds) _;rw[j8];exact⟨l,vs,rfl,s _ a,b⟩
 | ins C ns ds=>obtain⟨dx,vs,a,n,b⟩:=h;show j8 K Hd (.ins C ns ds) _;rw[j8];exact⟨l,dx,vs,rfl,s _ a,n,b⟩
 | dct ks vs=>obtain⟨kvs,ep,a,n,b,c⟩:=h;show j8 K Hd (.dct ks vs) _;rw[j8];exact⟨l,kvs,ep,rfl,s _ a,n,b,c⟩
inductive Sl where
 | un
 | cl (d:D)
 | bo (d:D)
 | ow (q:Option Addr) (o:OD)
 | lo (ls:List (List D))
noncomputable abbrev jk:=List Sl
def RB(K:uXa)(O:List Addr)(H:Hp)(d:D)(v:V):Prop:=j8 K (je H O) d v \/∃l o,v=.ref l/\d=OD.toD o/\JY K H (je H O) l o
def RB.same{K:uXa}{O:List Addr}{H H':Hp}{d:D}{v:V}(s:j5 H H')(h:RB K O H d v):RB K O H' d v:=by
 rcases h with h | ⟨l,o,e1,e2,h1⟩
 ·exact .inl (h.same (jm s))
 ·exact .inr ⟨l,o,e1,e2,h1.same (s l) (jm s)⟩
def RB.full{K:uXa}{O:List Addr}{H:Hp}{d:D}{v:V}(h:RB K O H d v):j8 K H d v:=by
 rcases h with h | ⟨l,o,rfl,rfl,h1⟩
 ·exact h.same yW
 ·exact(h1.same (fun _ z=>z) yW).rep fun _ z=>z
def RB.lst{K:uXa}{O:List Addr}{H:Hp}{ds:List D}{v:V}(h:RB K O H (.lst ds) v):∃p xs,v=.ref p/\H p=some (.lst xs)/\j4 K (je H O) ds xs:=by
 rcases h with h | ⟨l,o,rfl,e,h1⟩
 ·rw[j8]at h;obtain⟨a,xs,rfl,q,r⟩:=h;exact⟨a,xs,rfl,yW _ _ q,r⟩
 ·cases o <;> cases e;obtain⟨vs,a,b⟩:=h1;exact⟨l,vs,rfl,a,b⟩
def RB.tup{K:uXa}{O:List Addr}{H:Hp}{ds:List D}{v:V}(h:RB K O H (.tup ds) v):∃p xs,v=.ref p/\JN K H p xs/\j4 K (je H O) ds xs:=by
 rcases h with h | ⟨l,o,rfl,e,h1⟩
 ·rw[j8]at h;obtain⟨a,xs,rfl,q,r⟩:=h;exact⟨a,xs,rfl,yW.tup q,r⟩
 ·cases o <;> cases e
def RB.int{K:uXa}{O:List Addr}{H:Hp}{i:Int}{v:V}(h:RB K O H (.int i) v):v=.int i:=by have:=h.full;rwa [j8]at this
def RB.bl{K:uXa}{O:List Addr}{H:Hp}{i:Bool}{v:V}(h:RB K O H (.bl i) v):v=.bl i:=by have:=h.full;rwa [j8]at this
def RB.str{K:uXa}{O:List Addr}{H:Hp}{i:Str}{v:V}(h:RB K O H (.str i) v):v=.str i:=by have:=h.full;rwa [j8]at this
def RB.non{K:uXa}{O:List Addr}{H:Hp}{v:V}(h:RB K O H .non v):v=.non:=by have:=h.full;rwa [j8]at this
def RB.ins{K:uXa}{O:List Addr}{H:Hp}{C:Addr}{ns:List Str}{ds:List D}{v:V}(h:RB K O H (.ins C ns ds) v):∃a dx xs,v=.ref a/\H a=some (.ins C dx (ns.zip xs))/\ns.length=xs.length/\j4 K (je H O) ds xs:=by
 rcases h with h | ⟨l,o,rfl,e,h1⟩
 ·rw[j8]at h;obtain⟨a,dx,xs,rfl,q,n,r⟩:=h;exact⟨a,dx,xs,rfl,yW _ _ q,n,r⟩
 ·cases o <;> cases e;obtain⟨dx,vs,a,n,b⟩:=h1;exact⟨l,dx,vs,rfl,a,n,b⟩
def RB.dct{K:uXa}{O:List Addr}{H:Hp}{ks vs:List D}{v:V}(h:RB K O H (.dct ks vs) v):∃a kvs ep,v=.ref a/\H a=some (.dD kvs ep)/\Jb ks=some (kvs.map (·.1))/\j4 K (je H O) ks (kvs.map fun p=>V.ref p.2.1)/\j4 K (je H O) vs (kvs.map (·.2.2)):=by
 rcases h with h | ⟨l,o,rfl,e,h1⟩
 ·rw[j8]at h;obtain⟨a,kvs,ep,rfl,q,n,r⟩:=h;exact⟨a,kvs,ep,rfl,yW _ _ q,n,r⟩
 ·cases o <;> cases e;obtain⟨kvs,ep,a,n,b⟩:=h1;exact⟨l,kvs,ep,rfl,a,n,b⟩
def GF(K:uXa)(Hd H:Hp):List Addr->List (List D)->Prop
 | [],[]=>True
 | a::as,m::r=>(∃vs,H a=some (.lst vs)/\j4 K Hd m vs)/\GF K Hd H as r
 | _,_=>False
theorem GF.mono{K:uXa}{Hd Hd' H H':Hp}(sd:j5 Hd Hd'):∀{as:List Addr} {ls:List (List D)},(∀a∈as,∀u,H a=some u->H' a=some u)->GF K Hd H as ls->GF K Hd' H' as ls
 | [],[],_,_=>trivial
 | a::as,xs::r,s,h=>by
  obtain⟨⟨vs,h1,h2⟩,h3⟩:=h;exact⟨⟨vs,s a wNa _ h1,h2.same sd⟩,GF.mono sd (fun b hb=>s b (wMa _ hb)) h3⟩
 | [],_::_,_,h=>h.elim
 | _::_,[],_,h=>h.elim
theorem GF.at{K:uXa}{Hd H:Hp}:∀{as:List Addr} {ls:List (List D)},GF K Hd H as ls->∀a∈as,∃vs,H a=some (.lst vs)
 | _::_,_::_,h,a,ha=>by
  obtain⟨⟨vs,h1,_⟩,h3⟩:=h;rcases uTa ha with rfl | ha
  ·exact⟨vs,h1⟩
  ·exact GF.at h3 a ha
 | _::_,[],h,_,_=>h.elim
def ao(K:uXa)(H Hd:Hp)(l:Addr)(ps:List Addr)(ls:List (List D)):Prop:=H l=some (.lst (ps.map V.ref))/\GF K Hd H ps ls
def ao.at{K:uXa}{H Hd:Hp}{l:Addr}{ps:List Addr}{ls:List (List D)}(h:ao K H Hd l ps ls):∀a∈l::ps,∃vs,H a=some (.lst vs):=fun a ha=>by
 rcases uTa ha with rfl | ha
 ·exact⟨_,h.1⟩
 ·exact h.2.at a ha
def gM(Z:jk)(U:L2.St)(a:Addr):Prop:=∃(j:Nat) (q:Option Addr) (o:OD),Z[j]?=some (.ow q o)/\U[j]?=some (some (.ref a))
def AZ(K:uXa)(H0:Hp)(Z:jk)(U:L2.St)(H:Hp)(O:List Addr):Prop:=∀(i:Nat) (ls:List (List D)),Z[i]?=some (.lo ls)->∃l ps,U[i]?=some (some (.ref l))/\ao K H (je H O) l ps ls/\(l::ps).Nodup/\(∀a∈l::ps,a∈O/\H0 a=none/\¬gM Z U a)/\∀j ms,Z[j]?=some (.lo ms)->j=i
def AZ.up{K:uXa}{H0 H H':Hp}{Z Z':jk}{U U':L2.St}{O O':List Addr}(h:AZ K H0 Z U H O)(h1:∀(i:Nat) (ls:List (List D)),Z'[i]?=some (.lo ls)->Z[i]?=some (.lo ls)/\U'[i]?=U[i]?)(h2:∀a,H a≠none->gM Z' U' a->gM Z U a)
  (h3:∀a,a∈O->¬gM Z U a->a∈O'/\∀u,H a=some u->H' a=some u) (h4:j5 (je H O) (je H' O')):AZ K H0 Z' U' H' O':=fun i ls e=>by
 obtain⟨e1,e2⟩:=h1 i ls e;obtain⟨l,ps,a,b,n,f,u⟩:=h i ls e1;have k:∀c∈l::ps,∀u,H c=some u->H' c=some u:=fun c hc=>(h3 c (f c hc).1 (f c hc).2.2).2;refine⟨l,ps,e2.trans a,⟨k l wNa _ b.1,b.2.mono h4 fun c hc=>k c (wMa _ hc)⟩,n,fun c hc=>⟨(h3 c (f c hc).1 (f c hc).2.2).1,(f c hc).2.1,fun z=>(f c hc).2.2 (h2 c ?_ z)⟩,fun j ms z=>u j ms (h1 j ms z).1⟩;obtain⟨vs,hv⟩:=b.at c hc;rw[hv];exact fun z=>nomatch z
structure Rel (K:uXa) (H0:Hp) (O0:List Addr) (Z:jk) (U:L2.St) (H:Hp) (O:List Addr):Prop where
 len:U.length=Z.length
 sub:∀a∈O0,a∈O
 fr:∀a∈O,a∈O0 \/ H0 a=none
 al0:∀a∈O0,H0 a≠none
 al:∀a∈O,H a≠none
 keep:j5 H0 H
 cl:∀(i:Nat) (d:D),Z[i]?=some (.cl d)->∃v,U[i]?=some (some v)/\j8 K (je H O) d v
 bo:∀(i:Nat) (d:D),Z[i]?=some (.bo d)->∃v,U[i]?=some (some v)/\RB K O0 H0 d v
 ow:∀(i:Nat) (q:Option Addr) (o:OD),Z[i]?=some (.ow q o)->∃l,(∀p,q=some p->l=p)/\U[i]?=some (some (.ref l))/\JY K H (je H O) l o/\l∈O/\H0 l=none
 dist:∀(i j:Nat) (q q':Option Addr) (ds es:OD) (l:Addr),Z[i]?=some (.ow q ds)->Z[j]?=some (.ow q' es)->U[i]?=some (some (.ref l))->U[j]?=some (some (.ref l))->i=j
 lo:AZ K H0 Z U H O
section
variable {K:uXa} {H0 H H':Hp} {O0 O:List Addr} {Z:jk} {U:L2.St}
def Rel.in0(R:Rel K H0 O0 Z U H O):j5 (je H0 O0) (je H O):=fun b o h=>by
 obtain⟨h1,h2⟩:=yi h;rw[j_ (fun z=>by rcases R.fr b z with y | y;exact h1 y;rw[h2]at y;cases y)];exact R.keep _ _ h2
def Rel.grow(R:Rel K H0 O0 Z U H O)(s:j5 H H'):Rel K H0 O0 Z U H' O where
 len:=R.len
 sub:=R.sub
 fr:=R.fr
 al0:=R.al0
 al:=fun a h z=>R.al a h (s.none z)
 keep:=R.keep.trans s
 cl:=fun i d e=>by obtain⟨v,a,b⟩:=R.cl i d e;exact⟨v,a,b.same (jm s)⟩
 bo:=R.bo
 ow:=fun i q d e=>by obtain⟨l,z,a,b,d,f⟩:=R.ow i q d e;exact⟨l,z,a,b.same (s l) (jm s),d,f⟩
 dist:=R.dist
 lo:=R.lo.up (fun i ls e=>⟨e,rfl⟩) (fun a _ z=>z) (fun a h _=>⟨h,fun u z=>s a u z⟩) (jm s)
def Rel.new(R:Rel K H0 O0 Z U H O)(h:H p=none):p∉O:=fun z=>R.al p z h
def jI{α:Type}{xs:List α}{i j:Nat}{x y:α}(h:(xs.set i x)[j]?=some y):(j=i/\y=x/\i < xs.length) \/ (j≠i/\xs[j]?=some y):=by
 rw[List.getElem?_set]at h;by_cases e:i=j
 ·subst e;rw[if_pos rfl]at h;split at h
  ·exact .inl ⟨rfl,(vFa h).symm,by assumption⟩
  ·cases h
 ·rw[if_neg e]at h;exact .inr ⟨fun z=>e z.symm,h⟩
def Vv{xs:List α}(h:i < xs.length):(xs.set i x)[i]?=some x:=by simp[h]
def Jt{xs:List α}(h:j≠i):(xs.set i x)[j]?=xs[j]?:=by rw[List.getElem?_set,if_neg (fun z=>h z.symm)]
def U8{i j:Nat}{s:Sl}{v:Option V}{ls:List (List D)}(hs:∀ls,s≠.lo ls)(e:(Z.set i s)[j]?=some (.lo ls)):Z[j]?=some (.lo ls)/\(U.set i v)[j]?=U[j]?:=by
 rcases jI e with⟨rfl,e',_⟩ | ⟨ne,e'⟩
 ·exact vDa e'.symm (hs ls)
 ·exact⟨e',Jt ne⟩
def gO(hs:∀q o,s=.ow q o->v≠some (.ref a))(hi:U.length=Z.length):gM (Z.set i s) (U.set i v) a->gM Z U a:=fun xx=>by
 obtain⟨j,q,o,e,z⟩:=xx;rcases jI e with⟨rfl,e',hj⟩ | ⟨ne,e'⟩
 ·rw[Vv (by rw[hi];exact hj)]at z;exact vDa (vFa z) (hs _ _ e'.symm)
 ·rw[Jt ne]at z;exact⟨j,q,o,e',z⟩
def Rel.set(R:Rel K H0 O0 Z U H O){d:D}{v:V}(q:j8 K (je H O) d v)(i:Nat):Rel K H0 O0 (Z.set i (.cl d)) (U.set i (some v)) H O where
 len:=by rw[List.length_set,List.length_set];exact R.len
 sub:=R.sub
 fr:=R.fr
 al0:=R.al0
 al:=R.al
 keep:=R.keep
 cl:=fun j d' e=>by
  rcases jI e with⟨rfl,e',hi⟩ | ⟨ne,e'⟩
  ·cases e';exact⟨v,Vv (by rw[R.len];exact hi),q⟩
  ·rw[Jt ne];exact R.cl j d' e'
 bo:=fun j d' e=>by
  rcases jI e with⟨rfl,e',hi⟩ | ⟨ne,e'⟩
  ·cases e'
  ·rw[Jt ne];exact R.bo j d' e'
 ow:=fun j q' d' e=>by
  rcases jI e with⟨rfl,e',hi⟩ | ⟨ne,e'⟩
  ·cases e'
  ·rw[Jt ne];exact R.ow j q' d' e'
 dist:=fun j k q1 q2 ds es l e1 e2 s1 s2=>by
  rcases jI e1 with⟨rfl,e',hi⟩ | ⟨ne,e1'⟩
  ·cases e'
  ·rcases jI e2 with⟨rfl,e',hi⟩ | ⟨ne2,e2'⟩
   ·cases e'
   ·rw[Jt ne]at s1;rw[Jt ne2]at s2;exact R.dist j k q1 q2 ds es l e1' e2' s1 s2
 lo:=R.lo.up (fun j ls e=>U8 (by intro _ z;cases z) e) (fun a _ z=>gO (by intro _ _ z;cases z) R.len z) (fun a h _=>⟨h,fun u z=>z⟩) (j5.refl _)
def Rel.own(R:Rel K H0 O0 Z U H O)(s:j5 H H')(hn:H l=none)(h:JY K H' (je H' (l::O)) l ds)(i:Nat):Rel K H0 O0 (Z.set i (.ow none ds)) (U.set i (some (.ref l))) H' (l::O) where
 len:=by rw[List.length_set,List.length_set];exact R.len
 sub:=fun a h=>wMa _ (R.sub a h)
 fr:=fun a ha=>by
  rcases uTa ha with rfl | ha
  ·exact .inr (R.keep.none hn)
  ·exact R.fr a ha
 al0:=R.al0
 al:=fun a ha=>by
  rcases uTa ha with rfl | ha
  ·exact h.there
  ·exact fun z=>R.al a ha (s.none z)
 keep:=R.keep.trans s
 cl:=fun j d' e=>by
  rcases jI e with⟨rfl,e',hi⟩ | ⟨ne,e'⟩
  ·cases e'
  ·rw[Jt ne];obtain⟨v,a,b⟩:=R.cl j d' e';exact⟨v,a,b.same (Zd s hn)⟩
 bo:=fun j d' e=>by
  rcases jI e with⟨rfl,e',hi⟩ | ⟨ne,e'⟩
  ·cases e'
  ·rw[Jt ne];exact R.bo j d' e'
 ow:=fun j q' d' e=>by
  rcases jI e with⟨rfl,e',hi⟩ | ⟨ne,e'⟩
  ·cases e';exact⟨l,(fun p z=>nomatch z),Vv (by rw[R.len];exact hi),h,wNa,R.keep.none hn⟩
  ·rw[Jt ne];obtain⟨l',z,a,b,d,f⟩:=R.ow j q' d' e';exact⟨l',z,a,b.same (s l') (Zd s hn),wMa _ d,f⟩
 dist:=fun j k q1 q2 ds' es l' e1 e2 s1 s2=>by
  have other:∀(j:Nat) (q:Option Addr) (ds:OD),Z[j]?=some (.ow q ds)->U[j]?≠some (some (.ref l)):=fun j q ds e z=>by
   obtain⟨l2,_,a,b,_⟩:=R.ow j q ds e;rw[z]at a;cases a;exact b.there hn
  rcases jI e1 with⟨rfl,e',hi⟩ | ⟨ne,e1'⟩
  ·rcases jI e2 with⟨rfl,e'',hi'⟩ | ⟨ne2,e2'⟩
   ·rfl
   ·rw[Vv (by rw[R.len];exact hi)]at s1;cases s1;rw[Jt ne2]at s2;exact vDa s2 (other k q2 es e2')
  ·rcases jI e2 with⟨rfl,e',hi⟩ | ⟨ne2,e2'⟩
   ·rw[Vv (by rw[R.len];exact hi)]at s2;cases s2;rw[Jt ne]at s1;exact vDa s1 (other j q1 ds' e1')
   ·rw[Jt ne]at s1;rw[Jt ne2]at s2;exact R.dist j k q1 q2 ds' es l' e1' e2' s1 s2
 lo:=R.lo.up (fun j ls e=>U8 (by intro _ z;cases z) e) (fun a ha z=>gO (by intro _ _ _ y;cases y;exact ha hn) R.len z) (fun a ha _=>⟨wMa _ ha,fun u z=>s a u z⟩) (Zd s hn)
def Rel.change(R:Rel K H0 O0 Z U H O)(e:Z[i]?=some (.ow qq ds))(hq:∀p,qq=some p->l=p)(hi:U[i]?=some (some (.ref l)))(hl:l∈O)(h0:H0 l=none)(q:JY K (upd H l u) (je H O) l ds'):Rel K H0 O0 (Z.set i (.ow qq ds')) U (upd H l u) O where
 len:=by rw[List.length_set];exact R.len
 sub:=R.sub
 fr:=R.fr
 al0:=R.al0
 al:=fun a ha=>by
  by_cases z:a=l
  ·rw[z,jw];exact fun z=>nomatch z
  ·rw[jh z];exact R.al a ha
 keep:=R.keep.upd h0 _
 cl:=fun j d' e=>by
  rcases jI e with⟨rfl,e',hi⟩ | ⟨ne,e'⟩
  ·cases e'
  ·rw[Y8 hl];exact R.cl j d' e'
 bo:=fun j d' e=>by
  rcases jI e with⟨rfl,e',hi⟩ | ⟨ne,e'⟩
  ·cases e'
  ·exact R.bo j d' e'
 ow:=fun j q' d' e2=>by
  rw[Y8 hl];rcases jI e2 with⟨rfl,e',_⟩ | ⟨ne,e'⟩
  ·cases e';exact⟨l,hq,hi,q,hl,h0⟩
  ·obtain⟨l',z,a,b,d,f⟩:=R.ow j q' d' e';refine⟨l',z,a,b.same (fun u h=>?_) (j5.refl _),d,f⟩;rw[jh]
   ·exact h
   ·rintro rfl;exact ne (R.dist j i _ _ _ _ _ e' e a hi)
 dist:=fun j k q1 q2 ds1 es l' e1 e2 s1 s2=>by
  have f:∀(j:Nat) (q:Option Addr) (ds1:OD),(Z.set i (.ow qq ds'))[j]?=some (.ow q ds1)->∃q2 ds2,Z[j]?=some (.ow q2 ds2):=fun j q ds1 z=>by
   rcases jI z with⟨rfl,_,_⟩ | ⟨_,z⟩
   ·exact⟨_,_,e⟩
   ·exact⟨_,_,z⟩
  obtain⟨_,d1,f1⟩:=f j _ _ e1;obtain⟨_,d2,f2⟩:=f k _ _ e2;exact R.dist j k _ _ _ _ l' f1 f2 s1 s2
 lo:=by
  have ft:gM Z U l:=⟨i,_,_,e,hi⟩
  refine R.lo.up (fun j ls e=>⟨(U8 (U:=U) (v:=none) (by intro _ z;cases z) e).1,rfl⟩) (fun a _ ⟨j,q,o,e',z⟩=>?_) (fun a ha nf=>⟨ha,fun u z=>?_⟩) (by rw[Y8 hl];exact j5.refl _)
  ·rcases jI e' with⟨rfl,_,_⟩ | ⟨_,e'⟩
   ·exact⟨_,_,_,e,z⟩
   ·exact⟨j,q,o,e',z⟩
  ·rw[jh fun y=>nf (by rw[y];exact ft)];exact z
def Rel.share(R:Rel K H0 O0 Z U H O){ds:OD}(e:Z[i]?=some (.ow q ds)):∃O',Rel K H0 O0 (Z.set i (.cl ds.toD)) U H O'/\j5 (je H O) (je H O'):=by
 obtain⟨l,_,hs,q,lo,h0⟩:=R.ow i q ds e;have ss:j5 (je H O) (je H (O.filter (·≠l))):=JP fun a h=>(List.mem_filter.mp h).1;have nin:l∉O.filter (·≠l):=fun z=>by simpa using (List.mem_filter.mp z).2
 refine⟨O.filter (·≠l),⟨by rw[List.length_set];exact R.len,fun a h=>List.mem_filter.mpr ⟨R.sub a h,?_⟩,fun a h=>R.fr a (List.mem_filter.mp h).1,R.al0,fun a h=>R.al a (List.mem_filter.mp h).1,R.keep,?_,?_,?_,?_,?_⟩,ss⟩
 ·have z:a≠l:=by
   rintro rfl;exact R.al0 a h h0
  simpa using z
 ·intro j d' e2;rcases jI e2 with⟨rfl,e',hi⟩ | ⟨ne,e'⟩
  ·cases e';exact⟨_,hs,(q.same (fun _ z=>z) ss).rep fun u z=>by rw[j_ nin];exact z⟩
  ·obtain⟨v,a,b⟩:=R.cl j d' e';exact⟨v,a,b.same ss⟩
 ·intro j d' e2;rcases jI e2 with⟨rfl,e',hi⟩ | ⟨ne,e'⟩
  ·cases e'
  ·exact R.bo j d' e'
 ·intro j q' d' e2;rcases jI e2 with⟨rfl,e',hi⟩ | ⟨ne,e'⟩
  ·cases e'
  ·obtain⟨l',z,a,b,d,f⟩:=R.ow j q' d' e';refine⟨l',z,a,b.same (fun _ z=>z) ss,List.mem_filter.mpr ⟨d,?_⟩,f⟩;have z:l'≠l:=by
    rintro rfl;exact ne (R.dist j i _ _ _ _ _ e' e a hs)
   simpa using z
 ·intro j k q1 q2 ds1 es l' e1 e2 s1 s2;rcases jI e1 with⟨rfl,e',hi⟩ | ⟨ne,e1'⟩
  ·cases e'
  ·rcases jI e2 with⟨rfl,e',hi⟩ | ⟨ne2,e2'⟩
   ·cases e'
   ·exact R.dist j k _ _ _ _ l' e1' e2' s1 s2
 ·refine R.lo.up (fun j ls e=>⟨(U8 (U:=U) (v:=none) (by intro _ z;cases z) e).1,rfl⟩) (fun a _ ⟨j,q,o,e',z⟩=>?_) (fun a ha nf=>⟨List.mem_filter.mpr ⟨ha,?_⟩,fun u z=>z⟩) ss
  ·rcases jI e' with⟨rfl,y,_⟩ | ⟨_,e'⟩
   ·cases y
   ·exact⟨j,q,o,e',z⟩
  ·have:a≠l:=fun y=>nf (by rw[y];exact⟨i,_,_,e,hs⟩);simpa using this
end
abbrev DE:=jk->Option D
abbrev DO:=jk->Option OD
noncomputable abbrev Fr:=uXa
def tE(K:Fr)(de:DE):TE:=fun U H Q=>∃H0 O0 Z O d,Rel K H0 O0 Z U H O/\de Z=some d/\∀v H',j5 H H'->j8 K (je H' O) d v->Q v H'
def tR(K:Fr)(de:DE):TE:=fun U H Q=>∃H0 O0 Z O d,Rel K H0 O0 Z U H O/\de Z=some d/\∀v H',j5 H H'->RB K O H' d v->Q v H'
def tF(K:Fr)(de:DO):TE:=fun U H Q=>∃H0 O0 Z O o,Rel K H0 O0 Z U H O/\de Z=some o/\∀l H',j5 H H'->H l=none->JY K H' (je H' (l::O)) l o->Q (.ref l) H'
def tT(K:Fr)(dt:jk->Option Bool):TT:=fun U H Q=>∃H0 O0 Z O b,Rel K H0 O0 Z U H O/\dt Z=some b/\∀H',j5 H H'->Q b H'
def AK(K:Fr)(O:List Addr)(H:Hp):Bool->D->V->Prop
 | true,d,v=>j8 K (je H O) d v
 | false,d,v=>RB K O H d v
def yx(K:Fr)(O:List Addr)(H:Hp):List Bool->List D->List V->Prop
 | [],[],[]=>True
 | k::ks,d::ds,v::vs=>AK K O H k d v/\yx K O H ks ds vs
 | _,_,_=>False
theorem AK.same{K:Fr}{O:List Addr}{H H':Hp}(s:j5 H H'):∀{k:Bool} {d:D} {v:V},AK K O H k d v->AK K O H' k d v
 | true,_,_,h=>j8.same (jm s) h
 | false,_,_,h=>RB.same s h
theorem AK.rb{K:Fr}{O:List Addr}{H:Hp}:∀{k:Bool} {d:D} {v:V},AK K O H k d v->RB K O H d v
 | true,_,_,h=>.inl h
 | false,_,_,h=>h
theorem yx.same{K:Fr}{O:List Addr}{H H':Hp}(s:j5 H H'):∀{ks:List Bool} {ds:List D} {vs:List V},yx K O H ks ds vs->yx K O H' ks ds vs
 | [],[],[],_=>trivial
 | _::_,_::_,_::_,h=>⟨AK.same s h.1,yx.same s h.2⟩
 | [],[],_::_,h=>h.elim
 | [],_::_,_,h=>h.elim
 | _::_,[],_,h=>h.elim
 | _::_,_::_,[],h=>h.elim
noncomputable abbrev DA:=List (Bool×DE)
@[simp] noncomputable def zb:DA->jk->Option (List D)
 | [],_=>some []
 | p::ps,Z=>(p.2 Z).bind fun d=>(zb ps Z).bind fun ds=>some (d::ds)
def Yp(K:Fr)(l:DA):TA:=fun U H Q=>∃H0 O0 Z O ds,Rel K H0 O0 Z U H O/\zb l Z=some ds/\∀vs H',j5 H H'->yx K O H' (l.map (·.1)) ds vs->Q vs H'
section
variable {X:Cx} {K:Fr} {e a b c d:Expr} {de da db dc dd:DE} {pos:Pos}
def jD(h:PE X e t)(f:∀U H Q,t' U H Q->t U H Q):PE X e t':=fun pins s U H Q I q=>h pins s U H Q I (f U H Q q)
def KA(h:PT X e t)(f:∀U H Q,t' U H Q->t U H Q):PT X e t':=fun pins s U H Q I q=>h pins s U H Q I (f U H Q q)
def A_(h:PW X e t)(f:∀U H Q,t' U H Q->t U H Q):PW X e t':=fun w pins s U H Q I q=>h w pins s U H Q I (f U H Q q)
def b7(h:PA X es t)(f:∀U H Q,t' U H Q->t U H Q):PA X es t':=fun p pins s U H Q I q=>h p pins s U H Q I (f U H Q q)
def iQ(h:PE X e (tE K de)):PE X e (tR K de):=jD h fun U H Q ⟨H0,O0,Z,O,d,R,ed,q⟩=>⟨H0,O0,Z,O,d,R,ed,fun v H' s r=>q v H' s (.inl r)⟩
@[simp] def dL(df:DO)(Z:jk):Option D:=(df Z).bind fun l=>some l.toD
def j1{o:Option α}(h:o.bind f=some y):∃x,o=some x/\f x=some y:=by
 cases o with
 | none=>cases h
 | some x=>exact⟨x,rfl,h⟩
def iR(h:PE X e (tF K df)):PE X e (tE K (dL df)):=jD h fun U H Q xx=>by
 obtain⟨H0,O0,Z,O,d,R,ed,q⟩:=xx;obtain⟨ds,e1,e2⟩:=j1 ed;cases e2;exact⟨H0,O0,Z,O,ds,R,e1,fun l H' s hn r=>q _ _ s ((r.same (fun _ z=>z) (JP fun a h=>wMa _ h)).rep fun u z=>by rw[j_ (R.new hn)];exact z)⟩
@[simp] def dV(i:Nat)(Z:jk):Option D:=match Z[i]? with
 | some (.cl d)=>some d
 | some (.bo d)=>some d
 | some (.ow _ o)=>some o.toD
 | _=>none
@[simp] noncomputable def dC(i:Nat)(Z:jk):Option D:=match Z[i]? with
 | some (.cl d)=>some d
 | _=>none
def fM(i:Nat)(h:PE X (.Name x pos) (Zp i)):PE X (.Name x pos) (tR K (dV i)):=jD h fun U H Q xx=>by
 obtain⟨H0,O0,Z,O,d,R,ed,q⟩:=xx;unfold dV at ed;split at ed
 ·cases ed;obtain⟨v,e1,r⟩:=R.cl i _ (by assumption);exact⟨v,e1,q v H (j5.refl H) (.inl r)⟩
 ·cases ed;obtain⟨v,e1,r⟩:=R.bo i _ (by assumption);refine⟨v,e1,q v H (j5.refl H) ?_⟩;rcases r with r | ⟨l,o,e2,e3,h1⟩
  ·exact .inl (r.same R.in0)
  ·exact .inr ⟨l,o,e2,e3,h1.same (R.keep l) R.in0⟩
 ·cases ed;obtain⟨l,_,e1,h1,_⟩:=R.ow i _ _ (by assumption);exact⟨_,e1,q _ H (j5.refl H) (.inr ⟨l,_,rfl,rfl,h1⟩)⟩
 ·cases ed
def b8(i:Nat)(h:PE X (.Name x pos) (Zp i)):PE X (.Name x pos) (tE K (dC i)):=jD h fun U H Q xx=>by
 obtain⟨H0,O0,Z,O,d,R,ed,q⟩:=xx;unfold dC at ed;split at ed
 ·cases ed;obtain⟨v,e1,r⟩:=R.cl i _ (by assumption);exact⟨v,e1,q v H (j5.refl H) r⟩
 ·cases ed
@[simp] noncomputable def dK(d:D)(_:jk):Option D:=some d
def GG{v:V}{d:D}(h:PE X e (tC v))(r:∀H,j8 K H d v):PE X e (tE K (dK d)):=jD h fun U H Q xx=>by
 obtain⟨H0,O0,Z,O,d',R,ed,q⟩:=xx;cases ed;exact q v H (j5.refl H) (r _)
def fN{i j}:PE X (.Constant (.int i) j pos) (tE K (dK (.int i))):=GG Co fun _=>by rw[j8]
def iS{i j}:PE X (.Constant (.bool i) j pos) (tE K (dK (.bl i))):=GG ER fun _=>by rw[j8]
def fP{j}:PE X (.Constant .none j pos) (tE K (dK .non)):=GG Cp fun _=>by rw[j8]
def fQ{i j}:PE X (.Constant (.str i) j pos) (tE K (dK (.str i))):=GG QG fun _=>by rw[j8]
def dS{x:Str}{i:Int}(h:PE X (.Name x pos) (tC (.int i))):PE X (.Name x pos) (tE K (dK (.int i))):=GG h fun _=>by rw[j8]
@[simp] noncomputable def d2(f:D->D->Option D)(da db:DE)(Z:jk):Option D:=(da Z).bind fun x=>(db Z).bind fun y=>f x y
@[simp] noncomputable def d1(f:D->Option D)(da:DE)(Z:jk):Option D:=(da Z).bind f
def Jk(K:Fr)(r:R2)(f:D->D->Option D):Prop:=∀(O:List Addr) (H:Hp) (a b d:D) (x y:V) (Q:VK),RB K O H a x->RB K O H b y->(∀p,H p=none->p∉O)->f a b=some d->(∀v H',j5 H H'->j8 K (je H' O) d v->Q v H')->r x y H Q
def GH(hf:Jk K r f):∀U H Q,tE K (d2 f da db) U H Q->QN r (tR K da) (tR K db) U H Q:=fun U H Q xx=>by
 obtain⟨H0,O0,Z,O,d,R,ed,q⟩:=xx;obtain⟨x,ex,ed⟩:=j1 ed;obtain⟨y,ey,ed⟩:=j1 ed;exact⟨H0,O0,Z,O,x,R,ex,fun vx H1 s1 rx=>⟨H0,O0,Z,O,y,R.grow s1,ey,fun vy H2 s2 ry=>hf O H2 x y d vx vy Q (rx.same s2) ry (fun p hp=>(R.grow (s1.trans s2)).new hp) ed fun v H' s r=>q v H' ((s1.trans s2).trans s) r⟩⟩
def iU(ho:jS X (binaryOp op) r)(hf:Jk K r f)(ha:PE X a (tR K da))(hb:PE X b (tR K db)):PE X (.BinOp a op b pos) (tE K (d2 f da db)):=jD (AH ho ha hb) (GH hf)
def fU(ho:jS X (compareOp op) r)(hf:Jk K r f)(ha:PE X a (tR K da))(hb:PE X b (tR K db))(hm:behindInMarks op b=false):PE X (.Compare a [op] [b] pos) (tE K (d2 f da db)):=jD (Bc ho ha hb hm) (GH hf)
def dU(ho:uY X r)(hf:Jk K r f)(ha:PE X a (tR K da))(hb:PE X b (tR K db))(hs:kC b):PE X (.Subscript a b pos) (tE K (d2 f da db)):=jD (fu ho ha hb hs) (GH hf)
def dW(K:Fr)(r:R2)(f:D->D->Option OD):Prop:=∀(O:List Addr) (H:Hp) (a b:D) (ds:OD) (x y:V) (Q:VK),RB K O H a x->RB K O H b y->f a b=some ds->(∀l H',j5 H H'->H l=none->JY K H' (je H' (l::O)) l ds->Q (.ref l) H')->r x y H Q
@[simp] noncomputable def xh(f:D->D->Option OD)(da db:DE)(Z:jk):Option OD:=(da Z).bind fun x=>(db Z).bind fun y=>f x y
def iV(ho:jS X (binaryOp op) r)(hf:dW K r f)(ha:PE X a (tR K da))(hb:PE X b (tR K db)):PE X (.BinOp a op b pos) (tF K (xh f da db)):=jD (AH ho ha hb) fun U H Q xx=>by
 obtain⟨H0,O0,Z,O,d,R,ed,q⟩:=xx;obtain⟨x,ex,ed⟩:=j1 ed;obtain⟨y,ey,ed⟩:=j1 ed;exact⟨H0,O0,Z,O,x,R,ex,fun vx H1 s1 rx=>⟨H0,O0,Z,O,y,R.grow s1,ey,fun vy H2 s2 ry=>hf O H2 x y d vx vy Q (rx.same s2) ry ed fun l H' s hn r=>q l H' ((s1.trans s2).trans s) ((s1.trans s2).none hn) r⟩⟩
@[simp] noncomputable def fI(C:Int->Int->Bool)(g:Int->Int->D):D->D->Option D
 | .int i,.int j=>if C i j=true then some (g i j)else none
 | _,_=>none
noncomputable def vD:D->Option V
 | .int i=>some (.int i)
 | .bl i=>some (.bl i)
 | .str i=>some (.str i)
 | .non=>some .non
 | _=>none
def dX{K:Fr}{H:Hp}{d:D}{v:V}(h:vD d=some v):j8 K H d v:=by
 cases d <;> first | (cases h;rw[j8]) | cases h
def wj{C:Int->Int->Bool}{P:Int->Int->Prop}{g:Int->Int->D}{gv:Int->Int->V}(hP:∀i j,C i j=true->P i j)(hg:∀i j,vD (g i j)=some (gv i j)):Jk K (rI P gv) (fI C g):=by
 intro O H a b d x y Q ha hb _ e q;unfold fI at e;split at e
 ·split at e
  ·cases e;exact⟨_,_,ha.int,hb.int,hP _ _ (by assumption),q _ H (j5.refl H) (dX (hg _ _))⟩
  ·cases e
 ·cases e
def GJ{g:Int->Int->D}{gv:Int->Int->V}(hg:∀i j,vD (g i j)=some (gv i j)):Jk K (ZK gv) (fI (fun _ _=>true) g):=by
 intro O H a b d x y Q ha hb hn e q;obtain⟨i,j,e1,e2,_,q⟩:=wj (K:=K) (P:=fun _ _=>True) (fun _ _ _=>trivial) hg O H a b d x y Q ha hb hn e q;exact⟨i,j,e1,e2,q⟩
noncomputable abbrev Y2:=fI (fun _ _=>true) fun i j=>.int (i - j)
noncomputable def U9(i j:Int):Bool:=Nat.blt i.natAbs 18446744073709551616||Nat.blt j.natAbs 18446744073709551616
abbrev b9:=fI U9 fun i j=>.int (i * j)
noncomputable abbrev jF:=fI (fun _ j=>decide (0 < j)) fun i j=>.int (i % j)
noncomputable abbrev wk:=fI (fun _ j=>decide (0 < j)&&decide (j < 1073741824)) fun i j=>.int (i / j)
@[simp] noncomputable def aq(i j:Int):Bool:=decide (0<=j)&&(decide (j<=1000000)&&decide (i.natAbs < 2 ^ 64))
abbrev gP:=fI aq fun i j=>.int (i ^ j.toNat)
noncomputable abbrev yj:=fI (fun _ _=>true) fun i j=>.bl (decide (i < j))
noncomputable abbrev J5:=fI (fun _ _=>true) fun i j=>.bl (decide (i<=j))
noncomputable abbrev yG:=fI (fun _ _=>true) fun i j=>.bl (decide (j < i))
noncomputable abbrev Kj:=fI (fun _ _=>true) fun i j=>.bl (decide (j<=i))
def fW:Jk K (ZK fun i j=>.int (i - j)) Y2:=GJ fun _ _=>rfl
def fY:Jk K (rI gH fun i j=>.int (i * j)) b9:=wj (fun i j h=>by
 unfold U9 at h;rw[Bool.or_eq_true,Nat.blt_eq,Nat.blt_eq]at h;unfold gH;have e:(2:Int) ^ 64=18446744073709551616:=by decide
 rw[e];rcases h with h | h
 ·exact .inl ⟨by omega,by omega⟩
 ·exact .inr ⟨by omega,by omega⟩) fun _ _=>rfl
def fZ:Jk K (rI (fun _ j=>0 < j) fun i j=>.int (i % j)) jF:=wj (fun i j h=>by simpa using h) fun _ _=>rfl
def f_:Jk K (rI XI fun i j=>.int (i / j)) wk:=wj (fun i j h=>by simpa[XI]using h) fun _ _=>rfl
def F5:Jk K (rI XJ fun i j=>.int (i ^ j.toNat)) gP:=wj (fun i j h=>by simpa[XJ,aq]using h) fun _ _=>rfl
def iW:Jk K (ZK fun i j=>.bl (decide (i < j))) yj:=GJ fun _ _=>rfl
def iX:Jk K (ZK fun i j=>.bl (decide (i<=j))) J5:=GJ fun _ _=>rfl
def iY:Jk K (ZK fun i j=>.bl (decide (j < i))) yG:=GJ fun _ _=>rfl
def iZ:Jk K (ZK fun i j=>.bl (decide (j<=i))) Kj:=GJ fun _ _=>rfl
noncomputable def ZL:D->Bool
 | .non=>true
 | _=>false
@[simp] theorem IU:ZL .non=true:=rfl
@[simp] theorem lm(b:Bool):ZL (.bl b)=false:=rfl
@[simp] theorem IV(b:Int):ZL (.int b)=false:=rfl
@[simp] theorem IW(b:Str):ZL (.str b)=false:=rfl
@[simp] theorem IX(b:List D):ZL (.tup b)=false:=rfl
@[simp] theorem IY(b:List D):ZL (.lst b)=false:=rfl
def ba{H:Hp}{d:D}{v:V}(h:j8 K H d v):decide (v=.non)=ZL d:=by
 cases d <;> rw[j8]at h;all_goals first
  | (subst h;rfl)
  | (obtain⟨_,_,rfl,_⟩:=h;rfl)
  | (obtain⟨_,_,_,rfl,_⟩:=h;rfl)
  | (obtain⟨_,rfl,_⟩:=h;rfl)
def VR:D->D->Option D
 | d,.non=>some (.bl (ZL d))
 | _,_=>none
@[simp] theorem i_(d:D):VR d .non=some (.bl (ZL d)):=by cases d <;> rfl
def yJ:D->D->Option D
 | d,.non=>some (.bl (!ZL d))
 | _,_=>none
@[simp] theorem Hx(d:D):yJ d .non=some (.bl (!ZL d)):=by cases d <;> rfl
def F7:Jk K (fun x y H Q=>y=.non/\Q (.bl (decide (x=.non))) H) VR:=by
 intro O H a b d x y Q ha hb _ e q;unfold VR at e;split at e
 ·cases e;exact⟨hb.non,q _ H (j5.refl H) (by rw[j8,ba ha.full])⟩
 ·cases e
def dY:Jk K (fun x y H Q=>y=.non/\Q (.bl (!decide (x=.non))) H) yJ:=by
 intro O H a b d x y Q ha hb _ e q;unfold yJ at e;split at e
 ·cases e;exact⟨hb.non,q _ H (j5.refl H) (by rw[j8,ba ha.full])⟩
 ·cases e
@[simp] noncomputable def wl:D->D->Option D
 | .int i,.int j=>some (.bl (decide (i=j)))
 | .bl i,.bl j=>some (.bl (decide (i=j)))
 | .str i,.str j=>some (.bl (decide (i=j)))
 | _,_=>none
@[simp] def ar(a b:D):Option D:=(wl a b).bind fun r=>match r with | .bl c=>some (.bl (!c)) | _=>none
def Vr(x y:Int):decide (V.int x=V.int y)=decide (x=y):=by simp
def uU(x y:Bool):decide (V.bl x=V.bl y)=decide (x=y):=by simp
def Vs(x y:Str):decide (V.str x=V.str y)=decide (x=y):=by simp
def F8:Jk K AJ wl:=by
 intro O H a b d x y Q ha hb _ e q;unfold wl at e;split at e
 ·cases e;rw[ha.int,hb.int];exact⟨rfl,q _ H (j5.refl H) (by rw[j8,Vr])⟩
 ·cases e;rw[ha.bl,hb.bl];exact⟨rfl,q _ H (j5.refl H) (by rw[j8,uU])⟩
 ·cases e;rw[ha.str,hb.str];exact⟨rfl,q _ H (j5.refl H) (by rw[j8,Vs])⟩
 ·cases e
def Fa:Jk K AL ar:=by
 intro O H a b d x y Q ha hb _ e q;unfold ar wl at e;obtain⟨r,e1,e2⟩:=j1 e;split at e1
 ·cases e1;cases e2;rw[ha.int,hb.int];exact⟨rfl,q _ H (j5.refl H) (by rw[j8,Vr])⟩
 ·cases e1;cases e2;rw[ha.bl,hb.bl];exact⟨rfl,q _ H (j5.refl H) (by rw[j8,uU])⟩
 ·cases e1;cases e2;rw[ha.str,hb.str];exact⟨rfl,q _ H (j5.refl H) (by rw[j8,Vs])⟩
 ·cases e1
def j6:D->D->Option D
 | .lst l,.int i=>atI l i
 | .tup l,.int i=>atI l i
 | _,_=>none
@[simp] theorem IZ(l:List D)(i:Int):j6 (.lst l) (.int i)=L2.atI l i:=rfl
@[simp] theorem I_(l:List D)(i:Int):j6 (.tup l) (.int i)=L2.atI l i:=rfl
def j4.atI{H:Hp}{l:List D}{xs:List V}{i:Int}{d:D}(h:j4 K H l xs)(e:L2.atI l i=some d):∃v,L2.atI xs i=some v/\j8 K H d v:=by
 unfold L2.atI at e⊢;rw[h.len];obtain⟨j,e1,e2⟩:=j1 e;obtain⟨v,e3,r⟩:=h.get e2;exact⟨v,by rw[e1];exact e3,r⟩
def I0:Jk K (Hs K) j6:=by
 intro O H a b d x y Q ha hb _ e q;unfold j6 at e;split at e
 ·obtain⟨p,xs,rfl,h1,h2⟩:=ha.lst;obtain⟨v,e3,r⟩:=h2.atI e;exact .inl ⟨p,xs,_,v,rfl,hb.int,jC.of h1,e3,q v H (j5.refl H) r⟩
 ·obtain⟨p,xs,rfl,h1,h2⟩:=ha.tup;obtain⟨v,e3,r⟩:=h2.atI e;exact .inr (.inl ⟨p,xs,_,v,rfl,hb.int,h1,e3,q v H (j5.refl H) r⟩)
 ·cases e
@[simp] noncomputable def kG:D->D->Option OD
 | .lst l,.lst m=>if l.length+m.length<=sizeLine then some (.lst (l++m))else none
 | _,_=>none
def yH{O:List Addr}{H:Hp}{p:Addr}{ds:List D}{vs:List V}(hp:H p=none)(r:j4 K (je H O) ds vs):JY K (upd H p (.lst vs)) (je (upd H p (.lst vs)) (p::O)) p (.lst ds):=⟨vs,jw,r.same (Zd (jQ hp _) hp)⟩
def Fb:dW K dH kG:=by
 intro O H a b ds x y Q ha hb e q;unfold kG at e;split at e
 ·split at e
  ·cases e;obtain⟨p,xs,rfl,h1,h2⟩:=ha.lst;obtain⟨p',xs',rfl,h1',h2'⟩:=hb.lst;exact⟨p,p',xs,xs',rfl,rfl,h1,h1',by rw[h2.len,h2'.len];assumption,fun l hl=>q l _ (jQ hl _) hl (yH hl (h2.app h2'))⟩
  ·cases e
 ·cases e
def yX{O:List Addr}{H:Hp}{p:Addr}{ds:List D}{vs:List V}(hO:p∉O)(hp:H p=none)(r:j4 K (je H O) ds vs):j8 K (je (upd H p (.tup vs)) O) (.tup ds) (.ref p):=by
 rw[j8];refine⟨p,vs,rfl,JN.of ?_,r.same (jm (jQ hp _))⟩;rw[j_ hO,jw]
@[simp] noncomputable def jx:D->D->Option D
 | .int i,.int j=>some (.int (i+j))
 | .str i,.str j=>if i.length+j.length<=sizeLine then some (.str (i++j))else none
 | .tup l,.tup m=>if l.length+m.length<=sizeLine/\l≠[]then some (.tup (l++m))else none
 | _,_=>none
set_option tactic.hygienic true in
theorem Fc:Jk K (fun x y H Q=>ZK (fun i j=>.int (i+j)) x y H Q \/ (fun x y H Q=>Q2 K x y H Q \/ (fun x y H Q=>∃i j,x=.str i/\y=.str j/\i.length+j.length<=sizeLine/\Q (.str (i++j)) H) x y H Q) x y H Q) jx:=by
 intro O H a b d x y Q ha hb hn e q;unfold jx at e;split at e
 ·cases e;exact .inl ⟨_,_,ha.int,hb.int,q _ H (j5.refl H) (by rw[j8])⟩
 ·split at e
  ·cases e;exact .inr (.inr ⟨_,_,ha.str,hb.str,by assumption,q _ H (j5.refl H) (by rw[j8])⟩)
  ·cases e
 ·split at e
  ·rename_i hh;cases e;obtain⟨p,xs,rfl,h1,h2⟩:=ha.tup;obtain⟨p',xs',rfl,h1',h2'⟩:=hb.tup;have l1:=h2.len;have l2:=h2'.len;refine .inr (.inl ⟨p,p',xs,xs',rfl,rfl,h1,h1',fun z=>hh.2 (List.length_eq_zero_iff.mp (by rw[<-l1,z];rfl)),by rw[l1,l2];exact hh.1,fun z=>?_,fun _ l hl=>q _ _ (jQ hl _) (yX (hn l hl) hl (h2.app h2'))⟩);refine q _ H (j5.refl H) ?_;have e0:∀m:List D,xs'.length=m.length->xs'=[]->m=[]:=fun m h z=>List.length_eq_zero_iff.mp (by rw[<-h,z];rfl);rw[e0 _ l2 z,uFa];rcases ha with ha | ⟨_,o,_,z,_⟩
   ·exact ha
   ·cases o <;> cases z
  ·cases e
 ·cases e
end
section
variable {X:Cx} {K:Fr} {e a b c d:Expr} {de da db dc dd:DE} {pos:Pos}
@[simp] noncomputable def wm(z:D)(yes:Option D):Option D:=match z with
 | .bl true=>yes
 | .bl false=>some (.bl false)
 | _=>none
def vY{z d:D}{y:Option D}(h:wm z y=some d):∃k,z=.bl k/\((k=true/\y=some d) \/ (k=false/\d=.bl false)):=by
 unfold wm at h;split at h
 ·exact⟨true,rfl,.inl ⟨rfl,h⟩⟩
 ·exact⟨false,rfl,.inr ⟨rfl,(vFa h).symm⟩⟩
 ·cases h
@[simp] def J1(f f':D->D->Option D)(da db dc:DE)(Z:jk):Option D:=(da Z).bind fun x=>(db Z).bind fun y=>(f x y).bind fun z=>wm z ((dc Z).bind fun w=>f' y w)
def xi{r r':R2}{f f':D->D->Option D}(hf:Jk K r f)(hf':Jk K r' f'):∀U H Q,tE K (J1 f f' da db dc) U H Q->KW r r' (tR K da) (tR K db) (tR K dc) U H Q:=fun U H Q xx=>by
 obtain⟨H0,O0,Z,O,d,R,ed,q⟩:=xx;obtain⟨x,ex,ed⟩:=j1 ed;obtain⟨y,ey,ed⟩:=j1 ed;obtain⟨z,ez,ed⟩:=j1 ed;obtain⟨k,rfl,ek⟩:=vY ed;refine⟨H0,O0,Z,O,x,R,ex,fun vx H1 s1 rx=>⟨H0,O0,Z,O,y,R.grow s1,ey,fun vy H2 s2 ry=>hf O H2 x y _ vx vy _ (rx.same s2) ry (fun p hp=>(R.grow (s1.trans s2)).new hp) ez fun v H3 s3 rz=>?_⟩⟩;rw[j8]at rz;subst rz;refine⟨k,rfl,?_⟩;have s13:=(s1.trans s2).trans s3;rcases ek with⟨rfl,e2⟩ | ⟨rfl,rfl⟩
 ·obtain⟨w,ew,e3⟩:=j1 e2;exact Zr ⟨H0,O0,Z,O,w,R.grow s13,ew,fun vw H4 s4 rw'=>hf' O H4 y w d vy vw Q ((ry.same s3).same s4) rw' (fun p hp=>(R.grow (s13.trans s4)).new hp) e3 fun v H' s r=>q v H' ((s13.trans s4).trans s) r⟩
 ·exact Zq (q _ _ s13 (by rw[j8]))
def Bw(ho:jS X (compareOp op) r)(ho':jS X (compareOp op') r')(hf:Jk K r f)(hf':Jk K r' f')(ha:PE X a (tR K da))(hb:PE X b (tR K db))(hc:PE X c (tR K dc))(hm:lastMarks [op,op'] [b,c]=false:=by with_unfolding_all rfl):PE X (.Compare a [op,op'] [b,c] pos) (tE K (J1 f f' da db dc)):=jD (XM ho ho' ha hb hc hm) (xi hf hf')
@[simp] def UU(f f' f'':D->D->Option D)(da db dc dd:DE)(Z:jk):Option D:=(da Z).bind fun x=>(db Z).bind fun y=>(f x y).bind fun z=>wm z ((dc Z).bind fun w=>(f' y w).bind fun z'=>wm z' ((dd Z).bind fun u=>f'' w u))
def au{op op' op'':CmpOp}{r r' r'':R2}{f f' f'':D->D->Option D}(ho:jS X (compareOp op) r)(ho':jS X (compareOp op') r')(ho'':jS X (compareOp op'') r'')(hf:Jk K r f)(hf':Jk K r' f')(hf'':Jk K r'' f'')(ha:PE X a (tR K da))(hb:PE X b (tR K db))(hc:PE X c (tR K dc))(hd:PE X d (tR K dd))(hm:lastMarks [op,op',op''] [b,c,d]=false:=by with_unfolding_all rfl):
  PE X (.Compare a [op,op',op''] [b,c,d] pos) (tE K (UU f f' f'' da db dc dd)):=jD (xa ho ho' ho'' ha hb hc hd hm) fun U H Q xx=>by
 obtain⟨H0,O0,Z,O,d,R,ed,q⟩:=xx;obtain⟨x,ex,ed⟩:=j1 ed;obtain⟨y,ey,ed⟩:=j1 ed;obtain⟨z,ez,ed⟩:=j1 ed;obtain⟨k,rfl,ek⟩:=vY ed;refine⟨H0,O0,Z,O,x,R,ex,fun vx H1 s1 rx=>⟨H0,O0,Z,O,y,R.grow s1,ey,fun vy H2 s2 ry=>hf O H2 x y _ vx vy _ (rx.same s2) ry (fun p hp=>(R.grow (s1.trans s2)).new hp) ez fun v H3 s3 rz=>?_⟩⟩;rw[j8]at rz;subst rz;refine⟨k,rfl,?_⟩;have s13:=(s1.trans s2).trans s3;rcases ek with⟨rfl,e2⟩ | ⟨rfl,rfl⟩
 ·obtain⟨w,ew,e3⟩:=j1 e2;obtain⟨z',ez',e3⟩:=j1 e3;obtain⟨k',rfl,ek'⟩:=vY e3;refine Zr ⟨H0,O0,Z,O,w,R.grow s13,ew,fun vw H4 s4 rw'=>hf' O H4 y w _ vy vw _ ((ry.same s3).same s4) rw' (fun p hp=>(R.grow (s13.trans s4)).new hp) ez' fun v H5 s5 r=>?_⟩;rw[j8]at r;subst r;refine⟨k',rfl,?_⟩;have s15:=(s13.trans s4).trans s5;rcases ek' with⟨rfl,e4⟩ | ⟨rfl,rfl⟩
  ·obtain⟨u,eu,e5⟩:=j1 e4;exact Zr ⟨H0,O0,Z,O,u,R.grow s15,eu,fun vu H6 s6 ru=>hf'' O H6 w u d vw vu Q ((rw'.same s5).same s6) ru (fun p hp=>(R.grow (s15.trans s6)).new hp) e5 fun v H' s r=>q v H' ((s15.trans s6).trans s) r⟩
  ·exact Zq (q _ _ s15 (by rw[j8]))
 ·exact Zq (q _ _ s13 (by rw[j8]))
@[simp] noncomputable def dZ:D->Option Bool
 | .bl b=>some b
 | _=>none
noncomputable def Ua:D->Option Bool
 | .bl b=>some b
 | .non=>some false
 | .int i=>some (i != 0)
 | .lst l=>some (!l.isEmpty)
 | .tup l=>some (!l.isEmpty)
 | _=>none
@[simp] theorem l5(b:Bool):Ua (.bl b)=some b:=rfl
@[simp] theorem Ia:Ua .non=some false:=rfl
@[simp] theorem Ib(l:List D):Ua (.lst l)=some (!l.isEmpty):=rfl
@[simp] theorem Ic(l:List D):Ua (.tup l)=some (!l.isEmpty):=rfl
@[simp] theorem Ie(i:Int):Ua (.int i)=some (i != 0):=rfl
set_option tactic.hygienic true in
theorem d_{O:List Addr}{H:Hp}{d:D}{v:V}{k:Bool}(h:RB K O H d v)(e:Ua d=some k):XQ K v H k:=by
 unfold Ua at e;split at e
 ·cases e;rw[h.bl];rfl
 ·cases e;rw[h.non];rfl
 ·cases e;rw[h.int];rfl
 ·cases e;obtain⟨p,xs,rfl,h1,h2⟩:=h.lst;refine .inl ⟨xs,jC.of h1,?_⟩;have:=h2.len;cases xs with
  | nil=>rw[List.length_eq_zero_iff.mp this.symm];rfl
  | cons x xs=>
   rename_i l;cases l with
   | nil=>cases this
   | cons y l=>rfl
 ·cases e;obtain⟨p,xs,rfl,h1,h2⟩:=h.tup;refine .inr ⟨xs,h1,?_⟩;have:=h2.len;cases xs with
  | nil=>rw[List.length_eq_zero_iff.mp this.symm];rfl
  | cons x xs=>
   rename_i l;cases l with
   | nil=>cases this
   | cons y l=>rfl
 ·cases e
abbrev DT:=jk->Option Bool
@[simp] def JA(de:DE)(Z:jk):Option Bool:=(de Z).bind Ua
def Fd(h:PE X e (tR K de))(hK:X.K=K:=by rfl)(he:∀whole,isTrue e X.env whole=(do let v<-whole;standAt e.pos;holding [v] (truthy v)):=by intro _;rfl):PT X e (tT K (JA de)):=KA (XR h he) fun U H Q xx=>by
 obtain⟨H0,O0,Z,O,k,R,ed,q⟩:=xx;subst hK;obtain⟨d,e1,e2⟩:=j1 ed;exact⟨H0,O0,Z,O,d,R,e1,fun v H' s r=>⟨k,d_ r e2,q H' s⟩⟩
@[simp] def jg(de:DE)(Z:jk):Option Bool:=(de Z).bind dZ
def wo{d:D}{k:Bool}(h:dZ d=some k):d=.bl k:=by
 unfold dZ at h;split at h
 ·cases h;rfl
 ·cases h
def Fe{op:CmpOp}{r:R2}{f:D->D->Option D}(ho:jS X (compareOp op) r)(hf:Jk K r f)(ha:PE X a (tR K da))(hb:PE X b (tR K db))(hm:behindInMarks op b=false):PT X (.Compare a [op] [b] pos) (tT K (jg (d2 f da db))):=KA (Be ho ha hb hm) fun U H Q xx=>by
 obtain⟨H0,O0,Z,O,k,R,ed,q⟩:=xx;obtain⟨d,e1,e2⟩:=j1 ed;cases wo e2;exact GH hf U H _ ⟨H0,O0,Z,O,_,R,e1,fun v H' s r=>⟨k,by rw[j8]at r;exact r,q H' s⟩⟩
def Bx{op op':CmpOp}{r r':R2}{f f':D->D->Option D}(ho:jS X (compareOp op) r)(ho':jS X (compareOp op') r')(hf:Jk K r f)(hf':Jk K r' f')(ha:PE X a (tR K da))(hb:PE X b (tR K db))(hc:PE X c (tR K dc))(hm:lastMarks [op,op'] [b,c]=false:=by with_unfolding_all rfl):PT X (.Compare a [op,op'] [b,c] pos) (tT K (jg (J1 f f' da db dc))):=KA (XO ho ho' ha hb hc hm) fun U H Q xx=>by
 obtain⟨H0,O0,Z,O,k,R,ed,q⟩:=xx;obtain⟨d,e1,e2⟩:=j1 ed;cases wo e2;have e1':=e1;obtain⟨x,ex,e1⟩:=j1 e1;obtain⟨y,ey,e1⟩:=j1 e1;obtain⟨z,ez,e1⟩:=j1 e1;obtain⟨k',rfl,ek⟩:=vY e1;refine⟨H0,O0,Z,O,x,R,ex,fun vx H1 s1 rx=>⟨H0,O0,Z,O,y,R.grow s1,ey,fun vy H2 s2 ry=>hf O H2 x y _ vx vy _ (rx.same s2) ry (fun p hp=>(R.grow (s1.trans s2)).new hp) ez fun v H3 s3 rz=>?_⟩⟩;rw[j8]at rz;subst rz;refine⟨k',rfl,?_⟩;have s13:=(s1.trans s2).trans s3;rcases ek with⟨rfl,e2⟩ | ⟨rfl,e0⟩
 ·obtain⟨w,ew,e3⟩:=j1 e2;exact Zr ⟨H0,O0,Z,O,w,R.grow s13,ew,fun vw H4 s4 rw'=>hf' O H4 y w _ vy vw _ ((ry.same s3).same s4) rw' (fun p hp=>(R.grow (s13.trans s4)).new hp) e3 fun v H' s r=>⟨k,by rw[j8]at r;exact r,q H' ((s13.trans s4).trans s)⟩⟩
 ·cases e0;exact Zq ⟨false,rfl,q _ s13⟩
@[simp] noncomputable def JJ(dt:DT)(Z:jk):Option Bool:=(dt Z).bind fun k=>some (!k)
def Ff(h:PT X a (tT K dt)):PT X (.UnaryOp .Not a pos) (tT K (JJ dt)):=KA (Ct h) fun U H Q xx=>by
 obtain⟨H0,O0,Z,O,k,R,ed,q⟩:=xx;obtain⟨k',e1,e2⟩:=j1 ed;cases e2;exact⟨H0,O0,Z,O,k',R,e1,fun H' s=>q H' s⟩
@[simp] noncomputable def J3(dt du:DT)(Z:jk):Option Bool:=(dt Z).bind fun k=>if k=true then du Z else some false
@[simp] noncomputable def Yu(dt du:DT)(Z:jk):Option Bool:=(dt Z).bind fun k=>if k=true then some true else du Z
def D0(h:PT X a (tT K dt)):PW X (.BoolOp .And [a] pos) (tT K dt):=B5 h
def Fg(h:PT X a (tT K dt)):PW X (.BoolOp .Or [a] pos) (tT K dt):=Cq h
def Fh{dt du:DT}{rest:List Expr}(h:PT X a (tT K dt))(h2:PW X (.BoolOp .And (b::rest) pos) (tT K du)):PW X (.BoolOp .And (a::b::rest) pos) (tT K (J3 dt du)):=A_ (Cr h h2) fun U H Q xx=>by
 obtain⟨H0,O0,Z,O,k,R,ed,q⟩:=xx;obtain⟨k',e1,e2⟩:=j1 ed;refine⟨H0,O0,Z,O,k',R,e1,fun H' s=>?_⟩;cases k' with
 | true=>rw[if_pos rfl]at e2;exact Zr ⟨H0,O0,Z,O,k,R.grow s,e2,fun H2 s2=>q H2 (s.trans s2)⟩
 | false=>rw[if_neg Bool.false_ne_true]at e2;cases e2;exact Zq (q H' s)
def Ig{dt du:DT}{rest:List Expr}(h:PT X a (tT K dt))(h2:PW X (.BoolOp .Or (b::rest) pos) (tT K du)):PW X (.BoolOp .Or (a::b::rest) pos) (tT K (Yu dt du)):=A_ (ES h h2) fun U H Q xx=>by
 obtain⟨H0,O0,Z,O,k,R,ed,q⟩:=xx;obtain⟨k',e1,e2⟩:=j1 ed;refine⟨H0,O0,Z,O,k',R,e1,fun H' s=>?_⟩;cases k' with
 | true=>rw[if_pos rfl]at e2;cases e2;exact Zr (q H' s)
 | false=>rw[if_neg Bool.false_ne_true]at e2;exact Zq ⟨H0,O0,Z,O,k,R.grow s,e2,fun H2 s2=>q H2 (s.trans s2)⟩
def D4(h:PW X e (tT K dt)):PT X e (tT K dt):=h.pt
@[simp] noncomputable def Ju(da db:DE)(Z:jk):Option D:=(da Z).bind fun x=>match x with
 | .bl true=>db Z
 | .bl false=>some (.bl false)
 | _=>none
@[simp] noncomputable def Ub(da db:DE)(Z:jk):Option D:=(da Z).bind fun x=>match x with
 | .bl true=>some (.bl true)
 | .bl false=>db Z
 | _=>none
@[simp] noncomputable def Q8(da:DE)(Z:jk):Option D:=(da Z).bind fun x=>match x with
 | .bl k=>some (.bl (!k))
 | _=>none
def bb{op}(h:PE X a (tE K da)):PE X (.BoolOp op [a] pos) (tE K da):=Cu h
def Fi{rest:List Expr}(ha:PE X a (tR K da))(hb:PE X (.BoolOp .And (b::rest) pos) (tE K db)):PE X (.BoolOp .And (a::b::rest) pos) (tE K (Ju da db)):=jD (Cv ha hb) fun U H Q xx=>by
 obtain⟨H0,O0,Z,O,d,R,ed,q⟩:=xx;obtain⟨x,e1,e2⟩:=j1 ed;refine⟨H0,O0,Z,O,x,R,e1,fun v H' s r=>?_⟩;split at e2
 ·exact⟨true,r.bl,Zr ⟨H0,O0,Z,O,d,R.grow s,e2,fun v H2 s2 r2=>q v H2 (s.trans s2) r2⟩⟩
 ·cases e2;exact⟨false,r.bl,Zq (q _ _ s (by rw[j8]))⟩
 ·cases e2
def Ih{rest:List Expr}(ha:PE X a (tR K da))(hb:PE X (.BoolOp .Or (b::rest) pos) (tE K db)):PE X (.BoolOp .Or (a::b::rest) pos) (tE K (Ub da db)):=jD (EV ha hb) fun U H Q xx=>by
 obtain⟨H0,O0,Z,O,d,R,ed,q⟩:=xx;obtain⟨x,e1,e2⟩:=j1 ed;refine⟨H0,O0,Z,O,x,R,e1,fun v H' s r=>?_⟩;split at e2
 ·cases e2;exact⟨true,r.bl,Zr (q _ _ s (by rw[j8]))⟩
 ·exact⟨false,r.bl,Zq ⟨H0,O0,Z,O,d,R.grow s,e2,fun v H2 s2 r2=>q v H2 (s.trans s2) r2⟩⟩
 ·cases e2
def Fj(ha:PE X a (tR K da)):PE X (.UnaryOp .Not a pos) (tE K (Q8 da)):=jD (Cw ha) fun U H Q xx=>by
 obtain⟨H0,O0,Z,O,d,R,ed,q⟩:=xx;obtain⟨x,e1,e2⟩:=j1 ed;refine⟨H0,O0,Z,O,x,R,e1,fun v H' s r=>?_⟩;split at e2
 ·cases e2;exact⟨_,r.bl,q _ _ s (by rw[j8])⟩
 ·cases e2
@[simp] noncomputable def Yv(da:DE)(Z:jk):Option D:=(da Z).bind fun x=>match x with
 | .int i=>some (.int (-i))
 | _=>none
def Fk(ha:PE X a (tR K da)):PE X (.UnaryOp .USub a pos) (tE K (Yv da)):=jD (f9 CW ha) fun U H Q xx=>by
 obtain⟨H0,O0,Z,O,d,R,ed,q⟩:=xx;obtain⟨x,e1,e2⟩:=j1 ed;refine⟨H0,O0,Z,O,x,R,e1,fun v H' s r=>?_⟩;split at e2
 ·cases e2;exact⟨_,r.int,q _ _ s (by rw[j8])⟩
 ·cases e2
@[simp] noncomputable def gQ(dt:DT)(da db:DE)(Z:jk):Option D:=(dt Z).bind fun k=>if k=true then da Z else db Z
def Fm(hc:PT X c (tT K dt))(ha:PE X a (tE K da))(hb:PE X b (tE K db)):PE X (.IfExp c a b pos) (tE K (gQ dt da db)):=jD (XA hc ha hb) fun U H Q xx=>by
 obtain⟨H0,O0,Z,O,d,R,ed,q⟩:=xx;obtain⟨k,e1,e2⟩:=j1 ed;refine⟨H0,O0,Z,O,k,R,e1,fun H' s=>?_⟩;cases k with
 | true=>rw[if_pos rfl]at e2;exact Zr ⟨H0,O0,Z,O,d,R.grow s,e2,fun v H2 s2 r2=>q v H2 (s.trans s2) r2⟩
 | false=>rw[if_neg Bool.false_ne_true]at e2;exact Zq ⟨H0,O0,Z,O,d,R.grow s,e2,fun v H2 s2 r2=>q v H2 (s.trans s2) r2⟩
def Fo:PA X [] (Yp K []):=b7 yQ fun U H Q xx=>by
 obtain⟨H0,O0,Z,O,ds,R,ed,q⟩:=xx;cases ed;exact q [] H (j5.refl H) trivial
def bc(ht:∀U H Q,(∃H0 O0 Z O d,Rel K H0 O0 Z U H O/\de Z=some d/\∀v H',j5 H H'->AK K O H' k d v->Q v H')->t U H Q)(h:PE X e t)(hr:PA X es (Yp K l))(hs:starEach (e::es) X.env=(false,eval e X.env)::starEach es X.env:=by rfl):PA X (e::es) (Yp K ((k,de)::l)):=b7 (Jj h hr hs) fun U H Q xx=>by
 obtain⟨H0,O0,Z,O,ds,R,ed,q⟩:=xx;obtain⟨d,e1,ed⟩:=j1 ed;obtain⟨ds',e2,ed⟩:=j1 ed;cases ed;exact ht _ _ _ ⟨H0,O0,Z,O,d,R,e1,fun v H1 s1 r1=>⟨H0,O0,Z,O,ds',R.grow s1,e2,fun vs H2 s2 r2=>q _ H2 (s1.trans s2) ⟨r1.same s2,r2⟩⟩⟩
def Ii(h:PE X e (tE K de))(hr:PA X es (Yp K l))(hs:starEach (e::es) X.env=(false,eval e X.env)::starEach es X.env:=by rfl):PA X (e::es) (Yp K ((true,de)::l)):=bc (fun U H Q z=>z) h hr hs
def Ij(h:PE X e (tR K de))(hr:PA X es (Yp K l))(hs:starEach (e::es) X.env=(false,eval e X.env)::starEach es X.env:=by rfl):PA X (e::es) (Yp K ((false,de)::l)):=bc (fun U H Q z=>z) h hr hs
theorem Uc:∀{l:DA} {Z:jk} {ds:List D},zb l Z=some ds->ds.length=l.length
 | [],_,_,h=>by cases h;rfl
 | p::ps,Z,ds,h=>by
  obtain⟨d,e1,h⟩:=j1 h;obtain⟨ds',e2,h⟩:=j1 h;cases h;rw[vXa,vXa,Uc e2]
theorem yx.reps:∀{ks:List Bool} {ds:List D} {vs:List V},yx K O H ks ds vs->ks.all id=true->j4 K (je H O) ds vs
 | [],[],[],_,_=>j4.nil
 | true::_,_::_,_::_,h,e=>j4.cons h.1 (yx.reps h.2 (by simpa using e))
 | false::_,_::_,_::_,h,e=>by simp at e
 | [],[],_::_,h,_=>h.elim
 | [],_::_,_,h,_=>h.elim
 | _::_,[],_,h,_=>h.elim
 | _::_,_::_,[],h,_=>h.elim
theorem yx.len:∀{ks:List Bool} {ds:List D} {vs:List V},yx K O H ks ds vs->vs.length=ds.length/\ks.length=ds.length
 | [],[],[],_=>⟨rfl,rfl⟩
 | _::_,_::_,_::_,h=>by have:=yx.len h.2;simp[this.1,this.2]
 | [],[],_::_,h=>h.elim
 | [],_::_,_,h=>h.elim
 | _::_,[],_,h=>h.elim
 | _::_,_::_,[],h=>h.elim
@[simp] def JK(l:DA)(Z:jk):Option D:=(zb l Z).bind fun ds=>some (.tup ds)
def Fp{l:DA}{x1}(h:PA X es (Yp K l))(hk:(l.map (·.1)).all id=true:=by rfl)(hl:Nat.ble l.length sizeLine=true:=by rfl):PE X (.Tuple es x1 pos) (tE K (JK l)):=jD (d8 h) fun U H Q xx=>by
 obtain⟨H0,O0,Z,O,d,R,ed,q⟩:=xx;obtain⟨ds,e1,e2⟩:=j1 ed;cases e2;refine⟨H0,O0,Z,O,ds,R,e1,fun vs H1 s1 r=>⟨by rw[r.len.1,Uc e1];exact Nat.le_of_ble_eq_true hl,fun p hp=>q _ _ (s1.trans (jQ hp _)) (yX ((R.grow s1).new hp) hp (r.reps hk))⟩⟩
@[simp] def jZ(l:DA)(Z:jk):Option OD:=(zb l Z).bind fun ds=>some (.lst ds)
def Fq{l:DA}(h:PA X es (Yp K l))(hk:(l.map (·.1)).all id=true:=by rfl)(hl:Nat.ble l.length sizeLine=true:=by rfl):PE X (.List es pos) (tF K (jZ l)):=jD (dg h) fun U H Q xx=>by
 obtain⟨H0,O0,Z,O,d,R,ed,q⟩:=xx;obtain⟨ds,e1,e2⟩:=j1 ed;cases e2;refine⟨H0,O0,Z,O,ds,R,e1,fun vs H1 s1 r=>⟨by rw[r.len.1,Uc e1];exact Nat.le_of_ble_eq_true hl,fun p hp=>q _ _ (s1.trans (jQ hp _)) (s1.none hp) (yH hp (r.reps hk))⟩⟩
abbrev WV:=jk->Option (Option Int)
noncomputable def wq(K:Fr)(p:WV):TO:=fun U H Q=>∃H0 O0 Z O o,Rel K H0 O0 Z U H O/\p Z=some o/\∀H',j5 H H'->Q o H'
@[simp] noncomputable def yR:D->Option (Option Int)
 | .int i=>some (some i)
 | _=>none
def Ik:PO X none (wq K fun _=>some none):=fun pins s U H Q I xx=>by
 obtain⟨H0,O0,Z,O,o,R,ed,q⟩:=xx;cases ed;exact Bj pins s U H Q I (q H (j5.refl H))
def Il(h:PE X e (tR K de)):PO X (some e) (wq K fun Z=>(de Z).bind yR):=fun pins s U H Q I xx=>by
 obtain⟨H0,O0,Z,O,o,R,ed,q⟩:=xx;obtain⟨d,e1,e2⟩:=j1 ed;refine Bl h pins s U H Q I ⟨H0,O0,Z,O,d,R,e1,fun v H' s r=>?_⟩;unfold yR at e2;split at e2
 ·cases e2;exact⟨_,r.int,q H' s⟩
 ·cases e2
def Jo(xs:List α)(lo hi:Option Int):List α:=(xs.drop (HT.sIx xs.length 0 lo)).take (HT.sIx xs.length xs.length hi - HT.sIx xs.length 0 lo)
def j4.cut(h:j4 K H l xs)(lo hi:Option Int):j4 K H (Jo l lo hi) (uX xs lo hi):=by
 unfold Jo uX;rw[h.len];exact(h.drop _).take _
theorem j4.ints:∀ns:List Int,j4 K H (ns.map D.int) (ns.map V.int)
 | []=>j4.nil
 | n::ns=>j4.cons (by rw[j8]) (j4.ints ns)
def KB(d:D)(lo hi:Option Int):Option OD:=match d with
 | .lst l=>some (.lst (Jo l lo hi))
 | .scr ns=>some (.lst (Jo (ns.map D.int) lo hi))
 | _=>none
@[simp] theorem Hy(l:List D)(lo hi:Option Int):KB (.lst l) lo hi=some (.lst (Jo l lo hi)):=rfl
@[simp] theorem Hz(l:List Int)(lo hi:Option Int):KB (.scr l) lo hi=some (.lst (Jo (l.map D.int) lo hi)):=rfl
@[simp] def Y5(de:DE)(p q:WV)(Z:jk):Option OD:=(de Z).bind fun d=>(p Z).bind fun lo=>(q Z).bind fun hi=>KB d lo hi
def Fs{lo hi:Option Expr}{p q:WV}{p2:Pos}(he:PE X e (tR K de))(hl:PO X lo (wq K p))(hu:PO X hi (wq K q))(hK:X.K=K:=by rfl):PE X (.Subscript e (.Slice lo hi none p2) pos) (tF K (Y5 de p q)):=jD (KZ Bo he hl hu) fun U H Q xx=>by
 obtain⟨H0,O0,Z,O,d,R,ed,qq⟩:=xx;subst hK;obtain⟨x,e1,ed⟩:=j1 ed;obtain⟨l,e2,ed⟩:=j1 ed;obtain⟨u,e3,ed⟩:=j1 ed;refine⟨H0,O0,Z,O,x,R,e1,fun v H1 s1 r=>⟨H0,O0,Z,O,l,R.grow s1,e2,fun H2 s2=>⟨H0,O0,Z,O,u,R.grow (s1.trans s2),e3,fun H3 s3=>?_⟩⟩⟩;have s13:=(s1.trans s2).trans s3;have r3:=r.same (s2.trans s3);unfold KB at ed;split at ed
 ·cases ed;obtain⟨pp,xs,rfl,h1,h2⟩:=r3.lst;exact⟨pp,xs,rfl,jC.of h1,fun p hp=>qq p _ (s13.trans (jQ hp _)) (s13.none hp) (yH hp (h2.cut l u))⟩
 ·cases ed;have r4:=r3.full;rw[j8]at r4;obtain⟨pp,rfl,h1⟩:=r4;exact⟨pp,_,rfl,h1,fun p hp=>qq p _ (s13.trans (jQ hp _)) (s13.none hp) (yH hp ((j4.ints _).cut l u))⟩
 ·cases ed
def KC(d:D)(lo hi:Option Int):Option D:=match d with
 | .tup l=>if HT.sIx l.length 0 lo=0/\HT.sIx l.length l.length hi=l.length then none else some (.tup (Jo l lo hi))
 | _=>none
@[simp] def Q9(de:DE)(p q:WV)(Z:jk):Option D:=(de Z).bind fun d=>(p Z).bind fun lo=>(q Z).bind fun hi=>KC d lo hi
def Ft{lo hi:Option Expr}{p q:WV}{p2:Pos}(he:PE X e (tR K de))(hl:PO X lo (wq K p))(hu:PO X hi (wq K q))(hK:X.K=K:=by rfl):PE X (.Subscript e (.Slice lo hi none p2) pos) (tE K (Q9 de p q)):=jD (KZ dj he hl hu) fun U H Q xx=>by
 obtain⟨H0,O0,Z,O,d,R,ed,qq⟩:=xx;subst hK;obtain⟨x,e1,ed⟩:=j1 ed;obtain⟨l,e2,ed⟩:=j1 ed;obtain⟨u,e3,ed⟩:=j1 ed;refine⟨H0,O0,Z,O,x,R,e1,fun v H1 s1 r=>⟨H0,O0,Z,O,l,R.grow s1,e2,fun H2 s2=>⟨H0,O0,Z,O,u,R.grow (s1.trans s2),e3,fun H3 s3=>?_⟩⟩⟩;have s13:=(s1.trans s2).trans s3;have r3:=r.same (s2.trans s3);unfold KC at ed;split at ed
 ·split at ed
  ·cases ed
  ·cases ed;obtain⟨pp,xs,rfl,h1,h2⟩:=r3.tup;exact⟨pp,xs,rfl,h1,by rw[h2.len];assumption,fun p hp=>qq _ _ (s13.trans (jQ hp _)) (yX ((R.grow s13).new hp) hp (h2.cut l u))⟩
 ·cases ed
def Fn(K:Fr)(r:List V->Hp->VK->Prop)(f:List D->Option D):Prop:=∀(O:List Addr) (H:Hp) (ks:List Bool) (ds:List D) (vs:List V) (d:D) (Q:VK),yx K O H ks ds vs->(∀p,H p=none->p∉O)->f ds=some d->(∀v H',j5 H H'->j8 K (je H' O) d v->Q v H')->r vs H Q
def D5(K:Fr)(r:List V->Hp->VK->Prop)(f:List D->Option OD):Prop:=∀(O:List Addr) (H:Hp) (ks:List Bool) (ds:List D) (vs:List V) (d:OD) (Q:VK),yx K O H ks ds vs->f ds=some d->(∀l H',j5 H H'->H l=none->JY K H' (je H' (l::O)) l d->Q (.ref l) H')->r vs H Q
@[simp] def j7(f:List D->Option D)(l:DA)(Z:jk):Option D:=(zb l Z).bind f
@[simp] def jK(f:List D->Option OD)(l:DA)(Z:jk):Option OD:=(zb l Z).bind f
def Vw(hf:Fn K r f):∀U H Q,tE K (j7 f l) U H Q->QR r (Yp K l) U H Q:=fun U H Q xx=>by
 obtain⟨H0,O0,Z,O,d,R,ed,q⟩:=xx;obtain⟨ds,e1,e2⟩:=j1 ed;exact⟨H0,O0,Z,O,ds,R,e1,fun vs H1 s1 r1=>hf O H1 _ ds vs d Q r1 (fun p hp=>(R.grow s1).new hp) e2 fun v H' s r=>q v H' (s1.trans s) r⟩
def WW(hf:D5 K r f):∀U H Q,tF K (jK f l) U H Q->QR r (Yp K l) U H Q:=fun U H Q xx=>by
 obtain⟨H0,O0,Z,O,d,R,ed,q⟩:=xx;obtain⟨ds,e1,e2⟩:=j1 ed;exact⟨H0,O0,Z,O,ds,R,e1,fun vs H1 s1 r1=>hf O H1 _ ds vs d Q r1 e2 fun l H' s hn r=>q l H' (s1.trans s) (s1.none hn) r⟩
def vk{O:List Addr}{H:Hp}{ks:List Bool}{d:D}{vs:List V}(h:yx K O H ks [d] vs):∃v,vs=[v]/\RB K O H d v:=by
 cases ks with
 | nil=>exact h.elim
 | cons k ks=>
  cases vs with
  | nil=>exact h.elim
  | cons v vs=>
   obtain⟨h1,h2⟩:=h;have:=yx.len h2;have e:vs=[]:=List.length_eq_zero_iff.mp this.1;subst e;exact⟨v,rfl,AK.rb h1⟩
def Im{O:List Addr}{H:Hp}{ks:List Bool}{d d':D}{vs:List V}(h:yx K O H ks [d,d'] vs):∃v v',vs=[v,v']/\RB K O H d v/\RB K O H d' v':=by
 cases ks with
 | nil=>exact h.elim
 | cons k ks=>
  cases vs with
  | nil=>exact h.elim
  | cons v vs=>
   obtain⟨h1,h2⟩:=h;obtain⟨v',rfl,r⟩:=vk h2;exact⟨v,v',rfl,AK.rb h1,r⟩
@[simp] noncomputable def jY:List D->Option D
 | [.lst l]=>some (.int l.length)
 | [.tup l]=>some (.int l.length)
 | _=>none
def Fv:Fn K (fun xs H Q=>∃p ys,xs=[.ref p]/\(jC K H p ys \/ JN K H p ys)/\Q (.int ys.length) H) jY:=by
 intro O H ks ds vs d Q h hn e q;unfold jY at e;split at e
 ·cases e;obtain⟨v,rfl,r⟩:=vk h;obtain⟨p,xs,rfl,h1,h2⟩:=r.lst;exact⟨p,xs,rfl,.inl (jC.of h1),q _ H (j5.refl H) (by rw[j8,h2.len])⟩
 ·cases e;obtain⟨v,rfl,r⟩:=vk h;obtain⟨p,xs,rfl,h1,h2⟩:=r.tup;exact⟨p,xs,rfl,.inr h1,q _ H (j5.refl H) (by rw[j8,h2.len])⟩
 ·cases e
@[simp] noncomputable def zY:List D->Option OD
 | [.lst l]=>some (.lst l)
 | [.tup l]=>some (.lst l)
 | _=>none
def D6:D5 K (fun xs H Q=>∃p ys,xs=[.ref p]/\(jC K H p ys \/ JN K H p ys)/\∀l,H l=none->Q (.ref l) (upd H l (.lst ys))) zY:=by
 intro O H ks ds vs d Q h e q;unfold zY at e;split at e
 ·cases e;obtain⟨v,rfl,r⟩:=vk h;obtain⟨p,xs,rfl,h1,h2⟩:=r.lst;exact⟨p,xs,rfl,.inl (jC.of h1),fun l hl=>q _ _ (jQ hl _) hl (yH hl h2)⟩
 ·cases e;obtain⟨v,rfl,r⟩:=vk h;obtain⟨p,xs,rfl,h1,h2⟩:=r.tup;exact⟨p,xs,rfl,.inr h1,fun l hl=>q _ _ (jQ hl _) hl (yH hl h2)⟩
 ·cases e
@[simp] noncomputable def yz:List D->Option D
 | [.lst l]=>some (.tup l)
 | [.tup l]=>some (.tup l)
 | _=>none
def Bz:Fn K (fun xs H Q=>∃p ys,xs=[.ref p]/\((jC K H p ys/\∀l,H l=none->Q (.ref l) (upd H l (.tup ys))) \/ (JN K H p ys/\Q (.ref p) H))) yz:=by
 intro O H ks ds vs d Q h hn e q;unfold yz at e;split at e
 ·cases e;obtain⟨v,rfl,r⟩:=vk h;obtain⟨p,xs,rfl,h1,h2⟩:=r.lst;exact⟨p,xs,rfl,.inl ⟨jC.of h1,fun l hl=>q _ _ (jQ hl _) (yX (hn l hl) hl h2)⟩⟩
 ·cases e;obtain⟨v,rfl,r⟩:=vk h;have r0:=r;obtain⟨p,xs,rfl,h1,h2⟩:=r.tup;refine⟨p,xs,rfl,.inr ⟨h1,q _ H (j5.refl H) ?_⟩⟩;rcases r0 with r0 | ⟨_,o,_,z,_⟩
  ·exact r0
  ·cases o <;> cases z
 ·cases e
@[simp] noncomputable def vm:List D->Option D
 | [.int i,.int j]=>some (.int (if j > i then j else i))
 | _=>none
def Fw:Fn K (fun xs H Q=>∃i j,xs=[.int i,.int j]/\Q (.int (if j > i then j else i)) H) vm:=by
 intro O H ks ds vs d Q h hn e q;unfold vm at e;split at e
 ·cases e;obtain⟨v,v',rfl,r,r'⟩:=Im h;exact⟨_,_,by rw[r.int,r'.int],q _ H (j5.refl H) (by rw[j8])⟩
 ·cases e
@[simp] noncomputable def Vd:List D->Option (List Bool)
 | []=>some []
 | .bl b::r=>(Vd r).bind fun bs=>some (b::bs)
 | _::_=>none
theorem Ud:∀{l:List D} {bs:List Bool} {xs:List V},Vd l=some bs->j4 K H l xs->xs=bs.map V.bl
 | [],bs,xs,e,h=>by cases e;rw[j4]at h;exact h
 | .bl b::r,bs,xs,e,h=>by
  obtain⟨bs',e1,e2⟩:=j1 e;cases e2;rw[j4]at h;obtain⟨v,vs,rfl,a,b'⟩:=h;rw[j8]at a;rw[a,Ud e1 b'];rfl
 | .non::_,_,_,e,_=>by cases e
 | .int _::_,_,_,e,_=>by cases e
 | .str _::_,_,_,e,_=>by cases e
 | .tup _::_,_,_,e,_=>by cases e
 | .lst _::_,_,_,e,_=>by cases e
 | .ins _ _ _::_,_,_,e,_=>by cases e
 | .scr _::_,_,_,e,_=>by cases e
@[simp] def zJ:List D->Option D
 | [.lst l]=>(Vd l).bind fun bs=>some (.bl (bs.all id))
 | _=>none
def Fx:Fn K (fun xs H Q=>∃(p:Addr) (bs:List Bool),xs=[.ref p]/\jC K H p (bs.map V.bl)/\Q (.bl (bs.all id)) H) zJ:=by
 intro O H ks ds vs d Q h hn e q;unfold zJ at e;split at e
 ·obtain⟨bs,e1,e2⟩:=j1 e;cases e2;obtain⟨v,rfl,r⟩:=vk h;obtain⟨p,xs,rfl,h1,h2⟩:=r.lst;rw[Ud e1 h2]at h1;exact⟨p,bs,rfl,jC.of h1,q _ H (j5.refl H) (by rw[j8])⟩
 ·cases e
noncomputable def jV(C:Addr)(f:Str):D->Option D
 | .ins C' ns ds=>if C'=C then(ns.zip ds).lookup f else none
 | _=>none
theorem gw{H:Hp}{f:Str}{d:D}:∀{ns:List Str} {ds:List D} {xs:List V},j4 K H ds xs->(ns.zip ds).lookup f=some d->∃v,(ns.zip xs).lookup f=some v/\j8 K H d v
 | [],_,_,_,e=>by cases e
 | _::_,[],_,_,e=>by cases e
 | n::ns,d'::ds,xs,h,e=>by
  rw[j4]at h;obtain⟨v,r,rfl,a,b⟩:=h;rw[List.zip_cons_cons,List.lookup_cons]at e⊢;cases hf:f==n with
  | true=>rw[hf]at e;cases e;exact⟨v,rfl,a⟩
  | false=>rw[hf]at e;exact gw b e
set_option tactic.hygienic true in
theorem Fy(h:PE X e (tR K de))(c:Cls K C)(n:Yy K C f)(hb:attributeBase e f X.env (eval e X.env)=eval e X.env:=by rfl)(hK:X.K=K:=by rfl):PE X (.Attribute e f pos) (tE K (d1 (jV C f) de)):=jD (d5 h hb) fun U H Q xx=>by
 obtain⟨H0,O0,Z,O,d,R,ed,q⟩:=xx;subst hK;obtain⟨x,e1,e2⟩:=j1 ed;refine⟨H0,O0,Z,O,x,R,e1,fun v H' s r=>?_⟩;unfold jV at e2;split at e2
 ·split at e2
  ·rename_i hC;subst hC;obtain⟨a,dx,xs,rfl,h1,hn,h2⟩:=r.ins;obtain⟨v,e3,r3⟩:=gw h2 e2;exact⟨a,_,dx,_,v,rfl,h1,c,n,e3,q v H' s r3⟩
  ·cases e2
 ·cases e2
end
def RP(K:Fr)(H0:Hp)(O0:List Addr)(H:Hp)(O:List Addr)(d:D)(v:V):Prop:=j8 K (je H O) d v \/ RB K O0 H0 d v
def tP(K:Fr)(de:DE):TE:=fun U H Q=>∃H0 O0 Z O d,Rel K H0 O0 Z U H O/\de Z=some d/\∀v H',j5 H H'->RP K H0 O0 H' O d v->Q v H'
def RP.at{K:Fr}{H0 H H':Hp}{O0 O O':List Addr}{d:D}{v:V}(r:RP K H0 O0 H O d v)(s0:j5 H0 H')(s1:j5 (je H0 O0) (je H' O'))(s2:j5 (je H O) (je H' O')):RB K O' H' d v:=by
 rcases r with r | r | ⟨l,o,e1,e2,h1⟩
 ·exact .inl (r.same s2)
 ·exact .inl (r.same s1)
 ·exact .inr ⟨l,o,e1,e2,h1.same (s0 l) s1⟩
def Qa(K:Fr)(J:It)(H0:Hp)(O0:List Addr)(H:Hp)(O:List Addr)(items:List D):Prop:=∀(i:Nat) (H':Hp) (O':List Addr),j5 H0 H'->j5 (je H0 O0) (je H' O')->j5 (je H O) (je H' O')->(∀a∈O',H' a≠none)->
 (∀d,items[i]?=some d->J.go i H'/\∀x H'',J.yld i H' x H''->j5 H' H''/\j8 K (je H'' O') d x)/\(i=items.length->J.stop i H')
abbrev DI:=jk->Option (List D)
def Ze(K:Fr)(di:DI):TI:=fun U H R=>∃H0 O0 Z O items,Rel K H0 O0 Z U H O/\di Z=some items/\∀J H',j5 H H'->Qa K J H0 O0 H' O items->R J H'
section
variable {X:Cx} {K:Fr} {e a b c d tg:Expr} {de da db dc dd:DE} {pos:Pos}
def Io(h:PE X e (tE K de)):PE X e (tP K de):=jD h fun U H Q ⟨H0,O0,Z,O,d,R,ed,q⟩=>⟨H0,O0,Z,O,d,R,ed,fun v H' s r=>q v H' s (.inl r)⟩
@[simp] noncomputable def dP(i:Nat)(Z:jk):Option D:=match Z[i]? with
 | some (.cl d)=>some d
 | some (.bo d)=>some d
 | _=>none
def Fz(i:Nat)(h:PE X (.Name x pos) (Zp i)):PE X (.Name x pos) (tP K (dP i)):=jD h fun U H Q xx=>by
 obtain⟨H0,O0,Z,O,d,R,ed,q⟩:=xx;unfold dP at ed;split at ed
 ·cases ed;obtain⟨v,e1,r⟩:=R.cl i _ (by assumption);exact⟨v,e1,q v H (j5.refl H) (.inl r)⟩
 ·cases ed;obtain⟨v,e1,r⟩:=R.bo i _ (by assumption);exact⟨v,e1,q v H (j5.refl H) (.inr r)⟩
 ·cases ed
def VS(h:PI X tg e wi)(f:∀U H R,wi' U H R->wi U H R):PI X tg e wi':=fun pins s U H R I q=>h pins s U H R I (f U H R q)
def Ip(K:Fr)(tl:TE):TI:=fun U H R=>tl U H fun x H1=>∃a,x=.ref a/\(((∃xs,jC K H1 a xs)/\R (CK K a) H1) \/ ((∃xs,JN K H1 a xs)/\R (CL K a) H1))
def D7(hl:PE X l tl):PI X tg l (Ip X.K tl):=by
 intro pins s U H R I h;refine jv (hl pins s U H _ I h) fun v s1 xx=>?_;obtain⟨x,H1,I1,r1,q1⟩:=xx;obtain⟨a,e,q⟩:=q1;subst e;cases r1;rcases q with⟨⟨xs,hq⟩,q⟩ | ⟨⟨xs,hq⟩,q⟩
 ·obtain⟨its,rv,p,hz⟩:=I1.list hq;refine wpAny_pyIter_list p.isList ?_;refine⟨s1.heap.objs.size,[s1.heap.objs.size],_,_,H1,rfl,I1.kept (t':=s1.toks) fun b o e=>wIa _ e,QK a _,⟨_,wJa _ rfl,rfl,rfl⟩,fun b hb=>?_,q⟩;have e:b=s1.heap.objs.size:=by simpa using hb
  subst e;exact I1.fpOk (wPa _) (I1.hok.fresh (wPa _))
 ·obtain⟨its,rv,p,hz⟩:=I1.tuple hq;refine wpAny_pyIter_tuple (show s1.heap.IsTuple a its.toArray from p) ?_;refine⟨s1.heap.objs.size,[s1.heap.objs.size],_,_,H1,rfl,I1.kept (t':=s1.toks) fun b o e=>wIa _ e,qS a _,⟨_,wJa _ rfl,rfl,rfl⟩,fun b hb=>?_,q⟩;have e:b=s1.heap.objs.size:=by simpa using hb
  subst e;exact I1.fpOk (wPa _) (I1.hok.fresh (wPa _))
noncomputable def YG:D->Option (List D)
 | .lst l=>some l
 | .tup l=>some l
 | _=>none
@[simp] theorem xj(l:List D):YG (.lst l)=some l:=rfl
@[simp] theorem HA(l:List D):YG (.tup l)=some l:=rfl
@[simp] def jU(de:DE)(Z:jk):Option (List D):=(de Z).bind YG
def D8{H0 H:Hp}{O0 O:List Addr}{d:D}{v:V}{l:List D}(r:RP K H0 O0 H O d v)(e:YG d=some l)(s0:j5 H0 H)(s1:j5 (je H0 O0) (je H O)):
  ∃a,v=.ref a/\(((∃xs,jC K H a xs)/\Qa K (CK K a) H0 O0 H O l) \/ ((∃xs,JN K H a xs)/\Qa K (CL K a) H0 O0 H O l)):=by
 unfold YG at e;split at e
 ·cases e;obtain⟨p,xs,rfl,h1,h2⟩:=(r.at s0 s1 (j5.refl _)).lst;refine⟨p,rfl,.inl ⟨⟨xs,jC.of h1⟩,fun i H' O' t0 t1 t2 _=>?_⟩⟩;obtain⟨p',ys,e',g1,g2⟩:=(r.at t0 t1 t2).lst;cases e';refine⟨fun d hd=>?_,fun hi=>⟨ys,jC.of g1,by rw[g2.len,hi];exact wPa _⟩⟩;obtain⟨x,hx,rx⟩:=g2.get hd;refine⟨⟨ys,x,jC.of g1,hx⟩,fun x' H'' y=>?_⟩;obtain⟨e1,y⟩:=y;have z:=y ys (jC.of g1);rw[hx]at z;cases z;rw[e1];exact⟨j5.refl _,rx⟩
 ·cases e;obtain⟨p,xs,rfl,h1,h2⟩:=(r.at s0 s1 (j5.refl _)).tup;refine⟨p,rfl,.inr ⟨⟨xs,h1⟩,fun i H' O' t0 t1 t2 _=>?_⟩⟩;obtain⟨p',ys,e',g1,g2⟩:=(r.at t0 t1 t2).tup;cases e';refine⟨fun d hd=>?_,fun hi=>⟨ys,g1,by rw[g2.len,hi];exact wPa _⟩⟩;obtain⟨x,hx,rx⟩:=g2.get hd;refine⟨⟨ys,x,g1,hx⟩,fun x' H'' y=>?_⟩;obtain⟨e1,y⟩:=y;have z:=y ys g1;rw[hx]at z;cases z;rw[e1];exact⟨j5.refl _,rx⟩
 ·cases e
def FA(h:PE X e (tP K de))(hK:X.K=K:=by rfl):PI X tg e (Ze K (jU de)):=VS (D7 h) fun U H R xx=>by
 obtain⟨H0,O0,Z,O,items,Re,ed,q⟩:=xx;subst hK;obtain⟨d,e1,e2⟩:=j1 ed;refine⟨H0,O0,Z,O,d,Re,e1,fun v H' s r=>?_⟩;have R':=Re.grow s;obtain⟨a,rfl,z⟩:=D8 r e2 R'.keep R'.in0;rcases z with⟨z1,z2⟩ | ⟨z1,z2⟩
 ·exact⟨a,rfl,.inl ⟨z1,q _ H' s z2⟩⟩
 ·exact⟨a,rfl,.inr ⟨z1,q _ H' s z2⟩⟩
noncomputable def Jf(lo:Int)(n:Nat):List D:=(List.range n).map fun(i:Nat)=>D.int (lo+(i:Int))
def D9{H0 H:Hp}{O0 O:List Addr}{lo:Int}{n:Nat}:Qa K (AG lo n) H0 O0 H O (Jf lo n):=fun i H' O' _ _ _ _=>by
 refine⟨fun d hd=>?_,fun hi=>?_⟩
 ·unfold Jf at hd;rw[uAa]at hd;cases q:(List.range n)[i]? with
  | none=>rw[q]at hd;cases hd
  | some j=>
   rw[q]at hd;cases hd;obtain⟨h1,h2⟩:=uSa q;rw[List.getElem_range]at h2;subst h2;rw[List.length_range]at h1;refine⟨h1,fun x H'' y=>?_⟩;obtain⟨e1,e2⟩:=y;rw[e1,e2];exact⟨j5.refl _,by rw[j8]⟩
 ·unfold Jf at hi;rw[vYa,List.length_range]at hi;show n<=i;omega
noncomputable def Jy(j:Int):Bool:=Nat.blt j.natAbs 4611686018427387904
def zc(h1:-4611686018427387904 < j)(h2:j < 4611686018427387904):Jy j=true:=by unfold Jy;rw[Nat.blt_eq];omega
def Qb(h:Jy j=true):-(2 ^ 62)<=j/\j < 2 ^ 62:=by
 unfold Jy at h;rw[Nat.blt_eq]at h;have e:(2:Int) ^ 62=4611686018427387904:=by decide
 rw[e];omega
@[simp] def YH(de:DE)(Z:jk):Option (List D):=(de Z).bind fun d=>match d with
 | .int j=>if Jy j=true then some (Jf 0 j.toNat)else none
 | _=>none
set_option tactic.hygienic true in
theorem Da(hg:Gl X "range")(hm:X.mg "range" = none)(h:PE X a (tR K da))(hs:starEach [a] X.env=[(false,eval a X.env)]:=by rfl):PI X tg (.Call (.Name "range" p) [a] [] pos) (Ze K (YH da)):=VS (QL hg hm (Jj h yQ (by rw[hs];rfl)) hs) fun U H R xx=>by
 obtain⟨H0,O0,Z,O,items,Re,ed,q⟩:=xx;obtain⟨d,e1,e2⟩:=j1 ed;refine⟨H0,O0,Z,O,d,Re,e1,fun v H' s r=>?_⟩;split at e2
 ·split at e2
  ·cases e2;rename_i hj;have hj:=Qb hj;exact⟨_,by rw[r.int],hj.1,hj.2,q _ H' s D9⟩
  ·cases e2
 ·cases e2
def FC(K:Fr)(ta:TA):TI:=fun U H R=>ta U H fun vs H1=>∃k j a b xs ys,vs=[.ref a,.ref b]/\uE K k H1 a xs/\uE K j H1 b ys/\R (Hv K k j a b) H1
def BA(hg:Gl X "zip")(hm:X.mg "zip" = none)(ha:PA X [e1,e2] ta)(hs:starEach [e1,e2] X.env=[(false,eval e1 X.env),(false,eval e2 X.env)]:=by rfl)(hs2:starEach [e2] X.env=[(false,eval e2 X.env)]:=by rfl):
  PI X (.Tuple es x1 tp) (.Call (.Name "zip" p) [e1,e2] [] pos) (FC X.K ta):=by
 intro pins s U H R I h;refine Call_ (Zb I hg hm boot_zip (PyProof.Rows.callWith_type1 (jv (ha pos pins s U H _ I h) fun us s1 xx=>?_) (by rw[hs,hs2]) (by rw[hs2];rfl)));obtain⟨vs,H1,I1,r1,q1⟩:=xx;obtain⟨k,j,a,b,xs,ys,e,qa,qb,q⟩:=q1;subst e;cases r1 with
 | cons r rr=>
  cases rr with
  | cons r' rr=>
   cases rr;cases r;cases r';obtain⟨ia,ra,pa,_⟩:=I1.seqK qa;obtain⟨ib,rb,pb,_⟩:=I1.seqK qb;refine X_ pa pb fun h' b1 b2 b3 b4 b5 bk=>?_;refine wpAny_pyIter_zip b1 ?_;have fr:∀m,JH X pins H1 (s1.heap.objs.size+m):=fun m=>I1.fpOk (vKa _ _) (I1.hok.fresh (vKa _ _));refine⟨_,_,_,_,H1,rfl,I1.kept (t':=s1.toks) bk,af (zipApart_new pa.lt pb.lt),⟨b1,b2,⟨_,_,b3⟩,b4,b5⟩,fun c hc=>?_,q⟩;simp only[List.mem_cons,List.not_mem_nil,or_false]at hc;rcases hc with rfl | rfl | rfl | rfl | rfl
   ·exact fr 4
   ·exact fr 2
   ·exact fr 3
   ·exact fr 0
   ·exact fr 1
def GK{O:List Addr}{H:Hp}{d:D}{v:V}{l:List D}(r:RB K O H d v)(e:YG d=some l):∃k a xs,v=.ref a/\uE K k H a xs/\j4 K (je H O) l xs/\(k=Sk.l↔∃m,d=D.lst m):=by
 unfold YG at e;split at e
 ·cases e;obtain⟨p,xs,rfl,h1,h2⟩:=r.lst;exact⟨.l,p,xs,rfl,jC.of h1,h2,Iff.intro (fun _=>⟨_,rfl⟩) (fun _=>rfl)⟩
 ·cases e;obtain⟨p,xs,rfl,h1,h2⟩:=r.tup;exact⟨.t,p,xs,rfl,h1,h2,Iff.intro (fun z=>nomatch z) (fun z=>by obtain⟨_,z⟩:=z;cases z)⟩
 ·cases e
def bg{k k':Sk}{d:D}(h:k=Sk.l↔∃m,d=D.lst m)(h':k'=Sk.l↔∃m,d=D.lst m):k=k':=by
 cases k <;> cases k' <;> first | rfl | (exact vDa (h'.mpr (h.mp rfl)) (by intro z;cases z)) | (exact vDa (h.mpr (h'.mp rfl)) (by intro z;cases z))
@[simp] def wr(da db:DE)(Z:jk):Option (List D):=(da Z).bind fun x=>(db Z).bind fun y=>(YG x).bind fun l=>(YG y).bind fun m=>some (List.zipWith (fun p q=>D.tup [p,q]) l m)
def av{O:List Addr}{H:Hp}{p:Addr}{d d':D}{x y:V}(hO:p∉O)(hp:H p=none)(r:j8 K (je H O) d x)(r':j8 K (je H O) d' y):j8 K (je (upd H p (.tup [x,y])) O) (.tup [d,d']) (.ref p):=yX hO hp (j4.cons r (j4.cons r' j4.nil))
set_option tactic.hygienic true in
theorem FD{es:List Expr}{x1:Nat}{tp p:Pos}(hg:Gl X "zip")(hm:X.mg "zip" = none)(h:PE X a (tP K da))(h':PE X b (tP K db))(hs:starEach [a,b] X.env=[(false,eval a X.env),(false,eval b X.env)]:=by rfl)(hs2:starEach [b] X.env=[(false,eval b X.env)]:=by rfl)(hK:X.K=K:=by rfl):
  PI X (.Tuple es x1 tp) (.Call (.Name "zip" p) [a,b] [] pos) (Ze K (wr da db)):=VS (BA hg hm (Jj h (Jj h' yQ (by rw[hs2];rfl)) (by rw[hs,hs2])) hs hs2) fun U H R xx=>by
 obtain⟨H0,O0,Z,O,items,Re,ed,q⟩:=xx;subst hK;obtain⟨x,e1,ed⟩:=j1 ed;obtain⟨y,e2,ed⟩:=j1 ed;obtain⟨l,e3,ed⟩:=j1 ed;obtain⟨m,e4,ed⟩:=j1 ed;cases ed;refine⟨H0,O0,Z,O,x,Re,e1,fun v H1 s1 r=>⟨H0,O0,Z,O,y,Re.grow s1,e2,fun v2 H2 s2 r2=>?_⟩⟩;have R1:=Re.grow s1;have R2:=R1.grow s2;have r':RP X.K H0 O0 H2 O x v:=by
  rcases r with r | r
  ·exact .inl (r.same (jm s2))
  ·exact .inr r
 obtain⟨k,p,xs,rfl,h1,h2,hk⟩:=GK (r'.at R2.keep R2.in0 (j5.refl _)) e3;obtain⟨j,p',ys,rfl,h1',h2',hj⟩:=GK (r2.at R2.keep R2.in0 (j5.refl _)) e4;refine⟨k,j,p,p',xs,ys,rfl,h1,h1',q _ H2 (s1.trans s2) fun i H' O' t0 t1 t2 ta=>?_⟩;obtain⟨k2,q2,us,ea,g1,g2,hk2⟩:=GK (r'.at t0 t1 t2) e3;cases ea;cases bg hk hk2;obtain⟨j2,q3,ws,eb,g1',g2',hj2⟩:=GK (r2.at t0 t1 t2) e4;cases eb;cases bg hj hj2;refine⟨fun d hd=>?_,fun hi=>⟨us,ws,g1,g1',?_⟩⟩
 ·rw[List.getElem?_zipWith]at hd;split at hd
  ·cases hd;rename_i dp dq hp hq;obtain⟨u,hu,ru⟩:=g2.get hp;obtain⟨w,hw,rw'⟩:=g2'.get hq;refine⟨⟨us,ws,u,w,g1,g1',hu,hw⟩,fun x' H'' yy=>?_⟩;obtain⟨pp,hpp,rfl,yy⟩:=yy;rw[yy _ _ _ _ g1 g1' hu hw];exact⟨jQ hpp _,av (fun z=>ta pp z hpp) hpp ru rw'⟩
  ·cases hd
 ·rw[List.length_zipWith]at hi;rw[g2.len,g2'.len];omega
noncomputable def YI:Nat->List D->List D
 | _,[]=>[]
 | n,d::ds=>.tup [.int n,d]::YI (n+1) ds
theorem Zf:∀(n:Nat) (l:List D),(YI n l).length=l.length
 | _,[]=>rfl
 | n,d::ds=>by rw[YI,vXa,vXa,Zf]
theorem Ue:∀(n:Nat) (l:List D) (i:Nat) (d:D),(YI n l)[i]?=some d->∃d',l[i]?=some d'/\d=.tup [.int ((n+i:Nat):Int),d']
 | _,[],_,_,h=>by simp[YI]at h
 | n,x::l,0,d,h=>by
  simp[YI]at h;exact⟨x,rfl,by rw[<-h];rfl⟩
 | n,x::l,i+1,d,h=>by
  simp only[YI,List.getElem?_cons_succ]at h;obtain⟨d',h1,h2⟩:=Ue (n+1) l i d h;refine⟨d',by simpa using h1,?_⟩;rw[h2];have:n+1+i=n+(i+1):=by omega
  rw[this]
noncomputable def vZ:D->Option (List D)
 | .lst l=>some l
 | _=>none
@[simp] theorem HB(l:List D):vZ (.lst l)=some l:=rfl
@[simp] def KG(de:DE)(Z:jk):Option (List D):=(de Z).bind fun d=>(vZ d).bind fun l=>some (YI 0 l)
def Db{es:List Expr}{x1:Nat}{tp p:Pos}(hg:Gl X "enumerate")(hm:X.mg "enumerate" = none)(h:PE X a (tP K da))(hs:starEach [a] X.env=[(false,eval a X.env)]:=by rfl)(hK:X.K=K:=by rfl):
  PI X (.Tuple es x1 tp) (.Call (.Name "enumerate" p) [a] [] pos) (Ze K (KG da)):=VS (Bv hg hm (Jj h yQ (by rw[hs];rfl)) hs) fun U H R xx=>by
 obtain⟨H0,O0,Z,O,items,Re,ed,q⟩:=xx;subst hK;obtain⟨x,e1,ed⟩:=j1 ed;obtain⟨l,e3,ed⟩:=j1 ed;cases ed;refine⟨H0,O0,Z,O,x,Re,e1,fun v H1 s1 r=>?_⟩;have R1:=Re.grow s1;unfold vZ at e3;split at e3
 ·cases e3;obtain⟨p,xs,rfl,h1,h2⟩:=(r.at R1.keep R1.in0 (j5.refl _)).lst;refine⟨p,xs,rfl,jC.of h1,q _ H1 s1 fun i H' O' t0 t1 t2 ta=>?_⟩;obtain⟨p',us,ea,g1,g2⟩:=(r.at t0 t1 t2).lst;cases ea;refine⟨fun d hd=>?_,fun hi=>⟨us,jC.of g1,by rw[g2.len,hi,Zf];exact wPa _⟩⟩;obtain⟨d',hd',rfl⟩:=Ue 0 l i d hd;obtain⟨u,hu,ru⟩:=g2.get hd';refine⟨⟨us,u,jC.of g1,hu⟩,fun x' H'' yy=>?_⟩;obtain⟨pp,hpp,rfl,yy⟩:=yy;rw[yy _ _ (jC.of g1) hu];exact⟨jQ hpp _,av (fun z=>ta pp z hpp) hpp (by rw[j8,Nat.zero_add]) ru⟩
 ·cases e3
abbrev DG:=D->jk->Option jk
abbrev xk:=List D->jk->Option jk
def tG(K:Fr)(k:Nat)(g:DG):TG:=fun v U H Q=>∃H0 O0 Z O d Z',Rel K H0 O0 Z U H O/\j8 K (je H O) d v/\g d Z=some Z'/\∀U',Rel K H0 O0 Z' U' H O->U'.drop k=U.drop k->Q U' H
def xl(K:Fr)(k:Nat)(g:xk):WO:=fun vs U H Q=>∃H0 O0 Z O ds Z',Rel K H0 O0 Z U H O/\j4 K (je H O) ds vs/\g ds Z=some Z'/\∀U',Rel K H0 O0 Z' U' H O->U'.drop k=U.drop k->Q U' H
def bh(h:PG X tg t)(f:∀v U H Q,t' v U H Q->t v U H Q):PG X tg t':=fun pins s U H v u Q I r q=>h pins s U H v u Q I r (f v U H Q q)
def xn(h:uS X ts t)(f:∀v U H Q,t' v U H Q->t v U H Q):uS X ts t':=fun pins s U H v u Q I r q=>h pins s U H v u Q I r (f v U H Q q)
@[simp] noncomputable def gN(i:Nat)(d:D)(Z:jk):Option jk:=some (Z.set i (.cl d))
def Dg(h:PG X (.Name x pos) (ZR i))(hi:i < k:=by decide):PG X (.Name x pos) (tG K k (gN i)):=bh h fun v U H Q xx=>by
 obtain⟨H0,O0,Z,O,d,Z',R,r,e,q⟩:=xx;cases e;exact q _ (R.set r i) (List.drop_set_of_lt hi)
@[simp] noncomputable def gZ(ds:List D)(Z:jk):Option jk:=match ds with
 | []=>some Z
 | _=>none
@[simp] noncomputable def gC(g:DG)(gs:xk)(ds:List D)(Z:jk):Option jk:=match ds with
 | d::r=>(g d Z).bind fun Z1=>gs r Z1
 | []=>none
def FE:uS X [] (xl K k gZ):=xn B9 fun v U H Q xx=>by
 obtain⟨H0,O0,Z,O,d,Z',R,r,e,q⟩:=xx;unfold gZ at e;split at e
 ·cases e;rw[j4]at r;exact⟨r,q _ R rfl⟩
 ·cases e
def Dh(h1:PG X e (tG K k g))(h2:uS X es (xl K k gs))(hs:(assignEach (e::es) X.env).map (·.2)=assign e X.env::(assignEach es X.env).map (·.2):=by rfl):uS X (e::es) (xl K k (gC g gs)):=xn (XC h1 h2 hs) fun v U H Q xx=>by
 obtain⟨H0,O0,Z,O,ds,Z',R,r,ed,q⟩:=xx;unfold gC at ed;split at ed
 ·obtain⟨Z1,e1,e2⟩:=j1 ed;rw[j4]at r;obtain⟨v1,vr,rfl,a,b⟩:=r;exact⟨v1,vr,rfl,H0,O0,Z,O,_,Z1,R,a,e1,fun U' R' k1=>⟨H0,O0,Z1,O,_,Z',R',b,e2,fun U2 R2 k2=>q U2 R2 (k2.trans k1)⟩⟩
 ·cases ed
@[simp] noncomputable def gT(n:Nat)(gs:xk)(d:D)(Z:jk):Option jk:=match d with
 | .tup l=>if l.length=n then gs l Z else none
 | _=>none
def FF(n:Nat)(hc:X.calm=true)(h:uS X es (xl K kk gs))(hn:(assignEach es X.env).length=n:=by rfl)(hst:(assignEach es X.env).findIdx? (·.1)=none:=by rfl)(hK:X.K=K:=by rfl):PG X (.Tuple es k pos) (tG K kk (gT n gs)):=bh (CD hc h hn hst) fun v U H Q xx=>by
 obtain⟨H0,O0,Z,O,d,Z',R,r,ed,q⟩:=xx;subst hK;unfold gT at ed;split at ed
 ·split at ed
  ·obtain⟨a,xs,rfl,h1,h2⟩:=RB.tup (.inl r);exact⟨a,xs,rfl,h1,by rw[h2.len];assumption,H0,O0,Z,O,_,Z',R,h2,ed,q⟩
  ·cases ed
 ·cases ed
@[simp] noncomputable def jW(_:jk):Option Bool:=some true
def Iq:Zs X [] (tT K jW):=fun pins s U H Q I xx=>by
 obtain⟨H0,O0,Z,O,b,R,ed,q⟩:=xx;cases ed;exact Bq pins s U H Q I (q H (j5.refl H))
def Ir(h:PT X c (tT K dt)):Zs X [c] (tT K dt):=Br h
@[simp] noncomputable def VT(k:Nat)(caps:List Nat)(Z:jk):jk:=List.replicate k .un++caps.map fun j=>(Z[j]?).getD .un
noncomputable def Jm(g:DG)(dc:DT)(de:DE):List D->jk->Option (List D)
 | [],_=>some []
 | d::ds,Z=>(g d Z).bind fun Z1=>(dc Z1).bind fun k=>if k=true then(de Z1).bind fun y=>(Jm g dc de ds Z).bind fun ys=>some (y::ys)else Jm g dc de ds Z
@[simp] def yt(k:Nat)(caps:List Nat)(di:DI)(g:DG)(dc:DT)(de:DE)(Z:jk):Option OD:=(di Z).bind fun items=>(Jm g dc de items (VT k caps Z)).bind fun ys=>if items.length<=sizeLine then some (.lst ys)else none
def aw(own:List Str)(caps:Tv)(R:Rel K H0 O0 Z U H O)(hnd:(caps.map (·.2)).Nodup):Rel K H0 O0 (VT own.length (caps.map (·.2)) Z) (vX own caps U) H O:=by
 have key:∀(i:Nat) (s:Sl),s≠.un->(VT own.length (caps.map (·.2)) Z)[i]?=some s->∃m x j,i=own.length+m/\caps[m]?=some (x,j)/\Z[j]?=some s/\(vX own caps U)[i]?=some ((U[j]?).join):=fun i s hs e=>by
  unfold VT at e;by_cases hi:i < own.length
  ·rw[uRa (by rw[List.length_replicate];exact hi),List.getElem?_replicate,if_pos hi]at e;cases e;exact vDa rfl hs
  ·rw[List.getElem?_append_right (by rw[List.length_replicate];omega),List.length_replicate,List.map_map,uAa]at e;cases q:caps[i - own.length]? with
   | none=>rw[q]at e;cases e
   | some p=>
    rw[q]at e;obtain⟨x,j⟩:=p;have e:(Z[j]?).getD .un=s:=vFa e;refine⟨i - own.length,x,j,by omega,q,?_,?_⟩
    ·cases z:Z[j]? with
     | none=>rw[z]at e;exact vDa e.symm hs
     | some s'=>rw[z]at e;rw[<-e];rfl
    ·show(own.map (fun _=>(none:Option V))++caps.map fun(p:Str×Nat)=>(U[p.2]?).join)[i]?=_;rw[List.getElem?_append_right (by rw[vYa];omega),vYa,uAa,q];rfl
 have jn:∀{o:Option (Option V)} {v:V},o.join=some v->o=some (some v):=fun {o v} z=>by
  cases o with
  | none=>cases z
  | some w=>cases w with
   | none=>cases z
   | some u=>cases z;rfl
 have mj:∀{m m' j:Nat} {x x':Str},caps[m]?=some (x,j)->caps[m']?=some (x',j)->m=m':=fun {m m' j x x'} c1 c2=>by
  have h1:(caps.map (·.2))[m]?=some j:=by rw[uAa,c1];rfl
  have h2:(caps.map (·.2))[m']?=some j:=by rw[uAa,c2];rfl
  have l1:=(uSa h1).1;exact(List.getElem?_inj l1 hnd).mp (h1.trans h2.symm)
 refine⟨?_,R.sub,R.fr,R.al0,R.al,R.keep,?_,?_,?_,?_,?_⟩
 ·show(own.map (fun _=>(none:Option V))++caps.map fun(p:Str×Nat)=>(U[p.2]?).join).length=_;unfold VT;simp
 ·intro i d e;obtain⟨m,x,j,_,_,e2,e3⟩:=key i _ (by intro z;cases z) e;obtain⟨v,h1,h2⟩:=R.cl j d e2;exact⟨v,by rw[e3,h1];rfl,h2⟩
 ·intro i d e;obtain⟨m,x,j,_,_,e2,e3⟩:=key i _ (by intro z;cases z) e;obtain⟨v,h1,h2⟩:=R.bo j d e2;exact⟨v,by rw[e3,h1];rfl,h2⟩
 ·intro i q o e;obtain⟨m,x,j,_,_,e2,e3⟩:=key i _ (by intro z;cases z) e;obtain⟨l,z,h1,h2⟩:=R.ow j q o e2;exact⟨l,z,by rw[e3,h1];rfl,h2⟩
 ·intro i i' q q' ds es l e e' f f';obtain⟨m,x,j,rfl,c1,e2,e3⟩:=key i _ (by intro z;cases z) e;obtain⟨m',x',j',rfl,c2,e2',e3'⟩:=key i' _ (by intro z;cases z) e';rw[e3]at f;rw[e3']at f';have ej:=R.dist j j' q q' ds es l e2 e2' (jn (vFa f)) (jn (vFa f'));subst ej;rw[mj c1 c2]
 ·intro i ls e;obtain⟨m,x,j,rfl,c1,e2,e3⟩:=key i _ (by intro z;cases z) e;obtain⟨l,ps,h1,h2,nd,f,u⟩:=R.lo j ls e2;refine⟨l,ps,by rw[e3,h1];rfl,h2,nd,fun a ha=>⟨(f a ha).1,(f a ha).2.1,fun⟨k,q,o,y,z⟩=>(f a ha).2.2 ?_⟩,fun k ms y=>?_⟩
  ·obtain⟨_,_,j',_,_,y2,y3⟩:=key k _ (by intro z;cases z) y;rw[y3]at z;exact⟨j',q,o,y2,jn (vFa z)⟩
  ·obtain⟨m',x',j',rfl,c2,y2,_⟩:=key k _ (by intro z;cases z) y;have:=u j' ms y2;subst this;rw[mj c1 c2]
end
section
variable {X:Cx} {K:Fr} {e a b c d tg:Expr} {de da db dc dd:DE} {pos:Pos}
set_option tactic.hygienic true
theorem wt{own:List Str}{caps:Tv}{di:DI}{g:DG}{dc:DT}{de:DE}(hnd:(caps.map (·.2)).Nodup):∀U H Q,tF K (yt own.length (caps.map (·.2)) di g dc de) U H Q->dJ own caps (Ze K di) (tG K own.length g) (tT K dc) (tE K de) U H Q:=fun U H Q xx=>by
 obtain⟨H0,O0,Z,O,o,R,ed,q⟩:=xx;obtain⟨items,e1,ed⟩:=j1 ed;obtain⟨ys,e2,ed⟩:=j1 ed;split at ed
 ·rename_i hz;cases ed;refine⟨H0,O0,Z,O,items,R,e1,fun J H1 s1 hJ=>?_⟩;have R1:=R.grow s1;have Rc:=aw own caps R1 hnd;refine⟨fun i m vs H'=>∃ys1 ys2,Jm g dc de (items.drop i) (VT own.length (caps.map (·.2)) Z)=some ys2/\ys1++ys2=ys/\j5 H1 H'/\j4 K (je H' O) ys1 vs/\m=items.length - i/\i<=items.length/\ys1.length<=i,⟨items.length,[],ys,by simpa using e2,rfl,j5.refl _,j4.nil,rfl,Nat.zero_le _,wPa _⟩,?_⟩;rintro i m vs H' ⟨ys1,ys2,d1,d2,sH,rp,rfl,hi,hy⟩;have R2:=R1.grow sH;obtain⟨hgo,hstop⟩:=hJ i H' O R2.keep R2.in0 (jm sH) R2.al;by_cases hlt:i < items.length
  ·right;have hx:items[i]?=some items[i]:=by simp[hlt]
   have hd:items.drop i=items[i]::items.drop (i+1):=(List.getElem_cons_drop hlt).symm;rw[hd]at d1;obtain⟨g1,g2⟩:=hgo _ hx;refine⟨g1,by rw[rp.len];lia,fun vs' H4=>∃ys1 ys2,Jm g dc de (items.drop (i+1)) (VT own.length (caps.map (·.2)) Z)=some ys2/\ys1++ys2=ys/\j5 H1 H4/\j4 K (je H4 O) ys1 vs'/\ys1.length<=i+1,?_,fun x H'' y=>?_⟩
   ·rintro vs' H4 ⟨z1,z2,a1,a2,a3,a4,a5⟩;exact⟨items.length - (i+1),by lia,z1,z2,a1,a2,a3,a4,rfl,hlt,a5⟩
   ·obtain⟨sy,rx⟩:=g2 x H'' y;obtain⟨Z1,f1,f2⟩:=j1 d1;obtain⟨k,f3,f4⟩:=j1 f2;refine⟨H0,O0,_,O,_,Z1,Rc.grow (sH.trans sy),rx,f1,fun U2 R3 kd=>⟨kd,H0,O0,Z1,O,k,R3,f3,fun H3 s3=>?_⟩⟩;cases k with
    | true=>
     rw[if_pos rfl]at f4;obtain⟨y1,f5,f6⟩:=j1 f4;obtain⟨yr,f7,f8⟩:=j1 f6;cases f8;refine Zr ⟨H0,O0,Z1,O,y1,R3.grow s3,f5,fun v H4 s4 rv=>?_⟩;exact⟨ys1++[y1],yr,f7,by rw[<-d2];simp,sH.trans (sy.trans (s3.trans s4)),(rp.same (jm (sy.trans (s3.trans s4)))).snoc rv,by simp;exact hy⟩
    | false=>
     rw[if_neg Bool.false_ne_true]at f4;exact Zq ⟨ys1,ys2,f4,d2,sH.trans (sy.trans s3),rp.same (jm (sy.trans s3)),by lia⟩
  ·left;have ei:i=items.length:=by lia
   refine⟨hstop ei,by rw[rp.len];lia,fun Dd hD=>?_⟩;have e0:items.drop i=[]:=List.drop_of_length_le (by lia);rw[e0]at d1;have e3:ys2=[]:=by
    have d1:some []=some ys2:=d1;exact(vFa d1).symm
   rw[e3,uFa]at d2;subst d2;exact q Dd _ ((s1.trans sH).trans (jQ hD _)) ((s1.trans sH).none hD) (yH hD rp)
 ·cases ed
def Iu{iter elt:Expr}{ifs:List Expr}{scope:Scope}{di:DI}{g:DG}{dc:DT}{de:DE}(own:List Str)(caps:Tv)(S:CScope X scope)(hcap:Caps X scope caps)(hc:X.calm=true)(hi:PI X tg iter (Ze K di))
  (hg:∀s3 H3 ex',PG (X.comp (cN own caps) scope s3 H3 ex') tg (tG K own.length g)) (ht:∀s3 H3 ex',Zs (X.comp (cN own caps) scope s3 H3 ex') ifs (tT K dc)) (he:∀s3 H3 ex',PE (X.comp (cN own caps) scope s3 H3 ex') elt (tE K de))
  (hnd:(caps.map (·.2)).Nodup:=by decide) (hs:∀x,foldedSetIterable iter X.env x=pure x:=by intro _;rfl):PE X (.ListComp elt [⟨tg,iter,ifs,0⟩] scope pos) (tF K (yt own.length (caps.map (·.2)) di g dc de)):=jD (fA own caps S hcap hc hi hg ht he hs) (wt hnd)
def Vx(K:Fr)(ks:List Bool)(F:List D->Option D):Sp:=fun vs H Q _=>∃O ds d,(∀a∈O,H a≠none)/\yx K O H ks ds vs/\F ds=some d/\∀v H',j5 H H'->j8 K (je H' O) d v->Q v H'
def WX(K:Fr)(ks:List Bool)(F:List D->Option OD):Sp:=fun vs H Q _=>∃O ds o,(∀a∈O,H a≠none)/\yx K O H ks ds vs/\F ds=some o/\∀l H',j5 H H'->H l=none->JY K H' (je H' (l::O)) l o->Q (.ref l) H'
variable {k:Nat} {x m:Str} {ps:List Str} {p apos:Pos} {es:List Expr} {l:DA} {ks:List Bool}
def xo(G:FnI X.prog X.w X.K X.mg X.base k x ps (Vx K ks F))(hr:Room k X.A)(ha:PA X (e::es) (Yp K l))(hk:l.map (·.1)=ks:=by rfl)(hg:Gl X x:=by rfl)(hdb:(x==("__debug__" : Str))=false:=by decide)
  (he:starEach (e::es) X.env=(false,eval e X.env)::starEach es X.env:=by rfl) (hpl:(backTo pos (starEach es X.env)).any (·.1)=false:=by rfl):PE X (.Call (.Name x p) (e::es) [] pos) (tE K (j7 F l)):=jD (Q7 G hr ha hg hdb he hpl) fun U H Q xx=>by
 obtain⟨H0,O0,Z,O,d,R,ed,q⟩:=xx;subst hk;obtain⟨ds,e1,e2⟩:=j1 ed;refine⟨H0,O0,Z,O,ds,R,e1,fun vs H1 s1 r1=>?_⟩
 (try dsimp only)
 rw[uFa];exact⟨O,ds,d,(R.grow s1).al,r1,e2,fun v H' s r=>q v H' (s1.trans s) r⟩
def Di(G:FnI X.prog X.w X.K X.mg X.base k x ps (WX K ks F))(hr:Room k X.A)(ha:PA X (e::es) (Yp K l))(hk:l.map (·.1)=ks:=by rfl)(hg:Gl X x:=by rfl)(hdb:(x==("__debug__" : Str))=false:=by decide)
  (he:starEach (e::es) X.env=(false,eval e X.env)::starEach es X.env:=by rfl) (hpl:(backTo pos (starEach es X.env)).any (·.1)=false:=by rfl):PE X (.Call (.Name x p) (e::es) [] pos) (tF K (jK F l)):=jD (Q7 G hr ha hg hdb he hpl) fun U H Q xx=>by
 obtain⟨H0,O0,Z,O,d,R,ed,q⟩:=xx;subst hk;obtain⟨ds,e1,e2⟩:=j1 ed;refine⟨H0,O0,Z,O,ds,R,e1,fun vs H1 s1 r1=>?_⟩
 (try dsimp only)
 rw[uFa];exact⟨O,ds,d,(R.grow s1).al,r1,e2,fun l H' s hn r=>q l H' (s1.trans s) (s1.none hn) r⟩
noncomputable def v_(C:Addr)(m:Str)(F:List D->Option D):D->Option D:=fun d=>match d with
 | .ins C' ns ds=>if C'=C/\m∉ns then F [d]else none
 | _=>none
theorem gy:∀{ns:List Str} {xs:List α},m∉ns->(ns.zip xs).lookup m=none
 | [],_,_=>rfl
 | _::_,[],_=>rfl
 | n::ns,x::xs,h=>by
  rw[List.zip_cons_cons,List.lookup_cons];have e:(m==n)=false:=by
   rw[beq_eq_false_iff_ne];exact fun z=>h (by rw[z];exact wNa)
  rw[e];exact gy fun z=>h (wMa _ z)
theorem BB(he:PE X a (tR K da))(c:Cls K C)(M:MtI X.prog X.w X.K X.mg X.base k C m ps (Vx K [false] F))(hr:Room k X.A)
  (ht:eval (.Call (.Attribute a m apos) [] [] pos) X.env=(do
   let ov<-eval a X.env
   standAt apos.atName
   let (f,first)<-holding [ov] (getMethod ov m pl)
   callWith pos f first (backTo pos (starEach [] X.env)) (backToKw pos (keywordEach [] X.env))):=by rfl) (hK:X.K=K:=by rfl):
  PE X (.Call (.Attribute a m apos) [] [] pos) (tE K (d1 (v_ C m F) da)):=by
 subst hK;refine jD (dR he c M hr ht) fun U H Q xx=>?_;obtain⟨H0,O0,Z,O,d,R,ed,q⟩:=xx;obtain⟨x,e1,e2⟩:=j1 ed;refine⟨H0,O0,Z,O,x,R,e1,fun v H1 s1 r=>?_⟩;unfold v_ at e2;split at e2
 ·split at e2
  ·rename_i hh;obtain⟨rfl,hm⟩:=hh;have r0:=r;obtain⟨pa,dx,xs,rfl,h1,hn,h2⟩:=r.ins;exact⟨pa,dx,_,rfl,h1,gy hm,O,[_],d,(R.grow s1).al,⟨r0,trivial⟩,e2,fun v H' s r=>q v H' (s1.trans s) r⟩
  ·cases e2
 ·cases e2
def bi(K:Fr)(C:Addr)(ks:List Bool)(F:Addr->List D->Option OD):Sp:=fun vs H Q _=>∃O ds p dx vs' o,vs=.ref p::vs'/\(∀a∈O,H a≠none)/\H p=some (.ins C dx [])/\p∉O/\yx K O (je H [p]) ks ds vs'/\F p ds=some o/\∀H',j5 (je H [p]) H'->JY K H' (je H' (p::O)) p o->Q .non H'
@[simp] def Qc(F:List D->Option OD)(l:DA)(Z:jk):Option OD:=(zb l Z).bind F
def Dj(M:MkI X.prog X.w X.K X.mg X.base k C x ps (bi K C ks F))(hF:∀p ds o,F1 ds=some o->F p ds=some o)(hr:Room (k+1) X.A)(ha:PA X (e::es) (Yp K l))(hk:l.map (·.1)=ks:=by rfl)(hg:Gl X x:=by rfl)(hdb:(x==("__debug__" : Str))=false:=by decide)
  (he:starEach (e::es) X.env=(false,eval e X.env)::starEach es X.env:=by rfl) (hpl:(backTo pos (starEach es X.env)).any (·.1)=false:=by rfl):PE X (.Call (.Name x p) (e::es) [] pos) (tF K (Qc F1 l)):=jD (fG M hr ha hg hdb he hpl) fun U H Q xx=>by
 obtain⟨H0,O0,Z,O,o,R,ed,q⟩:=xx;subst hk;obtain⟨ds,e1,e2⟩:=j1 ed;refine⟨H0,O0,Z,O,ds,R,e1,fun vs H1 s1 r1=>fun y dy ny ndy hne=>?_⟩
 (try dsimp only)
 rw[uFa];have R1:=R.grow s1;have sB:j5 H1 (je (upd (upd H1 dy (.own y)) y (.ins C dy [])) [y]):=fun c u z=>by
  rw[j_ (by intro w;simp at w;exact jy z ny w),jh (jy z ny),jh (jy z ndy)];exact z
 refine⟨O,ds,y,dy,vs,o,rfl,fun c hc z=>?_,jw,R1.new ny,r1.same sB,hF y ds o e2,fun H' s ow=>⟨rfl,q y H' (s1.trans (sB.trans s)) (s1.none ny) ow⟩⟩;refine R1.al c hc ?_;by_cases h1:c=y
 ·rw[h1];exact ny
 ·rw[jh h1]at z;by_cases h2:c=dy
  ·rw[h2];exact ndy
  ·rw[jh h2]at z;exact z
noncomputable abbrev Xp:=Str×List (Str×V)
inductive Rs where
 | nx (Z:jk) | rt (d:D) | rf (o:OD) | bk (Z:jk) | ct (Z:jk) | xc (p:Xp)
abbrev DS:=jk->Option Rs
def Fin(K:Fr)(Px:Xp->Hp->Prop)(H0:Hp)(O0:List Addr)(H:Hp)(O:List Addr)(E:Ends):Rs->Prop
 | .nx Z=>∀U' H' O',Rel K H0 O0 Z U' H' O'->j5 (je H O) (je H' O')->E.nx U' H'
 | .bk Z=>∀U' H' O',Rel K H0 O0 Z U' H' O'->j5 (je H O) (je H' O')->E.bk U' H'
 | .ct Z=>∀U' H' O',Rel K H0 O0 Z U' H' O'->j5 (je H O) (je H' O')->E.ct U' H'
 | .rt d=>∀v H',j5 H0 H'->j8 K (je H' O0) d v->E.rt v H'
 | .rf o=>∀l H',j5 H0 H'->H0 l=none->JY K H' (je H' (l::O0)) l o->E.rt (.ref l) H'
 | .xc p=>∀H',j5 H0 H'->Px p H'
def Fin.mono{H0 H H1:Hp}{O0 O O1:List Addr}{E:Ends}{r:Rs}(s:j5 (je H O) (je H1 O1))(h:Fin K Px H0 O0 H O E r):Fin K Px H0 O0 H1 O1 E r:=by
 cases r with
 | nx Z=>exact fun U' H' O' R t=>h U' H' O' R (s.trans t)
 | bk Z=>exact fun U' H' O' R t=>h U' H' O' R (s.trans t)
 | ct Z=>exact fun U' H' O' R t=>h U' H' O' R (s.trans t)
 | rt d=>exact h
 | rf o=>exact h
 | xc p=>exact h
def tS(K:Fr)(Px:Xp->Hp->Prop)(ds:DS):TS:=fun E U H=>∃H0 O0 Z O r,Rel K H0 O0 Z U H O/\ds Z=some r/\Fin K Px H0 O0 H O E r
variable {st:Stmt} {rest:List Stmt} {s1 s2:DS}
def Jr{t t':TS}(h:PS X st t)(f:∀D U H,t' D U H->t D U H):PS X st t':=fun pins s U H D I q=>h pins s U H D I (f D U H q)
def GL{t t':TS}(h:Ji X rest t)(f:∀D U H,t' D U H->t D U H):Ji X rest t':=fun pins s U H D I q=>h pins s U H D I (f D U H q)
@[simp] noncomputable def jr(Z:jk):Option Rs:=some (.nx Z)
def Dk:Ji X [] (tS K Px jr):=GL B6 fun D U H xx=>by
 obtain⟨H0,O0,Z,O,r,R,ed,f⟩:=xx;cases ed;exact f U H O R (j5.refl _)
@[simp] noncomputable def j0(s1 s2:DS)(Z:jk):Option Rs:=(s1 Z).bind fun r=>match r with
 | .nx Z1=>s2 Z1
 | r=>some r
def BC(h1:PS X st (tS K Px s1))(h2:Ji X rest (tS K Px s2)):Ji X (st::rest) (tS K Px (j0 s1 s2)):=GL (KS h1 h2) fun D U H xx=>by
 obtain⟨H0,O0,Z,O,r,R,ed,f⟩:=xx;obtain⟨r1,e1,e2⟩:=j1 ed;refine⟨H0,O0,Z,O,r1,R,e1,?_⟩;cases r1 with
 | nx Z1=>exact fun U' H' O' R' t=>⟨H0,O0,Z1,O',r,R',e2,f.mono t⟩
 | bk Z1=>cases e2;exact f
 | ct Z1=>cases e2;exact f
 | rt d=>cases e2;exact f
 | rf o=>cases e2;exact f
 | xc p=>cases e2;exact f
def Dl(h1:PS X st (tS K Px s1)):Ji X [st] (tS K Px s1):=WN h1
@[simp] noncomputable def ZT(_:jk):Option Rs:=none
def ax:Ji X rest (tS K Px ZT):=GL QH fun D U H ⟨H0,O0,Z,O,r,R,ed,f⟩=>by cases ed
@[simp] def Vy(i:Nat)(s:DS)(Z:jk):Option Rs:=match Z[i]? with
 | some (.ow _ o)=>s (Z.set i (.cl o.toD))
 | _=>none
def ay(i:Nat)(h:Ji X rest (tS K Px s1)):Ji X rest (tS K Px (Vy i s1)):=GL h fun D U H xx=>by
 obtain⟨H0,O0,Z,O,r,R,ed,f⟩:=xx;unfold Vy at ed;split at ed
 ·obtain⟨O',R',ss⟩:=R.share (by assumption);exact⟨H0,O0,_,O',r,R',ed,f.mono ss⟩
 ·cases ed
@[simp] noncomputable def jc(dt:DT)(s1 s2:DS)(Z:jk):Option Rs:=(dt Z).bind fun k=>if k=true then s1 Z else s2 Z
def Iv(hc:PT X c (tT K dt))(ha:Ji X sa (tS K Px s1))(hb:Ji X sb (tS K Px s2)):PS X (.If c sa sb pos) (tS K Px (jc dt s1 s2)):=Jr (EY hc ha hb) fun D U H xx=>by
 obtain⟨H0,O0,Z,O,r,R,ed,f⟩:=xx;obtain⟨k,e1,e2⟩:=j1 ed;refine⟨H0,O0,Z,O,k,R,e1,fun H' s=>?_⟩;cases k with
 | true=>rw[if_pos rfl]at e2;exact Zr ⟨H0,O0,Z,O,r,R.grow s,e2,f.mono (jm s)⟩
 | false=>rw[if_neg Bool.false_ne_true]at e2;exact Zq ⟨H0,O0,Z,O,r,R.grow s,e2,f.mono (jm s)⟩
@[simp] noncomputable def ji(i:Nat)(de:DE)(Z:jk):Option Rs:=(de Z).bind fun d=>some (.nx (Z.set i (.cl d)))
def Dm:∀D U H,tS K Px (ji i de) D U H->zI (tE K de) (ZR i) D U H:=fun D U H xx=>by
 obtain⟨H0,O0,Z,O,r,R,ed,f⟩:=xx;obtain⟨d,e1,e2⟩:=j1 ed;cases e2;exact⟨H0,O0,Z,O,d,R,e1,fun v H' s q=>f _ H' O ((R.grow s).set q i) (jm s)⟩
def bj(h:PS X st (zI (tE K de) (ZR i))):PS X st (tS K Px (ji i de)):=Jr h Dm
@[simp] noncomputable def JB(i:Nat)(df:DO)(Z:jk):Option Rs:=(df Z).bind fun o=>some (.nx (Z.set i (.ow none o)))
def Dp:∀D U H,tS K Px (JB i df) D U H->zI (tF K df) (ZR i) D U H:=fun D U H xx=>by
 obtain⟨H0,O0,Z,O,r,R,ed,f⟩:=xx;obtain⟨d,e1,e2⟩:=j1 ed;cases e2;exact⟨H0,O0,Z,O,d,R,e1,fun l H' s hn q=>f _ H' (l::O) (R.own s hn q i) (Zd s hn)⟩
def bn(h:PS X st (zI (tF K df) (ZR i))):PS X st (tS K Px (JB i df)):=Jr h Dp
def gR(h:PS X st (zI te g))(f:∀U H Q,te' U H Q->te U H Q):PS X st (zI te' g):=Jr h fun D U H q=>f U H _ q
def az:∀U H Q,tE K (dL df) U H Q->tF K df U H Q:=fun U H Q xx=>by
 obtain⟨H0,O0,Z,O,d,R,ed,q⟩:=xx;obtain⟨ds,e1,e2⟩:=j1 ed;cases e2;exact⟨H0,O0,Z,O,ds,R,e1,fun l H' s hn r=>q _ _ s ((r.same (fun _ z=>z) (JP fun a h=>wMa _ h)).rep fun u z=>by rw[j_ (R.new hn)];exact z)⟩
@[simp] noncomputable def Zt(de:DE)(g:DG)(Z:jk):Option Rs:=(de Z).bind fun d=>(g d Z).bind fun Z'=>some (.nx Z')
def FG(h:PS X st (zI (tE K de) (tG K kk g))):PS X st (tS K Px (Zt de g)):=Jr h fun D U H xx=>by
 obtain⟨H0,O0,Z,O,r,R,ed,f⟩:=xx;obtain⟨d,e1,ed⟩:=j1 ed;obtain⟨Z',e2,ed⟩:=j1 ed;cases ed;exact⟨H0,O0,Z,O,d,R,e1,fun v H' s q=>⟨H0,O0,Z,O,d,Z',R.grow s,q,e2,fun U' R' _=>f U' H' O R' (jm s)⟩⟩
@[simp] noncomputable def wu(i:Nat)(h:Int->Int->Int)(de:DE)(Z:jk):Option Rs:=(dC i Z).bind fun x=>(de Z).bind fun y=>match x,y with
 | .int p,.int q=>some (.nx (Z.set i (.cl (.int (h p q)))))
 | _,_=>none
def bp(h:PS X st (CF i (tR K de) (CG g))):PS X st (tS K Px (wu i g de)):=Jr h fun D U H xx=>by
 obtain⟨H0,O0,Z,O,r,R,ed,f⟩:=xx;obtain⟨x,e1,ed⟩:=j1 ed;obtain⟨y,e2,ed⟩:=j1 ed;split at ed
 ·cases ed;unfold dC at e1;split at e1
  ·cases e1;obtain⟨v,h1,h2⟩:=R.cl i _ (by assumption);rw[j8]at h2;subst h2;exact⟨_,h1,H0,O0,Z,O,_,R,e2,fun v H' s q=>⟨_,_,rfl,q.int,f _ H' O ((R.grow s).set (by rw[j8]) i) (jm s)⟩⟩
  ·cases e1
 ·cases ed
@[simp] noncomputable def GM(de:DE)(Z:jk):Option Rs:=(de Z).bind fun _=>some (.nx Z)
def xr(h:PS X st (Gy (tR K de))):PS X st (tS K Px (GM de)):=Jr h fun D U H xx=>by
 obtain⟨H0,O0,Z,O,r,R,ed,f⟩:=xx;obtain⟨d,e1,e2⟩:=j1 ed;cases e2;exact⟨H0,O0,Z,O,d,R,e1,fun v H' s q=>f _ H' O (R.grow s) (jm s)⟩
@[simp] noncomputable def JZ(i:Nat)(de:DE)(Z:jk):Option Rs:=match Z[i]? with
 | some (.ow q (.lst ds))=>(de Z).bind fun d=>if ds.length < sizeLine then some (.nx (Z.set i (.ow q (.lst (ds++[d])))))else none
 | _=>none
theorem aA(h:PS X st (Gy (QU K "list" kD (Zp i) (vW (tE K de) gJ)))):PS X st (tS K Px (JZ i de)):=Jr h fun D U H xx=>by
 obtain⟨H0,O0,Z,O,r,R,ed,f⟩:=xx;unfold JZ at ed;split at ed
 ·rename_i q ds hi;obtain⟨d,e1,e2⟩:=j1 ed;split at e2
  ·rename_i hz;cases e2;obtain⟨l,hq,hs,⟨vs,hl,rp⟩,lo,h0⟩:=R.ow i _ _ hi;refine⟨_,hs,.inl ⟨rfl,_,jC.of hl⟩,H0,O0,Z,O,d,R,e1,fun v H' s rv=>?_⟩;have R':=R.grow s;have rp':=rp.same (jm s);refine⟨l,vs,v,rfl,rfl,s _ _ hl,by rw[rp.len];exact hz,f _ _ O (R'.change hi hq hs lo h0 ⟨_,jw,rp'.snoc rv⟩) ?_⟩;rw[Y8 lo];exact jm s
  ·cases e2
 ·cases ed
@[simp] def UV(i:Nat)(dx de:DE)(Z:jk):Option Rs:=match Z[i]? with
 | some (.ow q (.lst ds))=>(de Z).bind fun d=>(dx Z).bind fun j=>match j with
  | .int j=>(uA ds.length j).bind fun n=>some (.nx (Z.set i (.ow q (.lst (ds.set n d)))))
  | _=>none
 | _=>none
set_option tactic.hygienic false
set_option tactic.hygienic true in
theorem Dq(h:PS X st (zI (tE K de) (XD (Zp i) (tR K dx) AS))):PS X st (tS K Px (UV i dx de)):=Jr h fun D U H xx=>by
 obtain⟨H0,O0,Z,O,r,R,ed,f⟩:=xx;unfold UV at ed;split at ed
 ·rename_i q ds hi;obtain⟨d,e1,ed⟩:=j1 ed;obtain⟨j,e2,ed⟩:=j1 ed;split at ed
  ·obtain⟨n,e3,ed⟩:=j1 ed;cases ed;obtain⟨l,hq,hs,⟨vs,hl,rp⟩,lo,h0⟩:=R.ow i _ _ hi;refine⟨H0,O0,Z,O,d,R,e1,fun v H1 s1 rv=>⟨_,hs,H0,O0,Z,O,_,R.grow s1,e2,fun w H2 s2 rw'=>?_⟩⟩;have s12:=s1.trans s2;have R':=R.grow s12;have rp':=rp.same (jm s12);refine⟨l,vs,_,n,rfl,rw'.int,s12 _ _ hl,by rw[rp.len];exact e3,f _ _ O (R'.change hi hq hs lo h0 ⟨_,jw,rp'.set (rv.same (jm s2)) n⟩) ?_⟩;rw[Y8 lo];exact jm s12
  ·cases ed
 ·cases ed
@[simp] noncomputable def jb(de:DE)(Z:jk):Option Rs:=(de Z).bind fun d=>some (.rt d)
def bq(h:PE X e (tE K de)):PS X (.Return (some e) pos) (tS K Px (jb de)):=Jr (Gz h) fun D U H xx=>by
 obtain⟨H0,O0,Z,O,r,R,ed,f⟩:=xx;obtain⟨d,e1,e2⟩:=j1 ed;cases e2;exact⟨H0,O0,Z,O,d,R,e1,fun v H' s q=>f v H' (R.keep.trans s) (q.same (JP R.sub))⟩
@[simp] noncomputable def KH(df:DO)(Z:jk):Option Rs:=(df Z).bind fun o=>some (.rf o)
def Dr(h:PE X e (tF K df)):PS X (.Return (some e) pos) (tS K Px (KH df)):=Jr (Gz h) fun D U H xx=>by
 obtain⟨H0,O0,Z,O,r,R,ed,f⟩:=xx;obtain⟨d,e1,e2⟩:=j1 ed;cases e2;refine⟨H0,O0,Z,O,d,R,e1,fun l H' s hn q=>f l H' (R.keep.trans s) (R.keep.none hn) (q.same (fun _ z=>z) (JP fun a h=>?_))⟩;rcases uTa h with rfl | h
 ·exact wNa
 ·exact wMa _ (R.sub a h)
@[simp] noncomputable def YJ(i:Nat)(Z:jk):Option Rs:=match Z[i]? with
 | some (.ow _ o)=>some (.rf o)
 | _=>none
def Ds(h:PE X (.Name x pos') (Zp i)):PS X (.Return (some (.Name x pos')) pos) (tS K Px (YJ i)):=Jr (Gz h) fun D U H xx=>by
 obtain⟨H0,O0,Z,O,r,R,ed,f⟩:=xx;unfold YJ at ed;split at ed
 ·cases ed;obtain⟨l,_,hs,ow,lo,h0⟩:=R.ow i _ _ (by assumption);refine⟨_,hs,f l H R.keep h0 (ow.same (fun _ z=>z) (JP fun a h=>?_))⟩;rcases uTa h with rfl | h
  ·exact lo
  ·exact R.sub a h
 ·cases ed
def Dt:PS X (.Return none pos) (tS K Px (jb (dK .non))):=Jr B7 fun D U H xx=>by
 obtain⟨H0,O0,Z,O,r,R,ed,f⟩:=xx;cases ed;exact f .non H R.keep (by rw[j8])
noncomputable def jP(g:DG)(s:DS):List D->DS
 | [],Z=>some (.nx Z)
 | d::ds,Z=>(g d Z).bind fun Z1=>(s Z1).bind fun r=>match r with
  | .nx Z2=>jP g s ds Z2
  | .ct Z2=>jP g s ds Z2
  | .bk Z2=>some (.nx Z2)
  | .rt d=>some (.rt d)
  | .rf o=>some (.rf o)
  | .xc p=>some (.xc p)
@[simp] def jR(di:DI)(g:DG)(s:DS)(Z:jk):Option Rs:=(di Z).bind fun items=>jP g s items Z
def FH(hp:PassesOwn (model X.prog X.w) X.A X.env X.xe)(hc:X.calm=true)(hi:PI X tg iter (Ze K di))(hg:PG X tg (tG K kk g))(hb:Ji X body (tS K Px s1))(hs:∀x,foldedSetIterable iter X.env x=pure x:=by intro _;rfl):PS X (.For tg iter body [] pos) (tS K Px (jR di g s1)):=Jr (CM hp hc hi hg hb hs) fun D U H xx=>by
 obtain⟨H0,O0,Z,O,r,R,ed,f⟩:=xx;obtain⟨items,e1,ed⟩:=j1 ed;refine⟨H0,O0,Z,O,items,R,e1,fun J H1 s1' hJ=>?_⟩;have R1:=R.grow s1';have f1:=f.mono (jm s1');refine⟨fun i m U' H'=>∃Z' O',Rel K H0 O0 Z' U' H' O'/\jP g s1 (items.drop i) Z'=some r/\j5 (je H1 O) (je H' O')/\m=items.length - i/\i<=items.length,⟨items.length,Z,O,R1,by simpa using ed,j5.refl _,rfl,Nat.zero_le _⟩,?_⟩;rintro i m U' H' ⟨Z',O',R',d1,sd,rfl,hi'⟩;obtain⟨hgo,hstop⟩:=hJ i H' O' R'.keep R'.in0 sd R'.al;by_cases hlt:i < items.length
 ·right;have hx:items[i]?=some items[i]:=by simp[hlt]
  have hd:items.drop i=items[i]::items.drop (i+1):=(List.getElem_cons_drop hlt).symm;rw[hd]at d1;obtain⟨g1,g2⟩:=hgo _ hx;refine⟨g1,fun U2 H2=>∃Z2 O2,Rel K H0 O0 Z2 U2 H2 O2/\jP g s1 (items.drop (i+1)) Z2=some r/\j5 (je H1 O) (je H2 O2),?_,fun x H'' y=>?_⟩
  ·rintro U2 H2 ⟨Z2,O2,a1,a2,a3⟩;exact⟨items.length - (i+1),by lia,Z2,O2,a1,a2,a3,rfl,hlt⟩
  ·obtain⟨sy,rx⟩:=g2 x H'' y;obtain⟨Z1,f3,f4⟩:=j1 d1;obtain⟨r1,f5,f6⟩:=j1 f4;refine⟨H0,O0,Z',O',_,Z1,R'.grow sy,rx,f3,fun U2 R3 _=>⟨H0,O0,Z1,O',r1,R3,f5,?_⟩⟩;have t1:=sd.trans (jm sy);cases r1 with
   | nx Z2=>exact fun U3 H3 O3 R4 t=>⟨Z2,O3,R4,f6,t1.trans t⟩
   | ct Z2=>exact fun U3 H3 O3 R4 t=>⟨Z2,O3,R4,f6,t1.trans t⟩
   | bk Z2=>cases f6;exact fun U3 H3 O3 R4 t=>f1 U3 H3 O3 R4 (t1.trans t)
   | rt d=>cases f6;exact f1
   | rf o=>cases f6;exact f1
   | xc p=>cases f6;exact f1
 ·left;have ei:i=items.length:=by lia
  refine⟨hstop ei,?_⟩;have e0:items.drop i=[]:=List.drop_of_length_le (by lia);rw[e0]at d1;have d1:some (Rs.nx Z')=some r:=d1;cases d1;exact f1 U' H' O' R' sd
noncomputable def Zg(dt:DT)(s:DS):Nat->DS
 | 0,_=>none
 | n+1,Z=>(dt Z).bind fun k=>if k=true then(s Z).bind fun r=>match r with
  | .nx Z2=>Zg dt s n Z2
  | .ct Z2=>Zg dt s n Z2
  | .bk Z2=>some (.nx Z2)
  | .rt d=>some (.rt d)
  | .rf o=>some (.rf o)
  | .xc p=>some (.xc p)else some (.nx Z)
def BD(n:Nat)(hp:PassesOwn (model X.prog X.w) X.A X.env X.xe)(hc:PT X c (tT K dt))(hb:Ji X body (tS K Px s1)):PS X (.While c body [] pos) (tS K Px (Zg dt s1 n)):=Jr (XE hp hc hb) fun D U H xx=>by
 obtain⟨H0,O0,Z,O,r,R,ed,f⟩:=xx;refine⟨fun m U' H'=>∃Z' O',Rel K H0 O0 Z' U' H' O'/\Zg dt s1 m Z'=some r/\j5 (je H O) (je H' O'),⟨n,Z,O,R,ed,j5.refl _⟩,?_⟩;rintro m U' H' ⟨Z',O',R',d1,sd⟩;cases m with
 | zero=>cases d1
 | succ m=>
  obtain⟨k,e1,e2⟩:=j1 d1;refine⟨H0,O0,Z',O',k,R',e1,fun H2 s2=>?_⟩;have t1:=sd.trans (jm s2);cases k with
  | true=>
   rw[if_pos rfl]at e2;obtain⟨r1,f5,f6⟩:=j1 e2;refine Zr ⟨fun U3 H3=>∃Z3 O3,Rel K H0 O0 Z3 U3 H3 O3/\Zg dt s1 m Z3=some r/\j5 (je H O) (je H3 O3),?_,H0,O0,Z',O',r1,R'.grow s2,f5,?_⟩
   ·rintro U3 H3 ⟨Z3,O3,a1,a2,a3⟩;exact⟨m,Nat.lt_succ_self m,Z3,O3,a1,a2,a3⟩
   ·cases r1 with
    | nx Z2=>exact fun U3 H3 O3 R4 t=>⟨Z2,O3,R4,f6,t1.trans t⟩
    | ct Z2=>exact fun U3 H3 O3 R4 t=>⟨Z2,O3,R4,f6,t1.trans t⟩
    | bk Z2=>cases f6;exact fun U3 H3 O3 R4 t=>f U3 H3 O3 R4 (t1.trans t)
    | rt d=>cases f6;exact f
    | rf o=>cases f6;exact f
    | xc p=>cases f6;exact f
  | false=>
   rw[if_neg Bool.false_ne_true]at e2;cases e2;exact Zq (f U' H2 O' (R'.grow s2) t1)
def BE{iter elt:Expr}{ifs:List Expr}{scope:Scope}{di:DI}{g:DG}{dc:DT}{de:DE}(own:List Str)(caps:Tv){i:Nat}{x:Str}{pos' spos:Pos}(hN:X.N.Nodup)(hix:X.N[i]?=some x)(hx:gp X.env.scope x)(S:CScope X scope)(hcap:Caps X scope caps)(hc:X.calm=true)(hi:PI X tg iter (Ze K di))
  (hg:∀s3 H3 ex',PG (X.comp (cN own caps) scope s3 H3 ex') tg (tG K own.length g)) (ht:∀s3 H3 ex',Zs (X.comp (cN own caps) scope s3 H3 ex') ifs (tT K dc)) (he:∀s3 H3 ex',PE (X.comp (cN own caps) scope s3 H3 ex') elt (tE K de)) (hnd:(caps.map (·.2)).Nodup:=by decide)
  (hs:∀x,foldedSetIterable iter X.env x=pure x:=by intro _;rfl)
  (hsw:swapsWith (.ListComp elt [⟨tg,iter,ifs,0⟩] scope pos) (some (.Name x pos')) spos.line X.env=pure true:=by rfl) (hf:X.fn x=true \/ X.env.scope.names.lookup x=some .local:=by first | exact .inl rfl | exact .inr rfl | assumption):
  PS X (.Assign [.Name x pos'] (.ListComp elt [⟨tg,iter,ifs,0⟩] scope pos) spos) (tS K Px (JB i (yt own.length (caps.map (·.2)) di g dc de))):=
 bn (gR (wd own caps hN hix hx S hcap hc hi hg ht he hs hsw hf) (wt hnd))
def BF{iter elt:Expr}{ifs:List Expr}{scope:Scope}{di:DI}{g:DG}{dc:DT}{de:DE}(own:List Str)(caps:Tv){i:Nat}{x:Str}{pos' spos:Pos}(hN:X.N.Nodup)(hix:X.N[i]?=some x)(hx:gp X.env.scope x)(S:CScope X scope)(hcap:Caps X scope caps)(hc:X.calm=true)(hi:PI X tg iter (Ze K di))
  (hg:∀s3 H3 ex',PG (X.comp (cN own caps) scope s3 H3 ex') tg (tG K own.length g)) (ht:∀s3 H3 ex',Zs (X.comp (cN own caps) scope s3 H3 ex') ifs (tT K dc)) (he:∀s3 H3 ex',PE (X.comp (cN own caps) scope s3 H3 ex') elt (tE K de)) (hnd:(caps.map (·.2)).Nodup:=by decide)
  (hs:∀x,foldedSetIterable iter X.env x=pure x:=by intro _;rfl)
  (hsw:swapsWith (.ListComp elt [⟨tg,iter,ifs,0⟩] scope pos) (some (.Name x pos')) spos.line X.env=pure true:=by rfl) (hf:X.fn x=true \/ X.env.scope.names.lookup x=some .local:=by first | exact .inl rfl | exact .inr rfl | assumption):
  PS X (.Assign [.Name x pos'] (.ListComp elt [⟨tg,iter,ifs,0⟩] scope pos) spos) (tS K Px (ji i (dL (yt own.length (caps.map (·.2)) di g dc de)))):=
 bj (gR (gR (wd own caps hN hix hx S hcap hc hi hg ht he hs hsw hf) (wt hnd)) az)
end
def GN(v:Value)(n:Nat):List.foldl (fun x1 x2=>x1++x2) #[] (List.replicate n #[v])=(List.replicate n v).toArray:=by
 have f:∀(n:Nat) (a:Array Value),List.foldl (fun x1 x2=>x1++x2) a (List.replicate n #[v])=a++(List.replicate n v).toArray:=fun n=>by
  induction n with
  | zero=>intro a;simp
  | succ n ih=>intro a;rw[List.replicate_succ,List.foldl_cons,ih];apply Array.ext';simp[List.replicate_succ]
 rw[f];simp
def Ky(l:Addr)(v:Value)(n:Nat)(dd:Option Addr)(sl:Array (Option Value))(x:Int)(u:Tok)(h1:1 < x)(h2:x<=1000):
  Meets (Builtin.«tuple.__mul__» ⟨[.ref l,.int x u],[]⟩) (fun _ R s=>s.heap.get? l=some { cls:=.type "tuple",dict:=dd,data:=.seq #[v] n,slots:=sl }/\R (.ok (.ret (Value.ref s.heap.objs.size))) { s with heap:=s.heap.push { cls:=Value.type "tuple",data:=Data.seq (List.foldl (fun x1 x2=>x1++x2) #[] (List.replicate x.toNat #[v])) },toks:=s.toks }):=
 .of_wp fun prog w A R s h=>by
  obtain⟨hp,g,d,tk,os⟩:=s;obtain⟨hl,h⟩:=h
  wp_walk
  refine wpAny_ite_false (by simp;lia) ?_
  wp_walk
  refine wpAny_ite_false (by simp;lia) ?_
  wp_walk
  refine wpAny_ite_false (by simp;lia) ?_
  wp_walk
  rw[if_neg (by simp;lia)]
  wp_walk
  refine wpAny_ite_false (by simp[Builtin.Tuple.tupleTooMany,sizeLine];lia) ?_
  wp_walk
  have hz:(List.foldl (fun x1 x2=>x1++x2) #[] (List.replicate x.toNat #[v])).size<=sizeLine:=by
   rw[GN];simp[sizeLine];lia
  first | exact⟨_,rfl,h⟩ | (refine wpAny_ite_false (vBa (Nat.not_lt.mpr hz)) ?_;wp_walk;exact⟨_,rfl,h⟩)
def Kz(l:Addr)(v:Value)(n:Nat)(dd:Option Addr)(sl:Array (Option Value))(u:Tok):
  Meets (Builtin.«tuple.__mul__» ⟨[.ref l,.int 1 u],[]⟩) (fun _ R s=>s.heap.get? l=some { cls:=.type "tuple",dict:=dd,data:=.seq #[v] n,slots:=sl }/\R (.ok (.ret (Value.ref l))) { s with heap:=s.heap,toks:=s.toks }):=
 .of_wp fun prog w A R s h=>by
  obtain⟨hp,g,d,tk,os⟩:=s;obtain⟨hl,h⟩:=h
  wp_walk
  first | exact⟨_,rfl,h⟩ | (refine wpAny_ite_false (by simp) ?_;wp_walk;refine wpAny_ite_true (by simp) ?_;wp_walk;exact⟨_,rfl,h⟩)
def kH(l:Addr)(v:Value)(n:Nat)(dd:Option Addr)(sl:Array (Option Value))(u:Tok):
  Meets (Builtin.«tuple.__mul__» ⟨[.ref l,.int 0 u],[]⟩) (fun _ R s=>s.heap.get? l=some { cls:=.type "tuple",dict:=dd,data:=.seq #[v] n,slots:=sl }/\R (.ok (.ret (Value.ref s.heap.objs.size))) { s with heap:=s.heap.push { cls:=Value.type "tuple",data:=Data.seq #[] },toks:=s.toks }):=
 .of_wp fun prog w A R s h=>by
  obtain⟨hp,g,d,tk,os⟩:=s;obtain⟨hl,h⟩:=h
  wp_walk
  first | exact⟨_,rfl,h⟩ | (refine wpAny_ite_false (by simp) ?_;wp_walk;refine wpAny_ite_false (by simp) ?_;wp_walk;refine wpAny_ite_true (by simp) ?_;wp_walk;exact⟨_,rfl,h⟩)
def gU:fillsNumberSlot (.type "tuple") "mul" = pure false:=
 PySem.fillsNumberSlot_seq (id := "tuple.__mul__") (r:=some (.builtin "tuple.__rmul__")) F.slot_tuple_mul.lookup (by decide +kernel) F.slot_tuple_rmul.lookup (by decide +kernel)
def ww:seqRepeat? (.type "tuple")=pure (some (.builtin "tuple.__mul__")):=by
 unfold seqRepeat?;rw[PySem.seqSlot_of (T := "tuple") (name := "__mul__") (id := "tuple.__mul__") F.slot_tuple_mul.lookup (by decide +kernel),PySem.seqSlot_of (T := "tuple") (name := "__rmul__") (id := "tuple.__rmul__") F.slot_tuple_rmul.lookup (by decide +kernel)];rfl
def kK(a:Int)(t:Tok)(l:Addr)(items:Array Value)(n:Nat)(dd:Option Addr)(sl:Array (Option Value)):
  Meets (Builtin.«int.__rmul__» ⟨[.int a t,.ref l],[]⟩) (fun _ R s=>s.heap.get? l=some { cls:=.type "tuple",dict:=dd,data:=.seq items n,slots:=sl }/\R (.ok (.ret Value.notImplemented)) s):=
 .of_wp fun prog w A R s h=>by obtain⟨hp,g,d,tk,os⟩:=s;obtain⟨hl,h⟩:=h;wp_walk;exact⟨_,rfl,h⟩
section
variable {X:Cx} {K:Fr}
def Qd(K:Fr):R2:=fun x y H Q=>∃l k z,x=.ref l/\y=.int k/\JN K H l [z]/\0<=k/\k<=1000/\(k=1->Q (.ref l) H)/\(k≠1->∀p,H p=none->Q (.ref p) (upd H p (.tup (List.replicate k.toNat z))))
theorem wx(r:jq z v):∀n:Nat,jp (List.replicate n z) (List.replicate n v)
 | 0=>.nil
 | n+1=>by rw[List.replicate_succ,List.replicate_succ];exact .cons r (wx r n)
def BG:jS X (binaryOp .Mult) (Qd X.K):=by
 intro pins s U H x y v u Q I rx ry h;obtain⟨l,k,z,rfl,rfl,hq,h1,h2,q1,q2⟩:=h;cases rx;obtain⟨t,rfl⟩:=ry;obtain⟨its,r,⟨⟨cls,dd,data,sl⟩,ho,hc,n,hd⟩,hz⟩:=I.tuple hq;simp only at hc hd;subst hc hd;obtain⟨w,rfl,rw'⟩:∃w,its=[w]/\jq z w:=by
  cases r with
  | cons a b=>cases b;exact⟨_,rfl,a⟩
 refine wpAny_binaryOp_repeat_ref (T := "tuple") (U := "int") (by decide) ⟨_,ho,rfl⟩ (fun s'=>typeIs_int s' k t) gU F.fills_int_mul F.slot_int_rmul ww F.slot_int_index.lookup
  (call_meets F.slot_int_rmul (typeIs_int s k t) F.entry_int_rmul (F.args_int_rmul_2 _ _) (kK k t l _ n dd sl) ⟨ho,rfl,⟨_,ho,rfl⟩,?_⟩)
 by_cases e1:k=1
 ·subst e1;exact call_meets F.slot_tuple_mul ⟨_,ho,rfl⟩ F.entry_tuple_mul (F.args_tuple_mul_2 _ _) (Kz l w n dd sl t) ⟨ho,.ref l,H,I,rfl,q1 rfl⟩
 ·by_cases e0:k=0
  ·subst e0;refine call_meets F.slot_tuple_mul ⟨_,ho,rfl⟩ F.entry_tuple_mul (F.args_tuple_mul_2 _ _) (kH l w n dd sl t) ⟨ho,.ref s.heap.objs.size,_,I.laid (t':=s.toks) (o:=.tup (List.replicate (0:Int).toNat z)) (fun b ob q=>wIa _ q) (wPa _) ?_,rfl,q2 e1 _ (I.hok.fresh (wPa _))⟩;exact⟨Nat.zero_le _,[],.nil,IsTup.new _ _⟩
  ·refine call_meets F.slot_tuple_mul ⟨_,ho,rfl⟩ F.entry_tuple_mul (F.args_tuple_mul_2 _ _) (Ky l w n dd sl k t (by lia) h2) ⟨ho,?_⟩;rw[GN];refine⟨.ref s.heap.objs.size,_,I.laid (t':=s.toks) (o:=.tup (List.replicate k.toNat z)) (fun b ob q=>wIa _ q) (wPa _) ?_,rfl,q2 e1 _ (I.hok.fresh (wPa _))⟩;exact⟨by rw[List.length_replicate];exact fH (by lia),_,wx rw' _,IsTup.new _ _⟩
@[simp] def yK:D->D->Option D
 | .int i,.int j=>b9 (.int i) (.int j)
 | .tup [z],.int k=>if 0<=k/\k<=1000 then some (.tup (List.replicate k.toNat z))else none
 | _,_=>none
theorem wy{H:Hp}{d:D}{v:V}(h:j8 K H d v):∀n:Nat,j4 K H (List.replicate n d) (List.replicate n v)
 | 0=>j4.nil
 | n+1=>by rw[List.replicate_succ,List.replicate_succ];exact j4.cons h (wy h n)
set_option tactic.hygienic true in
theorem Du:Jk K (fun x y H Q=>rI gH (fun i j=>.int (i * j)) x y H Q \/ Qd K x y H Q) yK:=by
 intro O H a b d x y Q ha hb hn e q;unfold yK at e;split at e
 ·exact .inl (fY O H _ _ d x y Q ha hb hn e q)
 ·split at e
  ·rename_i hk;cases e;right;obtain⟨p,xs,rfl,h1,h2⟩:=ha.tup;obtain⟨v,rfl,rv⟩:∃v,xs=[v]/\j8 K (je H O) _ v:=by
    rw[j4]at h2;obtain⟨v,r,rfl,a1,b1⟩:=h2;rw[j4]at b1;subst b1;exact⟨v,rfl,a1⟩
   refine⟨p,_,v,rfl,hb.int,h1,hk.1,hk.2,fun e1=>?_,fun _ p hp=>q _ _ (jQ hp _) (yX (hn p hp) hp (wy rv _))⟩;refine q _ H (j5.refl H) ?_;subst e1;rcases ha with ha | ⟨_,o,_,z,_⟩
   ·exact ha
   ·cases o <;> cases z
  ·cases e
 ·cases e
def BH:jS X (binaryOp .Mult) (fun x y H Q=>rI gH (fun i j=>.int (i * j)) x y H Q \/ Qd X.K x y H Q):=CT.or BG
def BI:jS X (binaryOp .Add) (fun x y H Q=>ZK (fun i j=>.int (i+j)) x y H Q \/ (fun x y H Q=>Q2 X.K x y H Q \/ (fun x y H Q=>∃i j,x=.str i/\y=.str j/\i.length+j.length<=sizeLine/\Q (.str (i++j)) H) x y H Q) x y H Q):=CQ.or (Bm.or qW)
end
mutual
noncomputable def ZM:D->D->Option Bool
 | .tup l,.tup m=>(zd l m).bind fun b=>some (b&&l.length==m.length)
 | .lst l,.lst m=>if l.length=m.length then zd l m else some false
 | .non,.non=>some true
 | .non,.tup _=>some false
 | .tup _,.non=>some false
 | .int a,.int b=>some (a==b)
 | .bl a,.bl b=>some (a==b)
 | .str a,.str b=>some (a==b)
 | _,_=>none
noncomputable def zd:List D->List D->Option Bool
 | [],_=>some true
 | _::_,[]=>some true
 | a::l,b::m=>(ZM a b).bind fun x=>(zd l m).bind fun y=>some (x&&y)
end
mutual
@[simp] noncomputable def dep:D->Nat
 | .tup l=>vn l+1
 | .lst l=>vn l+1
 | _=>0
@[simp] noncomputable def vn:List D->Nat
 | []=>0
 | d::ds=>max (dep d) (vn ds)
end
theorem D.ind{P:D->Prop}(h:∀d,(∀l,d=.tup l->∀x∈l,P x)->(∀l,d=.lst l->∀x∈l,P x)->P d)(d:D):P d:=
 h d (fun l e x hx=>D.ind h x) (fun l e x hx=>D.ind h x)
termination_by sizeOf d
decreasing_by
 all_goals (subst e;have:=List.sizeOf_lt_of_mem hx;simp;lia)
theorem gV:∀{l:List D} {d:D},d∈l->dep d<=vn l
 | e::l,d,h=>by
  rw[vn];rcases uTa h with rfl | h
  ·exact Nat.le_max_left _ _
  ·exact wSa (gV h) (Nat.le_max_right _ _)
section
variable {X:Cx} {K:Fr}
open PySem.SeqAt
def in1_units{A:Around}:A.in1.units=A.units+1:=rfl
variable {pins:Tq} {U:L2.St} {H:Hp} {s:Shared}
def GO(ih:∀d∈l,∀{d':D} {x:V} {r:Bool},j8 K H d x->j8 K H d' x->ZM d d'=some r->r=true):∀{m:List D} {xs:List V} {r:Bool},j4 K H l xs->j4 K H m xs->zd l m=some r->r=true:=by
 induction l with
 | nil=>intro m xs r _ _ e;rw[zd]at e;cases e;rfl
 | cons a l il=>
  intro m xs r h1 h2 e;cases m with
  | nil=>rw[zd]at e;cases e;rfl
  | cons b m=>
   rw[zd]at e;obtain⟨x,e1,e⟩:=j1 e;obtain⟨y,e2,e⟩:=j1 e;cases e;rw[j4]at h1 h2;obtain⟨v,t,rfl,a1,b1⟩:=h1;obtain⟨v',t',e',a2,b2⟩:=h2;cases e';rw[ih a List.mem_cons_self a1 a2 e1,il (fun d hd=>ih d (List.mem_cons_of_mem _ hd)) b1 b2 e2];rfl
def Kk(I:Inv X pins U H s)(d:D):∀{d':D} {x:V} {r:Bool},j8 X.K H d x->j8 X.K H d' x->ZM d d'=some r->r=true:=by
 induction d using D.ind with
 | h d i1 i2=>
  intro d' x r h1 h2 e;unfold ZM at e;split at e
  ·obtain⟨b,e1,e2⟩:=j1 e;cases e2;rw[j8]at h1 h2;obtain⟨a,xs,rfl,qa,ra⟩:=h1;obtain⟨b',ys,e',qb,rb⟩:=h2;cases e';have exy:=I.tuple_inj qa qb;subst exy;rw[GO (fun d hd=>i1 _ rfl d hd) ra rb e1,<-ra.len,<-rb.len,beq_self_eq_true];rfl
  ·rw[j8]at h1 h2;obtain⟨a,xs,rfl,qa,ra⟩:=h1;obtain⟨b',ys,e',qb,rb⟩:=h2;cases e';rw[qa]at qb;cases qb;rw[if_pos (by rw[<-ra.len,<-rb.len])]at e;exact GO (fun d hd=>i2 _ rfl d hd) ra rb e
  ·cases e;rfl
  ·rw[j8]at h1;rw[j8]at h2;obtain⟨b',ys,e',qb,rb⟩:=h2;rw[h1]at e';cases e'
  ·rw[j8]at h1;rw[j8]at h2;obtain⟨b',ys,e',qb,rb⟩:=h1;rw[h2]at e';cases e'
  ·cases e;rw[j8]at h1 h2;rw[h1]at h2;cases h2;simp
  ·cases e;rw[j8]at h1 h2;rw[h1]at h2;cases h2;simp
  ·cases e;rw[j8]at h1 h2;rw[h1]at h2;cases h2;simp
  ·cases e
theorem KI{l:List D}(ih:∀d∈l,∀{d':D} {x y:V} {u v:Value} {A:Around} {r:Bool},ZM d d'=some r->j8 K H d x->j8 K H d' y->jq x u->jq y v->A.units+dep d < cLine->EqAt A s u v r):∀{m:List D} {xs ys:List V} {us vs:List Value} {A:Around} {r:Bool},zd l m=some r->j4 K H l xs->j4 K H m ys->jp xs us->jp ys vs->A.units+vn l < cLine->
  ∃e:Nat->Bool,(∀(j:Nat) (h1:j < us.length) (h2:j < vs.length),EqAt A s us[j] vs[j] (e j))/\(List.range (min l.length m.length)).all e=r:=by
 induction l with
 | nil=>
  intro m xs ys us vs A r e h1 h2 v1 v2 hu;rw[zd]at e;cases e;rw[j4]at h1;subst h1;cases v1;exact⟨fun _=>true,fun j h1 _=>vDa h1 (by simp),by simp⟩
 | cons a l il=>
  intro m xs ys us vs A r e h1 h2 v1 v2 hu;cases m with
  | nil=>
   rw[zd]at e;cases e;rw[j4]at h2;subst h2;cases v2;exact⟨fun _=>true,fun j _ h2=>vDa h2 (by simp),by simp⟩
  | cons b m=>
   rw[zd]at e;obtain⟨x,e1,e⟩:=j1 e;obtain⟨y,e2,e⟩:=j1 e;cases e;rw[j4]at h1 h2;obtain⟨v,t,rfl,a1,b1⟩:=h1;obtain⟨v',t',rfl,a2,b2⟩:=h2;rw[vn]at hu;cases v1 with
   | cons r1 rr1=>
    cases v2 with
    | cons r2 rr2=>
     obtain⟨e',q1,q2⟩:=il (fun d hd=>ih d (wMa _ hd)) e2 b1 b2 rr1 rr2 (A:=A) (by lia);refine⟨fun j=>match j with | 0=>x | j+1=>e' j,fun j h1 h2=>?_,?_⟩
     ·cases j with
      | zero=>exact ih a wNa e1 a1 a2 r1 r2 (by lia)
      | succ j=>exact q1 j (by simpa using h1) (by simpa using h2)
     ·rw[vXa,vXa,Nat.succ_min_succ,List.range_succ_eq_map,List.all_cons,List.all_map];rw[<-q2];rfl
set_option tactic.hygienic true
theorem Dw(I:Inv X pins U H s)(d:D):∀{d':D} {x y:V} {u v:Value} {A:Around} {r:Bool},ZM d d'=some r->j8 X.K H d x->j8 X.K H d' y->jq x u->jq y v->A.units+dep d < cLine->EqAt A s u v r:=by
 induction d using D.ind with
 | h d i1 i2=>
  intro d' x y u v A r e hx hy rx ry hu;have e0:=e;unfold ZM at e;split at e
  ·obtain⟨b,e1,e2⟩:=j1 e;cases e2;have hx0:=hx;have hy0:=hy;rw[j8]at hx hy;obtain⟨a,xs,rfl,qa,ra⟩:=hx;obtain⟨b',ys,rfl,qb,rb⟩:=hy;cases rx;cases ry;rw[dep]at hu;by_cases hab:a=b'
   ·subst hab;have:=Kk I _ hx0 hy0 e0;rw[this];exact EqAt.same _
   ·obtain⟨ia,va,pa,_⟩:=I.tuple qa;obtain⟨ib,vb,pb,_⟩:=I.tuple qb;have la:=(List.size_toArray (as:=ia)).trans (va.length.symm.trans ra.len);have lb:=(List.size_toArray (as:=ib)).trans (vb.length.symm.trans rb.len);obtain⟨e',h1,h2⟩:=KI (fun d hd=>i1 _ rfl d hd) e1 ra rb va vb (A:=A.in1) (by rw[in1_units];lia);have key:=RcAt.tuples (A:=A) (s:=s) (l:=a) (b:=b') (items:=ia.toArray) (items2:=ib.toArray) (e:=e') pa pb (by lia) (fun j h1' h2'=>by simpa using h1 j (by simpa using h1') (by simpa using h2'));rw[la,lb,h2]at key;exact EqAt.of_refs hab key
  ·have hx0:=hx;have hy0:=hy;rw[j8]at hx hy;obtain⟨a,xs,rfl,qa,ra⟩:=hx;obtain⟨b',ys,rfl,qb,rb⟩:=hy;cases rx;cases ry;rw[dep]at hu;by_cases hab:a=b'
   ·subst hab;have:=Kk I _ hx0 hy0 e0;rw[this];exact EqAt.same _
   ·obtain⟨ia,va,pa,_⟩:=I.list (jC.of qa);obtain⟨ib,vb,pb,_⟩:=I.list (jC.of qb);have la:=(List.size_toArray (as:=ia)).trans (va.length.symm.trans ra.len);have lb:=(List.size_toArray (as:=ib)).trans (vb.length.symm.trans rb.len);split at e
    ·rename_i ell;obtain⟨e',h1,h2⟩:=KI (fun d hd=>i2 _ rfl d hd) e ra rb va vb (A:=A.in1) (by rw[in1_units];lia);have key:=RcAt.lists (A:=A) (s:=s) (l:=a) (b:=b') (items:=ia.toArray) (items2:=ib.toArray) (e:=e') pa.isList pb.isList (by rw[la,lb,ell]) (by lia) (fun j h1' h2'=>by simpa using h1 j (by simpa using h1') (by simpa using h2'));rw[la]at key;rw[<-ell,Nat.min_self]at h2;rw[h2]at key;exact EqAt.of_refs hab key
    ·rename_i ell;cases e;exact EqAt.of_refs hab (RcAt.lists_lengths pa.isList pb.isList (by rw[la,lb];simpa using ell) (by lia))
  ·cases e;rw[j8]at hx hy;subst hx hy;cases rx;cases ry;exact EqAt.same _
  ·cases e;rw[j8]at hx;rw[j8]at hy;subst hx;cases rx;obtain⟨b',ys,rfl,qb,rb⟩:=hy;cases ry;obtain⟨ib,vb,pb,_⟩:=I.tuple qb;exact EqAt.none_tuple pb (by lia)
  ·cases e;rw[j8]at hx;rw[j8]at hy;subst hy;cases ry;obtain⟨b',ys,rfl,qb,rb⟩:=hx;cases rx;obtain⟨ib,vb,pb,_⟩:=I.tuple qb;exact EqAt.tuple_none pb (by lia)
  ·cases e;rw[j8]at hx hy;subst hx hy;obtain⟨t,rfl⟩:=rx;obtain⟨t',rfl⟩:=ry;exact EqAt.int_int _ _ _ _
  ·cases e;rw[j8]at hx hy;subst hx hy;cases rx;cases ry;exact EqAt.bool_bool _ _
  ·cases e;rw[j8]at hx hy;subst hx hy;obtain⟨t,rfl⟩:=rx;obtain⟨t',rfl⟩:=ry;exact EqAt.str_str _ _ _ _
  ·cases e
@[simp] noncomputable def VU:D->D->Bool
 | .lst _,.lst _=>true
 | .tup _,.tup _=>true
 | _,_=>false
def gW(K:Fr)(neg:Bool):R2:=fun x y H Q=>∃d d' r,j8 K H d x/\j8 K H d' y/\VU d d'=true/\ZM d d'=some r/\dep d<=20/\Q (.bl (if neg then !r else r)) H
theorem Dx(I:Inv X pins U H s)(e:ZM d d'=some r)(q:VU d d'=true)(hx:j8 X.K H d x)(hy:j8 X.K H d' y)(rx:jq x u)(ry:jq y v)(hu:A.units+dep d < cLine):RcAt A s u v r/\RcNeAt A s u v (!r):=by
 unfold VU at q;split at q
 ·rw[j8]at hx hy;obtain⟨a,xs,rfl,qa,ra⟩:=hx;obtain⟨b',ys,rfl,qb,rb⟩:=hy;cases rx;cases ry;rw[dep]at hu;rw[ZM]at e;obtain⟨ia,va,pa,_⟩:=I.list (jC.of qa);obtain⟨ib,vb,pb,_⟩:=I.list (jC.of qb);have la:=(List.size_toArray (as:=ia)).trans (va.length.symm.trans ra.len);have lb:=(List.size_toArray (as:=ib)).trans (vb.length.symm.trans rb.len);split at e
  ·rename_i ell;obtain⟨e',h1,h2⟩:=KI (fun d _=>Dw I d) e ra rb va vb (A:=A.in1) (by rw[in1_units];lia);have key:=RcAt.lists (A:=A) (s:=s) (l:=a) (b:=b') (items:=ia.toArray) (items2:=ib.toArray) (e:=e') pa.isList pb.isList (by rw[la,lb,ell]) (by lia) (fun j h1' h2'=>by simpa using h1 j (by simpa using h1') (by simpa using h2'));have key2:=RcNeAt.lists (A:=A) (s:=s) (l:=a) (b:=b') (items:=ia.toArray) (items2:=ib.toArray) (e:=e') pa.isList pb.isList (by rw[la,lb,ell]) (by lia) (fun j h1' h2'=>by simpa using h1 j (by simpa using h1') (by simpa using h2'));rw[la]at key key2;rw[<-ell,Nat.min_self]at h2;rw[h2]at key key2;exact⟨key,key2⟩
  ·rename_i ell;cases e;exact⟨RcAt.lists_lengths pa.isList pb.isList (by rw[la,lb];simpa using ell) (by lia),RcNeAt.lists_lengths pa.isList pb.isList (by rw[la,lb];simpa using ell) (by lia)⟩
 ·rw[j8]at hx hy;obtain⟨a,xs,rfl,qa,ra⟩:=hx;obtain⟨b',ys,rfl,qb,rb⟩:=hy;cases rx;cases ry;rw[dep]at hu;rw[ZM]at e;obtain⟨b,e1,e2⟩:=j1 e;cases e2;obtain⟨ia,va,pa,_⟩:=I.tuple qa;obtain⟨ib,vb,pb,_⟩:=I.tuple qb;have la:=(List.size_toArray (as:=ia)).trans (va.length.symm.trans ra.len);have lb:=(List.size_toArray (as:=ib)).trans (vb.length.symm.trans rb.len);obtain⟨e',h1,h2⟩:=KI (fun d _=>Dw I d) e1 ra rb va vb (A:=A.in1) (by rw[in1_units];lia);have key:=RcAt.tuples (A:=A) (s:=s) (l:=a) (b:=b') (items:=ia.toArray) (items2:=ib.toArray) (e:=e') pa pb (by lia) (fun j h1' h2'=>by simpa using h1 j (by simpa using h1') (by simpa using h2'));have key2:=RcNeAt.tuples (A:=A) (s:=s) (l:=a) (b:=b') (items:=ia.toArray) (items2:=ib.toArray) (e:=e') pa pb (by lia) (fun j h1' h2'=>by simpa using h1 j (by simpa using h1') (by simpa using h2'));rw[la,lb,h2]at key key2;exact⟨key,key2⟩
 ·cases q
def Dy(hr:Room k X.A):jS X (compareOp .Eq) (gW X.K false):=by
 intro pins s U H x y v u Q I rx ry h;obtain⟨d,d',r,hx,hy,q,e,hd,qq⟩:=h;have hu:=hr.units;exact(Dx (A:=X.A) I e q hx hy rx ry (by lia)).1 X.prog X.w X.xe _ ⟨.bl r,H,I,rfl,qq⟩
def Dz(hr:Room k X.A):jS X (compareOp .NotEq) (gW X.K true):=by
 intro pins s U H x y v u Q I rx ry h;obtain⟨d,d',r,hx,hy,q,e,hd,qq⟩:=h;have hu:=hr.units;exact(Dx (A:=X.A) I e q hx hy rx ry (by lia)).2 X.prog X.w X.xe _ ⟨.bl (!r),H,I,rfl,qq⟩
@[simp] def kL(neg:Bool):D->D->Option D:=fun a b=>if VU a b=true/\dep a<=20 then(ZM a b).bind fun r=>some (.bl (if neg then !r else r))else none
set_option tactic.hygienic false
set_option tactic.hygienic true in
theorem br{neg:Bool}:Jk K (gW K neg) (kL neg):=by
 intro O H a b d x y Q ha hb hn e q;unfold kL at e;split at e
 ·rename_i hh;obtain⟨r,e1,e2⟩:=j1 e;cases e2;exact⟨a,b,r,ha.full,hb.full,hh.1,e1,hh.2,q _ H (j5.refl H) (by rw[j8])⟩
 ·cases e
@[simp] def jt(a b:D):Option D:=if VU a b=true then kL false a b else wl a b
@[simp] def J8(a b:D):Option D:=if VU a b=true then kL true a b else ar a b
def Iw:Jk K (fun x y H Q=>AJ x y H Q \/ gW K false x y H Q) jt:=by
 intro O H a b d x y Q ha hb hn e q;unfold jt at e;split at e
 ·exact .inr (br O H a b d x y Q ha hb hn e q)
 ·exact .inl (F8 O H a b d x y Q ha hb hn e q)
def Ix:Jk K (fun x y H Q=>AL x y H Q \/ gW K true x y H Q) J8:=by
 intro O H a b d x y Q ha hb hn e q;unfold J8 at e;split at e
 ·exact .inr (br O H a b d x y Q ha hb hn e q)
 ·exact .inl (Fa O H a b d x y Q ha hb hn e q)
def DB(hr:Room k X.A):jS X (compareOp .Eq) (fun x y H Q=>AJ x y H Q \/ gW X.K false x y H Q):=fc.or (Dy hr)
def DC(hr:Room k X.A):jS X (compareOp .NotEq) (fun x y H Q=>AL x y H Q \/ gW X.K true x y H Q):=fe.or (Dz hr)
@[simp] noncomputable def xu:D->Option V
 | .non=>some .non
 | .bl b=>some (.bl b)
 | .int i=>some (.int i)
 | .str s=>some (.str s)
 | _=>none
@[simp] def gX:List D->Option (List V)
 | []=>some []
 | d::ds=>(xu d).bind fun v=>(gX ds).bind fun vs=>some (v::vs)
def xw(e:xu d=some v)(h:j8 K H d w):w=v/\zX v=true:=by
 unfold xu at e;split at e <;> first | (cases e;rw[j8]at h;exact⟨h,rfl⟩) | cases e
theorem kM:∀{l:List D} {vs xs:List V},gX l=some vs->j4 K H l xs->xs=vs/\vs.all zX=true
 | [],vs,xs,e,h=>by cases e;rw[j4]at h;exact⟨h,rfl⟩
 | d::l,vs,xs,e,h=>by
  rw[gX]at e;obtain⟨v,e1,e⟩:=j1 e;obtain⟨r,e2,e⟩:=j1 e;cases e;rw[j4]at h;obtain⟨w,t,rfl,a,b⟩:=h;obtain⟨h1,h2⟩:=xw e1 a;obtain⟨h3,h4⟩:=kM e2 b;exact⟨by rw[h1,h3],by rw[List.all_cons,h2,h4];rfl⟩
@[simp] def Yq(neg:Bool):D->D->Option D:=fun a b=>(xu a).bind fun v=>(YG b).bind fun l=>(gX l).bind fun vs=>some (.bl (if neg then !w5 v vs else w5 v vs))
def DD:Jk K (dE K neg) (Yq neg):=by
 intro O H a b d x y Q ha hb hn e q;unfold Yq at e;obtain⟨v,e1,e⟩:=j1 e;obtain⟨l,e2,e⟩:=j1 e;obtain⟨vs,e3,e⟩:=j1 e;cases e;obtain⟨h1,h2⟩:=xw e1 ha.full;subst h1;unfold YG at e2;split at e2
 ·cases e2;obtain⟨p,xs,rfl,g1,g2⟩:=hb.lst;obtain⟨h3,h4⟩:=kM e3 g2;subst h3;exact⟨p,xs,rfl,.inl (jC.of g1),h2,h4,q _ H (j5.refl H) (by rw[j8])⟩
 ·cases e2;obtain⟨p,xs,rfl,g1,g2⟩:=hb.tup;obtain⟨h3,h4⟩:=kM e3 g2;subst h3;exact⟨p,xs,rfl,.inr g1,h2,h4,q _ H (j5.refl H) (by rw[j8])⟩
 ·cases e2
@[simp] noncomputable def bu:D->Option Kd
 | .int _=>some .i
 | .bl _=>some .b
 | .str _=>some .s
 | .lst _=>some .l
 | .tup _=>some .t
 | _=>none
def bv(e:bu d=some k)(h:RB K O H d v):ai K H v k:=by
 unfold bu at e;split at e
 ·cases e;rw[h.int];trivial
 ·cases e;rw[h.bl];trivial
 ·cases e;rw[h.str];trivial
 ·cases e;obtain⟨p,xs,rfl,g1,g2⟩:=h.lst;exact⟨xs,jC.of g1⟩
 ·cases e;obtain⟨p,xs,rfl,g1,g2⟩:=h.tup;exact⟨xs,g1⟩
 ·cases e
@[simp] def Zu(T:String):D->Option D:=fun d=>(bu d).bind fun k=>(GD k T).bind fun b=>some (.bl b)
def FJ(h:PE X (.Call (.Name "isinstance" p) [e,e2] [] pos) (QR (dQ X.K) (vW (tR K de) (vW (tC (.ty T)) gJ))))(hK:X.K=K:=by rfl):PE X (.Call (.Name "isinstance" p) [e,e2] [] pos) (tE K (d1 (Zu T) de)):=jD h fun U H Q ⟨H0,O0,Z,O,d,R,ed,q⟩=>by
 subst hK;obtain⟨x,e1,e2⟩:=j1 ed;obtain⟨k,e3,e2⟩:=j1 e2;obtain⟨b,e4,e2⟩:=j1 e2;cases e2;exact⟨H0,O0,Z,O,x,R,e1,fun v H' s r=>⟨v,T,k,b,rfl,bv e3 r,e4,q _ H' s (by rw[j8])⟩⟩
end
@[simp] noncomputable def V0(f:Str)(d:D):List Str->List D->List Str×List D
 | g::ns,x::xs=>if g=f then(g::ns,d::xs)else((g::(V0 f d ns xs).1),x::(V0 f d ns xs).2)
 | _,_=>([f],[d])
section
variable {X:Cx} {K:Fr}
theorem wz{H:Hp}{f:Str}{d:D}{v:V}(r:j8 K H d v):∀{ns:List Str} {ds:List D} {vs:List V},ns.length=vs.length->j4 K H ds vs->∃vs',Y1 f v (ns.zip vs)=(V0 f d ns ds).1.zip vs'/\(V0 f d ns ds).1.length=vs'.length/\j4 K H (V0 f d ns ds).2 vs'
 | [],ds,vs,h,rp=>by
  have e:vs=[]:=List.length_eq_zero_iff.mp h.symm;subst e;have e:ds=[]:=by have:=rp.len;exact List.length_eq_zero_iff.mp this.symm
  subst e;exact⟨[v],rfl,rfl,j4.cons r j4.nil⟩
 | g::ns,[],vs,h,rp=>by rw[j4]at rp;subst rp;cases h
 | g::ns,x::ds,vs,h,rp=>by
  rw[j4]at rp;obtain⟨w,t,rfl,a,b⟩:=rp;rw[V0];by_cases e:g=f
  ·rw[if_pos e];refine⟨v::t,?_,by simpa using h,j4.cons r b⟩;show(if g=f then(g,v)::ns.zip t else _)=_;rw[if_pos e];rfl
  ·rw[if_neg e];obtain⟨vs',q1,q2,q3⟩:=wz (f:=f) r (ns:=ns) (ds:=ds) (vs:=t) (by simpa using h) b;refine⟨w::vs',?_,by simpa using q2,j4.cons a q3⟩;show(if g=f then _ else(g,w)::Y1 f v (ns.zip t))=_;rw[if_neg e,q1];rfl
variable {e o:Expr} {de:DE} {pos pos':Pos} {st:Stmt}
@[simp] def V1(i:Nat)(C:Addr)(f:Str)(de:DE)(Z:jk):Option Rs:=match Z[i]? with
 | some (.ow q (.ins C' ns ds))=>if C'=C/\ns.length < 1000 then(de Z).bind fun d=>some (.nx (Z.set i (.ow q (.ins C' (V0 f d ns ds).1 (V0 f d ns ds).2))))else none
 | _=>none
set_option tactic.hygienic true in
theorem DF{i:Nat}{C:Addr}{f:Str}(h:PS X st (d4 X.K (Zp i) (tE K de) f))(c:Cls K C)(n:Yy K C f)(hK:X.K=K:=by rfl):PS X st (tS K Px (V1 i C f de)):=Jr h fun D U H xx=>by
 obtain⟨H0,O0,Z,O,r,R,ed,fi⟩:=xx;subst hK;unfold V1 at ed;split at ed
 ·rename_i q C' ns ds hi;split at ed
  ·rename_i hh;obtain⟨rfl,hlen⟩:=hh;obtain⟨d,e1,e2⟩:=j1 ed;cases e2;obtain⟨l,hq,hs,⟨dx,vs,hl,hn,rp⟩,lo,h0⟩:=R.ow i _ _ hi;refine⟨H0,O0,Z,O,d,R,e1,fun v H1 s1 rv=>⟨_,hs,l,_,dx,_,rfl,s1 _ _ hl,c,n,?_,?_⟩⟩
   ·rw[List.length_zip,<-hn,Nat.min_self];exact hlen
   have R':=R.grow s1;obtain⟨vs',p1,p2,p3⟩:=wz (f:=f) rv hn (rp.same (jm s1));refine fi _ _ O (R'.change hi hq hs lo h0 ⟨dx,vs',by rw[jw,p1],p2,p3⟩) ?_;rw[Y8 lo];exact jm s1
  ·cases ed
 ·cases ed
@[simp] noncomputable def Zv(ks:List Bool)(ds:List D)(n:Nat):jk:=List.zipWith (fun k d=>if k=true then Sl.cl d else Sl.bo d) ks ds++List.replicate n .un
theorem yx.get{O:List Addr}{H:Hp}:∀{ks:List Bool} {ds:List D} {vs:List V} {i:Nat} {d:D},yx K O H ks ds vs->ds[i]?=some d->∃k v,ks[i]?=some k/\vs[i]?=some v/\AK K O H k d v
 | [],[],[],_,_,_,e=>by simp at e
 | k::_,d::_,v::_,0,_,h,e=>by simp at e;subst e;exact⟨k,v,rfl,rfl,h.1⟩
 | k::_,d::_,v::_,i+1,d',h,e=>by
  obtain⟨k',v',h1,h2,h3⟩:=yx.get (i:=i) h.2 (by simpa using e);exact⟨k',v',by simpa using h1,by simpa using h2,h3⟩
 | [],[],_::_,_,_,h,_=>h.elim
 | [],_::_,_,_,_,h,_=>h.elim
 | _::_,[],_,_,_,h,_=>h.elim
 | _::_,_::_,[],_,_,h,_=>h.elim
def Y9{O:List Addr}{H:Hp}{ks:List Bool}{ds:List D}{vs:List V}{n i:Nat}{s:Sl}(h:yx K O H ks ds vs)(hs:s≠.un)(e:(Zv ks ds n)[i]?=some s):∃k d v,vs[i]?=some v/\AK K O H k d v/\s=(if k=true then Sl.cl d else Sl.bo d):=by
 unfold Zv at e;have hl:=h.len;by_cases hi:i < ds.length
 ·rw[uRa (by rw[List.length_zipWith];lia),List.getElem?_zipWith]at e;have hd:ds[i]?=some ds[i]:=by simp[hi]
  obtain⟨k,v,h1,h2,h3⟩:=h.get hd;rw[h1,hd]at e;cases e;exact⟨k,_,v,h2,h3,rfl⟩
 ·rw[List.getElem?_append_right (by rw[List.length_zipWith];lia),List.getElem?_replicate]at e;split at e
  ·cases e;exact vDa rfl hs
  ·cases e
def Qe{O:List Addr}{H:Hp}{ks:List Bool}{ds:List D}{vs:List V}{n:Nat}(h:yx K O H ks ds vs)(al:∀a∈O,H a≠none):Rel K H O (Zv ks ds n) (vs.map some++List.replicate n none) H O:=by
 have hl:=h.len;have at':∀{i:Nat} {v:V},vs[i]?=some v->(vs.map some++List.replicate n none)[i]?=some (some v):=fun {i v} e=>by
  have:=(uSa e).1;rw[uRa (by rw[vYa];exact this),uAa,e];rfl
 refine⟨?_,fun a h=>h,fun a h=>.inl h,al,al,j5.refl _,?_,?_,?_,?_,?_⟩
 ·unfold Zv;rw[vZa,vZa,vYa,List.length_replicate,List.length_replicate,List.length_zipWith]
  lia
 ·intro i d e;obtain⟨k,d',v,h1,h2,h3⟩:=Y9 h (by intro z;cases z) e;cases k with
  | true=>cases h3;exact⟨v,at' h1,h2⟩
  | false=>cases h3
 ·intro i d e;obtain⟨k,d',v,h1,h2,h3⟩:=Y9 h (by intro z;cases z) e;cases k with
  | true=>cases h3
  | false=>cases h3;exact⟨v,at' h1,h2⟩
 ·intro i q o e;obtain⟨k,d',v,h1,h2,h3⟩:=Y9 h (by intro z;cases z) e;cases k <;> cases h3
 ·intro i j q q' o o' l e;obtain⟨k,d',v,h1,h2,h3⟩:=Y9 h (by intro z;cases z) e;cases k <;> cases h3
 ·intro i ls e;obtain⟨k,d',v,h1,h2,h3⟩:=Y9 h (by intro z;cases z) e;cases k <;> cases h3
@[simp] def Jd(ks:List Bool)(n:Nat)(body:DS):List D->Option D:=fun ds=>(body (Zv ks ds n)).bind fun r=>match r with
 | .rt d=>some d
 | .rf o=>some o.toD
 | .nx _=>some .non
 | _=>none
@[simp] def Vz(ks:List Bool)(n:Nat)(body:DS):List D->Option OD:=fun ds=>(body (Zv ks ds n)).bind fun r=>match r with
 | .rf o=>some o
 | _=>none
@[simp] def xy(C:Addr)(ks:List Bool)(n:Nat)(body:DS):Addr->List D->Option OD:=fun p ds=>(body (.ow (some p) (.ins C [] [])::Zv ks ds n)).bind fun r=>match r with
 | .nx Z=>(match (Z[0]?:Option Sl)with
  | some (Sl.ow q o)=>if q=some p then some o else none
  | _=>none)
 | _=>none
variable {P:Program} {w:World} {mg:Tj} {base:Heap} {x qual:Str} {f:Addr} {fd:FuncData} {N ps:List Str} {k n:Nat} {ks:List Bool} {body:DS}
def Iy(F:Fun K x qual st f fd)(S:FnScope N ps (defScope st))(hk:ks.length=ps.length)(hn:N.length - ps.length=n)
  (hb:∀(cdv:Value) (A:Around) (outer:List Env) (s:Shared) (H:Hp) (E:XK),Room k (A.deeper (envOfC qual (defScope st) s.heap.objs.size f cdv))->Ji (Js Y4 P w K mg base N qual (defScope st) f cdv A outer s H E).nox (defBody st) (tS K Px body)):
  FnOk P w K mg base Y4 (k+1) f fd ps (Vx K ks (Jd ks n body)):=by
 refine F.ok S (fun vs H Q E h=>?_) fun cdv A outer s H vs Q E hr h=>?_
 ·obtain⟨O,ds,d,_,ak,_⟩:=h;have:=ak.len
  lia
 ·obtain⟨O,ds,d,al,ak,e,q⟩:=h;refine⟨_,hb cdv A outer s H E hr,?_⟩;obtain⟨r,e1,e2⟩:=j1 e;have hl:N.length - vs.length=n:=by have:=ak.len;lia
  unfold L2.YE;rw[hl];refine⟨H,O,_,O,r,Qe ak al,e1,?_⟩;cases r with
  | rt d'=>cases e2;exact fun v H' s r=>q v H' s r
  | rf o=>
   cases e2;exact fun l H' s hl ow=>q _ H' s ((ow.same (fun _ z=>z) (JP fun a h=>wMa _ h)).rep fun u z=>by rw[j_ (fun y=>al l y hl)];exact z)
  | nx Z=>cases e2;exact fun U' H' O' R' _=>q _ H' R'.keep (by rw[j8])
  | bk Z=>cases e2
  | ct Z=>cases e2
  | xc p=>cases e2
def Iz(F:Fun K x qual st f fd)(S:FnScope N ps (defScope st))(hk:ks.length=ps.length)(hn:N.length - ps.length=n)
  (hb:∀(cdv:Value) (A:Around) (outer:List Env) (s:Shared) (H:Hp) (E:XK),Room k (A.deeper (envOfC qual (defScope st) s.heap.objs.size f cdv))->Ji (Js Y4 P w K mg base N qual (defScope st) f cdv A outer s H E).nox (defBody st) (tS K Px body)):
  FnOk P w K mg base Y4 (k+1) f fd ps (WX K ks (Vz ks n body)):=by
 refine F.ok S (fun vs H Q E h=>?_) fun cdv A outer s H vs Q E hr h=>?_
 ·obtain⟨O,ds,d,_,ak,_⟩:=h;have:=ak.len
  lia
 ·obtain⟨O,ds,d,al,ak,e,q⟩:=h;refine⟨_,hb cdv A outer s H E hr,?_⟩;obtain⟨r,e1,e2⟩:=j1 e;have hl:N.length - vs.length=n:=by have:=ak.len;lia
  unfold L2.YE;rw[hl];refine⟨H,O,_,O,r,Qe ak al,e1,?_⟩;cases r with
  | rt d'=>cases e2
  | rf o=>cases e2;exact q
  | nx Z=>cases e2
  | bk Z=>cases e2
  | ct Z=>cases e2
  | xc p=>cases e2
set_option tactic.hygienic true in
theorem IA{C:Addr}(F:Fun K x qual st f fd)(S:FnScope N ps (defScope st))(hk:ks.length+1=ps.length)(hn:N.length - ps.length=n)
  (hb:∀(cdv:Value) (A:Around) (outer:List Env) (s:Shared) (H:Hp) (E:XK),Room k (A.deeper (envOfC qual (defScope st) s.heap.objs.size f cdv))->Ji (Js Y4 P w K mg base N qual (defScope st) f cdv A outer s H E).nox (defBody st) (tS K Px body)):
  FnOk P w K mg base Y4 (k+1) f fd ps (bi K C ks (xy C ks n body)):=by
 refine F.ok S (fun vs H Q E h=>?_) fun cdv A outer s H vs Q E hr h=>?_
 ·obtain⟨O,ds,p,dx,vs',o,rfl,_,_,_,ak,_⟩:=h;have:=ak.len;rw[vXa]
  lia
 ·obtain⟨O,ds,p,dx,vs',o,rfl,al,hp,hpO,ak,e,q⟩:=h;refine⟨_,hb cdv A outer s H E hr,?_⟩;obtain⟨r,e1,e2⟩:=j1 e;have hl:N.length - (V.ref p::vs').length=n:=by have:=ak.len;rw[vXa];lia
  unfold L2.YE;rw[hl];have al':∀a∈O,je H [p] a≠none:=fun a ha=>by
   rw[j_ (by intro z;simp at z;exact hpO (z▸ha))];exact al a ha
  have R0:=Qe (n:=n) ak al';have np:je H [p] p=none:=UT wNa;have sH:j5 (je H [p]) H:=yW;have sd:j5 (je (je H [p]) O) (je H (p::O)):=fun b u z=>by
   obtain⟨z1,z2⟩:=yi z;obtain⟨z3,z4⟩:=yi z2;rw[j_ (by intro y;rcases List.mem_cons.mp y with y | y;exact z3 (by rw[y];exact List.mem_cons_self);exact z1 y)];exact z4
  have R:Rel K (je H [p]) O (.ow (some p) (.ins C [] [])::Zv ks ds n) (List.map some (V.ref p::vs')++List.replicate n none) H (p::O):=by
   refine⟨?_,fun a h=>wMa _ h,?_,al',?_,sH,?_,?_,?_,?_,?_⟩
   ·have:=R0.len;rw[vXa,vWa,List.cons_append,vXa,this]
   ·intro a ha;rcases uTa ha with rfl | ha
    ·exact .inr np
    ·exact .inl ha
   ·intro a ha;rcases uTa ha with rfl | ha
    ·rw[hp];exact fun z=>nomatch z
    ·exact al a ha
   ·intro i d e;cases i with
    | zero=>cases e
    | succ i=>
     obtain⟨v,h1,h2⟩:=R0.cl i d e;exact⟨v,h1,h2.same sd⟩
   ·intro i d e;cases i with
    | zero=>cases e
    | succ i=>exact R0.bo i d e
   ·intro i q' o' e;cases i with
    | zero=>
     cases e;exact⟨p,(fun p' z=>vFa z),rfl,⟨dx,[],hp,rfl,j4.nil⟩,wNa,np⟩
    | succ i=>
     obtain⟨k',d',v,_,_,h3⟩:=Y9 ak (by intro z;cases z) e;cases k' <;> cases h3
   ·intro i j q1 q2 o1 o2 l e e';have z:∀(i:Nat) (q':Option Addr) (o':OD),(Sl.ow (some p) (.ins C [] [])::Zv ks ds n)[i]?=some (.ow q' o')->i=0:=fun i q' o' e=>by
     cases i with
     | zero=>rfl
     | succ i=>
      obtain⟨k',d',v,_,_,h3⟩:=Y9 ak (by intro z;cases z) e;cases k' <;> cases h3
    intro _ _;rw[z i _ _ e,z j _ _ e']
   ·intro i ls e;cases i with
    | zero=>cases e
    | succ i=>
     obtain⟨k',d',v,_,_,h3⟩:=Y9 ak (by intro z;cases z) e;cases k' <;> cases h3
  refine⟨je H [p],O,_,p::O,r,R,e1,?_⟩;cases r with
  | nx Z=>
   intro U' H' O' R' _;have e2:(match (Z[0]?:Option Sl)with
    | some (Sl.ow q o)=>if q=some p then some o else none
    | _=>none)=some o:=e2
   split at e2
   ·rename_i qq o' h0;split at e2
    ·rename_i hq;cases e2;subst hq;obtain⟨l,hl2,_,ow,lo,_⟩:=R'.ow 0 _ _ h0;have el:=hl2 p rfl;subst el;refine q H' R'.keep (ow.same (fun _ z=>z) (JP fun a ha=>?_));rcases uTa ha with rfl | ha
     ·exact lo
     ·exact R'.sub a ha
    ·cases e2
   ·cases e2
  | rt d'=>cases e2
  | rf o=>cases e2
  | bk Z=>cases e2
  | ct Z=>cases e2
  | xc p=>cases e2
end
end DS
namespace L2
def yA(h:Heap)(d:Addr)(es:Array DictEntry)(ep:Nat):Prop:=∃o,h.get? d=some o/\o.ExactDict/\o.data=.dict es ep
def yA.ty{s:Shared}(m:yA s.heap d es ep):s.TypeIs (.ref d) "dict" := let ⟨o,g,c,_⟩:=m;⟨o,g,c.1⟩
def yA.at(m:yA h d es ep)(e:∀o,h.get? d=some o->h'.get? d=some o):yA h' d es ep:=let ⟨o,g,c⟩:=m;⟨o,e _ g,c⟩
def wA(hd:(d==sysModules)=false)(m:yA s.heap d es ep)
  (q:Q (.ref s.heap.objs.size) { s with heap:=s.heap.push { cls:=.type "dict_keyiterator",data:=.fields #[.ref d,.int 0 0,.int es.size 0,.int ep 0] } }):wpAny (model prog w) A (pyIter (.ref d)) Q E s:=by
 have ty:=m.ty;obtain⟨o,g,c,dt⟩:=m;refine wpAny_pyIter_slot ty F.slot_dict_iter (wpAny_call_entry F.slot_dict_iter ty F.entry_dict_iter (wAa (wAa (wpAny_notOrdered_dict ty ?_))) (F.args_dict_iter_1 _));refine(show wpAny _ _ (pure (Value.ref d)) _ _ s from wBa (show wpAny _ _ (Builtin.Dict.showsAll d >>= _) _ _ s from ?_));unfold Builtin.Dict.showsAll;rw[if_neg (by rw[hd];decide)];refine wAa (wBa (wAa (wpAny_dictEntries g dt (wAa (wpAny_dictEpoch g dt (wAa (vTa (wBa ⟨_,rfl, "dict_keyiterator",_,⟨_,wJa _ rfl,rfl⟩,F.slot_dict_keyiterator_next.lookup,?_⟩))))))));simpa[rawInt]using q
def wB(k:s.heap.IsKeyIter it d i es.size ep)(m:yA s.heap d es ep)(x:es[i]?=some e)
  (q:∀h',h'.IsKeyIter it d (i+1) es.size ep->Heap.SameBut it s.heap h'->Q (some e.key) { s with heap:=h' }):wpAny (model prog w) A (pyNext (.ref it)) Q E s:=by
 have ty:=k.typeIs;obtain⟨o,g,c,dt⟩:=k;obtain⟨od,gd,_,dd⟩:=m;have own:Builtin.Dict_items.ownsTuple "dict_keyiterator" = false:=by decide
 unfold pyNext;refine wAa (wpAny_attempt (wpAny_callSpecial?_slot (name:=Str.ofString "__next__") ty F.slot_dict_keyiterator_next (wpAny_call_entry F.slot_dict_keyiterator_next ty F.entry_dict_keyiterator_next (wAa (wBa (wAa (wAa ?_)))) (F.args_dict_keyiterator_next_1 _))));refine wAa (wpAny_typeNameOfWhole_keyiter ty (wBa (wAa (wpAny_fieldsOf g dt ?_))));simp only[own,Bool.false_eq_true,if_false];refine(show wpAny _ _ (if (Value.ref d==Value.none)=true then _ else _) _ _ s from ?_);rw[if_neg (fun z:(Value.ref d==Value.none)=true=>by cases z)];refine wAa (wBa (wAa (wpAny_dictEntries gd dd ?_)));rw[if_neg (by simp)];refine wAa (wBa (wAa (wpAny_dictEpoch gd dd ?_)));rw[if_neg (by simp)];refine wBa ?_;simp only[show¬((i:Int) < 0) by lia,if_false,Int.toNat_natCast,x];refine wAa (wAa (wpAny_typeNameOfWhole_keyiter ty (wBa (wAa (wpAny_isOneOf_keyiter ty ?_)))));refine(show wpAny _ _ (setField (.ref it) 1 (rawInt ((i:Int)+1)) >>= _) _ _ s from wAa (wpAny_setField g dt (by simp) ?_));have k':(s.heap.update it (Obj.mapFields (·.setIfInBounds 1 (rawInt ((i:Int)+1))))).IsKeyIter it d (i+1) es.size ep:=
  ⟨_,vUa _ g (Obj.isFreed_of_fields (Obj.data_mapFields dt _)),(Obj.cls_mapFields ..).trans c,by rw[Obj.data_mapFields dt];simp[rawInt]⟩
 refine wAa (wDa (wAa (wpAny_isOneOf_keyiter (s:={ s with heap:=s.heap.update it (Obj.mapFields (·.setIfInBounds 1 (rawInt ((i:Int)+1)))) }) k'.typeIs ?_)));exact(show wpAny _ _ (pure e.key) _ _ _ from wBa (wBa ⟨_,rfl,wBa (q _ k' (Heap.SameBut.update ..))⟩))
def WY(hh:A.handled=none)(k:s.heap.IsKeyIter it d i es.size ep)(m:yA s.heap d es ep)(x:es.size<=i)
  (q:∀h',Heap.ExtBut it s.heap h'->Q none { s with heap:=h' }):wpAny (model prog w) A (pyNext (.ref it)) Q E s:=by
 have ty:=k.typeIs;obtain⟨o,g,c,dt⟩:=k;obtain⟨od,gd,_,dd⟩:=m;have own:Builtin.Dict_items.ownsTuple "dict_keyiterator" = false:=by decide
 unfold pyNext;refine wAa (wpAny_attempt (wpAny_callSpecial?_slot (name:=Str.ofString "__next__") ty F.slot_dict_keyiterator_next (wpAny_call_entry F.slot_dict_keyiterator_next ty F.entry_dict_keyiterator_next (wAa (wBa (wAa (wAa ?_)))) (F.args_dict_keyiterator_next_1 _))));refine wAa (wpAny_typeNameOfWhole_keyiter ty (wBa (wAa (wpAny_fieldsOf g dt ?_))));simp only[own,Bool.false_eq_true,if_false];refine(show wpAny _ _ (if (Value.ref d==Value.none)=true then _ else _) _ _ s from ?_);rw[if_neg (fun z:(Value.ref d==Value.none)=true=>by cases z)];refine wAa (wBa (wAa (wpAny_dictEntries gd dd ?_)));rw[if_neg (by simp)];refine wAa (wBa (wAa (wpAny_dictEpoch gd dd ?_)));rw[if_neg (by simp)];refine wBa ?_;simp only[show¬((i:Int) < 0) by lia,if_false,Int.toNat_natCast,Array.getElem?_eq_none x];refine wAa (wAa (wpAny_typeNameOfWhole_keyiter ty (wBa ?_)));refine(show wpAny _ _ (setField (.ref it) 0 .none >>= _) _ _ s from wAa (wpAny_setField g dt (by simp) (show wpAny _ _ (newExc (.type "StopIteration") [] >>= _) _ _ _ from wAa ?_)));simp only[newExc,newTuple];refine wAa (vTa (wAa (m:=firstArgMember _ _) (wpAny_of_eq (a:=Value.none) (by first | rfl | (simp only[firstArgMember];rfl)) (vTa ?_ (by size_fits)))) (by size_fits));simp only[raiseNew];refine wAa (wpAny_handled ?_);rw[show A.in1.handled=none from hh];refine wAa (wBa (wpAny_throw (wAa ?_)));exact wpAny_isInstance (T := "StopIteration") (b:=true) ⟨_,wJa _ rfl,rfl⟩ isSubtype_stop (wBa (q _ (((Heap.SameBut.update ..).extBut.push _).push _)))
def xz(hd:(d==sysModules)=false)(m:yA s.heap d es ep)(q:Q (.ref s.heap.objs.size) { s with heap:=s.heap.push { cls:=.type "dict_items",data:=.fields #[.ref d] } }):
  wpAny (model prog w) A (call (.builtin "dict.items") [.ref d]) Q E s:=by
 have ty:=m.ty;refine wpAny_call_entry F.slot_dict_items ty F.entry_dict_items (wAa (wAa (wpAny_notOrdered_dict ty ?_))) (F.args_dict_items_1 _);refine(show wpAny _ _ (pure d) _ _ s from wBa (show wpAny _ _ (Builtin.Dict.showsAll d >>= _) _ _ s from ?_));unfold Builtin.Dict.showsAll;rw[if_neg (by rw[hd];decide)];exact wAa (wBa (wAa (vTa (wBa ⟨_,rfl,q⟩))))
def xA(hv:s.heap.IsItemsView v d)(m:yA s.heap d es ep)
  (q:Q (.ref s.heap.objs.size) { s with heap:=s.heap.push { cls:=.type "dict_itemiterator",data:=.fields #[.none,.bool false,.ref d,.int 0 0,.int es.size 0,.int ep 0,.none,.none] } }):wpAny (model prog w) A (pyIter (.ref v)) Q E s:=by
 have ty:=hv.typeIs;obtain⟨ov,gv,cv,dv⟩:=hv;obtain⟨o,g,c,dt⟩:=m;have own:Builtin.Dict_items.ownsTuple "dict_itemiterator" = true:=by decide
 refine wpAny_pyIter_slot ty F.slot_dict_items_iter (wpAny_call_entry F.slot_dict_items_iter ty F.entry_dict_items_iter (wAa (wBa (wAa ?_))) (F.args_dict_items_iter_1 _));refine wAa (wpAny_field gv dv (x:=.ref d) rfl (wBa (wAa (wAa (wpAny_dictEntries g dt (wAa (wpAny_dictEpoch g dt ?_)))))));simp only[own,if_true];refine vTa (wBa ⟨_,rfl, "dict_itemiterator",_,⟨_,wJa _ rfl,rfl⟩,F.slot_dict_itemiterator_next.lookup,?_⟩) ?_
 ·simpa[rawInt,Builtin.Dict_items.ownedTupleFields]using q
 ·simp only[sizeOk,Builtin.Dict_items.ownedTupleFields,List.size_toArray,List.length_append,List.length_cons,List.length_nil,sizeLine_eq]
  lia
def xB(k:IsItemIter s.heap it d i es.size ep ok ov)(m:yA s.heap d es ep)(x:es[i]?=some e)
  (q:∀h',IsItemIterOut h' it d (i+1) es.size ep e.key e.val s.heap.objs.size->h'.get? s.heap.objs.size=some { cls:=.type "tuple",data:=.seq #[e.key,e.val] }->h'.objs.size=s.heap.objs.size+1->
   (∀b o,b≠it->s.heap.get? b=some o->h'.get? b=some o)->Q (some (.ref s.heap.objs.size)) { s with heap:=h' }):wpAny (model prog w) A (pyNext (.ref it)) Q E s:=by
 obtain⟨hp,gg,dr,tk,os⟩:=s;have ty:Shared.TypeIs ⟨hp,gg,dr,tk,os⟩ (.ref it) "dict_itemiterator" := ⟨_,k,rfl⟩
 obtain⟨od,gd,_,dd⟩:=m;have own:Builtin.Dict_items.ownsTuple "dict_itemiterator" = true:=by decide
 unfold pyNext;refine wAa (wpAny_attempt (wpAny_callSpecial?_slot (name:=Str.ofString "__next__") ty F.slot_dict_itemiterator_next (wpAny_call_entry F.slot_dict_itemiterator_next ty F.entry_dict_itemiterator_next (wAa (wBa (wAa (wAa ?_)))) (F.args_dict_itemiterator_next_1 _))));refine wAa (wpAny_typeNameOfWhole_itemiter ty (wBa (wAa (wpAny_fieldsOf k rfl ?_))));simp only[own,if_true];refine(show wpAny _ _ (if (Value.ref d==Value.none)=true then _ else _) _ _ ⟨hp,gg,dr,tk,os⟩ from ?_);rw[if_neg (fun z:(Value.ref d==Value.none)=true=>by cases z)];refine wAa (wBa (wAa (wpAny_dictEntries gd dd ?_)));rw[if_neg (by simp)];refine wAa (wBa (wAa (wpAny_dictEpoch gd dd ?_)));rw[if_neg (by simp)];refine wBa ?_;simp only[show¬((i:Int) < 0) by lia,if_false,Int.toNat_natCast,x];refine wAa (wAa (wpAny_typeNameOfWhole_itemiter ty (wBa (wAa (wpAny_isOneOf_itemiter ty ?_)))));refine(show wpAny _ _ (setField (.ref it) 3 (rawInt ((i:Int)+1)) >>= _) _ _ ⟨hp,gg,dr,tk,os⟩ from wAa (wpAny_setField_rec k (by simp) fun h1 e1 s1=>?_))
 replace s1:Heap.SameBut it hp h1:=s1
 have e1:IsItemIter h1 it d (i+1) es.size ep ok ov:=by
  have z:((i+1:Nat):Int)=(i:Int)+1:=by lia
  unfold IsItemIter;rw[z];simpa[rawInt]using e1
 have ty1:Shared.TypeIs ⟨h1,gg,dr,tk,os⟩ (.ref it) "dict_itemiterator" := ⟨_,e1,rfl⟩
 refine wAa (wDa (wAa (wpAny_isOneOf_itemiter ty1 (wAa (wpAny_isOneOf_itemiter ty1 ?_)))));refine(show wpAny _ _ (Builtin.Dict_items.pairFromOwner (.ref it) 6 e.key e.val) _ _ ⟨h1,gg,dr,tk,os⟩ from ?_);unfold Builtin.Dict_items.pairFromOwner;refine wAa (wpAny_newTuple ?_);have e2:IsItemIter (h1.push { cls:=.type "tuple",data:=.seq #[e.key,e.val] }) it d (i+1) es.size ep ok ov:=wIa _ e1;generalize hh2:h1.push { cls:=.type "tuple",data:=.seq #[e.key,e.val] }=h2 at e2;have z1:h1.objs.size=hp.objs.size:=s1.1;have lt:it < hp.objs.size:=wLa k;have t2:h2.get? hp.objs.size=some { cls:=.type "tuple",data:=.seq #[e.key,e.val] }:=by rw[<-hh2,<-z1];exact wJa _ rfl
 have z2:h2.objs.size=hp.objs.size+1:=by rw[<-hh2,uPa,z1]
 have k2:∀b o,b≠it->hp.get? b=some o->h2.get? b=some o:=fun b o hb e=>by rw[<-hh2];exact wIa _ (s1.extBut b o hb e)
 refine(show wpAny _ _ (Builtin.Dict_items.ownedTupleIsFree (.ref it) >>= _) _ _ ⟨h2,gg,dr,tk,os⟩ from ?_);rw[z1];clear hh2 s1 ty1 z1;refine wAa (wAa (wpAny_field e2 rfl (x:=.none) rfl (wBa ?_)));simp only[if_true];refine wAa (wpAny_field e2 rfl (x:=ok) rfl (wAa (wpAny_field e2 rfl (x:=ov) rfl (wAa (wpAny_setField_rec e2 (by simp) fun h3 e3 s3=>?_)))))
 replace s3:Heap.SameBut it h2 h3:=s3
 replace e3:IsItemIter h3 it d (i+1) es.size ep e.key ov:=e3
 refine wAa (wpAny_setField_rec e3 (by simp) fun h4 e4 s4=>?_)
 replace s4:Heap.SameBut it h3 h4:=s4
 replace e4:IsItemIter h4 it d (i+1) es.size ep e.key e.val:=e4
 refine wAa (wpAny_setField_rec e4 (by simp) fun h5 e5 s5=>?_)
 replace s5:Heap.SameBut it h4 h5:=s5
 replace e5:IsItemIterOut h5 it d (i+1) es.size ep e.key e.val hp.objs.size:=e5
 refine wAa (wpAny_setField_rec e5 (by simp) fun h6 e6 s6=>?_)
 replace s6:Heap.SameBut it h5 h6:=s6
 replace e6:IsItemIterOut h6 it d (i+1) es.size ep e.key e.val hp.objs.size:=e6
 have kk:∀b o,b≠it->h2.get? b=some o->h6.get? b=some o:=fun b o hb z=>s6.extBut b o hb (s5.extBut b o hb (s4.extBut b o hb (s3.extBut b o hb z)));refine wAa (wpAny_letGo (wBa (wBa ⟨_,rfl,wBa (q h6 e6 (kk _ _ (Nat.ne_of_gt lt) t2) ?_ fun b o hb z=>kk b o hb (k2 b o hb z))⟩)));exact(show h6.objs.size=hp.objs.size+1 by rw[s6.1,s5.1,s4.1,s3.1,z2])
def aB(hh:A.handled=none)(k:IsItemIter s.heap it d i es.size ep ok ov)(m:yA s.heap d es ep)(x:es.size<=i)
  (q:∀h',Heap.ExtBut it s.heap h'->Q none { s with heap:=h' }):wpAny (model prog w) A (pyNext (.ref it)) Q E s:=by
 have ty:s.TypeIs (.ref it) "dict_itemiterator" := ⟨_,k,rfl⟩
 obtain⟨od,gd,_,dd⟩:=m;have own:Builtin.Dict_items.ownsTuple "dict_itemiterator" = true:=by decide
 unfold pyNext;refine wAa (wpAny_attempt (wpAny_callSpecial?_slot (name:=Str.ofString "__next__") ty F.slot_dict_itemiterator_next (wpAny_call_entry F.slot_dict_itemiterator_next ty F.entry_dict_itemiterator_next (wAa (wBa (wAa (wAa ?_)))) (F.args_dict_itemiterator_next_1 _))));refine wAa (wpAny_typeNameOfWhole_itemiter ty (wBa (wAa (wpAny_fieldsOf k rfl ?_))));simp only[own,if_true];refine(show wpAny _ _ (if (Value.ref d==Value.none)=true then _ else _) _ _ s from ?_);rw[if_neg (fun z:(Value.ref d==Value.none)=true=>by cases z)];refine wAa (wBa (wAa (wpAny_dictEntries gd dd ?_)));rw[if_neg (by simp)];refine wAa (wBa (wAa (wpAny_dictEpoch gd dd ?_)));rw[if_neg (by simp)];refine wBa ?_;simp only[show¬((i:Int) < 0) by lia,if_false,Int.toNat_natCast,Array.getElem?_eq_none x];refine wAa (wAa (wpAny_typeNameOfWhole_itemiter ty (wBa ?_)));refine(show wpAny _ _ (setField (.ref it) 2 .none >>= _) _ _ s from wAa (wpAny_setField k rfl (by simp) (show wpAny _ _ (newExc (.type "StopIteration") [] >>= _) _ _ _ from wAa ?_)));simp only[newExc,newTuple];refine wAa (vTa (wAa (m:=firstArgMember _ _) (wpAny_of_eq (a:=Value.none) (by first | rfl | (simp only[firstArgMember];rfl)) (vTa ?_ (by size_fits)))) (by size_fits));simp only[raiseNew];refine wAa (wpAny_handled ?_);rw[show A.in1.handled=none from hh];refine wAa (wBa (wpAny_throw (wAa ?_)));exact wpAny_isInstance (T := "StopIteration") (b:=true) ⟨_,wJa _ rfl,rfl⟩ isSubtype_stop (wBa (q _ (((Heap.SameBut.update ..).extBut.push _).push _)))
def aD(m:yA s.heap d es ep)(q:Q false s):wpAny (model prog w) A (Builtin.List.listLengthHint (.ref d)) Q E s:=by
 have ty:=m.ty;unfold Builtin.List.listLengthHint;refine wAa (wpAny_specialOf ty F.slot_dict_len.lookup ?_);generalize nm:("dict.__len__" : String)=id0
 wp_delta
 rw[show splitId id0=some ("dict", "__len__") from by subst nm;decide +kernel];subst nm;refine wAa (wpAny_isInstance (T := "dict") (b:=true) ty (by rw[isSubtype_type];kernel_rfl) (wpAny_ite_split (fun z=>vDa z (by decide)) fun _=>?_));exact wpAny_ite_split (fun _=>wAa (wpAny_typeOf ty (wBa q))) fun z=>vDa (by decide +kernel) z
def xD(hh:A.handled=none)(I:Addr)(hne:d≠I):
  Walks prog w A I [I,d] [I] es.size (fun i v=>∃e,es[i]?=some e/\v=e.key) (fun i h=>h.IsKeyIter I d i es.size ep/\yA h d es ep) where
 sub:=fun b hb=>by simp at hb;simp[hb]
 frame:=fun _ _ _ st hk=>⟨st.1.at fun o e=>hk I (by simp) o e,st.2.at fun o e=>hk d (by simp) o e⟩
 item:=fun i s Q E hi st hQ=>by
  have x:es[i]?=some es[i]:=by simp[hi]
  exact wB st.1 st.2 x fun h' k' sb=>hQ _ h' s.toks ⟨_,x,rfl⟩ ⟨k',st.2.at fun o e=>sb.extBut _ o hne e⟩ fun b o hb e=>sb.extBut b o (fun z=>hb (by simp[z])) e
 done:=fun s Q E st hQ=>WY hh st.1 st.2 (wPa _) fun h' eb=>hQ h' s.toks fun b o hb e=>eb b o (fun z=>hb (by simp[z])) e
 self:=fun _ _ _ _ st hQ=>wpAny_pyIter_keyiter st.1 hQ
def aE(hh:A.handled=none)(hd:(d==sysModules)=false)(m:yA s.heap d es ep)(hz:es.size<=2 ^ 24)
  (q:∀h' tk acc c,(∀b o,s.heap.get? b=some o->h'.get? b=some o)->h'.get? s.heap.objs.size=some { cls:=.type "list",data:=.seq acc c }->acc.toList=es.toList.map (·.key)->Q (.ref s.heap.objs.size) { s with heap:=h',toks:=tk }):
  wpAny (model prog w) A (call (.type "list") [.ref d]) Q E s:=by
 have dlt:d < s.heap.objs.size:=by obtain⟨o,g,_⟩:=m;exact wLa g
 refine callType_codes (Q₁:=fun obj s₁=>obj=.ref s.heap.objs.size/\s₁={ s with heap:=s.heap.push { cls:=.type "list",data:=.seq #[] } }) F.called_list (F.typeCall_list_1 _) F.entry_list_init (code_list_new _ ⟨rfl,rfl⟩) ?_;rintro obj s₁ ⟨rfl,rfl⟩;obtain⟨S,hS⟩:∃S,s.heap.objs.size=S:=⟨_,rfl⟩
 rw[hS]at q dlt⊢;have g0:(s.heap.push { cls:=.type "list",data:=.seq #[] }).get? S=some { cls:=.type "list",data:=.seq #[] }:=by rw[<-hS];exact wJa _ rfl
 have m0:yA (s.heap.push { cls:=.type "list",data:=.seq #[] }) d es ep:=m.at fun o e=>wIa _ e;have sz0:(s.heap.push { cls:=.type "list",data:=.seq #[] }).objs.size=S+1:=by rw[uPa,hS]
 have k0:∀b o,s.heap.get? b=some o->(s.heap.push { cls:=.type "list",data:=.seq #[] }).get? b=some o/\b≠S:=fun b o e=>⟨wIa _ e,wTa (by rw[<-hS];exact wLa e)⟩
 generalize s.heap.push { cls:=.type "list",data:=.seq #[] }=h0 at g0 m0 sz0 k0;refine⟨⟨_,g0,rfl⟩,F.args_list_init_2 _ _,?_⟩;have hSd:S≠d:=Ne.symm (wTa dlt);refine(show wpAny _ _ (do let old<-Builtin.List.listItems (.ref S);Builtin.List.listUpdate (.ref S) (fun _=>#[]);letGo old.toList.reverse;Builtin.List.listExtendWith (.ref S) (.ref d) .none) _ _ { s with heap:=h0 } from wAa (wAa (wpAny_seqItems g0 rfl (wBa ?_))));refine(show wpAny _ _ (updateSeq S (fun _=>#[]) >>= fun _=>letGo (#[]:Array Value).toList.reverse >>= fun _=>Builtin.List.listExtendWith (.ref S) (.ref d) .none) _ _ { s with heap:=h0 } from wAa (wpAny_updateSeq g0 rfl (wAa (wpAny_letGo ?_))));have oth:∀(h:Heap) (f:Obj->Obj) b o,b≠S->h.get? b=some o->(h.update S f).get? b=some o:=fun h f b o hb e=>(wKa _ _ (Ne.symm hb)).trans e;have g1:=vUa (Obj.mapSeq (fun _=>(#[]:Array Value))) g0 rfl;have m1:yA (h0.update S (Obj.mapSeq (fun _=>(#[]:Array Value)))) d es ep:=m0.at fun o e=>oth _ _ _ o (Ne.symm hSd) e;have sz1:(h0.update S (Obj.mapSeq (fun _=>(#[]:Array Value)))).objs.size=S+1:=by rw[Heap.size_update,sz0]
 have k1:∀b o,s.heap.get? b=some o->(h0.update S (Obj.mapSeq (fun _=>(#[]:Array Value)))).get? b=some o/\b≠S:=fun b o e=>⟨oth _ _ b o (k0 b o e).2 (k0 b o e).1,(k0 b o e).2⟩
 generalize h0.update S (Obj.mapSeq (fun _=>(#[]:Array Value)))=h1 at g1 m1 sz1 k1;have W:=(xD (prog:=prog) (w:=w) (A:=A.in1.in1) (es:=es) (ep:=ep) hh (S+1) (d:=d) (wTa (Nat.lt_succ_of_lt dlt))).toS;have fin:∀(h:Heap) (c tk:Nat),h.IsKeyIter (S+1) d 0 es.size ep->yA h d es ep->(∀b o,s.heap.get? b=some o->h.get? b=some o)->h.get? S=some { cls:=.type "list",data:=.seq #[] c }->
   codeAny (model prog w) A.in1 (.builtin "list.extend.loop" ⟨[.ref S,.ref (S+1),.none],[]⟩) (wants (fun r s₂=>r=Value.none/\Q (.ref S) s₂) E) { s with heap:=h,toks:=tk }:=by
  intro h c tk k mm kk gS;refine codeAny_extend_loopS W (by rw[sizeLine_eq];omega) S (by simp;omega) .none es.size 0 _ #[] c rfl (Nat.zero_le _) ⟨k,mm⟩ gS (ItemsOf.nil _) fun s' acc' c' hm hS' hacc=>?_;rw[Moved.eq_with hm];refine⟨rfl,q s'.heap s'.toks acc' c' (fun b o e=>hm.heap b o (fun z=>?_) (kk b o e)) hS' ?_⟩
  ·have lt:b < S:=by rw[<-hS];exact wLa e
   simp at z;rcases z with z | z
   ·exact wTa lt z
   ·exact wTa (Nat.lt_succ_of_lt lt) z
  ·refine List.ext_getElem? fun j=>?_;rw[uAa];by_cases hj:j < acc'.size
   ·obtain⟨e,e1,e2⟩:=hacc.2 j acc'[j] (by simp[hj]);simp[hj,e1,e2]
   ·have:=hacc.1;simp[hj,show¬j < es.size by omega]
 unfold Builtin.List.listExtendWith;refine wAa (wpAny_typeOf (s:={ s with heap:=h1 }) (T := "dict") m1.ty ?_);have b1:Builtin.List.listSameRef (.ref S) (.ref d)=false:=by simp[Builtin.List.listSameRef,hSd]
 have b2:(Value.type "dict" == Value.type "list")=false:=by decide
 have b3:(Value.type "dict" == Value.type "tuple")=false:=by decide
 simp only[b1,b2,b3,Bool.or_false,Bool.false_eq_true,if_false];refine wAa (wA hd m1 ?_);have m2:yA (h1.push { cls:=.type "dict_keyiterator",data:=.fields #[.ref d,.int 0 0,.int es.size 0,.int ep 0] }) d es ep:=m1.at fun o e=>wIa _ e;have i2:(h1.push { cls:=.type "dict_keyiterator",data:=.fields #[.ref d,.int 0 0,.int es.size 0,.int ep 0] }).IsKeyIter (S+1) d 0 es.size ep:=by rw[<-sz1];exact⟨_,wJa _ rfl,rfl,rfl⟩
 have g2:=wIa { cls:=.type "dict_keyiterator",data:=.fields #[.ref d,.int 0 0,.int es.size 0,.int ep 0] } g1;have k2:∀b o,s.heap.get? b=some o->(h1.push { cls:=.type "dict_keyiterator",data:=.fields #[.ref d,.int 0 0,.int es.size 0,.int ep 0] }).get? b=some o/\b≠S:=fun b o e=>⟨wIa _ (k1 b o e).1,(k1 b o e).2⟩
 show wpAny _ _ _ _ _ { s with heap:=h1.push { cls:=.type "dict_keyiterator",data:=.fields #[.ref d,.int 0 0,.int es.size 0,.int ep 0] } };rw[show Value.ref h1.objs.size=Value.ref (S+1) from congrArg _ sz1];generalize h1.push { cls:=.type "dict_keyiterator",data:=.fields #[.ref d,.int 0 0,.int es.size 0,.int ep 0] }=h2 at m2 i2 g2 k2;refine wAa (wDa (aD (s:={ s with heap:=h2 }) m2 ?_));refine wpAny_ite_split (fun _=>?_) (fun _=>wBa ⟨plainId_quiet F.plain_extend_loop _,fin _ _ _ i2 m2 (fun b o e=>(k2 b o e).1) g2⟩);refine wAa (wpAny_rule (wAa (show wpAny _ _ (updateSeq S (·.push .none) >>= fun _=>updateSeq S (·.pop)) _ _ _ from wAa (wpAny_updateSeq g2 rfl ?_))));have g3:=vUa (Obj.mapSeq (·.push Value.none)) g2 rfl;refine wpAny_updateSeq (hz:=by seq_fits) g3 rfl ?_;have g4:=vUa (Obj.mapSeq (·.pop)) g3 rfl;have up:∀b o,b≠S->h2.get? b=some o->((h2.update S (Obj.mapSeq (·.push Value.none))).update S (Obj.mapSeq (·.pop))).get? b=some o:=fun b o hb e=>oth _ _ b o hb (oth _ _ b o hb e);exact wBa ⟨plainId_quiet F.plain_extend_loop _,fin _ _ _ (i2.at fun o e=>up _ o (by omega) e) (m2.at fun o e=>up _ o (Ne.symm hSd) e) (fun b o e=>up b o (k2 b o e).2 (k2 b o e).1) g4⟩
end L2
namespace DS
open L2
noncomputable def uG(kvs:List (KD×Addr×V))(k:KD):Option V:=(kvs.find? fun p=>decide (p.1=k)).map (·.2.2)
def vo(kvs:List (KD×Addr×V))(k:KD)(b:Addr)(v:V):List (KD×Addr×V):=if (uG kvs k).isSome then kvs.map (fun p=>if p.1=k then(p.1,p.2.1,v)else p)else kvs++[(k,b,v)]
abbrev Yr:List (KD×Addr×V)->List (KD×Addr×Value)->Prop:=Paired fun(p:KD×Addr×V) (q:KD×Addr×Value)=>p.1=q.1/\p.2.1=q.2.1/\jq p.2.2 q.2.2
theorem Yr.at:∀{kvs:List (KD×Addr×V)} {xs:List (KD×Addr×Value)},Yr kvs xs->(∃v p,uG kvs k=some v/\atKey xs k=some p/\jq v p.2) \/ (uG kvs k=none/\atKey xs k=none)
 | _,_,.nil=>.inr ⟨rfl,rfl⟩
 | _,_,@Paired.cons _ _ _ p q ps qs ⟨e1,e2,r⟩ t=>by
  unfold uG atKey;rw[List.find?_cons,List.find?_cons,e1];by_cases h:q.1=k
  ·rw[decide_eq_true h];exact .inl ⟨_,_,rfl,rfl,r⟩
  ·rw[decide_eq_false h];exact Yr.at t
def Yr.put(rv:jq v u)(h:Yr kvs xs):Yr (vo kvs k b v) (storedH xs k b u):=by
 have mp:∀{kvs:List (KD×Addr×V)} {xs:List (KD×Addr×Value)},Yr kvs xs->Yr (kvs.map (fun p=>if p.1=k then(p.1,p.2.1,v)else p)) (xs.map (putAt k u)):=by
  intro kvs xs h;induction h with
  | nil=>exact .nil
  | @cons p q ps qs r t ih=>
   obtain⟨e1,e2,r⟩:=r;rw[vWa,vWa];refine .cons ?_ ih;unfold putAt;rw[e1];split
   ·exact⟨rfl,e2,rv⟩
   ·exact⟨e1,e2,r⟩
 have ap:∀{kvs:List (KD×Addr×V)} {xs:List (KD×Addr×Value)},Yr kvs xs->Yr (kvs++[(k,b,v)]) (xs++[(k,b,u)]):=by
  intro kvs xs h;induction h with
  | nil=>exact .cons ⟨rfl,rfl,rv⟩ .nil
  | cons r t ih=>exact .cons r ih
 unfold vo storedH;rcases h.at (k:=k)with⟨w,p,e1,e2,_⟩ | ⟨e1,e2⟩
 ·rw[e1,e2];exact mp h
 ·rw[e1,e2];exact ap h
def aF(kvs:List (KD×Addr×V))(k:KD)(b:Addr)(v:V):(vo kvs k b v).length<=kvs.length+1:=by
 unfold vo;split <;> simp
mutual
theorem WZ(I:Inv X pins U H s):∀{d:D} {k:KD} {v:V} {u:Value},j8 X.K H d v->jq v u->yI d=some k->jN s.heap k u
 | .int i,k,v,u,h,r,e=>by
  rw[yI]at e;cases e;rw[j8]at h;subst h;rw[jN];exact .inl r
 | .bl i,k,v,u,h,r,e=>by
  rw[yI]at e;cases e;rw[j8]at h;subst h;rw[jN];exact .inr ⟨i,r,rfl⟩
 | .str i,k,v,u,h,r,e=>by
  rw[yI]at e;cases e;rw[j8]at h;subst h;rw[jN];exact r
 | .tup l,k,v,u,h,r,e=>by
  rw[yI]at e;obtain⟨ks,e1,e2⟩:=j1 e;cases e2;rw[j8]at h;obtain⟨a,xs,rfl,q,rs⟩:=h;cases r;obtain⟨its,vs,t,_⟩:=I.tuple q;rw[jN];exact⟨a,its.toArray,rfl,t,by simpa using wC I rs vs e1⟩
 | .non,k,v,u,h,r,e=>by rw[yI]at e <;> first | cases e | (intros;contradiction)
 | .lst _,k,v,u,h,r,e=>by rw[yI]at e <;> first | cases e | (intros;contradiction)
 | .ins _ _ _,k,v,u,h,r,e=>by rw[yI]at e <;> first | cases e | (intros;contradiction)
 | .scr _,k,v,u,h,r,e=>by rw[yI]at e <;> first | cases e | (intros;contradiction)
 | .dct _ _,k,v,u,h,r,e=>by rw[yI]at e <;> first | cases e | (intros;contradiction)
 | .exn _ _,k,v,u,h,r,e=>by rw[yI]at e <;> first | cases e | (intros;contradiction)
theorem wC(I:Inv X pins U H s):∀{l:List D} {ks:List KD} {xs:List V} {us:List Value},j4 X.K H l xs->jp xs us->YF l=some ks->J0 s.heap ks us
 | [],ks,xs,us,h,r,e=>by
  rw[YF]at e;cases e;rw[j4]at h;subst h;cases r;rw[J0]
 | d::l,ks,xs,us,h,r,e=>by
  rw[YF]at e;obtain⟨k,e1,e⟩:=j1 e;obtain⟨ks',e2,e⟩:=j1 e;cases e;rw[j4]at h;obtain⟨v,vs,rfl,h1,h2⟩:=h;cases r with
  | cons r1 r2=>
   rw[J0];exact⟨_,_,rfl,WZ I h1 r1 e1,wC I h2 r2 e2⟩
end
def Kl(e:yv d=some k):yI d=some k/\k.dep<=8:=by
 unfold yv at e;split at e
 ·obtain⟨k',e1,e2⟩:=j1 e;split at e2
  ·cases e2;exact⟨e1,by assumption⟩
  ·cases e2
 ·cases e
def Uf(I:Inv X pins U H s)(r:j8 X.K H d (.ref b))(e:yv d=some k):(yg X.prog X.w).is s.heap k b:=⟨WZ I r rfl (Kl e).1,(Kl e).2⟩
def BJ(I:Inv X pins U H s)(pr:Yr kvs xs):∀{ks:List D},Jb ks=some (kvs.map (·.1))->j4 X.K H ks (kvs.map fun p=>V.ref p.2.1)->∀x∈xs,(yg X.prog X.w).is s.heap x.1 x.2.1:=by
 induction pr with
 | nil=>intro ks _ _ x h;cases h
 | @cons p q ps qs rr t ih=>
  obtain⟨e1,e2,_⟩:=rr;intro ks e r x hx;cases ks with
  | nil=>rw[Jb]at e;cases e
  | cons d ks=>
  rw[Jb]at e;obtain⟨k,e3,e⟩:=j1 e;obtain⟨ks',e4,e⟩:=j1 e;rw[vWa]at e;cases e;rw[vWa,j4]at r;obtain⟨_,_,ee,r1,r2⟩:=r;cases ee;rcases uTa hx with rfl | hx
  ·rw[<-e1,<-e2];exact Uf I r1 e3
  ·exact ih e4 r2 x hx
structure DAt (K:Fr) (H:Hp) (a:Addr) (ks:List D) (kvs:List (KD×Addr×V)) (ep:Nat):Prop where
 at':H a=some (.dD kvs ep)
 k:Jb ks=some (kvs.map (·.1))
 r:j4 K H ks (kvs.map fun p=>V.ref p.2.1)
def DAt.of(I:Inv X pins U H s)(h:H a=some (.dD kvs ep)):kvs.length<=sizeLine/\(a==sysModules)=false/\(kvs.map (·.1)).Nodup/\∃xs es,Yr kvs xs/\yA s.heap a es ep/\es.toList=xs.map (entryOfKey (yg X.prog X.w)):=by
 obtain⟨z,y,nd,xs,r,o,es,e1,e2,e3,e4⟩:=I.hok a _ h;exact⟨z,y,nd,xs,es,r,⟨o,e1,e2,e3⟩,e4⟩
def Yr.fst(h:Yr kvs xs):xs.map (·.1)=kvs.map (·.1):=by
 induction h with
 | nil=>rfl
 | cons r _ ih=>rw[vWa,vWa,ih,r.1]
def DAt.dict(I:Inv X pins U H s)(h:DAt X.K H a ks kvs ep):kvs.length<=sizeLine/\(a==sysModules)=false/\∃xs,Yr kvs xs/\s.heap.DictOfH (yg X.prog X.w) a xs:=by
 obtain⟨z,y,nd,xs,es,r,⟨o,e1,e2,e3⟩,e4⟩:=DAt.of I h.at';exact⟨z,y,xs,r,o,es,ep,e1,e2,e3,e4,BJ I r h.k h.r,by rw[r.fst];exact nd⟩
def UW(hr:Room k A):A.in1.units+8 < cLine:=by
 rw[Around.in1_units];have:=hr.un
 lia
def bw(K:Fr):R2:=fun x y H Q=>∃a kvs ep b ks k dk v,x=.ref a/\y=.ref b/\DAt K H a ks kvs ep/\j8 K H dk (.ref b)/\yv dk=some k/\uG kvs k=some v/\Q v H
def DH(hr:Room n X.A):uY X (bw X.K):=by
 intro value slice pins s U H x y v u Q I rx ry h hs;obtain⟨a,kvs,ep,b,ks,k,dk,z,rfl,rfl,da,rb,ek,ev,q⟩:=h;cases rx;cases ry;obtain⟨zl,hd,xs,pr,dd⟩:=da.dict I;rcases pr.at (k:=k)with⟨w,p,e1,e2,rw'⟩ | ⟨e1,e2⟩
 ·rw[ev]at e1;cases e1;exact tail_any dd.typeIs slot_dict_getitem.lookup (wpAny_getItem_heap (knd:=yg X.prog X.w) (UW hr) (Uf I rb ek) dd e2 ⟨z,H,I.tok _,rw',q⟩) hs
 ·rw[ev]at e1;cases e1
def bx(K:Fr):V->V->V->Hp->(Hp->Prop)->Prop:=fun o i v H Q=>∃a kvs ep b ks k dk,o=.ref a/\i=.ref b/\DAt K H a ks kvs ep/\j8 K H dk (.ref b)/\yv dk=some k/\kvs.length < sizeLine/\∀ep',Q (upd H a (.dD (vo kvs k b v) ep'))
def BK(hr:Room n X.A):XB X (bx X.K):=by
 intro pins s U H o i v ov iv u Q I ro ri rv h;obtain⟨a,kvs,ep,b,ks,k,dk,rfl,rfl,da,rb,ek,hl,q⟩:=h;cases ro;cases ri;obtain⟨zl,hd,xs,pr,dd⟩:=da.dict I;have hz:xs.length<=sizeLine:=by rw[<-Paired.length pr];exact zl
 refine wpAny_setItem_heap (hsz:=hz) (knd:=yg X.prog X.w) (UW hr) (Uf I rb ek) dd fun h' dd' hs=>?_;obtain⟨o,es,ep',e1,e2,e3,e4,_,e5⟩:=dd';have pr':=pr.put (k:=k) (b:=b) rv;have new:Jq X.prog X.w (upd H a (.dD (vo kvs k b v) ep')) h' a (.dD (vo kvs k b v) ep'):=⟨by have:=aF kvs k b v;lia,hd,by rw[<-pr'.fst];exact e5,_,pr',o,es,e1,e2,e3,e4⟩
 exact⟨_,I.write (x:=a) (e:=a) (t':=s.toks+(yg X.prog X.w).draws k) (by rw[da.at'];trivial) (.inl rfl) (fun c z hc e=>(hs.2 c hc).trans e) ⟨_,e1⟩ new,q ep'⟩
def aG(K:Fr)(neg:Bool):R2:=fun x y H Q=>∃a kvs ep b ks k dk,x=.ref b/\y=.ref a/\DAt K H a ks kvs ep/\j8 K H dk (.ref b)/\yv dk=some k/\Q (.bl (xor neg (uG kvs k).isSome)) H
def xF(hr:Room n X.A):jS X (compareOp .In) (aG X.K false):=by
 intro pins s U H x y v u Q I rx ry h;obtain⟨a,kvs,ep,b,ks,k,dk,rfl,rfl,da,rb,ek,q⟩:=h;cases rx;cases ry;obtain⟨zl,hd,xs,pr,dd⟩:=da.dict I;refine wpAny_in_heap (knd:=yg X.prog X.w) (UW hr) (Uf I rb ek) hd dd ⟨_,H,I.tok _,?_,q⟩;rcases pr.at (k:=k)with⟨w,p,e1,e2,_⟩ | ⟨e1,e2⟩ <;> (rw[e1,e2];rfl)
def wD(hr:Room n X.A):jS X (compareOp .NotIn) (aG X.K true):=by
 intro pins s U H x y v u Q I rx ry h;obtain⟨a,kvs,ep,b,ks,k,dk,rfl,rfl,da,rb,ek,q⟩:=h;cases rx;cases ry;obtain⟨zl,hd,xs,pr,dd⟩:=da.dict I;refine wpAny_notIn_heap (knd:=yg X.prog X.w) (UW hr) (Uf I rb ek) hd dd ⟨_,H,I.tok _,?_,q⟩;rcases pr.at (k:=k)with⟨w,p,e1,e2,_⟩ | ⟨e1,e2⟩ <;> (rw[e1,e2];rfl)
def FK:TE:=fun _ H Q=>∀p,H p=none->Q (.ref p) (upd H p (.dD [] 0))
def Inv.big(I:Inv X pins U H s):sysModules < s.heap.objs.size:=Nat.lt_trans (by decide) (show mainGlobals < s.heap.objs.size from(I.mod.glob.keeps I.bk).lt)
def BL:PE X (.Dict [] [] pos) FK:=fun pins s U H Q I h=>
 wpAny_Dict_empty ⟨.ref s.heap.objs.size,_,I.laid (a:=s.heap.objs.size) (o:=.dD [] 0) (t':=s.toks) (fun _ _ q=>wIa _ q) (wPa _)
  ⟨Nat.zero_le _,beq_eq_false_iff_ne.mpr (Ne.symm (wTa (Inv.big I))),List.nodup_nil,[],.nil,_,#[],wJa _ rfl,⟨rfl,rfl,rfl⟩,rfl,rfl⟩,rfl,h _ (I.hok.fresh (wPa _))⟩
def Yr.keys(h:Yr kvs xs):jp (kvs.map fun p=>V.ref p.2.1) ((xs.map (entryOfKey (yg P w))).map (·.key)):=by
 induction h with
 | nil=>exact .nil
 | cons r _ ih=>exact .cons (by show Value.ref _=_;rw[r.2.1]) ih
def Qf(hc:X.calm=true):YD X (.type "list") (fun xs H Q=>∃a kvs ep,xs=[.ref a]/\H a=some (.dD kvs ep)/\∀l,H l=none->Q (.ref l) (upd H l (.lst (kvs.map fun p=>V.ref p.2.1)))):=by
 intro pins s U H xs us Q I r h;obtain⟨a,kvs,ep,rfl,e,q⟩:=h;cases r with
 | cons r1 r2=>
 cases r2;cases r1;obtain⟨z,hd,nd,ys,es,pr,rd,ee⟩:=DAt.of I e;have hl:es.size=kvs.length:=by rw[<-Array.length_toList,ee,vYa,Paired.length pr]
 refine aE (I.ok.hd hc) hd rd (by rw[hl];exact z) fun h' tk acc c k g ea=>?_;refine⟨.ref s.heap.objs.size,_,I.laid (a:=s.heap.objs.size) (o:=.lst (kvs.map fun p=>V.ref p.2.1)) (t':=tk) k (wPa _) ⟨by simpa using z,acc.toList,c,?_,by simpa using g⟩,rfl,q _ (I.hok.fresh (wPa _))⟩;rw[ea,ee];exact pr.keys
def xG:entryFor table "dict_itemiterator.__iter__" = some Builtin.«dict_keyiterator.__iter__»:=entryFor_alias (id' := "dict_keyiterator.__iter__") (by kernel_rfl) rfl (by decide +kernel) (by kernel_rfl)
def Yr.len{kvs:List (KD×Addr×V)}{xs:List (KD×Addr×Value)}{es:Array DictEntry}(h:Yr kvs xs)(e:es.toList=xs.map (entryOfKey (yg P w))):es.size=kvs.length:=by rw[<-Array.length_toList,e,vYa,Paired.length h]
def Yr.entry{P:Program}{w:World}{es:Array DictEntry}{kvs:List (KD×Addr×V)}{xs:List (KD×Addr×Value)}{i:Nat}{p:KD×Addr×V}(h:Yr kvs xs)(e:es.toList=xs.map (entryOfKey (yg P w)))(hp:kvs[i]?=some p):∃y,es[i]?=some y/\y.key=.ref p.2.1/\jq p.2.2 y.val:=by
 have go:∀{kvs:List (KD×Addr×V)} {xs:List (KD×Addr×Value)} {i:Nat},Yr kvs xs->kvs[i]?=some p->∃q,xs[i]?=some q/\p.2.1=q.2.1/\jq p.2.2 q.2.2:=by
  intro kvs xs i h;induction h generalizing i with
  | nil=>intro z;simp at z
  | @cons a b as bs r t ih=>
   intro z;cases i with
   | zero=>cases z;exact⟨b,rfl,r.2.1,r.2.2⟩
   | succ i=>exact ih (i:=i) z
 obtain⟨q,e1,e2,e3⟩:=go h hp;refine⟨entryOfKey (yg P w) q,?_,by show Value.ref _=_;rw[e2],e3⟩;rw[<-Array.getElem?_toList,e,uAa,e1];rfl
def HC(a:Addr)(kvs:List (KD×Addr×V))(ep:Nat):It:=
 ⟨fun i H=>H a=some (.dD kvs ep)/\i < kvs.length,fun i H x H'=>H'=H/\∀p,kvs[i]?=some p->x=.ref p.2.1,fun i H=>H a=some (.dD kvs ep)/\kvs.length<=i⟩
def xH{P:Program}{w:World}{K:uXa}{tg:Expr}{kvs:List (KD×Addr×V)}{ep:Nat}(a it:Addr):Turn P w K tg (HC a kvs ep) [it] it (fun i h=>h.IsKeyIter it a i kvs.length ep) where
 mem:=by simp
 obj:=fun i h st b hb=>by
  have e:b=it:=by simpa using hb
  subst e;obtain⟨o,e,c,d⟩:=st;exact⟨o,e,fun v z=>by rw[d]at z;cases z⟩
 keep:=fun i h h' st k=>st.at fun o e=>k it (by simp) o e
 item:=by
  intro X hP hw hK hc i pins s U H E I hf st hg;subst hP hw hK;obtain⟨ea,hi⟩:=hg;obtain⟨z,hd,nd,ys,es,pr,rd,ee⟩:=DAt.of I ea;obtain⟨y,ey,ek,_⟩:=pr.entry ee (i:=i) (p:=kvs[i]) (by simp[hi]);have hl:=pr.len ee;obtain⟨f0,f1,f2,f3,f4,f5⟩:=hf it (by simp);rw[<-hl]at st⊢;refine wB st rd ey fun h' st' sb=>?_;have I1:Inv X pins U H { s with heap:=h' }:=I.turned (t':=s.toks) (fun b o hb e=>(sb.2 b hb).trans e) f0 f1 f3 f4 f5;obtain⟨o,e,c,d⟩:=id st';exact⟨_,rfl,GA (s:={ s with heap:=h' }) e c d (by decide) ⟨.ref kvs[i].2.1,H,I1,ek,⟨rfl,fun p hp=>by simp[hi]at hp;rw[hp]⟩,st',fun b hb=>(hf b hb).1⟩⟩
 done:=by
  intro X hP hw hK hc i pins s U H E I hf st hg;subst hP hw hK;obtain⟨ea,hi⟩:=hg;obtain⟨z,hd,nd,ys,es,pr,rd,ee⟩:=DAt.of I ea;have hl:=pr.len ee;obtain⟨f0,f1,f2,f3,f4,f5⟩:=hf it (by simp);rw[<-hl]at st;exact WY (I.ok.hd hc) st rd (by rw[hl];exact hi) fun h' eb=>⟨rfl,I.turned (t':=s.toks) (fun b o hb e=>eb b o hb e) f0 f1 f3 f4 f5⟩
 self:=fun _ _ _ _ _ st h=>wpAny_pyIter_keyiter st h
def HD(a:Addr)(kvs:List (KD×Addr×V))(ep:Nat):It:=
 ⟨fun i H=>H a=some (.dD kvs ep)/\i < kvs.length,fun i H x H'=>∃p,H p=none/\x=.ref p/\∀e,kvs[i]?=some e->H'=upd H p (.tup [.ref e.2.1,e.2.2]),fun i H=>H a=some (.dD kvs ep)/\kvs.length<=i⟩
def Qg{P:Program}{w:World}{K:uXa}{es:List Expr}{x1:Nat}{tp:Pos}{kvs:List (KD×Addr×V)}{ep:Nat}(a it:Addr):Turn P w K (.Tuple es x1 tp) (HD a kvs ep) [it] it (fun i h=>∃ok ov,IsItemIter h it a i kvs.length ep ok ov) where
 mem:=by simp
 obj:=fun i h st b hb=>by
  have e:b=it:=by simpa using hb
  subst e;obtain⟨_,_,st⟩:=st;exact⟨_,st,fun v z=>by cases z⟩
 keep:=fun i h h' st k=>let ⟨ok,ov,st⟩:=st;⟨ok,ov,k it (by simp) _ st⟩
 item:=by
  intro X hP hw hK hc i pins s U H E I hf st hg;subst hP hw hK;obtain⟨ok,ov,st⟩:=st;obtain⟨ea,hi⟩:=hg;obtain⟨z,hd,nd,ys,es,pr,rd,ee⟩:=DAt.of I ea;obtain⟨y,ey,ek,er⟩:=pr.entry ee (i:=i) (p:=kvs[i]) (by simp[hi]);have hl:=pr.len ee;rw[<-hl]at st⊢;have lt:it < s.heap.objs.size:=wLa st;refine xB st rd ey fun h' b1 b3 bz bk=>⟨_,rfl,wpAny_letOwnedTupleGo_items b1 fun h2 c1 c2=>?_⟩
  have kp:∀c o,c∉[it]->s.heap.get? c=some o->h2.get? c=some o:=fun c o hc z=>by
   have hc:c≠it:=by simpa using hc
   exact c2.extBut c o hc (bk c o hc z)
  have ht:IsTup h2 s.heap.objs.size ([y.key,y.val]:List Value).toArray:=⟨_,c2.extBut _ _ (Nat.ne_of_gt lt) b3,rfl,_,rfl⟩
  have I2:=I.tupled (t':=s.toks) (h':=h2) rfl hf kp (vs:=[.ref kvs[i].2.1,kvs[i].2.2]) (us:=[y.key,y.val]) (.cons ek (.cons er .nil)) Zc ht;refine⟨.ref s.heap.objs.size,_,I2,rfl,⟨s.heap.objs.size,I.hok.fresh (wPa _),rfl,fun e he=>?_⟩,⟨_,_,c1⟩,fun c hc=>?_⟩
  ·simp[hi]at he;rw[he]
  ·rw[jh,(hf c hc).1];have:c=it:=by simpa using hc
   rw[this];exact wTa lt
 done:=by
  intro X hP hw hK hc i pins s U H E I hf st hg;subst hP hw hK;obtain⟨ok,ov,st⟩:=st;obtain⟨ea,hi⟩:=hg;obtain⟨z,hd,nd,ys,es,pr,rd,ee⟩:=DAt.of I ea;have hl:=pr.len ee;obtain⟨f0,f1,f2,f3,f4,f5⟩:=hf it (by simp);rw[<-hl]at st;exact aB (I.ok.hd hc) st rd (by rw[hl];exact hi) fun h' eb=>⟨rfl,I.turned (t':=s.toks) (fun b o hb e=>eb b o hb e) f0 f1 f3 f4 f5⟩
 self:=fun A i s Q E st h=>by
  obtain⟨ok,ov,st⟩:=st;have ty:s.TypeIs (.ref it) "dict_itemiterator" := ⟨_,st,rfl⟩
  refine wpAny_pyIter_slot ty F.slot_dict_itemiterator_iter (wpAny_call_entry F.slot_dict_itemiterator_iter ty xG ?_ (F.args_dict_itemiterator_iter_1 _));exact(show wpAny _ _ (ret (.ref it)) _ _ s from wBa ⟨_,rfl, "dict_itemiterator",_,ty,F.slot_dict_itemiterator_next.lookup,h⟩)
def HE(K:uXa)(a:Addr)(n:Nat):It:=
 ⟨fun i H=>∃xs,jC K H a xs/\xs.length=n/\i < n,fun i H x H'=>H'=H/\∀xs,jC K H a xs->xs[n - 1 - i]?=some x,fun i H=>n<=i⟩
def aH{P:Program}{w:World}{K:uXa}{tg:Expr}{n:Nat}(a it:Addr):Turn P w K tg (HE K a n) [it] it (fun i h=>h.IsRevIter it a ((n:Int) - 1 - i)/\i<=n) where
 mem:=by simp
 obj:=fun i h st b hb=>by
  have e:b=it:=by simpa using hb
  subst e;obtain⟨⟨o,e,c,d⟩,_⟩:=st;exact⟨o,e,fun v z=>by rw[d]at z;cases z⟩
 keep:=fun i h h' st k=>⟨st.1.at fun o e=>k it (by simp) o e,st.2⟩
 item:=by
  intro X hP hw hK hc i pins s U H E I hf st hg;subst hP hw hK;obtain⟨xs,hq,hn,hi⟩:=hg;obtain⟨its,rv,p,hz⟩:=I.list hq;have hx:xs[n - 1 - i]?=some (xs[n - 1 - i]'(by omega)):=by simp
  obtain⟨u,hu,ru⟩:=rv.get hx;obtain⟨f0,f1,f2,f3,f4,f5⟩:=hf it (by simp);have e0:(n:Int) - 1 - i=((n - 1 - i:Nat):Int):=by omega
  have st1:=st.1;rw[e0]at st1;refine wpAny_pyNext_rev_item st1 p.isList (x:=u) (by simpa using hu) fun h' st' sb=>?_;have I1:Inv X pins U H { s with heap:=h' }:=I.turned (t':=s.toks) (fun b o hb e=>(sb.2 b hb).trans e) f0 f1 f3 f4 f5;obtain⟨o,e,c,d⟩:=id st';refine⟨u,rfl,GA (s:={ s with heap:=h' }) e c d (by decide) ⟨_,H,I1,ru,⟨rfl,fun ys hy=>by rw[I.list_inj hy hq];exact hx⟩,⟨?_,hi⟩,fun b hb=>(hf b hb).1⟩⟩;have e1:(n:Int) - 1 - ((i+1:Nat):Int)=((n - 1 - i:Nat):Int) - 1:=by omega
  rw[e1];exact st'
 done:=by
  intro X hP hw hK hc i pins s U H E I hf st hg;subst hP hw hK;obtain⟨f0,f1,f2,f3,f4,f5⟩:=hf it (by simp);have hg:n<=i:=hg;have e0:(n:Int) - 1 - i=-1:=by have:=st.2;omega
  have st1:=st.1;rw[e0]at st1;exact wpAny_pyNext_rev_end (I.ok.hd hc) st1 fun h' eb=>⟨rfl,I.turned (t':=s.toks) (fun b o hb e=>eb b o hb e) f0 f1 f3 f4 f5⟩
 self:=fun _ _ _ _ _ st h=>wpAny_pyIter_revIter st.1 h
def FL(tl:TE):TI:=fun U H R=>tl U H fun x H1=>∃a kvs ep,x=.ref a/\H1 a=some (.dD kvs ep)/\R (HC a kvs ep) H1
def BM(hl:PE X l tl):PI X tg l (FL tl):=by
 intro pins s U H R I h;refine jv (hl pins s U H _ I h) fun v s1 xx=>?_;obtain⟨x,H1,I1,r1,q1⟩:=xx;obtain⟨a,kvs,ep,rfl,ea,q⟩:=q1;cases r1;obtain⟨z,hd,nd,ys,es,pr,rd,ee⟩:=DAt.of I1 ea;have hl:=pr.len ee;refine wA hd rd ⟨s1.heap.objs.size,[s1.heap.objs.size],_,_,H1,rfl,I1.kept (t':=s1.toks) fun b o e=>wIa _ e,xH (kvs:=kvs) (ep:=ep) a _,?_,fun b hb=>?_,q⟩
 ·rw[<-hl];exact⟨_,wJa _ rfl,rfl,rfl⟩
 ·have e:b=s1.heap.objs.size:=by simpa using hb
  subst e;exact I1.fpOk (wPa _) (I1.hok.fresh (wPa _))
def DJ(tl:TE):TI:=fun U H R=>tl U H fun x H1=>∃a kvs ep,x=.ref a/\H1 a=some (.dD kvs ep)/\R (HD a kvs ep) H1
def aI{ap cp:Pos}(hl:PE X l tl)(hbase:attributeBase l "items" X.env (eval l X.env)=eval l X.env)(hline:(ap.endLine==cp.line)=true):PI X (.Tuple es x1 tp) (.Call (.Attribute l "items" ap) [] [] cp) (DJ tl):=by
 intro pins s U H R I h;refine wpAny_Call_method0_late hbase hline (jv (hl pins s U H _ I h) fun v s1 xx=>?_);obtain⟨x,H1,I1,r1,q1⟩:=xx;obtain⟨a,kvs,ep,rfl,ea,q⟩:=q1;cases r1;obtain⟨z,hd,nd,ys,es,pr,rd,ee⟩:=DAt.of I1 ea;have hl:=pr.len ee;refine⟨"dict", "dict.items",F.plainAttrs_dict,F.slot_dict_items,F.type_dict_items,rd.ty,?_,Calls.callWith_builtin rfl (PySem.evalArgs_none (xz hd rd ?_))⟩
 ·intro b e;cases e;obtain⟨o,g,c,_⟩:=rd;exact⟨o,g,c.2.1⟩
 have k1:∀b o,s1.heap.get? b=some o->(s1.heap.push { cls:=.type "dict_items",data:=.fields #[.ref a] }).get? b=some o:=fun b o e=>wIa _ e;have hv:(s1.heap.push { cls:=.type "dict_items",data:=.fields #[.ref a] }).IsItemsView s1.heap.objs.size a:=⟨_,wJa _ rfl,rfl,rfl⟩
 have I2:Inv X pins U H1 { s1 with heap:=s1.heap.push { cls:=.type "dict_items",data:=.fields #[.ref a] } }:=I1.kept (t':=s1.toks) k1;generalize s1.heap.push { cls:=.type "dict_items",data:=.fields #[.ref a] }=h2 at k1 hv I2;refine xA (s:={ s1 with heap:=h2 }) hv (rd.at fun o e=>k1 _ o e) ⟨h2.objs.size,[h2.objs.size],_,_,H1,rfl,I2.kept (t':=s1.toks) fun b o e=>wIa _ e,Qg (kvs:=kvs) (ep:=ep) a _,?_,fun b hb=>?_,q⟩
 ·rw[<-hl];exact⟨_,_,wJa _ rfl⟩
 ·have e:b=h2.objs.size:=by simpa using hb
  subst e;exact I2.fpOk (wPa _) (I2.hok.fresh (wPa _))
def IB(K:Fr)(ta:TA):TI:=fun U H R=>ta U H fun vs H1=>∃a xs,vs=[.ref a]/\jC K H1 a xs/\R (HE K a xs.length) H1
def DL{e1:Expr}{ta:TA}{p:Pos}(hg:Gl X "reversed")(hm:X.mg "reversed" = none)(ha:PA X [e1] ta)(hs:starEach [e1] X.env=[(false,eval e1 X.env)]):PI X tg (.Call (.Name "reversed" p) [e1] [] pos) (IB X.K ta):=by
 intro pins s U H R I h;refine Call_ (Zb I hg hm PyProof.Rows.boot_reversed (PyProof.Rows.callWith_type1 (jv (ha pos pins s U H _ I h) fun us s1 xx=>?_) hs rfl));obtain⟨vs,H1,I1,r1,q1⟩:=xx;obtain⟨a,xs,rfl,qa,q⟩:=q1;cases r1 with
 | cons r rr=>
 cases rr;cases r;obtain⟨its,rv,p,hz⟩:=I1.list qa;have hl:=rv.length;refine call_reversed_list p.isList ?_;have k1:∀b o,s1.heap.get? b=some o->(s1.heap.push (revObj a ((its.toArray.size:Int) - 1))).get? b=some o:=fun b o e=>wIa _ e;have st:(s1.heap.push (revObj a ((its.toArray.size:Int) - 1))).IsRevIter s1.heap.objs.size a ((xs.length:Int) - 1 - (0:Nat)):=⟨_,wJa _ rfl,rfl,by rw[uLa,hl];simp[revObj]⟩
 refine wpAny_pyIter_revIter (i:=(xs.length:Int) - 1 - (0:Nat)) st ⟨s1.heap.objs.size,[s1.heap.objs.size],_,_,H1,rfl,I1.kept (t':=s1.toks) k1,aH (n:=xs.length) a _,⟨st,Nat.zero_le _⟩,fun b hb=>?_,q⟩;have e:b=s1.heap.objs.size:=by simpa using hb
 subst e;exact I1.fpOk (wPa _) (I1.hok.fresh (wPa _))
noncomputable def V2:List KD->List D->KD->Option D
 | q::qs,d::ds,k=>if q=k then some d else V2 qs ds k
 | _,_,_=>none
noncomputable def Ug:List KD->List D->KD->D->List D
 | q::qs,d::ds,k,v=>(if q=k then v else d)::Ug qs ds k v
 | _,ds,_,_=>ds
def yb:D->D->Option D
 | .dct ks vs,k=>(yv k).bind fun q=>(Jb ks).bind fun qs=>V2 qs vs q
 | _,_=>none
def wE(neg:Bool):D->D->Option D
 | k,.dct ks _=>(yv k).bind fun q=>(Jb ks).bind fun qs=>some (.bl (xor neg (decide (q∈qs))))
 | _,_=>none
section
variable {K:Fr} {H:Hp} {O:List Addr}
theorem W_{k:KD}{d:D}:∀{kvs:List (KD×Addr×V)} {vs:List D},j4 K H vs (kvs.map (·.2.2))->V2 (kvs.map (·.1)) vs k=some d->∃v,uG kvs k=some v/\j8 K H d v
 | [],_,_,e=>by rw[uJa,V2]at e;cases e;all_goals (intros;contradiction)
 | p::kvs,[],r,e=>by rw[vWa,V2]at e;cases e;all_goals (intros;contradiction)
 | p::kvs,d'::vs,r,e=>by
  rw[vWa,j4]at r;obtain⟨_,_,ee,r1,r2⟩:=r;cases ee;rw[vWa,V2]at e;unfold uG;rw[List.find?_cons];by_cases h:p.1=k
  ·rw[if_pos h]at e;cases e;rw[decide_eq_true h];exact⟨_,rfl,r1⟩
  ·rw[if_neg h]at e;rw[decide_eq_false h];exact W_ r2 e
theorem wF:∀{kvs:List (KD×Addr×V)},(uG kvs k).isSome=decide (k∈kvs.map (·.1))
 | []=>by simp[uG]
 | p::kvs=>by
  unfold uG;rw[List.find?_cons,vWa];by_cases h:p.1=k
  ·rw[decide_eq_true h,decide_eq_true (by rw[h];exact List.mem_cons_self)];rfl
  ·rw[decide_eq_false h];have:=wF (k:=k) (kvs:=kvs);unfold uG at this;refine this.trans ?_;by_cases hm:k∈kvs.map (·.1)
   ·rw[decide_eq_true hm,decide_eq_true (List.mem_cons_of_mem _ hm)]
   ·rw[decide_eq_false hm,decide_eq_false];intro z;rcases uTa z with z | z
    ·exact h z.symm
    ·exact hm z
def wG{dk:D}{k:KD}{y:V}(h:RB K O H dk y)(e:yv dk=some k):∃b,y=.ref b/\j8 K H dk (.ref b):=by
 have f:=h.full;unfold yv at e;split at e
 ·have f0:=f;rw[j8]at f;obtain⟨a,xs,rfl,_⟩:=f;exact⟨a,rfl,f0⟩
 ·cases e
def FM:Jk K (bw K) yb:=by
 intro O H a b d x y Q ha hb _ e q;unfold yb at e;split at e
 ·obtain⟨k,e1,e⟩:=j1 e;obtain⟨qs,e2,e⟩:=j1 e;obtain⟨p,kvs,ep,rfl,h1,h2,h3,h4⟩:=ha.dct;obtain⟨y,rfl,ry⟩:=wG hb e1;rw[h2]at e2;cases e2;obtain⟨v,ev,rv⟩:=W_ h4 e;exact⟨p,kvs,ep,y,_,k,_,v,rfl,rfl,⟨h1,h2,h3.same yW⟩,ry,e1,ev,q v H (j5.refl H) rv⟩
 ·cases e
def bA:Jk K (aG K neg) (wE neg):=by
 intro O H a b d x y Q ha hb _ e q;unfold wE at e;split at e
 ·obtain⟨k,e1,e⟩:=j1 e;obtain⟨qs,e2,e⟩:=j1 e;cases e;obtain⟨p,kvs,ep,rfl,h1,h2,h3,h4⟩:=hb.dct;obtain⟨y,rfl,ry⟩:=wG ha e1;rw[h2]at e2;cases e2;exact⟨p,kvs,ep,y,_,k,_,rfl,rfl,⟨h1,h2,h3.same yW⟩,ry,e1,q _ H (j5.refl H) (by rw[j8,wF])⟩
 ·cases e
noncomputable def GP(qs:List KD)(ks:List D)(q:KD)(k:D):List D:=if q∈qs then ks else ks++[k]
def KJ(qs:List KD)(vs:List D)(q:KD)(v:D):List D:=if q∈qs then Ug qs vs q v else vs++[v]
theorem gz:∀{ks:List D} {qs:List KD} {k:D} {q:KD},Jb ks=some qs->yv k=some q->Jb (ks++[k])=some (qs++[q])
 | [],qs,k,q,e,f=>by
  rw[Jb]at e;cases e;rw[List.nil_append,Jb,f];rfl
 | d::ks,qs,k,q,e,f=>by
  rw[Jb]at e;obtain⟨x,e1,e⟩:=j1 e;obtain⟨xs,e2,e⟩:=j1 e;cases e;rw[List.cons_append,Jb,e1,gz e2 f];rfl
theorem wH(rv:j8 K H d v):∀{kvs:List (KD×Addr×V)} {vs:List D},j4 K H vs (kvs.map (·.2.2))->j4 K H (Ug (kvs.map (·.1)) vs k d) ((kvs.map (fun p=>if p.1=k then(p.1,p.2.1,v)else p)).map (·.2.2))
 | [],vs,r=>by
  rw[uJa,uJa,uJa,Ug]
  ·exact r
  all_goals (intros;contradiction)
 | p::kvs,[],r=>by rw[vWa,j4]at r;cases r
 | p::kvs,d'::vs,r=>by
  rw[vWa,j4]at r;obtain⟨_,_,ee,r1,r2⟩:=r;cases ee;rw[vWa,vWa,vWa,Ug];refine j4.cons ?_ (wH rv r2);by_cases h:p.1=k
  ·rw[if_pos h,if_pos h];exact rv
  ·rw[if_neg h,if_neg h];exact r1
def qc(hf:∀p:KD×Addr×V,f (p.1,p.2.1,v)=f p):∀kvs:List (KD×Addr×V),(kvs.map (fun p=>if p.1=k then(p.1,p.2.1,v)else p)).map f=kvs.map f:=fun kvs=>by
 rw[List.map_map];refine List.map_congr_left fun p _=>?_;show f (if p.1=k then(p.1,p.2.1,v)else p)=f p;split
 ·exact hf p
 ·rfl
def BN{qs:List KD}{kvs:List (KD×Addr×V)}(e1:yv dk=some k)(e2:Jb ks=some (kvs.map (·.1)))(rk:j4 K H ks (kvs.map fun p=>V.ref p.2.1))(rv:j4 K H vs (kvs.map (·.2.2)))(r1:j8 K H dk (.ref b))(r2:j8 K H d v):
  Jb (GP (kvs.map (·.1)) ks k dk)=some ((vo kvs k b v).map (·.1))/\j4 K H (GP (kvs.map (·.1)) ks k dk) ((vo kvs k b v).map fun p=>V.ref p.2.1)/\j4 K H (KJ (kvs.map (·.1)) vs k d) ((vo kvs k b v).map (·.2.2)):=by
 unfold GP KJ vo;rw[wF];by_cases h:k∈kvs.map (·.1)
 ·rw[decide_eq_true h,if_pos h,if_pos h,if_pos rfl,qc (fun _=>rfl),qc (fun _=>rfl)];exact⟨e2,rk,wH r2 rv⟩
 ·rw[decide_eq_false h,if_neg h,if_neg h,if_neg (by decide),uDa,uDa,uDa];exact⟨gz e2 e1,rk.snoc r1,rv.snoc r2⟩
end
section
variable {X:Cx} {K:Fr} {e a b c d tg:Expr} {de da db dc dd dk:DE} {pos:Pos} {st:Stmt}
@[simp] def Zw(i:Nat)(dk de:DE)(Z:jk):Option Rs:=match Z[i]? with
 | some (.ow q (.dct ks vs))=>(de Z).bind fun d=>(dk Z).bind fun k=>(yv k).bind fun x=>(Jb ks).bind fun qs=>if ks.length < sizeLine then some (.nx (Z.set i (.ow q (.dct (GP qs ks x k) (KJ qs vs x d)))))else none
 | _=>none
set_option tactic.hygienic true
theorem FN(h:PS X st (zI (tE K de) (XD (Zp i) (tE K dk) (bx K)))):PS X st (tS K Px (Zw i dk de)):=Jr h fun D U H xx=>by
 obtain⟨H0,O0,Z,O,r,R,ed,f⟩:=xx;unfold Zw at ed;split at ed
 ·rename_i q ks vs hi;obtain⟨d,e1,ed⟩:=j1 ed;obtain⟨k,e2,ed⟩:=j1 ed;obtain⟨x,e3,ed⟩:=j1 ed;obtain⟨qs,e4,ed⟩:=j1 ed;split at ed
  ·rename_i hz;cases ed;obtain⟨l,hq,hs,⟨kvs,ep,hl,hk,rk,rv⟩,lo,h0⟩:=R.ow i _ _ hi;refine⟨H0,O0,Z,O,d,R,e1,fun v H1 s1 rd=>⟨_,hs,H0,O0,Z,O,k,R.grow s1,e2,fun w H2 s2 rw'=>?_⟩⟩;have s12:=s1.trans s2;have R':=R.grow s12;rw[hk]at e4;cases e4;obtain⟨b,rfl,rb⟩:=wG (O:=O) (.inl rw') e3;have hlen:kvs.length=ks.length:=by have:=rk.len;simpa using this
   obtain⟨p1,p2,p3⟩:=BN (b:=b) (qs:=[]) e3 hk (rk.same (jm s12)) (rv.same (jm s12)) rw' (rd.same (jm s2));refine⟨l,kvs,ep,b,ks,x,k,rfl,rfl,⟨s12 _ _ hl,hk,(rk.same (jm s12)).same yW⟩,rb,e3,by rw[hlen];exact hz,fun ep'=>f _ _ O (R'.change hi hq hs lo h0 ⟨_,ep',jw,p1,p2,p3⟩) ?_⟩;rw[Y8 lo];exact jm s12
  ·cases ed
 ·cases ed
@[simp] noncomputable def UX(_:jk):Option OD:=some (.dct [] [])
def DM:PE X (.Dict [] [] pos) (tF K UX):=jD BL fun U H Q xx=>by
 obtain⟨H0,O0,Z,O,o,R,ed,q⟩:=xx;cases ed;exact fun p hp=>q p _ (jQ hp _) hp ⟨[],0,jw,by rw[Jb];rfl,j4.nil,j4.nil⟩
noncomputable def ze:List D->Option OD
 | [.dct ks _]=>some (.lst ks)
 | _=>none
@[simp] theorem IC(ks vs:List D):ze [.dct ks vs]=some (.lst ks):=rfl
def BO:D5 K (fun xs H Q=>∃a kvs ep,xs=[.ref a]/\H a=some (.dD kvs ep)/\∀l,H l=none->Q (.ref l) (upd H l (.lst (kvs.map fun p=>V.ref p.2.1)))) ze:=by
 intro O H ks ds vs d Q ak e q;unfold ze at e;split at e
 ·cases e;obtain⟨v,rfl,r⟩:=vk ak;obtain⟨p,kvs,ep,rfl,h1,h2,h3,h4⟩:=r.dct;exact⟨p,kvs,ep,rfl,h1,fun l hl=>q l _ (jQ hl _) hl (yH hl h3)⟩
 ·cases e
noncomputable def wI:D->Option (List D)
 | .dct ks _=>some ks
 | _=>none
@[simp] theorem IE(ks vs:List D):wI (.dct ks vs)=some ks:=rfl
@[simp] def bB(de:DE)(Z:jk):Option (List D):=(de Z).bind wI
def RP.dct{H0 H:Hp}{O0 O:List Addr}{ks vs:List D}{v:V}(r:RP K H0 O0 H O (.dct ks vs) v):∃p kvs ep,v=.ref p/\∀(H':Hp) (O':List Addr),j5 H0 H'->j5 (je H0 O0) (je H' O')->j5 (je H O) (je H' O')->H' p=some (.dD kvs ep)/\j4 K (je H' O') ks (kvs.map fun p=>V.ref p.2.1)/\j4 K (je H' O') vs (kvs.map (·.2.2)):=by
 rcases r with r | r | ⟨l,o,rfl,z2,z3⟩
 ·rw[j8]at r;obtain⟨p,kvs,ep,rfl,w1,_,w3,w4⟩:=r;exact⟨p,kvs,ep,rfl,fun H' O' t0 t1 t2=>⟨(yi (t2 _ _ w1)).2,w3.same t2,w4.same t2⟩⟩
 ·rw[j8]at r;obtain⟨p,kvs,ep,rfl,w1,_,w3,w4⟩:=r;exact⟨p,kvs,ep,rfl,fun H' O' t0 t1 t2=>⟨(yi (t1 _ _ w1)).2,w3.same t1,w4.same t1⟩⟩
 ·cases o <;> cases z2;obtain⟨kvs,ep,w1,_,w3,w4⟩:=z3;exact⟨l,kvs,ep,rfl,fun H' O' t0 t1 t2=>⟨t0 _ _ w1,w3.same t1,w4.same t1⟩⟩
def DN(h:PE X e (tP K de)):PI X tg e (Ze K (bB de)):=VS (BM h) fun U H R xx=>by
 obtain⟨H0,O0,Z,O,items,Re,ed,q⟩:=xx;obtain⟨x,e1,e2⟩:=j1 ed;refine⟨H0,O0,Z,O,x,Re,e1,fun v H1 s1 r=>?_⟩;have R1:=Re.grow s1;unfold wI at e2;split at e2
 ·cases e2;obtain⟨p,kvs,ep,rfl,al⟩:=r.dct;refine⟨p,kvs,ep,rfl,(al H1 O R1.keep R1.in0 (j5.refl _)).1,q _ H1 s1 fun i H' O' t0 t1 t2 ta=>?_⟩;obtain⟨g1,g3,g4⟩:=al H' O' t0 t1 t2;refine⟨fun d hd=>?_,fun hi=>⟨g1,by have:=g3.len;rw[vYa]at this;rw[hi,this];exact wPa _⟩⟩;obtain⟨x',hx,rx⟩:=g3.get hd;rw[uAa]at hx;obtain⟨y,hy,rfl⟩:=Option.map_eq_some_iff.mp hx;refine⟨⟨g1,(uSa hy).1⟩,fun x'' H'' yy=>?_⟩;obtain⟨z1,z2⟩:=yy;rw[z1,z2 _ hy];exact⟨j5.refl _,rx⟩
 ·cases e2
noncomputable def VA:D->Option (List D)
 | .dct ks vs=>some (List.zipWith (fun k v=>D.tup [k,v]) ks vs)
 | _=>none
@[simp] theorem Km(ks vs:List D):VA (.dct ks vs)=some (List.zipWith (fun k v=>D.tup [k,v]) ks vs):=rfl
@[simp] def Zi(de:DE)(Z:jk):Option (List D):=(de Z).bind VA
theorem BP{ap cp:Pos}(h:PE X e (tP K de))(hb:attributeBase e "items" X.env (eval e X.env)=eval e X.env)(hl:(ap.endLine==cp.line)=true):PI X (.Tuple es x1 tp) (.Call (.Attribute e "items" ap) [] [] cp) (Ze K (Zi de)):=VS (aI h hb hl) fun U H R xx=>by
 obtain⟨H0,O0,Z,O,items,Re,ed,q⟩:=xx;obtain⟨x,e1,e2⟩:=j1 ed;refine⟨H0,O0,Z,O,x,Re,e1,fun v H1 s1 r=>?_⟩;have R1:=Re.grow s1;unfold VA at e2;split at e2
 ·cases e2;obtain⟨p,kvs,ep,rfl,al⟩:=r.dct;refine⟨p,kvs,ep,rfl,(al H1 O R1.keep R1.in0 (j5.refl _)).1,q _ H1 s1 fun i H' O' t0 t1 t2 ta=>?_⟩;obtain⟨g1,g3,g4⟩:=al H' O' t0 t1 t2;have l3:=g3.len;have l4:=g4.len;rw[vYa]at l3 l4;refine⟨fun d hd=>?_,fun hi=>⟨g1,by rw[hi,List.length_zipWith];lia⟩⟩;rw[List.getElem?_zipWith]at hd;split at hd
  ·rename_i dk dv hk hv;cases hd;obtain⟨x',hx,rx⟩:=g3.get hk;obtain⟨x2,hx2,rx2⟩:=g4.get hv;rw[uAa]at hx hx2;obtain⟨y,hy,rfl⟩:=Option.map_eq_some_iff.mp hx;rw[hy]at hx2;cases hx2;refine⟨⟨g1,(uSa hy).1⟩,fun x'' H'' yy=>?_⟩;obtain⟨pp,hpp,rfl,yy⟩:=yy;rw[yy _ hy];exact⟨jQ hpp _,av (fun z=>ta pp z hpp) hpp rx rx2⟩
  ·cases hd
 ·cases e2
@[simp] def Qi(de:DE)(Z:jk):Option (List D):=(de Z).bind fun d=>(vZ d).bind fun l=>some l.reverse
def FO(hg:Gl X "reversed")(hm:X.mg "reversed" = none)(h:PE X a (tP K da))(hs:starEach [a] X.env=[(false,eval a X.env)])(hK:X.K=K:=by rfl):PI X tg (.Call (.Name "reversed" p) [a] [] pos) (Ze K (Qi da)):=VS (DL hg hm (Jj h yQ (by rw[hs];rfl)) hs) fun U H R xx=>by
 obtain⟨H0,O0,Z,O,items,Re,ed,q⟩:=xx;subst hK;obtain⟨x,e1,ed⟩:=j1 ed;obtain⟨l,e3,ed⟩:=j1 ed;cases ed;refine⟨H0,O0,Z,O,x,Re,e1,fun v H1 s1 r=>?_⟩;have R1:=Re.grow s1;unfold vZ at e3;split at e3
 ·cases e3;obtain⟨p,xs,rfl,h1,h2⟩:=(r.at R1.keep R1.in0 (j5.refl _)).lst;have hlen:=h2.len;refine⟨p,xs,rfl,jC.of h1,q _ H1 s1 fun i H' O' t0 t1 t2 ta=>?_⟩;obtain⟨p',us,ea,g1,g2⟩:=(r.at t0 t1 t2).lst;cases ea;have hl2:=g2.len;refine⟨fun d hd=>?_,fun hi=>by rw[hi,List.length_reverse];show xs.length<=_;lia⟩;have hil:i < l.length:=by have:=(uSa hd).1;simpa using this
  rw[List.getElem?_reverse hil]at hd;obtain⟨u,hu,ru⟩:=g2.get hd;refine⟨⟨us,jC.of g1,by lia,by lia⟩,fun x' H'' yy=>?_⟩;obtain⟨z1,z2⟩:=yy;have z3:=z2 us (jC.of g1);rw[hlen,hu]at z3;cases z3;rw[z1];exact⟨j5.refl _,ru⟩
 ·cases e3
noncomputable def ZU:List D->Option (List Int)
 | []=>some []
 | .int i::r=>(ZU r).bind fun is=>some (i::is)
 | _=>none
set_option tactic.hygienic false
set_option tactic.hygienic true in
theorem GQ{H:Hp}:∀{l:List D} {is:List Int} {xs:List V},ZU l=some is->j4 K H l xs->xs=is.map V.int
 | [],is,xs,e,r=>by rw[ZU]at e;cases e;rw[j4]at r;exact r
 | d::l,is,xs,e,r=>by
  unfold ZU at e;split at e
  ·rename_i h;cases h
  ·rename_i h;cases h;obtain⟨js,e1,e2⟩:=j1 e;cases e2;rw[j4]at r;obtain⟨v,vs,rfl,r1,r2⟩:=r;rw[j8]at r1;rw[r1,GQ e1 r2];rfl
  ·cases e
def wJ:List D->Option D
 | [.lst l]=>(ZU l).bind fun is=>some (.int is.sum)
 | _=>none
@[simp] theorem lp(l:List D):wJ [.lst l]=(ZU l).bind fun is=>some (.int is.sum):=rfl
theorem Kn(is:List Int):∀n,n<=is.length->preSum (fun i=>(is[i]?).getD 0) n=(is.take n).sum
 | 0,_=>by simp[preSum]
 | n+1,h=>by
  rw[preSum,Kn is n (by lia),List.take_succ_eq_append_getElem (by lia),List.sum_append];simp[show n < is.length by lia]
def aJ(hc:X.calm=true):YD X (.builtin "sum") (fun xs H Q=>∃(p:Addr) (is:List Int),xs=[.ref p]/\jC X.K H p (is.map V.int)/\Q (.int is.sum) H):=by
 intro pins s U H xs us Q I r h;obtain⟨p,is,rfl,hq,q⟩:=h;cases r with
 | cons r rr=>
  cases rr;cases r;obtain⟨its,rv,pl,hz⟩:=I.list hq;refine call_sum_walkG (wpAny_pyIter_list pl.isList ?_);have hp:p < s.heap.objs.size:=by obtain⟨o,ho,_⟩:=pl.isList;exact wLa ho
  have hlen:its.length=is.length:=by have:=rv.length;simp at this;lia
  refine⟨s.heap.objs.size,_,_,_,_,_,fun i=>(is[i]?).getD 0,rfl,Walks.list (A:=X.A.in1) (I.ok.hd hc) s.heap.objs.size p (wTa hp) its.toArray,⟨⟨_,wJa _ rfl,rfl,rfl⟩,Heap.IsList.at pl.isList fun o e=>wIa _ e⟩,?_,?_,fun h' tk t' hk=>?_⟩
  ·intro b hb;rw[uPa];simp only[List.mem_cons,List.not_mem_nil,or_false]at hb;rcases hb with rfl | rfl
   ·exact Nat.lt_succ_self _
   ·exact Nat.lt_succ_of_lt hp
  ·intro i v hv;have hv:its[i]?=some v:=by simpa using hv
   have hi:i < is.length:=by rw[<-hlen];exact(uSa hv).1
   obtain⟨u,eu,ru⟩:=rv.get (i:=i) (x:=V.int is[i]) (by simp[hi]);rw[hv]at eu;cases eu;obtain⟨t,rfl⟩:=ru;exact⟨t,by simp[hi]⟩
  ·refine⟨.int is.sum,H,I.kept (t':=tk) (h':=h') (fun b o e=>hk b o ?_ (wIa _ e)),⟨t',?_⟩,q⟩
   ·intro z;have z:b=s.heap.objs.size:=by simpa using z
    exact wUa _ (z▸wLa e)
   ·rw[uLa,hlen,Kn is _ (Nat.le_refl _),List.take_length]
def FP:Fn K (fun xs H Q=>∃(p:Addr) (is:List Int),xs=[.ref p]/\jC K H p (is.map V.int)/\Q (.int is.sum) H) wJ:=by
 intro O H ks ds vs d Q ak _ e q;unfold wJ at e;split at e
 ·obtain⟨is,e1,e2⟩:=j1 e;cases e2;obtain⟨v,rfl,r⟩:=vk ak;obtain⟨p,xs,rfl,h1,h2⟩:=r.lst;have:=GQ e1 h2;subst this;exact⟨p,is,rfl,jC.of h1,q _ H (j5.refl H) (by rw[j8])⟩
 ·cases e
end
end DS
namespace L2
def DP(bs:List Bool)(n:Nat)(hn:n=bs.length):((List.range n).any fun i=>(bs[i]?).getD true)=bs.any id:=by
 subst hn;rw[Bool.eq_iff_iff];simp only[List.any_eq_true,List.mem_range,id];constructor
 ·rintro⟨i,hi,e⟩;exact⟨bs[i],List.getElem_mem hi,by simpa[hi]using e⟩
 ·rintro⟨x,hx,e⟩;obtain⟨i,hi,rfl⟩:=List.mem_iff_getElem.mp hx;exact⟨i,hi,by simpa[hi]using e⟩
def aK(hc:X.calm=true):YD X (.builtin "any") (fun xs H Q=>∃(p:Addr) (bs:List Bool),xs=[.ref p]/\jC X.K H p (bs.map V.bl)/\Q (.bl (bs.any id)) H):=by
 rintro pins s U H _ us Q I r ⟨p,bs,rfl,hq,q⟩;cases r with
 | cons r rr=>
  cases rr;cases r;obtain⟨its,rv,pl,hz⟩:=I.list hq;have hp:p < s.heap.objs.size:=by
   obtain⟨o,ho,_⟩:=pl.isList;exact wLa ho
  have hlen:its.length=bs.length:=by
   have:=rv.length;rw[vYa]at this
   lia
  have W:=Walks.list (prog:=X.prog) (w:=X.w) (A:=X.A.in1) (I.ok.hd hc) s.heap.objs.size p (wTa hp) its.toArray;refine call_any_walk (wpAny_pyIter_list pl.isList ⟨_,_,_,_,_,_,fun i=>(bs[i]?).getD true,rfl,W,?_,?_,?_⟩)
  ·exact⟨⟨_,wJa _ rfl,rfl,rfl⟩,pl.isList.at fun o e=>wIa _ e⟩
  ·intro i v s' Q' E' hv hq';have hv:its[i]?=some v:=by simpa using hv
   have hi:i < bs.length:=by
    rw[<-hlen];exact(uSa hv).1
   obtain⟨u,eu,ru⟩:=rv.get (i:=i) (x:=V.bl bs[i]) (by simp[hi]);cases hv.symm.trans eu;cases ru;refine wpAny_truthy_bool ?_;have hq':Q' ((bs[i]?).getD true) s':=hq';rwa [uCa hi]at hq'
  ·intro h' tk hk;rw[DP bs _ (by rw[uLa,hlen])];have J:Inv X pins U H { s with heap:=h',toks:=tk }:=I.turnedL (t':=tk) (ch:=[s.heap.objs.size]) (fun b hb=>by
    rw[List.mem_singleton]at hb;subst hb;exact I.fpOk (wPa _) (I.hok.fresh (wPa _))) fun c o hc' e'=>hk c o hc' (wIa _ e')
   exact⟨.bl (bs.any id),H,J,rfl,q⟩
end L2
end
namespace DS
open PySem L2
@[simp] def kN:List D->Option D
 | [.lst l]=>(Vd l).bind fun bs=>some (.bl (bs.any id))
 | _=>none
def FQ:Fn K (fun xs H Q=>∃(p:Addr) (bs:List Bool),xs=[.ref p]/\jC K H p (bs.map V.bl)/\Q (.bl (bs.any id)) H) kN:=by
 intro O H ks ds vs d Q h hn e q;unfold kN at e;split at e
 ·obtain⟨bs,e1,e2⟩:=j1 e;cases e2;obtain⟨v,rfl,r⟩:=vk h;obtain⟨p,xs,rfl,h1,h2⟩:=r.lst;rw[Ud e1 h2]at h1;exact⟨p,bs,rfl,jC.of h1,q _ H (j5.refl H) (by rw[j8])⟩
 ·cases e
end DS
namespace L2
open PySem PySem.Spec PyProof.Rows
section
variable {X:Cx}
def DQ:jS X (compareOp .Is) (fun x y H Q=>∃a b,x=.bl a/\y=.bl b/\Q (.bl (a==b)) H):=by
 intro pins s U H x y v u Q I rx ry h;obtain⟨a,b,rfl,rfl,q⟩:=h;cases rx;cases ry;exact wpAny_is_plain rfl (jH I q (by cases a <;> cases b <;> rfl))
def BQ:jS X (compareOp .IsNot) (fun x y H Q=>∃a b,x=.bl a/\y=.bl b/\Q (.bl (!(a==b))) H):=by
 intro pins s U H x y v u Q I rx ry h;obtain⟨a,b,rfl,rfl,q⟩:=h;cases rx;cases ry;exact wpAny_isNot_plain rfl (jH I q (by cases a <;> cases b <;> rfl))
end
end L2
namespace DS
open PySem PySem.Spec PyProof.Rows L2
section
variable {K:Fr}
noncomputable def Qj:D->D->Option D
 | .bl a,.bl b=>some (.bl (a==b))
 | _,_=>none
@[simp] theorem l6(a b:Bool):Qj (.bl a) (.bl b)=some (.bl (a==b)):=rfl
noncomputable def KK:D->D->Option D
 | .bl a,.bl b=>some (.bl (!(a==b)))
 | _,_=>none
@[simp] theorem IG(a b:Bool):KK (.bl a) (.bl b)=some (.bl (!(a==b))):=rfl
def FR:Jk K (fun x y H Q=>∃a b,x=.bl a/\y=.bl b/\Q (.bl (a==b)) H) Qj:=by
 intro O H a b d x y Q ha hb _ e q;unfold Qj at e;split at e
 ·cases e;exact⟨_,_,ha.bl,hb.bl,q _ H (j5.refl H) (by rw[j8])⟩
 ·cases e
def DR:Jk K (fun x y H Q=>∃a b,x=.bl a/\y=.bl b/\Q (.bl (!(a==b))) H) KK:=by
 intro O H a b d x y Q ha hb _ e q;unfold KK at e;split at e
 ·cases e;exact⟨_,_,ha.bl,hb.bl,q _ H (j5.refl H) (by rw[j8])⟩
 ·cases e
def BR:PS X s (tS K Px ZT):=fun _ _ _ _ _ _ ⟨_,_,_,_,_,_,ed,_⟩=>by cases ed
end
end DS
namespace DS
open PySem PySem.Spec PyProof.Rows L2 PySem.SeqAt
end DS
namespace L2
open PySem PySem.Spec PyProof.Rows
def kO:V->List V->Hp->VK->Prop:=fun x vs H Q=>∃l xs i y,x=.ref l/\vs=[.int i,y]/\H l=some (.lst xs)/\0<=i/\i<=(xs.length:Int)/\xs.length < 1000000/\Q .non (upd H l (.lst (xs.take i.toNat++y::xs.drop i.toNat)))
def Qk:1000000 < sizeLine:=by decide
set_option tactic.hygienic true in
theorem xI:Hu X "list.insert" kO:=by
 intro pins s U H x vs v us Q I rx rv h;obtain⟨l,xs,i,y,rfl,rfl,hH,h0,h1,hz,q⟩:=h;cases rx;cases rv with
 | cons r1 rr=>
 cases rr with
 | cons r2 rr=>
 cases rr;obtain⟨t,rfl⟩:=r1;rename_i u;obtain⟨z,its,n,r,hl,e⟩:=I.lstM hH;have sl:=Qk;have hk:i.toNat<=its.length:=by lia
 refine call_meets F.slot_list_insert ⟨_,e,rfl⟩ F.entry_list_insert (F.args_list_insert_3 _ _ _) (AutoListH.list_insert_list_int_val_1 l its.toArray n i t u (by rw[fitsIndex_both (by lia) (by lia)];decide) (by rw[uLa];lia)) ⟨e,?_⟩;refine⟨.non,_,I.lset (its':=its.take i.toNat++u::its.drop i.toNat) hH e ?_ ?_ ?_,rfl,q⟩
 ·show(have k:=if i < 0 then(i+((its.toArray.size:Nat):Int)).toNat else min i.toNat its.toArray.size;(its.toArray.extract 0 k).push u++its.toArray.extract k)=_;dsimp only;rw[if_neg (by lia),uLa,Nat.min_eq_left hk];apply Array.ext';simp;exact List.take_of_length_le (by rw[uNa];lia)
 ·exact(r.take i.toNat).append (.cons r2 (r.drop i.toNat))
 ·rw[vZa,vXa,uOa,uNa]
  lia
end L2
namespace DS
open PySem PySem.Spec PyProof.Rows L2
section
variable {X:Cx} {K:Fr} {st:Stmt} {de dx:DE}
@[simp] noncomputable def wK(i:Nat)(dx de:DE)(Z:jk):Option Rs:=match Z[i]? with
 | some (.ow q (.lst ds))=>(dx Z).bind fun x=>(de Z).bind fun d=>match x with
  | .int k=>if 0<=k/\k<=(ds.length:Int)/\ds.length < 1000000 then some (.nx (Z.set i (.ow q (.lst (ds.take k.toNat++d::ds.drop k.toNat)))))else none
  | _=>none
 | _=>none
set_option tactic.hygienic true in
theorem aL{i:Nat}(h:PS X st (Gy (QU K "list" kO (Zp i) (vW (tR K dx) (vW (tE K de) gJ))))):PS X st (tS K Px (wK i dx de)):=Jr h fun D U H xx=>by
 obtain⟨H0,O0,Z,O,r,R,ed,f⟩:=xx;unfold wK at ed;split at ed
 ·rename_i q ds hi;obtain⟨x,e1,ed⟩:=j1 ed;obtain⟨d,e2,ed⟩:=j1 ed;split at ed
  ·split at ed
   ·rename_i hz;cases ed;obtain⟨l,hq,hs,⟨vs,hl,rp⟩,lo,h0⟩:=R.ow i _ _ hi;refine⟨_,hs,.inl ⟨rfl,_,jC.of hl⟩,H0,O0,Z,O,_,R,e1,fun w H1 s1 r1=>⟨H0,O0,Z,O,d,R.grow s1,e2,fun v H' s rv=>?_⟩⟩;have s':=s1.trans s;have R':=R.grow s';have rp':=rp.same (jm s');refine⟨l,vs,_,v,rfl,by rw[r1.int],s' _ _ hl,hz.1,by rw[rp.len];exact hz.2.1,by rw[rp.len];exact hz.2.2,f _ _ O (R'.change hi hq hs lo h0 ⟨_,jw,(rp'.take _).app (j4.cons rv (rp'.drop _))⟩) ?_⟩;rw[Y8 lo];exact jm s'
   ·cases ed
  ·cases ed
 ·cases ed
end
end DS
namespace L2
open PySem PySem.Spec PyProof.Rows
def FT(ho:PE X o ta)(ha:PA X [k,e] t)
  (hfew:((backTo pos (starEach [k,e] X.env)).all (fun x=>!x.1)&&(backToKw pos (keywordEach [] X.env)).all (fun x=>x.1.isSome)&&decide (([k,e]:List Expr).length+([]:List Keyword).length+(if ([]:List Keyword).isEmpty then 0 else 1) < 30))=true)
  (hline:(apos.endLine==pos.line)=true) (hs:starEach [k,e] X.env=(false,eval k X.env)::starEach [e] X.env) (hplain:(backTo pos (starEach [e] X.env)).any (·.1)=false) (hbase:attributeBase o "insert" X.env (eval o X.env)=eval o X.env:=by rfl):PE X (.Call (.Attribute o "insert" apos) [k,e] [] pos) (QU X.K "list" kO ta t):=
 AU PySem.F.plainAttrs_list PySem.F.slot_list_insert PySem.F.type_list_insert xI ho ha hbase hfew hline hs hplain
end L2
namespace L2
open PySem
def DU(f:Obj->Obj):Prop:=∀o,(f o).dict=o.dict/\(f o).isFreed=o.isFreed
def DK{α:Type}:Sem α->Prop
 | .pure _=>True
 | .raise _=>True
 | .unsupported _=>True
 | .finish _=>True
 | .rule _ k=>DK (k ())
 | .at _ k=>DK (k ())
 | .load _ _ k=>∀o,DK (k o)
 | .update _ _ f k=>DU f/\DK (k ())
 | .alloc _ k=>∀a,DK (k a)
 | .loadIfAlive _ k=>∀o,DK (k o)
 | .point _ k=>DK (k ())
 | .register _ _=>True
 | .fresh k=>∀t,DK (k t)
 | .ask k=>∀t,DK (k t)
 | .choose _ _ k=>∀t,DK (k t)
 | .os _ _ k=>∀t,DK (k t)
 | .call _ _ _ _ _=>False
 | .handled _ k=>∀t,DK (k t)
 | .newGen _ _=>False
 | .genState _ k=>∀t,DK (k t)
 | .resume _ _ _ _=>False
 | .yield _ _ _ _=>True
 | .stack k=>∀t,DK (k t)
 | .fork _ _=>True
 | .thread k=>∀t,DK (k t)
 | .await _ _ _ _ _=>True
def DK.bind{α β:Type}{f:α->Sem β}(hf:∀a,DK (f a)):∀{t:Sem α},DK t->DK (t.bind f):=by
 intro t;induction t with
 | pure a=>exact fun _=>hf a
 | raise e=>exact fun _=>trivial
 | unsupported w=>exact fun _=>trivial
 | finish e=>exact fun _=>trivial
 | rule t k ih=>exact fun h=>ih () h
 | «at» p k ih=>exact fun h=>ih () h
 | load a p k ih=>exact fun h o=>ih o (h o)
 | update a p g k ih=>exact fun h=>⟨h.1,ih () h.2⟩
 | alloc o k ih=>exact fun h a=>ih a (h a)
 | loadIfAlive a k ih=>exact fun h a=>ih a (h a)
 | point l k ih=>exact fun h=>ih () h
 | register a k ih=>exact fun _=>trivial
 | fresh k ih=>exact fun h a=>ih a (h a)
 | ask k ih=>exact fun h a=>ih a (h a)
 | choose s n k ih=>exact fun h a=>ih a (h a)
 | os q l k ih=>exact fun h a=>ih a (h a)
 | call c h g l k ih=>exact fun h=>h.elim
 | handled o k ih=>exact fun h a=>ih a (h a)
 | newGen c k ih=>exact fun h=>h.elim
 | genState g k ih=>exact fun h a=>ih a (h a)
 | resume g r l k ih=>exact fun h=>h.elim
 | yield v g l k ih=>exact fun _=>trivial
 | stack k ih=>exact fun h a=>ih a (h a)
 | fork c k ih=>exact fun _=>trivial
 | thread k ih=>exact fun h a=>ih a (h a)
 | await a t d l k ih=>exact fun _=>trivial
def zf(h h':Heap):Prop:=∀b o,h.get? b=some o->∃o',h'.get? b=some o'/\o'.dict=o.dict
def zf.trans{h1 h2 h3:Heap}(a:zf h1 h2)(b:zf h2 h3):zf h1 h3:=fun c o e=>by
 obtain⟨o1,e1,d1⟩:=a c o e;obtain⟨o2,e2,d2⟩:=b c o1 e1;exact⟨o2,e2,d2.trans d1⟩
def BS(h:Heap)(o:Obj):zf h (h.push o):=fun b u e=>⟨u,wIa _ e,rfl⟩
def DV(h:Heap)(a:Addr){f:Obj->Obj}(k:DU f):zf h (h.update a f):=fun b u e=>by
 by_cases z:a=b
 ·subst z;refine⟨f u,vUa f e ?_,(k u).1⟩;rw[(k u).2];exact(Heap.get?_some_iff.mp e).2
 ·exact⟨u,(wKa h f z).trans e,rfl⟩
def FU{α:Type}{M:Model}{Γ:Ctx}{Q:α->Pos->Shared->Prop}{E:Value->Pos->Shared->Prop}:∀(t:Sem α) (p:Pos) (s:Shared),DK t->Sem.wp M Γ t Q E p s->Sem.wp M Γ t (fun a p' s'=>Q a p' s'/\zf s.heap s'.heap) E p s:=by
 have mono:∀(t:Sem α) (p:Pos) (s s0:Shared),zf s0.heap s.heap->Sem.wp M Γ t (fun a p' s'=>Q a p' s'/\zf s.heap s'.heap) E p s->Sem.wp M Γ t (fun a p' s'=>Q a p' s'/\zf s0.heap s'.heap) E p s:=fun t p s s0 k h=>Sem.wp_mono M Γ t (fun a p' s' z=>⟨z.1,k.trans z.2⟩) (fun _ _ _ z=>z) p s h;intro t;induction t with
 | pure a=>exact fun p s _ h=>⟨h,fun b o e=>⟨o,e,rfl⟩⟩
 | raise e=>exact fun p s _ h=>h
 | unsupported w=>exact fun p s _ h=>h
 | finish e=>exact fun p s _ h=>h
 | rule t k ih=>exact fun p s d h=>ih () p s d h
 | «at» p k ih=>exact fun _ s d h=>ih () p s d h
 | load a pt k ih=>exact fun p s d h=>by obtain⟨o,e,h⟩:=h;exact⟨o,e,ih o p s (d o) h⟩
 | update a pt g k ih=>exact fun p s d h=>⟨h.1,mono (k ()) p { s with heap:=s.heap.update a g } s (DV s.heap a d.1) (ih () p { s with heap:=s.heap.update a g } d.2 h.2)⟩
 | alloc o k ih=>exact fun p s d h=>mono (k s.heap.objs.size) p { s with heap:=s.heap.push o } s (BS s.heap o) (ih _ p { s with heap:=s.heap.push o } (d _) h)
 | loadIfAlive a k ih=>exact fun p s d h=>ih _ p s (d _) h
 | point l k ih=>exact fun p s d h=>ih () p s d h
 | register a k ih=>exact fun p s d h=>h
 | fresh k ih=>exact fun p s d h=>ih _ p { s with toks:=s.toks+1 } (d _) h
 | ask k ih=>exact fun p s d h=>ih _ p s (d _) h
 | choose src n k ih=>exact fun p s d h=>⟨h.1,ih _ p { s with drawn:=s.drawn.bump src } (d _) h.2⟩
 | os q l k ih=>exact fun p s d h=>ih _ p { s with os:=(Os.step s.os q).1 } (d _) h
 | call c hh g l k ih=>exact fun p s d h=>d.elim
 | handled o k ih=>exact fun p s d h=>ih _ p s (d _) h
 | newGen c k ih=>exact fun p s d h=>d.elim
 | genState g k ih=>exact fun p s d h=>by obtain⟨st,e,h⟩:=h;exact⟨st,e,ih _ p s (d _) h⟩
 | resume g r l k ih=>exact fun p s d h=>d.elim
 | yield v g l k ih=>exact fun p s d h=>h
 | stack k ih=>exact fun p s d h=>ih _ p s (d _) h
 | fork c k ih=>exact fun p s d h=>h
 | thread k ih=>exact fun p s d h=>ih _ p s (d _) h
 | await a t d l k ih=>exact fun p s d h=>h
def vq{α:Type}{M:Model}{A:Around}{t:Sem α}{Q:α->Shared->Prop}{E:Tz}{s:Shared}(d:DK t)(h:wpAny M A t Q E s):wpAny M A t (fun a s'=>Q a s'/\zf s.heap s'.heap) E s:=fun Γ p hΓ=>FU t p s d (h Γ p hΓ)
def zg{α β:Type}{x:Sem α}{f:α->Sem β}(hx:DK x)(hf:∀a,DK (f a)):DK (x >>= f):=DK.bind hf hx
def WF(v:Value):DK (fieldsOf v):=by
 unfold fieldsOf
 repeat (first | exact trivial | exact dkp _ | refine zg ?_ fun _=>?_ | split | (intro _;exact trivial))
def VV(v:Value)(i:Nat):DK (field v i):=by
 unfold field;refine zg (WF v) fun vs=>?_;split <;> exact trivial
def wL(f:Array Value->Array Value):DU (Obj.mapFields f):=fun o=>by
 obtain⟨c,d,dt,s⟩:=o;cases dt <;> exact⟨rfl,rfl⟩
def gA(v:Value)(i:Nat)(x:Value):DK (setField v i x):=by
 unfold setField;split
 ·unfold updateField
  repeat (first | exact trivial | exact dkp _ | exact⟨wL _,trivial⟩ | refine zg ?_ fun _=>?_ | split | (intro _;exact trivial))
 ·exact trivial
def gY:DK stack:=fun _=>trivial
def vt(e:Value)(fr:Option Addr):DK (setFlight e fr):=by
 unfold setFlight;refine zg (VV e 1) fun tb=>?_;split
 ·exact gA _ _ _
 ·exact trivial
def xJ(env:Env)(outer:List Env):DK (behindIsImport env outer):=by
 unfold behindIsImport
 repeat (first | exact trivial | exact dkp _ | exact VV _ _ | refine zg ?_ fun _=>?_ | split)
def BU(env:Env)(b:Bool)(outer:List Env):DK (keptBack env b outer):=by
 unfold keptBack;split
 ·unfold underTheClaimsCaller
  repeat (first | exact trivial | exact dkp _ | exact gY | refine zg ?_ fun _=>?_ | split)
 ·exact trivial
theorem wM:∀l:List Env,DK (readyFrames l)
 | []=>trivial
 | env::outer=>by
  unfold readyFrames;split
  ·refine zg (fun _=>trivial) fun o=>?_;split
   ·exact trivial
   ·refine zg (xJ _ _) fun b=>zg (BU _ _ _) fun v=>zg ?_ fun _=>wM outer;exact⟨fun o=>⟨rfl,by obtain⟨c,d,dt,s⟩:=o;cases dt <;> rfl⟩,trivial⟩
  ·exact trivial
def kP(l:List Env):DK (frameObject l):=by
 unfold frameObject;split
 ·exact trivial
 ·exact zg (wM _) fun _=>trivial
def Ql(env:Env):DK (frameOf env):=by
 unfold frameOf frameEnvs;refine zg (zg gY fun _=>trivial) fun l=>zg (kP _) fun o=>?_;split <;> exact trivial
def aM(f:Addr)(b:Bool):DK (entryPlaceOf f b):=by
 unfold entryPlaceOf;refine zg gY fun acts=>?_;split <;> exact trivial
def aN(a b c d e:Value)(l:List Value):DK (EntryCells.newEntry a b c d e l):=by
 unfold EntryCells.newEntry newFields newObj newObjAsIs
 repeat (first | exact trivial | exact dkp _ | refine zg ?_ fun _=>?_ | (intro _;exact trivial) | split)
def qd(e:Value)(env:Env):DK (noteFrame e env):=by
 unfold noteFrame;split
 ·refine zg (VV e 1) fun head=>?_
  repeat (first | exact trivial | exact VV _ _ | exact gA _ _ _ | exact Ql _ | exact aM _ _ | exact aN _ _ _ _ _ _ | refine zg ?_ fun _=>?_ | split)
 ·exact trivial
def GR(env:Env)(e:Value):DK (leaving env e):=by
 unfold leaving;exact zg (qd e env) fun _=>vt e none
end L2
namespace L2
open PySem PySem.Spec PyProof.Rows
def Jq.ex{P:Program}{w:World}{H:Hp}{h:Heap}{a:Addr}{o:HO}(x:Jq P w H h a o):∃u,h.get? a=some u:=by
 cases o with
 | lst xs=>obtain⟨_,_,_,_,e⟩:=x;exact⟨_,e⟩
 | tup xs=>obtain⟨_,_,_,_,e,_⟩:=x;exact⟨_,e⟩
 | dD kvs ep=>obtain⟨_,_,_,_,_,o,_,e,_⟩:=x;exact⟨_,e⟩
 | ins C dx fs=>obtain⟨_,_,_,e,_⟩:=x;exact⟨_,e⟩
 | own y=>exact x
 | rng lo hi=>obtain⟨_,_,_,e⟩:=x;exact⟨_,e⟩
 | frz ob u=>obtain⟨e,_⟩:=x;exact⟨_,e⟩
 | tbl ps=>exact⟨_,(show h.get? a=some _ from x)⟩
 | met f y=>exact⟨_,(show h.get? a=some _ from x)⟩
 | ext φ=>obtain⟨_,e,_⟩:=x;exact e
structure Fly (P:Program) (w:World) (outer:List Env) (H:Hp) (s:Shared) (H':Hp) (e:Addr) (cls:Value) (s':Shared):Prop where
 os:s'.os=s.os
 bare:AllBare s'.gens
 un:Un (Jh outer) [] H H' s.heap s'.heap
 hok:yh P w H' s'.heap
 fly:∃B a0,Heap.FlyingW B outer e cls a0 s'.heap/\(∀b u,H' b=some u->∃o,B.get? b=some o)/\∀b o,s.heap.get? b=some o->b∉Jh outer->∃o',B.get? b=some o'
def yu(P:Program)(w:World):uz:=fun outer H s E ev s'=>∃e cls H' od,ev=.ref e/\Fly P w outer H s H' e cls s'/\(∀d,od=some d->∃oe,s'.heap.get? e=some oe/\oe.dict=some d)/\E cls od H'
section
variable {P:Program} {w:World} {K:uXa} {mg:Tj} {base:Heap} {N:List Str} {qual:Str} {scope:Scope} {f:Addr} {cd:Value} {A:Around} {outer:List Env} {s0:Shared} {H0:Hp} {E:XK}
def qe{od:Option Addr}{pins:Tq}{U:St}{H H1:Hp}{s:Shared}{e t:Addr}{cls:Value}{oe:Obj}(I:Inv (Js (yu P w) P w K mg base N qual scope f cd A outer s0 H0 E) pins U H s)
  (he:s.heap.get? e=some oe) (hc:oe.cls=cls) (hd:oe.data=.fields #[.ref t,.none,.none,.none,.bool false,.none]) (h0:s0.heap.get? e=none) (h1:H1 e=none)
  (hH:∀b,H1 b=H b \/ (H1 b=none/\∃φ,H b=some (.ext φ))) (hod:∀d,od=some d->oe.dict=some d) (hE:E cls od H1):(Js (yu P w) P w K mg base N qual scope f cd A outer s0 H0 E).xe (.ref e) s:=by
 have sub:∀b u,H1 b=some u->H b=some u:=fun b u q=>(hH b).elim (fun z=>z▸q) fun z=>by rw[z.1]at q;cases q
 have bk:∀b u,H b=some u->(∀φ,u≠.ext φ)->H1 b=some u:=fun b u q n=>(hH b).elim (fun z=>z.trans q) fun⟨_,φ,z⟩=>vDa (vFa (q.symm.trans z)) (n φ);have fr:s.heap.FunFrames base (envOfC qual scope s0.heap.objs.size f cd::outer):=I.stack;have memb:∀b,b∈Jh (envOfC qual scope s0.heap.objs.size f cd::outer)->b=s0.heap.objs.size \/ b∈Jh outer:=fun b hb=>by
  unfold Jh at hb;rw[List.filterMap_cons]at hb;exact uTa hb
 have memr:∀b,b∈Jh outer->b∈Jh (envOfC qual scope s0.heap.objs.size f cd::outer):=fun b hb=>by unfold Jh;rw[List.filterMap_cons];exact wMa _ hb
 have hL0:s0.heap.get? s0.heap.objs.size=none:=Heap.get?_none_of_le (wPa _);show wpAny (model P w) (A.deeper (envOfC qual scope s0.heap.objs.size f cd)) (leaving (envOfC qual scope s0.heap.objs.size f cd) (.ref e)) _ _ s;refine wCa (vq (Q:=fun _ s'=>∃h',s'={ s with heap:=h' }/\Heap.LeftW (PySem.W.hideAll s.heap (e::Jh (envOfC qual scope s0.heap.objs.size f cd::outer))) (envOfC qual scope s0.heap.objs.size f cd::outer) e oe.cls (.ref t) s.heap h') (GR _ _) (wpAny_leaving_firstW (base:=PySem.W.hideAll s.heap (e::Jh (envOfC qual scope s0.heap.objs.size f cd::outer))) (a0:=.ref t) (outer:=outer) (L:=s0.heap.objs.size) I.ok.frames
  (PySem.W.funFrames_hide fr fun env hv b hb=>wMa _ (List.mem_filterMap.mpr ⟨env,hv,hb⟩)) rfl he (fun b o q=>PySem.W.of_hideAll _ q) (PySem.W.hideAll_none _ wNa) hd rfl rfl fun h' z=>⟨h',rfl,z⟩)) (fun _ s' zz=>?_) (fun _ _ z=>z)
 obtain⟨⟨h',rfl,x1,⟨_,_,x2⟩,x3,x4⟩,dk⟩:=zz;have kB:∀b o,s.heap.get? b=some o->b≠e->b≠s0.heap.objs.size->b∉Jh outer->h'.get? b=some o:=fun b o q n0 n1 n2=>x1 b o (PySem.W.hideAll_get _ q fun z=>(uTa z).elim n0 fun z=>(memb b z).elim n1 n2);have ks:∀b o,b∈Jh outer->s.heap.get? b=some o->∃sl,h'.get? b=some { o with slots:=sl }:=fun b o hb q=>by
  obtain⟨_,o',ho',hd⟩:=fr.mem (b:=b) (memr b hb);rw[q]at ho';cases ho';exact x4 b o q hd
 have vV:∀b u,H1 b=some u->b≠e/\b≠s0.heap.objs.size/\b∉Jh outer:=fun b u q=>by
  have z:=fun hb=>I.stkFree b hb;refine⟨(fun n=>by rw[n,h1]at q;cases q),fun n=>?_,fun n=>?_⟩
  ·have:=z (by show b∈Jh (envOfC qual scope s0.heap.objs.size f cd::outer);unfold Jh;rw[List.filterMap_cons];exact List.mem_cons.mpr (.inl n));rw[sub b u q]at this;cases this
  ·have:=z (memr b n);rw[sub b u q]at this;cases this
 have u:=I.base;have u1:Un (Jh outer) [] H0 H1 s0.heap s.heap:=⟨u.keep,u.slot,(fun b o q n hx=>(hH b).elim (fun z=>z.trans (u.free b o q n hx)) fun z=>z.1),u.there,fun b xs q=>bk b _ (u.tups b xs q) (fun _ z=>nomatch z),fun b o xs q=>bk b _ (u.frzs b o xs q) (fun _ z=>nomatch z),fun b ps q=>let ⟨m,z⟩:=u.tbls b ps q;⟨m,bk b _ z (fun _ z=>nomatch z)⟩⟩
 have hok1:yh P w H1 s.heap:=fun b o q=>(I.hok b o (sub b o q)).stay (fun _ _ _ r=>r) (fun c r=>bk c _ r (fun _ z=>nomatch z)) fun c xs r=>bk c _ r (fun _ z=>nomatch z);have ne0:∀b o,s0.heap.get? b=some o->b≠e/\b≠s0.heap.objs.size:=fun b o q=>⟨(fun z=>by rw[z,h0]at q;cases q),(fun z=>by rw[z,hL0]at q;cases q)⟩
 have hdk:∀d,od=some d->∃ob,h'.get? e=some ob/\ob.dict=some d:=fun d q=>by
  obtain⟨ob,z1,z2⟩:=dk e oe he;exact⟨ob,z1,z2.trans (hod d q)⟩
 refine⟨e,cls,H1,od,rfl,⟨I.os,I.bare,⟨fun b o q n hb hx=>kB b o (u1.keep b o q n hb hx) (ne0 b o q).1 (ne0 b o q).2 hb,fun b o q n hb hx=>?_,u1.free,fun b o q hx=>?_,u1.tups,u1.frzs,u1.tbls⟩,fun b o q=>?_,⟨_,_,⟨x1,PySem.W.hideAll_none _ wNa,x2,hc▸x3⟩,fun b o q=>?_,fun b o q n=>?_⟩⟩,hdk,hE⟩
 ·obtain⟨sl,z⟩:=u1.slot b o q n hb hx;obtain⟨sl',z'⟩:=ks b _ hb z;exact⟨sl',z'⟩
 ·obtain⟨o',z⟩:=u1.there b o q hx;by_cases hb:b∈Jh outer
  ·obtain⟨sl,z'⟩:=ks b o' hb z;exact⟨_,z'⟩
  ·exact⟨_,kB b o' z (ne0 b o q).1 (ne0 b o q).2 hb⟩
 ·refine(hok1 b o q).stay (fun c v hc r=>?_) (fun _ z=>z) fun _ _ z=>z;rcases hc with rfl | hc
  ·exact kB c v r (vV c o q).1 (vV c o q).2.1 (vV c o q).2.2
  ·exact kB c v r (vV c _ hc).1 (vV c _ hc).2.1 (vV c _ hc).2.2
 ·obtain⟨o',z⟩:=(hok1 b o q).ex;exact⟨o',PySem.W.hideAll_get _ z fun m=>(uTa m).elim (vV b o q).1 fun m=>(memb b m).elim (vV b o q).2.1 (vV b o q).2.2⟩
 ·obtain⟨o',z⟩:=u1.there b o q (by simp);exact⟨o',PySem.W.hideAll_get _ z fun m=>(uTa m).elim (ne0 b o q).1 fun m=>(memb b m).elim (ne0 b o q).2 n⟩
def BV{pins:Tq}{U:St}{H H1:Hp}{s:Shared}{e t:Addr}{cls:Value}{oe:Obj}(I:Inv (Js (yu P w) P w K mg base N qual scope f cd A outer s0 H0 E) pins U H s)
  (he:s.heap.get? e=some oe) (hc:oe.cls=cls) (hd:oe.data=.fields #[.ref t,.none,.none,.none,.bool false,.none]) (h0:s0.heap.get? e=none) (h1:H1 e=none)
  (hH:∀b,H1 b=H b \/ (H1 b=none/\∃φ,H b=some (.ext φ))) (hE:E cls none H1):(Js (yu P w) P w K mg base N qual scope f cd A outer s0 H0 E).xe (.ref e) s:=qe I he hc hd h0 h1 hH (fun _ z=>by cases z) hE
end
set_option tactic.hygienic true in
theorem BW{K:uXa}{h:Heap}{mg:Tj}{x:Str}{C:Addr}{bm:List Value}{nid:String}(X:K.In h)(hm:mg x=some (.ref C))(q:PySem.W.excIn K C bm nid=true):OwnCls x C bm nid mg h:=by
 refine⟨hm,?_⟩;unfold PySem.W.excIn at q;split at q
 ·rename_i dd cl slots hobj;split at q
  ·rename_i C1 tl x0 x1 x2 x3 nn x5 hmro hslots;simp only[Bool.and_eq_true,beq_iff_eq,Bool.not_eq_true']at q;obtain⟨⟨⟨⟨⟨rfl,rfl⟩,z1⟩,z2⟩,z3⟩,z4⟩:=q;obtain⟨c1,c2,c3,c4,c5,c6,c7,c8,c9,c10,c11⟩:=cl;dsimp only at hmro z1 z3 z4;subst hmro z1;have e:slots=#[x0,x1,x2,x3,some (.builtin nn),x5]:=by obtain⟨l⟩:=slots;simp only at hslots;rw[hslots]
   subst e;exact⟨tl,c4,c1,c5,c2,c6,c7,c8,c9,c10,dd,x0,x1,x2,x3,x5,_,X _ _ hobj,.of_isNs (PySem.W.isNs_of_in X z3),PySem.W.nsMap_none_of_in X z3 z4,PySem.W.tail_of_in X z2⟩
  ·cases q
 ·cases q
section
variable {P:Program} {w:World} {K:uXa} {mg:Tj} {base:Heap} {N:List Str} {qual:Str} {scope:Scope} {f:Addr} {cd:Value} {A:Around} {outer:List Env} {s0:Shared} {H0:Hp} {E:XK}
def aO{x:Str}{np cpos pos cp:Pos}{z:Str}{j:Nat}{C:Addr}{bm:List Value}{B newId initId:String}
  (ens:PySem.W.nsIn K mainGlobals x=some (some (.ref C))) (exi:PySem.W.excIn K C bm newId=true) (FB:ExcBaseFacts B newId initId bm) (hg:Gl (Js (yu P w) P w K mg base N qual scope f cd A outer s0 H0 E) x) (hd:(x==("__debug__" : Str))=false):
  PS (Js (yu P w) P w K mg base N qual scope f cd A outer s0 H0 E) (.Raise (some (.Call (.Name x np) [.Constant (.str z) j cp] [] cpos)) none pos) (fun _ _ H=>E (.ref C) none H):=by
 intro pins s U H D I h;have hm:=PySem.W.mg_of I.mod.kin I.mod.glob ens;have O:OwnCls x C bm newId mg base:=BW I.mod.kin hm exi;have key:wpAny (model P w) (A.deeper (envOfC qual scope s0.heap.objs.size f cd)) (spliced (backTo cpos (starEach [.Constant (.str z) j cp] (envOfC qual scope s0.heap.objs.size f cd))))
   (fun vs s₂=>vs.length<=sizeLine/\(∀b o,base.get? b=some o->s₂.heap.get? b=some o)/\∀h' e,Heap.MadeExcOf s₂.heap h' e (.ref C) vs->(Js (yu P w) P w K mg base N qual scope f cd A outer s0 H0 E).xe (.ref e) { s₂ with heap:=h' })
   (Js (yu P w) P w K mg base N qual scope f cd A outer s0 H0 E).xe s:=
  jv ((Jj (X:=Js (yu P w) P w K mg base N qual scope f cd A outer s0 H0 E) QG yQ) cpos pins s U H (fun vs H'=>vs.length=1/\E (.ref C) none H') I ⟨rfl,h⟩) fun us s1 ⟨vs,H1,I1,r,q1,q⟩=>
   ⟨by rw[<-r.length,q1];decide,I1.bk,fun h' e hm=>by
    obtain⟨t,he,_⟩:=hm.there;refine BV (H:=H1) (H1:=H1) (t:=t) (I1.kept (t':=s1.toks) hm.keeps) he rfl rfl ?_ ?_ (fun b=>.inl rfl) q
    ·cases z:s0.heap.get? e with
     | none=>rfl
     | some o=>
      obtain⟨o',y⟩:=I1.base.there e o z (by simp[Js]);rw[hm.new]at y;cases y
    ·cases z:H1 e with
     | none=>rfl
     | some u=>
      obtain⟨o',y⟩:=(I1.hok e u z).ex;rw[hm.new]at y;cases y⟩
 show wpAny (model P w) (A.deeper (envOfC qual scope s0.heap.objs.size f cd)) (exec _ (envOfC qual scope s0.heap.objs.size f cd)) _ _ s;have hh:(A.deeper (envOfC qual scope s0.heap.objs.size f cd)).handled=none:=I.ok.hd rfl;obtain⟨tl,N',nm,q,bs,hdct,sn,sub,ab,col,dd,k0,k1,k2,k3,k5,mN,hC,hN,hni,T⟩:=O.obj;exact wpAny_Raise_call_subT (C:=C) (nm:=nm) (q:=q) (N:=N') (bs:=bs) (bm:=tl) (hdct:=hdct) (sn:=sn) (sub:=sub) (ab:=ab) (col:=col) (dd:=dd) (k0:=k0) (k1:=k1) (k2:=k2) (k3:=k3) (k5:=k5) FB (mN:=mN) (T.hasType FB.hasBase) hh rfl hni
  (zH I hg hm ⟨rfl,Calls.evalArgs_plain (wCa key (fun vs s₂ h₂=>⟨rfl,h₂.1,h₂.2.1 _ _ hC,hN.keeps h₂.2.1,T.keeps h₂.2.1,h₂.2.2⟩) fun _ _ y=>y)⟩ hd)
end
def Fly.move{X:Cx}{pins:Tq}{U:St}{H H':Hp}{s s':Shared}{e:Addr}{cls:Value}{B:Heap}{h:Heap}{t:Nat}(I:Inv X pins U H s)(F:Fly X.prog X.w X.stack H s H' e cls s')
  (hB:B.StaysIn s'.heap) (c1:∀b u,H' b=some u->∃o,B.get? b=some o) (c2:∀b o,s.heap.get? b=some o->b∉Jh X.stack->∃o',B.get? b=some o')
  (k:B.StaysIn h) (fr:s'.heap.FunFrames B X.stack) (up:s'.heap.UpToSlots h):Inv X pins U H' { s' with heap:=h,toks:=t }:=by
 have u:=F.un;have at':∀b o,s'.heap.get? b=some o->(∃o',B.get? b=some o')->h.get? b=some o:=fun b o q ⟨o',z⟩=>by
  have:=hB b o' z;rw[q]at this;cases this;exact k b o z
 have sl:∀b o,b∈Jh X.stack->s'.heap.get? b=some o->∃sl,h.get? b=some { o with slots:=sl }:=fun b o hb q=>by
  obtain⟨_,o',ho',hd⟩:=fr.mem hb;rw[q]at ho';cases ho';exact up b o q hd
 refine I.call' (s':={ s' with heap:=h,toks:=t }) (ch:=[]) F.os ⟨fun b o q n hb hx=>at' b o (u.keep b o q n hb hx) (c2 b o q hb),fun b o q n hb hx=>?_,u.free,fun b o q hx=>?_,u.tups,u.frzs,u.tbls⟩ ?_ F.bare fun b z=>vDa z (by simp)
 ·obtain⟨l,z⟩:=u.slot b o q n hb hx;obtain⟨l',z'⟩:=sl b _ hb z;exact⟨l',z'⟩
 ·obtain⟨o',z⟩:=u.there b o q hx;by_cases hb:b∈Jh X.stack
  ·obtain⟨l',z'⟩:=sl b _ hb z;exact⟨_,z'⟩
  ·exact⟨_,at' b o' z (c2 b o q hb)⟩
 ·intro a o q;refine(F.hok a o q).stay (fun b u hb z=>at' b u z ?_) (fun _ z=>z) fun _ _ z=>z;rcases hb with hb | hb
  ·rw[hb];exact c1 a o q
  ·exact c1 b _ hb
section
variable {X:Cx}
set_option tactic.hygienic true in
theorem Inv.gone{pins:Tq}{U:St}{H:Hp}{s:Shared}{i:Nat}{n:Str}{h':Heap}{u:Option Value}(I:Inv X pins U H s)(hN:X.N.Nodup)(hi:X.N[i]?=some n)
  {m:Tj} (hm:s.heap.Ns X.env.locals m) (hn':h'.Ns X.env.locals (fun x=>if x=n then u else m x)) (hs:Heap.SameBut X.env.locals s.heap h'):Inv X pins (U.set i none) H { s with heap:=h' }:=by
 obtain⟨m0,hn,hl⟩:=id I.loc;have em:m0=m:=by
  obtain⟨o,es,ep,h1,h2,_,h4⟩:=hn;obtain⟨o',es',ep',h1',h2',_,h4'⟩:=hm;rw[h1]at h1';cases h1';rw[h2]at h2';cases h2';funext x;rw[<-h4,<-h4']
 subst em;have neL:∀b o,X.s₀.heap.get? b=some o->b≠X.env.locals:=fun b o e=>wTa (Nat.lt_of_lt_of_le (wLa e) I.ok.above);refine⟨I.ok,I.os,I.bare,⟨fun b o e n hb hx=>(hs.2 b (neL b o e)).trans (I.base.keep b o e n hb hx),fun b o e n hb hx=>?_,I.base.free,fun b o e hx=>?_,I.base.tups,I.base.frzs,I.base.tbls⟩,⟨_,hn',fun j y v' e1 e2 e3=>?_⟩,fun y c e=>?_,I.free,I.freeC,fun p hp=>?_,fun b ob e=>?_,by rw[List.length_set];exact I.len⟩
 ·obtain⟨sl,e1⟩:=I.base.slot b o e n hb hx;exact⟨sl,(hs.2 b (neL b o e)).trans e1⟩
 ·obtain⟨o',e1⟩:=I.base.there b o e hx;exact⟨o',(hs.2 b (neL b o e)).trans e1⟩
 ·by_cases hj:j=i
  ·subst hj;rw[List.getElem?_set]at e2;split at e2
   ·split at e2 <;> cases e2
   ·rename_i z;exact vDa rfl z
  ·rw[List.getElem?_set_ne (Ne.symm hj)]at e2;obtain⟨u',r',q⟩:=hl j y v' e1 e2 e3;refine⟨u',r',?_⟩;rcases q with⟨k,e⟩ | ⟨k,c,e,z⟩
   ·refine .inl ⟨k,?_⟩;have:y≠n:=fun e=>hj (gG hN e1 (e▸hi));simp[this,e]
   ·exact .inr ⟨k,c,e,z.sameBut hs (I.cne y c e)⟩
 ·obtain⟨w',z⟩:=I.cell y c e;exact⟨w',z.sameBut hs (I.cne y c e)⟩
 ·obtain⟨e,n,ne,nf,d⟩:=I.pin p hp;exact⟨(hs.2 p.1 ne).trans e,n,ne,nf,d⟩
 ·refine(I.hok b ob e).stay (fun c w' hc q=>(hs.2 c ?_).trans q) (fun _ q=>q) fun _ _ q=>q;rintro rfl;rcases hc with rfl | hc
  ·rw[I.free]at e;cases e
  ·rw[I.free]at hc;cases hc
def V3{M:Model}{A:Around}{E:Tz}{pins:Tq}{U:St}{H:Hp}{s:Shared}{i:Nat}{n:Str}{pos:Pos}{Q:Unit->Shared->Prop}(I:Inv X pins U H s)(hN:X.N.Nodup)(hi:X.N[i]?=some n)(hl:X.env.kindOf n=some .local)
  (h:∀s',Inv X pins (U.set i none) H s'->Q () s'):wpAny M A (do bindName X.env n .none;unbindBehindTheSuite X.env n pos) Q E s:=by
 have hp:(X.env.scope.kind==.class||(X.env.scope.kind==.module&&X.env.locals != X.env.globals))=false:=by rw[I.ok.kind];rfl
 refine wAa (wpAny_bindName (vh (v:=.non) I hN hi (.inl hl) rfl (fun s1 I1=>?_) (.inr hl)));unfold unbindBehindTheSuite;refine wpAny_onRaise ?_;obtain⟨m,hm,hv⟩:=id I1.loc;have hlen:i < U.length:=by rw[I.len];exact(uSa hi).1
 obtain⟨u,r,lk⟩:=hv i n .non hi (by rw[List.getElem?_set_self hlen]) (.inl hl);have hmn:m n=some u:=by
  rcases lk with lk | ⟨k,_⟩
  ·exact lk.2
  ·rw[hl]at k;rcases k with k | k <;> cases k
 refine wpAny_unbindName_local hl hm hmn hp fun h' w hn' hs=>h _ ?_;have J:=I1.gone hN hi hm hn' hs;rw[List.set_set]at J;exact J
end
end L2
namespace L2
open PySem PySem.Spec PyProof.Rows PySem.Builtin
open PySem.W (Looks)
structure ExC (K:uXa) (C:Addr):Prop where
 ga:PySem.W.findIn K (.ref C) "__getattribute__" = some (some (.builtin "BaseException.__getattribute__"))
 gx:PySem.W.findIn K (.ref C) "__getattr__" = some none
 at':PySem.W.findIn K (.ref C) "__class__" = some (some (.builtin "object.__class__"))
 gt:PySem.W.specialIn K (.builtin "object.__class__") "__get__" = some (some (.builtin "getset_descriptor.__get__"))
 tk:PySem.W.takesIn K (.builtin "object.__class__")=some true
 ob:PySem.W.mroIn K C (.type "object")=some true
 be:PySem.W.subIn K (.ref C) (.type "BaseException")=some true
 cl:PySem.W.isClsIn K C=true
def wN(e C:Addr)(h:Heap):Prop:=∃o,h.get? e=some o/\o.cls=.ref C
section
variable {K:uXa} {e C:Addr}
def wN.ty{M:Model}{h:Heap}(x:wN e C h):PySem.W.Looks M h (typeOf (.ref e)) (.ref C):=by
 obtain⟨o,h1,h2⟩:=x;have:=(PySem.W.Looks.ld (M:=M) (part:=none) h1).andThen (f:=fun o=>pure o.cls) .now;rw[h2]at this;exact this
def BX{M:Model}{h:Heap}(k:ExC K C)(X:K.In h):PySem.W.Looks M h (Builtin.ObjectAttr.find (.ref e) (.ref C) "__class__") (.bind (.builtin "getset_descriptor.__get__") (.builtin "object.__class__")):=by
 have L1:=PySem.W.looks_findIn (M:=M) X k.at';have L2:=PySem.W.looks_specialIn (M:=M) X k.gt;have L3:=PySem.W.looks_takesIn (M:=M) X k.tk;refine L1.andThen (L2.andThen ?_);intro A' Q' E' s' k' q';refine wAa (wAa (L3 A' _ E' s' k' ?_));exact wBa (wAa (wpAny_rule (wBa q')))
def DW(k:ExC K C){prog:Program}{w:World}{A:Around}{s:Shared}{R:Result->Shared->Prop}{tp:Value}(X:K.In s.heap)(x:wN e C s.heap)(h:R (.ok (.ret (.ref C))) s):
  codeAny (model prog w) A (.call (.builtin "getset_descriptor.__get__") ⟨[.builtin "object.__class__",.ref e,tp],[]⟩) R s:=by
 obtain⟨hh,g,dr,t,os⟩:=s;have L0:=x.ty (M:=model prog w);have L1:=PySem.W.looks_mroIn (M:=model prog w) X k.ob;refine codeAny_call_builtin PySem.W.KF.slot_gs.plain PySem.W.KF.entry_gs (PySem.W.KF.slot_gs.check _ _ _ _ _ _ _ _ PySem.W.KF.type_class (PySem.W.KF.args_gs _ _ _) ?_);unfold Builtin.«getset_descriptor.__get__» Builtin.Getset_descriptor.descrGet;rw[PySem.W.dga_obj];refine wAa (wBa ?_);unfold Builtin.Getset_descriptor.descrGetter Builtin.Getset_descriptor.descrCheckInstance Builtin.Getset_descriptor.descrNameAndClass isInstance;simp only[PySem.W.KF.owner_class];repeat (open PySem.W in lk)
 refine⟨Code.quiet_builtin _ (by decide +kernel),codeAny_builtin PySem.W.KF.entry_class ?_⟩;unfold Builtin.«object.__class__» shownTypeOf;repeat (open PySem.W in lk)
 exact h
def FV(SB:ExcAttrFacts "ValueError")(k:ExC K C){prog:Program}{w:World}{A:Around}{E:Tz}{Q:Option Value->Shared->Prop}{s:Shared}(X:K.In s.heap)(x:wN e C s.heap)(h:Q (some (.ref C)) { s with toks:=s.toks+1 }):
  wpAny (model prog w) A (getAttr? (.ref e) "__class__") Q E s:=by
 obtain⟨hh,g,d,t,os⟩:=s;have L0:=x.ty (M:=model prog w);have L1:=PySem.W.looks_findIn (M:=model prog w) X k.ga;have L2:=PySem.W.looks_findIn (M:=model prog w) X k.gx;have L3:=BX (e:=e) (M:=model prog w) k X;unfold getAttr? getAttrBy? getAttrBy;refine wAa (wpAny_mkText (wAa (wpAny_attempt (wDa (wAa (L0.at (wAa (L1.at ?_))))))));show wpAny _ _ (getAttrByItsOwn _ _ _ _ _ _) _ _ _;unfold getAttrByItsOwn hookBefore;refine wAa (L2.at (wAa (wpAny_attempt (wDa ?_))));show wpAny _ _ (boundAndCalled _ _ _) _ _ _;unfold boundAndCalled;have hb:bindSpecial (.builtin "BaseException.__getattribute__") (.ref e)=pure (.builtin "BaseException.__getattribute__",[.ref e]):=SB.ga.bind (.ref e);rw[hb];refine wAa (wBa (wHa (codeAny_call_builtin SB.ga.plain F.entry_bexc_ga ?_)));have hsb:Looks (model prog w) hh (isInstance (.ref e) (.type "BaseException")) true:=L0.andThen (PySem.W.looks_subIn (M:=model prog w) X k.be);have ha:=F.args_bexc_ga (.ref e) (.str "__class__" t);have hk:builtinKind "BaseException.__getattribute__" = some .slot:=by decide +kernel
 have hsplit:splitId "BaseException.__getattribute__" = some ("BaseException", "__getattribute__"):=by decide +kernel
 simp only[checkBuiltinCall,hk,hsplit];refine wAa (hsb.at ?_)
 repeat (first | assumption | wp_step)
 have x0:=x;obtain⟨o,h1,h2⟩:=x0;refine wpAny_loadPart_at h1 (wBa ?_);rw[h2];refine wAa (L3.at ?_);show wpAny _ _ (ObjectAttr.bindTo _ _ _ _) _ _ _;unfold ObjectAttr.bindTo;refine wAa (wDa (wHa (DW k X x ?_)));exact wBa (PySem.W.handed_on rfl (wBa h))
set_option tactic.hygienic true in
theorem DY(k:ExC K C):PySem.W.KitX K (.ref e) (.ref C) (wN e C) where
 ty:=fun M h _ x=>x.ty
 it:=fun M h X _=>by
  have z:=k.cl;unfold PySem.W.isClsIn PySem.W.clsIn at z;split at z
  ·rename_i ho;intro A' Q' E' s' k' q';exact wAa (wpAny_loadPart (k' _ _ (X _ _ ho)) (wBa q'))
  ·cases z
 ne:=fun h tp dd its n sl X htp=>by
  have z:=k.cl;refine Bool.eq_false_iff.mpr fun q=>?_;have e:C=tp:=Value.ref.inj (beq_iff_eq.mp q);subst e;unfold PySem.W.isClsIn PySem.W.clsIn at z;split at z
  ·rename_i ho;have y:=(X _ _ ho).symm.trans htp;cases y
  ·cases z
 ca:=fun X x h=>FV F.excAttr_ValueError k X x h
end
end L2
namespace L2
open PySem PySem.Spec PyProof.Rows
section
variable {X:Cx} {pins:Tq} {U:St} {H H':Hp} {s s':Shared} {e:Addr} {cls:Value} {od:Option Addr}
noncomputable abbrev Cx.sui(X:Cx)(e:Addr):Cx:={ X with A:=X.A.mark (some (.ref e)),calm:=false,xe:=fun _ _=>False }
def Inv.sui(I:Inv X pins U H s):Inv (X.sui e) pins U H s:=
 ⟨⟨I.ok.mod,I.ok.kind,I.ok.glob,I.ok.blt,I.ok.above,I.ok.inj,I.ok.has,I.ok.cab,(fun z=>nomatch z),I.ok.frames,I.ok.stk,I.ok.exf,I.ok.bs,I.ok.bsz,I.ok.noex,I.ok.exfs,I.ok.funs,I.ok.frf⟩,I.os,I.bare,I.base,I.loc,I.cell,I.free,I.freeC,I.pin,I.hok,I.len⟩
def Inv.unsui(I:Inv (X.sui e) pins U H s)(hd:X.calm=true->X.A.handled=none):Inv X pins U H s:=
 ⟨⟨I.ok.mod,I.ok.kind,I.ok.glob,I.ok.blt,I.ok.above,I.ok.inj,I.ok.has,I.ok.cab,hd,I.ok.frames,I.ok.stk,I.ok.exf,I.ok.bs,I.ok.bsz,I.ok.noex,I.ok.exfs,I.ok.funs,I.ok.frf⟩,I.os,I.bare,I.base,I.loc,I.cell,I.free,I.freeC,I.pin,I.hok,I.len⟩
def HF(X:Cx)(pins:Tq)(U:St)(Er:XK)(ev:Value)(s':Shared):Prop:=
 ∃H1 s1 e cls H' od,ev=.ref e/\Inv X pins U H1 s1/\Fly X.prog X.w X.stack H1 s1 H' e cls s'/\(∀d,od=some d->∃oe,s'.heap.get? e=some oe/\oe.dict=some d)/\Er cls od H'
noncomputable abbrev GS:=St->Hp->XK->Prop
def qf(X:Cx)(bd:List Stmt)(tb:GS):Prop:=∀(pins:Tq) (s:Shared) (U:St) (H:Hp) (Er:XK),Inv X pins U H s->tb U H Er->wpAny (model X.prog X.w) X.A (execs bd X.env) (fun _ _=>False) (HF X pins U Er) s
def qg(X:Cx)(e:Expr)(tb:GS):Prop:=∀(pins:Tq) (s:Shared) (U:St) (H:Hp) (Er:XK),Inv X pins U H s->tb U H Er->wpAny (model X.prog X.w) X.A (eval e X.env) (fun _ _=>False) (HF X pins U Er) s
def DZ{x:Str}{e:Expr}{pos pos':Pos}{tb:GS}(h:qg X e tb)(hs:swapsWith e (some (.Name x pos')) pos.line X.env=pure false):qf X [.Assign [.Name x pos'] e pos] tb:=
 fun pins s U H Er I q=>wGa (wpAny_Assign_Name (jv (h pins s U H Er I q) fun _ _ z=>False.elim z) hs)
def BZ{e:Expr}{epos:Pos}{tb:GS}(h:qg X e tb)(hsw:swapsWith e none epos.line X.env=pure false):qf X [.Expr e epos] tb:=fun pins s U H Er I q=>
 wGa (wpAny_Expr_any (wCa (h pins s U H Er I q) (fun _ _ z=>False.elim z) fun _ _ z=>z) I.quiet hsw)
def D_{e:Expr}{pos:Pos}{tb:GS}(h:qg X e tb):qf X [.Return (some e) pos] tb:=fun pins s U H Er I q=>
 wGa (wpAny_Return_some (jv (h pins s U H Er I q) fun _ _ z=>False.elim z))
noncomputable def eg(sp:Sp)(t:TA):GS:=fun U H Er=>t U H fun vs H1=>sp vs H1 (fun _ _=>False) Er
theorem B_{k:Nat}{f:Addr}{fd:FuncData}{ps:List Str}{sp:Sp}{g:Str}{p pos:Pos}{ea:Expr}{es:List Expr}{t:TA}(F:FnOk X.prog X.w X.K X.mg X.base (yu X.prog X.w) k f fd ps sp)(hr:Room k X.A)(hg:Gl X g)(hm:X.mg g=some (.ref f))(hk:PySem.W.keepIn X.K (.ref f)=true)(hb:JX X.K fd ps [])
  (ha:PA X.nox (ea::es) t) (hdb:(g==("__debug__" : Str))=false) (he:starEach (ea::es) X.env=(false,eval ea X.env)::starEach es X.env) (hpl:(backTo pos (starEach es X.env)).any (·.1)=false):qg X (.Call (.Name g p) (ea::es) [] pos) (eg sp t):=by
 intro pins s U H Er I h;refine wpAny_Call_Name_kw (zH I hg hm ?_ hdb);refine PySem.W.callWith_K (h₀:=X.base) I.ok.mod.kin hk (wCa (ha pos pins s U H _ (I.wish _) h) (fun us s1 xx=>?_) fun _ _ z=>False.elim z) he hpl;obtain⟨vs,H1,I1,r,q⟩:=xx;refine⟨I1.unwish.kIn,?_⟩
 replace I1:=I1.unwish
 have r2:jp (vs++[]) (us++[]):=r.append .nil;have q':=q;rw[<-uFa vs]at q';have hl:(us++[]).length=ps.length:=by rw[<-r2.length];exact F.len _ _ _ _ q'
 refine wHa (codeAny_mono (F.run X.A X.stack s1 H1 ⟨[]++us,[]⟩ (us++[]) (vs++[]) _ _ hr I1.env0 (hb s1 us I1.kIn hl) r2 q') fun r s' hq=>?_);cases r with
 | ok fl=>
  cases fl with
  | ret v=>obtain⟨_,_,_,_,_,_,_,z⟩:=hq;exact z.elim
  | _=>exact False.elim hq
 | error ev=>
  obtain⟨e,cls,H',od,rfl,Fl,hdd,hE⟩:=hq;exact⟨H1,s1,e,cls,H',od,rfl,I1,Fl,hdd,hE⟩
structure Land (X:Cx) (pins:Tq) (U:St) (H':Hp) (e:Addr) (cls:Value) (od:Option Addr) (s:Shared):Prop where
 fl:∃B a0,Heap.FlyingW B (X.env::X.outer) e cls a0 s.heap/\(∀h,B.StaysIn h->s.heap.UpToSlots h->Inv X pins U H' { s with heap:=h })/\∀h o,B.StaysIn h->s.heap.UpToSlots h->Jq X.prog X.w (upd H' e o) h e o->Inv X pins U (upd H' e o) { s with heap:=h }
 dd:∀d,od=some d->∃oe,s.heap.get? e=some oe/\oe.dict=some d
noncomputable abbrev TH:=Value->Option Addr->Addr->TS
def PH(X:Cx)(hs:List ExceptHandler)(t:TH):Prop:=∀(pins:Tq) (U:St) (H':Hp) (e:Addr) (cls:Value) (od:Option Addr) (s:Shared) (D:Ends),Land X pins U H' e cls od s->t cls od e D U H'->wpAny (model X.prog X.w) X.A (handleBy (.ref e) X.env hs) (SP X pins D) X.xe s
def Fly.moveT{a:Addr}{o:HO}{B:Heap}{h:Heap}{t:Nat}(I:Inv X pins U H s)(F:Fly X.prog X.w X.stack H s H' e cls s')
  (hB:B.StaysIn s'.heap) (c1:∀b u,H' b=some u->∃o,B.get? b=some o) (c2:∀b o,s.heap.get? b=some o->b∉Jh X.stack->∃o',B.get? b=some o')
  (k:B.StaysIn h) (fr:s'.heap.FunFrames B X.stack) (up:s'.heap.UpToSlots h) (ha:H' a=none) (hs:s.heap.get? a=none) (hH:H a=none) (ok:Jq X.prog X.w (upd H' a o) h a o):Inv X pins U (upd H' a o) { s' with heap:=h,toks:=t }:=by
 have u:=F.un;have at':∀b o,s'.heap.get? b=some o->(∃o',B.get? b=some o')->h.get? b=some o:=fun b o q xx=>by
  obtain⟨o',z⟩:=xx;have:=hB b o' z;rw[q]at this;cases this;exact k b o z
 have sl:∀b o,b∈Jh X.stack->s'.heap.get? b=some o->∃sl,h.get? b=some { o with slots:=sl }:=fun b o hb q=>by
  obtain⟨_,o',ho',hd⟩:=fr.mem hb;rw[q]at ho';cases ho';exact up b o q hd
 have oth:∀b u,H' b=some u->upd H' a o b=some u:=fun b u q=>by rw[jh (jy q ha)];exact q
 have nH:∀b u,H b=some u->b≠a:=fun b u q=>jy q hH;refine I.call' (s':={ s' with heap:=h,toks:=t }) (ch:=[]) F.os ⟨fun b o q n hb hx=>at' b o (u.keep b o q n hb hx) (c2 b o q hb),fun b o q n hb hx=>?_,fun b o q n hx=>?_,fun b o q hx=>?_,fun b xs q=>oth _ _ (u.tups b xs q),fun b o xs q=>oth _ _ (u.frzs b o xs q),fun b ps q=>?_⟩ ?_ F.bare fun b z=>vDa z (by simp)
 ·obtain⟨l,z⟩:=u.slot b o q n hb hx;obtain⟨l',z'⟩:=sl b _ hb z;exact⟨l',z'⟩
 ·rw[jh (fun z=>by rw[z,hs]at q;cases q)];exact u.free b o q n hx
 ·obtain⟨o',z⟩:=u.there b o q hx;by_cases hb:b∈Jh X.stack
  ·obtain⟨l',z'⟩:=sl b _ hb z;exact⟨_,z'⟩
  ·exact⟨_,at' b o' z (c2 b o q hb)⟩
 ·obtain⟨m,z⟩:=u.tbls b ps q;exact⟨m,oth _ _ z⟩
 ·intro b o' q;by_cases z:b=a
  ·subst z;rw[jw]at q;cases q;exact ok
  ·rw[jh z]at q;refine(F.hok b o' q).stay (fun c u hb y=>at' c u y ?_) (fun c y=>oth _ _ y) fun c xs y=>oth _ _ y;rcases hb with hb | hb
   ·rw[hb];exact c1 b o' q
   ·exact c1 c _ hb
end
section
variable {P:Program} {w:World} {K:uXa} {mg:Tj} {base:Heap} {N:List Str} {qual:Str} {scope:Scope} {f:Addr} {cd:Value} {A:Around} {outer:List Env} {s0:Shared} {H0:Hp} {E:XK}
def eh:za (yu P w) (Js (yu P w) P w K mg base N qual scope f cd A outer s0 H0 E) E:=by
 rintro pins U H s _ s' I ⟨e,cls,H',od,rfl,Fl,hdd,hE⟩;obtain⟨B,a0,fl,c1,c2⟩:=Fl.fly;have J:Inv (Js (yu P w) P w K mg base N qual scope f cd A outer s0 H0 E) pins U H' s':=by
  have:=Fl.move (t:=s'.toks) I fl.1 c1 c2 fl.1 fl.2.2.1 (fun b o q _=>⟨o.slots,q⟩);exact this
 have hL0:s0.heap.get? s0.heap.objs.size=none:=Heap.get?_none_of_le (wPa _);have neL:∀b o,s0.heap.get? b=some o->b≠s0.heap.objs.size:=fun b o q z=>by rw[z,hL0]at q;cases q
 have memb:∀b,b∈Jh (envOfC qual scope s0.heap.objs.size f cd::outer)->b=s0.heap.objs.size \/ b∈Jh outer:=fun b hb=>by
  unfold Jh at hb;rw[List.filterMap_cons]at hb;exact uTa hb
 have inB:∀b o,s0.heap.get? b=some o->b∉Jh outer->∃o',B.get? b=some o':=fun b o q n=>by
  obtain⟨o',z⟩:=I.base.there b o q (by simp[Js]);exact c2 b o' z fun m=>(memb b m).elim (neL b o q) n
 show wpAny (model P w) (A.deeper (envOfC qual scope s0.heap.objs.size f cd)) (leaving (envOfC qual scope s0.heap.objs.size f cd) (.ref e)) _ _ s';refine wCa (vq (Q:=fun _ s2=>∃h',s2={ s' with heap:=h' }/\Heap.FlyingW B outer e cls a0 h'/\s'.heap.UpToSlots h') (GR _ _) (wpAny_leaves_onW (L:=s0.heap.objs.size) J.ok.frames rfl fl fun h' fl' up=>⟨h',rfl,fl',up⟩)) (fun _ s2 zz=>?_) (fun _ _ z=>z);obtain⟨⟨h',rfl,fl',up⟩,dk⟩:=zz;have hdk:∀d,od=some d->∃oe,h'.get? e=some oe/\oe.dict=some d:=fun d q=>by
  obtain⟨oe,z1,z2⟩:=hdd d q;obtain⟨ob,z3,z4⟩:=dk e oe z1;exact⟨ob,z3,z4.trans z2⟩
 have atB:∀b o,s'.heap.get? b=some o->(∃o',B.get? b=some o')->h'.get? b=some o:=fun b o q ⟨o',z⟩=>by
  have:=fl.1 b o' z;rw[q]at this;cases this;exact fl'.1 b o z
 have sl:∀b o,b∈Jh outer->s'.heap.get? b=some o->∃sl,h'.get? b=some { o with slots:=sl }:=fun b o hb q=>by
  obtain⟨_,o',ho',hd⟩:=fl.2.2.1.mem (b:=b) (by show b∈Jh (envOfC qual scope s0.heap.objs.size f cd::outer);unfold Jh;rw[List.filterMap_cons];exact wMa _ hb);rw[q]at ho';cases ho';exact up b o q hd
 have u:=J.base;refine⟨e,cls,H',od,rfl,⟨Fl.os.trans I.os,Fl.bare,⟨fun b o q n hb hx=>atB b o (u.keep b o q n hb hx) (inB b o q hb),fun b o q n hb hx=>?_,u.free,fun b o q hx=>?_,u.tups,u.frzs,u.tbls⟩,?_,⟨B,a0,fl',c1,inB⟩⟩,hdk,hE⟩
 ·obtain⟨l,z⟩:=u.slot b o q n hb hx;obtain⟨l',z'⟩:=sl b _ hb z;exact⟨l',z'⟩
 ·obtain⟨o',z⟩:=u.there b o q hx;by_cases hb:b∈Jh outer
  ·obtain⟨l',z'⟩:=sl b _ hb z;exact⟨_,z'⟩
  ·exact⟨_,atB b o' z (inB b o q hb)⟩
 ·intro a o q;refine(Fl.hok a o q).stay (fun b u hb z=>atB b u z ?_) (fun _ z=>z) fun _ _ z=>z;rcases hb with hb | hb
  ·rw[hb];exact c1 a o q
  ·exact c1 b _ hb
end
section
variable {X:Cx} {x n:Str} {np hpos tpos:Pos} {bd su:List Stmt} {b₀:Stmt} {h₀:ExceptHandler} {hs:List ExceptHandler} {Dc:Addr} {i:Nat} {u:TS} {th:TH} {tb:GS}
def et(tb:GS)(th:TH):TS:=fun D U H=>tb U H fun cls od H2=>∀e,H2 e=none->th cls od e D U H2
def eA(hbd:qf X bd tb)(hh:PH X (h₀::hs) th)(hst:X.stack=X.env::X.outer)(hfr:X.env.frame=some X.env.locals):PS X (.Try bd (h₀::hs) [] [] tpos) (et tb th):=by
 intro pins s U H D I h;refine wpAny_Try_except (wCa (hbd pins s U H _ I h) (fun _ _ z=>False.elim z) fun ev s' hq=>?_);obtain⟨H1,s1,e,cls,H',od,rfl,I1,Fl,hdd,hE⟩:=hq;obtain⟨B,a0,fl,c1,c2⟩:=Fl.fly;have fl0:=fl;rw[hst]at fl;refine wCa (vq (Q:=fun _ s2=>∃h4,s2={ s' with heap:=h4 }/\Heap.HeldW B (X.env::X.outer) e cls a0 X.env.locals h4/\s'.heap.UpToSlots h4) (qd _ _) (wpAny_looks_onW (I.ok.frames.trans (by rw[hst])) hfr fl fun h₄ held₄ sm₄=>⟨h₄,rfl,held₄,sm₄⟩)) (fun _ s2 zz=>?_) (fun _ _ z=>z);obtain⟨⟨h₄,rfl,held₄,sm₄⟩,dk4⟩:=zz;refine wCa (vq (Q:=fun _ s2=>∃h5,s2={ s' with heap:=h5 }/\Heap.FlyingW B (X.env::X.outer) e cls a0 h5/\h₄.UpToSlots h5) (vt _ _) (wpAny_landsW held₄ fun h₅ fl₅ sm₅=>⟨h₅,rfl,fl₅,sm₅⟩)) (fun _ s2 zz=>?_) (fun _ _ z=>z);obtain⟨⟨h₅,rfl,fl₅,sm₅⟩,dk5⟩:=zz;have up5:=sm₄.trans sm₅;have hHe:H' e=none:=by
  cases z:H' e with
  | none=>rfl
  | some v=>obtain⟨o,y⟩:=c1 e v z;rw[fl0.2.1]at y;cases y
 obtain⟨oe,ws,hoe,hoec,hoed,hoe0⟩:=fl₅.first;have nfr:e∉Jh X.stack:=fun z=>by
  obtain⟨_,o,ho,hd⟩:=fl₅.2.2.1.mem (b:=e) (by rw[hst]at z;exact z);rw[hoe]at ho;cases ho;exact hd _ hoed
 have hs1:s1.heap.get? e=none:=by
  cases z:s1.heap.get? e with
  | none=>rfl
  | some o=>obtain⟨o',y⟩:=c2 e o z nfr;rw[fl0.2.1]at y;cases y
 have hH1:H1 e=none:=by
  cases z:H1 e with
  | none=>rfl
  | some v=>obtain⟨o,y⟩:=(I1.hok e v z).ex;rw[hs1]at y;cases y
 refine hh pins U H' e cls od _ D ⟨⟨B,a0,fl₅,fun h k up=>?_,fun h o k up ok=>?_⟩,fun d q=>?_⟩ (hE e hHe)
 ·have:=Fly.move (s':=s') (t:=s'.toks) I1 Fl fl0.1 c1 c2 k fl0.2.2.1 (up5.trans up);exact this
 ·have:=Fly.moveT (s':=s') (t:=s'.toks) I1 Fl fl0.1 c1 c2 k fl0.2.2.1 (up5.trans up) hHe hs1 hH1 ok;exact this
 ·obtain⟨o1,z1,y1⟩:=hdd d q;obtain⟨o2,z2,y2⟩:=(dk4.trans dk5) e o1 z1;exact⟨o2,z2,y2.trans y1⟩
def cb{t:TS}(hbd:Ji X.nox bd t):PS X (.Try bd (h₀::hs) [] [] tpos) t:=by
 intro pins s U H D I h;refine wpAny_Try_except (wCa (hbd pins s U H D (I.wish _) h) (fun fl s' hq=>?_) fun _ _ z=>False.elim z);have hq:=hq.unwish;cases fl with
 | next=>exact wpAny_execs_nil hq
 | brk=>exact hq
 | cont=>exact hq
 | ret v=>exact hq
def FW{st:Stmt}{t1 t2:TS}(h1:PS X st t1)(h2:PS X st t2):PS X st (fun D U H=>t1 D U H \/ t2 D U H):=
 fun pins s U H D I h=>h.elim (h1 pins s U H D I) (h2 pins s U H D I)
def cf(h:Heap):h.UpToSlots h:=fun b o q _=>⟨o.slots,q⟩
def lq(K:uXa)(Dc:Addr)(i:Nat)(u:TS)(th:TH):TH:=fun cls od e D U H=>∃b,PySem.W.exmOne K cls (.ref Dc)=some b/\if b=true then∃C,cls=.ref C/\
  u { nx:=fun U' H'=>D.nx (U'.set i none) H',rt:=D.rt,bk:=fun U' H'=>D.bk (U'.set i none) H',ct:=fun U' H'=>D.ct (U'.set i none) H' } (U.set i (some (.ref e))) (upd H e (xC e C od))else th cls od e D U H
theorem FX(hNd:X.N.Nodup)(hi:X.N[i]?=some n)(hln:X.env.kindOf n=some .local)(hgx:Gl X x)(hmx:X.mg x=some (.ref Dc))(hdx:(x==("__debug__" : Str))=false)
  (hu:∀e,Ji (X.sui e) (b₀::su) u) (hr:PH X hs th):PH X (.ExceptHandler (some (.Name x np)) (some n) (b₀::su) hpos::hs) (lq X.K Dc i u th):=by
 intro pins U H' e cls od s D L hq;obtain⟨b,hmt,hE⟩:=hq;obtain⟨B,a0,fl₅,mv,mvT⟩:=L.fl;have I5:Inv X pins U H' s:=mv s.heap fl₅.1 (cf _);obtain⟨oe,ws,hoe,hoec,hoed,hoe0⟩:=fl₅.first;refine wpAny_handleBy_cons (codeAny_handlers_test (zH (X:=X.sui e) I5.sui hgx hmx ?_ hdx)) (by intro q;cases q);have LT:PySem.W.Looks (model X.prog X.w) s.heap (typeOf (.ref e)) cls:=by
  have:=(PySem.W.Looks.ld (M:=model X.prog X.w) (part:=none) hoe).andThen (f:=fun o=>pure o.cls) .now;rw[hoec]at this;exact this
 refine(PySem.W.exm_one I5.kIn LT hmt).here ?_;cases b with
 | false=>exact hr pins U H' e cls od s D L hE
 | true=>
  obtain⟨C,rfl,hE⟩:=hE;refine codeAny_handlers_suite_as ?_;refine wCa (vq (Q:=fun _ s2=>∃h6,s2={ s with heap:=h6 }/\Heap.FlyingW B (X.env::X.outer) e (.ref C) a0 h6/\s.heap.UpToSlots h6) (vt _ _) (lands_againW fl₅ fun h₆ fl₆ sm₆=>⟨h₆,rfl,fl₆,sm₆⟩)) (fun _ s2 zz=>?_) (fun _ _ z=>z);obtain⟨⟨h₆,rfl,fl₆,sm₆⟩,dk6⟩:=zz;obtain⟨oe6,ws6,hoe6,hoec6,hoed6,_⟩:=fl₆.first;have hdict:∀d,od=some d->oe6.dict=some d:=fun d q=>by
   obtain⟨o1,z1,y1⟩:=L.dd d q;obtain⟨o2,z2,y2⟩:=dk6 e o1 z1;rw[hoe6]at z2;cases z2;exact y2.trans y1
  have J6:=(mvT h₆ _ fl₆.1 sm₆ (fL (od:=od) hoe6 hoec6 (by unfold PySem.W.notCls;rw[hoed6]) hdict)).sui (e:=e);refine vh (X:=X.sui e) (v:=.ref e) J6 hNd hi (.inl hln) rfl (fun s7 J7=>?_) (.inr hln);refine wCa (hu e pins s7 _ _ _ J7 hE) (fun fw s8 hs=>?_) (fun _ _ z=>False.elim z);have hd:=I5.ok.hd;cases fw with
  | next=>obtain⟨U',H2,J,z⟩:=hs;exact V3 (J.unsui hd) hNd hi hln fun s' I'=>⟨_,_,I',z⟩
  | brk=>obtain⟨U',H2,J,z⟩:=hs;exact V3 (J.unsui hd) hNd hi hln fun s' I'=>⟨_,_,I',z⟩
  | cont=>obtain⟨U',H2,J,z⟩:=hs;exact V3 (J.unsui hd) hNd hi hln fun s' I'=>⟨_,_,I',z⟩
  | ret v=>obtain⟨v',U',H2,J,rv,z⟩:=hs;exact V3 (J.unsui hd) hNd hi hln fun s' I'=>⟨v',_,_,I',rv,z⟩
def IH(K:uXa):List V->Hp->VK->Prop:=fun vs H1 Q=>∃e C od Dv b d,vs=[.ref e,d]/\(∀u,jq d u->u=Dv)/\H1 e=some (xC e C od)/\ExC K C/\PySem.W.kitOne K (.ref C) Dv=some b/\Q (.bl b) H1
def aP:YD X (.builtin "isinstance") (IH X.K):=by
 intro pins s U H xs us Q I r h;obtain⟨e,C,od,Dv,b,d,rfl,hd,hp,k,hb,q⟩:=h;cases r with
 | cons r1 r2=>
  cases r2 with
  | cons r3 r4=>
   cases r4;cases r1;cases hd _ r3;obtain⟨⟨oe,h1,h2,_⟩,_⟩:=I.hok e _ hp;exact PySem.W.kia_one (DY k) I.kIn ⟨oe,h1,h2⟩ hb (by intro z;cases z) fun tk=>⟨.bl b,H,I.tok tk,rfl,q⟩
end
end L2
namespace L2
open PySem PySem.Spec PyProof.Rows PySem.W Builtin Builtin.ObjectAttr
noncomputable def Uh:List Value->Bool
 | .ref _::r=>Uh r
 | l=>l==[.type "ValueError",.type "Exception",.type "BaseException",.type "object"]
theorem GT(self:Value):∀{l:List Value},Uh l=true->refuseLoop self "__setattr__" l=pure ()
 | .ref c::r,e=>by rw[refuseLoop_ref];exact GT self e
 | [],e=>by cases e
 | .type a::r,e=>by rw[eq_of_beq (show(Value.type a::r==_)=true from e)];exact PySem.F.store_ValueError.passes self
theorem qh:∀{l:List Value},Uh l=true->l.contains (.type "object")=true
 | .ref c::r,e=>by rw[List.contains_cons,qh (l:=r) e,Bool.or_true]
 | [],e=>by cases e
 | .type a::r,e=>by rw[eq_of_beq (show(Value.type a::r==_)=true from e)];decide
section
variable {prog:Program} {w:World} {A:Around} {E:Tz} {R:Result->Shared->Prop} {s:Shared} {K:Frag} {x C:Addr} {ox:Obj} {od:Option Obj} {name:Str} {tk:Tok} {v:Value}
def YU(K:Frag)(C:Addr):Bool:=(clsIn K C).any fun cd=>Uh cd.mro
def qi(X:K.In s.heap)(I:InstAt s.heap x ox C od)(hp:YU K C=true)(ht:takerIn K C name=some none)
  (h:∀b,wpAny (model prog w) A.in1 (storeInOwnDict (.ref x) (.ref C) (.str name tk) name v b)
   (fun fin s'=>match fin with | .done f=>R (.ok f) s' | .again c'=>c'.quiet=true/\codeAny (model prog w) A c' R s') (fun e s'=>R (.error e) s') s):
  codeAny (model prog w) A (.call (.builtin "object.__setattr__") ⟨[.ref x,.str name tk,v],[]⟩) R s:=by
 have SF:=PySem.F.store_object;obtain⟨cd,hc,ho⟩:=any_some hp;have ne:cd.mro.isEmpty=false:=by cases q:cd.mro with | nil=>rw[q]at ho;cases ho | cons _ _=>rfl
 have sub:Looks (model prog w) s.heap (isInstance (.ref x) (.type "object")) true:=I.type.andThen (looks_mroIn X (by unfold mroIn;rw[hc,uEa,if_neg (by rw[ne];decide),qh ho]));refine codeAny_call_builtin SF.slot.plain SF.entry (@check_slot (model prog w) _ _ s "object.__setattr__" "object" "__setattr__" (.ref x) [.str name tk,v] [] _ SF.kind SF.split sub (SF.args (.ref x) (.str name tk) v) ?_);obtain⟨attr,ha,hr⟩:=Option.bind_eq_some_iff.mp ht;have hm:Looks (model prog w) s.heap (mroOf (.ref C)) cd.mro:=(looks_clsIn X hc).andThen .now;have L3:Looks (model prog w) s.heap (storeTaker? attr) none:=by
  cases attr with
  | none=>exact .now
  | some a=>
   obtain⟨b,hb,hbb⟩:=Option.map_eq_some_iff.mp hr;refine(looks_takesIn X hb).andThen ?_;cases b with
   | false=>exact .now
   | true=>cases hbb
 rw[osa_eq,refuse_eq];refine wAa (wAa (I.type.here (wAa (hm.here ?_))));rw[GT _ ho];refine wBa (wAa (I.type.here (wAa ((looks_findIn X ha).here (wAa (L3.here ?_))))));exact h _
def aQ{vs:Array Value}{Q:Unit->Shared->Prop}(X:K.In s.heap)(hx:s.heap.get? x=some { cls:=.ref C,data:=.fields vs })
  (hs:findIn K (.ref C) "__setattr__" = some (some (.builtin "object.__setattr__"))) (hp:YU K C=true) (ht:takerIn K C name=some none) (hh:hasDictIn K C=true)
  (h:∀h' t',h'.get? x=some { cls:=.ref C,dict:=some s.heap.objs.size,data:=.fields vs }->h'.Ns1 s.heap.objs.size (fun y=>if y=name then some v else none)->(∀b o,b≠x->s.heap.get? b=some o->h'.get? b=some o)->Q () { s with heap:=h',toks:=t' }):
  wpAny (model prog w) A (setAttr (.ref x) name v) Q E s:=by
 have J:InstAt s.heap x { cls:=.ref C,data:=.fields vs } C none:=⟨hx,rfl,rfl,trivial⟩
 refine PySem.W.set_plain X J hs (qi (s:={ s with toks:=s.toks+1 }) X J hp ht fun b=>?_);obtain⟨cd,hc,hd'⟩:=any_some hh;refine wAa (wBa (wAa (wAa (wpAny_loadPart hx (wAa (Looks.here (s:={ s with toks:=s.toks+1 }) (looks_clsIn X hc) ?_))))));rw[hd'];obtain⟨hh,g,d,t,os⟩:=s;have hx₁:(hh.push { cls:=.type "dict",data:=.dict #[] }).get? x=some { cls:=.ref C,data:=.fields vs }:=wIa _ hx;have hxs:x≠hh.objs.size:=wTa (wLa hx);have hgd:((hh.push { cls:=.type "dict",data:=.dict #[] }).update x fun o=>{ cls:=o.cls,dict:=some hh.objs.size,data:=o.data,slots:=o.slots }).get? hh.objs.size
     = some { cls:=.type "dict",data:=.dict #[] }:=
    (Heap.get?_update_ne _ _ _ _ hxs.symm).trans (Heap.get?_push_at rfl rfl)
 have hnd:((hh.push { cls:=.type "dict",data:=.dict #[] }).update x fun o=>{ cls:=o.cls,dict:=some hh.objs.size,data:=o.data,slots:=o.slots }).Ns hh.objs.size (fun _=>none):=
    ⟨_,#[],_,hgd,rfl,fun e he=>vDa he (by simp),fun _=>rfl⟩
 refine wAa (wpAny_alloc' ?_);refine wAa (wpAny_update' hx₁ ?_);refine wBa ?_;show wpAny _ _ (storeInDict hh.objs.size (.str name _) name v) _ _ _;unfold storeInDict newKeyGuard;refine wAa (wBa (wAa (wpAny_nsSet1 (Heap.Ns1.of_empty hnd) fun h' hn' hs=>?_)));obtain⟨oD,esD,epD,hoD,hdD,hcD⟩:=hn'.count (Within.cons name v Within.nil);refine wAa (wpAny_lookBehind hoD (by rw[hdD];exact pastItsLine_dict (wSa hcD (by rw[vXa,List.length_nil,sizeLine_eq];omega))) ?_);refine wBa (h h' _ ((hs.2 x hxs).trans (vUa _ hx₁ rfl)) ?_ fun b o n q=>?_)
 ·exact hn'
 ·exact(hs.2 b (wTa (wLa q))).trans ((Heap.get?_update_ne _ _ _ _ n).trans (wIa _ q))
def aR{vs:Array Value}{dx:Addr}{mA:Tj}{ns:List Str}{Q:Unit->Shared->Prop}(X:K.In s.heap)(hx:s.heap.get? x=some { cls:=.ref C,dict:=some dx,data:=.fields vs })(hn:s.heap.Ns1 dx mA)(hne:x≠dx)
  (hs:findIn K (.ref C) "__setattr__" = some (some (.builtin "object.__setattr__"))) (hp:YU K C=true) (ht:takerIn K C name=some none) (hh:hasDictIn K C=true) (hw:PySem.Within mA ns) (hsz:ns.length<=sizeLine)
  (h:∀h' t',h'.Ns1 dx (fun y=>if y=name then some v else mA y)->(∀b o,b≠dx->s.heap.get? b=some o->h'.get? b=some o)->Q () { s with heap:=h',toks:=t' }):
  wpAny (model prog w) A (setAttr (.ref x) name v) Q E s:=by
 obtain⟨oD,hoD⟩:∃o,s.heap.get? dx=some o:=let ⟨o,_,_,e,_⟩:=hn;⟨o,e⟩
 have J:InstAt s.heap x { cls:=.ref C,dict:=some dx,data:=.fields vs } C (some oD):=⟨hx,rfl,rfl,hoD⟩
 refine PySem.W.set_plain X J hs (qi (s:={ s with toks:=s.toks+1 }) X J hp ht fun b=>?_);obtain⟨cd,hc,hd'⟩:=any_some hh;refine wAa (wBa (wAa (wAa (wpAny_loadPart hx (wAa (Looks.here (s:={ s with toks:=s.toks+1 }) (looks_clsIn X hc) ?_))))));rw[hd'];refine wBa (a:=some dx) (wAa (wBa (wAa ?_)));refine wpAny_nsSet1 (s:={ s with toks:=s.toks+1 }) hn fun h' hn2 hs2=>?_;obtain⟨oD,esD,epD,hoD,hdD,hcD⟩:=hn2.count (PySem.Within.cons name v hw);refine wAa (wpAny_lookBehind hoD (by rw[hdD];exact pastItsLine_dict (wSa hcD (by rw[vXa];omega))) ?_);exact wBa (h h' _ hn2 fun b o n q=>(hs2.2 b n).trans q)
end
noncomputable def xE(C e:Addr)(od:Option Addr):HO:=.ext fun h=>∃t,h.get? e=some { cls:=.ref C,dict:=od,data:=.fields #[.ref t,.none,.none,.none,.bool false,.none] }
def bC{P:Program}{w:World}{H:Hp}{hp:Heap}{C e t:Addr}{od:Option Addr}(h:hp.get? e=some { cls:=.ref C,dict:=od,data:=.fields #[.ref t,.none,.none,.none,.bool false,.none] }):Jq P w H hp e (xE C e od):=⟨⟨t,h⟩,⟨_,h⟩,fun _ _ ⟨t,q⟩ k=>⟨t,k _ q⟩⟩
structure ExS (K:Frag) (C:Addr) (f:Str):Prop where
 sa:findIn K (.ref C) "__setattr__" = some (some (.builtin "object.__setattr__"))
 eo:YU K C=true
 tk:takerIn K C f=some none
 hd:hasDictIn K C=true
section
variable {X:Cx} {pins:Tq} {U:St} {H:Hp} {s:Shared} {C a dx t:Addr} {f:Str} {u:Value} {v:V} {A:Around} {E:Tz} {fv:List (Str×V)} {mA:Tj}
def Inv.exc0{h':Heap}{t':Nat}(I:Inv X pins U H s)(e:H a=some (xE C a none))(hx:h'.get? a=some { cls:=.ref C,dict:=some s.heap.objs.size,data:=.fields #[.ref t,.none,.none,.none,.bool false,.none] })(ok:∀H',Jq X.prog X.w H' h' s.heap.objs.size (xW s.heap.objs.size fv))
  (k:∀b o,b≠a->s.heap.get? b=some o->h'.get? b=some o):Inv X pins U (upd (upd H s.heap.objs.size (xW s.heap.objs.size fv)) a (xE C a (some s.heap.objs.size))) { s with heap:=h',toks:=t' }:=by
 have fr:H s.heap.objs.size=none:=I.fresh;have na:∀b,H b=none->b≠a:=fun b n z=>by rw[z,e]at n;cases n
 have nd:∀b o,H b=some o->b≠s.heap.objs.size:=fun b o q z=>by rw[z,fr]at q;cases q
 have oth:∀b o,H b=some o->b≠a->upd (upd H s.heap.objs.size (xW s.heap.objs.size fv)) a (xE C a (some s.heap.objs.size)) b=some o:=fun b o q n=>by rw[jh n,jh (nd b o q)];exact q
 have ne:∀b o,H b=some o->(∀φ,o≠.ext φ)->b≠a:=fun b o q n z=>by rw[z,e]at q;exact n _ (vFa q).symm
 refine I.un ⟨fun b o q n _ _=>k b o (na b n) q,fun b o q n _ _=>⟨o.slots,k b o (na b n) q⟩,fun b o q n _=>?_,fun b o q _=>?_,fun b xs q=>oth b _ q (ne b _ q fun _ z=>by cases z),fun b o xs q=>oth b _ q (ne b _ q fun _ z=>by cases z),fun b ps q=>⟨#[],by rw[oth b _ q (ne b _ q fun _ z=>by cases z)];simp⟩⟩ fun b o q=>?_
 ·rw[jh (na b n),jh (Nat.ne_of_lt (Heap.lt_size q))];exact n
 ·by_cases z:b=a
  ·rw[z];exact⟨_,hx⟩
  ·exact⟨o,k b o z q⟩
 ·by_cases z:b=a
  ·subst z;rw[jw]at q;cases q;exact bC hx
  ·rw[jh z]at q;by_cases y:b=s.heap.objs.size
   ·subst y;rw[jw]at q;cases q;exact ok _
   ·rw[jh y]at q;refine(I.hok b o q).stay (fun c v hc r=>k c v ?_ r) (fun c r=>oth c _ r (ne c _ r fun _ z=>by cases z)) fun c xs r=>oth c _ r (ne c _ r fun _ z=>by cases z);rcases hc with rfl | hc
    ·exact z
    ·exact ne c _ hc fun _ z=>by cases z
def Qm{Q:Unit->Shared->Prop}(I:Inv X pins U H s)(e:H a=some (xE C a none))(c:ExS X.K C f)(hr:jq v u)
  (h:∀dx s',H dx=none->dx≠a->Inv X pins U (upd (upd H dx (xW dx [(f,v)])) a (xE C a (some dx))) s'->Q () s'):wpAny (model X.prog X.w) A (setAttr (.ref a) f u) Q E s:=by
 obtain⟨⟨t,hx⟩,_⟩:=I.hok a _ e;refine aQ I.kIn hx c.sa c.eo c.tk c.hd fun h' t' q1 q2 q3=>h _ _ I.fresh (fun z=>?_) (I.exc0 e q1 (fun _=>AY q2 (PySem.Within.cons f u PySem.Within.nil) fun p hp=>?_) q3)
 ·have:=I.fresh;rw[z,e]at this;cases this
 ·rw[List.mem_singleton.mp hp];exact⟨u,if_pos rfl,hr⟩
def Qn{Q:Unit->Shared->Prop}(I:Inv X pins U H s)(e:H a=some (xE C a (some dx)))(e2:H dx=some (xW dx fv))(hne:a≠dx)(c:ExS X.K C f)(hz:fv.length < 1000)(hf:∀p∈fv,p.1≠f)(hr:jq v u)
  (h:∀s',Inv X pins U (upd H dx (xW dx ((f,v)::fv))) s'->Q () s'):wpAny (model X.prog X.w) A (setAttr (.ref a) f u) Q E s:=by
 obtain⟨⟨t,hx⟩,_⟩:=I.hok a _ e;obtain⟨⟨mA,hn,hw,hu⟩,_⟩:=I.hok dx _ e2;refine aR I.kIn hx hn hne c.sa c.eo c.tk c.hd hw (by rw[sizeLine_eq,vYa];omega) fun h' t' q1 q2=>h _ ?_;refine I.write (x:=dx) (e:=dx) (by rw[e2];exact True.intro) (.inl rfl) (fun b o n q=>q2 b o n q) ?_ (AY q1 (PySem.Within.cons f u hw) fun p hp=>?_)
 ·obtain⟨o,_,_,z,_⟩:=q1;exact⟨o,z⟩
 ·rcases uTa hp with rfl | hp
  ·exact⟨u,if_pos rfl,hr⟩
  ·obtain⟨w,h1,h2⟩:=hu p hp;exact⟨w,(if_neg (hf p hp)).trans h1,h2⟩
def sX(K:Frag)(ta tv:TE)(f:Str):TS:=fun D U H=>tv U H fun y H1=>ta U H1 fun x H2=>∃a C,x=.ref a/\ExS K C f/\
 ((H2 a=some (xE C a none)/\∀dx,H2 dx=none->dx≠a->D.nx U (upd (upd H2 dx (xW dx [(f,y)])) a (xE C a (some dx)))) \/∃dx fv,H2 a=some (xE C a (some dx))/\H2 dx=some (xW dx fv)/\a≠dx/\fv.length < 1000/\(∀p∈fv,p.1≠f)/\D.nx U (upd H2 dx (xW dx ((f,y)::fv))))
def eB{o value:Expr}{ta tv:TE}{pos pos':Pos}(ha:PE X o ta)(hv:PE X value tv)(hs:swapsWith value (some (.Attribute o f pos')) pos.line X.env=pure false):PS X (.Assign [.Attribute o f pos'] value pos) (sX X.K ta tv f):=by
 intro pins s U H D I h;refine plainObj_wpAny_Assign_Attribute (jv (hv pins s U H _ I h) fun u s1 xx=>?_) hs;obtain⟨y,H1,I1,ry,q⟩:=xx;refine jv (ha pins s1 U H1 _ I1 q) fun ov s2 xx=>?_;obtain⟨x,H2,I2,rx,a,C,ex,c,q2⟩:=xx;subst ex;obtain rfl:ov=Value.ref a:=rx;rcases q2 with⟨e,q⟩ | ⟨dx,fv,e,e2,n,z,hf,q⟩
 ·exact Qm I2 e c ry fun dx s3 n1 n2 I3=>⟨U,_,I3,q dx n1 n2⟩
 ·exact Qn I2 e e2 n c z hf ry fun s3 I3=>⟨U,_,I3,q⟩
end
end L2
namespace L2
open PySem PySem.Spec PyProof.Rows
noncomputable abbrev Ui(l:List Value):Obj:={ cls:=.type "tuple",data:=.seq l.toArray }
noncomputable abbrev Uj(C t:Addr):Obj:={ cls:=.ref C,data:=.fields #[.ref t,.none,.none,.none,.bool false,.none] }
section
variable {prog:Program} {w:World} {A:Around} {E:Tz} {h:Heap} {g:Array GenState} {d:Drawn} {t:Nat} {os:OsState}
variable {nm q:Str} {C N fi:Addr} {bs bm bmB:List Value} {hdct:Bool} {sn:List Str} {sub:List Value} {ab:Bool} {col:Option Bool} {dd:Option Addr} {k0 k1 k2 k3 k5:Option Value} {B newId initId:String}
theorem cg(F:ExcBaseFacts B newId initId bmB)(T:OwnTail h bmB bm){mN:Tj}{l:List Value}{Q:Fin->Shared->Prop}
  (hC:h.get? C=some (excClassObj nm q C N bs bm hdct sn sub ab col dd k0 k1 k2 k3 k5 newId)) (hn:h.Ns N mN) (hni:mN "__init__" = some (.ref fi)) (hl:l.length<=sizeLine)
  (hb:∀h':Heap,(∀b o,h.get? b=some o->h'.get? b=some o)->∀self,PySem.W.Looks (model prog w) h' (bindSpecial (.ref fi) self) (.ref fi,[self]))
  (hi:codeAny (model prog w) A (.call (.ref fi) ⟨.ref (h.objs.size+1)::l,[]⟩) (fun r s'=>match r with | .ok (.ret .none)=>Q (.done (.ret (.ref (h.objs.size+1)))) s' | .ok _=>False | .error ev=>E ev s') ⟨(h.push (Ui l)).push (Uj C h.objs.size),g,d,t,os⟩):
  wpAny (model prog w) A (Builtin.«type.__call__» ⟨.ref C::l,[]⟩) Q E ⟨h,g,d,t,os⟩:=by
 have kp:∀b o,h.get? b=some o->((h.push (Ui l)).push (Uj C h.objs.size)).get? b=some o:=fun b o e=>wIa _ (wIa _ e)
 repeat (first | with_reducible refine wpAny_loadPart_at hC ?_ | with_reducible refine wpAny_madeBy_exc hC ?_ | wp_step)
 refine codeAny_call_builtin_code (Code.quiet_builtin _ F.quiet) (wpAny_check_new_subT F T hC (codeAny_exc_new_subT F T hC ?_ hl));show wpAny _ _ _ _ _ _;have c1:=kp _ _ hC;have n1:((h.push (Ui l)).push (Uj C h.objs.size)).Ns N mN:=hn.keeps kp;have T1:=T.keeps kp;have g1:((h.push (Ui l)).push (Uj C h.objs.size)).get? (h.objs.size+1)=some (Uj C h.objs.size):=by heap_get
 have cc:(Value.ref C::bm).contains (.ref C)=true:=by simp
 unfold isInstance
 repeat (first | with_reducible refine wpAny_loadPart_at g1 ?_ | (with_reducible refine wpAny_isSubtype_exc c1 ?_;rw[cc]) | wp_step)
 show wpAny _ _ (typeLookup (.ref C) _) _ _ _;refine wpAny_typeLookup_tail c1 n1 T1 F.mroIs F.init.lookup ?_;rw[hni];refine wDa (wAa ((hb _ kp _).here ?_));refine wAa (wHa (codeAny_mono hi fun r s' z=>?_));cases r with
 | error ev=>exact z
 | ok fl=>
  cases fl with
  | ret v=>
   cases v with
   | none=>exact wBa (wBa z)
   | _=>exact z.elim
  | _=>exact z.elim
theorem xK(F:ExcBaseFacts B newId initId bmB)(T:OwnTail h bmB bm){mN:Tj}{l:List Value}{Q:Tz}
  (hC:h.get? C=some (excClassObj nm q C N bs bm hdct sn sub ab col dd k0 k1 k2 k3 k5 newId)) (hn:h.Ns N mN) (hni:mN "__init__" = some (.ref fi)) (hl:l.length<=sizeLine)
  (hb:∀h':Heap,(∀b o,h.get? b=some o->h'.get? b=some o)->∀self,PySem.W.Looks (model prog w) h' (bindSpecial (.ref fi) self) (.ref fi,[self]))
  (hi:codeAny (model prog w) (A.under (.builtin "type.__call__" ⟨.ref C::l,[]⟩)) (.call (.ref fi) ⟨.ref (h.objs.size+1)::l,[]⟩) (fun r s'=>match r with | .ok (.ret .none)=>Q (.ref (h.objs.size+1)) s' | .ok _=>False | .error ev=>E ev s') ⟨(h.push (Ui l)).push (Uj C h.objs.size),g,d,t,os⟩):
  wpAny (model prog w) A (call (.ref C) l) Q E ⟨h,g,d,t,os⟩:=by
 have f1:=tc_lookup;have f2:=tc_bind (.ref C);have hT:(⟨h,g,d,t,os⟩:Shared).TypeIs (.ref C) "type" := ⟨_,hC,rfl⟩
 refine wHa (codeAny_of_tree ?_);show wpAny _ _ (callAny (.ref C) _) _ _ _
 repeat (any_goals (first | assumption | with_reducible refine wpAny_loadPart_at hC ?_ | wp_step))
 refine⟨rfl,?_⟩;refine codeAny_call_builtin_at (Code.quiet_builtin _ (by decide +kernel)) entry_typeCall (wpAny_check_type_call_sub hC (cg F T hC hn hni hl hb ?_));refine codeAny_mono hi fun r s' z=>?_;cases r with
 | error ev=>exact z
 | ok fl=>
  cases fl with
  | ret v=>cases v <;> exact z
  | _=>exact z
end
def Qo{M:Model}{A:Around}{E:Tz}{env:Env}{nm q:Str}{C N:Addr}{bs bm:List Value}{hdct:Bool}{sn:List Str}{sub:List Value}{ab:Bool}{col:Option Bool}{dd:Option Addr}{k0 k1 k2 k3 k5:Option Value}{newId:String}{s:Shared}{x:Sem Value}{Q:Flow->Shared->Prop}(hb:bm.contains (.type "BaseException")=true)(hh:A.handled=none)
  (h:wpAny M A x (fun v s₁=>∃e oe,v=.ref e/\s₁.heap.get? C=some (excClassObj nm q C N bs bm hdct sn sub ab col dd k0 k1 k2 k3 k5 newId)/\s₁.heap.get? e=some oe/\oe.cls=.ref C/\(∃t,oe.data=.fields #[.ref t,.none,.none,.none,.bool false,.none])/\E (.ref e) s₁) E s):
  wpAny M A (raiseStmt env (some x) none) Q E s:=by
 have cB:(Value.ref C::bm).contains (.type "BaseException")=true:=by rw[List.contains_cons,hb,Bool.or_true]
 unfold raiseStmt;refine wAa (wCa h (fun v s₁ h₁=>?_) fun _ _ x=>x);obtain⟨e,oe,rfl,hC,he,hc,⟨vs,hd⟩,hE⟩:=h₁;obtain⟨hp,g,d,tk,os⟩:=s₁;obtain⟨oc,od,odt,osl⟩:=oe;dsimp only at hc hd;subst hc hd
 repeat (first | with_reducible refine wpAny_loadPart_at he ?_ | with_reducible refine wpAny_loadPart_at hC ?_ | (with_reducible refine wpAny_isSubtype_exc hC ?_;rw[cB]) | wp_step)
 exact wpAny_raiseNew_none hh hE
set_option tactic.hygienic true in
theorem ci{K:uXa}{h:Heap}{N:Addr}{m:Tj}{n:Str}{v:Value}(X:K.In h)(G:h.Ns N m)(e:PySem.W.nsIn K N n=some (some v)):m n=some v:=by
 obtain⟨o,es,ep,ho,hd,_,hf⟩:=G;unfold PySem.W.nsIn at e;split at e
 ·rename_i c d es' n' sl q;have z:=X _ _ q;rw[ho]at z;cases z;cases hd;split at e
  ·rename_i en he;cases e;rw[<-hf];unfold nsFind findBy;rw[<-Array.find?_toList,he];rfl
  ·split at e <;> cases e
 ·cases e
noncomputable def VB(K:uXa)(C:Addr)(bmB:List Value)(newId:String)(fi:Addr):Bool:=match K.lookup C with
 | some ⟨.type "type",_,.cls cd,sl⟩=>(match cd.mro,sl.toList with
  | .ref C'::bm,[_,_,_,_,some (.builtin n),_]=>C'==C&&(n==newId&&(!cd.hasDel&&(PySem.W.tailIn K bmB bm&&(PySem.W.nsOkIn K cd.ns&&PySem.W.nsIn K cd.ns "__init__" == some (some (.ref fi))))))
  | _,_=>false)
 | _=>false
set_option tactic.hygienic true in
theorem aS{K:uXa}{h:Heap}{C fi:Addr}{bmB:List Value}{nid:String}(X:K.In h)(q:VB K C bmB nid fi=true):
  ∃bm N nm q bs hdct sn sub ab col dd k0 k1 k2 k3 k5 mN,h.get? C=some (excClassObj nm q C N bs bm hdct sn sub ab col dd k0 k1 k2 k3 k5 nid)/\h.Ns N mN/\mN "__init__" = some (.ref fi)/\OwnTail h bmB bm:=by
 unfold VB at q;split at q
 ·rename_i dd cl slots hobj;split at q
  ·rename_i C1 tl x0 x1 x2 x3 nn x5 hmro hslots;simp only[Bool.and_eq_true,beq_iff_eq,Bool.not_eq_true']at q;obtain⟨rfl,rfl,z1,z2,z3,z4⟩:=q;obtain⟨c1,c2,c3,c4,c5,c6,c7,c8,c9,c10,c11⟩:=cl;dsimp only at hmro z1 z3 z4;subst hmro z1;have e:slots=#[x0,x1,x2,x3,some (.builtin nn),x5]:=by obtain⟨l⟩:=slots;simp only at hslots;rw[hslots]
   subst e;have G:h.Ns c4 (h.nsMap c4):=.of_isNs (PySem.W.isNs_of_in X z3);exact⟨tl,c4,c1,c5,c2,c6,c7,c8,c9,c10,dd,x0,x1,x2,x3,x5,_,X _ _ hobj,G,ci X G z4,PySem.W.tail_of_in X z2⟩
  ·cases q
 ·cases q
def bD(C:Addr)(fs:List Str):Sp:=fun vs H Q _=>∃e vs',vs=.ref e::vs'/\vs'.length=fs.length/\H e=some (xE C e none)/\∀dx,H dx=none->dx≠e->Q .non (upd (upd H dx (xW dx (fs.zip vs').reverse)) e (xE C e (some dx)))
section
variable {P:Program} {w:World} {K:uXa} {mg:Tj} {base:Heap} {x qual:Str} {st:Stmt} {f C:Addr} {fd:FuncData} {k:Nat} {a0 a1 a2 f1 f2:Str} {p1 p2 p3 p4 q1 q2 q3 q4:Pos}
def FY(F:Fun K x qual st f fd)(S:FnScope [a0,a1,a2] [a0,a1,a2] (defScope st))
  (hb:defBody st=[.Assign [.Attribute (.Name a0 p1) f1 p2] (.Name a1 p3) p4,.Assign [.Attribute (.Name a0 q1) f2 q2] (.Name a2 q3) q4]) (c1:ExS K C f1) (c2:ExS K C f2) (hf:f1≠f2) (v0:Gx (defScope st) a0) (v1:Gx (defScope st) a1) (v2:Gx (defScope st) a2)
  (d0:(a0==("__debug__" : Str))=false) (d1:(a1==("__debug__" : Str))=false) (d2:(a2==("__debug__" : Str))=false) (e0:(a0==("__classdict__" : Str))=false) (e1:(a1==("__classdict__" : Str))=false) (e2:(a2==("__classdict__" : Str))=false):
  FnOk P w K mg base Y4 (k+1) f fd [a0,a1,a2] (bD C [f1,f2]):=by
 refine F.ok S (fun vs H Q E xx=>?_) fun cdv A outer s H vs Q E hr xx=>?_
 ·obtain⟨e,vs',z,l,_⟩:=xx;rw[z,vXa,l];rfl
 ·obtain⟨e,vs',z,l,he,q⟩:=xx;obtain⟨y1,y2,rfl⟩:∃y1 y2,vs'=[y1,y2]:=by
   match vs',l with
   | [y1,y2],_=>exact⟨y1,y2,rfl⟩
  subst z;rw[hb];refine⟨_,KS (eB (uR (i:=0) rfl v0 d0 e0) (uR (i:=1) rfl v1 d1 e1) rfl) (WN (eB (uR (i:=0) rfl v0 d0 e0) (uR (i:=2) rfl v2 d2 e2) rfl)),?_⟩;refine⟨y1,rfl,.ref e,rfl,e,C,rfl,c1,.inl ⟨he,fun dx n1 n2=>?_⟩⟩;refine⟨y2,rfl,.ref e,rfl,e,C,rfl,c2,.inr ⟨dx,[(f1,y1)],jw,by rw[jh n2,jw],n2.symm,(by show 1 < 1000;decide),fun p hp=>by rw[List.mem_singleton.mp hp];exact hf,?_⟩⟩;have e9:upd (upd (upd H dx (xW dx [(f1,y1)])) e (xE C e (some dx))) dx (xW dx [(f2,y2),(f1,y1)])=upd (upd H dx (xW dx [(f2,y2),(f1,y1)])) e (xE C e (some dx)):=by
   funext b;by_cases z:b=dx
   ·subst z;rw[jw,jh n2,jw]
   ·by_cases y:b=e
    ·subst y;rw[jh z,jw,jw]
    ·rw[jh z,jh y,jh z,jh y,jh z]
  show Q .non (upd (upd (upd H dx (xW dx [(f1,y1)])) e (xE C e (some dx))) dx (xW dx [(f2,y2),(f1,y1)]));rw[e9];exact q dx n1 n2
end
section
variable {P:Program} {w:World} {K:uXa} {mg:Tj} {base:Heap} {N:List Str} {qual:Str} {scope:Scope} {f:Addr} {cd:Value} {A:Around} {outer:List Env} {s0:Shared} {H0:Hp} {E:XK}
theorem xL{x:Str}{np cpos pos:Pos}{a:Expr}{es:List Expr}{C fi:Addr}{bmB:List Value}{B newId initId:String}{fd:FuncData}{k:Nat}{ps:List Str}{fs:List Str}{ta:TA}
  (ens:PySem.W.nsIn K mainGlobals x=some (some (.ref C))) (exi:VB K C bmB newId fi=true) (FB:ExcBaseFacts B newId initId bmB) (kp:PySem.W.keepIn K (.ref C)=true) (ft:PySem.W.typeIn K (.ref fi)=some (.type "function"))
  (FI:FnOk P w K mg base Y4 k fi fd ps (bD C fs)) (hz:fs.length<=1000) (hps:ps.length=fs.length+1) (hb:JX K fd ps []) (hr:Room (k+1) (A.deeper (envOfC qual scope s0.heap.objs.size f cd)))
  (hg:Gl (Js (yu P w) P w K mg base N qual scope f cd A outer s0 H0 E) x) (hd:(x==("__debug__" : Str))=false)
  (ha:PA (Js (yu P w) P w K mg base N qual scope f cd A outer s0 H0 E) (a::es) ta)
  (he:starEach (a::es) (envOfC qual scope s0.heap.objs.size f cd)=(false,eval a (envOfC qual scope s0.heap.objs.size f cd))::starEach es (envOfC qual scope s0.heap.objs.size f cd)) (hpl:(backTo cpos (starEach es (envOfC qual scope s0.heap.objs.size f cd))).any (·.1)=false):
  PS (Js (yu P w) P w K mg base N qual scope f cd A outer s0 H0 E) (.Raise (some (.Call (.Name x np) (a::es) [] cpos)) none pos) (fun _ U H=>ta U H fun vs H1=>vs.length=fs.length/\∀dx,H1 dx=none->E (.ref C) (some dx) (upd H1 dx (xW dx (fs.zip vs).reverse))):=by
 intro pins s U H D I h;have hh:(A.deeper (envOfC qual scope s0.heap.objs.size f cd)).handled=none:=I.ok.hd rfl;obtain⟨bm,N',nm,q,bs,hdct,sn,sub,ab,col,dd,k0,k1,k2,k3,k5,mN,hC,hn,hni,T⟩:=aS I.mod.kin exi;have hm:=PySem.W.mg_of I.mod.kin I.mod.glob ens;show wpAny (model P w) (A.deeper (envOfC qual scope s0.heap.objs.size f cd)) (exec _ (envOfC qual scope s0.heap.objs.size f cd)) _ _ s;rw[arm_exec_Raise];refine wAa (vOa (Qo (nm:=nm) (q:=q) (C:=C) (N:=N') (bs:=bs) (bm:=bm) (hdct:=hdct) (sn:=sn) (sub:=sub) (ab:=ab) (col:=col) (dd:=dd) (k0:=k0) (k1:=k1) (k2:=k2) (k3:=k3) (k5:=k5) (newId:=newId) (T.hasType FB.hasBase) hh ?_));refine wAa (wCa ?_ (fun v s3 h3=>wAa (vOa (wBa h3))) fun _ _ z=>z);refine wpAny_Call_Name_kw (zH I hg hm ?_ hd);refine PySem.W.callWith_K (h₀:=base) I.ok.mod.kin kp (wCa (ha cpos pins s U H _ I h) (fun us s1 ⟨vs,H1,I1,r,q1,qE⟩=>⟨I1.kIn,?_⟩) fun _ _ z=>z) he hpl;have hl:us.length=fs.length:=by rw[<-r.length];exact q1
 have I2a:=I1.kept (h':=s1.heap.push (Ui us)) (t':=s1.toks) fun b u q=>wIa _ q;have I2:=I2a.laid (a:=s1.heap.objs.size+1) (o:=xE C (s1.heap.objs.size+1) none) (h':=(s1.heap.push (Ui us)).push (Uj C s1.heap.objs.size)) (t':=s1.toks) (fun b u q=>wIa _ q) (Nat.le_of_eq (Heap.size_push _ _)) (bC (t:=s1.heap.objs.size) (by heap_get));have f1':H1 (s1.heap.objs.size+1)=none:=I1.hok.fresh (vMa _);have r2:jp (V.ref (s1.heap.objs.size+1)::vs) (Value.ref (s1.heap.objs.size+1)::us):=.cons rfl r;have hbd:=hb { s1 with heap:=(s1.heap.push (Ui us)).push (Uj C s1.heap.objs.size) } (Value.ref (s1.heap.objs.size+1)::us) I2.kIn (by rw[uFa,vXa,hl,hps]);rw[uFa]at hbd;have hsp:bD C fs (.ref (s1.heap.objs.size+1)::vs) (upd H1 (s1.heap.objs.size+1) (xE C (s1.heap.objs.size+1) none)) (fun v H'=>v=.non/\∃dx,H1 dx=none/\dx≠s1.heap.objs.size+1/\H'=upd (upd (upd H1 (s1.heap.objs.size+1) (xE C (s1.heap.objs.size+1) none)) dx (xW dx (fs.zip vs).reverse)) (s1.heap.objs.size+1) (xE C (s1.heap.objs.size+1) (some dx))) E:=
  ⟨_,vs,rfl,q1,jw,fun dx n1 n2=>⟨rfl,dx,by rw[jh n2]at n1;exact n1,n2,rfl⟩⟩
 refine xK FB (T.keeps I1.bk) (I1.bk _ _ hC) (hn.keeps I1.bk) hni (by show us.length<=sizeLine;rw[hl,sizeLine_eq];omega) (fun h' kk self=>PySem.W.bind_fn (I1.kIn.keeps kk) self ft) (codeAny_mono (FI.run _ _ _ _ ⟨Value.ref (s1.heap.objs.size+1)::us,[]⟩ (Value.ref (s1.heap.objs.size+1)::us) _ _ E (hr.make C us []) (I2.env0.make C us []) hbd r2 hsp) fun r s' hq'=>?_);cases r with
 | error ev=>exact False.elim hq'
 | ok fl=>
  cases fl with
  | ret v=>
   obtain⟨v',H',I3,rv,rfl,dx,n1,n2,rfl⟩:=I2.after hq';obtain rfl:v=Value.none:=rv;have ee:upd (upd (upd H1 (s1.heap.objs.size+1) (xE C (s1.heap.objs.size+1) none)) dx (xW dx (fs.zip vs).reverse)) (s1.heap.objs.size+1) (xE C (s1.heap.objs.size+1) (some dx)) (s1.heap.objs.size+1)=some (xE C (s1.heap.objs.size+1) (some dx)):=jw;obtain⟨⟨t,hx⟩,_⟩:=I3.hok _ _ ee;have h1:upd H1 dx (xW dx (fs.zip vs).reverse) (s1.heap.objs.size+1)=none:=by rw[jh n2.symm];exact f1'
   refine⟨_,_,rfl,I3.bk _ _ hC,hx,rfl,⟨t,rfl⟩,qe (od:=some dx) (H1:=upd H1 dx (xW dx (fs.zip vs).reverse)) (t:=t) I3 hx rfl rfl (Heap.get?_none_of_le (Nat.le_succ_of_le I1.sz)) h1 (fun b=>?_) (fun d z=>z) (qE dx n1)⟩;by_cases y:b=s1.heap.objs.size+1
   ·subst y;exact .inr ⟨h1,_,ee⟩
   ·by_cases z:b=dx
    ·subst z;exact .inl (by rw[jw,jh y,jw])
    ·exact .inl (by rw[jh z,jh y,jh z,jh y])
  | next=>exact False.elim hq'
  | brk=>exact False.elim hq'
  | cont=>exact False.elim hq'
end
end L2
set_option maxHeartbeats 200000
namespace L2
open PySem PySem.Spec PyProof.Rows PySem.W Builtin
theorem wO:∀{l:List Value},Uh l=true->l.contains (.type "BaseException")=true
 | .ref c::r,e=>by rw[List.contains_cons,wO (l:=r) e,Bool.or_true]
 | [],e=>by cases e
 | .type a::r,e=>by rw[eq_of_beq (show(Value.type a::r==_)=true from e)];decide
def cj:builtinKind "BaseException.__getattribute__" = some .slot:=by decide +kernel
def aU:splitId "BaseException.__getattribute__" = some ("BaseException", "__getattribute__"):=by decide +kernel
def aV:plainId "BaseException.__getattribute__" = true:=by decide +kernel
section
variable {prog:Program} {w:World} {A:Around} {E:Tz} {s:Shared} {K:Frag} {x C:Addr} {ox:Obj} {od:Option Obj} {name:Str} {v:Value} {expr:Bool} {Q:Tz}
def ck(X:K.In s.heap)(I:InstAt s.heap x ox C od)(hga:findIn K (.ref C) "__getattribute__" = some (some (.builtin "BaseException.__getattribute__")))(hgn:findIn K (.ref C) "__getattr__" = some none)(hp:YU K C=true)
  (hf:findObj K C od name=some (.value v)) (hh:handedIn v=true) (h:Q v { s with toks:=s.toks+1 }):wpAny (model prog w) A (getAttr (.ref x) name expr) Q E s:=by
 obtain⟨hp',g,d,t,os⟩:=s;have L0:=I.type (M:=model prog w);have L1:=looks_findIn (M:=model prog w) X hga;have L2:=looks_findIn (M:=model prog w) X hgn;have L3:=looks_find (M:=model prog w) X I hf;obtain⟨cd,hc,ho⟩:=any_some hp;have ne:cd.mro.isEmpty=false:=by cases q:cd.mro with | nil=>rw[q]at ho;cases ho | cons _ _=>rfl
 have sub:Looks (model prog w) hp' (isInstance (.ref x) (.type "BaseException")) true:=I.type.andThen (looks_mroIn X (by unfold mroIn;rw[hc,uEa,if_neg (by rw[ne];decide),wO ho]));unfold getAttr getAttrBy;refine wAa (wpAny_mkText (wDa (wAa (L0.at (wAa (L1.at ?_))))));show wpAny _ _ (getAttrByItsOwn _ _ _ _ _ _) _ _ _;unfold getAttrByItsOwn;refine wAa ((show Looks (model prog w) hp' (hookBefore (.ref C)) none from L2).at ?_);refine wAa (wpAny_attempt (wDa ?_));have e0:(expr&&onTheHeap (Value.builtin "BaseException.__getattribute__"))=false:=by cases expr <;> rfl
 unfold callGetattribute;rw[e0];show wpAny _ _ (boundAndCalled _ _ _) _ _ _;unfold boundAndCalled;rw[PySem.F.attr_ValueError.ga.bind (.ref x)];refine wAa (wBa ?_);show wpAny _ _ (call (.builtin "BaseException.__getattribute__") [.ref x,.str name t]) _ _ _;refine wHa (codeAny_call_builtin aV F.entry_bexc_ga (@check_slot (model prog w) _ _ _ "BaseException.__getattribute__" "BaseException" "__getattribute__" (.ref x) [.str name t] [] _ cj aU sub (F.args_bexc_ga _ _) ?_));unfold Builtin.«object.__getattribute__»;have e1:slotArgs "__getattribute__" 1 { pos:=[Value.ref x,Value.str name t] }=pure (Value.ref x,[Value.str name t]):=rfl;have e2:ObjectAttr.attrName (Value.str name t)=pure name:=rfl;rw[e1];refine wAa (wBa ?_);dsimp only;rw[e2];refine wAa (wBa (wAa (L0.at (wAa (L3.at ?_)))));refine wBa ?_;show wpAny _ _ (handedOut v) _ _ _;rw[handedOut_of hh];exact wBa h
end
end L2
set_option maxHeartbeats 400000
namespace L2
open PySem PySem.Spec PyProof.Rows PySem.W
structure ExG (K:Frag) (C:Addr) (f:Str):Prop where
 ga:findIn K (.ref C) "__getattribute__" = some (some (.builtin "BaseException.__getattribute__"))
 gn:findIn K (.ref C) "__getattr__" = some none
 eo:YU K C=true
 hd:hasDictIn K C=true
 nf:findIn K (.ref C) f=some none
section
variable {X:Cx} {o:Expr} {ta:TE} {f:Str} {pos:Pos}
def II(K:Frag)(ta:TE)(f:Str):TE:=fun U H Q=>ta U H fun x H1=>∃e C dx fv v,x=.ref e/\H1 e=some (xC e C (some dx))/\H1 dx=some (xW dx fv)/\(f,v)∈fv/\ExG K C f/\Q v H1
def eD(he:PE X o ta)(hb:attributeBase o f X.env (eval o X.env)=eval o X.env):PE X (.Attribute o f pos) (II X.K ta f):=by
 intro pins s U H Q I h;refine ve hb (jv (he pins s U H _ I h) fun u s1 xx=>?_);obtain⟨x,H1,I1,rx,e,C,dx,fv,v,ex,hp,hx,hf,c,q⟩:=xx;subst ex;obtain rfl:u=Value.ref e:=rx;obtain⟨⟨oe,hpe,hc,hnc,hd⟩,_⟩:=I1.hok e _ hp
 replace hd:=hd dx rfl
 obtain⟨⟨mA,hn,hw,hu⟩,_⟩:=I1.hok dx _ hx;obtain⟨uv,hu,hr⟩:=hu _ hf;obtain⟨od,ho,hl⟩:=Ka hn;obtain⟨oc,odt,oda,osl⟩:=oe;dsimp only at hc hd;subst hc hd;have J:InstAt s1.heap e ⟨.ref C,some dx,oda,osl⟩ C (some od):=⟨hpe,rfl,hnc,ho⟩
 exact ck I1.kIn J c.ga c.gn c.eo (findObj_own c.hd c.nf rfl (by rw[hl,hu])) (Kb hr) ⟨v,H1,I1.tok _,hr,q⟩
end
end L2
namespace DS
open PySem PySem.Spec PyProof.Rows L2
def PX(K:Fr)(E:XK)(p:Xp)(H:Hp):Prop:=match p.2 with
 | []=>E (.ref (jG K p.1)) none H
 | _::_=>∀dx,H dx=none->E (.ref (jG K p.1)) (some dx) (upd H dx (xW dx p.2))
inductive Rx where
 | ok (d:D) | xc (p:Xp)
abbrev DX:=jk->Option Rx
def eE(K:Fr)(E:XK)(H0 H:Hp)(O:List Addr)(Q:VK):Rx->Prop
 | .ok d=>∀v H',j5 H H'->j8 K (je H' O) d v->Q v H'
 | .xc p=>∀H',j5 H0 H'->PX K E p H'
def tX(K:Fr)(E:XK)(dx:DX):TE:=fun U H Q=>∃H0 O0 Z O r,Rel K H0 O0 Z U H O/\dx Z=some r/\eE K E H0 H O Q r
def Ko(K:Fr)(ks:List Bool)(F:List D->Option Rx):Sp:=fun vs H Q E=>∃O ds r,(∀a∈O,H a≠none)/\yx K O H ks ds vs/\F ds=some r/\eE K E H H O Q r
@[simp] noncomputable def xM(F:List D->Option Rx)(ds:List D):Option D:=(F ds).bind fun r=>match r with
 | .ok d=>some d
 | _=>none
@[simp] def Zj(ks:List Bool)(n:Nat)(body:DS)(ds:List D):Option Rx:=(body (Zv ks ds n)).bind fun r=>match r with
 | .rt d=>some (.ok d)
 | .rf o=>some (.ok o.toD)
 | .nx _=>some (.ok .non)
 | .xc p=>some (.xc p)
 | _=>none
@[simp] def J4(F:List D->Option Rx)(l:DA)(Z:jk):Option Rx:=(zb l Z).bind F
@[simp] noncomputable def ya(dx:DX)(k:D->DS)(Z:jk):Option Rs:=(dx Z).bind fun r=>match r with
 | .ok d=>k d Z
 | .xc p=>some (.xc p)
section
variable {P:Program} {w:World} {K:Fr} {mg:Tj} {base:Heap} {x qual:Str} {st:Stmt} {f:Addr} {fd:FuncData} {N ps:List Str} {k n:Nat} {ks:List Bool} {body:DS} {F:List D->Option Rx}
def FZ(Fu:Fun K x qual st f fd)(S:FnScope N ps (defScope st))(hk:ks.length=ps.length)(hn:N.length - ps.length=n)
  (hb:∀(cdv:Value) (A:Around) (outer:List Env) (s:Shared) (H:Hp) (E:XK),Room k (A.deeper (envOfC qual (defScope st) s.heap.objs.size f cdv))->Ji (Js (yu P w) P w K mg base N qual (defScope st) f cdv A outer s H E) (defBody st) (tS K (PX K E) body)):
  FnOk P w K mg base (yu P w) (k+1) f fd ps (Ko K ks (Zj ks n body)):=by
 obtain⟨oc,od,kV,doc,pm,an,cdv,ct,osl,rfl,lk,hcd⟩:=Fu.ex;refine AR lk hcd S (fun vs H Q E h=>?_) fun A outer s H vs Q E hr h=>?_
 ·obtain⟨O,ds,d,_,ak,_⟩:=h;have:=ak.len
  lia
 ·obtain⟨O,ds,r0,al,ak,e,q⟩:=h;refine⟨_,hb cdv A outer s H E hr,?_⟩;obtain⟨r,e1,e2⟩:=j1 e;have hl:N.length - vs.length=n:=by have:=ak.len;lia
  unfold L2.YE;rw[hl];refine⟨H,O,_,O,r,Qe ak al,e1,?_⟩;cases r with
  | rt d'=>cases e2;exact fun v H' s r=>q v H' s r
  | rf o=>
   cases e2;exact fun l H' s hl ow=>q _ H' s ((ow.same (fun _ z=>z) (JP fun a h=>wMa _ h)).rep fun u z=>by rw[j_ (fun y=>al l y hl)];exact z)
  | nx Z=>cases e2;exact fun U' H' O' R' _=>q _ H' R'.keep (by rw[j8])
  | xc p=>cases e2;exact q
  | bk Z=>cases e2
  | ct Z=>cases e2
def lr{K':Fr}(G:FnOk P w K' mg base (yu P w) k f fd ps (Ko K ks F)):FnOk P w K' mg base Y4 k f fd ps (Vx K ks (xM F)):=by
 have key:∀{vs:List V} {H:Hp} {Q:VK} {E:XK},Vx K ks (xM F) vs H Q E->Ko K ks F vs H Q fun _ _ _=>False:=fun h=>by
  obtain⟨O,ds,d,al,ak,e,q⟩:=h;obtain⟨r,e1,e2⟩:=j1 e;cases r with
  | ok d'=>cases e2;exact⟨O,ds,_,al,ak,e1,q⟩
  | xc p=>cases e2
 refine⟨fun vs H Q E h=>G.len vs H Q _ (key h),fun A outer s H args us vs Q E hr he hb hv hs=>codeAny_mono (G.run A outer s H args us vs Q _ hr he hb hv (key hs)) fun r s' z=>?_⟩;cases r with
 | ok fl=>cases fl <;> exact z
 | error ev=>
  obtain⟨_,_,_,_,_,_,_,z⟩:=z;exact z.elim
end
section
variable {X:Cx} {K:Fr} {E:XK} {e:Expr} {es:List Expr} {st:Stmt} {pos:Pos} {dx:DX} {i kk:Nat} {g:DG}
theorem eF{k:Nat}{f:Addr}{fd:FuncData}{ps:List Str}{ks:List Bool}{x:Str}{p:Pos}{l:DA}{F:List D->Option Rx}(G:FnOk X.prog X.w X.K X.mg X.base (yu X.prog X.w) k f fd ps (Ko K ks F))(hr:Room k X.A)(hm:X.mg x=some (.ref f))(hk:PySem.W.keepIn X.K (.ref f)=true)(hb:JX X.K fd ps [])
  (hx:za (yu X.prog X.w) X E) (ha:PA X (e::es) (Yp K l)) (hks:l.map (·.1)=ks) (hg:Gl X x) (hdb:(x==("__debug__" : Str))=false) (he:starEach (e::es) X.env=(false,eval e X.env)::starEach es X.env) (hpl:(backTo pos (starEach es X.env)).any (·.1)=false):
  PE X (.Call (.Name x p) (e::es) [] pos) (tX K E (J4 F l)):=jD (WQ G hr hg hm hk hb .nil hx ha hdb he hpl) fun U H Q xx=>by
 obtain⟨H0,O0,Z,O,r,R,ed,q⟩:=xx;subst hks;obtain⟨ds,e1,e2⟩:=j1 ed;refine⟨H0,O0,Z,O,ds,R,e1,fun vs H1 s1 r1=>?_⟩
 (try dsimp only)
 rw[uFa];refine⟨O,ds,r,(R.grow s1).al,r1,e2,?_⟩;cases r with
 | ok d=>exact fun v H' s r=>q v H' (s1.trans s) r
 | xc p=>exact fun H' s=>q H' ((R.grow s1).keep.trans s)
def eG(h:PS X st (zI (tX K E dx) (ZR i))):PS X st (tS K (PX K E) (ya dx fun d Z=>some (.nx (Z.set i (.cl d))))):=Jr h fun D U H xx=>by
 obtain⟨H0,O0,Z,O,r,R,ed,f⟩:=xx;obtain⟨r',e1,e2⟩:=j1 ed;refine⟨H0,O0,Z,O,r',R,e1,?_⟩;cases r' with
 | ok d=>cases e2;exact fun v H' s q=>f _ H' O ((R.grow s).set q i) (jm s)
 | xc p=>cases e2;exact f
def cq(h:PS X st (Gy (tX K E dx))):PS X st (tS K (PX K E) (ya dx fun _ Z=>some (.nx Z))):=Jr h fun D U H xx=>by
 obtain⟨H0,O0,Z,O,r,R,ed,f⟩:=xx;obtain⟨r',e1,e2⟩:=j1 ed;refine⟨H0,O0,Z,O,r',R,e1,?_⟩;cases r' with
 | ok d=>cases e2;exact fun v H' s q=>f _ H' O (R.grow s) (jm s)
 | xc p=>cases e2;exact f
def eH(h:PE X e (tX K E dx)):PS X (.Return (some e) pos) (tS K (PX K E) (ya dx fun d _=>some (.rt d))):=Jr (Gz h) fun D U H xx=>by
 obtain⟨H0,O0,Z,O,r,R,ed,f⟩:=xx;obtain⟨r',e1,e2⟩:=j1 ed;refine⟨H0,O0,Z,O,r',R,e1,?_⟩;cases r' with
 | ok d=>cases e2;exact fun v H' s q=>f v H' (R.keep.trans s) (q.same (JP R.sub))
 | xc p=>cases e2;exact f
noncomputable def HG:D->Option V
 | .int i=>some (.int i)
 | .str x=>some (.str x)
 | _=>none
def Qp:List D->Option (List V)
 | []=>some []
 | d::ds=>(HG d).bind fun v=>(Qp ds).bind fun vs=>some (v::vs)
theorem bE{O:List Addr}{H:Hp}:∀{ks:List Bool} {ds:List D} {vs ws:List V},yx K O H ks ds vs->Qp ds=some ws->vs=ws
 | [],[],[],_,_,e=>by cases e;rfl
 | k::ks,d::ds,v::vs,_,h,e=>by
  obtain⟨y,e1,e⟩:=j1 e;obtain⟨ys,e2,e⟩:=j1 e;cases e;rw[bE h.2 e2];have h1:RB K O H d v:=by
   cases k
   ·exact h.1
   ·exact .inl h.1
  cases d <;> cases e1
  ·rw[h1.int]
  ·rw[h1.str]
 | [],[],_::_,_,h,_=>h.elim
 | [],_::_,_,_,h,_=>h.elim
 | _::_,[],_,_,h,_=>h.elim
 | _::_,_::_,[],_,h,_=>h.elim
@[simp] noncomputable def wP(c:Str)(_:jk):Option Rs:=some (.xc (c,[]))
@[simp] def aW(c:Str)(fs:List Str)(l:DA)(Z:jk):Option Rs:=(zb l Z).bind fun ds=>(Qp ds).bind fun vs=>if vs.length=fs.length/\fs≠[]then some (.xc (c,(fs.zip vs).reverse))else none
def IJ{c:Str}(h:PS X st (fun _ _ H=>E (.ref (jG K c)) none H)):PS X st (tS K (PX K E) (wP c)):=Jr h fun D U H xx=>by
 obtain⟨H0,O0,Z,O,r,R,ed,f⟩:=xx;cases ed;exact f H R.keep
def F_{c:Str}{fs:List Str}{l:DA}(h:PS X st (fun _ U H=>Yp K l U H fun vs H1=>vs.length=fs.length/\∀dx,H1 dx=none->E (.ref (jG K c)) (some dx) (upd H1 dx (xW dx (fs.zip vs).reverse)))):PS X st (tS K (PX K E) (aW c fs l)):=Jr h fun D U H xx=>by
 obtain⟨H0,O0,Z,O,r,R,ed,f⟩:=xx;obtain⟨ds,e1,ed⟩:=j1 ed;obtain⟨ws,e2,ed⟩:=j1 ed;by_cases hz:ws.length=fs.length/\fs≠[]
 ·rw[if_pos hz]at ed;cases ed;refine⟨H0,O0,Z,O,ds,R,e1,fun vs H1 s1 r1=>?_⟩;have:=bE r1 e2;subst this;have f1:=f H1 (R.grow s1).keep;unfold PX at f1;refine⟨hz.1,?_⟩;dsimp only at f1;split at f1
  ·have e0:=congrArg List.length (by assumption:(fs.zip vs).reverse=[]);rw[List.length_reverse,List.length_zip,hz.1,Nat.min_self]at e0;exact vDa (List.length_eq_zero_iff.mp e0) hz.2
  ·exact f1
 ·rw[if_neg hz]at ed;cases ed
end
def Rel.un{K:Fr}{H0 H:Hp}{O0 O:List Addr}{Z:jk}{U:L2.St}(R:Rel K H0 O0 Z U H O)(i:Nat)(v:Option V):Rel K H0 O0 (Z.set i .un) (U.set i v) H O where
 len:=by rw[List.length_set,List.length_set];exact R.len
 lo:=R.lo.up (fun j ls e=>U8 (by intro _ z;cases z) e) (fun a _ z=>gO (by intro _ _ z;cases z) R.len z) (fun a h _=>⟨h,fun u z=>z⟩) (j5.refl _)
 sub:=R.sub
 fr:=R.fr
 al0:=R.al0
 al:=R.al
 keep:=R.keep
 cl:=fun j d' e=>by
  rcases jI e with⟨rfl,e',hi⟩ | ⟨ne,e'⟩
  ·cases e'
  ·rw[Jt ne];exact R.cl j d' e'
 bo:=fun j d' e=>by
  rcases jI e with⟨rfl,e',hi⟩ | ⟨ne,e'⟩
  ·cases e'
  ·rw[Jt ne];exact R.bo j d' e'
 ow:=fun j q' d' e=>by
  rcases jI e with⟨rfl,e',hi⟩ | ⟨ne,e'⟩
  ·cases e'
  ·rw[Jt ne];exact R.ow j q' d' e'
 dist:=fun j k q1 q2 ds es l e1 e2 s1 s2=>by
  rcases jI e1 with⟨rfl,e',hi⟩ | ⟨ne,e1'⟩
  ·cases e'
  ·rcases jI e2 with⟨rfl,e',hi⟩ | ⟨ne2,e2'⟩
   ·cases e'
   ·rw[Jt ne]at s1;rw[Jt ne2]at s2;exact R.dist j k q1 q2 ds es l e1' e2' s1 s2
section
variable {X:Cx} {K:Fr} {a:Expr} {da:DE} {pos p p2:Pos} {C f:Str} {ex:List Str}
theorem kQ{α:Type}{x:Str}{g:α}:∀{l:List (Str×α)},l.lookup x=some g->(x,g)∈l
 | [],h=>by cases h
 | (y,g')::r,h=>by
  rw[List.lookup_cons]at h;cases e:x==y
  ·rw[e]at h;exact wMa _ (kQ h)
  ·rw[e]at h;cases h;rw[eq_of_beq e];exact wNa
@[simp] noncomputable def kR(ex:List Str)(C:Str):D->Option D
 | .exn c _=>if ex.contains c=true then some (.bl (c==C))else none
 | _=>none
def hU{Cc:Addr}(ha:PE X a (tR K da))(hc:PE X (.Name C p2) (tC (.ref Cc)))(hg:Gl X "isinstance")(hm:X.mg "isinstance" = none)(he:starEach (a::[.Name C p2]) X.env=(false,eval a X.env)::starEach [.Name C p2] X.env)(hK:X.K=K)
  (hk:∀c∈ex,ExC K (jG K c)/\PySem.W.kitOne K (.ref (jG K c)) (.ref Cc)=some (c==C)):PE X (.Call (.Name "isinstance" p) [a,.Name C p2] [] pos) (tE K (d1 (kR ex C) da)):=
 jD (YQ aP hg hm PyProof.Rows.boot_isinstance (Jj ha (Jj hc yQ) he) (by decide) (by decide) he) fun U H Q xx=>by
  obtain⟨H0,O0,Z,O,d,R,ed,q⟩:=xx;obtain⟨x,e1,e2⟩:=j1 ed;refine⟨H0,O0,Z,O,x,R,e1,fun v H1 s1 r1=>?_⟩;cases x with
  | exn c fv=>
   have e2:(if ex.contains c=true then some (D.bl (c==C))else none)=some d:=e2;split at e2
   ·cases e2;have r2:=r1.full;rw[j8]at r2;obtain⟨e,od,rfl,h1,_⟩:=r2;obtain⟨k1,k2⟩:=hk c (List.contains_iff_mem.mp (by assumption));subst hK;exact⟨e,_,od,_,_,_,rfl,(fun u r=>r),h1,k1,k2,q _ H1 s1 (by rw[j8])⟩
   ·cases e2
  | _=>cases e2
noncomputable def eI:V->Option D
 | .int i=>some (.int i)
 | .str x=>some (.str x)
 | _=>none
@[simp] def Qq(xf:List (Str×Str))(f:Str):D->Option D
 | .exn c fv=>if xf.contains (c,f)=true then(fv.lookup f).bind eI else none
 | _=>none
def hV{xf:List (Str×Str)}(ha:PE X a (tR K da))(hb:attributeBase a f X.env (eval a X.env)=eval a X.env)(hK:X.K=K)(hk:∀p∈xf,ExG K (jG K p.1) p.2):PE X (.Attribute a f pos) (tE K (d1 (Qq xf f) da)):=
 jD (eD ha hb) fun U H Q xx=>by
  obtain⟨H0,O0,Z,O,d,R,ed,q⟩:=xx;obtain⟨x,e1,e2⟩:=j1 ed;refine⟨H0,O0,Z,O,x,R,e1,fun v H1 s1 r1=>?_⟩;cases x with
  | exn c fv=>
   have e2:(if xf.contains (c,f)=true then(fv.lookup f).bind eI else none)=some d:=e2;split at e2
   ·obtain⟨v,e3,e4⟩:=j1 e2;have hm:=kQ e3;have r2:=r1.full;rw[j8]at r2;obtain⟨e,od,rfl,h1,h2⟩:=r2;obtain⟨dx,rfl,h3⟩:=h2 (fun z=>by rw[z]at hm;cases hm);have k1:=hk (c,f) (List.contains_iff_mem.mp (by assumption));subst hK;refine⟨e,_,dx,fv,v,rfl,h1,h3,hm,k1,q _ H1 s1 ?_⟩;cases v <;> cases e4 <;> rw[j8]
   ·cases e2
  | _=>cases e2
end
structure Hd where
 cs:List Str
 no:List Str
 i:Nat
 d:DS
@[simp] noncomputable def lu(i:Nat):Rs->Rs
 | .nx Z=>.nx (Z.set i .un)
 | .bk Z=>.bk (Z.set i .un)
 | .ct Z=>.ct (Z.set i .un)
 | r=>r
def bG:List Hd->Xp->DS
 | [],_,_=>none
 | h::t,p,Z=>if h.cs.contains p.1=true then(if h.i < Z.length then(h.d (Z.set h.i (.cl (.exn p.1 p.2)))).bind fun r=>some (lu h.i r)else none)else if h.no.contains p.1=true then bG t p Z else none
def wQ(dx:DX)(db:DS)(hs:List Hd)(Z:jk):Option Rs:=match dx Z with
 | some (.xc p)=>bG hs p Z
 | _=>db Z
def wR(K:Fr)(Px:Xp->Hp->Prop)(hs:List Hd):TH:=fun cls od e D U H=>∃H0 O0 Z O p r,Rel K H0 O0 Z U H O/\cls=.ref (jG K p.1)/\(p.2≠[]->∃dx,od=some dx/\je H O dx=some (xW dx p.2))/\H e=none/\bG hs p Z=some r/\Fin K Px H0 O0 H O D r
noncomputable def xN(K:Fr)(dx:DX):GS:=fun U H Er=>∃H0 O0 Z O p,Rel K H0 O0 Z U H O/\dx Z=some (.xc p)/\∀H',j5 H H'->PX K Er p H'
section
variable {X:Cx} {K:Fr} {Px:Xp->Hp->Prop} {x n:Str} {np hpos tpos pos:Pos} {bd su:List Stmt} {b₀:Stmt} {h₀:ExceptHandler} {hs:List ExceptHandler} {Dc:Addr} {h:Hd} {t:List Hd} {dx:DX} {db:DS}
def eJ:PH X [] (wR K Px []):=fun _ _ _ _ _ _ _ _ _ xx=>by
 obtain⟨_,_,_,_,_,_,_,_,_,_,z,_⟩:=xx;cases z
def cr(hNd:X.N.Nodup)(hi:X.N[h.i]?=some n)(hln:X.env.kindOf n=some .local)(hgx:Gl X x)(hmx:X.mg x=some (.ref Dc))(hdx:(x==("__debug__" : Str))=false)(hK:X.K=K)
  (h1:∀c∈h.cs,PySem.W.exmOne K (.ref (jG K c)) (.ref Dc)=some true) (h2:∀c∈h.no,PySem.W.exmOne K (.ref (jG K c)) (.ref Dc)=some false)
  (hu:∀e,Ji (X.sui e) (b₀::su) (tS K Px h.d)) (hr:PH X hs (wR K Px t)):PH X (.ExceptHandler (some (.Name x np)) (some n) (b₀::su) hpos::hs) (wR K Px (h::t)):=fun pins U H e cls od s D L xx=>by
 refine FX (i:=h.i) (u:=tS K Px h.d) (th:=wR K Px t) hNd hi hln hgx hmx hdx hu hr pins U H e cls od s D L ?_;obtain⟨H0,O0,Z,O,p,r,R,rfl,hp,he,ed,f⟩:=xx;rw[hK];unfold bG at ed;by_cases hc:h.cs.contains p.1=true
 ·rw[if_pos hc]at ed;refine⟨true,h1 _ (List.contains_iff_mem.mp hc),?_⟩;rw[if_pos rfl];by_cases hl:h.i < Z.length
  ·rw[if_pos hl]at ed;obtain⟨r',e1,e2⟩:=j1 ed;cases e2;refine⟨_,rfl,H0,O0,_,O,r',?_,e1,?_⟩
   ·have su:=jQ he (xC e (jG K p.1) od);refine(R.grow su).set (d:=.exn p.1 p.2) ?_ h.i;rw[j8];refine⟨e,od,rfl,by rw[j_ (R.new he)];exact jw,fun z=>?_⟩;obtain⟨dx,z1,z2⟩:=hp z;exact⟨dx,z1,jm su _ _ z2⟩
   ·have sd:j5 (je H O) (je (upd H e (xC e (jG K p.1) od)) O):=jm (jQ he _);cases r' with
    | nx Z'=>exact fun U' H' O' R' t=>f _ H' O' (R'.un h.i none) (sd.trans t)
    | bk Z'=>exact fun U' H' O' R' t=>f _ H' O' (R'.un h.i none) (sd.trans t)
    | ct Z'=>exact fun U' H' O' R' t=>f _ H' O' (R'.un h.i none) (sd.trans t)
    | rt d=>exact f
    | rf o=>exact f
    | xc p=>exact f
  ·rw[if_neg hl]at ed;cases ed
 ·rw[if_neg hc]at ed;by_cases hn:h.no.contains p.1=true
  ·rw[if_pos hn]at ed;refine⟨false,h2 _ (List.contains_iff_mem.mp hn),?_⟩;rw[if_neg Bool.false_ne_true];exact⟨H0,O0,Z,O,p,r,R,rfl,hp,he,ed,f⟩
  ·rw[if_neg hn]at ed;cases ed
def hW(hbd:qf X bd (xN K dx))(hd:Ji X.nox bd (tS K Px db))(hh:PH X (h₀::hs) (wR K Px t))(hst:X.stack=X.env::X.outer)(hfr:X.env.frame=some X.env.locals):PS X (.Try bd (h₀::hs) [] [] tpos) (tS K Px (wQ dx db t)):=
 Jr (FW (eA hbd hh hst hfr) (cb hd)) fun D U H xx=>by
  obtain⟨H0,O0,Z,O,r,R,ed,f⟩:=xx;unfold wQ at ed;have no:db Z=some r->(et (xN K dx) (wR K Px t) D U H \/ tS K Px db D U H):=fun ed=>.inr ⟨H0,O0,Z,O,r,R,ed,f⟩;cases e1:dx Z with
  | none=>rw[e1]at ed;exact no ed
  | some rr=>
   rw[e1]at ed;cases rr with
   | ok d=>exact no ed
   | xc p=>
    refine .inl ⟨H0,O0,Z,O,p,R,e1,fun H' s=>?_⟩;unfold PX;cases e2:p.2 with
    | nil=>exact fun e he=>⟨H0,O0,Z,O,p,r,R.grow s,rfl,fun z=>vDa e2 z,he,ed,f.mono (jm s)⟩
    | cons _ _=>
     intro dx hdx e he;rw[<-e2]at he⊢;have s2:=jQ hdx (xW dx p.2);refine⟨H0,O0,Z,O,p,r,(R.grow s).grow s2,rfl,fun _=>⟨dx,rfl,?_⟩,he,ed,f.mono (jm (s.trans s2))⟩;rw[j_ ((R.grow s).new hdx)];exact jw
def cu{k:Nat}{fa:Addr}{fd:FuncData}{ps:List Str}{ks:List Bool}{p:Pos}{ea:Expr}{es:List Expr}{l:DA}{F:List D->Option Rx}(G:FnOk X.prog X.w X.K X.mg X.base (yu X.prog X.w) k fa fd ps (Ko K ks F))(hr:Room k X.A)(hm:X.mg x=some (.ref fa))(hk:PySem.W.keepIn X.K (.ref fa)=true)(hb:JX X.K fd ps [])
  (ha:PA X.nox (ea::es) (Yp K l)) (hks:l.map (·.1)=ks) (hg:Gl X x) (hdb:(x==("__debug__" : Str))=false) (he:starEach (ea::es) X.env=(false,eval ea X.env)::starEach es X.env) (hpl:(backTo pos (starEach es X.env)).any (·.1)=false):
  qg X (.Call (.Name x p) (ea::es) [] pos) (xN K (J4 F l)):=fun pins s U H Er I xx=>by
 obtain⟨H0,O0,Z,O,p,R,ed,q⟩:=xx;subst hks;obtain⟨ds,e1,e2⟩:=j1 ed;exact B_ G hr hg hm hk hb ha hdb he hpl pins s U H Er I ⟨H0,O0,Z,O,ds,R,e1,fun vs H1 s1 r1=>⟨O,ds,.xc p,(R.grow s1).al,r1,e2,fun H' s=>q H' (s1.trans s)⟩⟩
end
@[simp] def aX(F:List D->Option OD)(ds:List D):Option D:=(F ds).bind fun o=>some o.toD
def IK{P:Program}{w:World}{K K':Fr}{mg:Tj}{base:Heap}{k:Nat}{x:Str}{ps:List Str}{ks:List Bool}{F:List D->Option OD}(G:FnI P w K' mg base k x ps (WX K ks F)):FnI P w K' mg base k x ps (Vx K ks (aX F)):=by
 obtain⟨f,fd,G,r⟩:=G.ex;refine⟨f,fd,G.imp fun vs H Q E xx=>?_,r⟩;obtain⟨O,ds,d,al,ak,e,q⟩:=xx;obtain⟨o,e1,e2⟩:=j1 e;cases e2;exact⟨O,ds,o,al,ak,e1,fun l H' s hl ow=>q _ H' s ((ow.same (fun _ z=>z) (JP fun a h=>wMa _ h)).rep fun u z=>by rw[j_ (fun y=>al l y hl)];exact z)⟩
section
variable {X:Cx} {K:Fr} {E:XK} {a b:Expr} {pos p:Pos} {da:DE} {dx:DX} {k:Nat} {x:Str} {ps:List Str} {F:List D->Option D}
@[simp] noncomputable def aY(F:List D->Option D)(da:DE)(dx:DX)(Z:jk):Option Rx:=(da Z).bind fun d1=>(dx Z).bind fun r=>match r with
 | .ok d2=>(F [d1,d2]).bind fun d=>some (.ok d)
 | .xc p=>some (.xc p)
theorem eK(G:FnI X.prog X.w X.K X.mg X.base k x ps (Vx K [false,true] F))(hr:Room k X.A)(ha:PE X a (tR K da))(hb:PE X b (tX K E dx))(hg:Gl X x)(hdb:(x==("__debug__" : Str))=false)(h1:starEach [a,b] X.env=(false,eval a X.env)::starEach [b] X.env)(h2:starEach [b] X.env=(false,eval b X.env)::starEach [] X.env)
  (hpl:(backTo pos (starEach [b] X.env)).any (·.1)=false):PE X (.Call (.Name x p) [a,b] [] pos) (tX K E (aY F da dx)):=jD (Q7 G hr (Jj ha (Jj hb yQ h2) h1) hg hdb h1 hpl) fun U H Q xx=>by
 obtain⟨H0,O0,Z,O,r,R,ed,q⟩:=xx;obtain⟨d1,e1,ed⟩:=j1 ed;obtain⟨r2,e2,ed⟩:=j1 ed;refine⟨H0,O0,Z,O,d1,R,e1,fun v1 H1 s1 r1=>⟨H0,O0,Z,O,r2,R.grow s1,e2,?_⟩⟩;cases r2 with
 | xc p=>cases ed;exact q
 | ok d2=>
  obtain⟨d,e3,ed⟩:=j1 ed;cases ed;exact fun v2 H2 s2 q2=>⟨O,[d1,d2],d,(R.grow (s1.trans s2)).al,⟨r1.same s2,q2,trivial⟩,e3,fun v H' s rv=>q v H' ((s1.trans s2).trans s) rv⟩
end
end DS
namespace L2
open PySem PySem.Spec PyProof.Rows
section
variable {X:Cx}
noncomputable def VW:Kd->Bool
 | .l=>true
 | .t=>true
 | _=>false
def bH(K:uXa)(te:TE):TE:=fun U H Q=>te U H fun x H1=>∃k,ai K H1 x k/\∀p,H1 p=none->Q (.bl (VW k)) (upd H1 p (.tup [.ty "list",.ty "tuple"]))
theorem cw{e:Expr}{te:TE}{p p1 p2 tp pos:Pos}{x1:Nat}(hgi:Gl X "isinstance")(hmi:X.mg "isinstance" = none)(hgl:Gl X "list")(hml:X.mg "list" = none)(hgt:Gl X "tuple")(hmt:X.mg "tuple" = none)(he:PE X e te)
  (hs:starEach [e,.Tuple [.Name "list" p1,.Name "tuple" p2] x1 tp] X.env=(false,eval e X.env)::starEach [.Tuple [.Name "list" p1,.Name "tuple" p2] x1 tp] X.env:=by rfl)
  (hs2:starEach [.Tuple [.Name "list" p1,.Name "tuple" p2] x1 tp] X.env=(false,eval (.Tuple [.Name "list" p1,.Name "tuple" p2] x1 tp) X.env)::starEach [] X.env:=by rfl):
  PE X (.Call (.Name "isinstance" p) [e,.Tuple [.Name "list" p1,.Name "tuple" p2] x1 tp] [] pos) (bH X.K te):=by
 intro pins s U H Q I h;refine wpAny_Call_Name_kw (Zb I hgi hmi boot_isinstance ?_);refine PyProof.Rows.callWith_builtin1 ?_ hs (by rw[hs2];rfl);rw[hs];show wpAny _ _ (spliced ((false,eval e X.env)::backTo pos (starEach [.Tuple [.Name "list" p1,.Name "tuple" p2] x1 tp] X.env))) _ _ s;refine Calls.spliced_cons (jv (he pins s U H _ I h) fun u s1 ⟨x,H1,I1,r1,k,hk,q⟩=>?_);rw[hs2];show wpAny _ _ (spliced ((false,eval (.Tuple [.Name "list" p1,.Name "tuple" p2] x1 tp) X.env)::backTo pos (starEach [] X.env))) _ _ s1;refine Calls.spliced_cons ?_;have hpa:PA X [.Name "list" p1,.Name "tuple" p2] (vW (tC (.ty "list")) (vW (tC (.ty "tuple")) gJ)):=Jj (kx hgl hml boot_list rfl) (Jj (kx hgt hmt boot_tuple rfl) yQ);refine wpAny_Tuple_spliced (jv (hpa tp pins s1 U H1 (fun vs H2=>vs=[.ty "list",.ty "tuple"]/\H2=H1) I1 ⟨rfl,rfl⟩) fun us s2 ⟨xs,H2,I2,r2,e1,e2⟩=>?_);subst e1 e2;have eu:us=[.type "list",.type "tuple"]:=by
  cases r2 with
  | cons a b=>
   cases b with
   | cons c d=>
    cases d;cases a;cases c;rfl
 subst eu;refine⟨Zc,Calls.spliced_nil ?_⟩;have hf:H2 s2.heap.objs.size=none:=I2.hok.fresh (wPa _);have I3:=I2.laid (h':=s2.heap.push { cls:=.type "tuple",data:=.seq ([.type "list",.type "tuple"]:List Value).toArray }) (t':=s2.toks) (o:=.tup [.ty "list",.ty "tuple"]) (fun b u e=>wIa _ e) (wPa _)
  ⟨Zc,[.type "list",.type "tuple"],.cons rfl (.cons rfl .nil),⟨_,wJa _ rfl,rfl,_,rfl⟩⟩
 have fin:∀b tk,b=VW k->EP X pins U Q (.bool b) { s2 with heap:=s2.heap.push { cls:=.type "tuple",data:=.seq ([.type "list",.type "tuple"]:List Value).toArray },toks:=tk }:=fun b tk eb=>by
  subst eb;exact⟨.bl (VW k),_,I3.tok tk,rfl,q _ hf⟩
 have tob:∀a o,s2.heap.get? a=some o->(s2.heap.push { cls:=.type "tuple",data:=.seq ([.type "list",.type "tuple"]:List Value).toArray }).get? a=some o:=fun a o e=>wIa _ e;cases k with
 | i=>
  cases x <;> try exact hk.elim
  obtain⟨t,rfl⟩:=r1;exact IsiPair.tupleOf (Tx := "int") (cs:=[.type "list",.type "tuple"]) (vs:=[false,false]) ⟨Answers.of_false_int (by decide +kernel) F.isi_meta_list F.sub_int_list,Answers.of_false_int (by decide +kernel) F.isi_meta_tuple F.sub_int_tuple,trivial⟩ rfl (wJa _ rfl) fun tk=>fin _ tk rfl
 | b=>
  cases x <;> try exact hk.elim
  cases r1;exact IsiPair.tupleOf (Tx := "bool") (cs:=[.type "list",.type "tuple"]) (vs:=[false,false]) ⟨Answers.of_false_bool (by decide +kernel) F.isi_meta_list F.sub_bool_list,Answers.of_false_bool (by decide +kernel) F.isi_meta_tuple F.sub_bool_tuple,trivial⟩ rfl (wJa _ rfl) fun tk=>fin _ tk rfl
 | s=>
  cases x <;> try exact hk.elim
  obtain⟨t,rfl⟩:=r1;exact IsiPair.tupleOf (Tx := "str") (cs:=[.type "list",.type "tuple"]) (vs:=[false,false]) ⟨Answers.of_false_str (by decide +kernel) F.isi_meta_list F.sub_str_list,Answers.of_false_str (by decide +kernel) F.isi_meta_tuple F.sub_str_tuple,trivial⟩ rfl (wJa _ rfl) fun tk=>fin _ tk rfl
 | l=>
  cases x <;> try exact hk.elim
  cases r1;obtain⟨ys,hq⟩:=hk;obtain⟨its,rv,pl,_⟩:=I2.list hq;obtain⟨o,ho,hc,_⟩:=pl.isList;exact IsiPair.tupleOf (Tx := "list") (cs:=[.type "list",.type "tuple"]) (vs:=[true,false]) ⟨Answers.of_true F.isi_meta_list F.sub_list_list,Answers.of_false_list (by decide +kernel) F.isi_meta_tuple F.sub_list_tuple,trivial⟩ ⟨o,tob _ _ ho,hc⟩ (wJa _ rfl) fun tk=>fin _ tk rfl
 | t=>
  cases x <;> try exact hk.elim
  cases r1;obtain⟨ys,hq⟩:=hk;obtain⟨its,rv,pl,_⟩:=I2.tuple hq;obtain⟨o,ho,hc,_⟩:=pl;exact IsiPair.tupleOf (Tx := "tuple") (cs:=[.type "list",.type "tuple"]) (vs:=[false,true]) ⟨Answers.of_false_tuple (by decide +kernel) F.isi_meta_list F.sub_tuple_list,Answers.of_true F.isi_meta_tuple F.sub_tuple_tuple,trivial⟩ ⟨o,tob _ _ ho,hc⟩ (wJa _ rfl) fun tk=>fin _ tk rfl
end
end L2
namespace DS
open PySem PySem.Spec PyProof.Rows L2
section
variable {X:Cx} {K:Fr} {de:DE}
@[simp] def Qr:D->Option D:=fun d=>(bu d).bind fun k=>some (.bl (VW k))
def eL{ex:Expr}(h:PE X ex (bH X.K (tR K de)))(hK:X.K=K:=by rfl):PE X ex (tE K (d1 Qr de)):=jD h fun U H Q ⟨H0,O0,Z,O,d,R,ed,q⟩=>by
 subst hK;obtain⟨x,e1,e2⟩:=j1 ed;obtain⟨k,e3,e2⟩:=j1 e2;cases e2;exact⟨H0,O0,Z,O,x,R,e1,fun v H' s r=>⟨k,bv e3 r,fun p hp=>q _ _ (s.trans (jQ hp _)) (by rw[j8])⟩⟩
end
end DS
set_option backward.match.sparseCases false
namespace CP
open PySem PySem.Spec PyProof.Rows L2 DS
inductive GI where
 | con (i:Int)
 | fE (k:Nat) (ps:List Str) (ks:List Bool) (F:List D->Option D)
 | fF (k:Nat) (ps:List Str) (ks:List Bool) (F:List D->Option OD)
 | mk (k:Nat) (ps:List Str) (ks:List Bool) (F:Addr->List D->Option OD) (G:List D->Option OD)
 | fX (k:Nat) (ps:List Str) (ks:List Bool) (F:List D->Option Rx)
 | blt
structure XT where
 ex:List Str:=[]
 ct:List (Str×List Str×List Str):=[]
 xf:List (Str×Str):=[]
 xp:List Str:=[]
 xq:List (Str×List Str):=[]
structure Gm where
 cm:Bool
 xm:Bool
 xt:XT
 N:List Str
 sc:Scope
 fn:Bool
 kF:Bool
 C:Addr
 gs:List (Str×GI)
 ms:List (Str×GI)
 fl:List Str
 hs:List ((Nat×Nat×Nat)×List Nat)
 sh:List (Nat×Nat)
 ow:List Nat
inductive Dn where
 | E (d:DE) | F (d:DO)
noncomputable def Dn.e:Dn->DE
 | .E d=>d
 | .F d=>dL d
noncomputable def kT(x:Str):List Str->Option Nat
 | []=>none
 | y::r=>if x=y then some 0 else(kT x r).map (· + 1)
noncomputable def kd(sc:Scope)(x:Str):Option NameKind:=sc.names.lookup x
noncomputable def g_(sc:Scope)(x:Str):Bool:=match kd sc x with
 | some .local=>true
 | some .cell=>true
 | some .free=>true
 | _=>false
noncomputable def wS(sc:Scope)(x:Str):Bool:=match kd sc x with
 | some .local=>true
 | some .cell=>true
 | _=>false
noncomputable def wT(sc:Scope)(x:Str):Bool:=match kd sc x with
 | some .local=>true
 | _=>false
noncomputable def Uk(Γ:Gm)(x:Str):Bool:=(match kd Γ.sc x with
 | some .globalImplicit=>true
 | _=>false)&&!(x==("__debug__" : Str))
noncomputable def cG(c:Bool)(o:Option α):Option α:=if c then o else none
def slot(Γ:Gm)(x:Str):Option Nat:=(kT x Γ.N).bind fun i=>if g_ Γ.sc x&&(!(x==("__debug__" : Str))&&!(x==("__classdict__" : Str)))then some i else none
def nm(Γ:Gm):Expr->Option Nat
 | .Name x _=>slot Γ x
 | _=>none
def xO(Γ:Gm)(x:Str):Option Nat:=(kT x Γ.N).bind fun i=>if wS Γ.sc x&&(Γ.fn||wT Γ.sc x)then some i else none
noncomputable def yc:Expr->Bool
 | .Starred _ _=>false
 | _=>true
structure Rc where
 n:Gm->Expr->Option Dn
 t:Gm->Expr->Option DT
 g:Gm->Nat->Expr->Option DG
section
variable (r:Rc) (Γ:Gm)
noncomputable def cV(f:Nat->DE)(e:Expr):Option DE:=match nm Γ e with
 | some i=>some (f i)
 | none=>(r.n Γ e).map Dn.e
def cA:List Bool->List Expr->Option DA
 | [],[]=>some []
 | k::ks,e::es=>if yc e then(cV r Γ (if k then dC else dV) e).bind fun d=>(cA ks es).bind fun l=>some ((k,d)::l)else none
 | _,_=>none
def eM:Operator->Option (D->D->Option D)
 | .Add=>some jx
 | .Sub=>some Y2
 | .Mult=>some yK
 | .Mod=>some jF
 | .FloorDiv=>some wk
 | .Pow=>some gP
 | _=>none
def VX:CmpOp->Option (D->D->Option D)
 | .Eq=>some jt
 | .NotEq=>some J8
 | .Lt=>some yj
 | .LtE=>some J5
 | .Gt=>some yG
 | .GtE=>some Kj
 | .In=>some (Yq false)
 | .NotIn=>some (Yq true)
 | .Is=>some VR
 | .IsNot=>some yJ
noncomputable def cB(f:DE->DE->DE):List Expr->Option DE
 | []=>none
 | [a]=>cV r Γ dC a
 | a::b=>(cV r Γ dV a).bind fun d=>(cB f b).bind fun d'=>some (f d d')
noncomputable def cW(f:DT->DT->DT):List Expr->Option DT
 | []=>none
 | [a]=>r.t Γ a
 | a::b=>(r.t Γ a).bind fun d=>(cW f b).bind fun d'=>some (f d d')
def part:Option Expr->Option WV
 | none=>some fun _=>some none
 | some e=>(cV r Γ dV e).map fun d=>fun Z=>(d Z).bind yR
noncomputable def VY(p:Pos):Option (List Nat):=Γ.hs.lookup (p.line,p.col,p.endCol)
noncomputable def GU:Expr->Bool
 | .Call _ _ _ _=>false
 | _=>true
noncomputable def wU:Expr->Bool
 | .Slice _ _ _ _=>false
 | _=>true
def aZ(x:Str):Option (List D->Option D):=if x = "len" then some jY else if x = "tuple" then some yz else if x = "all" then some zJ else if x = "max" then some vm else if x = "sum" then some wJ else if x = "any" then some kN else none
def a_(x:Str)(h:Bool):Option (List D->Option OD):=if x = "list" then some (if h then ze else zY)else none
def xP(x:Str):Bool:=Uk Γ x&&(match Γ.gs.lookup x with | some .blt=>true | _=>false)
noncomputable def eN:Expr->Option Str
 | .Name x _=>some x
 | _=>none
def xQ{e:Expr}{x:Str}(h:eN e=some x):∃p,e=.Name x p:=by
 cases e <;> cases h;exact⟨_,rfl⟩
noncomputable def A0(x:Str):Option String:=if x = "list" then some "list" else if x = "tuple" then some "tuple" else if x = "bool" then some "bool" else if x = "str" then some "str" else if x = "int" then some "int" else none
def eO(e:Expr):Option DI:=(cV r Γ dP e).map fun d=>match VY Γ e.pos with
 | some (_::_)=>bB d
 | _=>jU d
def eP(tup:Bool)(x:Str)(as:List Expr):Option DI:=
 if xP Γ x then(match as with
  | [a]=>if x = "range" then cG (yc a) ((cV r Γ dV a).map YH)
   else if x = "enumerate" then cG (yc a&&tup) ((cV r Γ dP a).map KG)
   else if x = "reversed" then cG (yc a) ((cV r Γ dP a).map Qi)else none
  | [a,b]=>if x = "zip" then cG (yc a&&yc b&&tup) ((cV r Γ dP a).bind fun d=>(cV r Γ dP b).map fun d'=>wr d d')else none
  | _=>none)else none
noncomputable def UY:Expr->Bool
 | .Tuple _ _ _=>true
 | _=>false
noncomputable def KL:Expr->Bool
 | .Set _ _ _=>false
 | _=>true
def eQ(tg e f:Expr)(as:List Expr)(ks:List Keyword)(p:Pos):Option DI:=match f with
 | .Name x _=>(match ks with
  | []=>(match eP r Γ (UY tg) x as with
   | some d=>some d
   | none=>eO r Γ e)
  | _::_=>none)
 | .Attribute a m ap=>(match as,ks with
  | [],[]=>cG (m==("items" : Str)&&UY tg&&GU a&&ap.endLine==p.line) ((cV r Γ dP a).map Zi)
  | _,_=>none)
 | _=>none
def cI(tg:Expr)(e:Expr):Option DI:=match e with
 | .Call f as ks p=>eQ r Γ tg e f as ks p
 | _=>cG (KL e) (eO r Γ e)
noncomputable def eR(scope sc:Scope):Scope:={ scope with names:=scope.names.map fun(n,k)=>if k==.free&&sc.kind==.function&&sc.names.lookup n==some .cell then(n,.cell)else(n,k) }
noncomputable def HH:Nat->Expr->List Str
 | 0,_=>[]
 | _+1,.Name x _=>[x]
 | n+1,.Tuple es _ _=>(es.map (HH n)).flatten
 | _,_=>[]
noncomputable def kU:List Str->Bool
 | []=>true
 | x::r=>!(r.contains x)&&kU r
noncomputable def A2:List Nat->Bool
 | []=>true
 | x::r=>!(r.contains x)&&A2 r
noncomputable def eS(scope:Scope)(p:Str×Nat):Bool:=(match Γ.N[p.2]? with
  | some y=>y==p.1
  | none=>false)&&(match kd Γ.sc p.1 with
  | some .cell=>true
  | some .free=>true
  | _=>false)&&(match kd scope p.1 with
  | some .free=>true
  | _=>false)
noncomputable def HI(scope:Scope):Bool:=(match scope.kind with | .function=>true | _=>false)&&(scope.names.all fun y=>y.2 != .local||scope.names.lookup y.1==some .local)&&(scope.names.all fun y=>y.2 != .cell) &&
 (scope.names.all fun y=>y.2 != .free||Γ.sc.names.lookup y.1==some .cell||Γ.sc.names.lookup y.1==some .free)
def eU(p:Pos):List (Str×Nat):=((VY Γ p).getD []).map fun j=>(Γ.N.getD j "",j)
def UZ(own:List Str)(caps:Tv)(scope:Scope):Gm:={ Γ with N:=own++caps.map (·.1),sc:=eR scope Γ.sc,fn:=false }
def eV(elt tg iter:Expr)(ifs:List Expr)(scope:Scope)(p:Pos):Option DO:=
 let own:=HH 5 tg
 let caps:=eU Γ p
 let Δ:=UZ Γ own caps scope
 cG (HI Γ scope&&caps.all (eS Γ scope)&&kU Δ.N&&A2 (caps.map fun z:Str×Nat=>z.2)&&KL iter&&Γ.cm)
  ((cI r Γ tg iter).bind fun di=>(r.g Δ own.length tg).bind fun g=>(match ifs with
   | []=>some jW
   | [c]=>r.t Δ c
   | _=>none).bind fun dc=>(cV r Δ dC elt).bind fun de=>some (yt own.length (caps.map fun z:Str×Nat=>z.2) di g dc de))
def A4(es:List Expr):Option Dn:=match es with
 | [a,t]=>(match t with
  | .Name t _=>if Γ.xt.ex.contains t then cG (yc a&&Uk Γ t) ((cV r Γ dV a).map fun d=>.E (d1 (kR Γ.xt.ex t) d))else cG (yc a&&xP Γ t) ((A0 t).bind fun T=>(cV r Γ dV a).map fun d=>.E (d1 (Zu T) d))
  | .Tuple ts _ _=>(match ts with
   | [t,u]=>(eN t).bind fun t=>(eN u).bind fun u=>cG (yc a&&xP Γ t&&xP Γ u&&t==("list" : Str)&&u==("tuple" : Str)) ((cV r Γ dV a).map fun d=>.E (d1 Qr d))
   | _=>none)
  | _=>none)
 | _=>none
def lv(es:List Expr):GI->Option Dn
 | .fE _ _ ks F=>(cA r Γ ks es).map fun l=>.E (j7 F l)
 | .fF _ _ ks F=>(cA r Γ ks es).map fun l=>.F (jK F l)
 | .fX _ _ ks F=>(cA r Γ ks es).map fun l=>.E (j7 (xM F) l)
 | .mk _ _ ks _ G=>(cA r Γ ks es).map fun l=>.F (Qc G l)
 | _=>none
def lw(x:Str)(es:List Expr)(p:Pos):Option Dn:=(cA r Γ (es.map fun _=>false) es).bind fun l=>(match aZ x with
  | some f=>some (.E (j7 f l))
  | none=>(a_ x (VY Γ p).isSome).map fun f=>.F (jK f l))
def bI(x:Str)(es:List Expr)(p:Pos):Option Dn:=cG (Uk Γ x&&!es.isEmpty) ((Γ.gs.lookup x).bind fun g=>if x = "isinstance" then(match g with
 | .blt=>A4 r Γ es
 | _=>none)else cG Γ.cm (match g with
 | .blt=>lw r Γ x es p
 | g=>lv r Γ es g))
noncomputable def eW:Const->Option Dn
 | .int i=>some (.E (dK (.int i)))
 | .bool i=>some (.E (dK (.bl i)))
 | .none=>some (.E (dK .non))
 | .str i=>some (.E (dK (.str i)))
 | _=>none
def eX(op:UnaryOp)(a:Expr):Option Dn:=match op with
 | .USub=>(cV r Γ dV a).map fun d=>.E (Yv d)
 | .Not=>(cV r Γ dV a).map fun d=>.E (Q8 d)
 | _=>none
def HJ(a:Expr)(op:Operator)(b:Expr)(p:Pos):Option Dn:=(cV r Γ dV a).bind fun d=>(cV r Γ dV b).bind fun d'=>(match VY Γ p with
  | some _=>(match op with
   | .Add=>some (.F (xh kG d d'))
   | _=>none)
  | none=>(eM op).map fun f=>.E (d2 f d d'))
def IL:CmpOp->Option (D->D->Option D)
 | .In=>some (wE false)
 | .NotIn=>some (wE true)
 | .Is=>some Qj
 | .IsNot=>some KK
 | _=>none
def bJ(p:Pos)(o:CmpOp):Option (D->D->Option D):=if (VY Γ p).isSome then IL o else VX o
def HK(a:Expr)(os:List CmpOp)(bs:List Expr)(p:Pos):Option DE:=match os,bs with
 | [o],[b]=>cG (!behindInMarks o b) ((cV r Γ dV a).bind fun d=>(cV r Γ dV b).bind fun d'=>(bJ Γ p o).map fun f=>d2 f d d')
 | [o,o'],[b,c]=>cG (!lastMarks [o,o'] [b,c]) ((cV r Γ dV a).bind fun d=>(cV r Γ dV b).bind fun d'=>(cV r Γ dV c).bind fun d''=>(VX o).bind fun f=>(VX o').map fun f'=>J1 f f' d d' d'')
 | [o,o',o''],[b,c,e]=>cG (!lastMarks [o,o',o''] [b,c,e]) ((cV r Γ dV a).bind fun d=>(cV r Γ dV b).bind fun d'=>(cV r Γ dV c).bind fun d''=>(cV r Γ dV e).bind fun d3=>
   (VX o).bind fun f=>(VX o').bind fun f'=>(VX o'').map fun f''=>UU f f' f'' d d' d'' d3)
 | _,_=>none
def HL(a b:Expr)(p:Pos):Option Dn:=match b with
 | .Slice lo hi st _=>(match st with
  | none=>(cV r Γ dV a).bind fun d=>(part r Γ lo).bind fun x=>(part r Γ hi).map fun y=>(match VY Γ p with
   | some _=>.E (Q9 d x y)
   | none=>.F (Y5 d x y))
  | some _=>none)
 | b=>cG (wU b) ((cV r Γ dV a).bind fun d=>(cV r Γ dV b).map fun d'=>.E (d2 (if (VY Γ p).isSome then yb else j6) d d'))
def bK(elt:Expr)(gs:List Comprehension)(scope:Scope)(p:Pos):Option DO:=match gs with
 | [⟨tg,iter,ifs,a⟩]=>cG (a==0) (eV r Γ elt tg iter ifs scope p)
 | _=>none
def eY(a:Expr)(m:Str)(ap:Pos)(es:List Expr)(p:Pos):Option Dn:=match es with
 | []=>(match a with
  | .Name x np=>cG (ap.endLine==p.line&&Γ.cm) ((cV r Γ dV (.Name x np)).bind fun d=>match Γ.ms.lookup m with
   | some (.fE _ _ _ F)=>some (.E (d1 (v_ Γ.C m F) d))
   | _=>none)
  | _=>none)
 | _=>none
def HM(f:Expr)(es:List Expr)(ks:List Keyword)(p:Pos):Option Dn:=match ks with
 | []=>(match f with
  | .Name x _=>bI r Γ x es p
  | .Attribute a m ap=>eY r Γ a m ap es p
  | _=>none)
 | _=>none
def cN(e:Expr):Option Dn:=match e with
 | .Name x _=>cG (Uk Γ x) (match Γ.gs.lookup x with
  | some (.con i)=>some (.E (dK (.int i)))
  | _=>none)
 | .Constant c _ _=>eW c
 | .UnaryOp op a _=>eX r Γ op a
 | .BinOp a op b p=>HJ r Γ a op b p
 | .Compare a os bs p=>cG Γ.cm ((HK r Γ a os bs p).map .E)
 | .BoolOp op vs _=>(match op with
  | .And=>(cB r Γ Ju vs).map .E
  | .Or=>(cB r Γ Ub vs).map .E)
 | .IfExp c a b _=>(r.t Γ c).bind fun t=>(cV r Γ dC a).bind fun d=>(cV r Γ dC b).map fun d'=>.E (gQ t d d')
 | .Tuple es _ _=>cG (Nat.ble es.length 1000) ((cA r Γ (es.map fun _=>true) es).map fun l=>.E (JK l))
 | .List es _=>cG (Nat.ble es.length 1000) ((cA r Γ (es.map fun _=>true) es).map fun l=>.F (jZ l))
 | .Dict ks vs _=>(match ks,vs with
  | [],[]=>some (.F UX)
  | _,_=>none)
 | .Attribute a f _=>if Γ.fl.contains f then cG (GU a) ((cV r Γ dV a).map fun d=>.E (d1 (jV Γ.C f) d))else cG (GU a) ((cV r Γ dV a).map fun d=>.E (d1 (Qq Γ.xt.xf f) d))
 | .Subscript a b p=>cG Γ.cm (HL r Γ a b p)
 | .ListComp elt gs scope p=>(bK r Γ elt gs scope p).map .F
 | .Call f es ks p=>HM r Γ f es ks p
 | _=>none
noncomputable def bL:Expr->Bool
 | .UnaryOp .Not _ _=>false
 | .BoolOp _ _ _=>false
 | .IfExp _ _ _ _=>false
 | .Compare _ _ _ _=>false
 | _=>true
def HN(a:Expr)(os:List CmpOp)(bs:List Expr)(p:Pos):Option DT:=match os,bs with
 | [o],[b]=>cG (!behindInMarks o b) ((cV r Γ dV a).bind fun d=>(cV r Γ dV b).bind fun d'=>(bJ Γ p o).map fun f=>jg (d2 f d d'))
 | [o,o'],[b,c]=>cG (!lastMarks [o,o'] [b,c]) ((cV r Γ dV a).bind fun d=>(cV r Γ dV b).bind fun d'=>(cV r Γ dV c).bind fun d''=>(VX o).bind fun f=>(VX o').map fun f'=>jg (J1 f f' d d' d''))
 | _,_=>none
def cT(e:Expr):Option DT:=match e with
 | .Compare a os bs p=>cG Γ.cm (HN r Γ a os bs p)
 | .UnaryOp op a p=>(match op with
  | .Not=>(r.t Γ a).map JJ
  | op=>cG (bL (.UnaryOp op a p)) ((cV r Γ dV (.UnaryOp op a p)).map JA))
 | .BoolOp op vs _=>(match op with
  | .And=>cW r Γ J3 vs
  | .Or=>cW r Γ Yu vs)
 | e=>cG (bL e) ((cV r Γ dV e).map JA)
def bM(k:Nat):List Expr->Option xk
 | []=>some gZ
 | e::es=>cG (yc e) ((r.g Γ k e).bind fun g=>(bM k es).map fun gs=>gC g gs)
def eZ(k:Nat):Expr->Option DG
 | .Name x _=>(xO Γ x).bind fun i=>cG (Nat.blt i k) (some (gN i))
 | .Tuple es _ _=>cG Γ.cm ((bM r Γ k es).map fun gs=>gT es.length gs)
 | _=>none
end
def rc:Nat->Rc
 | 0=>⟨fun _ _=>none,fun _ _=>none,fun _ _ _=>none⟩
 | n+1=>⟨cN (rc n),cT (rc n),eZ (rc n)⟩
noncomputable def A5:Stmt->Nat
 | .Return _ p=>p.line
 | .Assign _ _ p=>p.line
 | .AugAssign _ _ _ p=>p.line
 | .For _ _ _ _ p=>p.line
 | .While _ _ _ p=>p.line
 | .If _ _ _ p=>p.line
 | .Expr _ p=>p.line
 | .Raise _ _ p=>p.line
 | _=>0
section
variable (r:Rc) (q:Gm->List Stmt->Option DS.DS) (Γ:Gm)
noncomputable def cF(e:Expr):Option DO:=match r.n Γ e with
 | some (.F d)=>some d
 | _=>none
noncomputable def VZ:Expr->Bool
 | .ListComp _ _ _ _=>false
 | .SetComp _ _ _ _=>false
 | .DictComp _ _ _ _ _=>false
 | _=>true
def HP(scope:Scope)(x:Str)(np vp:Pos):Bool:=(match Γ.sc.kind with | .function=>true | _=>false)&&wT Γ.sc x&&np.line==vp.line&&!(scope.names.any fun(n,k)=>n==x&&(k==.local||k==.cell))
def HQ(x:Str)(np:Pos)(e:Expr):Option DS.DS:=(xO Γ x).bind fun i=>match e with
 | .ListComp elt gs scope p=>(bK r Γ elt gs scope p).bind fun d=>cG (HP Γ scope x np p) (some (if Γ.ow.contains i then JB i d else ji i (dL d)))
 | e=>cG (VZ e) (if Γ.ow.contains i then(cF r Γ e).map (JB i)else(cV r Γ dC e).map (ji i))
def e_(t e:Expr):Option DS.DS:=match t with
 | .Name x np=>HQ r Γ x np e
 | .Attribute o f _=>(nm Γ o).bind fun i=>cG (VZ e&&Γ.fl.contains f) ((cV r Γ dC e).map fun d=>V1 i Γ.C f d)
 | .Subscript o j p=>(nm Γ o).bind fun i=>cG (VZ e&&wU j&&Γ.cm) (if (VY Γ p).isSome then(cV r Γ dC j).bind fun dx=>(cV r Γ dC e).map fun d=>Zw i dx d
   else(cV r Γ dV j).bind fun dx=>(cV r Γ dC e).map fun d=>UV i dx d)
 | .Tuple es n p=>cG (VZ e&&!UY e) ((cV r Γ dC e).bind fun d=>(r.g Γ Γ.N.length (.Tuple es n p)).map fun g=>Zt d g)
 | _=>none
def E1(t:Expr)(op:Operator)(e:Expr):Option DS.DS:=match t with
 | .Name x _=>(xO Γ x).bind fun i=>(cV r Γ dV e).bind fun d=>(match op with
  | .Add=>some (wu i (fun i j=>i+j) d)
  | .Sub=>some (wu i (fun i j=>i - j) d)
  | _=>none)
 | _=>none
def HR(f:Expr)(es:List Expr)(ks:List Keyword)(p:Pos):Option DS.DS:=match f,es,ks with
 | .Attribute o m ap,[e],[]=>(nm Γ o).bind fun i=>cG (m==("append" : Str)&&yc e&&ap.endLine==p.line) ((cV r Γ dC e).map fun d=>JZ i d)
 | .Attribute o m ap,[k,e],[]=>(nm Γ o).bind fun i=>cG (m==("insert" : Str)&&yc k&&yc e&&ap.endLine==p.line) ((cV r Γ dV k).bind fun x=>(cV r Γ dC e).map fun d=>wK i x d)
 | _,_,_=>none
def HS(e:Expr):Option DS.DS:=match e with
 | .Call f es ks p=>(match HR r Γ f es ks p with
  | some d=>some d
  | none=>(cV r Γ dV (.Call f es ks p)).map GM)
 | e=>cG (VZ e) ((cV r Γ dV e).map GM)
def GV(e:Expr):Option DX:=match e with
 | .Call f es ks _=>(match f,ks with
  | .Name x _,[]=>cG (Uk Γ x&&!es.isEmpty&&Γ.cm) (match Γ.gs.lookup x with
   | some (.fX _ _ ks F)=>(cA r Γ ks es).map fun l=>J4 F l
   | _=>none)
  | _,_=>none)
 | _=>none
def HU(e:Expr):Option DX:=match e with
 | .Call f es ks _=>(match f,es,ks with
  | .Name x _,[a,b],[]=>cG (Uk Γ x&&Γ.cm&&yc a&&yc b) (match Γ.gs.lookup x with
   | some (.fF _ _ [false,true] F)=>(cV r Γ dV a).bind fun da=>(GV r Γ b).map fun dx=>aY (aX F) da dx
   | _=>none)
  | _,_,_=>none)
 | _=>none
def xR(e:Expr):Option DX:=if Γ.xm then(match GV r Γ e with
 | some dx=>some dx
 | none=>HU r Γ e)else none
noncomputable def IM:Expr->Bool
 | .Constant c _ _=>(match c with
  | .str _=>true
  | _=>false)
 | _=>false
def HV(e:Expr):Option DS.DS:=match e with
 | .Call f es ks _=>(match f,ks with
  | .Name x _,[]=>cG (Γ.xm&&Uk Γ x) (match Γ.xt.xq.lookup x with
   | some fs=>cG (!es.isEmpty) ((cA r Γ (es.map fun _=>true) es).map fun l=>aW x fs l)
   | none=>cG (Γ.xt.xp.contains x) (match es with
    | [a]=>cG (IM a) (some (wP x))
    | _=>none))
  | _,_=>none)
 | _=>none
def HW:List Stmt->Option DX
 | [s]=>(match s with
  | .Expr e _=>GV r Γ e
  | .Assign ts e _=>(match ts with
   | [t]=>(match t with
    | .Name _ _=>GV r Γ e
    | _=>none)
   | _=>none)
  | .Return (some e) _=>GV r Γ e
  | _=>none)
 | _=>none
noncomputable abbrev Gm.sui(Γ:Gm):Gm:={ Γ with cm:=false,xm:=false }
noncomputable abbrev Gm.nox(Γ:Gm):Gm:={ Γ with xm:=false }
def E2:List ExceptHandler->Option (List Hd)
 | []=>some []
 | .ExceptHandler t n b _::hs=>(match t,n,b with
  | some (.Name x _),some n,b₀::su=>(Γ.xt.ct.lookup x).bind fun c=>(slot Γ n).bind fun i=>cG (Uk Γ x&&wT Γ.sc n) ((q Γ.sui (b₀::su)).bind fun d=>(E2 hs).map fun l=>⟨c.1,c.2,i,d⟩::l)
  | _,_,_=>none)
def cS(s:Stmt):Option DS.DS:=match s with
 | .Assign ts e _=>(match ts with
  | [t]=>(match xR r Γ e with
   | some dx=>(match t with
    | .Name x _=>(xO Γ x).map fun i=>ya dx fun d Z=>some (.nx (Z.set i (.cl d)))
    | _=>none)
   | none=>e_ r Γ t e)
  | _=>none)
 | .AugAssign t op e _=>E1 r Γ t op e
 | .Expr e _=>(match xR r Γ e with
  | some dx=>some (ya dx fun _ Z=>some (.nx Z))
  | none=>HS r Γ e)
 | .Return o _=>(match o with
  | none=>some (jb (dK .non))
  | some e=>(match xR r Γ e with
   | some dx=>some (ya dx fun d _=>some (.rt d))
   | none=>(match nm Γ e with
    | some i=>if Γ.ow.contains i then some (YJ i)else some (jb (dC i))
    | none=>if Γ.kF then(cF r Γ e).map KH else(cV r Γ dC e).map jb)))
 | .If c a b _=>(r.t Γ c).bind fun t=>(q Γ a).bind fun x=>(q Γ b).map fun y=>jc t x y
 | .While c b o _=>(match o with
  | []=>(r.t Γ c).bind fun t=>(q Γ b).map fun x=>Zg t x 20000
  | _::_=>none)
 | .For tg it b o _=>(match o with
  | []=>cG (KL it&&Γ.cm) ((cI r Γ tg it).bind fun di=>(r.g Γ Γ.N.length tg).bind fun g=>(q Γ b).map fun x=>jR di g x)
  | _::_=>none)
 | .Raise e o _=>(match e,o with
  | some e,none=>if Γ.xm then HV r Γ e else some ZT
  | _,_=>none)
 | .Try bd hs o fb _=>cG (o.isEmpty&&fb.isEmpty&&!hs.isEmpty) ((HW r Γ bd).bind fun dx=>(q Γ.nox bd).bind fun db=>(E2 q Γ hs).map fun l=>wQ dx db l)
 | _=>none
def qj(l:Nat):List (Nat×Nat)->DS.DS->DS.DS
 | [],d=>d
 | (m,i)::r,d=>if m=l then Vy i (qj l r d)else qj l r d
def bN:List Stmt->Option DS.DS
 | []=>some jr
 | s::t=>if Γ.sh.contains (A5 s,1000)then some ZT else(cS r q Γ s).bind fun d=>(match t with
  | []=>some (qj (A5 s) Γ.sh d)
  | t=>(bN t).map fun d'=>qj (A5 s) Γ.sh (j0 d d'))
end
def cQ(r:Rc):Nat->Gm->List Stmt->Option DS.DS
 | 0=>fun _ _=>none
 | n+1=>fun Γ=>bN r (cQ r n) Γ
section
variable (P:Program) (w:World) (K':Fr) (mg:Tj) (base:Heap) (C:Addr) (rm:Nat->Prop) (K:Fr) (x:Str)
def wV:GI->Prop
 | .con i=>∃t,mg x=some (.int i t)
 | .fE k ps ks F=>FnI P w K' mg base k x ps (Vx K ks F)/\rm k
 | .fF k ps ks F=>FnI P w K' mg base k x ps (WX K ks F)/\rm k
 | .mk k ps ks F G=>MkI P w K' mg base k C x ps (bi K C ks F)/\(∀p ds o,G ds=some o->F p ds=some o)/\rm (k+1)
 | .fX k ps ks F=>(∃f fd,FnOk P w K' mg base (yu P w) k f fd ps (Ko K ks F)/\JX K' fd ps []/\PySem.W.keepIn K' (.ref f)=true/\mg x=some (.ref f))/\rm k
 | .blt=>mg x=none
def qk:GI->Prop
 | .fE k ps _ F=>MtI P w K' mg base k C x ps (Vx K [false] F)/\rm k
 | .fF k ps _ F=>MtI P w K' mg base k C x ps (WX K [false] F)/\rm k
 | _=>True
end
structure XTok (K:Fr) (mg:Tj) (T:XT):Prop where
 e:∀x∈T.ex,∃C,W.nsIn K mainGlobals x=some (some (.ref C))/\mg x=some (.ref C)/\ExC K C
 k:∀x∈T.ex,∀y∈T.ex,W.kitOne K (.ref (jG K x)) (.ref (jG K y))=some (x==y)
 c:∀h∈T.ct,mg h.1=some (.ref (jG K h.1))/\(∀x∈h.2.1,W.exmOne K (.ref (jG K x)) (.ref (jG K h.1))=some true)/\∀x∈h.2.2,W.exmOne K (.ref (jG K x)) (.ref (jG K h.1))=some false
 f:∀p∈T.xf,ExG K (jG K p.1) p.2
structure OkX (K:Fr) (Γ:Gm) (X:Cx):Prop where
 xt:XTok K X.mg Γ.xt
 n:X.N=Γ.N
 sc:X.env.scope=Γ.sc
 nd:Γ.N.Nodup
 calm:Γ.cm=true->X.calm=true
 k:X.K=K
 room:Γ.cm=true->Room 0 X.A
 fn:Γ.fn=true->∀x,X.fn x=true
 gs:∀x g,Γ.gs.lookup x=some g->wV X.prog X.w X.K X.mg X.base Γ.C (fun k=>Γ.cm=true->Room k X.A) K x g
 ms:∀x g,Γ.ms.lookup x=some g->qk X.prog X.w X.K X.mg X.base Γ.C (fun k=>Γ.cm=true->Room k X.A) K x g
 cl:Cls K Γ.C
 fl:∀f,Γ.fl.contains f=true->Yy K Γ.C f
def Ul(X:Cx)(K:Fr)(e:Expr):Dn->Prop
 | .E d=>PE X e (tE K d)
 | .F d=>PE X e (tF K d)
structure RcOk (r:Rc):Prop where
 n:∀{K:Fr} {Γ:Gm} {X:Cx} {e:Expr} {d:Dn},OkX K Γ X->r.n Γ e=some d->Ul X K e d
 t:∀{K:Fr} {Γ:Gm} {X:Cx} {e:Expr} {d:DT},OkX K Γ X->r.t Γ e=some d->PT X e (tT K d)
 g:∀{K:Fr} {Γ:Gm} {X:Cx} {k:Nat} {e:Expr} {d:DG},OkX K Γ X->r.g Γ k e=some d->PG X e (tG K k d)
def jj(h:cG c o=some y):c=true/\o=some y:=by
 cases c with
 | true=>exact⟨rfl,h⟩
 | false=>cases h
def j9(h:o.map f=some y):∃x,o=some x/\f x=y:=by
 cases o with
 | none=>cases h
 | some x=>exact⟨x,rfl,vFa h⟩
def jl{a b:Bool}(h:(a&&b)=true):a=true/\b=true:=by simpa using h
def zZ(h:(!a)=true):a=false:=by simpa using h
set_option tactic.hygienic true
theorem V_{x:Str}:∀{l:List Str} {i:Nat},kT x l=some i->l[i]?=some x
 | [],_,h=>by cases h
 | y::r,i,h=>by
  unfold kT at h;split at h
  ·cases h;rename_i e;rw[e];rfl
  ·obtain⟨j,h1,h2⟩:=j9 h;rw[<-h2];simpa using V_ h1
section
variable {r:Rc} {Γ:Gm} {X:Cx} {K:Fr} {x y:Str} {i:Nat} {e a b c tg:Expr} {es:List Expr} {pos:Pos} {d:DE}
def GW(h:g_ sc x=true):Gx sc x:=by
 unfold g_ at h;split at h <;> first | cases h | skip
 ·exact .inl (by assumption)
 ·exact .inr (.inl (by assumption))
 ·exact .inr (.inr (by assumption))
def xS(h:wS sc x=true):gp sc x:=by
 unfold wS at h;split at h <;> first | cases h | skip
 ·exact .inl (by assumption)
 ·exact .inr (by assumption)
def wW{sc:Scope}(h:wT sc x=true):sc.names.lookup x=some .local:=by
 unfold wT at h;split at h
 ·assumption
 ·cases h
def ZV(h:OkX K Γ X)(g:Uk Γ x=true):Gl X x/\(x==("__debug__" : Str))=false:=by
 obtain⟨g1,g2⟩:=jl g;refine⟨?_,zZ g2⟩;show X.env.scope.names.lookup x=_;rw[h.sc];split at g1
 ·assumption
 ·cases g1
def GX(h:OkX K Γ X)(g:xP Γ x=true):Gl X x/\X.mg x=none:=by
 obtain⟨g1,g2⟩:=jl g;refine⟨(ZV h g1).1,?_⟩;split at g2
 ·exact h.gs x _ (by assumption)
 ·cases g2
theorem wX(e:slot Γ x=some i):kT x Γ.N=some i/\g_ Γ.sc x=true/\(x==("__debug__" : Str))=false/\(x==("__classdict__" : Str))=false:=by
 obtain⟨j,e1,e2⟩:=j1 e;split at e2
 ·cases e2;rename_i hh;obtain⟨h1,h2⟩:=jl hh;obtain⟨h2,h3⟩:=jl h2;exact⟨e1,h1,zZ h2,zZ h3⟩
 ·cases e2
def yY(h:OkX K Γ X)(e:slot Γ x=some i):PE X (.Name x pos) (Zp i):=by
 obtain⟨h1,h2,h3,h4⟩:=wX e;exact pv i (by rw[h.n];exact V_ h1) (by rw[h.sc];exact GW h2) h3 h4
def YV(h:nm Γ e=some i):∃x pos,e=.Name x pos/\slot Γ x=some i:=by
 cases e with
 | Name x p=>exact⟨_,_,rfl,h⟩
 | _=>cases h
theorem GY(h:OkX K Γ X)(e:xO Γ x=some i):X.N.Nodup/\X.N[i]?=some x/\gp X.env.scope x/\(X.fn x=true \/ X.env.scope.names.lookup x=some .local):=by
 obtain⟨j,e1,e2⟩:=j1 e;split at e2
 ·cases e2;rename_i hh;obtain⟨h1,h2⟩:=jl hh;refine⟨by rw[h.n];exact h.nd,by rw[h.n];exact V_ e1,by rw[h.sc];exact xS h1,?_⟩;rw[Bool.or_eq_true]at h2;rcases h2 with h2 | h2
  ·exact .inl (h.fn h2 x)
  ·exact .inr (by rw[h.sc];exact wW h2)
 ·cases e2
def jM(h:yc e=true):starEach (e::es) env=(false,eval e env)::starEach es env:=by
 cases e <;> first | rfl | cases h
theorem zK:∀{es:List Expr},(∀e∈es,yc e=true)->(backTo pos (starEach es env)).any (·.1)=false
 | [],_=>rfl
 | e::es,h=>by
  rw[jM (h e List.mem_cons_self)];show(false||(backTo pos (starEach es env)).any (·.1))=false;rw[zK fun x hx=>h x (List.mem_cons_of_mem _ hx)];rfl
def ve(h:GU e=true):attributeBase e f env (eval e env)=eval e env:=by
 cases e <;> first | rfl | cases h
def GZ(h:wU b=true):kC b:=by
 cases b <;> first | (intro _ _;rfl) | cases h
def qo(h:KL e=true):∀x,foldedSetIterable e env x=pure x:=by
 cases e <;> first | (intro _;rfl) | cases h
def zh(h:VZ e=true):swapsWith e t l env=pure false:=by
 cases e <;> first | rfl | cases h
def wY{f:Nat->DE}(h:cV r Γ f e=some d):(∃i,nm Γ e=some i/\d=f i) \/∃n,r.n Γ e=some n/\d=n.e:=by
 unfold cV at h;split at h
 ·exact .inl ⟨_,by assumption,(vFa h).symm⟩
 ·obtain⟨n,h1,h2⟩:=j9 h;exact .inr ⟨n,h1,h2.symm⟩
def A6{n:Dn}(h:Ul X K e n):PE X e (tE K n.e):=by
 cases n with
 | E d=>exact h
 | F d=>exact iR h
variable (R:RcOk r) (h:OkX K Γ X)
include R h
theorem yL(q:cV r Γ dC e=some d):PE X e (tE K d):=by
 rcases wY q with⟨i,q1,rfl⟩ | ⟨n,q1,rfl⟩
 ·obtain⟨x,p,rfl,q2⟩:=YV q1;exact b8 i (yY h q2)
 ·exact A6 (R.n h q1)
theorem jA(q:cV r Γ dV e=some d):PE X e (tR K d):=by
 rcases wY q with⟨i,q1,rfl⟩ | ⟨n,q1,rfl⟩
 ·obtain⟨x,p,rfl,q2⟩:=YV q1;exact fM i (yY h q2)
 ·exact iQ (A6 (R.n h q1))
theorem u5(q:cV r Γ dP e=some d):PE X e (tP K d):=by
 rcases wY q with⟨i,q1,rfl⟩ | ⟨n,q1,rfl⟩
 ·obtain⟨x,p,rfl,q2⟩:=YV q1;exact Fz i (yY h q2)
 ·exact Io (A6 (R.n h q1))
theorem zi:∀{ks:List Bool} {es:List Expr} {l:DA},cA r Γ ks es=some l->PA X es (Yp K l)/\l.map (·.1)=ks/\(∀e∈es,yc e=true)/\l.length=es.length
 | [],[],l,q=>by cases q;exact⟨Fo,rfl,(fun _ h=>by cases h),rfl⟩
 | k::ks,e::es,l,q=>by
  unfold cA at q;split at q
  ·rename_i hs;obtain⟨d,q1,q⟩:=j1 q;obtain⟨l',q2,q⟩:=j1 q;cases q;obtain⟨a1,a2,a3,a4⟩:=zi q2;refine⟨?_,by simp[a2],fun z hz=>?_,by simp[a4]⟩
   ·cases k with
    | true=>exact Ii (yL R h q1) a1 (jM hs)
    | false=>exact Ij (jA R h q1) a1 (jM hs)
   ·rcases uTa hz with rfl | hz
    ·exact hs
    ·exact a3 z hz
  ·cases q
 | [],_::_,_,q=>by cases q
 | _::_,[],_,q=>by cases q
omit R in
theorem E3(q:eM op=some f):∃t,jS X (binaryOp op) t/\Jk K t f:=by
 have:=h.k;subst this;cases op <;> cases q
 ·exact⟨_,BI,Fc⟩
 ·exact⟨_,CS,fW⟩
 ·exact⟨_,BH,Du⟩
 ·exact⟨_,CU,fZ⟩
 ·exact⟨_,CV,F5⟩
 ·exact⟨_,Ba,f_⟩
omit R in
theorem Zl(hc:Γ.cm=true)(q:VX op=some f):∃t,jS X (compareOp op) t/\Jk K t f:=by
 have:=h.k;subst this;cases op <;> cases q
 ·exact⟨_,DB (h.room hc),Iw⟩
 ·exact⟨_,DC (h.room hc),Ix⟩
 ·exact⟨_,ff,iW⟩
 ·exact⟨_,fg,iX⟩
 ·exact⟨_,fh,iY⟩
 ·exact⟨_,fj,iZ⟩
 ·exact⟨_,CZ,F7⟩
 ·exact⟨_,Bb,dY⟩
 ·exact⟨_,QT,DD⟩
 ·exact⟨_,w8,DD⟩
omit R in
theorem xT(hc:Γ.cm=true)(q:bJ Γ p op=some f):∃t,jS X (compareOp op) t/\Jk K t f:=by
 unfold bJ at q;split at q
 ·have:=h.k;subst this;cases op <;> cases q
  ·exact⟨_,DQ,FR⟩
  ·exact⟨_,BQ,DR⟩
  ·exact⟨_,xF (h.room hc),bA⟩
  ·exact⟨_,wD (h.room hc),bA⟩
 ·exact Zl h hc q
theorem xU:∀{vs:List Expr} {d:DE},cB r Γ Ju vs=some d->PE X (.BoolOp .And vs pos) (tE K d)
 | [],_,q=>by cases q
 | [a],_,q=>bb (yL R h q)
 | a::b::c,d,q=>by
  unfold cB at q;obtain⟨d1,q1,q⟩:=j1 q;obtain⟨d2,q2,q⟩:=j1 q;cases q;exact Fi (jA R h q1) (xU q2)
theorem bO:∀{vs:List Expr} {d:DE},cB r Γ Ub vs=some d->PE X (.BoolOp .Or vs pos) (tE K d)
 | [],_,q=>by cases q
 | [a],_,q=>bb (yL R h q)
 | a::b::c,d,q=>by
  unfold cB at q;obtain⟨d1,q1,q⟩:=j1 q;obtain⟨d2,q2,q⟩:=j1 q;cases q;exact Ih (jA R h q1) (bO q2)
theorem xV:∀{vs:List Expr} {d:DT},cW r Γ J3 vs=some d->PW X (.BoolOp .And vs pos) (tT K d)
 | [],_,q=>by cases q
 | [a],_,q=>D0 (R.t h q)
 | a::b::c,d,q=>by
  unfold cW at q;obtain⟨d1,q1,q⟩:=j1 q;obtain⟨d2,q2,q⟩:=j1 q;cases q;exact Fh (R.t h q1) (xV q2)
theorem bP:∀{vs:List Expr} {d:DT},cW r Γ Yu vs=some d->PW X (.BoolOp .Or vs pos) (tT K d)
 | [],_,q=>by cases q
 | [a],_,q=>Fg (R.t h q)
 | a::b::c,d,q=>by
  unfold cW at q;obtain⟨d1,q1,q⟩:=j1 q;obtain⟨d2,q2,q⟩:=j1 q;cases q;exact Ig (R.t h q1) (bP q2)
theorem U_(q:part r Γ o=some p):PO X o (wq K p):=by
 cases o with
 | none=>cases q;exact Ik
 | some e=>
  obtain⟨d,q1,rfl⟩:=j9 q;exact Il (jA R h q1)
theorem xX(q:eO r Γ e=some di):PI X tg e (Ze K di):=by
 obtain⟨d,q1,rfl⟩:=j9 q;split
 ·exact DN (u5 R h q1)
 ·exact FA (u5 R h q1) h.k
omit R h in
theorem G1(t:UY e=true):∃es n p,e=.Tuple es n p:=by
 cases e <;> first | exact⟨_,_,_,rfl⟩ | cases t
theorem E4(q:eP r Γ (UY tg) x es=some di):PI X tg (.Call (.Name x np) es [] pos) (Ze K di):=by
 unfold eP at q;split at q
 ·rename_i hb;obtain⟨g1,g2⟩:=GX h hb;split at q
  ·split at q
   ·rename_i ex;subst ex;obtain⟨s1,q⟩:=jj q;obtain⟨d,q1,rfl⟩:=j9 q;exact Da g1 g2 (jA R h q1) (jM s1)
   ·split at q
    ·rename_i ex;subst ex;obtain⟨s1,q⟩:=jj q;obtain⟨u1,u2⟩:=jl s1;obtain⟨d,q1,rfl⟩:=j9 q;obtain⟨_,_,_,rfl⟩:=G1 u2;exact Db g1 g2 (u5 R h q1) (jM u1) h.k
    ·split at q
     ·rename_i ex;subst ex;obtain⟨s1,q⟩:=jj q;obtain⟨d,q1,rfl⟩:=j9 q;exact FO g1 g2 (u5 R h q1) (jM s1) h.k
     ·cases q
  ·split at q
   ·rename_i ex;subst ex;obtain⟨s1,q⟩:=jj q;obtain⟨u1,u3⟩:=jl s1;obtain⟨u1,u2⟩:=jl u1;obtain⟨d,q1,q⟩:=j1 q;obtain⟨d',q2,rfl⟩:=j9 q;obtain⟨_,_,_,rfl⟩:=G1 u3;exact FD g1 g2 (u5 R h q1) (u5 R h q2) (by rw[jM u1,jM u2];rfl) (jM u2) h.k
   ·cases q
  ·cases q
 ·cases q
theorem E5(q:eQ r Γ tg (.Call f as ks p) f as ks p=some di):PI X tg (.Call f as ks p) (Ze K di):=by
 unfold eQ at q;cases f with
 | Name x p'=>
  cases ks with
  | nil=>
   dsimp only at q;split at q
   ·cases q;exact E4 R h (by assumption)
   ·exact xX R h q
  | cons _ _=>cases q
 | Attribute a m ap=>
  rcases as with _ | ⟨_,_⟩ <;> rcases ks with _ | ⟨_,_⟩ <;> try (cases q;done)
  ·obtain⟨z,q⟩:=jj q;obtain⟨z,z4⟩:=jl z;obtain⟨z,z3⟩:=jl z;obtain⟨z1,z2⟩:=jl z;obtain⟨d,q1,rfl⟩:=j9 q;have e1:=vLa z1;subst e1;obtain⟨_,_,_,rfl⟩:=G1 z2;exact BP (u5 R h q1) (ve z3) z4
 | _=>cases q
theorem bQ(q:cI r Γ tg e=some di):PI X tg e (Ze K di):=by
 cases e with
 | Call f as ks p=>exact E5 R h q
 | _=>exact xX R h (jj q).2
end
theorem g6:∀{l:List Str},kU l=true->l.Nodup
 | [],_=>List.nodup_nil
 | x::r,h=>by
  obtain⟨h1,h2⟩:=jl h;refine List.nodup_cons.mpr ⟨fun z=>?_,g6 h2⟩;rw[List.contains_iff_mem.mpr z]at h1;cases h1
theorem qp:∀{l:List Nat},A2 l=true->l.Nodup
 | [],_=>List.nodup_nil
 | x::r,h=>by
  obtain⟨h1,h2⟩:=jl h;refine List.nodup_cons.mpr ⟨fun z=>?_,qp h2⟩;rw[List.contains_iff_mem.mpr z]at h1;cases h1
structure LcP (X:Cx) (K:Fr) (elt tg iter:Expr) (ifs:List Expr) (scope:Scope) (own:List Str) (caps:Tv) (di:DI) (g:DG) (dc:DT) (de:DE):Prop where
 S:CScope X scope
 cp:Caps X scope caps
 i:PI X tg iter (Ze K di)
 g:∀s3 H3 ex',PG (X.comp (L2.cN own caps) scope s3 H3 ex') tg (tG K own.length g)
 t:∀s3 H3 ex',Zs (X.comp (L2.cN own caps) scope s3 H3 ex') ifs (tT K dc)
 e:∀s3 H3 ex',PE (X.comp (L2.cN own caps) scope s3 H3 ex') elt (tE K de)
 nd:(caps.map (·.2)).Nodup
 fs:∀x,foldedSetIterable iter X.env x=pure x
 cm:X.calm=true
section
variable {r:Rc} {Γ:Gm} {X:Cx} {K:Fr} {x y:Str} {i:Nat} {e a b c tg:Expr} {es:List Expr} {pos:Pos} {d:DE}
def G8{own:List Str}{caps:Tv}{scope:Scope}(h:OkX K Γ X)(hn:kU (UZ Γ own caps scope).N=true){s3:Shared}{H3:Hp}{ex':List Addr}:OkX K (UZ Γ own caps scope) (X.comp (L2.cN own caps) scope s3 H3 ex') where
 n:=rfl
 sc:=by
  show relabel scope X.env=eR scope Γ.sc;rw[<-h.sc];rfl
 nd:=g6 hn
 calm:=h.calm
 k:=h.k
 room:=h.room
 xt:=h.xt
 fn:=fun z=>by cases z
 gs:=h.gs
 ms:=h.ms
 cl:=h.cl
 fl:=h.fl
def Qs{scope:Scope}(h:OkX K Γ X)(q:HI Γ scope=true):CScope X scope:=by
 obtain⟨q,q4⟩:=jl q;obtain⟨q,q3⟩:=jl q;obtain⟨q1,q2⟩:=jl q;refine⟨?_,q2,q3,by rw[h.sc];exact q4⟩;split at q1
 ·assumption
 ·cases q1
theorem qr{scope:Scope}(h:OkX K Γ X):∀{caps:Tv},caps.all (eS Γ scope)=true->Caps X scope caps
 | [],_=>.nil
 | (y,j)::r,q=>by
  rw[List.all_cons]at q;obtain⟨q1,q2⟩:=jl q;obtain⟨q1,q5⟩:=jl q1;obtain⟨q3,q4⟩:=jl q1;refine .cons ?_ ?_ ?_ (qr h q2)
  ·rw[h.n];dsimp only at q3;split at q3
   ·rename_i z hz;rw[hz,eq_of_beq q3]
   ·cases q3
  ·show X.env.scope.names.lookup y=_ \/ X.env.scope.names.lookup y=_;rw[h.sc];split at q4
   ·exact .inl (by assumption)
   ·exact .inr (by assumption)
   ·cases q4
  ·split at q5
   ·assumption
   ·cases q5
variable (R:RcOk r) (h:OkX K Γ X)
include R h
theorem E6{elt iter:Expr}{ifs:List Expr}{scope:Scope}{p:Pos}{d:DO}(q:eV r Γ elt tg iter ifs scope p=some d):
  ∃own caps di g dc de,d=yt own.length (caps.map (·.2)) di g dc de/\LcP X K elt tg iter ifs scope own caps di g dc de:=by
 unfold eV at q;dsimp only at q;obtain⟨z,q⟩:=jj q;obtain⟨z,z6⟩:=jl z;obtain⟨z,z5⟩:=jl z;obtain⟨z,z4⟩:=jl z;obtain⟨z,z3⟩:=jl z;obtain⟨z1,z2⟩:=jl z;obtain⟨di,q1,q⟩:=j1 q;obtain⟨g,q2,q⟩:=j1 q;obtain⟨dc,q3,q⟩:=j1 q;obtain⟨de,q4,q⟩:=j1 q;refine⟨_,_,di,g,dc,de,(vFa q).symm,Qs h z1,qr h z2,bQ R h q1,fun _ _ _=>R.g (G8 h z3) q2,fun _ _ _=>?_,fun _ _ _=>yL R (G8 h z3) q4,qp z4,qo z5,h.calm z6⟩;split at q3
 ·cases q3;exact Iq
 ·exact Ir (R.t (G8 h z3) q3)
 ·cases q3
omit R in
theorem cx(hc:X.calm=true){l:DA}{f:List D->Option D}{np:Pos}(q:aZ x=some f)(g1:Gl X x)(g2:X.mg x=none)(ha:PA X (e::es) (Yp K l))(he:starEach (e::es) X.env=(false,eval e X.env)::starEach es X.env)(hpl:(backTo pos (starEach es X.env)).any (·.1)=false):
  PE X (.Call (.Name x np) (e::es) [] pos) (tE K (j7 f l)):=by
 have:=h.k;subst this;unfold aZ at q;split at q
 ·rename_i ex;subst ex;cases q;exact jD (YQ wa g1 g2 PySem.boot_len ha (by decide) (by decide) he hpl) (Vw Fv)
 split at q
 ·rename_i ex;subst ex;cases q;exact jD (uW Kv g1 g2 PyProof.Rows.boot_tuple ha (by decide) (by decide) he hpl) (Vw Bz)
 split at q
 ·rename_i ex;subst ex;cases q;exact jD (YQ (ah hc) g1 g2 PyProof.Rows.boot_all ha (by decide) (by decide) he hpl) (Vw Fx)
 split at q
 ·rename_i ex;subst ex;cases q;exact jD (YQ (QO hc) g1 g2 PyProof.Rows.boot_max ha (by decide) (by decide) he hpl) (Vw Fw)
 split at q
 ·rename_i ex;subst ex;cases q;exact jD (YQ (aJ hc) g1 g2 PyProof.Rows.boot_sum ha (by decide) (by decide) he hpl) (Vw FP)
 split at q
 ·rename_i ex;subst ex;cases q;exact jD (YQ (aK hc) g1 g2 PyProof.Rows.boot_any ha (by decide) (by decide) he hpl) (Vw FQ)
 ·cases q
omit R in
theorem cy(hc:X.calm=true){l:DA}{b:Bool}{f:List D->Option OD}{np:Pos}(q:a_ x b=some f)(g1:Gl X x)(g2:X.mg x=none)(ha:PA X (e::es) (Yp K l))(he:starEach (e::es) X.env=(false,eval e X.env)::starEach es X.env)(hpl:(backTo pos (starEach es X.env)).any (·.1)=false):
  PE X (.Call (.Name x np) (e::es) [] pos) (tF K (jK f l)):=by
 have:=h.k;subst this;unfold a_ at q;split at q
 ·rename_i ex;subst ex;cases q;cases b
  ·exact jD (uW wb g1 g2 PyProof.Rows.boot_list ha (by decide) (by decide) he hpl) (WW D6)
  ·exact jD (uW (Qf hc) g1 g2 PyProof.Rows.boot_list ha (by decide) (by decide) he hpl) (WW BO)
 ·cases q
omit R h in
theorem cz(q:A0 t=some T):bootBuiltins t=some (.type T)/\t≠ "__name__" /\(t==("__debug__" : Str))=false:=by
 unfold A0 at q
 repeat (split at q;· rename_i ex;subst ex;cases q;exact⟨by first | exact PyProof.Rows.boot_list | exact PyProof.Rows.boot_tuple | exact PyProof.Rows.boot_bool | exact PyProof.Rows.boot_str | exact PyProof.Rows.boot_int,by decide,by decide⟩)
 cases q
theorem cH{n:Dn}{np:Pos}(g1:Gl X "isinstance")(g2:X.mg "isinstance" = none)(q:A4 r Γ es=some n):Ul X K (.Call (.Name "isinstance" np) es [] pos) n:=by
 rcases es with _ | ⟨a,_ | ⟨t,_ | ⟨_,_⟩⟩⟩ <;> try (cases q;done)
 cases t with
 | Name t p'=>
  dsimp only[A4]at q;split at q
  ·have hin:=List.contains_iff_mem.mp (by assumption);obtain⟨z,q⟩:=jj q;obtain⟨z3,z4⟩:=jl z;obtain⟨d,q2,rfl⟩:=j9 q;obtain⟨k1,k2⟩:=ZV h z4;obtain⟨C,c1,c2,_⟩:=h.xt.e _ hin
   refine hU (jA R h q2) (WM (v:=.ref C) k1 c2 rfl k2) g1 g2 (jM z3) h.k fun c hc=>?_;obtain⟨C',d1,_,d3⟩:=h.xt.e c hc;have e1:=h.xt.k c hc _ hin
   rw[GE c1]at e1;exact⟨by rw[GE d1];exact d3,e1⟩
  ·obtain⟨z,q⟩:=jj q;obtain⟨z3,z4⟩:=jl z;obtain⟨T,q1,q⟩:=j1 q;obtain⟨d,q2,rfl⟩:=j9 q;obtain⟨b1,b2,b3⟩:=cz q1;obtain⟨k1,k2⟩:=GX h z4;exact FJ (YQ aj g1 g2 PyProof.Rows.boot_isinstance (Jj (jA R h q2) (Jj (kx (v:=.ty T) k1 k2 b1 rfl b2 b3) yQ) (jM z3)) (by decide) (by decide) (jM z3)) h.k
 | Tuple ts k p'=>
  rcases ts with _ | ⟨t,_ | ⟨u,_ | ⟨_,_⟩⟩⟩ <;> try (cases q;done)
  ·obtain⟨x1,y1,q⟩:=j1 q;obtain⟨x2,y2,q⟩:=j1 q;obtain⟨_,rfl⟩:=xQ y1;obtain⟨_,rfl⟩:=xQ y2;obtain⟨z,q⟩:=jj q;obtain⟨z,z7⟩:=jl z;obtain⟨z,z6⟩:=jl z;obtain⟨z,z5⟩:=jl z;obtain⟨z3,z4⟩:=jl z;obtain⟨d,q2,rfl⟩:=j9 q;have e1:=vLa z6;have e2:=vLa z7;subst e1 e2;obtain⟨k1,k2⟩:=GX h z4;obtain⟨k3,k4⟩:=GX h z5;exact eL (cw g1 g2 k1 k2 k3 k4 (jA R h q2) (jM z3)) h.k
 | _=>cases q
theorem A7{n:Dn}{np:Pos}(q0:bI r Γ x es pos=some n):Ul X K (.Call (.Name x np) es [] pos) n:=by
 obtain⟨z,q⟩:=jj q0;clear q0;obtain⟨z1,z2⟩:=jl z;obtain⟨g1,g3⟩:=ZV h z1;obtain⟨g,hl,q1⟩:=j1 q;clear q;have q:=q1;clear q1;have G:=h.gs _ _ hl;cases es with
 | nil=>cases z2
 | cons e es=>
 by_cases ex:x = "isinstance"
 ·rw[if_pos ex]at q;subst ex;cases g <;> try (cases q;done)
  exact cH R h g1 G q
 ·rw[if_neg ex]at q;obtain⟨hc,q⟩:=jj q;have s1:(∀z∈e::es,yc z=true)->starEach (e::es) X.env=(false,eval e X.env)::starEach es X.env:=fun a3=>jM (a3 _ wNa);have s2:(∀z∈e::es,yc z=true)->(backTo pos (starEach es X.env)).any (·.1)=false:=fun a3=>zK fun z hz=>a3 z (wMa _ hz);cases g with
  | con i=>cases q
  | fE k ps ks F=>
   obtain⟨l,q1,rfl⟩:=j9 q;obtain⟨a1,a2,a3,_⟩:=zi R h q1;exact xo G.1 (G.2 hc) a1 a2 g1 g3 (s1 a3) (s2 a3)
  | fF k ps ks F=>
   obtain⟨l,q1,rfl⟩:=j9 q;obtain⟨a1,a2,a3,_⟩:=zi R h q1;exact Di G.1 (G.2 hc) a1 a2 g1 g3 (s1 a3) (s2 a3)
  | fX k ps ks F=>
   obtain⟨l,q1,rfl⟩:=j9 q;obtain⟨a1,a2,a3,_⟩:=zi R h q1;obtain⟨⟨f,fd,G,hb,hk,hm⟩,hr⟩:=G;exact xo ⟨f,fd,lr G,hb,hk,hm⟩ (hr hc) a1 a2 g1 g3 (s1 a3) (s2 a3)
  | mk k ps ks F G'=>
   obtain⟨l,q1,rfl⟩:=j9 q;obtain⟨a1,a2,a3,_⟩:=zi R h q1;exact Dj G.1 G.2.1 (G.2.2 hc) a1 a2 g1 g3 (s1 a3) (s2 a3)
  | blt=>
   obtain⟨l,q1,q⟩:=j1 q;obtain⟨a1,a2,a3,_⟩:=zi R h q1;split at q
   ·cases q;exact cx h (h.calm hc) (by assumption) g1 G a1 (s1 a3) (s2 a3)
   ·obtain⟨f,q2,rfl⟩:=j9 q;exact cy h (h.calm hc) q2 g1 G a1 (s1 a3) (s2 a3)
omit R h in
theorem vv:∀{l:DA} {es:List Expr},l.map (·.1)=(es.map fun _=>true)->(l.map (·.1)).all id=true:=fun {l es} q=>by
 rw[q];simp
omit R h in
theorem cJ(hl:(ap.endLine==cp.line)=true):eval (.Call (.Attribute (.Name x p) m ap) [] [] cp) env=(do
   let ov<-eval (.Name x p) env
   standAt ap.atName
   let (f,first)<-holding [ov] (getMethod ov m (do return (<-importBound (.Name x p) env).getD true))
   callWith cp f first (backTo cp (starEach [] env)) (backToKw cp (keywordEach [] env))):=by
 have e:methodCallPos true (.Name x p) env ap cp=pure cp:=by unfold methodCallPos;rw[hl];rfl
 have f:methodCallForm 0 (backTo cp (starEach [] env)) (backToKw cp (keywordEach [] env))=true:=rfl;show(do
  let ov<-eval (.Name x p) env
  standAt ap.atName
  methodCall (.Name x p) m ap cp env ov 0 (backTo cp (starEach [] env)) (backToKw cp (keywordEach [] env)))=_
 unfold methodCall;rw[f,e];rfl
omit R h in
theorem E7{c:Const}{k:Nat}{n:Dn}(q:eW c=some n):Ul X K (.Constant c k pos) n:=by
 unfold eW at q;split at q <;> cases q
 ·exact fN
 ·exact iS
 ·exact fP
 ·exact fQ
theorem E8{op:UnaryOp}{n:Dn}(q:eX r Γ op a=some n):Ul X K (.UnaryOp op a pos) n:=by
 unfold eX at q;split at q
 ·obtain⟨d,q1,rfl⟩:=j9 q;exact Fk (jA R h q1)
 ·obtain⟨d,q1,rfl⟩:=j9 q;exact Fj (jA R h q1)
 ·cases q
theorem E9{op:Operator}{n:Dn}(q:HJ r Γ a op b pos=some n):Ul X K (.BinOp a op b pos) n:=by
 obtain⟨d,q1,q⟩:=j1 q;obtain⟨d',q2,q⟩:=j1 q;split at q
 ·split at q
  ·cases q;exact iV dI Fb (jA R h q1) (jA R h q2)
  ·cases q
 ·obtain⟨f,q3,rfl⟩:=j9 q;obtain⟨t,o1,o2⟩:=E3 h q3;exact iU o1 o2 (jA R h q1) (jA R h q2)
theorem Ea(hc:Γ.cm=true){os:List CmpOp}{bs:List Expr}{d:DE}(q:HK r Γ a os bs pos=some d):PE X (.Compare a os bs pos) (tE K d):=by
 rcases os with _ | ⟨o,_ | ⟨o',_ | ⟨o'',_ | ⟨_,_⟩⟩⟩⟩ <;> rcases bs with _ | ⟨b,_ | ⟨c,_ | ⟨e,_ | ⟨_,_⟩⟩⟩⟩ <;> try (cases q;done)
 ·obtain⟨z,q⟩:=jj q;obtain⟨d,q1,q⟩:=j1 q;obtain⟨d',q2,q⟩:=j1 q;obtain⟨f,q3,rfl⟩:=j9 q;obtain⟨t,o1,o2⟩:=xT h hc q3;exact fU o1 o2 (jA R h q1) (jA R h q2) (zZ z)
 ·obtain⟨z,q⟩:=jj q;obtain⟨d,q1,q⟩:=j1 q;obtain⟨d',q2,q⟩:=j1 q;obtain⟨d'',q3,q⟩:=j1 q;obtain⟨f,p1,q⟩:=j1 q;obtain⟨f',p2,rfl⟩:=j9 q;obtain⟨t,o1,o2⟩:=Zl h hc p1;obtain⟨t',o1',o2'⟩:=Zl h hc p2;exact Bw o1 o1' o2 o2' (jA R h q1) (jA R h q2) (jA R h q3) (zZ z)
 ·obtain⟨z,q⟩:=jj q;obtain⟨d,q1,q⟩:=j1 q;obtain⟨d',q2,q⟩:=j1 q;obtain⟨d'',q3,q⟩:=j1 q;obtain⟨d3,q4,q⟩:=j1 q;obtain⟨f,p1,q⟩:=j1 q;obtain⟨f',p2,q⟩:=j1 q;obtain⟨f'',p3,rfl⟩:=j9 q;obtain⟨t,o1,o2⟩:=Zl h hc p1;obtain⟨t',o1',o2'⟩:=Zl h hc p2;obtain⟨t'',o1'',o2''⟩:=Zl h hc p3;exact au o1 o1' o1'' o2 o2' o2'' (jA R h q1) (jA R h q2) (jA R h q3) (jA R h q4) (zZ z)
theorem Eb(hc:Γ.cm=true){n:Dn}(q:HL r Γ a b pos=some n):Ul X K (.Subscript a b pos) n:=by
 have hK:=h.k;have fb:∀{b},cG (wU b) ((cV r Γ dV a).bind fun d=>(cV r Γ dV b).map fun d'=>.E (d2 (if (VY Γ pos).isSome then yb else j6) d d'))=some n->Ul X K (.Subscript a b pos) n:=fun q=>by
  obtain⟨z,q⟩:=jj q;obtain⟨d,q1,q⟩:=j1 q;obtain⟨d',q2,rfl⟩:=j9 q;subst hK;split
  ·exact dU (DH (h.room hc)) FM (jA R h q1) (jA R h q2) (GZ z)
  ·exact dU dA I0 (jA R h q1) (jA R h q2) (GZ z)
 cases b with
 | Slice lo hi st p=>
  cases st with
  | none=>
   obtain⟨d,q1,q⟩:=j1 q;obtain⟨u,q2,q⟩:=j1 q;obtain⟨v,q3,rfl⟩:=j9 q;split
   ·exact Ft (jA R h q1) (U_ R h q2) (U_ R h q3) hK
   ·exact Fs (jA R h q1) (U_ R h q2) (U_ R h q3) hK
  | some _=>cases q
 | _=>exact fb q
theorem xY{elt:Expr}{gs:List Comprehension}{scope:Scope}{d:DO}(q:bK r Γ elt gs scope pos=some d):
  ∃tg iter ifs own caps di g dc de,gs=[⟨tg,iter,ifs,0⟩]/\d=yt own.length (caps.map (·.2)) di g dc de/\LcP X K elt tg iter ifs scope own caps di g dc de:=by
 unfold bK at q;split at q
 ·obtain⟨z,q⟩:=jj q;have z0:=vLa z;subst z0;obtain⟨own,caps,di,g,dc,de,rfl,L⟩:=E6 R h q;exact⟨_,_,_,own,caps,di,g,dc,de,rfl,rfl,L⟩
 ·cases q
theorem Ec{m:Str}{ap:Pos}{n:Dn}(q:eY r Γ a m ap es pos=some n):Ul X K (.Call (.Attribute a m ap) es [] pos) n:=by
 unfold eY at q;rcases es with _ | ⟨_,_⟩ <;> try (cases q;done)
 ·cases a with
  | Name x np=>
   obtain⟨z,q⟩:=jj q;obtain⟨z,hc⟩:=jl z;obtain⟨d,q1,q⟩:=j1 q;split at q
   ·rename_i hl;cases q;obtain⟨M,hr⟩:=h.ms _ _ hl;exact BB (jA R h q1) h.cl M (hr hc) (cJ z) h.k
   ·cases q
  | _=>cases q
theorem hX{n:Dn}(q:cN r Γ e=some n):Ul X K e n:=by
 have hK:=h.k;unfold cN at q;cases e with
 | Name x p=>
  obtain⟨z,q⟩:=jj q;obtain⟨g1,g2⟩:=ZV h z;split at q
  ·rename_i hl;cases q;exact dS (ll (h.gs _ _ hl) g1 g2)
  ·cases q
 | Constant c k p=>
  exact E7 q
 | UnaryOp op a p=>
  exact E8 R h q
 | BinOp a op b p=>
  exact E9 R h q
 | Compare a os bs p=>
  obtain⟨hc,q⟩:=jj q;obtain⟨d,q1,rfl⟩:=j9 q;exact Ea R h hc q1
 | BoolOp op vs p=>
  dsimp only at q;cases op
  ·obtain⟨d,q1,rfl⟩:=j9 q;exact xU R h q1
  ·obtain⟨d,q1,rfl⟩:=j9 q;exact bO R h q1
 | IfExp c a b p=>
  obtain⟨t,q1,q⟩:=j1 q;obtain⟨d,q2,q⟩:=j1 q;obtain⟨d',q3,rfl⟩:=j9 q;exact Fm (R.t h q1) (yL R h q2) (yL R h q3)
 | Tuple es k p=>
  obtain⟨z,q⟩:=jj q;obtain⟨l,q1,rfl⟩:=j9 q;obtain⟨a1,a2,_,a4⟩:=zi R h q1;exact Fp a1 (vv a2) (by rw[a4];rw[Nat.ble_eq]at z⊢;exact wSa z (by decide))
 | List es p=>
  obtain⟨z,q⟩:=jj q;obtain⟨l,q1,rfl⟩:=j9 q;obtain⟨a1,a2,_,a4⟩:=zi R h q1;exact Fq a1 (vv a2) (by rw[a4];rw[Nat.ble_eq]at z⊢;exact wSa z (by decide))
 | Dict ks vs p=>
  cases ks <;> cases vs <;> cases q;exact DM
 | Attribute a f p=>
  dsimp only at q;split at q
  ·obtain⟨z1,q⟩:=jj q;obtain⟨d,q1,rfl⟩:=j9 q;exact Fy (jA R h q1) h.cl (h.fl _ (by assumption)) (ve z1) hK
  ·obtain⟨z1,q⟩:=jj q;obtain⟨d,q1,rfl⟩:=j9 q;exact hV (jA R h q1) (ve z1) hK h.xt.f
 | Subscript a b p=>
  obtain⟨hc,q⟩:=jj q;exact Eb R h hc q
 | ListComp elt gs sc p=>
  obtain⟨d,q1,rfl⟩:=j9 q;obtain⟨_,_,_,own,caps,di,g,dc,de,rfl,rfl,L⟩:=xY R h q1;exact Iu own caps L.S L.cp L.cm L.i L.g L.t L.e L.nd L.fs
 | Call f es ks p=>
  dsimp only at q;unfold HM at q;cases ks with
  | cons _ _=>cases q
  | nil=>
   cases f with
   | Name x p=>exact A7 R h q
   | Attribute a m p=>exact Ec R h q
   | _=>cases q
 | _=>
  cases q
omit R h in
theorem hZ(z:bL e=true):∀whole,isTrue e env whole=(do let v<-whole;standAt e.pos;holding [v] (truthy v)):=by
 cases e <;> first | (intro _;rfl) | cases z | skip
 rename_i op _ _;cases op <;> first | (intro _;rfl) | cases z
theorem Ed(hc:Γ.cm=true){os:List CmpOp}{bs:List Expr}{t:DT}(q:HN r Γ a os bs pos=some t):PT X (.Compare a os bs pos) (tT K t):=by
 rcases os with _ | ⟨o,_ | ⟨o',_ | ⟨_,_⟩⟩⟩ <;> rcases bs with _ | ⟨b,_ | ⟨c,_ | ⟨_,_⟩⟩⟩ <;> try (cases q;done)
 ·obtain⟨z,q⟩:=jj q;obtain⟨d,q1,q⟩:=j1 q;obtain⟨d',q2,q⟩:=j1 q;obtain⟨f,q3,rfl⟩:=j9 q;obtain⟨t,o1,o2⟩:=xT h hc q3;exact Fe o1 o2 (jA R h q1) (jA R h q2) (zZ z)
 ·obtain⟨z,q⟩:=jj q;obtain⟨d,q1,q⟩:=j1 q;obtain⟨d',q2,q⟩:=j1 q;obtain⟨d'',q3,q⟩:=j1 q;obtain⟨f,p1,q⟩:=j1 q;obtain⟨f',p2,rfl⟩:=j9 q;obtain⟨t,o1,o2⟩:=Zl h hc p1;obtain⟨t',o1',o2'⟩:=Zl h hc p2;exact Bx o1 o1' o2 o2' (jA R h q1) (jA R h q2) (jA R h q3) (zZ z)
theorem h_{t:DT}(q:cT r Γ e=some t):PT X e (tT K t):=by
 have fb:∀{e},cG (bL e) ((cV r Γ dV e).map JA)=some t->PT X e (tT K t):=fun q=>by
  obtain⟨z,q⟩:=jj q;obtain⟨d,q1,rfl⟩:=j9 q;exact Fd (jA R h q1) h.k (hZ z)
 cases e with
 | Compare a os bs p=>
  obtain⟨hc,q⟩:=jj q;exact Ed R h hc q
 | UnaryOp op a p=>
  cases op with
  | Not=>
   obtain⟨t,q1,rfl⟩:=j9 q;exact Ff (R.t h q1)
  | _=>exact fb q
 | BoolOp op vs p=>
  cases op with
  | And=>exact D4 (xV R h q)
  | Or=>exact D4 (bP R h q)
 | _=>exact fb q
omit R h in
theorem wZ(z:yc e=true):(assignEach (e::es) env)=(false,assign e env)::assignEach es env:=by
 cases e <;> first | rfl | cases z
theorem xZ{k:Nat}:∀{es:List Expr} {gs:xk},bM r Γ k es=some gs->uS X es (xl K k gs)/\(assignEach es X.env).length=es.length/\(assignEach es X.env).findIdx? (·.1)=none
 | [],_,q=>by cases q;exact⟨FE,rfl,rfl⟩
 | e::es,gs,q=>by
  unfold bM at q;obtain⟨z,q⟩:=jj q;obtain⟨g,q1,q⟩:=j1 q;obtain⟨gs',q2,rfl⟩:=j9 q;obtain⟨a1,a2,a3⟩:=xZ q2;refine⟨Dh (R.g h q1) a1 (by rw[wZ z];rfl),by rw[wZ z];simp[a2],?_⟩;rw[wZ z,List.findIdx?_cons,a3];rfl
theorem Ee{k:Nat}{g:DG}(q:eZ r Γ k e=some g):PG X e (tG K k g):=by
 unfold eZ at q;cases e with
 | Name x p=>
  obtain⟨i,q1,q⟩:=j1 q;obtain⟨z,q⟩:=jj q;cases q;obtain⟨s1,s2,s3,s4⟩:=GY h q1;exact Dg (B8 s1 s2 s3 s4) (Nat.blt_eq.mp z)
 | Tuple es k p=>
  obtain⟨hc,q⟩:=jj q;obtain⟨gs,q1,rfl⟩:=j9 q;obtain⟨a1,a2,a3⟩:=xZ R h q1;exact FF _ (h.calm hc) a1 a2 a3 h.k
 | _=>
  cases q
end
theorem G_:∀n:Nat,RcOk (rc n)
 | 0=>⟨(fun _ q=>by cases q),(fun _ q=>by cases q),(fun _ q=>by cases q)⟩
 | n+1=>⟨fun h q=>hX (G_ n) h q,fun h q=>h_ (G_ n) h q,fun h q=>Ee (G_ n) h q⟩
section
variable {r:Rc} {Γ:Gm} {X:Cx} {K:Fr} {x y:Str} {i:Nat} {e a b c tg:Expr} {es:List Expr} {pos:Pos} {d:DE}
def bR(h:OkX K Γ X)(z:HP Γ scope x np p=true):swapsWith (.ListComp elt [⟨tg,iter,ifs,aa⟩] scope p) (some (.Name x np)) l X.env=pure true:=by
 obtain⟨z,z4⟩:=jl z;obtain⟨z,z3⟩:=jl z;obtain⟨z1,z2⟩:=jl z;have k1:Γ.sc.kind=.function:=by
  split at z1
  ·assumption
  ·cases z1
 have e1:X.env.blockKind=.function:=by
  unfold Env.blockKind;rw[h.sc,k1];rfl
 have e2:X.env.kindOf x=some .local:=by
  show X.env.scope.names.lookup x=_;rw[h.sc];exact wW z2
 show(pure (X.env.blockKind==.function&&X.env.kindOf x==some .local&&np.line==p.line&&!(scope.names.any fun(n,k)=>n==x&&(k==.local||k==.cell))):Sem Bool)=pure true;rw[e1,e2,z3,z4];rfl
def x_(z:wU j=true):∀v,assign (.Subscript o j pos) env v=(do
   let ov<-holding [v] (eval o env)
   let iv<-holding [v,ov] (eval j env)
   standAt pos
   holding [v,ov,iv] (setItem ov iv v)
   release [v,ov,iv] []):=by
 cases j <;> first | (intro _;rfl) | cases z
def w_(h:VZ e=true):swapsWithSole [tg] e l env=pure false:=by
 unfold swapsWithSole;exact zh h
def X0:swappedStores [.Subscript o j p] e env=pure none:=by
 cases e <;> rfl
def Ef(z:(!UY e)=true):swappedStores [.Tuple es n p] e env=pure none:=by
 cases e <;> first | rfl | cases z
variable (R:RcOk r) (h:OkX K Γ X)
include R h
set_option tactic.hygienic false
set_option tactic.hygienic true in
theorem bS{d:DO}(q:cF r Γ e=some d):PE X e (tF K d):=by
 unfold cF at q;split at q
 ·rename_i hn;cases q;exact R.n h hn
 ·cases q
theorem Eg{np:Pos}{d:DS.DS}(q0:HQ r Γ x np e=some d):PS X (.Assign [.Name x np] e pos) (tS K Px d):=by
 obtain⟨i,s0,q0⟩:=j1 q0;obtain⟨s1,s2,s3,s4⟩:=GY h s0;have fb:∀{e},cG (VZ e) (if Γ.ow.contains i then(cF r Γ e).map (JB i)else(cV r Γ dC e).map (ji i))=some d->PS X (.Assign [.Name x np] e pos) (tS K Px d):=fun q0=>by
  obtain⟨z,q0⟩:=jj q0;split at q0
  ·obtain⟨d0,q1,rfl⟩:=j9 q0;exact bn (KU s1 s2 s3 (bS R h q1) (zh z) s4)
  ·obtain⟨d0,q1,rfl⟩:=j9 q0;exact bj (KU s1 s2 s3 (yL R h q1) (zh z) s4)
 cases e with
 | ListComp elt gs scope p=>
  obtain⟨d0,q1,q0⟩:=j1 q0;obtain⟨z2,q0⟩:=jj q0;cases q0;obtain⟨_,_,_,own,caps,di,g,dc,de,rfl,rfl,L⟩:=xY R h q1;split
  ·exact BE own caps s1 s2 s3 L.S L.cp L.cm L.i L.g L.t L.e L.nd L.fs (bR h z2) s4
  ·exact BF own caps s1 s2 s3 L.S L.cp L.cm L.i L.g L.t L.e L.nd L.fs (bR h z2) s4
 | _=>exact fb q0
theorem Eh{t:Expr}{d:DS.DS}(q0:e_ r Γ t e=some d):PS X (.Assign [t] e pos) (tS K Px d):=by
 unfold e_ at q0;cases t with
 | Name x p=>
  exact Eg R h q0
 | Attribute o f p=>
  obtain⟨i,s9,q9⟩:=j1 q0;clear q0;obtain⟨x,p,rfl,s0⟩:=YV s9;obtain⟨z,q0⟩:=jj q9;obtain⟨z1,z2⟩:=jl z;obtain⟨d0,q1,rfl⟩:=j9 q0;exact DF (d6 (yY h s0) (yL R h q1) (zh z1)) h.cl (h.fl _ z2) h.k
 | Subscript o j p=>
  obtain⟨i,s9,q9⟩:=j1 q0;clear q0;obtain⟨x,p,rfl,s0⟩:=YV s9;obtain⟨z,q0⟩:=jj q9;obtain⟨z,hc⟩:=jl z;obtain⟨z1,z2⟩:=jl z;have hK:=h.k;subst hK;split at q0
  ·obtain⟨dx,q1,q0⟩:=j1 q0;obtain⟨d0,q2,rfl⟩:=j9 q0;exact FN (KT (yL R h q2) (QI (yY h s0) (yL R h q1) (BK (h.room hc)) (x_ z2)) (w_ z1) X0)
  ·obtain⟨dx,q1,q0⟩:=j1 q0;obtain⟨d0,q2,rfl⟩:=j9 q0;exact Dq (KT (yL R h q2) (QI (yY h s0) (jA R h q1) XX (x_ z2)) (w_ z1) X0)
 | Tuple es k p=>
  obtain⟨z,q0⟩:=jj q0;obtain⟨z1,z2⟩:=jl z;obtain⟨d0,q1,q0⟩:=j1 q0;obtain⟨g,q2,rfl⟩:=j9 q0;exact FG (KT (yL R h q1) (R.g h q2) (w_ z1) (Ef z2))
 | _=>
  cases q0
theorem Ei{t:Expr}{op:Operator}{d:DS.DS}(q0:E1 r Γ t op e=some d):PS X (.AugAssign t op e pos) (tS K Px d):=by
 unfold E1 at q0;cases t with
 | Name x p=>
  obtain⟨i,s0,q0⟩:=j1 q0;obtain⟨d0,q1,q0⟩:=j1 q0;obtain⟨s1,s2,s3,s4⟩:=GY h s0;split at q0
  ·cases q0;exact bp (QJ s1 s2 s3 (jA R h q1) CH s4)
  ·cases q0;exact bp (QJ s1 s2 s3 (jA R h q1) CI s4)
  ·cases q0
 | _=>
  cases q0
theorem Ej{f:Expr}{es:List Expr}{ks:List Keyword}{p:Pos}{d:DS.DS}(q0:HR r Γ f es ks p=some d):PS X (.Expr (.Call f es ks p) pos) (tS K Px d):=by
 cases f <;> try (cases q0;done)
 rcases es with _ | ⟨e,_ | ⟨e2,_ | ⟨_,_⟩⟩⟩ <;> rcases ks with _ | ⟨_,_⟩ <;> try (cases q0;done)
 ·obtain⟨i,s9,q9⟩:=j1 q0;clear q0;obtain⟨x,np,rfl,s0⟩:=YV s9;obtain⟨z,q0⟩:=jj q9;obtain⟨z,z3⟩:=jl z;obtain⟨z1,z2⟩:=jl z;obtain⟨d0,q1,rfl⟩:=j9 q0;have e1:=vLa z1;have hK:=h.k;subst e1 hK;exact aA (Vq (iP (yY h s0) (Jj (yL R h q1) yQ (jM z2)) rfl (by rw[jM z2];rfl) z3 (jM z2)))
 ·obtain⟨i,s9,q9⟩:=j1 q0;clear q0;obtain⟨x,np,rfl,s0⟩:=YV s9;obtain⟨z,q0⟩:=jj q9;obtain⟨z,z4⟩:=jl z;obtain⟨z,z3⟩:=jl z;obtain⟨z1,z2⟩:=jl z;obtain⟨d0,q1,q0⟩:=j1 q0;obtain⟨d1,q2,rfl⟩:=j9 q0;have e1:=vLa z1;have hK:=h.k;subst e1 hK;exact aL (Vq (FT (yY h s0) (Jj (jA R h q1) (Jj (yL R h q2) yQ (jM z3)) (by rw[jM z2])) (by rw[jM z2,jM z3];rfl) z4 (jM z2) (by rw[jM z3];rfl)))
end
section
variable {P:Program} {w:World} {K K':Fr} {mg:Tj} {base:Heap} {C:Addr} {g:GI} {x:Str}
def wV.mono{r r':Nat->Prop}(m:∀k,r k->r' k)(h:wV P w K' mg base C r K x g):wV P w K' mg base C r' K x g:=by
 cases g with
 | con i=>exact h
 | blt=>exact h
 | fE k ps ks F=>exact⟨h.1,m _ h.2⟩
 | fF k ps ks F=>exact⟨h.1,m _ h.2⟩
 | mk k ps ks F G=>exact⟨h.1,h.2.1,m _ h.2.2⟩
 | fX k ps ks F=>exact⟨h.1,m _ h.2⟩
def qk.mono{r r':Nat->Prop}(m:∀k,r k->r' k)(h:qk P w K' mg base C r K x g):qk P w K' mg base C r' K x g:=by
 cases g with
 | con i=>exact h
 | blt=>exact h
 | fE k ps ks F=>exact⟨h.1,m _ h.2⟩
 | fF k ps ks F=>exact⟨h.1,m _ h.2⟩
 | mk k ps ks F G=>exact h
 | fX k ps ks F=>exact h
end
structure XmOk (K:Fr) (Γ:Gm) (X:Cx) (E:XK):Prop where
 ps:za (yu X.prog X.w) X E
 rz:∀x∈Γ.xt.xp,Uk Γ x=true->∀(np cpos pos cp:Pos) (z:Str) (j:Nat),PS X (.Raise (some (.Call (.Name x np) [.Constant (.str z) j cp] [] cpos)) none pos) (fun _ _ H=>E (.ref (jG K x)) none H)
 rf:∀x fs,Γ.xt.xq.lookup x=some fs->Uk Γ x=true->∀(np cpos pos:Pos) (a:Expr) (es:List Expr) (l:DA),PA X (a::es) (Yp K l)->(∀e∈a::es,yc e=true)->
  PS X (.Raise (some (.Call (.Name x np) (a::es) [] cpos)) none pos) (fun _ U H=>Yp K l U H fun vs H1=>vs.length=fs.length/\∀dx,H1 dx=none->E (.ref (jG K x)) (some dx) (upd H1 dx (xW dx (fs.zip vs).reverse)))
structure OkS (K:Fr) (Γ:Gm) (X:Cx) (Px:Xp->Hp->Prop):Prop where
 x:OkX K Γ X
 hp:PassesOwn (model X.prog X.w) X.A X.env X.xe
 st:X.stack=X.env::X.outer
 fr:X.env.frame=some X.env.locals
 xm:Γ.xm=true->∃E,Px=PX K E/\XmOk K Γ X E
section
variable {r:Rc} {q:Gm->List Stmt->Option DS.DS} {Γ:Gm} {X:Cx} {K:Fr} {Px:Xp->Hp->Prop}
def OkX.nox(h:OkX K Γ X):OkX K Γ X.nox:=⟨h.xt,h.n,h.sc,h.nd,h.calm,h.k,h.room,h.fn,h.gs,h.ms,h.cl,h.fl⟩
def OkS.nox(h:OkS K Γ X Px):OkS K Γ.nox X.nox Px:=⟨⟨h.x.xt,h.x.n,h.x.sc,h.x.nd,h.x.calm,h.x.k,h.x.room,h.x.fn,h.x.gs,h.x.ms,h.x.cl,h.x.fl⟩,PassesOwn.never,h.st,h.fr,fun z=>nomatch z⟩
def OkS.sui(h:OkS K Γ X Px){e:Addr}:OkS K Γ.sui (X.sui e) Px:=⟨⟨h.x.xt,h.x.n,h.x.sc,h.x.nd,(fun z=>nomatch z),h.x.k,(fun z=>nomatch z),h.x.fn,(fun x g e=>(h.x.gs x g e).mono fun _ _ z=>nomatch z),(fun x g e=>(h.x.ms x g e).mono fun _ _ z=>nomatch z),h.x.cl,h.x.fl⟩,PassesOwn.never,h.st,h.fr,fun z=>nomatch z⟩
variable (R:RcOk r) (h:OkS K Γ X Px)
include R h
omit h in
theorem qt{X:Cx}(h:OkX K Γ X){e:Expr}{dx:DX}(q0:GV r Γ e=some dx):∃x np ea es p k ps ks F l,e=.Call (.Name x np) (ea::es) [] p/\dx=J4 F l/\(∃f fd,FnOk X.prog X.w X.K X.mg X.base (yu X.prog X.w) k f fd ps (Ko K ks F)/\JX X.K fd ps []/\PySem.W.keepIn X.K (.ref f)=true/\X.mg x=some (.ref f))/\Room k X.A/\cA r Γ ks (ea::es)=some l/\Gl X x/\(x==("__debug__" : Str))=false:=by
 cases e with
 | Call f es ks p=>
  cases f with
  | Name x np=>
   cases ks with
   | cons _ _=>cases q0
   | nil=>
    obtain⟨z,q1⟩:=jj q0;clear q0;obtain⟨z,hc⟩:=jl z;obtain⟨z1,z2⟩:=jl z;obtain⟨g1,g2⟩:=ZV h z1;cases es with
    | nil=>cases z2
    | cons ea es=>
    split at q1
    ·have G:=h.gs _ _ (by assumption);obtain⟨l,a1,rfl⟩:=j9 q1;exact⟨x,np,ea,es,p,_,_,_,_,l,rfl,rfl,G.1,G.2 hc,a1,g1,g2⟩
    ·cases q1
  | _=>cases q0
 | _=>cases q0
theorem X6{E:XK}(M:XmOk K Γ X E){e:Expr}{dx:DX}(q0:GV r Γ e=some dx):PE X e (tX K E dx)/\(∀t l,swapsWith e t l X.env=pure false):=by
 obtain⟨x,np,ea,es,p,k,ps,ks,F,l,rfl,rfl,⟨f,fd,G,hb,hk,hm⟩,hr,a1,g1,g2⟩:=qt R h.x q0;obtain⟨b1,b2,b3,_⟩:=zi R h.x a1;exact⟨eF G hr hm hk hb M.ps b1 b2 g1 g2 (jM (b3 _ wNa)) (zK fun z hz=>b3 z (wMa _ hz)),fun _ _=>zh rfl⟩
theorem W0{e:Expr}{dx:DX}(q0:xR r Γ e=some dx):∃E,Px=PX K E/\PE X e (tX K E dx)/\(∀t l,swapsWith e t l X.env=pure false):=by
 unfold xR at q0;cases hx:Γ.xm with
 | false=>rw[hx]at q0;cases q0
 | true=>
  rw[hx]at q0;obtain⟨E,e1,M⟩:=h.xm hx;refine⟨E,e1,?_⟩;cases hc:GV r Γ e with
  | some dx'=>rw[hc]at q0;cases q0;exact X6 R h M hc
  | none=>
   rw[hc]at q0;have q0:HU r Γ e=some dx:=q0;cases e with
   | Call f es ks p=>
    cases f with
    | Name x np=>
     rcases es with _ | ⟨a,_ | ⟨b,_ | ⟨_,_⟩⟩⟩ <;> rcases ks with _ | ⟨_,_⟩ <;> try (cases q0;done)
     obtain⟨z,q1⟩:=jj q0;obtain⟨z,z4⟩:=jl z;obtain⟨z,z3⟩:=jl z;obtain⟨z1,z2⟩:=jl z;obtain⟨g1,g2⟩:=ZV h.x z1;split at q1
     ·have G:=h.x.gs _ _ (by assumption);obtain⟨da,a1,q2⟩:=j1 q1;obtain⟨dx',a2,rfl⟩:=j9 q2;exact⟨eK (IK G.1) (G.2 z2) (jA R h.x a1) (X6 R h M a2).1 g1 g2 (jM z3) (jM z4) (zK fun y hy=>by rw[List.mem_singleton.mp hy];exact z4),fun _ _=>zh rfl⟩
     ·cases q1
    | _=>cases q0
   | _=>cases q0
theorem Ek{e:Expr}{pos:Pos}{d:DS.DS}(q0:HV r Γ e=some d):PS X (.Raise (some e) none pos) (tS K Px d):=by
 cases e with
 | Call f es ks p=>
  cases f with
  | Name x np=>
   cases ks with
   | cons _ _=>cases q0
   | nil=>
    obtain⟨z,q1⟩:=jj q0;clear q0;obtain⟨z1,z2⟩:=jl z;obtain⟨E,rfl,M⟩:=h.xm z1;cases hl:Γ.xt.xq.lookup x with
    | some fs=>
     rw[hl]at q1;obtain⟨z3,q1⟩:=jj q1;obtain⟨l,a1,rfl⟩:=j9 q1;cases es with
     | nil=>cases z3
     | cons ea es=>
      obtain⟨b1,b2,b3,_⟩:=zi R h.x a1;exact F_ (M.rf x fs hl z2 np p pos ea es l b1 b3)
    | none=>
     rw[hl]at q1;obtain⟨z3,q1⟩:=jj q1;rcases es with _ | ⟨a,_ | ⟨_,_⟩⟩ <;> try (cases q1;done)
     obtain⟨z4,q1⟩:=jj q1;cases q1;cases a with
     | Constant c k p'=>
      cases c <;> try (cases z4;done)
      exact IJ (M.rz x (List.contains_iff_mem.mp z3) z2 _ _ _ _ _ _)
     | _=>cases z4
  | _=>cases q0
 | _=>cases q0
theorem El{bd:List Stmt}{dx:DX}(q0:HW r Γ bd=some dx):qf X bd (xN K dx):=by
 have key:∀{e:Expr},GV r Γ e=some dx->qg X e (xN K dx)/\∀t l,swapsWith e t l X.env=pure false:=fun q1=>by
  obtain⟨x,np,ea,es,p,k,ps,ks,F,l,rfl,rfl,⟨f,fd,G,hb,hk,hm⟩,hr,a1,g1,g2⟩:=qt R h.x q1;obtain⟨b1,b2,b3,_⟩:=zi R h.x.nox a1;exact⟨cu G hr hm hk hb b1 b2 g1 g2 (jM (b3 _ wNa)) (zK fun z hz=>b3 z (wMa _ hz)),fun _ _=>zh rfl⟩
 rcases bd with _ | ⟨s,_ | ⟨_,_⟩⟩ <;> try (cases q0;done)
 cases s with
 | Expr e p=>
  obtain⟨k1,k2⟩:=key q0;exact BZ k1 (k2 _ _)
 | Assign ts e p=>
  rcases ts with _ | ⟨t,_ | ⟨_,_⟩⟩ <;> try (cases q0;done)
  cases t with
  | Name y p'=>
   obtain⟨k1,k2⟩:=key q0;exact DZ k1 (k2 _ _)
  | _=>cases q0
 | Return o p=>
  cases o with
  | none=>cases q0
  | some e=>exact D_ (key q0).1
 | _=>cases q0
theorem X7(Q:∀{Γ' X'},OkS K Γ' X' Px->∀l d,q Γ' l=some d->Ji X' l (tS K Px d)):∀{hs:List ExceptHandler} {l:List Hd},E2 q Γ hs=some l->PH X hs (wR K Px l)
 | [],_,q0=>by cases q0;exact eJ
 | .ExceptHandler t n b p::hs,l,q0=>by
  cases t with
  | none=>cases q0
  | some t=>
  cases t with
  | Name x np=>
   cases n with
   | none=>cases q0
   | some n=>
   cases b with
   | nil=>cases q0
   | cons b₀ su=>
    obtain⟨c,c1,q1⟩:=j1 q0;obtain⟨i,c2,q2⟩:=j1 q1;obtain⟨z,q3⟩:=jj q2;obtain⟨d,c3,q4⟩:=j1 q3;obtain⟨l',c4,rfl⟩:=j9 q4;obtain⟨z1,z2⟩:=jl z;obtain⟨g1,g2⟩:=ZV h.x z1;obtain⟨u1,u2,u3,u4⟩:=wX c2;obtain⟨m1,m2,m3⟩:=h.x.xt.c _ (kQ c1);exact cr (by rw[h.x.n];exact h.x.nd) (by rw[h.x.n];exact V_ u1) (by show X.env.scope.names.lookup n=_;rw[h.x.sc];exact wW z2) g1 m1 g2 h.x.k m2 m3 (fun e=>Q h.sui _ _ c3) (X7 Q c4)
  | _=>cases q0
set_option tactic.hygienic true in
theorem Ha{s:Stmt}{d:DS.DS}(Q:∀{Γ' X'},OkS K Γ' X' Px->∀l d,q Γ' l=some d->Ji X' l (tS K Px d))(q0:cS r q Γ s=some d):PS X s (tS K Px d):=by
 have Qh:=fun l d=>Q h l d;unfold cS at q0;cases s with
 | Assign ts e p=>
  rcases ts with _ | ⟨t,_ | ⟨_,_⟩⟩ <;> try (cases q0;done)
  dsimp only at q0;split at q0
  ·rename_i dx hx;obtain⟨E,rfl,k1,k2⟩:=W0 R h hx;cases t with
   | Name x np=>
    obtain⟨i,s0,rfl⟩:=j9 q0;obtain⟨s1,s2,s3,s4⟩:=GY h.x s0;exact eG (KU s1 s2 s3 k1 (k2 _ _) s4)
   | _=>cases q0
  ·exact Eh R h.x q0
 | AugAssign t op e p=>
  exact Ei R h.x q0
 | Expr e p=>
  dsimp only at q0;split at q0
  ·rename_i dx hx;obtain⟨E,rfl,k1,k2⟩:=W0 R h hx;cases q0;exact cq (Vq k1 (k2 _ _))
  ·have fb:∀{e},cG (VZ e) ((cV r Γ dV e).map GM)=some d->PS X (.Expr e p) (tS K Px d):=fun q0=>by
    obtain⟨z,q0⟩:=jj q0;obtain⟨d0,q1,rfl⟩:=j9 q0;exact xr (Vq (jA R h.x q1) (zh z))
   unfold HS at q0;cases e with
   | Call f es ks p'=>
    dsimp only at q0;split at q0
    ·cases q0;exact Ej R h.x (by assumption)
    ·obtain⟨d0,q1,rfl⟩:=j9 q0;exact xr (Vq (jA R h.x q1) (zh rfl))
   | _=>exact fb q0
 | Return o p=>
  cases o with
  | none=>cases q0;exact Dt
  | some e=>
  dsimp only at q0;split at q0
  ·rename_i dx hx;obtain⟨E,rfl,k1,k2⟩:=W0 R h hx;cases q0;exact eH k1
  ·split at q0
   ·rename_i hn;obtain⟨x,p,rfl,hs⟩:=YV hn;split at q0
    ·cases q0;exact Ds (yY h.x hs)
    ·cases q0;exact bq (b8 _ (yY h.x hs))
   ·split at q0
    ·obtain⟨d0,q1,rfl⟩:=j9 q0;exact Dr (bS R h.x q1)
    ·obtain⟨d0,q1,rfl⟩:=j9 q0;exact bq (yL R h.x q1)
 | If c a b p=>
  obtain⟨t,q1,q0⟩:=j1 q0;obtain⟨u,q2,q0⟩:=j1 q0;obtain⟨v,q3,rfl⟩:=j9 q0;exact Iv (R.t h.x q1) (Qh _ _ q2) (Qh _ _ q3)
 | While c b o p=>
  cases o with
  | cons _ _=>cases q0
  | nil=>
   obtain⟨t,q1,q0⟩:=j1 q0;obtain⟨u,q2,rfl⟩:=j9 q0;exact BD _ h.hp (R.t h.x q1) (Qh _ _ q2)
 | For tg it b o p=>
  cases o with
  | cons _ _=>cases q0
  | nil=>
   obtain⟨z,q0⟩:=jj q0;obtain⟨z,hc⟩:=jl z;obtain⟨di,q1,q0⟩:=j1 q0;obtain⟨g,q2,q0⟩:=j1 q0;obtain⟨u,q3,rfl⟩:=j9 q0;exact FH h.hp (h.x.calm hc) (bQ R h.x q1) (R.g h.x q2) (Qh _ _ q3) (qo z)
 | Raise e o p=>
  cases e <;> cases o <;> try (cases q0;done)
  dsimp only at q0;split at q0
  ·exact Ek R h q0
  ·cases q0;exact BR
 | Try bd hs o fb p=>
  obtain⟨z,q0⟩:=jj q0;obtain⟨z,z3⟩:=jl z;obtain⟨z1,z2⟩:=jl z;obtain⟨dx,q1,q0⟩:=j1 q0;obtain⟨db,q2,q0⟩:=j1 q0;obtain⟨l,q3,rfl⟩:=j9 q0;have e1:=List.isEmpty_iff.mp z1;have e2:=List.isEmpty_iff.mp z2;subst e1 e2;cases hs with
  | nil=>cases z3
  | cons h0 hs=>exact hW (El R h q1) (Q h.nox _ _ q2) (X7 R h Q q3) h.st h.fr
 | _=>
  cases q0
omit R h in
theorem k6{l:Nat}{st:List Stmt}:∀{sh:List (Nat×Nat)} {d:DS.DS},Ji X st (tS K Px d)->Ji X st (tS K Px (qj l sh d))
 | [],_,h=>h
 | (m,i)::r,d,h=>by
  unfold qj;split
  ·exact ay i (k6 h)
  ·exact k6 h
theorem X8(Q:∀{Γ' X'},OkS K Γ' X' Px->∀l d,q Γ' l=some d->Ji X' l (tS K Px d)):∀{l:List Stmt} {d:DS.DS},bN r q Γ l=some d->Ji X l (tS K Px d)
 | [],_,q0=>by cases q0;exact Dk
 | s::t,d,q0=>by
  unfold bN at q0;split at q0
  ·cases q0;exact ax
  ·obtain⟨d1,q1,q0⟩:=j1 q0;have h1:=Ha R h Q q1;split at q0
   ·cases q0;exact k6 (Dl h1)
   ·obtain⟨d2,q2,rfl⟩:=j9 q0;exact k6 (BC h1 (X8 Q q2))
omit h in
theorem Qt:∀(n:Nat) {Γ:Gm} {X:Cx},OkS K Γ X Px->∀{l:List Stmt} {d:DS.DS},cQ r n Γ l=some d->Ji X l (tS K Px d)
 | 0,_,_,_,_,_,q=>by cases q
 | n+1,_,_,h,_,_,q=>X8 R h (fun h' l d q=>Qt n h' q) q
end
structure De where
 x:Str
 q:Str
 st:Stmt
 ps:List Str
 lo:List Str
 ks:List Bool
 b:DS.DS
 hs:List ((Nat×Nat×Nat)×List Nat)
 sh:List (Nat×Nat)
 ow:List Nat
structure Tb where
 C:Addr
 gs:List (Str×GI)
 ms:List (Str×GI)
 fl:List Str
 xt:XT:={}
def gm(T:Tb)(d:De)(kF:Bool)(xm:Bool:=false):Gm:={ cm:=true,xm:=xm,xt:=T.xt,N:=d.ps++d.lo,sc:=defScope d.st,fn:=true,kF:=kF,C:=T.C,gs:=T.gs,ms:=T.ms,fl:=T.fl,hs:=d.hs,sh:=d.sh,ow:=d.ow }
def bT(N ps:List Str)(sc:Scope):Bool:=(match sc.kind with | .function=>true | _=>false)&&!sc.isCoroutine&&!sc.isGenerator&&kU N&&ps.all (wS sc)&&sc.names.all fun y=>match y.2 with | .free=>false | _=>true
def u6{ps lo:List Str}{sc:Scope}(h:bT (ps++lo) ps sc=true):FnScope (ps++lo) ps sc:=by
 obtain⟨h,h6⟩:=jl h;obtain⟨h,h5⟩:=jl h;obtain⟨h,h4⟩:=jl h;obtain⟨h,h3⟩:=jl h;obtain⟨h1,h2⟩:=jl h;refine⟨?_,zZ h2,zZ h3,g6 h4,by simp,fun x hx=>xS (List.all_eq_true.mp h5 x hx),fun y hy e=>?_⟩
 ·split at h1
  ·assumption
  ·cases h1
 ·have:=List.all_eq_true.mp h6 y hy;rw[e]at this;cases this
def Bd(x q:Str)(st:Stmt)(ps:List Str):Prop:=∀(kV doc pm:Value) (an:Option Addr) (cdv ct:Value) (us:List Value),us.length=ps.length->bindArgs (PySem.W.fnOf x q (defArgs st) (defBody st) (defScope st) .none kV doc pm an cdv ct) ⟨us,[]⟩=pure (ps.zip us)
def Um(T:Tb)(d:De)(kF:Bool):Option DS.DS:=cG (bT (d.ps++d.lo) d.ps (defScope d.st)) (cQ (rc 30) 30 (gm T d kF) (defBody d.st))
noncomputable def W3:List Value:=[.type "ValueError",.type "Exception",.type "BaseException",.type "object"]
def W4(P:Program)(w:World)(K:Fr)(mg:Tj)(base:Heap)(n:Nat)(x:Str)(fs:List Str):Prop:=∃C fi fd ps k,W.nsIn K mainGlobals x=some (some (.ref C))/\VB K C W3 "ValueError.__new__" fi=true/\W.keepIn K (.ref C)=true/\W.typeIn K (.ref fi)=some (.type "function")/\FnOk P w K mg base Y4 k fi fd ps (bD C fs)/\fs.length<=1000/\ps.length=fs.length+1/\JX K fd ps []/\k+1<=n
def W4.mono{P:Program}{w:World}{K:Fr}{mg:Tj}{base:Heap}{n m:Nat}{x:Str}{fs:List Str}(h:W4 P w K mg base n x fs)(l:n<=m):W4 P w K mg base m x fs:=by
 obtain⟨C,fi,fd,ps,k,a1,a2,a3,a4,a5,a6,a7,a8,a9⟩:=h;exact⟨C,fi,fd,ps,k,a1,a2,a3,a4,a5,a6,a7,a8,wSa a9 l⟩
structure TOk (P:Program) (w:World) (K:Fr) (mg:Tj) (base:Heap) (n:Nat) (T:Tb):Prop where
 gs:∀p∈T.gs,wV P w K mg base T.C (·<=n) K p.1 p.2
 ms:∀p∈T.ms,qk P w K mg base T.C (·<=n) K p.1 p.2
 cl:Cls K T.C
 fl:∀f∈T.fl,Yy K T.C f
 xt:XTok K mg T.xt
 xp:∀x∈T.xt.xp,∃C,W.nsIn K mainGlobals x=some (some (.ref C))/\W.excIn K C W3 "ValueError.__new__" = true
 xq:∀x fs,T.xt.xq.lookup x=some fs->W4 P w K mg base n x fs
section
variable {P:Program} {w:World} {K:Fr} {mg:Tj} {base:Heap} {f C:Addr} {fd:FuncData} {n:Nat} {T:Tb} {d:De} {g:GI} {x:Str}
def TOk.mono{m:Nat}(h:TOk P w K mg base n T)(l:n<=m):TOk P w K mg base m T:=
 ⟨fun p hp=>(h.gs p hp).mono fun _ z=>wSa z l,fun p hp=>(h.ms p hp).mono fun _ z=>wSa z l,h.cl,h.fl,h.xt,h.xp,fun x fs e=>(h.xq x fs e).mono l⟩
set_option tactic.hygienic true in
theorem Ga{α:Type}{x:Str}{g:α}:∀{l:List (Str×α)},l.lookup x=some g->(x,g)∈l
 | [],h=>by cases h
 | (y,g')::r,h=>by
  rw[List.lookup_cons]at h;split at h
  ·rename_i e;cases h;rw[eq_of_beq e];exact wNa
  ·exact wMa _ (Ga h)
def HX{kF xm:Bool}{cdv:Value}{A:Around}{outer:List Env}{s:Shared}{H:Hp}{E:XK}{CX:uz}(h:TOk P w K mg base n T)(S:FnScope (d.ps++d.lo) d.ps (defScope d.st))(hr:Room n (A.deeper (envOfC d.q (defScope d.st) s.heap.objs.size f cdv))):
  OkX K (gm T d kF xm) (Js CX P w K mg base (d.ps++d.lo) d.q (defScope d.st) f cdv A outer s H E) where
 n:=rfl
 sc:=rfl
 nd:=S.nd
 calm:=fun _=>rfl
 k:=rfl
 room:=fun _=>hr.mono (Nat.zero_le _)
 fn:=fun _ _=>rfl
 gs:=fun x g e=>(h.gs _ (Ga e)).mono fun k z _=>hr.mono z
 ms:=fun x g e=>(h.ms _ (Ga e)).mono fun k z _=>hr.mono z
 cl:=h.cl
 fl:=fun f e=>h.fl f (List.contains_iff_mem.mp e)
 xt:=h.xt
def Qu(T:Tb)(d:De):Option DS.DS:=cG (bT (d.ps++d.lo) d.ps (defScope d.st)) (cQ (rc 30) 30 (gm T d false true) (defBody d.st))
def kW{kF:Bool}{b:DS.DS}{cdv:Value}{A:Around}{outer:List Env}{s:Shared}{H:Hp}{E:XK}(h:TOk P w K mg base n T)(c:Um T d kF=some b)(hr:Room n (A.deeper (envOfC d.q (defScope d.st) s.heap.objs.size f cdv))):
  Ji (Js Y4 P w K mg base (d.ps++d.lo) d.q (defScope d.st) f cdv A outer s H E).nox (defBody d.st) (tS K (fun _ _=>False) b):=by
 obtain⟨c1,c2⟩:=jj c;exact Qt (G_ 30) 30 ⟨(HX (kF:=kF) (xm:=false) h (u6 c1) hr).nox,PassesOwn.never,rfl,rfl,fun z=>nomatch z⟩ c2
def A8{b:DS.DS}{cdv:Value}{A:Around}{outer:List Env}{s:Shared}{H:Hp}{E:XK}(h:TOk P w K mg base n T)(c:Qu T d=some b)(hr:Room n (A.deeper (envOfC d.q (defScope d.st) s.heap.objs.size f cdv))):
  Ji (Js (yu P w) P w K mg base (d.ps++d.lo) d.q (defScope d.st) f cdv A outer s H E) (defBody d.st) (tS K (PX K E) b):=by
 obtain⟨c1,c2⟩:=jj c;have ok:=HX (kF:=false) (xm:=true) (E:=E) (outer:=outer) (H:=H) (CX:=yu P w) h (u6 c1) hr;refine Qt (G_ 30) 30 ⟨ok,PassesOwn.leaving,rfl,rfl,fun _=>⟨E,rfl,eh,fun x hx hg np cpos pos cp z j=>?_,fun x fs hx hg np cpos pos a es l ha hn=>?_⟩⟩ c2
 ·obtain⟨C,e1,e2⟩:=h.xp x hx;obtain⟨g1,g2⟩:=ZV ok hg;rw[GE e1];exact aO e1 e2 PySem.F.excBase_ValueError g1 g2
 ·obtain⟨C,fi,fd',ps,k,e1,e2,kp,ft,FI,hz,hps,hb,hk⟩:=h.xq x fs hx;obtain⟨g1,g2⟩:=ZV ok hg;rw[GE e1];exact xL e1 e2 PySem.F.excBase_ValueError kp ft FI hz hps hb (hr.mono hk) g1 g2 ha (jM (hn _ wNa)) (zK fun y hy=>hn y (wMa _ hy))
def lx(h:TOk P w K mg base n T)(F:Fun K d.x d.q d.st f fd)(c:Qu T d=some d.b)(hk:d.ks.length=d.ps.length):FnOk P w K mg base (yu P w) (n+1) f fd d.ps (Ko K d.ks (Zj d.ks d.lo.length d.b)):=
 FZ F (u6 (jj c).1) hk (by simp) fun cdv A outer s H E hr=>A8 h c hr
def bU(h:TOk P w K mg base n T)(F:Fun K d.x d.q d.st f fd)(c:Um T d false=some d.b)(hk:d.ks.length=d.ps.length):FnOk P w K mg base Y4 (n+1) f fd d.ps (Vx K d.ks (Jd d.ks d.lo.length d.b)):=
 Iy F (u6 (jj c).1) hk (by simp) fun cdv A outer s H E hr=>kW h c hr
def HY(h:TOk P w K mg base n T)(F:Fun K d.x d.q d.st f fd)(c:Um T d true=some d.b)(hk:d.ks.length=d.ps.length):FnOk P w K mg base Y4 (n+1) f fd d.ps (WX K d.ks (Vz d.ks d.lo.length d.b)):=
 Iz F (u6 (jj c).1) hk (by simp) fun cdv A outer s H E hr=>kW h c hr
def ly(h:TOk P w K mg base n T)(F:Fun K d.x d.q d.st f fd)(c:Um T d false=some d.b)(hk:d.ks.length+1=d.ps.length):FnOk P w K mg base Y4 (n+1) f fd d.ps (bi K C d.ks (xy C d.ks d.lo.length d.b)):=
 IA F (u6 (jj c).1) hk (by simp) fun cdv A outer s H E hr=>kW h c hr
def At(K:Fr)(x q:Str)(st:Stmt):Prop:=∃f fd,W.nsIn K mainGlobals x=some (some (.ref f))/\Fun K x q st f fd
def qu(K:Fr)(C:Addr)(x q:Str)(st:Stmt):Prop:=∃f fd,W.findIn K (.ref C) x=some (some (.ref f))/\W.isFn K (.ref f)=true/\Fun K x q st f fd
def Hb{q:Str}{st:Stmt}(a:W.nsIn K mainGlobals x=some (some (.ref f)))(F:Fun K x q st f fd):At K x q st:=⟨f,fd,a,F⟩
def Em{q:Str}{st:Stmt}(a:W.findIn K (.ref C) x=some (some (.ref f)))(i:W.isFn K (.ref f)=true)(F:Fun K x q st f fd):qu K C x q st:=⟨f,fd,a,i,F⟩
def G0(K:Fr)(x:Str):GI->Prop
 | .con i=>∃t,W.nsIn K mainGlobals x=some (some (.int i t))
 | .blt=>W.nsIn K mainGlobals x=some none
 | _=>False
def Hc(XG:∀x v,W.nsIn K mainGlobals x=some (some v)->mg x=some v)(XN:∀x,W.nsIn K mainGlobals x=some none->mg x=none)(h:G0 K x g):wV P w K mg base C rm K x g:=by
 cases g with
 | con i=>obtain⟨t,h⟩:=h;exact⟨t,XG _ _ h⟩
 | blt=>exact XN _ h
 | _=>exact h.elim
noncomputable def Tb.ag(T:Tb)(x:Str)(i:GI):Tb:={ T with gs:=(x,i)::T.gs }
noncomputable def Tb.am(T:Tb)(x:Str)(i:GI):Tb:={ T with ms:=(x,i)::T.ms }
def TOk.ag{m:Nat}(h:TOk P w K mg base n T)(l:n<=m)(q:wV P w K mg base T.C (·<=m) K x g):TOk P w K mg base m (T.ag x g):=
 ⟨fun p hp=>by
  rcases uTa hp with rfl | hp
  ·exact q
  ·exact(h.mono l).gs p hp,(h.mono l).ms,h.cl,h.fl,h.xt,h.xp,(h.mono l).xq⟩
def TOk.am(h:TOk P w K mg base n T)(l:n<=m)(q:qk P w K mg base T.C (·<=m) K x g):TOk P w K mg base m (T.am x g):=
 ⟨(h.mono l).gs,fun p hp=>by
  rcases uTa hp with rfl | hp
  ·exact q
  ·exact(h.mono l).ms p hp,h.cl,h.fl,h.xt,h.xp,(h.mono l).xq⟩
def De.E(d:De)(n:Nat):GI:=.fE (n+1) d.ps d.ks (Jd d.ks d.lo.length d.b)
def De.F(d:De)(n:Nat):GI:=.fF (n+1) d.ps d.ks (Vz d.ks d.lo.length d.b)
def De.X(d:De)(n:Nat):GI:=.fX (n+1) d.ps d.ks (Zj d.ks d.lo.length d.b)
structure Ck (T:Tb) (d:De) (kF:Bool):Prop where
 c:Um T d kF=some d.b
 k:(d.ks.length==d.ps.length)=true
 b:Bd d.x d.q d.st d.ps
variable (XG:∀x v,W.nsIn K mainGlobals x=some (some v)->mg x=some v)
include XG
theorem TOk.E(h:TOk P w K mg base n T)(a:At K d.x d.q d.st)(c:Ck T d false):TOk P w K mg base (n+2) (T.ag d.x (d.E n)):=by
 obtain⟨f,fd,a1,F⟩:=a;exact h.ag (vKa _ _) ⟨⟨f,fd,bU h F c.c (vLa c.k),F.binds c.b,F.kp,XG _ _ a1⟩,vMa _⟩
theorem TOk.F(h:TOk P w K mg base n T)(a:At K d.x d.q d.st)(c:Ck T d true):TOk P w K mg base (n+2) (T.ag d.x (d.F n)):=by
 obtain⟨f,fd,a1,F⟩:=a;exact h.ag (vKa _ _) ⟨⟨f,fd,HY h F c.c (vLa c.k),F.binds c.b,F.kp,XG _ _ a1⟩,vMa _⟩
theorem TOk.X(h:TOk P w K mg base n T)(a:At K d.x d.q d.st)(c:Qu T d=some d.b)(k:(d.ks.length==d.ps.length)=true)(b:Bd d.x d.q d.st d.ps):TOk P w K mg base (n+2) (T.ag d.x (d.X n)):=by
 obtain⟨f,fd,a1,F⟩:=a;exact h.ag (vKa _ _) ⟨⟨f,fd,lx h F c (vLa k),F.binds b,F.kp,XG _ _ a1⟩,vMa _⟩
omit XG in
theorem TOk.mE(h:TOk P w K mg base n T)(a:qu K T.C d.x d.q d.st)(c:Ck T d false)(k:d.ks=[false]):TOk P w K mg base (n+2) (T.am d.x (d.E n)):=by
 obtain⟨f,fd,a1,a2,F⟩:=a;exact h.am (vKa _ _) ⟨⟨f,fd,k▸bU h F c.c (vLa c.k),F.binds c.b,⟨a1,a2,F.kp⟩⟩,vMa _⟩
omit XG in
theorem TOk.mF(h:TOk P w K mg base n T)(a:qu K T.C d.x d.q d.st)(c:Ck T d true)(k:d.ks=[false]):TOk P w K mg base (n+2) (T.am d.x (d.F n)):=by
 obtain⟨f,fd,a1,a2,F⟩:=a;exact h.am (vKa _ _) ⟨⟨f,fd,k▸HY h F c.c (vLa c.k),F.binds c.b,⟨a1,a2,F.kp⟩⟩,vMa _⟩
theorem TOk.I(h:TOk P w K mg base n T)(a:qu K T.C d.x d.q d.st)(hx:d.x = "__init__")(c:Um T d false=some d.b)(k:(d.ks.length+1==d.ps.length)=true)(b:Bd d.x d.q d.st d.ps)(mk:W.makesIn K T.C=true)(kc:W.keepIn K (.ref T.C)=true)
  (aC:W.nsIn K mainGlobals x=some (some (.ref T.C))) (hG:∀p ds o,G ds=some o->xy T.C d.ks d.lo.length d.b p ds=some o):TOk P w K mg base (n+2) (T.ag x (.mk (n+1) d.ps d.ks (xy T.C d.ks d.lo.length d.b) G)):=by
 obtain⟨f,fd,a1,a2,F⟩:=a;refine h.ag (vKa _ _) ⟨⟨f,fd,ly h F c (vLa k),F.binds b,⟨mk,?_,a2,kc⟩,XG _ _ aC⟩,hG,wPa _⟩;rw[hx]at a1;exact a1
theorem TOk.R(h:TOk P w K mg base n T)(a:At K d.x d.q d.st)(F:Nat->List D->Option D)(B:(List D->Option D)->DS.DS)(m:Nat)(F0:∀ds,F 0 ds=none)(FS:∀m,F (m+1)=Jd d.ks d.lo.length (B (F m)))
  (c:∀m,Um (T.ag d.x (.fE (n+m) d.ps d.ks (F m))) d false=some (B (F m))) (k:(d.ks.length==d.ps.length)=true) (b:Bd d.x d.q d.st d.ps):TOk P w K mg base (n+m) (T.ag d.x (.fE (n+m) d.ps d.ks (F m))):=by
 obtain⟨f,fd,a1,Fu⟩:=a;have all:∀m,FnOk P w K mg base Y4 (n+m) f fd d.ps (Vx K d.ks (F m)):=by
  intro m;induction m with
  | zero=>
   have no:∀vs H Q E,¬Vx K d.ks (F 0) vs H Q E:=fun vs H Q E h=>by
    obtain⟨O,ds,d,_,_,h1,_⟩:=h;rw[F0]at h1;cases h1
   exact⟨fun vs H Q E h=>vDa h (no vs H Q E),fun A outer s H args us vs Q E _ _ _ _ h=>vDa h (no vs H Q E)⟩
  | succ m ih=>
   have h':TOk P w K mg base (n+m) (T.ag d.x (.fE (n+m) d.ps d.ks (F m))):=h.ag (vKa _ _) ⟨⟨f,fd,ih,Fu.binds b,Fu.kp,XG _ _ a1⟩,wPa _⟩;rw[FS];exact bU (d:={ d with b:=B (F m) }) h' Fu (c m) (vLa k)
 exact h.ag (vKa _ _) ⟨⟨f,fd,all m,Fu.binds b,Fu.kp,XG _ _ a1⟩,wPa _⟩
end
noncomputable def sN(s:Stmt):Str:=match s with
 | .FunctionDef n _ _ _ _ _ _ _ _ _=>n
 | .ClassDef n _ _ _ _ _ _ _ _ _ _=>n
 | _ => ""
def kX(st:Stmt):List Str:=(defArgs st).args.map (·.arg)
def IO(st:Stmt):List Str:=((defScope st).names.filter fun y=>wS (defScope st) y.1&&!(kX st).contains y.1).map (·.1)
def En(st:Stmt):Bool:=(defArgs st).posonlyargs.isEmpty&&(defArgs st).kwonlyargs.isEmpty&&(defArgs st).vararg.isNone&&(defArgs st).kwarg.isNone&&kU (kX st)
theorem X9:∀(l:List Str) (us:List Value) (pre:List (Str×Value)),us.length=l.length->l.Nodup->(∀n∈l,pre.lookup n=none)->(l.filterMap fun n=>((pre++l.zip us).lookup n).map (n,·))=l.zip us/\(∀n∈l,((pre++l.zip us).lookup n).isNone=false)
 | [],us,pre,_,_,_=>by simp
 | n::l,[],pre,h,_,_=>by cases h
 | n::l,u::us,pre,h,nd,hp=>by
  obtain⟨n1,n2⟩:=List.nodup_cons.mp nd;have e:pre++(n::l).zip (u::us)=(pre++[(n,u)])++l.zip us:=by simp
  have q:((pre++[(n,u)])++l.zip us).lookup n=some u:=by
   rw[List.lookup_append,List.lookup_append,hp n List.mem_cons_self];simp
  obtain⟨i1,i2⟩:=X9 l us (pre++[(n,u)]) (by simpa using h) n2 fun m hm=>by
   rw[List.lookup_append,hp m (List.mem_cons_of_mem _ hm)];have:m≠n:=fun z=>n1 (z▸hm);have b:(m==n)=false:=beq_eq_false_iff_ne.mpr this;simp[List.lookup_cons,b]
  rw[e];refine⟨by rw[List.filterMap_cons,q,i1];rfl,fun m hm=>?_⟩;rcases uTa hm with rfl | hm
  ·rw[q];rfl
  ·exact i2 m hm
def V4{x q:Str}{st:Stmt}(h:En st=true):Bd x q st (kX st):=by
 intro kV doc pm an cdv ct us hl;unfold En at h;unfold kX at *;obtain⟨h,h5⟩:=jl h;obtain⟨h,h4⟩:=jl h;obtain⟨h,h3⟩:=jl h;obtain⟨h1,h2⟩:=jl h;generalize hA:defArgs st=A at *;obtain⟨a1,a2,a3,a4,a5,a6,a7⟩:=A;dsimp only at h1 h2 h3 h4 h5 hl⊢;rw[List.isEmpty_iff]at h1 h2;cases a3 with
 | some _=>cases h3
 | none=>?_
 cases a6 with
 | some _=>cases h4
 | none=>?_
 subst h1 h2;obtain⟨z1,z2⟩:=X9 (a2.map (·.arg)) us [] hl (g6 h5) fun _ _=>rfl;rw[List.nil_append]at z1 z2;unfold bindArgs W.fnOf;have e0:seqItems? .none=pure none:=rfl;simp only[List.map_nil,List.nil_append,List.append_nil,List.forIn_nil,pure_bind,e0,Option.getD_none,Option.isNone_none,Bool.and_true];generalize a2.map (·.arg)=l at *;have e1:l.filter (fun n=>((l.zip us).lookup n).isNone)=[]:=by
  rw[List.filter_eq_nil_iff];intro n hn;rw[z2 n hn]
  decide
 simp[e1,z1,hl]
structure Df where
 st:Stmt
 q:Str
 f:Addr
 m:Bool
 kF:Bool
 ks:List Bool
 b:DS.DS
 hs:List ((Nat×Nat×Nat)×List Nat):=[]
 sh:List (Nat×Nat):=[]
 ow:List Nat:=[]
 xm:Bool:=false
def Df.de(d:Df):De:=⟨sN d.st,d.q,d.st,kX d.st,IO d.st,d.ks,d.b,d.hs,d.sh,d.ow⟩
def Tb.add(T:Tb)(n:Nat)(d:Df):Tb:=cond d.xm (T.ag (sN d.st) (d.de.X n)) <| cond d.m (T.am (sN d.st) (cond d.kF (d.de.F n) (d.de.E n))) (T.ag (sN d.st) (cond d.kF (d.de.F n) (d.de.E n)))
def Tb.adds:Tb->Nat->List Df->Tb
 | T,_,[]=>T
 | T,n,d::l=>(T.add n d).adds (n+2) l
def Tb.chks:Tb->Nat->List Df->List (Option DS.DS×Bool)
 | _,_,[]=>[]
 | T,n,d::l=>(cond d.xm (Qu T d.de) (Um T d.de d.kF),En d.st&&(d.ks.length==(kX d.st).length&&((!d.m||d.ks==[false])&&!(d.m&&d.xm))))::(T.add n d).chks (n+2) l
noncomputable def A9(l:List Df):List (Option DS.DS×Bool):=l.map fun d=>(some d.b,true)
noncomputable def lB(o:Option Obj):Value:=match o with
 | some ⟨_,_,.func fd,_⟩=>fd.pyModule
 | _=>.none
noncomputable def Uo(K:Fr)(C:Addr)(d:Df):Option (Option Value)×Option Obj×Bool:=(cond d.m (W.findIn K (.ref C) (sN d.st)) (W.nsIn K mainGlobals (sN d.st)),K.lookup d.f,W.codeIn K (.ref (d.f - 1)) d.q&&(W.keepIn K (.ref d.f)&&W.isFn K (.ref d.f)))
def Up(K:Fr)(d:Df):Option (Option Value)×Option Obj×Bool:=(some (some (.ref d.f)),some ⟨.type "function",none,.func (W.fnOf (sN d.st) d.q (defArgs d.st) (defBody d.st) (defScope d.st) .none .none .none (lB (K.lookup d.f)) none (.ref (d.f - 1)) .none),#[]⟩,true)
section
variable {P:Program} {w:World} {K:Fr} {mg:Tj} {base:Heap} {C:Addr} {d:Df}
def k7(h:Uo K C d=Up K d)(m:d.m=false):At K (sN d.st) d.q d.st:=by
 have h1:=congrArg (·.1) h;have h2:=congrArg (·.2.1) h;have h3:=congrArg (·.2.2) h;dsimp only[Uo,Up]at h1 h2 h3;rw[m]at h1;obtain⟨h3,h4⟩:=jl h3;exact Hb h1 (QW h2 h3 (jl h4).1)
def k8(h:Uo K C d=Up K d)(m:d.m=true):qu K C (sN d.st) d.q d.st:=by
 have h1:=congrArg (·.1) h;have h2:=congrArg (·.2.1) h;have h3:=congrArg (·.2.2) h;dsimp only[Uo,Up]at h1 h2 h3;rw[m]at h1;obtain⟨h3,h4⟩:=jl h3;exact Em h1 (jl h4).2 (QW h2 h3 (jl h4).1)
theorem TOk.adds(XG:∀x v,W.nsIn K mainGlobals x=some (some v)->mg x=some v):∀(l:List Df) {n:Nat} {T:Tb},TOk P w K mg base n T->T.chks n l=A9 l->l.map (Uo K T.C)=l.map (Up K)->TOk P w K mg base (n+2 * l.length) (T.adds n l)
 | [],n,T,h,_,_=>h
 | d::l,n,T,h,c,a=>by
  obtain⟨c1,c2⟩:=List.cons.inj c;obtain⟨a1,a2⟩:=List.cons.inj a;have c3:=congrArg (·.1) c1;obtain⟨b1,b2⟩:=jl (congrArg (·.2) c1);obtain⟨b2,b3⟩:=jl b2;obtain⟨b3,b4⟩:=jl b3;dsimp only at c3;have e:n+2 * (d::l).length=n+2+2 * l.length:=by rw[vXa];lia
  have h':TOk P w K mg base (n+2) (T.add n d):=by
   unfold Tb.add;cases hx:d.xm
   case true=>
    rw[hx]at c3 b4;have hm:d.m=false:=by cases z:d.m;rfl;rw[z]at b4;cases b4
    exact TOk.X XG (d:=d.de) h (k7 a1 hm) c3 b2 (V4 b1)
   rw[hx]at c3;cases hm:d.m
   ·cases hk:d.kF <;> rw[hk]at c3
    ·exact TOk.E XG h (k7 a1 hm) ⟨c3,b2,V4 b1⟩
    ·exact TOk.F XG h (k7 a1 hm) ⟨c3,b2,V4 b1⟩
   ·rw[hm]at b3;have b3:d.ks=[false]:=by simpa using b3
    cases hk:d.kF <;> rw[hk]at c3
    ·exact TOk.mE (d:=d.de) h (k8 a1 hm) ⟨c3,b2,V4 b1⟩ b3
    ·exact TOk.mF (d:=d.de) h (k8 a1 hm) ⟨c3,b2,V4 b1⟩ b3
  have eC:(T.add n d).C=T.C:=by unfold Tb.add;cases d.xm <;> cases d.m <;> rfl
  rw[e];exact TOk.adds XG l h' c2 (by rw[eC];exact a2)
noncomputable def qv(o:Option (Option Value)):Option (Option Int):=match o with
 | some (some (.int i _))=>some (some i)
 | some none=>some none
 | _=>none
noncomputable def bV(g:GI):Option (Option Int):=match g with
 | .con i=>some (some i)
 | .blt=>some none
 | _=>none
theorem Yb:∀{l:List α},l.map f=l.map g->∀x∈l,f x=g x
 | [],_,_,h=>by cases h
 | a::l,e,x,h=>by
  obtain⟨e1,e2⟩:=List.cons.inj e;rcases uTa h with rfl | h
  ·exact e1
  ·exact Yb e2 x h
def He{gs:List (Str×GI)}(h:gs.map (fun p=>(qv (W.nsIn K mainGlobals p.1),(bV p.2).isSome))=gs.map fun p=>(bV p.2,true)):∀p∈gs,G0 K p.1 p.2:=fun p hp=>by
 have e:=Yb h p hp;have e1:=congrArg (·.1) e;have e2:=congrArg (·.2) e;dsimp only at e1 e2;obtain⟨x,g⟩:=p;dsimp only at e1 e2⊢;cases g with
 | con i=>
  have e1:qv (W.nsIn K mainGlobals x)=some (some i):=e1;unfold qv at e1;split at e1
  ·cases e1;exact⟨_,by assumption⟩
  ·cases e1
  ·cases e1
 | blt=>
  have e1:qv (W.nsIn K mainGlobals x)=some none:=e1;unfold qv at e1;split at e1
  ·cases e1
  ·assumption
  ·cases e1
 | _=>cases e2
def Eo(K:Fr)(x:Str):=(W.nsIn K mainGlobals x,W.findIn K (.ref (jG K x)) "__getattribute__",W.findIn K (.ref (jG K x)) "__getattr__",W.findIn K (.ref (jG K x)) "__class__",W.specialIn K (.builtin "object.__class__") "__get__",W.takesIn K (.builtin "object.__class__"),W.mroIn K (jG K x) (.type "object"),W.subIn K (.ref (jG K x)) (.type "BaseException"),W.isClsIn K (jG K x))
def Ep(K:Fr)(x:Str):Option (Option Value)×Option (Option Value)×Option (Option Value)×Option (Option Value)×Option (Option Value)×Option Bool×Option Bool×Option Bool×Bool:=(some (some (.ref (jG K x))),some (some (.builtin "BaseException.__getattribute__")),some none,some (some (.builtin "object.__class__")),some (some (.builtin "getset_descriptor.__get__")),some true,some true,some true,true)
def Es(K:Fr)(p:Str×Str):=(W.findIn K (.ref (jG K p.1)) "__getattribute__",W.findIn K (.ref (jG K p.1)) "__getattr__",YU K (jG K p.1),W.hasDictIn K (jG K p.1),W.findIn K (.ref (jG K p.1)) p.2)
def qw(K:Fr)(x:Str)(f:Str):=(W.findIn K (.ref (jG K x)) "__setattr__",YU K (jG K x),W.takerIn K (jG K x) f,W.hasDictIn K (jG K x))
def Hf{T:XT}(XG:∀x v,W.nsIn K mainGlobals x=some (some v)->mg x=some v)(h1:T.ex.map (Eo K)=T.ex.map (Ep K))(h2:(T.ex.map fun x=>T.ex.map fun y=>W.kitOne K (.ref (jG K x)) (.ref (jG K y)))=T.ex.map fun x=>T.ex.map fun y=>some (x==y))
  (h3:T.ct.map (fun h=>(W.nsIn K mainGlobals h.1,h.2.1.map (fun x=>W.exmOne K (.ref (jG K x)) (.ref (jG K h.1))),h.2.2.map fun x=>W.exmOne K (.ref (jG K x)) (.ref (jG K h.1))))=T.ct.map fun h=>(some (some (.ref (jG K h.1))),h.2.1.map (fun _=>some true),h.2.2.map fun _=>some false))
  (h4:T.xf.map (Es K)=T.xf.map fun _=>(some (some (.builtin "BaseException.__getattribute__")),some none,true,true,some none)):XTok K mg T where
 e:=fun x hx=>by
  have e:=Yb h1 x hx;unfold Eo Ep at e;simp only[Prod.mk.injEq]at e;obtain⟨e1,e2,e3,e4,e5,e6,e7,e8,e9⟩:=e;exact⟨_,e1,XG _ _ e1,e2,e3,e4,e5,e6,e7,e8,e9⟩
 k:=fun x hx y hy=>Yb (Yb h2 x hx) y hy
 c:=fun h hh=>by
  have e:=Yb h3 h hh;simp only[Prod.mk.injEq]at e;obtain⟨e1,e2,e3⟩:=e;exact⟨XG _ _ e1,fun x hx=>Yb e2 x hx,fun x hx=>Yb e3 x hx⟩
 f:=fun p hp=>by
  have e:=Yb h4 p hp;unfold Es at e;simp only[Prod.mk.injEq]at e;obtain⟨e1,e2,e3,e4,e5⟩:=e;exact⟨e1,e2,e3,e4,e5⟩
def Hg{l:List Str}(h:l.map (fun x=>(W.nsIn K mainGlobals x,W.excIn K (jG K x) W3 "ValueError.__new__"))=l.map fun x=>(some (some (.ref (jG K x))),true)):∀x∈l,∃C,W.nsIn K mainGlobals x=some (some (.ref C))/\W.excIn K C W3 "ValueError.__new__" = true:=fun x hx=>by
 have e:=Yb h x hx;simp only[Prod.mk.injEq]at e;exact⟨_,e.1,e.2⟩
def Xa{x f:Str}(h:qw K x f=(some (some (.builtin "object.__setattr__")),true,some none,true)):ExS K (jG K x) f:=by
 unfold qw at h;simp only[Prod.mk.injEq]at h;exact⟨h.1,h.2.1,h.2.2.1,h.2.2.2⟩
def Et{x q:Str}{st:Stmt}{fi:Addr}{a0 a1 a2 f1 f2:Str}{p1 p2 p3 p4 q1 q2 q3 q4:Pos}(ns:W.nsIn K mainGlobals x=some (some (.ref (jG K x))))(exi:VB K (jG K x) W3 "ValueError.__new__" fi=true)(kp:W.keepIn K (.ref (jG K x))=true)(hf:W.findIn K (.ref (jG K x)) "__init__" = some (some (.ref fi)))
  (a:qu K (jG K x) "__init__" q st) (c1:qw K x f1=(some (some (.builtin "object.__setattr__")),true,some none,true)) (c2:qw K x f2=(some (some (.builtin "object.__setattr__")),true,some none,true)) (hn:(f1==f2)=false) (hb:defBody st=[.Assign [.Attribute (.Name a0 p1) f1 p2] (.Name a1 p3) p4,.Assign [.Attribute (.Name a0 q1) f2 q2] (.Name a2 q3) q4]) (S:bT ([a0,a1,a2]++[]) [a0,a1,a2] (defScope st)=true)
  (v:(g_ (defScope st) a0&&g_ (defScope st) a1&&g_ (defScope st) a2)=true) (d:([a0,a1,a2].all fun y=>!(y==("__debug__" : Str))&&!(y==("__classdict__" : Str)))=true) (b:Bd "__init__" q st [a0,a1,a2]):W4 P w K mg base 2 x [f1,f2]:=by
 obtain⟨f,fd,e1,e2,F⟩:=a;rw[hf]at e1;cases e1;have SS:FnScope ([a0,a1,a2]++[]) [a0,a1,a2] (defScope st):=u6 S;obtain⟨v,v2⟩:=jl v;obtain⟨v0,v1⟩:=jl v;simp only[List.all_cons,List.all_nil,Bool.and_true,Bool.and_eq_true,Bool.not_eq_true']at d;obtain⟨⟨d0,y0⟩,⟨d1,y1⟩,⟨d2,y2⟩⟩:=d;exact⟨_,fi,fd,_,1,ns,exi,kp,beq_iff_eq.mp e2,FY (k:=0) F SS hb (Xa c1) (Xa c2) (fun z=>by rw[z]at hn;simp at hn) (GW v0) (GW v1) (GW v2) d0 d1 d2 y0 y1 y2,(show 2<=1000 by decide),rfl,F.binds b,wPa _⟩
end
end CP
namespace DS
open PySem L2
def yq(I:Nat->jk->Prop)(h:∀i d Z,items[i]?=some d->I i Z->∃Z1 Z2,g d Z=some Z1/\s Z1=some (.nx Z2)/\I (i+1) Z2):∀{Z:jk},I 0 Z->∃Z',jP g s items Z=some (.nx Z')/\I items.length Z':=by
 induction items generalizing I with
 | nil=>intro Z h0;exact⟨Z,rfl,h0⟩
 | cons d ds ih=>
  intro Z h0;obtain⟨Z1,Z2,e1,e2,i2⟩:=h 0 d Z rfl h0;obtain⟨Z',e3,i3⟩:=ih (fun i=>I (i+1)) (fun i d' Z hd hi=>h (i+1) d' Z (by simpa using hd) hi) i2;exact⟨Z',by rw[jP,e1];show(s Z1).bind _=_;rw[e2];exact e3,i3⟩
theorem Yc(I:jk->Prop)(p:D->Bool)(r:Rs)(hr:(∃d,r=.rt d) \/∃o,r=.rf o)(h:∀d∈items,∀Z,I Z->∃Z1,g d Z=some Z1/\((p d=true/\s Z1=some r) \/ (p d=false/\∃Z2,s Z1=some (.nx Z2)/\I Z2))):∀{Z:jk},I Z->
  (items.any p=true/\jP g s items Z=some r) \/ (items.any p=false/\∃Z',I Z'/\jP g s items Z=some (.nx Z')):=by
 induction items with
 | nil=>intro Z h0;exact .inr ⟨rfl,Z,h0,rfl⟩
 | cons d ds ih=>
  intro Z h0;obtain⟨Z1,e1,z⟩:=h d wNa Z h0;rcases z with⟨hp,e2⟩ | ⟨hp,Z2,e2,i2⟩
  ·refine .inl ⟨by rw[List.any_cons,hp];rfl,?_⟩;rw[jP,e1];show(s Z1).bind _=_;rw[e2];rcases hr with⟨d,rfl⟩ | ⟨o,rfl⟩ <;> rfl
  ·rcases ih (fun d' hd=>h d' (wMa _ hd)) i2 with⟨a1,a2⟩ | ⟨a1,Z',a2,a3⟩
   ·refine .inl ⟨by rw[List.any_cons,a1,Bool.or_true],?_⟩;rw[jP,e1];show(s Z1).bind _=_;rw[e2];exact a2
   ·refine .inr ⟨by rw[List.any_cons,hp,a1];rfl,Z',a2,?_⟩;rw[jP,e1];show(s Z1).bind _=_;rw[e2];exact a3
def W5{r:Rs}(I:Nat->jk->Prop)(ZQ:Nat->Rs->Prop)(h:∀i d Z,items[i]?=some d->I i Z->∃Z1,g d Z=some Z1/\((∃Z2,s Z1=some (.nx Z2)/\I (i+1) Z2) \/∃d',s Z1=some (.rt d')/\ZQ i (.rt d'))):∀{Z:jk},I 0 Z->(∃Z',jP g s items Z=some (.nx Z')/\I items.length Z') \/∃i d',i < items.length/\jP g s items Z=some (.rt d')/\ZQ i (.rt d'):=by
 induction items generalizing I ZQ with
 | nil=>intro Z h0;exact .inl ⟨Z,rfl,h0⟩
 | cons d ds ih=>
  intro Z h0;obtain⟨Z1,e1,z⟩:=h 0 d Z rfl h0;rcases z with⟨Z2,e2,i2⟩ | ⟨d',e2,z⟩
  ·rcases ih (fun i=>I (i+1)) (fun i=>ZQ (i+1)) (fun i d' Z hd hi=>h (i+1) d' Z (by simpa using hd) hi) i2 with⟨Z',e3,i3⟩ | ⟨i,d',hi,e3,z⟩
   ·exact .inl ⟨Z',by rw[jP,e1];show(s Z1).bind _=_;rw[e2];exact e3,i3⟩
   ·exact .inr ⟨i+1,d',by simpa using hi,by rw[jP,e1];show(s Z1).bind _=_;rw[e2];exact e3,z⟩
  ·exact .inr ⟨0,d',by simp,by simp[jP,e1,e2],z⟩
theorem Jp(em:α->D)(f:α->D):∀{xs:List α},(∀x∈xs,∃Z1,g (em x) Z=some Z1/\dc Z1=some true/\de Z1=some (f x))->Jm g dc de (xs.map em) Z=some (xs.map f)
 | [],_=>rfl
 | x::xs,h=>by
  obtain⟨Z1,e1,e2,e3⟩:=h x wNa;have ih:=Jp em f (xs:=xs) fun y hy=>h y (wMa _ hy);simp[Jm,e1,e2,e3,ih]
theorem z_(em:α->D)(p:α->Bool)(f:α->D):∀{xs:List α},(∀x∈xs,∃Z1,g (em x) Z=some Z1/\dc Z1=some (p x)/\de Z1=some (f x))->Jm g dc de (xs.map em) Z=some ((xs.filter p).map f)
 | [],_=>rfl
 | x::xs,h=>by
  obtain⟨Z1,e1,e2,e3⟩:=h x wNa;have ih:=z_ em p f (xs:=xs) fun y hy=>h y (wMa _ hy);cases hp:p x <;> simp[Jm,e1,e2,e3,ih,hp]
theorem k9(I:jk->Prop)(m:jk->Nat)(h:∀Z,I Z->dt Z=some false \/ (dt Z=some true/\∃Z2,s Z=some (.nx Z2)/\I Z2/\m Z2 < m Z)):∀{n:Nat} {Z:jk},I Z->m Z < n->∃Z',Zg dt s n Z=some (.nx Z')/\I Z'/\dt Z'=some false
 | 0,Z,_,hn=>vDa hn (Nat.not_lt_zero _)
 | n+1,Z,hi,hn=>by
  rcases h Z hi with e | ⟨e,Z2,e2,i2,hm⟩
  ·exact⟨Z,by simp[Zg,e],hi,e⟩
  ·obtain⟨Z',e3,i3,f3⟩:=k9 I m h (n:=n) i2 (by omega);exact⟨Z',by simp[Zg,e,e2,e3],i3,f3⟩
noncomputable def t3(t:T3):D:=.tup [.int t.1,.int t.2.1,.int t.2.2]
structure Bk where
 size:Int
 kinds:List T3
 shuns:List T3
 bars:List T3
 dues:List T3
noncomputable def J9(b:Bk):D:=.tup [.int b.size,.lst (b.kinds.map t3),.lst (b.shuns.map t3),.lst (b.bars.map t3),.lst (b.dues.map t3)]
noncomputable def jf(C:Addr)(b:Bk):D:=.ins C ["size", "kind_rows", "shun_rows", "bar_rows", "due_rows"] [.int b.size,.tup (b.kinds.map t3),.tup (b.shuns.map t3),.tup (b.bars.map t3),.tup (b.dues.map t3)]
structure Sd where
 place:Int
 kind:Int
 len:Int
 before:Int
 waits:List Int
 met:List Bool
noncomputable def j3(s:Sd):D:=.tup [.int s.place,.int s.kind,.int s.len,.int s.before,.tup (s.waits.map .int),.tup (s.met.map .bl)]
noncomputable def JQ(ks:List T3)(k:Int):T3:=ks.getD k.toNat (0,0,0)
def Uq(h0:0<=k)(h:xs[k.toNat]?=some x):atI xs k=some x:=by
 have hk:=(uSa h).1;unfold atI uA;rw[if_pos h0,if_pos (by omega)];exact h
def YW{xs:List α}{k:Int}(h0:0<=k)(h1:k < (xs.length:Int)):atI (xs.map f) k=some (f (xs.getD k.toNat d)):=by
 have hk:k.toNat < xs.length:=by omega
 refine Uq h0 ?_;rw[uAa,uBa,uCa hk];rfl
def yZ{ks:List T3}(h0:0<=k)(h1:k < (ks.length:Int)):atI (ks.map t3) k=some (t3 (JQ ks k)):=YW h0 h1
def W6{n:Nat}{k:Int}(h0:0<=k)(h1:k < (n:Int)):uA n k=some k.toNat:=by unfold uA;rw[if_pos h0,if_pos h1]
def jo(h:n<=10000):n < sizeLine:=Nat.lt_of_le_of_lt h (by decide)
noncomputable def fK(t:T3):Bool:=decide (1<=t.1)&&(decide (t.1<=t.2.1)&&(decide (t.2.1<=4)&&(decide (0<=t.2.2)&&decide (t.2.2<=4))))
noncomputable def fS(m:Int)(t:T3):Bool:=decide (0<=t.1)&&(decide (t.1 < m)&&(decide (0<=t.2.1)&&(decide (t.2.1 < m)&&(decide (1<=t.2.2)&&decide (t.2.2<=2)))))
noncomputable def fB(m s:Int)(t:T3):Bool:=decide (0<=t.1)&&(decide (t.1 < m)&&(decide (1<=t.2.1)&&(decide (t.2.1<=t.2.2)&&decide (t.2.2<=s))))
noncomputable def fC(s k h b d:Int):Bool:=decide (1<=s)&&(decide (s<=30)&&(decide (1<=k)&&(decide (k<=4)&&(decide (h<=20)&&(decide (b<=12)&&decide (d<=3))))))
def fR(s:Int)(k h b d:List T3):Bool:=k.all fK&&(h.all (fS k.length)&&(b++d).all (fB k.length s))
def W7(b:Bk):Bool:=fC b.size b.kinds.length b.shuns.length b.bars.length b.dues.length&&fR b.size b.kinds b.shuns b.bars b.dues
noncomputable def Ur(C:Addr)(b:Bk):OD:=.ins C ["size", "kind_rows", "shun_rows", "bar_rows", "due_rows"] [.int b.size,.tup (b.kinds.map t3),.tup (b.shuns.map t3),.tup (b.bars.map t3),.tup (b.dues.map t3)]
noncomputable def bW:D->Option T3
 | .tup [.int x,.int y,.int z]=>some (x,y,z)
 | _=>none
def kY:List D->Option (List T3)
 | []=>some []
 | d::l=>(bW d).bind fun t=>(kY l).bind fun ts=>some (t::ts)
def Eu(t:T3):bW (t3 t)=some t:=rfl
theorem W8:∀ts:List T3,kY (ts.map t3)=some ts
 | []=>rfl
 | t::ts=>by rw[vWa,kY,Eu,W8 ts];rfl
def Ev(h:bW d=some t):d=t3 t:=by
 cases d with
 | tup l=>
  rcases l with _ | ⟨a,_ | ⟨b,_ | ⟨c,_ | ⟨e,r⟩⟩⟩⟩ <;> try cases h
  all_goals (cases a <;> try cases h)
  all_goals (cases b <;> try cases h)
  all_goals (cases c <;> try cases h)
  rfl
 | _=>cases h
theorem qx:∀{l:List D} {ts:List T3},kY l=some ts->l=ts.map t3
 | [],_,h=>by cases h;rfl
 | d::l,ts,h=>by
  rw[kY]at h;obtain⟨t,e1,h⟩:=j1 h;obtain⟨r,e2,h⟩:=j1 h;cases h;rw[vWa,<-Ev e1,<-qx e2]
noncomputable def gI:D->Option Int
 | .int s=>some s
 | _=>none
def gL:D->Option (List T3)
 | .lst l=>kY l
 | _=>none
def Hh(h:gI d=some s):d=.int s:=by
 cases d <;> cases h;rfl
def KM(h:gL d=some ts):d=.lst (ts.map t3):=by
 cases d with
 | lst l=>rw[qx h]
 | _=>cases h
def kZ(C:Addr):List D->Option OD
 | [s,k,h,b,d]=>(gI s).bind fun s=>(gL k).bind fun k'=>(gL h).bind fun h'=>(gL b).bind fun b'=>(gL d).bind fun d'=>if W7 ⟨s,k',h',b',d'⟩=true then some (Ur C ⟨s,k',h',b',d'⟩)else none
 | _=>none
def Ew(h:kZ C ds=some o):∃b:Bk,W7 b=true/\ds=[.int b.size,.lst (b.kinds.map t3),.lst (b.shuns.map t3),.lst (b.bars.map t3),.lst (b.dues.map t3)]/\Ur C b=o:=by
 rcases ds with _ | ⟨s,_ | ⟨k,_ | ⟨hh,_ | ⟨b,_ | ⟨d,_ | ⟨e,r⟩⟩⟩⟩⟩⟩ <;> try cases h
 have h:((gI s).bind fun s=>(gL k).bind fun k'=>(gL hh).bind fun h'=>(gL b).bind fun b'=>(gL d).bind fun d'=>if W7 ⟨s,k',h',b',d'⟩=true then some (Ur C ⟨s,k',h',b',d'⟩)else none)=some o:=h;obtain⟨s0,e0,h⟩:=j1 h;obtain⟨k',e1,h⟩:=j1 h;obtain⟨h',e2,h⟩:=j1 h;obtain⟨b',e3,h⟩:=j1 h;obtain⟨d',e4,h⟩:=j1 h;by_cases ok:W7 ⟨s0,k',h',b',d'⟩=true
 ·rw[if_pos ok]at h;rw[Hh e0,KM e1,KM e2,KM e3,KM e4];exact⟨_,ok,rfl,vFa h⟩
 ·rw[if_neg ok]at h;cases h
@[simp] theorem lC(s:Sd):j6 (j3 s) (.int 0)=some (.int s.place):=rfl
@[simp] theorem lD(s:Sd):j6 (j3 s) (.int 1)=some (.int s.kind):=rfl
@[simp] theorem lE(s:Sd):j6 (j3 s) (.int 2)=some (.int s.len):=rfl
@[simp] theorem lG(s:Sd):j6 (j3 s) (.int 3)=some (.int s.before):=rfl
@[simp] theorem lH(s:Sd):j6 (j3 s) (.int 4)=some (.tup (s.waits.map .int)):=rfl
@[simp] theorem lI(s:Sd):j6 (j3 s) (.int 5)=some (.tup (s.met.map .bl)):=rfl
@[simp] theorem lP(t:T3):j6 (t3 t) (.int 0)=some (.int t.1):=rfl
@[simp] theorem lQ(t:T3):j6 (t3 t) (.int 1)=some (.int t.2.1):=rfl
@[simp] theorem lR(t:T3):j6 (t3 t) (.int 2)=some (.int t.2.2):=rfl
@[simp] theorem lS(b:Bk):j6 (J9 b) (.int 0)=some (.int b.size):=rfl
@[simp] theorem lT(b:Bk):j6 (J9 b) (.int 1)=some (.lst (b.kinds.map t3)):=rfl
@[simp] theorem lU(b:Bk):j6 (J9 b) (.int 2)=some (.lst (b.shuns.map t3)):=rfl
@[simp] theorem lV(b:Bk):j6 (J9 b) (.int 3)=some (.lst (b.bars.map t3)):=rfl
@[simp] theorem lW(b:Bk):j6 (J9 b) (.int 4)=some (.lst (b.dues.map t3)):=rfl
@[simp] theorem lX(t:T3):ZL (t3 t)=false:=rfl
@[simp] theorem lJ(s:Sd):ZL (j3 s)=false:=rfl
end DS
namespace M
open DS
@[simp] noncomputable abbrev fV(n:Nat):Bool×DE:=(false,dV n)
@[simp] noncomputable abbrev tC(n:Nat):Bool×DE:=(true,dC n)
@[simp] noncomputable abbrev dN(i:Int):DE:=dK (.int i)
@[simp high] theorem La(a:Sl)(l:jk):(a::l)[0]?=some a:=rfl
@[simp high] theorem Lc(a x:Sl)(l:jk):List.set (a::l) 0 x=x::l:=rfl
@[elab_as_elim] theorem lY{α:Type}{motive:List α->Prop}(us:List α)(hl:us.length=0)(h:motive []):motive us:=by
 cases us with
 | nil=>exact h 
 | cons y us=>simp at hl
@[elab_as_elim] theorem lZ{α:Type}{motive:List α->Prop}(us:List α)(hl:us.length=1)(h:∀x0,motive [x0]):motive us:=by
 cases us with
 | nil=>simp at hl
 | cons x0 us=>
  cases us with
  | nil=>exact h x0
  | cons y us=>simp at hl
@[elab_as_elim] theorem l_{α:Type}{motive:List α->Prop}(us:List α)(hl:us.length=2)(h:∀x0 x1,motive [x0,x1]):motive us:=by
 cases us with
 | nil=>simp at hl
 | cons x0 us=>
  cases us with
  | nil=>simp at hl
  | cons x1 us=>
   cases us with
   | nil=>exact h x0 x1
   | cons y us=>simp at hl
@[elab_as_elim] theorem L4{α:Type}{motive:List α->Prop}(us:List α)(hl:us.length=3)(h:∀x0 x1 x2,motive [x0,x1,x2]):motive us:=by
 cases us with
 | nil=>simp at hl
 | cons x0 us=>
  cases us with
  | nil=>simp at hl
  | cons x1 us=>
   cases us with
   | nil=>simp at hl
   | cons x2 us=>
    cases us with
    | nil=>exact h x0 x1 x2
    | cons y us=>simp at hl
@[elab_as_elim] theorem L5{α:Type}{motive:List α->Prop}(us:List α)(hl:us.length=4)(h:∀x0 x1 x2 x3,motive [x0,x1,x2,x3]):motive us:=by
 cases us with
 | nil=>simp at hl
 | cons x0 us=>
  cases us with
  | nil=>simp at hl
  | cons x1 us=>
   cases us with
   | nil=>simp at hl
   | cons x2 us=>
    cases us with
    | nil=>simp at hl
    | cons x3 us=>
     cases us with
     | nil=>exact h x0 x1 x2 x3
     | cons y us=>simp at hl
@[elab_as_elim] theorem L6{α:Type}{motive:List α->Prop}(us:List α)(hl:us.length=5)(h:∀x0 x1 x2 x3 x4,motive [x0,x1,x2,x3,x4]):motive us:=by
 cases us with
 | nil=>simp at hl
 | cons x0 us=>
  cases us with
  | nil=>simp at hl
  | cons x1 us=>
   cases us with
   | nil=>simp at hl
   | cons x2 us=>
    cases us with
    | nil=>simp at hl
    | cons x3 us=>
     cases us with
     | nil=>simp at hl
     | cons x4 us=>
      cases us with
      | nil=>exact h x0 x1 x2 x3 x4
      | cons y us=>simp at hl
@[elab_as_elim] theorem L7{α:Type}{motive:List α->Prop}(us:List α)(hl:us.length=6)(h:∀x0 x1 x2 x3 x4 x5,motive [x0,x1,x2,x3,x4,x5]):motive us:=by
 cases us with
 | nil=>simp at hl
 | cons x0 us=>
  cases us with
  | nil=>simp at hl
  | cons x1 us=>
   cases us with
   | nil=>simp at hl
   | cons x2 us=>
    cases us with
    | nil=>simp at hl
    | cons x3 us=>
     cases us with
     | nil=>simp at hl
     | cons x4 us=>
      cases us with
      | nil=>simp at hl
      | cons x5 us=>
       cases us with
       | nil=>exact h x0 x1 x2 x3 x4 x5
       | cons y us=>simp at hl
@[elab_as_elim] theorem L8{α:Type}{motive:List α->Prop}(us:List α)(hl:us.length=7)(h:∀x0 x1 x2 x3 x4 x5 x6,motive [x0,x1,x2,x3,x4,x5,x6]):motive us:=by
 cases us with
 | nil=>simp at hl
 | cons x0 us=>
  cases us with
  | nil=>simp at hl
  | cons x1 us=>
   cases us with
   | nil=>simp at hl
   | cons x2 us=>
    cases us with
    | nil=>simp at hl
    | cons x3 us=>
     cases us with
     | nil=>simp at hl
     | cons x4 us=>
      cases us with
      | nil=>simp at hl
      | cons x5 us=>
       cases us with
       | nil=>simp at hl
       | cons x6 us=>
        cases us with
        | nil=>exact h x0 x1 x2 x3 x4 x5 x6
        | cons y us=>simp at hl
def sq(h:s1 Z=some (.nx Z1))(k:s2 Z1=r):j0 s1 s2 Z=r:=by rw[j0,h];exact k
def YX(h:s1 Z=some (.rt d)):j0 s1 s2 Z=some (.rt d):=by rw[j0,h];rfl
def lK(P:jk->Prop)(h:(∃d,s1 Z=some (.rt d)/\r=some (.rt d)) \/∃Z1,s1 Z=some (.nx Z1)/\P Z1)(k:∀Z1,P Z1->s2 Z1=r):j0 s1 s2 Z=r:=by
 rcases h with⟨d,h,e⟩ | ⟨Z1,h,p⟩
 ·rw[e];exact YX h
 ·exact sq h (k Z1 p)
def YY(h:t Z=some true)(k:s1 Z=r):jc t s1 s2 Z=r:=by rw[jc,h];exact k
def YZ(h:t Z=some false)(k:s2 Z=r):jc t s1 s2 Z=r:=by rw[jc,h];exact k
def fE(h:b (Zv ks ds n)=some (.rt d)):Jd ks n b ds=some d:=by rw[Jd,h];rfl
end M
noncomputable section
namespace M
open PySem L2 DS
noncomputable def Xb:List Str:=["NoKind", "TooLong", "Broken", "NoNumber", "NoSheet", "BadBeat"]
noncomputable def Ex:List (Str×Str):=[("Broken", "place"),("Broken", "word")]
def YR:=(gN 6)
def JR(C:Addr):=(jc (jg (d2 yG (dV 5) (dN 0))) (j0 (JZ 2 (d2 jF (dV 5) (dN 1009)))
 (ji 5 (d2 wk (dV 5) (dN 1009)))) jr)
def yM:=(gN 4)
def yN(C:Addr):=(j0 (ji 3 (d2 jF (d2 jx (d2 jx (d2 yK (dV 3) (dN 48271)) (d2 jF (dV 4) (dN 1000003))) (dN 11)) (dN 2147483647)))
 (j0 (ji 5 (d2 Y2 (dV 4) (d2 gP (dN 10) (dN 18))))
 (j0 (jc (jg (d2 yj (dV 5) (dN 0))) (JZ 2 (d2 jF (dV 4) (dN 9973))) jr)
 (jR (YH (dN 60)) YR (JR C)))))
def JS(C:Addr):=(jg (d2 yj (j7 jY [(fV 2)]) (dV 1)))
def YS(C:Addr):=(j0 (ji 3 (d2 jF (d2 jx (d2 jx (d2 jx (d2 yK (dV 3) (dV 3)) (d2 yK (dN 69621) (dV 3))) (d2 yK (dN 7) (j7 jY [(fV 2)]))) (dN 5)) (dN 2147483629)))
 (JZ 2 (d2 jF (d2 wk (dV 3) (dN 1013)) (dN 9973))))
def zL(C:Addr):=(j0 (JB 2 (jZ []))
 (j0 (ji 3 (dN 29))
 (j0 (jR (jU (dL (Y5 (dV 0) (fun _=>some none) (fun Z=>((dN 63) Z).bind yR)))) yM (yN C))
 (j0 (Zg (JS C) (YS C) 20000)
 (KH (Y5 (dV 2) (fun _=>some none) (fun Z=>((dV 1) Z).bind yR)))))))
def Yj(C:Addr):=Vz [false,false] 5 (zL C)
def vz:=(gN 5)
def YT(C:Addr):=(j0 (ji 6 (d2 jx (dN 1) (d2 jF (d2 j6 (dV 3) (d2 jx (d2 yK (dN 3) (dV 5)) (dN 1))) (dV 1))))
 (JZ 4 (JK [(true,(d2 jF (d2 j6 (dV 3) (d2 yK (dN 3) (dV 5))) (dV 0))),(tC 6),(true,(d2 jx (dV 6) (d2 jF (d2 j6 (dV 3) (d2 jx (d2 yK (dN 3) (dV 5)) (dN 2))) (d2 jx (d2 Y2 (dV 1) (dV 6)) (dN 1)))))])))
def zM(C:Addr):=(j0 (JB 4 (jZ []))
 (j0 (jR (YH (dV 2)) vz (YT C))
 (YJ 4)))
def Yk(C:Addr):=Vz [false,false,false,false] 3 (zM C)
def uH:=(gN 5)
def Zx(C:Addr):=(j0 (ji 6 (d2 jx (dN 1) (d2 j6 (dL (jZ [(true,(dN 0)),(true,(dN 0)),(true,(dN 1)),(true,(dN 0)),(true,(dN 2)),(true,(dN 3)),(true,(dN 1))])) (d2 jF (d2 j6 (dV 0) (d2 jx (dN 2) (dV 5))) (dN 7)))))
 (j0 (ji 7 (d2 j6 (dL (jZ [(true,(dN 0)),(true,(dN 1)),(true,(dN 2)),(true,(dN 0)),(true,(dN 3)),(true,(dN 4)),(true,(dN 1))])) (d2 jF (d2 j6 (dV 0) (d2 jx (dN 10) (dV 5))) (dN 7))))
 (j0 (jc (Yu (J3 (jg (d2 jt (dV 2) (dN 4))) (jg (d2 yG (dV 3) (dN 6)))) (jg (d2 yG (dV 3) (dN 12)))) (ji 7 (d2 jF (dV 7) (dN 3))) jr)
 (JZ 4 (JK [(tC 6),(true,(d2 jx (dV 6) (d2 jF (d2 j6 (dV 0) (d2 jx (dN 6) (dV 5))) (d2 Y2 (dN 5) (dV 6))))),(tC 7)])))))
def uI:=(gN 5)
def Zy(C:Addr):=(j0 (ji 9 (d2 jx (d2 jx (dN 44) (d2 yK (dN 3) (d2 jF (dV 5) (dN 5)))) (d2 wk (dV 5) (dN 5))))
 (JZ 8 (JK [(true,(d2 jF (d2 j6 (dV 0) (dV 9)) (dV 2))),(true,(d2 jF (d2 j6 (dV 0) (d2 jx (dV 9) (dN 1))) (dV 2))),(true,(d2 jx (dN 1) (d2 jF (d2 j6 (dV 0) (d2 jx (dV 9) (dN 2))) (dN 2))))])))
def Ve(C:Addr):=(j0 (ji 2 (d2 j6 (dL (jZ [(true,(dN 2)),(true,(dN 3)),(true,(dN 3)),(true,(dN 2)),(true,(dN 1)),(true,(dN 4)),(true,(dN 3))])) (d2 jF (d2 j6 (dV 0) (dN 0)) (dN 7))))
 (j0 (ji 3 (d2 jx (dN 1) (d2 jF (d2 j6 (dV 0) (dN 1)) (dV 1))))
 (j0 (JB 4 (jZ []))
 (j0 (jR (YH (dV 2)) uH (Zx C))
 (j0 (JB 8 (jZ []))
 (j0 (jR (YH (d2 j6 (dL (jZ [(true,(dN 0)),(true,(dN 0)),(true,(dN 1)),(true,(dN 2)),(true,(dN 3)),(true,(dN 0)),(true,(dN 20))])) (d2 jF (d2 j6 (dV 0) (dN 14)) (dN 7)))) uI (Zy C))
 (j0 (ji 10 (dL (yt 1 [0] (YH (dN 36)) (gN 0) jW (d2 jx (d2 j6 (dV 1) (d2 jx (dN 16) (d2 jF (d2 yK (dN 5) (dV 0)) (dN 9)))) (d2 yK (dN 7) (dV 0))))))
 (j0 (ji 11 (dL (jK (Yk C) [(fV 2),(fV 3),(false,(d2 j6 (dL (jZ [(true,(dN 0)),(true,(dN 1)),(true,(dN 0)),(true,(dN 2)),(true,(dN 12)),(true,(dN 0))])) (d2 jF (d2 j6 (dV 0) (dN 15)) (dN 6)))),(fV 10)])))
 (j0 (ji 12 (d2 j6 (dL (jZ [(true,(dN 0)),(true,(dN 1)),(true,(dN 0)),(true,(dN 2)),(true,(dN 3)),(true,(dN 1))])) (d2 jF (d2 j6 (dV 0) (dN 25)) (dN 6))))
 (j0 (jc (J3 (jg (d2 yG (dV 3) (dN 5))) (jg (d2 yG (dV 2) (dN 2)))) (ji 12 (d2 jF (dV 12) (dN 3))) jr)
 (Vy 4 (Vy 8 (jb (JK [(tC 3),(tC 4),(tC 8),(tC 11),(true,(dL (jK (Yk C) [(fV 2),(fV 3),(fV 12),(false,(dL (Y5 (dV 0) (fun Z=>((dN 26) Z).bind yR) (fun Z=>((dN 35) Z).bind yR))))])))]))))))))))))))
def Z0(C:Addr):=Jd [false,false] 11 (Ve C)
def Zz(C:Addr):=(j0 (jc (Yu (JJ (jg (J1 J5 J5 (dN 1) (dV 0) (dN 30)))) (JJ (jg (J1 J5 J5 (dN 1) (j7 jY [(fV 1)]) (dN 4))))) (jb (dK (.bl false))) jr)
 (jb (Ju (d2 J5 (j7 jY [(fV 2)]) (dN 20)) (Ju (d2 J5 (j7 jY [(fV 3)]) (dN 12)) (d2 J5 (j7 jY [(fV 4)]) (dN 3))))))
def ZA(C:Addr):=Jd [false,false,false,false,false] 0 (Zz C)
def Vf(C:Addr):=(j0 (jc (jg (d2 J8 (j7 jY [(fV 0)]) (dN 3))) (jb (dK (.bl false))) jr)
 (j0 (Zt (dC 0) (gT 3 (gC (gN 1) (gC (gN 2) (gC (gN 3) gZ)))))
 (jb (Ju (UU J5 J5 J5 (dN 1) (dV 1) (dV 2) (dN 4)) (J1 J5 J5 (dN 0) (dV 3) (dN 4))))))
def Z4(C:Addr):=Jd [true] 3 (Vf C)
def Vg(C:Addr):=(j0 (jc (jg (d2 J8 (j7 jY [(fV 0)]) (dN 3))) (jb (dK (.bl false))) jr)
 (j0 (Zt (dC 0) (gT 3 (gC (gN 2) (gC (gN 3) (gC (gN 4) gZ)))))
 (jb (Ju (J1 J5 yj (dN 0) (dV 2) (dV 1)) (Ju (J1 J5 yj (dN 0) (dV 3) (dV 1)) (J1 J5 J5 (dN 1) (dV 4) (dN 2)))))))
def Z5(C:Addr):=Jd [true,false] 3 (Vg C)
def Vh(C:Addr):=(j0 (jc (jg (d2 J8 (j7 jY [(fV 0)]) (dN 3))) (jb (dK (.bl false))) jr)
 (j0 (Zt (dC 0) (gT 3 (gC (gN 3) (gC (gN 4) (gC (gN 5) gZ)))))
 (jb (Ju (J1 J5 yj (dN 0) (dV 3) (dV 1)) (UU J5 J5 J5 (dN 1) (dV 4) (dV 5) (dV 2))))))
def Z6(C:Addr):=Jd [true,false,false] 3 (Vh C)
def Vi(C:Addr):=(j0 (ji 5 (j7 jY [(fV 1)]))
 (j0 (jc (JJ (JA (j7 zJ [(false,(dL (yt 1 [] (jU (dP 1)) (gN 0) jW (j7 (Z4 C) [(tC 0)]))))]))) (jb (dK (.bl false))) jr)
 (j0 (jc (JJ (JA (j7 zJ [(false,(dL (yt 1 [5] (jU (dP 2)) (gN 0) jW (j7 (Z5 C) [(tC 0),(fV 1)]))))]))) (jb (dK (.bl false))) jr)
 (jb (j7 zJ [(false,(dL (yt 1 [5,0] (jU (dL (xh kG (dV 3) (dV 4)))) (gN 0) jW (j7 (Z6 C) [(tC 0),(fV 1),(fV 2)]))))])))))
def Vj(C:Addr):=Jd [false,false,false,false,false] 1 (Vi C)
def yO(C:Addr):=(j0 (jc (JJ (JA (j7 (ZA C) [(fV 1),(fV 2),(fV 3),(fV 4),(fV 5)]))) ZT jr)
 (j0 (jc (JJ (JA (j7 (Vj C) [(fV 1),(fV 2),(fV 3),(fV 4),(fV 5)]))) ZT jr)
 (j0 (V1 0 C "size" (dC 1))
 (j0 (V1 0 C "kind_rows" (j7 yz [(fV 2)]))
 (j0 (V1 0 C "shun_rows" (j7 yz [(fV 3)]))
 (j0 (V1 0 C "bar_rows" (j7 yz [(fV 4)]))
 (V1 0 C "due_rows" (j7 yz [(fV 5)]))))))))
def yw(C:Addr):=xy C [true,false,false,false,false] 0 (yO C)
def JT(C:Addr):=DS.kZ C
def Vk(C:Addr):=(KH (Qc (JT C) [(true,(d2 j6 (dV 0) (dN 0))),(false,(dL (jK zY [(false,(d2 j6 (dV 0) (dN 1)))]))),(false,(dL (jK zY [(false,(d2 j6 (dV 0) (dN 2)))]))),(false,(dL (jK zY [(false,(d2 j6 (dV 0) (dN 3)))]))),(false,(dL (jK zY [(false,(d2 j6 (dV 0) (dN 4)))])))]))
def Z7(C:Addr):=Vz [false] 0 (Vk C)
def vA(C:Addr):=(jb (JK [(true,(dN 0)),(true,(Yv (dN 1))),(true,(dN 0)),(true,(Yv (dN 1))),(true,(j7 yz [(false,(dL (yt 1 [] (jU (d2 j6 (dV 0) (dN 1))) (gN 0) jW (dN 0))))])),(true,(j7 yz [(false,(dL (yt 1 [] (jU (d2 j6 (dV 0) (dN 4))) (gN 0) jW (dK (.bl false)))))]))]))
def vB(C:Addr):=Jd [false] 0 (vA C)
def zj:=(gT 3 (gC (gN 7) (gC (gN 8) (gC (gN 9) gZ))))
def zm(C:Addr):=(jc (J3 (jg (d2 jt (dV 8) (dV 2))) (jg (d2 jt (d2 j6 (dL (jZ [(tC 3),(tC 5)])) (d2 Y2 (dV 9) (dN 1))) (dV 7)))) (jb (dK (.bl true))) jr)
def Zm(C:Addr):=(j0 (Zt (Q9 (dV 1) (fun Z=>((dN 1) Z).bind yR) (fun Z=>((dN 5) Z).bind yR)) (gT 4 (gC (gN 3) (gC (gN 4) (gC (gN 5) (gC (gN 6) gZ))))))
 (j0 (jc (J3 (jg (d2 jt (dV 2) (dV 3))) (jg (d2 Kj (dV 4) (d2 j6 (d2 j6 (d2 j6 (dV 0) (dN 1)) (dV 2)) (dN 1))))) (jb (dK (.bl true))) jr)
 (j0 (jc (J3 (jg (d2 J8 (dV 2) (dV 3))) (Yu (J3 (jg (d2 J8 (dV 3) (Yv (dN 1)))) (jg (d2 yj (dV 4) (d2 j6 (d2 j6 (d2 j6 (dV 0) (dN 1)) (dV 3)) (dN 0))))) (jg (d2 yG (d2 j6 (dV 6) (dV 2)) (dN 0))))) (jb (dK (.bl true))) jr)
 (j0 (jR (jU (d2 j6 (dV 0) (dN 2))) zj (zm C))
 (jb (dK (.bl false)))))))
def Zn(C:Addr):=Jd [false,false,false] 7 (Zm C)
def Us:=(gT 2 (gC (gN 5) (gC (gT 3 (gC (gN 6) (gC (gN 7) (gC (gN 8) gZ)))) gZ)))
def zn(C:Addr):=(j0 (JZ 4 (Ub (d2 j6 (dV 2) (dV 5)) (Ju (d2 jt (dV 6) (dV 3)) (J1 J5 J5 (dV 7) (dV 1) (dV 8)))))
 (jc (J3 (jg (d2 jt (dV 8) (dV 1))) (JJ (JA (d2 j6 (dV 4) (dV 5))))) (jb (dK .non)) jr))
def u7(C:Addr):=(j0 (JB 4 (jZ []))
 (j0 (jR (KG (d2 j6 (dV 0) (dN 4))) Us (zn C))
 (YJ 4)))
def u8(C:Addr):=Jd [false,false,false,false] 5 (u7 C)
def uJ:=(gT 3 (gC (gN 11) (gC (gN 12) (gC (gN 13) gZ))))
def ZB(C:Addr):=(jc (J3 (jg (d2 jt (dV 11) (dV 2))) (jg (J1 J5 J5 (dV 12) (dV 9) (dV 13)))) (jb (dK .non)) jr)
def uK:=(gT 2 (gC (gN 16) (gC (gT 3 (gC (gN 17) (gC (gN 18) (gC (gN 19) gZ)))) gZ)))
def uL(C:Addr):=(j0 (ji 20 (d2 j6 (dV 7) (dV 16)))
 (j0 (jc (jg (d2 jt (dV 16) (dV 4))) (ji 20 (dC 19)) jr)
 (JZ 15 (gQ (jg (d2 jt (dV 16) (dV 2))) (dN 0) (j7 vm [(false,(dN 0)),(false,(d2 Y2 (dV 20) (dN 1)))])))))
def gB(C:Addr):=(j0 (Zt (dC 1) (gT 6 (gC (gN 3) (gC (gN 4) (gC (gN 5) (gC (gN 6) (gC (gN 7) (gC (gN 8) gZ))))))))
 (j0 (ji 9 (d2 jx (dV 3) (dN 1)))
 (j0 (ji 10 (gQ (jg (d2 jt (dV 2) (dV 4))) (d2 jx (dV 5) (dN 1)) (dN 1)))
 (j0 (jc (jg (d2 yG (dV 9) (d2 j6 (dV 0) (dN 0)))) (jb (dK .non)) jr)
 (j0 (jR (jU (d2 j6 (dV 0) (dN 3))) uJ (ZB C))
 (j0 (jc (JA (j7 (Zn C) [(fV 0),(fV 1),(fV 2)])) (jb (dK .non)) jr)
 (j0 (ji 14 (j7 (u8 C) [(fV 0),(fV 9),(fV 8),(fV 2)]))
 (j0 (jc (jg (d2 VR (dV 14) (dK .non))) (jb (dK .non)) jr)
 (j0 (jc (J3 (jg (d2 jt (dV 9) (d2 j6 (dV 0) (dN 0)))) (jg (d2 yj (dV 10) (d2 j6 (d2 j6 (d2 j6 (dV 0) (dN 1)) (dV 2)) (dN 0))))) (jb (dK .non)) jr)
 (j0 (JB 15 (jZ []))
 (j0 (jR (KG (d2 j6 (dV 0) (dN 1))) uK (uL C))
 (jb (JK [(tC 9),(tC 2),(tC 10),(tC 4),(true,(j7 yz [(fV 15)])),(true,(j7 yz [(fV 14)]))])))))))))))))
def Yz(C:Addr):=Jd [false,true,true] 18 (gB C)
def uM:=(gN 4)
def yS(C:Addr):=(j0 (ji 5 (dL (yt 1 [0,3] (YH (j7 jY [(false,(d2 j6 (dV 0) (dN 1)))])) (gN 0) (jg (d2 yJ (j7 (Yz C) [(fV 1),(tC 2),(tC 0)]) (dK .non))) (dC 0))))
 (jc (jg (d2 J8 (dV 5) (dL (jZ [])))) (j0 (JZ 2 (d2 j6 (dV 5) (d2 jF (dV 4) (j7 jY [(fV 5)]))))
 (ji 3 (j7 (Yz C) [(fV 0),(tC 3),(true,(d2 j6 (dV 2) (Yv (dN 1))))]))) jr))
def Vl(C:Addr):=(j0 (JB 2 (jZ []))
 (j0 (ji 3 (j7 (vB C) [(fV 0)]))
 (j0 (jR (jU (dP 1)) uM (yS C))
 (YJ 2))))
def Vm(C:Addr):=Vz [false,false] 4 (Vl C)
def u9(C:Addr):=(j0 (JB 2 (jK (Vm C) [(fV 0),(false,(dL (Y5 (dV 1) (fun Z=>((dN 5) Z).bind yR) (fun Z=>((d2 jx (dN 5) (d2 jF (d2 j6 (dV 1) (dN 0)) (d2 jx (d2 j6 (dV 0) (dN 0)) (dN 1)))) Z).bind yR))))]))
 (j0 (jc (J3 (jg (d2 jt (d2 jF (d2 j6 (dV 1) (dN 1)) (dN 3)) (dN 1))) (jg (d2 J8 (dV 2) (dL (jZ []))))) (UV 2 (d2 jF (d2 j6 (dV 1) (dN 2)) (j7 jY [(fV 2)])) (d2 jF (d2 j6 (dV 1) (dN 3)) (j7 jY [(false,(d2 j6 (dV 0) (dN 1)))]))) jr)
 (j0 (jc (jg (d2 jt (d2 jF (d2 j6 (dV 1) (dN 1)) (dN 6)) (dN 5))) (JB 2 (yt 1 [0] (jU (dL (Y5 (dV 1) (fun Z=>((dN 5) Z).bind yR) (fun Z=>((d2 jx (dN 5) (d2 jF (d2 j6 (dV 1) (dN 0)) (d2 jx (d2 j6 (dV 0) (dN 0)) (dN 1)))) Z).bind yR)))) (gN 0) jW (d2 jF (dV 0) (j7 jY [(false,(d2 j6 (dV 1) (dN 1)))])))) jr)
 (YJ 2))))
def ZW(C:Addr):=Vz [false,false] 1 (u9 C)
def yB(C:Addr):=(J3 (jg (d2 J5 (dV 2) (dV 1))) (jg (d2 jt (d2 j6 (dV 0) (d2 Y2 (dV 1) (dV 2))) (d2 j6 (dV 0) (dV 1)))))
def vC(C:Addr):=(wu 2 (fun i j=>i+j) (dN 1))
def ua(C:Addr):=(j0 (ji 2 (dN 1))
 (j0 (Zg (yB C) (vC C) 20000)
 (jb (dC 2))))
def zo(C:Addr):=Jd [false,false] 1 (ua C)
def Y3:=(gT 3 (gC (gN 7) (gC (gN 8) (gC (gN 9) gZ))))
def J_(C:Addr):=(jc (J3 (jg (d2 jt (dV 8) (dV 3))) (J3 (jg (d2 Kj (dV 2) (dV 9))) (jg (d2 jt (d2 j6 (dV 1) (d2 Y2 (dV 2) (dV 9))) (dV 7))))) (jb (dK (.str "shun"))) jr)
def ZN(C:Addr):=(j0 (ji 3 (d2 j6 (dV 1) (dV 2)))
 (j0 (ji 4 (j7 (zo C) [(fV 1),(fV 2)]))
 (j0 (jc (jg (d2 yG (dV 4) (d2 j6 (d2 j6 (d2 j6 (dV 0) (dN 1)) (dV 3)) (dN 1)))) (jb (dK (.str "long"))) jr)
 (j0 (jc (J3 (jg (d2 yG (dV 2) (dN 0))) (jg (d2 jt (dV 4) (dN 1)))) (j0 (ji 5 (d2 j6 (d2 j6 (dV 0) (dN 1)) (d2 j6 (dV 1) (d2 Y2 (dV 2) (dN 1)))))
 (jc (jg (d2 yj (j7 (zo C) [(fV 1),(false,(d2 Y2 (dV 2) (dN 1)))]) (d2 j6 (dV 5) (dN 0)))) (jb (dK (.str "short"))) jr)) jr)
 (j0 (jc (jg (d2 jt (dV 4) (dN 1))) (j0 (ji 6 (j7 vm [(false,(dN 0)),(false,(d2 Y2 (dV 2) (d2 j6 (d2 j6 (d2 j6 (dV 0) (dN 1)) (dV 3)) (dN 2))))]))
 (jc (jg (d2 (Yq false) (dV 3) (dL (Y5 (dV 1) (fun Z=>((dV 6) Z).bind yR) (fun Z=>((dV 2) Z).bind yR))))) (jb (dK (.str "early"))) jr)) jr)
 (j0 (jR (jU (d2 j6 (dV 0) (dN 2))) Y3 (J_ C))
 (jb (dK .non))))))))
def ZO(C:Addr):=Jd [false,false,false] 7 (ZN C)
def VC:=(gN 4)
def zN(C:Addr):=(jc (J3 (jg (d2 jt (d2 j6 (dV 4) (dN 0)) (dV 3))) (jg (J1 J5 J5 (d2 j6 (dV 4) (dN 1)) (d2 jx (dV 2) (dN 1)) (d2 j6 (dV 4) (dN 2))))) (jb (dK (.str "barred"))) jr)
def VD:=(gN 6)
def zO(C:Addr):=(jc (J3 (jg (d2 jt (d2 j6 (dV 6) (dN 2)) (d2 jx (dV 2) (dN 1)))) (jg (d2 (Yq true) (d2 j6 (dV 6) (dN 0)) (dL (Y5 (dV 1) (fun Z=>((d2 Y2 (d2 j6 (dV 6) (dN 1)) (dN 1)) Z).bind yR) (fun Z=>((d2 jx (dV 2) (dN 1)) Z).bind yR)))))) (jb (dK (.str "due"))) jr)
def Ut(C:Addr):=(j0 (ji 3 (d2 j6 (dV 1) (dV 2)))
 (j0 (jR (jU (d2 j6 (dV 0) (dN 3))) VC (zN C))
 (j0 (ji 5 (j7 (ZO C) [(fV 0),(fV 1),(fV 2)]))
 (j0 (jc (jg (d2 yJ (dV 5) (dK .non))) (jb (dC 5)) jr)
 (j0 (jR (jU (d2 j6 (dV 0) (dN 4))) VD (zO C))
 (j0 (jc (J3 (jg (d2 jt (d2 jx (dV 2) (dN 1)) (d2 j6 (dV 0) (dN 0)))) (jg (d2 yj (j7 (zo C) [(fV 1),(fV 2)]) (d2 j6 (d2 j6 (d2 j6 (dV 0) (dN 1)) (dV 3)) (dN 0))))) (jb (dK (.str "cut"))) jr)
 (jb (dK .non))))))))
def Uu(C:Addr):=Jd [false,false,false] 4 (Ut C)
def V5:=(gN 2)
def zp(C:Addr):=(j0 (ji 3 (j7 (Uu C) [(fV 0),(fV 1),(fV 2)]))
 (jc (jg (d2 yJ (dV 3) (dK .non))) (jb (JK [(true,(d2 jx (dV 2) (dN 1))),(tC 3)])) jr))
def ZC(C:Addr):=(j0 (jR (YH (j7 jY [(fV 1)])) V5 (zp C))
 (jb (dK .non)))
def YK(C:Addr):=Jd [false,false] 2 (ZC C)
def ub(C:Addr):=(j0 (ji 2 (j7 jY [(false,(d2 j6 (dV 0) (dN 1)))]))
 (j0 (jc (jg (d2 J8 (dL (yt 1 [2] (jU (dP 1)) (gN 0) (JJ (jg (J1 J5 yj (dN 0) (dV 0) (dV 1)))) (dC 0))) (dL (jZ [])))) (jb (JK [(true,(dL (jZ [(true,(dK (.bl true))),(true,(dK (.bl false))),(true,(dK (.bl false)))]))),(true,(dK .non))])) jr)
 (j0 (jc (jg (d2 yG (j7 jY [(fV 1)]) (d2 j6 (dV 0) (dN 0)))) (jb (JK [(true,(dL (jZ [(true,(dK (.bl false))),(true,(dK (.bl true))),(true,(dK (.bl false)))]))),(true,(dK .non))])) jr)
 (j0 (jc (jg (d2 yJ (j7 (YK C) [(fV 0),(fV 1)]) (dK .non))) (jb (JK [(true,(dL (jZ [(true,(dK (.bl false))),(true,(dK (.bl false))),(true,(dK (.bl true)))]))),(true,(j7 (YK C) [(fV 0),(fV 1)]))])) jr)
 (jb (JK [(true,(dL (jZ []))),(true,(dK .non))]))))))
def ZX(C:Addr):=Jd [false,false] 1 (ub C)
def vF(C:Addr):=(jb (j7 jY [(false,(d1 (jV C "kind_rows") (dV 0)))]))
def yC(C:Addr):=Jd [false] 0 (vF C)
def Uv(C:Addr):=(jb (J1 J5 yj (dN 0) (dV 1) (d1 (v_ C "many" (yC C)) (dV 0))))
def V6(C:Addr):=Jd [false,false] 0 (Uv C)
def Yw(C:Addr):=(jb (j7 zJ [(false,(dL (yt 1 [0] (jU (dP 1)) (gN 0) jW (j7 (V6 C) [(fV 1),(fV 0)]))))]))
def Jz(C:Addr):=Jd [false,false] 0 (Yw C)
def Vn(C:Addr):=(j0 (jc (JJ (JA (j7 (Jz C) [(fV 0),(fV 1)]))) (wP "NoKind") jr)
 (jc (jg (d2 yG (j7 jY [(fV 1)]) (d1 (jV C "size") (dV 0)))) (wP "TooLong") jr))
def Z8(C:Addr):=Zj [false,false] 0 (Vn C)
def ZD(C:Addr):=(j0 (ji 1 (d2 yK (JK [(true,(dN 0))]) (d1 (v_ C "many" (yC C)) (dV 0))))
 (j0 (ji 2 (d2 yK (JK [(true,(dK (.bl false)))]) (j7 jY [(false,(d1 (jV C "due_rows") (dV 0)))])))
 (jb (JK [(true,(dN 0)),(true,(Yv (dN 1))),(true,(dN 0)),(true,(Yv (dN 1))),(tC 1),(tC 2)]))))
def ZE(C:Addr):=Jd [false] 2 (ZD C)
def uN:=(gT 3 (gC (gN 4) (gC (gN 5) (gC (gN 6) gZ))))
def uO(C:Addr):=(jc (J3 (jg (d2 jt (dV 4) (dV 2))) (jg (J1 J5 J5 (dV 5) (dV 3) (dV 6)))) (jb (dK (.bl true))) jr)
def gD(C:Addr):=(j0 (ji 3 (d2 jx (d2 j6 (dV 1) (dN 0)) (dN 1)))
 (j0 (jR (jU (d1 (jV C "bar_rows") (dV 0))) uN (uO C))
 (jb (dK (.bl false)))))
def gE(C:Addr):=Jd [false,false,false] 4 (gD C)
def Uw(C:Addr):=(jb (Ju (d2 jt (d2 j6 (dV 1) (dN 1)) (dV 2)) (d2 Kj (d2 j6 (dV 1) (dN 2)) (d2 j6 (d2 j6 (d1 (jV C "kind_rows") (dV 0)) (dV 2)) (dN 1)))))
def Ux(C:Addr):=Jd [false,false,false] 0 (Uw C)
def uc(C:Addr):=(j0 (ji 3 (d2 j6 (dV 1) (dN 1)))
 (j0 (jc (Yu (jg (d2 jt (dV 3) (dV 2))) (jg (d2 jt (dV 3) (Yv (dN 1))))) (jb (dK (.bl false))) jr)
 (jb (d2 yj (d2 j6 (dV 1) (dN 2)) (d2 j6 (d2 j6 (d1 (jV C "kind_rows") (dV 0)) (dV 3)) (dN 0))))))
def ud(C:Addr):=Jd [false,false,false] 1 (uc C)
def ue(C:Addr):=(jb (Ju (d2 J8 (d2 j6 (dV 0) (dN 1)) (dV 1)) (d2 J8 (d2 j6 (d2 j6 (dV 0) (dN 4)) (dV 1)) (dN 0))))
def uf(C:Addr):=Jd [false,false] 0 (ue C)
def VE:=(gT 3 (gC (gN 3) (gC (gN 4) (gC (gN 5) gZ))))
def zP(C:Addr):=(j0 (ji 6 (gQ (jg (d2 jt (dV 5) (dN 1))) (d2 j6 (dV 1) (dN 1)) (d2 j6 (dV 1) (dN 3))))
 (jc (J3 (jg (d2 jt (dV 4) (dV 2))) (jg (d2 jt (dV 6) (dV 3)))) (jb (dK (.bl true))) jr))
def Uy(C:Addr):=(j0 (jR (jU (d1 (jV C "shun_rows") (dV 0))) VE (zP C))
 (jb (dK (.bl false))))
def Uz(C:Addr):=Jd [false,false,false] 4 (Uy C)
def UA:=(gT 2 (gC (gN 5) (gC (gN 6) gZ)))
def vG(C:Addr):=(j0 (Zt (dC 5) (gT 3 (gC (gN 7) (gC (gN 8) (gC (gN 9) gZ)))))
 (JZ 4 (Ub (dV 6) (Ju (d2 jt (dV 7) (dV 2)) (J1 J5 J5 (dV 8) (dV 3) (dV 9))))))
def ug(C:Addr):=(j0 (ji 3 (d2 jx (d2 j6 (dV 1) (dN 0)) (dN 1)))
 (j0 (JB 4 (jZ []))
 (j0 (jR (wr (d1 (jV C "due_rows") (dV 0)) (d2 j6 (dV 1) (dN 5))) UA (vG C))
 (jb (j7 yz [(fV 4)])))))
def ZY(C:Addr):=Jd [false,false,false] 7 (ug C)
def VF:=(gT 2 (gC (gN 4) (gC (gN 5) gZ)))
def VG(C:Addr):=(jc (J3 (jg (d2 jt (d2 j6 (dV 4) (dN 2)) (dV 3))) (JJ (JA (dV 5)))) (jb (dK (.bl true))) jr)
def UB(C:Addr):=(j0 (ji 3 (d2 jx (d2 j6 (dV 1) (dN 0)) (dN 1)))
 (j0 (jR (wr (d1 (jV C "due_rows") (dV 0)) (j7 (ZY C) [(fV 0),(fV 1),(fV 2)])) VF (VG C))
 (jb (dK (.bl false)))))
def UC(C:Addr):=Jd [false,false,false] 3 (UB C)
def uh(C:Addr):=(j0 (jc (jg (d2 jt (d2 j6 (dV 0) (dN 1)) (dV 1))) (jb (d2 jx (d2 j6 (dV 0) (dN 2)) (dN 1))) jr)
 (jb (dN 1)))
def ZZ(C:Addr):=Jd [false,false] 0 (uh C)
def Gb(C:Addr):=(j0 (jc (jg (d2 J8 (d2 jx (d2 j6 (dV 1) (dN 0)) (dN 1)) (d1 (jV C "size") (dV 0)))) (jb (dK (.bl false))) jr)
 (jb (d2 yj (j7 (ZZ C) [(fV 1),(fV 2)]) (d2 j6 (d2 j6 (d1 (jV C "kind_rows") (dV 0)) (dV 2)) (dN 0)))))
def Gc(C:Addr):=Jd [false,false,false] 0 (Gb C)
def Gd(C:Addr):=(j0 (jc (JA (j7 (gE C) [(fV 0),(fV 1),(fV 2)])) (jb (dK (.str "barred"))) jr)
 (j0 (jc (JA (j7 (Ux C) [(fV 0),(fV 1),(fV 2)])) (jb (dK (.str "long"))) jr)
 (j0 (jc (JA (j7 (ud C) [(fV 0),(fV 1),(fV 2)])) (jb (dK (.str "short"))) jr)
 (j0 (jc (JA (j7 (uf C) [(fV 1),(fV 2)])) (jb (dK (.str "early"))) jr)
 (j0 (jc (JA (j7 (Uz C) [(fV 0),(fV 1),(fV 2)])) (jb (dK (.str "shun"))) jr)
 (j0 (jc (JA (j7 (UC C) [(fV 0),(fV 1),(fV 2)])) (jb (dK (.str "due"))) jr)
 (j0 (jc (JA (j7 (Gc C) [(fV 0),(fV 1),(fV 2)])) (jb (dK (.str "cut"))) jr)
 (jb (dK .non)))))))))
def Ge(C:Addr):=Jd [false,false,false] 0 (Gd C)
def vH(C:Addr):=(j0 (ji 3 (d2 j6 (dV 1) (dN 1)))
 (j0 (JB 4 (yt 1 [] (jU (d2 j6 (dV 1) (dN 4))) (gN 0) jW (j7 vm [(false,(d2 Y2 (dV 0) (dN 1))),(false,(dN 0))])))
 (j0 (jc (jg (d2 J8 (dV 3) (Yv (dN 1)))) (UV 4 (dV 3) (j7 vm [(false,(d2 Y2 (d2 j6 (d2 j6 (d1 (jV C "kind_rows") (dV 0)) (dV 3)) (dN 2)) (dN 1))),(false,(dN 0))])) jr)
 (j0 (UV 4 (dV 2) (dN 0))
 (jb (j7 yz [(fV 4)]))))))
def vI(C:Addr):=Jd [false,false,false] 2 (vH C)
def vJ(C:Addr):=(j0 (ji 3 (j7 (ZZ C) [(fV 1),(fV 2)]))
 (j0 (ji 4 (j7 (vI C) [(fV 0),(fV 1),(fV 2)]))
 (j0 (ji 5 (j7 (ZY C) [(fV 0),(fV 1),(fV 2)]))
 (jb (JK [(true,(d2 jx (d2 j6 (dV 1) (dN 0)) (dN 1))),(tC 2),(tC 3),(true,(d2 j6 (dV 1) (dN 1))),(tC 4),(tC 5)])))))
def zq(C:Addr):=Jd [false,false,true] 3 (vJ C)
def Z_:=(gN 3)
def v4(C:Addr):=(j0 (ji 4 (j7 (Ge C) [(fV 0),(fV 2),(fV 3)]))
 (j0 (jc (jg (d2 yJ (dV 4) (dK .non))) (jb (JK [(tC 2),(tC 4)])) jr)
 (ji 2 (j7 (zq C) [(fV 0),(fV 2),(tC 3)]))))
def Gf(C:Addr):=(j0 (ji 2 (j7 (ZE C) [(fV 0)]))
 (j0 (jR (jU (dP 1)) Z_ (v4 C))
 (jb (JK [(tC 2),(true,(dK .non))]))))
def vK(C:Addr):=Jd [false,false] 3 (Gf C)
def Gg(C:Addr):=(j0 (ya (J4 (Z8 C) [(fV 0),(fV 1)]) fun _ Z=>some (.nx Z))
 (j0 (Zt (j7 (vK C) [(fV 0),(fV 1)]) (gT 2 (gC (gN 2) (gC (gN 3) gZ))))
 (j0 (jc (jg (d2 VR (dV 3) (dK .non))) (jb (dK .non)) jr)
 (jb (JK [(true,(d2 jx (d2 j6 (dV 2) (dN 0)) (dN 1))),(tC 3)])))))
def vL(C:Addr):=Zj [false,false] 2 (Gg C)
def ui(C:Addr):=(j0 (ya (J4 (Z8 C) [(fV 0),(fV 1)]) fun _ Z=>some (.nx Z))
 (j0 (Zt (j7 (vK C) [(fV 0),(fV 1)]) (gT 2 (gC (gN 2) (gC (gN 3) gZ))))
 (j0 (jc (jg (d2 yJ (dV 3) (dK .non))) (aW "Broken" ["place", "word"] [(true,(d2 jx (d2 j6 (dV 2) (dN 0)) (dN 1))),(tC 3)]) jr)
 (jb (dC 2)))))
def jX(C:Addr):=Zj [false,false] 2 (ui C)
def UD(C:Addr):=(j0 (jc (Yu (jg (d2 Kj (d2 j6 (dV 1) (dN 0)) (d1 (jV C "size") (dV 0)))) (jg (d2 yJ (j7 (Ge C) [(fV 0),(fV 1),(fV 2)]) (dK .non)))) (jb (dK .non)) jr)
 (jb (j7 (zq C) [(fV 0),(fV 1),(tC 2)])))
def UE(C:Addr):=Jd [false,false,true] 0 (UD C)
def VH:=(gN 3)
def Yl(C:Addr):=(j0 (ji 4 (j7 (UE C) [(fV 0),(fV 1),(tC 3)]))
 (jc (jg (d2 yJ (dV 4) (dK .non))) (JZ 2 (JK [(tC 3),(tC 4)])) jr))
def vM(C:Addr):=(j0 (JB 2 (jZ []))
 (j0 (jR (YH (d1 (v_ C "many" (yC C)) (dV 0))) VH (Yl C))
 (YJ 2)))
def JU(C:Addr):=Vz [false,false] 3 (vM C)
def zt:=(gT 2 (gC (gN 7) (gC (gN 8) gZ)))
def yk(C:Addr):=(Zw 5 (dC 8) (dK (.bl true)))
def zu:=(gN 6)
def yl(C:Addr):=(j0 (Zw 4 (dC 6) (dL (jK (JU C) [(fV 0),(fV 6)])))
 (jR (jU (d2 yb (dV 4) (dV 6))) zt (yk C)))
def V7(C:Addr):=(JA (dV 3))
def Y6(C:Addr):=(j0 (JB 4 UX)
 (j0 (JB 5 UX)
 (j0 (jR (jU (dP 3)) zu (yl C))
 (Vy 4 (j0 (JZ 2 (dC 4))
 (ji 3 (dL (jK ze [(fV 5)]))))))))
def ZF(C:Addr):=(j0 (JB 2 (jZ []))
 (j0 (ji 3 (dL (jZ [(tC 1)])))
 (j0 (Zg (V7 C) (Y6 C) 20000)
 (YJ 2))))
def yT(C:Addr):=Vz [false,true] 7 (ZF C)
def zw:=(gT 2 (gC (gN 4) (gC (gN 5) gZ)))
def ym(C:Addr):=(jc (jg (d2 jt (d2 j6 (dV 4) (dN 0)) (d1 (jV C "size") (dV 0)))) (Zw 2 (dC 4) (dN 1)) (Zw 2 (dC 4) (j7 wJ [(false,(dL (yt 2 [2] (jU (dP 5)) (gT 2 (gC (gN 0) (gC (gN 1) gZ))) jW (d2 yb (dV 2) (dV 1)))))])))
def zx:=(gN 3)
def yn(C:Addr):=(jR (Zi (dP 3)) zw (ym C))
def YL(C:Addr):=(j0 (JB 2 UX)
 (j0 (jR (Qi (dL (jK (yT C) [(fV 0),(tC 1)]))) zx (yn C))
 (YJ 2)))
def Jn(C:Addr):=Vz [false,true] 4 (YL C)
def ka(C:Addr):=(j0 (ya (J4 (jX C) [(fV 0),(fV 1)]) fun d Z=>some (.nx (Z.set 2 (.cl d))))
 (jb (d2 yb (dL (jK (Jn C) [(fV 0),(tC 2)])) (dV 2))))
def VI(C:Addr):=Zj [false,false] 1 (ka C)
def v5(C:Addr):=(j0 (ya (J4 (jX C) [(fV 0),(fV 1)]) fun d Z=>some (.nx (Z.set 2 (.cl d))))
 (j0 (ji 3 (dL (jK (Jn C) [(fV 0),(tC 2)])))
 (jb (dL (yt 2 [3] (jU (dL (jK (JU C) [(fV 0),(fV 2)]))) (gT 2 (gC (gN 0) (gC (gN 1) gZ))) (jg (d2 yG (d2 yb (dV 2) (dV 1)) (dN 0))) (dC 0))))))
def Ym(C:Addr):=Zj [false,false] 2 (v5 C)
def zy:=(gT 2 (gC (gN 5) (gC (gN 6) gZ)))
def Jv(C:Addr):=(j0 (jc (jg (d2 yj (dV 4) (d2 yb (dV 2) (dV 6)))) (jb (JK [(tC 5),(tC 6),(tC 4)])) jr)
 (wu 4 (fun i j=>i - j) (d2 yb (dV 2) (dV 6))))
def ZG(C:Addr):=(j0 (ji 4 (dC 3))
 (j0 (jR (jU (dL (jK (JU C) [(fV 0),(fV 1)]))) zy (Jv C))
 (jb (dK .non))))
def ZH(C:Addr):=Jd [false,false,false,true] 3 (ZG C)
def yD(C:Addr):=(jg (d2 yj (j7 jY [(fV 4)]) (d1 (jV C "size") (dV 0))))
def zA(C:Addr):=(j0 (Zt (j7 (ZH C) [(fV 0),(fV 5),(fV 2),(tC 6)]) (gT 3 (gC (gN 7) (gC (gN 5) (gC (gN 6) gZ)))))
 (JZ 4 (dC 7)))
def uj(C:Addr):=(j0 (JB 4 (jK zY [(fV 1)]))
 (j0 (ji 5 (j7 (xM (jX C)) [(fV 0),(fV 1)]))
 (j0 (ji 6 (dC 3))
 (j0 (Zg (yD C) (zA C) 20000)
 (YJ 4)))))
def uk(C:Addr):=Vz [false,false,false,true] 4 (uj C)
def KN(C:Addr):=(j0 (ya (J4 (jX C) [(fV 0),(fV 1)]) fun d Z=>some (.nx (Z.set 3 (.cl d))))
 (j0 (ji 4 (dL (jK (Jn C) [(fV 0),(tC 3)])))
 (j0 (jc (JJ (jg (J1 J5 yj (dN 0) (dV 2) (d2 yb (dV 4) (dV 3))))) (wP "NoNumber") jr)
 ZT)))
def gb(C:Addr):=Zj [false,false,true] 2 (KN C)
def v6(C:Addr):=(j0 (jc (Yu (jg (d2 J8 (j7 jY [(fV 1)]) (d1 (jV C "size") (dV 0)))) (JJ (JA (j7 (Jz C) [(fV 0),(fV 1)])))) (jb (dK (.bl false))) jr)
 (jb (d2 VR (d2 j6 (j7 (vK C) [(fV 0),(fV 1)]) (dN 1)) (dK .non))))
def yP(C:Addr):=Jd [false,false] 0 (v6 C)
def Z9(C:Addr):=(j0 (ya (J4 (jX C) [(fV 0),(fV 1)]) fun d Z=>some (.nx (Z.set 3 (.cl d))))
 (j0 (jc (Yu (JJ (JA (j7 (yP C) [(fV 0),(fV 2)]))) (jg (d2 J8 (dL (Y5 (dV 2) (fun _=>some none) (fun Z=>((j7 jY [(fV 1)]) Z).bind yR))) (dV 1)))) (wP "NoSheet") jr)
 (j0 (ji 4 (dL (jK (Jn C) [(fV 0),(tC 3)])))
 ZT)))
def y_(C:Addr):=Zj [false,false,false] 4 (Z9 C)
def ul(C:Addr):=(j0 (ya (J4 (jX C) [(fV 0),(fV 1)]) fun d Z=>some (.nx (Z.set 2 (.cl d))))
 (j0 (ji 3 (dL (jK (Jn C) [(fV 0),(tC 2)])))
 (j0 (jc (jg (d2 jt (d2 yb (dV 3) (dV 2)) (dN 0))) (jb (dK .non)) jr)
 (jb (dL (jK (uk C) [(fV 0),(fV 1),(fV 3),(true,(dN 0))]))))))
def zQ(C:Addr):=Zj [false,false] 2 (ul C)
def V8(C:Addr):=(j0 (ya (aY (aX (yT C)) (dV 0) (J4 (jX C) [(fV 0),(fV 1)])) fun d Z=>some (.nx (Z.set 2 (.cl d))))
 (j0 (jc (jg (d2 yG (d2 jx (j7 jY [(fV 1)]) (j7 jY [(fV 2)])) (d1 (jV C "size") (dV 0)))) (jb (dK .non)) jr)
 (jb (dL (yt 1 [] (jU (dP 2)) (gN 0) jW (dL (jK ze [(fV 0)])))))))
def Y_(C:Addr):=Zj [false,false] 1 (V8 C)
def WG(C:Addr):=(j0 (jc (Yu (jg (d2 J8 (d2 j6 (dV 1) (dN 0)) (dV 2))) (jg (d2 Kj (dV 2) (d1 (jV C "size") (dV 0))))) (jb (dK (.bl false))) jr)
 (jb (j7 zJ [(false,(dL (yt 2 [3] (jU (dL (jK (JU C) [(fV 0),(fV 1)]))) (gT 2 (gC (gN 0) (gC (gN 1) gZ))) jW (d2 (wE false) (dV 1) (dV 2)))))])))
def YM(C:Addr):=(j0 (ya (J4 (jX C) [(fV 0),(fV 1)]) fun d Z=>some (.nx (Z.set 3 (.cl d))))
 (j0 (jc (Yu (JJ (JA (dV 2))) (jg (d2 (Yq true) (dV 3) (d2 j6 (dV 2) (dN 0))))) (jb (dK (.bl false))) jr)
 ZT))
def yf(C:Addr):=Zj [false,false,false] 4 (YM C)
def vO(C:Addr):=(jc (JJ (jg (J1 J5 J5 (dN 2) (dV 0) (dN 5)))) (wP "BadBeat") jr)
def zB(C:Addr):=Zj [false] 0 (vO C)
def Yx(C:Addr):=(jb (d2 jt (d2 jF (d2 jx (d2 j6 (dV 1) (dN 0)) (dN 1)) (dV 0)) (dN 0)))
def JI(C:Addr):=Jd [false,false] 0 (Yx C)
def zR:=(gT 2 (gC (gN 5) (gC (gN 6) gZ)))
def yE(C:Addr):=(j0 (ji 7 (dL (yt 2 [3] (jU (dP 6)) (gT 2 (gC (gN 0) (gC (gN 1) gZ))) jW (d2 yb (dV 2) (dV 1)))))
 (jc (jg (d2 jt (d2 j6 (dV 5) (dN 0)) (d1 (jV C "size") (dV 0)))) (Zw 3 (dC 5) (dK (.bl true))) (jc (JA (j7 (JI C) [(fV 1),(fV 5)])) (Zw 3 (dC 5) (Ju (d2 yG (j7 jY [(fV 7)]) (dN 0)) (j7 zJ [(fV 7)]))) (Zw 3 (dC 5) (j7 kN [(fV 7)])))))
def zS:=(gN 4)
def yF(C:Addr):=(jR (Zi (dP 4)) zR (yE C))
def vP(C:Addr):=(j0 (JB 3 UX)
 (j0 (jR (Qi (dL (jK (yT C) [(fV 0),(tC 2)]))) zS (yF C))
 (YJ 3)))
def zC(C:Addr):=Vz [false,false,true] 5 (vP C)
def V9(C:Addr):=(j0 (ya (J4 (zB C) [(fV 1)]) fun _ Z=>some (.nx Z))
 (j0 (ya (J4 (jX C) [(fV 0),(fV 2)]) fun d Z=>some (.nx (Z.set 3 (.cl d))))
 (j0 (jc (JA (d2 yb (dL (jK (zC C) [(fV 0),(fV 1),(tC 3)])) (dV 3))) (jb (dK (.str "host"))) jr)
 (jb (dK (.str "spoiler"))))))
def z9(C:Addr):=Zj [false,false,false] 1 (V9 C)
def um:=(gT 2 (gC (gN 6) (gC (gN 7) gZ)))
def v7(C:Addr):=(jc (jg (d2 jt (d2 yb (dV 4) (dV 7)) (dV 5))) (jb (dC 6)) jr)
def uo(C:Addr):=(j0 (ya (J4 (zB C) [(fV 1)]) fun _ Z=>some (.nx Z))
 (j0 (ya (J4 (jX C) [(fV 0),(fV 2)]) fun d Z=>some (.nx (Z.set 3 (.cl d))))
 (j0 (ji 4 (dL (jK (zC C) [(fV 0),(fV 1),(tC 3)])))
 (j0 (ji 5 (Q8 (j7 (JI C) [(fV 1),(fV 3)])))
 (j0 (jR (jU (dL (jK (JU C) [(fV 0),(fV 3)]))) um (v7 C))
 (jb (dK .non)))))))
def zT(C:Addr):=Zj [false,false,false] 5 (uo C)
def UF(C:Addr):=(jc (jg (d2 jt (dV 0) (dN 0))) (ya (J4 (vL C) [(fV 1),(fV 2)]) fun _ Z=>some (.nx Z)) (jc (jg (d2 jt (dV 0) (dN 1))) (ya (J4 (jX C) [(fV 1),(fV 2)]) fun _ Z=>some (.nx Z)) (jc (jg (d2 jt (dV 0) (dN 2))) (ya (J4 (VI C) [(fV 1),(fV 2)]) fun _ Z=>some (.nx Z)) (jc (jg (d2 jt (dV 0) (dN 3))) (ya (J4 (Ym C) [(fV 1),(fV 2)]) fun _ Z=>some (.nx Z)) (jc (jg (d2 jt (dV 0) (dN 4))) (ya (J4 (gb C) [(fV 1),(fV 2),(true,(Yv (dN 1)))]) fun _ Z=>some (.nx Z)) (jc (jg (d2 jt (dV 0) (dN 5))) (ya (J4 (y_ C) [(fV 1),(fV 2),(false,(dL (jZ [])))]) fun _ Z=>some (.nx Z)) (jc (jg (d2 jt (dV 0) (dN 6))) (ya (J4 (zQ C) [(fV 1),(fV 2)]) fun _ Z=>some (.nx Z)) (jc (jg (d2 jt (dV 0) (dN 7))) (ya (J4 (Y_ C) [(fV 1),(fV 2)]) fun _ Z=>some (.nx Z)) (jc (jg (d2 jt (dV 0) (dN 8))) (ya (J4 (yf C) [(fV 1),(fV 2),(false,(dL (jZ [])))]) fun _ Z=>some (.nx Z)) (jc (jg (d2 jt (dV 0) (dN 9))) (ya (J4 (z9 C) [(fV 1),(false,(dN 2)),(fV 2)]) fun _ Z=>some (.nx Z)) (ya (J4 (zT C) [(fV 1),(false,(dN 5)),(fV 2)]) fun _ Z=>some (.nx Z))))))))))))
def jL(C:Addr):=Zj [false,false,false] 0 (UF C)
def Vo(C:Addr):=(j0 (ji 3 (dL (jZ [])))
 (j0 (ji 4 (dK .non))
 (j0 (wQ (J4 (jL C) [(fV 0),(fV 1),(fV 2)]) (GM (j7 (xM (jL C)) [(fV 0),(fV 1),(fV 2)])) [⟨["Broken"],["NoKind", "TooLong", "NoNumber", "NoSheet", "BadBeat"],5,(j0 (ji 3 (dL (jZ [(true,(d1 (kR Xb "NoKind") (dV 5))),(true,(d1 (kR Xb "TooLong") (dV 5))),(true,(dK (.bl true)))])))
 (ji 4 (JK [(true,(d1 (Qq Ex "place") (dV 5))),(true,(d1 (Qq Ex "word") (dV 5)))])))⟩,⟨["NoKind", "TooLong", "Broken", "NoNumber", "NoSheet", "BadBeat"],[],5,(ji 3 (dL (jZ [(true,(d1 (kR Xb "NoKind") (dV 5))),(true,(d1 (kR Xb "TooLong") (dV 5))),(true,(dK (.bl false)))])))⟩])
 (jb (JK [(tC 3),(tC 4)])))))
def YA(C:Addr):=Jd [false,false,false] 3 (Vo C)
def Za(C:Addr)(rec:List D->Option D):DS.DS:=(j0 (jc (jg (d2 VR (dV 1) (dK .non))) (jb (d2 VR (dV 0) (dK .non))) jr)
 (j0 (jc (JA (d1 Qr (dV 1))) (j0 (jc (Yu (jg (d2 J8 (d1 (Zu "list") (dV 0)) (d1 (Zu "list") (dV 1)))) (jg (d2 J8 (d1 (Zu "tuple") (dV 0)) (d1 (Zu "tuple") (dV 1))))) (jb (dK (.bl false))) jr)
 (jb (Ju (d2 jt (j7 jY [(fV 0)]) (j7 jY [(fV 1)])) (j7 zJ [(false,(dL (yt 2 [] (wr (dP 0) (dP 1)) (gT 2 (gC (gN 0) (gC (gN 1) gZ))) jW (j7 rec [(fV 0),(fV 1)]))))])))) jr)
 (j0 (jc (Yu (jg (d2 J8 (d1 (Zu "bool") (dV 0)) (d1 (Zu "bool") (dV 1)))) (jg (d2 J8 (d1 (Zu "str") (dV 0)) (d1 (Zu "str") (dV 1))))) (jb (dK (.bl false))) jr)
 (jb (Ju (d2 jt (d1 (Zu "int") (dV 0)) (d1 (Zu "int") (dV 1))) (d2 jt (dV 0) (dV 1)))))))
def jJ(C:Addr):Nat->List D->Option D
 | 0=>fun _=>none
 | n+1=>Jd [false,false] 0 (Za C (jJ C n))
def gc:=(gN 10)
def vf(C:Addr):=(j0 (Zt (j7 (YA C) [(fV 10),(fV 3),(fV 9)]) (gT 2 (gC (gN 11) (gC (gN 12) gZ))))
 (j0 (jc (Yu (jg (d2 J8 (dV 9) (dV 4))) (JJ (JA (j7 (jJ C 6) [(fV 12),(false,(gQ (jg (d2 yG (dV 10) (dN 0))) (d2 j6 (dV 8) (dN 1)) (dK .non)))])))) (jb (dK (.bl false))) jr)
 (j0 (ji 13 (d2 j6 (dV 8) (dN 0)))
 (j0 (jc (J3 (jg (d2 jt (dV 10) (dN 0))) (jg (d2 yJ (d2 j6 (dV 8) (dN 1)) (dK .non)))) (ji 13 (dL (jZ []))) jr)
 (j0 (jc (J3 (jg (d2 (Yq false) (dV 10) (dL (jZ [(true,(dN 4)),(true,(dN 5))])))) (jg (d2 jt (d2 j6 (dV 8) (dN 0)) (dL (jZ []))))) (ji 13 (dL (jZ [(true,(dK (.bl false))),(true,(dK (.bl false))),(true,(dK (.bl false)))]))) jr)
 (jc (jg (d2 J8 (dV 11) (dV 13))) (jb (dK (.bl false))) jr))))))
def KO(C:Addr):=(j0 (ji 1 (dL (jK (Yj C) [(fV 0),(false,(dN 130))])))
 (j0 (ji 2 (j7 (Z0 C) [(fV 1),(false,(dN 8))]))
 (j0 (ji 3 (dL (jK (Z7 C) [(fV 2)])))
 (j0 (JB 4 (jK (ZW C) [(fV 2),(false,(dL (Y5 (dV 1) (fun Z=>((dN 60) Z).bind yR) (fun _=>some none))))]))
 (j0 (ji 5 (j7 jY [(false,(d2 j6 (dV 2) (dN 1)))]))
 (j0 (ji 6 (d2 jx (d2 Y2 (d2 jx (dN 1) (d2 j6 (dV 2) (dN 0))) (j7 jY [(fV 4)])) (d2 jF (d2 j6 (dV 1) (dN 110)) (dN 3))))
 (j0 (jc (jg (d2 jt (d2 jF (d2 j6 (dV 1) (dN 100)) (dN 4)) (dN 1))) (JB 4 (xh kG (dV 4) (dL (yt 1 [5] (jU (dL (Y5 (dV 1) (fun Z=>((dN 114) Z).bind yR) (fun Z=>((d2 jx (dN 114) (dV 6)) Z).bind yR)))) (gN 0) jW (d2 jF (dV 0) (dV 1)))))) jr)
 (j0 (ji 7 (d2 j6 (dL (jZ [(true,(Yv (dN 1))),(tC 5),(true,(d2 gP (dN 10) (dN 20))),(true,(Yv (d2 gP (dN 10) (dN 20))))])) (d2 jF (d2 j6 (dV 1) (dN 113)) (dN 4))))
 (j0 (jc (jg (d2 jt (d2 jF (d2 j6 (dV 1) (dN 111)) (dN 4)) (dN 1))) (wK 4 (d2 jF (d2 j6 (dV 1) (dN 112)) (d2 jx (j7 jY [(fV 4)]) (dN 1))) (dC 7)) jr)
 (j0 (ji 8 (j7 (ZX C) [(fV 2),(fV 4)]))
 (j0 (ji 9 (dL (jK zY [(fV 4)])))
 (j0 (jR (YH (dN 11)) gc (vf C))
 (j0 (ji 14 (Ju (d2 jt (d2 j6 (dV 8) (dN 0)) (dL (jZ []))) (d2 jt (j7 jY [(fV 4)]) (d2 j6 (dV 2) (dN 0)))))
 (jb (Ju (j7 (jJ C 6) [(false,(j7 (yP C) [(fV 3),(fV 9)])),(fV 14)]) (d2 jt (dV 9) (dV 4)))))))))))))))))
def KP(C:Addr):=Jd [false] 14 (KO C)
def W9(C:Addr)(t:T3):Z4 C [t3 t]=some (.bl (fK t)):=by
 obtain⟨x,y,z⟩:=t;unfold fK;simp only[Z4,Vf,t3];by_cases h1:1<=x
 ·by_cases h2:x<=y
  ·by_cases h3:y<=4
   ·by_cases h4:0<=z <;> simp[h1,h2,h3,h4]
   ·simp[h1,h2,h3]
  ·simp[h1,h2]
 ·simp[h1]
def Wa(C:Addr)(t:T3)(m:Int):Z5 C [t3 t,.int m]=some (.bl (fS m t)):=by
 obtain⟨x,y,z⟩:=t;unfold fS;simp only[Z5,Vg,t3];by_cases h1:0<=x
 ·by_cases h2:x < m
  ·by_cases h3:0<=y
   ·by_cases h4:y < m
    ·by_cases h5:1<=z <;> simp[h1,h2,h3,h4,h5]
    ·simp[h1,h2,h3,h4]
   ·simp[h1,h2,h3]
  ·simp[h1,h2]
 ·simp[h1]
def Wb(C:Addr)(t:T3)(m s:Int):Z6 C [t3 t,.int m,.int s]=some (.bl (fB m s t)):=by
 obtain⟨x,y,z⟩:=t;unfold fB;simp only[Z6,Vh,t3];by_cases h1:0<=x
 ·by_cases h2:x < m
  ·by_cases h3:1<=y
   ·by_cases h4:y<=z <;> simp[h1,h2,h3,h4]
   ·simp[h1,h2,h3]
  ·simp[h1,h2]
 ·simp[h1]
def k_(C:Addr)(s:Int)(k h b d:List D):ZA C [.int s,.lst k,.lst h,.lst b,.lst d]=some (.bl (fC s k.length h.length b.length d.length)):=by
 unfold fC;simp only[ZA,Zz];by_cases h1:1<=s
 ·by_cases h2:s<=30
  ·by_cases h3:(1:Int)<=k.length
   ·by_cases h4:(k.length:Int)<=4
    ·by_cases h5:(h.length:Int)<=20
     ·by_cases h6:(b.length:Int)<=12 <;> simp[h1,h2,h3,h4,h5,h6]
     ·simp[h1,h2,h3,h4,h5]
    ·simp[h1,h2,h3,h4]
   ·simp[h1,h2,h3]
  ·simp[h1,h2]
 ·simp[h1]
theorem Yd{α:Type}(f:α->Bool):∀l:List α,Vd (l.map fun x=>D.bl (f x))=some (l.map f)
 | []=>rfl
 | x::l=>by simp[Yd f l]
def Xc{α:Type}(f:α->Bool)(l m:List α):Vd (l.map (fun x=>D.bl (f x))++m.map fun x=>D.bl (f x))=some (l.map f++m.map f):=by rw[<-uDa,Yd,uDa]
def uq{α:Type}(f:α->Bool)(l:List α):((l.map f).all id)=l.all f:=by
 induction l with
 | nil=>rfl
 | cons t ts ih=>simp only[List.map_cons,List.all_cons,ih,id]
def Wc(C:Addr)(s:Int)(k h b d:List T3)(hk:k.length<=100)(hh:h.length<=100)(hb:b.length<=100)(hd:d.length<=100):Vj C [.int s,.lst (k.map t3),.lst (h.map t3),.lst (b.map t3),.lst (d.map t3)]=some (.bl (fR s k h b d)):=by
 have sz:∀n,n<=200->n<=sizeLine:=fun n hn=>wQa (jo (by lia));have c1:∀Z:jk,Jm (gN 0) jW (j7 (Z4 C) [(true,dC 0)]) (k.map t3) (.un::Z)=some (k.map fun t=>D.bl (fK t)):=fun Z=>Jp t3 _ fun t _=>⟨_,rfl,rfl,by simp[W9]⟩
 have c2:∀Z:jk,Jm (gN 0) jW (j7 (Z5 C) [(true,dC 0),(false,dV 1)]) (h.map t3) (.un::.cl (.int k.length)::Z)=some (h.map fun t=>D.bl (fS k.length t)):=fun Z=>Jp t3 _ fun t _=>⟨_,rfl,rfl,by simp[Wa]⟩
 have c3:∀Z:jk,Jm (gN 0) jW (j7 (Z6 C) [(true,dC 0),(false,dV 1),(false,dV 2)]) ((b++d).map t3) (.un::.cl (.int k.length)::.bo (.int s)::Z)=some ((b++d).map fun t=>D.bl (fB k.length s t)):=fun Z=>Jp t3 _ fun t _=>⟨_,rfl,rfl,by simp[Wb]⟩
 rw[uDa]at c3;unfold fR;have e3:b.length+d.length<=sizeLine:=sz _ (by lia);simp only[Vj,Vi];by_cases h1:k.all fK=true
 ·by_cases h2:h.all (fS k.length)=true
  ·simp[c1,c2,c3,Yd,Xc,uq,List.all_append,sz _ (Nat.le_trans hk (by decide:100<=200)),sz _ (Nat.le_trans hh (by decide:100<=200)),e3,h1,h2]
  ·simp[c1,c2,Yd,uq,sz _ (Nat.le_trans hk (by decide:100<=200)),sz _ (Nat.le_trans hh (by decide:100<=200)),h1,h2]
 ·simp[c1,Yd,uq,sz _ (Nat.le_trans hk (by decide:100<=200)),h1]
structure OkB (b:Bk):Prop where
 s1:1<=b.size
 s2:b.size<=30
 k1:1<=b.kinds.length
 k2:b.kinds.length<=4
 h2:b.shuns.length<=20
 b2:b.bars.length<=12
 d2:b.dues.length<=3
 ks:∀t∈b.kinds,fK t=true
 hs:∀t∈b.shuns,fS b.kinds.length t=true
 bs:∀t∈b.bars,fB b.kinds.length b.size t=true
 ds:∀t∈b.dues,fB b.kinds.length b.size t=true
def K0{b:Bk}:W7 b=true↔OkB b:=by
 unfold W7 fC fR;simp only[Bool.and_eq_true,decide_eq_true_eq,List.all_eq_true,List.mem_append];constructor
 ·rintro⟨⟨a1,a2,a3,a4,a5,a6,a7⟩,b1,b2,b3⟩;exact⟨a1,a2,by lia,by lia,by lia,by lia,by lia,b1,b2,fun t h=>b3 t (.inl h),fun t h=>b3 t (.inr h)⟩
 ·intro h;exact⟨⟨h.s1,h.s2,by have:=h.k1;lia,by have:=h.k2;lia,by have:=h.h2;lia,by have:=h.b2;lia,by have:=h.d2;lia⟩,h.ks,h.hs,fun t ht=>ht.elim (h.bs t) (h.ds t)⟩
def cK(C p:Addr)(b:Bk)(h:OkB b):yw C p [.int b.size,.lst (b.kinds.map t3),.lst (b.shuns.map t3),.lst (b.bars.map t3),.lst (b.dues.map t3)]=some (Ur C b):=by
 have hb:=K0.mpr h;unfold W7 at hb;rw[Bool.and_eq_true]at hb;have e1:=k_ C b.size (b.kinds.map t3) (b.shuns.map t3) (b.bars.map t3) (b.dues.map t3);simp only[List.length_map]at e1;rw[hb.1]at e1;have e2:=Wc C b.size b.kinds b.shuns b.bars b.dues (by have:=h.k2;lia) (by have:=h.h2;lia) (by have:=h.b2;lia) (by have:=h.d2;lia);rw[hb.2]at e2;have n1:("size" : Str)≠ "kind_rows" := by decide
 have n2:("size" : Str)≠ "shun_rows" := by decide
 have n3:("size" : Str)≠ "bar_rows" := by decide
 have n4:("size" : Str)≠ "due_rows" := by decide
 have n5:("kind_rows" : Str)≠ "shun_rows" := by decide
 have n6:("kind_rows" : Str)≠ "bar_rows" := by decide
 have n7:("kind_rows" : Str)≠ "due_rows" := by decide
 have n8:("shun_rows" : Str)≠ "bar_rows" := by decide
 have n9:("shun_rows" : Str)≠ "due_rows" := by decide
 have n0:("bar_rows" : Str)≠ "due_rows" := by decide
 simp only[yw,yO,Ur];simp[e1,e2,n1,n2,n3,n4,n5,n6,n7,n8,n9,n0]
def gl(C p:Addr)(ds:List D)(o:OD)(h:JT C ds=some o):yw C p ds=some o:=by
 obtain⟨b,ok,rfl,rfl⟩:=Ew h;exact cK C p b (K0.mp ok)
def cL(C:Addr)(b:Bk)(h:OkB b):JT C [.int b.size,.lst (b.kinds.map t3),.lst (b.shuns.map t3),.lst (b.bars.map t3),.lst (b.dues.map t3)]=some (Ur C b):=by
 unfold JT kZ;simp[gI,gL,W8,K0.mpr h]
def cM(C:Addr)(b:Bk)(h:OkB b):Z7 C [J9 b]=some (Ur C b):=by
 have e:=cL C b h;simp only[Z7,Vk];simp[e]
def Aa(C:Addr)(b:Bk):(Ur C b).toD=jf C b:=rfl
def cP(C:Addr)(b:Bk):yC C [jf C b]=some (.int b.kinds.length):=by
 have n1:(("kind_rows" : Str) == "size")=false:=by decide
 simp only[yC,vF,jf];simp[jV,List.lookup,n1]
@[simp] theorem Kp(C:Addr)(b:Bk):v_ C "many" (yC C) (jf C b)=some (.int b.kinds.length):=by
 have e:=cP C b;unfold v_ jf at *;have n:("many" : Str)∉(["size", "kind_rows", "shun_rows", "bar_rows", "due_rows"]:List Str):=by decide
 simp only[n,not_false_eq_true,and_self,if_true];exact e
@[simp] theorem ur(C:Addr)(b:Bk):jV C "size" (jf C b)=some (.int b.size):=by unfold jV jf;simp[List.lookup]
@[simp] theorem Xd(C:Addr)(b:Bk):jV C "kind_rows" (jf C b)=some (.tup (b.kinds.map t3)):=by
 have n1:(("kind_rows" : Str) == "size")=false:=by decide
 unfold jV jf;simp[List.lookup,n1]
@[simp] theorem Xe(C:Addr)(b:Bk):jV C "shun_rows" (jf C b)=some (.tup (b.shuns.map t3)):=by
 have n1:(("shun_rows" : Str) == "size")=false:=by decide
 have n2:(("shun_rows" : Str) == "kind_rows")=false:=by decide
 unfold jV jf;simp[List.lookup,n1,n2]
@[simp] theorem Ab(C:Addr)(b:Bk):jV C "bar_rows" (jf C b)=some (.tup (b.bars.map t3)):=by
 have n1:(("bar_rows" : Str) == "size")=false:=by decide
 have n2:(("bar_rows" : Str) == "kind_rows")=false:=by decide
 have n3:(("bar_rows" : Str) == "shun_rows")=false:=by decide
 unfold jV jf;simp[List.lookup,n1,n2,n3]
@[simp] theorem Gh(C:Addr)(b:Bk):jV C "due_rows" (jf C b)=some (.tup (b.dues.map t3)):=by
 have n1:(("due_rows" : Str) == "size")=false:=by decide
 have n2:(("due_rows" : Str) == "kind_rows")=false:=by decide
 have n3:(("due_rows" : Str) == "shun_rows")=false:=by decide
 have n4:(("due_rows" : Str) == "bar_rows")=false:=by decide
 unfold jV jf;simp[List.lookup,n1,n2,n3,n4]
def Qw(C:Addr)(b:Bk)(n:Int):V6 C [jf C b,.int n]=some (.bl (decide (0<=n)&&decide (n < (b.kinds.length:Int)))):=by
 have e:=Kp C b;simp only[V6,Uv];by_cases h:0<=n <;> simp[e,h]
def VJ(C:Addr)(b:Bk)(row:List Int)(hl:row.length<=1000):Jz C [jf C b,.lst (row.map .int)]=some (.bl (row.all fun n=>decide (0<=n)&&decide (n < (b.kinds.length:Int)))):=by
 have c1:∀Z:jk,Jm (gN 0) jW (j7 (V6 C) [(false,dV 1),(false,dV 0)]) (row.map D.int) (.un::.bo (jf C b)::Z)=some (row.map fun n=>D.bl (decide (0<=n)&&decide (n < (b.kinds.length:Int)))):=fun Z=>Jp D.int _ fun t _=>⟨_,rfl,rfl,by simp[Qw]⟩
 have sz:row.length<=sizeLine:=wQa (jo (by lia));have e:=Yd (fun n:Int=>decide (0<=n)&&decide (n < (b.kinds.length:Int))) row;simp only[Jz,Yw];simp only[Jd,Zv,jb,j7,zb,dL,yt,jU,dP,VT];simp[c1,sz,e,uq]
def Jw(b:Bk)(row:List Int):Prop:=(∀n∈row,0<=n/\n < (b.kinds.length:Int))/\(row.length:Int)<=b.size
noncomputable def ZP(b:Bk)(row:List Int):Bool:=row.all fun n=>decide (0<=n)&&decide (n < (b.kinds.length:Int))
def UG{b:Bk}{row:List Int}(h:ZP b row=true):∀n∈row,0<=n/\n < (b.kinds.length:Int):=fun n hn=>by
 have:=List.all_eq_true.mp h n hn;rw[Bool.and_eq_true]at this;exact⟨of_decide_eq_true this.1,of_decide_eq_true this.2⟩
def Ey{b:Bk}{row:List Int}(h:∀n∈row,0<=n/\n < (b.kinds.length:Int)):ZP b row=true:=by
 unfold ZP;rw[List.all_eq_true];intro n hn;have:=h n hn;simp[this.1,this.2]
def UH(C:Addr)(b:Bk)(row:List Int)(hl:row.length<=1000):Z8 C [jf C b,.lst (row.map .int)]=some (if ZP b row=false then .xc ("NoKind",[])else if b.size < (row.length:Int)then .xc ("TooLong",[])else .ok .non):=by
 have e:=VJ C b row hl;have e:Jz C [jf C b,.lst (row.map .int)]=some (.bl (ZP b row)):=e;have e3:=ur C b;simp only[Z8,Vn];cases hk:ZP b row with
 | false=>rw[hk]at e;simp[e]
 | true=>
  rw[hk]at e;by_cases c:b.size < (row.length:Int) <;> simp[e,e3,c]
noncomputable def ju(b:Bk):Sd:=⟨0,-1,0,-1,List.replicate b.kinds.length 0,List.replicate b.dues.length false⟩
def Ad(C:Addr)(b:Bk)(ok:OkB b):ZE C [jf C b]=some (j3 (ju b)):=by
 have e:=Kp C b;have e3:=Gh C b;have h1:=ok.k2;have h2:=ok.d2;have c1:(b.kinds.length:Int)<=1000:=by lia
 have c2:(b.dues.length:Int)<=1000:=by lia
 simp only[ZE,ZD];simp[e,e3,c1,c2,j3,ju]
noncomputable def mx(i j:Int):Int:=if j > i then j else i
noncomputable def zU(s:Sd)(k:Int):Int:=if s.kind=k then s.len+1 else 1
def yo(b:Bk)(s:Sd)(k:Int):List Int:=(if s.kind=-1 then s.waits.map (fun x=>mx (x - 1) 0)else(s.waits.map (fun x=>mx (x - 1) 0)).set s.kind.toNat (mx ((JQ b.kinds s.kind).2.2 - 1) 0)).set k.toNat 0
noncomputable def yd(k pl:Int)(t:T3):Bool:=decide (t.1=k)&&(decide (t.2.1<=pl)&&decide (pl<=t.2.2))
def Jx(b:Bk)(s:Sd)(k:Int):List Bool:=List.zipWith (fun t m=>m||yd k (s.place+1) t) b.dues s.met
def yp(b:Bk)(s:Sd)(k:Int):Sd:=⟨s.place+1,k,zU s k,s.kind,yo b s k,Jx b s k⟩
def Y0(b:Bk)(s:Sd)(k:Int):Bool:=b.bars.any (yd k (s.place+1))
def Yn(b:Bk)(s:Sd)(k:Int):Bool:=decide (s.kind=k)&&decide (s.len>=(JQ b.kinds k).2.1)
def JE(b:Bk)(s:Sd)(k:Int):Bool:=!(decide (s.kind=k)||decide (s.kind=-1))&&decide (s.len < (JQ b.kinds s.kind).1)
noncomputable def JF(s:Sd)(k:Int):Bool:=!decide (s.kind=k)&&!decide (s.waits.getD k.toNat 0=0)
noncomputable def yU(s:Sd)(k:Int)(t:T3):Bool:=decide (t.2.1=k)&&decide ((if t.2.2=1 then s.kind else s.before)=t.1)
def zD(b:Bk)(s:Sd)(k:Int):Bool:=b.shuns.any (yU s k)
def zE(b:Bk)(s:Sd)(k:Int):Bool:=(List.zip b.dues (Jx b s k)).any fun p=>decide (p.1.2.2=s.place+1)&&!p.2
def vQ(b:Bk)(s:Sd)(k:Int):Bool:=decide (s.place+1=b.size)&&decide (zU s k < (JQ b.kinds k).1)
def Jg(b:Bk)(s:Sd)(k:Int):Option Str:=
 if Y0 b s k=true then some "barred" else if Yn b s k=true then some "long" else if JE b s k=true then some "short" else if JF s k=true then some "early" else if zD b s k=true then some "shun" else if zE b s k=true then some "due" else if vQ b s k=true then some "cut" else none
noncomputable def oS:Option Str->D
 | none=>.non
 | some x=>.str x
structure Fit (b:Bk) (s:Sd):Prop where
 c0:-1<=s.kind
 c1:s.kind < (b.kinds.length:Int)
 w:s.waits.length=b.kinds.length
 m:s.met.length=b.dues.length
def yV(b:Bk)(k:Int):Prop:=0<=k/\k < (b.kinds.length:Int)
def gF(C:Addr)(s:Sd)(k:Int):ZZ C [j3 s,.int k]=some (.int (zU s k)):=by
 unfold zU;simp only[ZZ,uh];by_cases e:s.kind=k <;> simp[e]
def any_map{α:Type}(em:α->D)(p:D->Bool)(q:α->Bool)(h:∀x,p (em x)=q x)(l:List α):(l.map em).any p=l.any q:=by
 induction l with
 | nil=>rfl
 | cons x l ih=>rw[vWa,List.any_cons,List.any_cons,h,ih]
def kb(q:T3->Bool)(d:D):Bool:=match bW d with
 | some t=>q t
 | none=>false
def JV(q:T3->Bool)(t:T3):kb q (t3 t)=q t:=rfl
def ke{t:DT}{s1:DS.DS}{Z:jk}{r:Rs}{I:jk->Prop}{k:Bool}(h:t Z=some k)(hr:s1 Z=some r)(hI:I Z):(k=true/\jc t s1 jr Z=some r) \/ (k=false/\∃Z2,jc t s1 jr Z=some (.nx Z2)/\I Z2):=by
 cases k
 ·exact .inr ⟨rfl,Z,YZ h rfl,hI⟩
 ·exact .inl ⟨rfl,YY h hr⟩
def Xf(C:Addr)(b:Bk)(s:Sd)(k:Int):gE C [jf C b,j3 s,.int k]=some (.bl (Y0 b s k)):=by
 have L:=Yc (g:=uN) (s:=uO C) (items:=b.bars.map t3) (fun Z=>∃x y z,Z=[.bo (jf C b),.bo (j3 s),.bo (.int k),.cl (.int (s.place+1)),x,y,z]) (kb (yd k (s.place+1))) (.rt (.bl true)) (.inl ⟨_,rfl⟩) ?_ ⟨.un,.un,.un,rfl⟩
 ·rw[any_map t3 _ (yd k (s.place+1)) (JV _)]at L;unfold Y0;have e:=Ab C b;rcases L with⟨L1,L2⟩ | ⟨L1,Z',_,L2⟩ <;> rw[L1]
  ·exact fE (sq (by simp <;> rfl) (YX (by rw[jR];simp[L2])))
  ·exact fE (sq (by simp <;> rfl) (sq (by rw[jR];simp[L2] <;> rfl) rfl))
 ·rintro d hd Z ⟨x,y,z,rfl⟩;obtain⟨t,_,rfl⟩:=uVa hd;obtain⟨u,v,w⟩:=t;refine⟨_,rfl,?_⟩;rw[JV];unfold yd;exact ke (by by_cases h1:u=k <;> by_cases h2:v<=s.place+1 <;> simp[h1,h2]) rfl ⟨_,_,_,rfl⟩
def cR(C:Addr)(b:Bk)(s:Sd)(k:Int)(h:yV b k):Ux C [jf C b,j3 s,.int k]=some (.bl (Yn b s k)):=by
 unfold Yn;simp only[Ux,Uw];by_cases h1:s.kind=k <;> simp[h1,yZ h.1 h.2]
def Ae(C:Addr)(b:Bk)(s:Sd)(k:Int)(X:Fit b s):ud C [jf C b,j3 s,.int k]=some (.bl (JE b s k)):=by
 unfold JE;simp only[ud,uc];by_cases h1:s.kind=k
 ·simp[h1]
 ·by_cases h2:s.kind=-1
  ·rw[h2]at h1;simp[h1,h2]
  ·simp[h1,h2,yZ (ks:=b.kinds) (k:=s.kind) (by have:=X.c0;lia) X.c1]
def Af(C:Addr)(s:Sd)(k:Int)(h0:0<=k)(h1:k < (s.waits.length:Int)):uf C [j3 s,.int k]=some (.bl (JF s k)):=by
 unfold JF;have e2:=YW (f:=D.int) (xs:=s.waits) (d:=0) h0 h1;simp only[uf,ue];by_cases h1:s.kind=k <;> simp[h1,e2]
def cU(C:Addr)(b:Bk)(s:Sd)(k:Int):Uz C [jf C b,j3 s,.int k]=some (.bl (zD b s k)):=by
 have L:=Yc (g:=VE) (s:=zP C) (items:=b.shuns.map t3) (fun Z=>∃x y z u,Z=[.bo (jf C b),.bo (j3 s),.bo (.int k),x,y,z,u]) (kb (yU s k)) (.rt (.bl true)) (.inl ⟨_,rfl⟩) ?_ ⟨.un,.un,.un,.un,rfl⟩
 ·rw[any_map t3 _ (yU s k) (JV _)]at L;unfold zD;have e:=Xe C b;rcases L with⟨L1,L2⟩ | ⟨L1,Z',_,L2⟩ <;> rw[L1]
  ·exact fE (YX (by rw[jR];simp[L2]))
  ·exact fE (sq (by rw[jR];simp[L2] <;> rfl) rfl)
 ·rintro d hd Z ⟨x,y,z,u0,rfl⟩;obtain⟨t,_,rfl⟩:=uVa hd;obtain⟨u,v,w⟩:=t;refine⟨_,rfl,?_⟩;rw[JV];unfold yU;unfold zP;rw[sq (s2:=jc _ _ _) (Z1:=[.bo (jf C b),.bo (j3 s),.bo (.int k),.cl (.int u),.cl (.int v),.cl (.int w),.cl (.int (if w=1 then s.kind else s.before))]) (by by_cases h1:w=1 <;> simp[h1]) rfl];exact ke (by by_cases h2:v=k <;> simp[h2]) rfl ⟨_,_,_,_,rfl⟩
def Gi{b:Bk}{s:Sd}{k:Int}(X:Fit b s):(Jx b s k).length=b.dues.length:=by
 unfold Jx;rw[List.length_zipWith,X.m]
 lia
def cX{b:Bk}{s:Sd}{i:Nat}{d:D}(h:(List.zipWith (fun p q=>D.tup [p,q]) (b.dues.map t3) (s.met.map D.bl))[i]?=some d):∃t m,b.dues[i]?=some t/\s.met[i]?=some m/\d=.tup [t3 t,.bl m]:=by
 rw[List.getElem?_zipWith,uAa,uAa]at h;cases h1:b.dues[i]? with
 | none=>rw[h1]at h;cases h
 | some t=>
  cases h2:s.met[i]? with
  | none=>rw[h1,h2]at h;cases h
  | some m=>rw[h1,h2]at h;cases h;exact⟨t,m,rfl,rfl,rfl⟩
def UI{α:Type}{xs:List α}{i:Nat}{t:α}(h:xs[i]?=some t):xs.take (i+1)=xs.take i++[t]:=by
 rw[List.take_add_one,h];rfl
def Xg(C:Addr)(b:Bk)(s:Sd)(k:Int)(ok:OkB b)(X:Fit b s):ZY C [jf C b,j3 s,.int k]=some (.tup ((Jx b s k).map .bl)):=by
 have hl:=Gi (k:=k) X;have hd2:=ok.d2;have L:=yq (g:=UA) (s:=vG C) (items:=List.zipWith (fun p q=>D.tup [p,q]) (b.dues.map t3) (s.met.map D.bl)) (fun i Z=>∃x y z u v,Z=[.bo (jf C b),.bo (j3 s),.bo (.int k),.cl (.int (s.place+1)),.ow none (.lst (((Jx b s k).take i).map .bl)),x,y,z,u,v]) ?_ ⟨.un,.un,.un,.un,.un,rfl⟩
 ·obtain⟨Z',L1,x,y,z,u,v,rfl⟩:=L;have e:=Gh C b;have hx:(List.zipWith (fun p q=>D.tup [p,q]) (b.dues.map t3) (s.met.map D.bl)).length=(Jx b s k).length:=by
   rw[List.length_zipWith,vYa,vYa,X.m,hl];lia
  rw[hx,List.take_length,List.take_zero,uJa]at L1;simp only[ZY,ug];simp[-List.zipWith_map,L1]
 ·rintro i d Z hi ⟨x,y,z,u,v,rfl⟩;obtain⟨t,m,h1,h2,rfl⟩:=cX hi;have hg:(Jx b s k)[i]?=some (m||yd k (s.place+1) t):=by
   unfold Jx;rw[List.getElem?_zipWith,h1,h2]
  have hlt:i < b.dues.length:=(uSa h1).1;have hz:((Jx b s k).take i).length < sizeLine:=jo (by rw[uOa];lia);have hz':min i (Jx b s k).length < sizeLine:=jo (by lia);obtain⟨p,q,r⟩:=t;rw[UI hg];unfold yd;refine⟨_,_,rfl,?_,.cl (t3 (p,q,r)),.cl (.bl m),.cl (.int p),.cl (.int q),.cl (.int r),rfl⟩;simp only[vG];cases m with
  | true=>simp[t3,hz']
  | false=>
   by_cases e1:p=k
   ·by_cases e2:q<=s.place+1 <;> simp[t3,hz',e1,e2]
   ·simp[t3,hz',e1]
def Ez(C:Addr)(b:Bk)(s:Sd)(k:Int)(ok:OkB b)(X:Fit b s):UC C [jf C b,j3 s,.int k]=some (.bl (zE b s k)):=by
 have e1:=Xg C b s k ok X;have L:=Yc (g:=VF) (s:=VG C) (items:=(List.zip b.dues (Jx b s k)).map fun p=>D.tup [t3 p.1,.bl p.2]) (fun Z=>∃x y,Z=[.bo (jf C b),.bo (j3 s),.bo (.int k),.cl (.int (s.place+1)),x,y]) (fun d=>match d with | .tup [t,.bl m]=>kb (fun t=>decide (t.2.2=s.place+1)&&!m) t | _=>false) (.rt (.bl true)) (.inl ⟨_,rfl⟩) ?_ ⟨.un,.un,rfl⟩
 ·rw[any_map (fun p:T3×Bool=>D.tup [t3 p.1,.bl p.2]) _ (fun p=>decide (p.1.2.2=s.place+1)&&!p.2) (fun p=>rfl)]at L;have ez:(List.zip b.dues (Jx b s k)).map (fun p=>D.tup [t3 p.1,.bl p.2])=List.zipWith (fun p q=>D.tup [p,q]) (b.dues.map t3) ((Jx b s k).map D.bl):=by
   rw[List.zipWith_map,List.zip,List.map_zipWith]
  rw[ez]at L;unfold zE;have e:=Gh C b;rcases L with⟨L1,L2⟩ | ⟨L1,Z',_,L2⟩ <;> rw[L1]
  ·exact fE (sq (by simp <;> rfl) (YX (by rw[jR];simp[-List.zipWith_map,L2,e1])))
  ·exact fE (sq (by simp <;> rfl) (sq (by rw[jR];simp[-List.zipWith_map,L2,e1] <;> rfl) rfl))
 ·rintro d hd Z ⟨x,y,rfl⟩;obtain⟨⟨t,m⟩,_,rfl⟩:=uVa hd;obtain⟨u,v,w⟩:=t;refine⟨_,rfl,?_⟩;simp only[JV];exact ke (by by_cases h1:w=s.place+1 <;> simp[h1]) rfl ⟨_,_,rfl⟩
def EA(C:Addr)(b:Bk)(s:Sd)(k:Int)(h:yV b k):Gc C [jf C b,j3 s,.int k]=some (.bl (vQ b s k)):=by
 unfold vQ;simp only[Gc,Gb];by_cases h1:s.place+1=b.size <;> simp[h1,gF,yZ h.1 h.2]
def Kq(C:Addr)(b:Bk)(s:Sd)(k:Int)(ok:OkB b)(X:Fit b s)(h:yV b k):Ge C [jf C b,j3 s,.int k]=some (oS (Jg b s k)):=by
 have e1:=Xf C b s k;have e2:=cR C b s k h;have e3:=Ae C b s k X;have e4:=Af C s k h.1 (by rw[X.w];exact h.2);have e5:=cU C b s k;have e6:=Ez C b s k ok X;have e7:=EA C b s k h;unfold Jg;refine fE ?_;unfold Gd;have go:∀{t:DT} {s2:DS.DS} {Z:jk} {k:Bool} {w:Str} {o:Option Str},t Z=some k->s2 Z=some (.rt (oS o))->j0 (jc t (jb (dK (.str w))) jr) s2 Z=some (.rt (oS (if k=true then some w else o))):=fun {t s2 Z k w o} h1 h2=>by
  cases k
  ·exact sq (YZ h1 rfl) h2
  ·exact YX (YY h1 rfl)
 exact go (by simp[e1]) (go (by simp[e2]) (go (by simp[e3]) (go (by simp[e4]) (go (by simp[e5]) (go (by simp[e6]) (go (by simp[e7]) rfl))))))
def Ag(C:Addr)(b:Bk)(s:Sd)(k:Int)(ok:OkB b)(X:Fit b s)(h:yV b k):vI C [jf C b,j3 s,.int k]=some (.tup ((yo b s k).map .int)):=by
 have e:=Xd C b;have c1:Jm (gN 0) jW (j7 vm [(false,d2 Y2 (dV 0) (dK (D.int 1))),(false,dK (D.int 0))]) (s.waits.map D.int) [.un]=some (s.waits.map fun x=>D.int (mx (x - 1) 0)):=Jp D.int _ fun t _=>⟨_,rfl,rfl,by simp[mx]⟩
 have hk2:=ok.k2;have hw:=X.w;have sz:s.waits.length<=sizeLine:=wQa (jo (by lia));have i1:∀n:Nat,n=s.waits.length->uA n k=some k.toNat:=fun n hn=>W6 h.1 (by have:=h.2;lia);simp only[vI,vH,yo];by_cases h1:s.kind=-1
 ·simp[c1,sz,h1,i1,List.map_set];rfl
 ·have i2:uA s.waits.length s.kind=some s.kind.toNat:=W6 (by have:=X.c0;lia) (by have:=X.c1;lia);simp[c1,sz,h1,i1,i2,List.map_set,yZ (ks:=b.kinds) (k:=s.kind) (by have:=X.c0;lia) X.c1];rfl
def Wd(C:Addr)(b:Bk)(s:Sd)(k:Int)(ok:OkB b)(X:Fit b s)(h:yV b k):zq C [jf C b,j3 s,.int k]=some (j3 (yp b s k)):=by
 simp only[zq,vJ];simp[gF,Ag C b s k ok X h,Xg C b s k ok X];rfl
def kf(b:Bk)(s:Sd)(k:Int):(yo b s k).length=s.waits.length:=by
 unfold yo;split <;> simp
def Fit.next{b:Bk}{s:Sd}(X:Fit b s){k:Int}(h:yV b k):Fit b (yp b s k):=⟨by have:=h.1;show -1<=k;lia,h.2,by show(yo b s k).length=_;rw[kf,X.w],Gi X⟩
def Fit.empty(b:Bk):Fit b (ju b):=⟨by show -1<=(-1:Int);decide,by show(-1:Int) < _;lia,by simp[ju],by simp[ju]⟩
def jz(b:Bk):Sd->List Int->Sd×Option Str
 | s,[]=>(s,none)
 | s,k::r=>match Jg b s k with
  | some w=>(s,some w)
  | none=>jz b (yp b s k) r
def UJ(C:Addr)(b:Bk)(row:List Int)(ok:OkB b)(h:∀n∈row,yV b n):vK C [jf C b,.lst (row.map .int)]=some (.tup [j3 (jz b (ju b) row).1,oS (jz b (ju b) row).2]):=by
 have key:∀(r:List Int) (s:Sd) (x y:Sl),Fit b s->(∀n∈r,yV b n)->∃x' y',jP Z_ (v4 C) (r.map D.int) [.bo (jf C b),.bo (.lst (row.map .int)),.cl (j3 s),x,y]=some (match jz b s r with
   | (s',none)=>.nx [.bo (jf C b),.bo (.lst (row.map .int)),.cl (j3 s'),x',y']
   | (s',some w)=>.rt (.tup [j3 s',.str w])):=by
  intro r;induction r with
  | nil=>intro s x y _ _;exact⟨x,y,rfl⟩
  | cons k r ih=>
   intro s x y X hr;have hk:=hr k wNa;have e:=Kq C b s k ok X hk;cases hb:Jg b s k with
   | some w=>
    rw[hb]at e;refine⟨.un,.un,?_⟩;have e':jz b s (k::r)=(s,some w):=by unfold jz;rw[hb]
    rw[e'];simp[jP,Z_,v4,e,oS]
   | none=>
    rw[hb]at e;have e2:=Wd C b s k ok X hk;obtain⟨x',y',q⟩:=ih (yp b s k) (.cl (.int k)) (.cl .non) (X.next hk) fun n hn=>hr n (wMa _ hn);refine⟨x',y',?_⟩;have e':jz b s (k::r)=jz b (yp b s k) r:=by rw[jz,hb]
    rw[e',<-q];simp[jP,Z_,v4,e,e2,oS]
 obtain⟨x',y',q⟩:=key row (ju b) .un .un (Fit.empty b) h;simp only[vK,Gf];have e0:=Ad C b ok;revert q;generalize jz b (ju b) row=z;obtain⟨s',w⟩:=z;intro q;cases w <;> simp[e0,q,oS]
def vg(b:Bk)(row:List Int):Option (Int×Str):=match jz b (ju b) row with
 | (_,none)=>none
 | (s,some w)=>some (s.place+1,w)
noncomputable def oJ:Option (Int×Str)->D
 | none=>.non
 | some p=>.tup [.int p.1,.str p.2]
def Jc{a b:Int}(h:0 < b):0<=a % b/\a % b < b:=⟨Int.emod_nonneg _ (by lia),Int.emod_lt_of_pos _ h⟩
def Ye{α β:Type}(f:α->β)(xs:List α)(lo hi:Option Int):Jo (xs.map f) lo hi=(Jo xs lo hi).map f:=by
 unfold Jo;rw[vYa,List.map_take,List.map_drop]
def We{α:Type}(xs:List α)(lo hi:Option Int):(Jo xs lo hi).length<=xs.length:=by
 unfold Jo;rw[uOa,uNa]
 lia
def EB{α:Type}(xs:List α)(n:Nat):Jo xs (some (n:Int)) none=xs.drop n:=by
 unfold Jo;have e:HT.sIx xs.length xs.length none=xs.length:=rfl;rw[HT.sIx_nat,e];by_cases h:n<=xs.length
 ·rw[Nat.min_eq_left h,List.take_of_length_le (by rw[uNa];lia)]
 ·rw[Nat.min_eq_right (by lia),List.drop_of_length_le (by lia),List.drop_of_length_le (by lia)];simp
def EC{α:Type}(xs:List α)(n:Nat):Jo xs none (some (n:Int))=xs.take n:=by
 unfold Jo;have e:HT.sIx xs.length 0 none=0:=rfl;rw[HT.sIx_nat,e,List.drop_zero,Nat.sub_zero];by_cases h:n<=xs.length
 ·rw[Nat.min_eq_left h]
 ·rw[Nat.min_eq_right (by lia),List.take_of_length_le (by lia),List.take_of_length_le (by lia)]
def vR{α:Type}(xs:List α)(n m:Nat)(h1:n<=xs.length)(h2:m<=xs.length):Jo xs (some (n:Int)) (some (m:Int))=(xs.drop n).take (m - n):=by
 unfold Jo;rw[HT.sIx_nat,HT.sIx_nat,Nat.min_eq_left h1,Nat.min_eq_left h2]
def v8{i j:Int}(h1:-(2 ^ 64) < i)(h2:i < 2 ^ 64):U9 i j=true:=by
 have e:(2:Int) ^ 64=18446744073709551616:=by decide
 rw[e]at h1 h2;unfold U9;rw[Bool.or_eq_true,Nat.blt_eq];exact .inl (by lia)
def Qx(C:Addr)(ns:List Int)(m:Int)(h63:ns.length<=63)(m0:0<=m)(m1:m<=1000):∃ms:List Int,Yj C [.scr ns,.int m]=some (.lst (ms.map .int))/\(ms.length:Int)=m:=by
 have UZ:∀(v x seed:Int) (ms:List Int) (x6:Sl) (c:Nat),ms.length<=c->c<=5000->∃(ms':List Int) (v':Int) (x6':Sl),jP YR (JR C) (Jf 0 60) [.bo (.scr ns),.bo (.int m),.ow none (.lst (ms.map .int)),.cl (.int seed),.cl (.int x),.cl (.int v),x6]=some (.nx [.bo (.scr ns),.bo (.int m),.ow none (.lst (ms'.map .int)),.cl (.int seed),.cl (.int x),.cl (.int v'),x6'])/\ms'.length<=c+60:=by
  intro v x seed ms x6 c hc hc2;have L:=yq (g:=YR) (s:=JR C) (items:=Jf 0 60) (fun i Z=>∃(ms':List Int) (v':Int) (x6':Sl),Z=[.bo (.scr ns),.bo (.int m),.ow none (.lst (ms'.map .int)),.cl (.int seed),.cl (.int x),.cl (.int v'),x6']/\ms'.length<=c+i) ?_ ⟨ms,v,x6,rfl,hc⟩
  ·obtain⟨Z',L1,ms',v',x6',rfl,hl⟩:=L;exact⟨ms',v',x6',L1,hl⟩
  ·rintro i d Z hi ⟨ms',v',x6',rfl,hl⟩;have hi60:i < 60:=by have:=(uSa hi).1;simpa[Jf]using this
   have hz:ms'.length < sizeLine:=jo (by lia);by_cases h0:0 < v'
   ·refine⟨_,[.bo (.scr ns),.bo (.int m),.ow none (.lst ((ms'++[v' % 1009]).map .int)),.cl (.int seed),.cl (.int x),.cl (.int (v' / 1009)),.cl d],rfl,?_,ms'++[v' % 1009],v' / 1009,.cl d,rfl,by simp;lia⟩;simp[JR,h0,hz]
   ·refine⟨_,[.bo (.scr ns),.bo (.int m),.ow none (.lst (ms'.map .int)),.cl (.int seed),.cl (.int x),.cl (.int v'),.cl d],rfl,?_,ms',v',.cl d,rfl,by lia⟩;simp[JR,h0]
 have L:=yq (g:=yM) (s:=yN C) (items:=(Jo ns none (some 63)).map D.int) (fun i Z=>∃(ms:List Int) (seed:Int) (x4 x5 x6:Sl),Z=[.bo (.scr ns),.bo (.int m),.ow none (.lst (ms.map .int)),.cl (.int seed),x4,x5,x6]/\0<=seed/\seed < 2147483648/\ms.length<=i * 61) ?_ ⟨[],29,.un,.un,.un,rfl,by decide,by decide,by simp⟩
 ·obtain⟨Z',L1,ms,seed,x4,x5,x6,rfl,s0,s1,hl⟩:=L;have hc:=We ns none (some 63);rw[vYa]at hl;have hl:ms.length<=4000:=by lia
  obtain⟨Z2,W1,⟨ms2,seed2,rfl,t0,t1,hl2⟩,W2⟩:=k9 (dt:=JS C) (s:=YS C) (fun Z=>∃(ms:List Int) (seed:Int),Z=[.bo (.scr ns),.bo (.int m),.ow none (.lst (ms.map .int)),.cl (.int seed),x4,x5,x6]/\0<=seed/\seed < 2147483648/\ms.length<=4000) (fun Z=>match Z with | [_,_,.ow _ (.lst l),_,_,_,_]=>6000 - l.length | _=>0) (fun Z=>by
    rintro⟨ms,seed,rfl,s0,s1,hl⟩;by_cases h:(ms.length:Int) < m
    ·right;refine⟨by simp[JS,h],?_⟩;have b1:=Jc (a:=seed * seed+69621 * seed+7 * (ms.length:Int)+5) (b:=2147483629) (by decide);have hz:ms.length < sizeLine:=jo (by lia);refine⟨[.bo (.scr ns),.bo (.int m),.ow none (.lst ((ms++[(seed * seed+69621 * seed+7 * (ms.length:Int)+5) % 2147483629 / 1013 % 9973]).map .int)),.cl (.int ((seed * seed+69621 * seed+7 * (ms.length:Int)+5) % 2147483629)),x4,x5,x6],?_,⟨_,_,rfl,b1.1,by lia,by simp;lia⟩,by simp;lia⟩;simp[YS,v8 (i:=seed) (j:=seed) (by lia) (by lia),v8 (i:=69621) (j:=seed) (by decide) (by decide),v8 (i:=7) (j:=(ms.length:Int)) (by decide) (by decide),hz]
    ·left;simp[JS,h]) (n:=20000) ⟨ms,seed,rfl,s0,s1,hl⟩ (by simp;lia)
  have hm:m<=(ms2.length:Int):=by
   simp[JS]at W2
   lia
  refine⟨ms2.take m.toNat,?_,by rw[uOa];lia⟩;simp only[Yj,zL];have em:m=((m.toNat:Nat):Int):=by lia
  have ec:Jo (ms2.map D.int) none (some m)=(ms2.take m.toNat).map D.int:=by
   have z:=EC ms2 m.toNat
   rw[<-em]at z;rw[Ye,z]
  rw[uJa]at L1;have s60:Jy 60=true:=by decide
  simp[Ye,L1,W1]at ec⊢;simp[ec]
 ·rintro i d Z hi ⟨ms,seed,x4,x5,x6,rfl,s0,s1,hl⟩;have hlt:i < 63:=by
   have h1:=(uSa hi).1;have h2:=We ns none (some 63);rw[vYa]at h1
   lia
  obtain⟨x,rfl⟩:∃x,d=D.int x:=by
   rw[uAa]at hi;cases q:(Jo ns none (some 63))[i]? with
   | none=>rw[q]at hi;cases hi
   | some z=>rw[q]at hi;exact⟨z,(vFa hi).symm⟩
  have b1:=Jc (a:=seed * 48271+x % 1000003+11) (b:=2147483647) (by decide);have s60:Jy 60=true:=by decide
  have hz:ms.length < sizeLine:=jo (by lia);by_cases h0:x - 10 ^ 18 < 0
  ·obtain⟨ms',v',x6',e,hl'⟩:=UZ (x - 10 ^ 18) x ((seed * 48271+x % 1000003+11) % 2147483647) (ms++[x % 9973]) x6 (i * 61+1) (by simp;lia) (by lia);refine⟨_,[.bo (.scr ns),.bo (.int m),.ow none (.lst (ms'.map .int)),.cl (.int ((seed * 48271+x % 1000003+11) % 2147483647)),.cl (.int x),.cl (.int v'),x6'],rfl,?_,ms',_,_,_,_,rfl,b1.1,by lia,by lia⟩;rw[uDa]at e;simp only[yN,yM];simp at e h0;simp[v8 (i:=seed) (j:=48271) (by lia) (by lia),h0,hz,e,s60]
  ·obtain⟨ms',v',x6',e,hl'⟩:=UZ (x - 10 ^ 18) x ((seed * 48271+x % 1000003+11) % 2147483647) ms x6 (i * 61+1) (by lia) (by lia);refine⟨_,[.bo (.scr ns),.bo (.int m),.ow none (.lst (ms'.map .int)),.cl (.int ((seed * 48271+x % 1000003+11) % 2147483647)),.cl (.int x),.cl (.int v'),x6'],rfl,?_,ms',_,_,_,_,rfl,b1.1,by lia,by lia⟩;simp only[yN,yM];simp at e h0;have h0':¬(x - 1000000000000000000 < 0):=by lia
   simp[v8 (i:=seed) (j:=48271) (by lia) (by lia),h0',hz,e,s60]
def Zo{ds:List Int}{k:Int}(h0:0<=k)(h1:k < (ds.length:Int)):∃v:Int,atI (ds.map D.int) k=some (.int v):=⟨_,YW (d:=0) h0 h1⟩
def vS{α:Type}{p:α->Prop}{ts:List α}{t:α}(h:∀x∈ts,p x)(ht:p t):∀x∈ts++[t],p x:=fun x hx=>by
 rcases List.mem_append.mp hx with z | z
 ·exact h x z
 ·have e:x=t:=by simpa using z
  rw[e];exact ht
def K3{lo:Int}{n i:Nat}{d:D}(h:(Jf lo n)[i]?=some d):i < n/\d=.int (lo+i):=by
 unfold Jf at h;rw[uAa]at h;cases q:(List.range n)[i]? with
 | none=>rw[q]at h;cases h
 | some j=>
  rw[q]at h;obtain⟨h1,h2⟩:=uSa q;rw[List.getElem_range]at h2;rw[List.length_range]at h1;exact⟨h1,by rw[<-Option.some.inj h,h2]⟩
def kg(C:Addr)(m s n:Int)(ds:List Int)(m1:1<=m)(s1:1<=s)(s2:s<=1000)(n0:0<=n)(n1:n<=20)(hn:3 * n<=(ds.length:Int)):∃ts:List T3,Yk C [.int m,.int s,.int n,.lst (ds.map .int)]=some (.lst (ts.map t3))/\(ts.length:Int)=n/\∀t∈ts,fB m s t=true:=by
 have L:=yq (g:=vz) (s:=YT C) (items:=Jf 0 n.toNat) (fun i Z=>∃(ts:List T3) (x y:Sl),Z=[.bo (.int m),.bo (.int s),.bo (.int n),.bo (.lst (ds.map .int)),.ow none (.lst (ts.map t3)),x,y]/\ts.length=i/\∀t∈ts,fB m s t=true) ?_ ⟨[],.un,.un,rfl,rfl,fun _ h=>by cases h⟩
 ·obtain⟨Z',L1,ts,x,y,rfl,hl,ht⟩:=L;have hr:(Jf 0 n.toNat).length=n.toNat:=by simp[Jf]
  rw[hr]at hl;refine⟨ts,?_,by lia,ht⟩;simp only[Yk,zM];rw[uJa]at L1;have e1:Jy n=true:=zc (by lia) (by lia);simp[e1,L1]
 ·rintro i d Z hi ⟨ts,x,y,rfl,hl,ht⟩;obtain⟨hi1,rfl⟩:=K3 hi;have c3:U9 3 (0+(i:Int))=true:=v8 (by decide) (by decide);obtain⟨v1,a1⟩:=Zo (ds:=ds) (k:=3 * (0+(i:Int))+1) (by lia) (by lia);obtain⟨v0,a0⟩:=Zo (ds:=ds) (k:=3 * (0+(i:Int))) (by lia) (by lia);obtain⟨v2,a2⟩:=Zo (ds:=ds) (k:=3 * (0+(i:Int))+2) (by lia) (by lia);have f1:=Jc (a:=v1) (b:=s) (by lia);have f3:=Jc (a:=v2) (b:=s - (1+v1 % s)+1) (by lia);have f0:=Jc (a:=v0) (b:=m) (by lia);have hz:ts.length < sizeLine:=jo (by lia);have q1:0 < s:=by lia
  have q2:0 < m:=by lia
  have q3:0 < s - (1+v1 % s)+1:=by lia
  refine⟨_,[.bo (.int m),.bo (.int s),.bo (.int n),.bo (.lst (ds.map .int)),.ow none (.lst ((ts++[(v0 % m,1+v1 % s,1+v1 % s+v2 % (s - (1+v1 % s)+1))]).map t3)),.cl (.int (0+(i:Int))),.cl (.int (1+v1 % s))],rfl,?_,_,_,_,rfl,by simp[hl],vS ht ?_⟩
  ·simp only[YT];simp at a0 a1 a2 c3;simp[c3,a0,a1,a2,q1,q2,q3,hz,t3]
  ·unfold fB;simp only[Bool.and_eq_true,decide_eq_true_eq]
   lia
def ge{ns:List Int}{k lo hi:Int}(h0:0<=k)(h1:k < (ns.length:Int))(hb:∀v∈ns,lo<=v/\v<=hi):∃v,atI (ns.map D.int) k=some (.int v)/\lo<=v/\v<=hi:=by
 have hk:k.toNat < ns.length:=by lia
 refine⟨ns.getD k.toNat 0,YW h0 h1,?_⟩;rw[uBa,uCa hk];exact hb _ (List.getElem_mem hk)
def ED{i c:Nat}{m:Int}(h:i < m.toNat)(h4:m<=c):i < c:=by lia
def Hi{le:Int}(h:le<=3):0 < 5 - (1+le)/\1+le < 5:=by lia
def Hj{x mo:Int}(h:x < mo)(h9:mo<=9):¬12 < 1+x:=by lia
def Hk{le x r:Int}(l0:0<=le)(l3:le<=3)(hx:0<=x/\x < 5 - (1+le))(r0:0<=r)(r4:r<=4):fK (1+le,1+le+x,r)=true:=by
 unfold fK;simp only[Bool.and_eq_true,decide_eq_true_eq]
 lia
def Hl{m a b c:Int}(ha:0<=a/\a < m)(hb:0<=b/\b < m)(hc:0<=c/\c < 2):fS m (a,b,1+c)=true:=by
 unfold fS;simp only[Bool.and_eq_true,decide_eq_true_eq]
 lia
def IP{x mo:Int}(h:0<=x/\x < mo)(h9:mo<=9):1<=1+x/\1+x<=1000/\1+x<=30:=by lia
def IQ{k:Nat}{m:Int}(h:k=m.toNat)(h1:1<=m)(h4:m<=4):1<=k/\k<=4/\(k:Int)=m:=by lia
def IR{k c:Nat}{n:Int}(h:k=n.toNat)(h1:n<=c):k<=c:=by lia
def bX{k c:Nat}{n:Int}(h:(k:Int)=n)(h1:n<=c):k<=c:=by lia
def EE{n a b:Int}(h:n<=a)(e:3 * a<=b):3 * n<=b:=by lia
def bZ{n:Int}(h0:0<=n)(h1:n<=20):Jy n=true:=zc (by lia) (by lia)
def cY(C:Addr)(ds:List Int)(mo:Int)(hn:62<=ds.length)(hn2:ds.length<=1000)(mo1:1<=mo)(mo2:mo<=9):∃b:Bk,Z0 C [.lst (ds.map .int),.int mo]=some (J9 b)/\OkB b/\b.size<=mo:=by
 have at0:∀k:Int,0<=k->k < 62->∃v:Int,atI (ds.map D.int) k=some (.int v):=fun k h0 h1=>Zo h0 (by lia);have at1:∀(i:Nat) (k:Int),i < 4->0<=k->k<=10->∃v:Int,atI (ds.map D.int) (k+(0+(i:Int)))=some (.int v):=fun i k h h0 h1=>at0 _ (by lia) (by lia);have at2:∀i:Nat,i < 20->0<=44+3 * ((0+(i:Int)) % 5)+(0+(i:Int)) / 5/\44+3 * ((0+(i:Int)) % 5)+(0+(i:Int)) / 5+2 < 62:=fun i h=>by lia
 have JQ:∀x:Int,0<=x/\x+2 < 62->(∃v:Int,atI (ds.map D.int) x=some (.int v))/\(∃v:Int,atI (ds.map D.int) (x+1)=some (.int v))/\∃v:Int,atI (ds.map D.int) (x+2)=some (.int v):=fun x h=>⟨at0 _ h.1 (by lia),at0 _ (by lia) (by lia),at0 _ (by lia) h.2⟩
 have lc:(Jo ds (some 26) (some 35)).length=9:=by
  have:=vR ds 26 35 (by lia) (by lia);rw[show((26:Nat):Int)=26 from rfl,show((35:Nat):Int)=35 from rfl]at this;rw[this,uOa,uNa]
  lia
 obtain⟨u0,a0⟩:=at0 0 (by decide) (by decide);obtain⟨u1,a1⟩:=at0 1 (by decide) (by decide);obtain⟨u14,a14⟩:=at0 14 (by decide) (by decide);obtain⟨u15,a15⟩:=at0 15 (by decide) (by decide);obtain⟨u25,a25⟩:=at0 25 (by decide) (by decide);have g0:=Jc (a:=u0) (b:=7) (by decide);have g1:=Jc (a:=u1) (b:=mo) mo1;have gs:=IP g1 mo2;have g14:=Jc (a:=u14) (b:=7) (by decide);have g15:=Jc (a:=u15) (b:=6) (by decide);have g25:=Jc (a:=u25) (b:=6) (by decide);obtain⟨m,pm,m1,m4⟩:=ge (ns:=[2,3,3,2,1,4,3]) (k:=u0 % 7) (lo:=1) (hi:=4) g0.1 g0.2 (by decide);obtain⟨nh,ph,nh0,nh1⟩:=ge (ns:=[0,0,1,2,3,0,20]) (k:=u14 % 7) (lo:=0) (hi:=20) g14.1 g14.2 (by decide);obtain⟨nb,pb,nb0,nb1⟩:=ge (ns:=[0,1,0,2,12,0]) (k:=u15 % 6) (lo:=0) (hi:=12) g15.1 g15.2 (by decide);obtain⟨nd,pd,nd0,nd1⟩:=ge (ns:=[0,1,0,2,3,1]) (k:=u25 % 6) (lo:=0) (hi:=3) g25.1 g25.2 (by decide);clear g0 g14 g15 g25;have K1:=yq (g:=uH) (s:=Zx C) (items:=Jf 0 m.toNat) (fun i Z=>∃(ts:List T3) (x5 x6 x7:Sl),Z=[.bo (.lst (ds.map .int)),.bo (.int mo),.cl (.int m),.cl (.int (1+u1 % mo)),.ow none (.lst (ts.map t3)),x5,x6,x7,.un,.un,.un,.un,.un]/\ts.length=i/\∀t∈ts,fK t=true) ?_ ⟨[],.un,.un,.un,rfl,rfl,fun _ h=>by cases h⟩
 rotate_left
 ·rintro i d Z hi ⟨ts,x5,x6,x7,rfl,hl,ht⟩;obtain⟨hi1,rfl⟩:=K3 hi;have i4:=ED (c:=4) hi1 m4;obtain⟨w2,b2⟩:=at1 i 2 i4 (by decide) (by decide);obtain⟨w6,b6⟩:=at1 i 6 i4 (by decide) (by decide);obtain⟨w10,b10⟩:=at1 i 10 i4 (by decide) (by decide);have e2:=Jc (a:=w2) (b:=7) (by decide);have e10:=Jc (a:=w10) (b:=7) (by decide);obtain⟨le,pl,le0,le3⟩:=ge (ns:=[0,0,1,0,2,3,1]) (k:=w2 % 7) (lo:=0) (hi:=3) e2.1 e2.2 (by decide);obtain⟨re,pr,re0,re4⟩:=ge (ns:=[0,1,2,0,3,4,1]) (k:=w10 % 7) (lo:=0) (hi:=4) e10.1 e10.2 (by decide);clear e2 e10;obtain⟨q5,q5'⟩:=Hi le3;have e6:=Jc (a:=w6) (b:=5 - (1+le)) q5;have e3:=Jc (a:=re) (b:=3) (by decide);have hz:ts.length < sizeLine:=jo (by rw[hl];exact wSa (wQa i4) (by decide));have h3:=Hj g1.2 mo2;have fin:=fun r=>Hk (r:=r) le0 le3 e6;simp at b2 b6 b10 pl pr;unfold Zx;by_cases h2:m=4/\6 < 1+u1 % mo
  ·exact⟨_,_,rfl,sq (by simp[b2,pl] <;> rfl) (sq (by simp[b10,pr] <;> rfl) (sq (YY (by simp[h2.1,h2.2]) (by simp <;> rfl)) (by simp[b6,q5,q5',hz] <;> rfl))),ts++[(1+le,1+le+w6 % (5 - (1+le)),re % 3)],.cl (.int (0+(i:Int))),.cl (.int (1+le)),.cl (.int (re % 3)),by simp[t3],by simp[hl],vS ht (fin _ e3.1 (Int.le_trans (Int.le_of_lt e3.2) (by decide)))⟩
  ·have h2':m=4->¬6 < 1+u1 % mo:=fun z y=>h2 ⟨z,y⟩;exact⟨_,_,rfl,sq (by simp[b2,pl] <;> rfl) (sq (by simp[b10,pr] <;> rfl) (sq (YZ (by by_cases z:m=4 <;> simp[z,h3,h2']) rfl) (by simp[b6,q5,q5',hz] <;> rfl))),ts++[(1+le,1+le+w6 % (5 - (1+le)),re)],.cl (.int (0+(i:Int))),.cl (.int (1+le)),.cl (.int re),by simp[t3],by simp[hl],vS ht (fin _ re0 re4)⟩
 obtain⟨Zk,K2,ks,x5,x6,x7,rfl,lk,hk⟩:=K1;have hrk:(Jf 0 m.toNat).length=m.toNat:=by simp[Jf]
 rw[hrk]at lk;have S1:=yq (g:=uI) (s:=Zy C) (items:=Jf 0 nh.toNat) (fun i Z=>∃(ts:List T3) (x5 x9:Sl),Z=[.bo (.lst (ds.map .int)),.bo (.int mo),.cl (.int m),.cl (.int (1+u1 % mo)),.ow none (.lst (ks.map t3)),x5,x6,x7,.ow none (.lst (ts.map t3)),x9,.un,.un,.un]/\ts.length=i/\∀t∈ts,fS m t=true) ?_ ⟨[],x5,.un,rfl,rfl,fun _ h=>by cases h⟩
 rotate_left
 ·rintro i d Z hi ⟨ts,x5,x9,rfl,hl,ht⟩;obtain⟨hi1,rfl⟩:=K3 hi;have i20:=ED (c:=20) hi1 nh1;obtain⟨⟨w0,b0⟩,⟨w1,b1⟩,w2,b2⟩:=JQ _ (at2 i i20);have qm:0 < m:=m1;have e0:=Jc (a:=w0) qm;have e1:=Jc (a:=w1) qm;have e2:=Jc (a:=w2) (b:=2) (by decide);have hz:ts.length < sizeLine:=jo (by rw[hl];exact wSa (wQa i20) (by decide));have c3:U9 3 ((0+(i:Int)) % 5)=true:=v8 (by decide) (by decide);refine⟨_,[.bo (.lst (ds.map .int)),.bo (.int mo),.cl (.int m),.cl (.int (1+u1 % mo)),.ow none (.lst (ks.map t3)),.cl (.int (0+(i:Int))),x6,x7,.ow none (.lst ((ts++[(w0 % m,w1 % m,1+w2 % 2)]).map t3)),.cl (.int (44+3 * ((0+(i:Int)) % 5)+(0+(i:Int)) / 5)),.un,.un,.un],rfl,?_,_,_,_,rfl,by simp[hl],vS ht (Hl e0 e1 e2)⟩;simp only[Zy];simp at b0 b1 b2 c3;simp[c3,b0,b1,b2,qm,hz,t3]
 obtain⟨Zh,S2,hs,x5',x9,rfl,lh,hh⟩:=S1;have hrh:(Jf 0 nh.toNat).length=nh.toNat:=by simp[Jf]
 rw[hrh]at lh;obtain⟨ws,W1,W2⟩:∃ws:List Int,Jm (gN 0) jW (d2 jx (d2 j6 (dV 1) (d2 jx (dK (.int 16)) (d2 jF (d2 yK (dK (.int 5)) (dV 0)) (dK (.int 9))))) (d2 yK (dK (.int 7)) (dV 0))) (Jf 0 36) [.un,.bo (.lst (ds.map .int))]=some (ws.map D.int)/\ws.length=36:=by
  have:=Jp (g:=gN 0) (dc:=jW) (de:=d2 jx (d2 j6 (dV 1) (d2 jx (dK (.int 16)) (d2 jF (d2 yK (dK (.int 5)) (dV 0)) (dK (.int 9))))) (d2 yK (dK (.int 7)) (dV 0))) (Z:=[.un,.bo (.lst (ds.map .int))]) (fun i:Nat=>D.int (0+(i:Int))) (fun i:Nat=>D.int (ds.getD (16+5 * (0+(i:Int)) % 9).toNat 0+7 * (0+(i:Int)))) (xs:=List.range 36) fun i hi=>by
   have hi:=List.mem_range.mp hi;have d9:=Jc (a:=5 * (0+(i:Int))) (b:=9) (by decide);have a:=YW (f:=D.int) (xs:=ds) (d:=0) (k:=16+5 * (0+(i:Int)) % 9) (by lia) (by lia);have c5:U9 5 (0+(i:Int))=true:=v8 (by decide) (by decide);have c7:U9 7 (0+(i:Int))=true:=v8 (by decide) (by decide);refine⟨_,rfl,rfl,?_⟩;simp at a c5 c7;simp[c5,c7,a]
  refine⟨(List.range 36).map fun(i:Nat)=>ds.getD (16+5 * (0+(i:Int)) % 9).toNat 0+7 * (0+(i:Int)),?_,by simp⟩;rw[List.map_map];exact this
 obtain⟨bs,B1,B2,B3⟩:=kg C m (1+u1 % mo) nb ws m1 gs.1 gs.2.1 nb0 (Int.le_trans nb1 (by decide)) (by rw[W2];exact EE nb1 (by decide));have ec:Jo (ds.map D.int) (some 26) (some 35)=(Jo ds (some 26) (some 35)).map D.int:=Ye _ _ _ _;have e3:=Jc (a:=nd) (b:=3) (by decide);obtain⟨ek1,ek4,ek⟩:=IQ lk m1 m4;have fin:∀n:Int,0<=n->n<=3->∀dd:List T3,(dd.length:Int)=n->(∀t∈dd,fB m (1+u1 % mo) t=true)->OkB ⟨1+u1 % mo,ks,hs,bs,dd⟩:=fun n n0 n3 dd hd hd2=>by
  refine⟨gs.1,gs.2.2,ek1,ek4,IR lh nh1,bX B2 nb1,bX hd n3,hk,?_,?_,?_⟩
  ·show∀t∈hs,fS (ks.length:Int) t=true;rw[ek];exact hh
  ·show∀t∈bs,fB (ks.length:Int) _ t=true;rw[ek];exact B3
  ·show∀t∈dd,fB (ks.length:Int) _ t=true;rw[ek];exact hd2
 have s1:Jy m=true:=bZ (Int.le_trans (by decide) m1) (Int.le_trans m4 (by decide));have s2:Jy nh=true:=bZ nh0 nh1;have z36:(36:Nat)<=sizeLine:=by decide
 have s3:Jy 36=true:=by decide
 have hrw:(Jf 0 36).length=36:=by simp[Jf]
 have qmo:0 < mo:=mo1;rw[uJa]at K2 S2;simp only[Z0,Ve];simp only[List.map_cons,List.map_nil]at pm ph pb pd;obtain⟨n,n0,n3,hn⟩:∃n:Int,0<=n/\n<=3/\jc (J3 (jg (d2 yG (dV 3) (dK (.int 5)))) (jg (d2 yG (dV 2) (dK (.int 2))))) (ji 12 (d2 jF (dV 12) (dK (.int 3)))) jr [.bo (.lst (ds.map .int)),.bo (.int mo),.cl (.int m),.cl (.int (1+u1 % mo)),.ow none (.lst (ks.map t3)),x5',x6,x7,.ow none (.lst (hs.map t3)),x9,.cl (.lst (ws.map .int)),.cl (.lst (bs.map t3)),.cl (.int nd)]=some (.nx [.bo (.lst (ds.map .int)),.bo (.int mo),.cl (.int m),.cl (.int (1+u1 % mo)),.ow none (.lst (ks.map t3)),x5',x6,x7,.ow none (.lst (hs.map t3)),x9,.cl (.lst (ws.map .int)),.cl (.lst (bs.map t3)),.cl (.int n)]):=by
  by_cases c1:5 < 1+u1 % mo/\2 < m
  ·exact⟨nd % 3,e3.1,Int.le_of_lt e3.2,YY (by simp[c1.1,c1.2]) (by simp <;> rfl)⟩
  ·refine⟨nd,nd0,nd1,YZ ?_ rfl⟩;by_cases z:5 < 1+u1 % mo
   ·have y:¬2 < m:=fun y=>c1 ⟨z,y⟩;simp[z,y]
   ·simp[z]
 obtain⟨dd,D1,D2,D3⟩:=kg C m (1+u1 % mo) n (Jo ds (some 26) (some 35)) m1 gs.1 gs.2.1 n0 (Int.le_trans n3 (by decide)) (by rw[lc];exact EE n3 (by decide));refine⟨⟨1+u1 % mo,ks,hs,bs,dd⟩,fE ?_,fin n n0 n3 dd D2 D3,show 1+u1 % mo<=mo by have:=g1.2;lia⟩;exact sq (by simp[a0,pm] <;> rfl) (sq (by simp[a1,qmo] <;> rfl) (sq (by simp <;> rfl) (sq (by simp[s1,K2] <;> rfl) (sq (by simp <;> rfl) (sq (by simp[a14,ph,s2,S2] <;> rfl) (sq (by simp[s3,W1,z36,hrw] <;> rfl) (sq (by simp[a15,pb,B1] <;> rfl) (sq (by simp[a25,pd] <;> rfl) (sq hn (by simp[ec,D1,J9] <;> rfl))))))))))
mutual
noncomputable def kh:D->Prop
 | .tup l=>l.length<=sizeLine/\Wf l
 | .lst l=>l.length<=sizeLine/\Wf l
 | .ins _ _ _=>False
 | .scr _=>False
 | .dct _ _=>False
 | .exn _ _=>False
 | _=>True
noncomputable def Wf:List D->Prop
 | []=>True
 | d::ds=>kh d/\Wf ds
end
theorem Gj:∀{l:List D} {d:D},Wf l->d∈l->kh d
 | e::l,d,h,hd=>by
  rw[Wf]at h;rcases uTa hd with rfl | hd
  ·exact h.1
  ·exact Gj h.2 hd
def Wg(l:List D):List.zipWith (fun p q=>D.tup [p,q]) l l=l.map fun x=>D.tup [x,x]:=by
 induction l with
 | nil=>rfl
 | cons x l ih=>rw[List.zipWith_cons_cons,vWa,ih]
def vv{α:Type}(l:List α):Vd (l.map fun _=>D.bl true)=some (l.map fun _=>true):=Yd (fun _=>true) l
def qy(C:Addr)(d:D):∀n:Nat,kh d->dep d < n->jJ C n [d,d]=some (.bl true):=by
 induction d using D.ind with
 | h d i1 i2=>
  intro n hp hn;cases n with
  | zero=>lia
  | succ n=>
   have seq:∀l:List D,(∀x∈l,jJ C n [x,x]=some (.bl true))->Jm (gT 2 (gC (gN 0) (gC (gN 1) gZ))) jW (j7 (jJ C n) [(false,dV 0),(false,dV 1)]) (l.map fun x=>D.tup [x,x]) [.un,.un]=some (l.map fun _=>D.bl true):=fun l h=>Jp (fun x=>D.tup [x,x]) _ fun x hx=>⟨_,rfl,rfl,by simp[h x hx]⟩
   have al:∀l:List D,((l.map fun _=>true).all id)=true:=fun l=>by simp
   simp only[jJ,Za];cases d with
   | non=>simp
   | bl b=>simp[GD,VW]
   | int i=>simp[GD,VW]
   | str s=>simp[GD,VW]
   | tup l=>
    rw[kh]at hp;rw[dep]at hn;have q:=seq l fun x hx=>i1 l rfl x hx n (Gj hp.2 hx) (by have:=gV hx;lia);simp[GD,VW,Wg,q,hp.1,vv]
   | lst l=>
    rw[kh]at hp;rw[dep]at hn;have q:=seq l fun x hx=>i2 l rfl x hx n (Gj hp.2 hx) (by have:=gV hx;lia);simp[GD,VW,Wg,q,hp.1,vv]
   | ins C' ns ds=>exact vDa hp (by rw[kh];exact id)
   | scr ns=>exact vDa hp (by rw[kh];exact id)
   | dct ks vs=>exact vDa hp (by rw[kh];exact id)
   | exn c fv=>exact vDa hp (by rw[kh];exact id)
def Ah(C:Addr)(b:Bk)(ok:OkB b):vB C [J9 b]=some (j3 (ju b)):=by
 have c1:Jm (gN 0) jW (dK (.int 0)) (b.kinds.map t3) [.un]=some (b.kinds.map fun _=>D.int 0):=Jp t3 _ fun t _=>⟨_,rfl,rfl,rfl⟩
 have c2:Jm (gN 0) jW (dK (.bl false)) (b.dues.map t3) [.un]=some (b.dues.map fun _=>D.bl false):=Jp t3 _ fun t _=>⟨_,rfl,rfl,rfl⟩
 have h1:b.kinds.length<=sizeLine:=wQa (jo (by have:=ok.k2;lia));have h2:b.dues.length<=sizeLine:=wQa (jo (by have:=ok.d2;lia));simp only[vB,vA];simp[c1,c2,h1,h2,ju,j3];exact⟨List.map_const' ..,List.map_const' ..⟩
structure Form (b:Bk) (s:Sd):Prop extends Fit b s where
 wn:∀x∈s.waits,0<=x
def gf(b:Bk)(s:Sd)(k:Int):Bool:=Yn b s k||(JE b s k||(JF s k||zD b s k))
def Wh{xs:List Int}{k:Int}(h0:0<=k)(h1:k < (xs.length:Int)):xs.getD k.toNat 0∈xs:=by
 have hk:k.toNat < xs.length:=by lia
 rw[uBa,uCa hk];exact List.getElem_mem hk
def EF(s:Sd):KC (j3 s) (some 1) (some 5)=some (.tup [.int s.kind,.int s.len,.int s.before,.tup (s.waits.map .int)]):=by
 have sh:HT.sIx 6 0 (some 1)=1:=by decide
 have sh2:HT.sIx 6 6 (some 5)=5:=by decide
 simp[KC,j3,Jo,sh,sh2]
def Xh(C:Addr)(b:Bk)(s:Sd)(k:Int)(ok:OkB b)(X:Form b s)(h:yV b k):Zn C [J9 b,j3 s,.int k]=some (.bl (gf b s k)):=by
 have hw:k < (s.waits.length:Int):=by rw[X.w];exact h.2
 have hx:=X.wn _ (Wh h.1 hw);have ew:=YW (f:=D.int) (xs:=s.waits) (d:=0) h.1 hw;have ea:JF s k=(!decide (s.kind=k)&&decide (0 < s.waits.getD k.toNat 0)):=by
  unfold JF;by_cases z:s.waits.getD k.toNat 0=0
  ·rw[z];rfl
  ·rw[decide_eq_false z,decide_eq_true (show 0 < s.waits.getD k.toNat 0 by lia)];rfl
 have ek:=yZ h.1 h.2;revert hx ew ea;generalize s.waits.getD k.toNat 0=wv;intro hx ew ea
 let R:Sl->Sl->Sl->jk:=fun x y z=>[.bo (J9 b),.bo (j3 s),.bo (.int k),.cl (.int s.kind),.cl (.int s.len),.cl (.int s.before),.cl (.tup (s.waits.map .int)),x,y,z]
 have L:=Yc (g:=zj) (s:=zm C) (items:=b.shuns.map t3) (fun Z=>∃x y z,Z=R x y z) (kb (yU s k)) (.rt (.bl true)) (.inl ⟨_,rfl⟩) ?_ ⟨.un,.un,.un,rfl⟩
 ·rw[any_map t3 _ (yU s k) (JV _)]at L;have t1:(J3 (jg (d2 jt (dV 2) (dV 3))) (jg (d2 Kj (dV 4) (d2 j6 (d2 j6 (d2 j6 (dV 0) (dN 1)) (dV 2)) (dN 1))))) (R .un .un .un)=some (Yn b s k):=by
   unfold Yn;by_cases e:s.kind=k
   ·simp[R,e,ek]
   ·have e':¬k=s.kind:=fun z=>e z.symm;simp[R,e,e']
  have t2:(J3 (jg (d2 J8 (dV 2) (dV 3))) (Yu (J3 (jg (d2 J8 (dV 3) (Yv (dN 1)))) (jg (d2 yj (dV 4) (d2 j6 (d2 j6 (d2 j6 (dV 0) (dN 1)) (dV 3)) (dN 0))))) (jg (d2 yG (d2 j6 (dV 6) (dV 2)) (dN 0))))) (R .un .un .un)=some (JE b s k||JF s k):=by
   rw[ea];unfold JE;by_cases e:s.kind=k
   ·simp[R,e]
   ·have e':¬k=s.kind:=fun z=>e z.symm;by_cases e2:s.kind=-1
    ·have e3:¬k=-1:=fun z=>e (e2.trans z.symm);have e5:¬-1=k:=fun z=>e (e2.trans z);simp[R,e2,ew,e3,e5]
    ·have ek2:=yZ (ks:=b.kinds) (k:=s.kind) (by have:=X.c0;lia) X.c1;by_cases e4:s.len < (JQ b.kinds s.kind).1
     ·simp[R,e,e',e2,ek2,e4]
     ·simp[R,e,e',e2,ek2,e4,ew]
  have eT:gf b s k=(Yn b s k||((JE b s k||JF s k)||zD b s k)):=by unfold gf;rw[Bool.or_assoc]
  rw[eT];refine fE (sq (Z1:=R .un .un .un) (by simp[R,EF s,yR]) ?_);cases hl:Yn b s k with
  | true=>rw[hl]at t1;exact YX (YY t1 rfl)
  | false=>
   rw[hl]at t1;refine sq (YZ t1 rfl) ?_;cases hs:(JE b s k||JF s k)with
   | true=>rw[hs]at t2;exact YX (YY t2 rfl)
   | false=>
    rw[hs]at t2;refine sq (YZ t2 rfl) ?_;have hS:zD b s k=b.shuns.any (yU s k):=rfl;rcases L with⟨L1,L2⟩ | ⟨L1,Z',_,L2⟩
    ·rw[hS,L1];exact YX (by rw[jR];simp[R]at L2⊢;exact L2)
    ·rw[hS,L1];exact sq (Z1:=Z') (by rw[jR];simp[R]at L2⊢;exact L2) rfl
 ·rintro d hd Z ⟨x,y,z,rfl⟩;obtain⟨t,ht,rfl⟩:=uVa hd;have hf:=ok.hs t ht;obtain⟨u,v,w⟩:=t;unfold fS at hf;simp only[Bool.and_eq_true,decide_eq_true_eq]at hf;refine⟨R (.cl (.int u)) (.cl (.int v)) (.cl (.int w)),rfl,?_⟩;rw[JV];have ev:atI [D.int s.kind,D.int s.before] (w - 1)=some (.int (if w=1 then s.kind else s.before)):=by
   have:w=1 \/ w=2:=by lia
   rcases this with rfl | rfl <;> rfl
  unfold yU;exact ke (I:=fun Z=>∃x y z,Z=R x y z) (by by_cases h2:v=k <;> simp[R,h2,ev]) rfl ⟨_,_,_,rfl⟩
def Gk{b:Bk}{s:Sd}{k:Int}{i:Nat}{t:T3}{m:Bool}(ht:b.dues[i]?=some t)(hm:s.met[i]?=some m):(Jx b s k)[i]?=some (m||yd k (s.place+1) t):=by
 unfold Jx;rw[List.getElem?_zipWith,ht,hm]
def Wi{l:List T3}{i:Nat}{d:D}(h:(YI 0 (l.map t3))[i]?=some d):∃t,l[i]?=some t/\d=.tup [.int (i:Int),t3 t]:=by
 obtain⟨d',h1,h2⟩:=Ue 0 _ i d h;rw[uAa]at h1;cases q:l[i]? with
 | none=>rw[q]at h1;cases h1
 | some t=>
  rw[q]at h1;cases h1;exact⟨t,rfl,by rw[h2,Nat.zero_add]⟩
def cZ(C:Addr)(b:Bk)(s:Sd)(k:Int)(ok:OkB b)(X:Fit b s):u8 C [J9 b,.int (s.place+1),.tup (s.met.map .bl),.int k]=some (if zE b s k=true then .non else .lst ((Jx b s k).map .bl)):=by
 have hl:=Gi (k:=k) X;have hd2:=ok.d2;have L:=W5 (r:=.nx []) (g:=Us) (s:=zn C) (items:=YI 0 (b.dues.map t3)) (fun i Z=>(∃x5 x6 x7 x8,Z=[.bo (J9 b),.bo (.int (s.place+1)),.bo (.tup (s.met.map .bl)),.bo (.int k),.ow none (.lst (((Jx b s k).take i).map .bl)),x5,x6,x7,x8])/\∀j,j < i->∀t m,b.dues[j]?=some t->(Jx b s k)[j]?=some m->(decide (t.2.2=s.place+1)&&!m)=false)
  (fun i r=>r=.rt .non/\∃t m,b.dues[i]?=some t/\(Jx b s k)[i]?=some m/\(decide (t.2.2=s.place+1)&&!m)=true) ?_ ⟨⟨.un,.un,.un,.un,rfl⟩,fun j hj=>by lia⟩
 ·have hz:∀i t m,b.dues[i]?=some t->(Jx b s k)[i]?=some m->(t,m)∈List.zip b.dues (Jx b s k):=fun i t m h1 h2=>wYa (i:=i) (by rw[List.getElem?_zip_eq_some];exact⟨h1,h2⟩);simp only[u8,u7];rcases L with⟨Z',L1,⟨x5,x6,x7,x8,rfl⟩,L2⟩ | ⟨i,d',hi,L1,L2,t,m,h1,h2,h3⟩
  ·rw[Zf,vYa,<-hl,List.take_length]at L1;have hd:zE b s k=false:=by
    unfold zE;rw[List.any_eq_false];rintro⟨t,m⟩ hm;obtain⟨i,hi⟩:=List.mem_iff_getElem?.mp hm;rw[List.getElem?_zip_eq_some]at hi;have hi':i < b.dues.length:=(uSa hi.1).1;have:=L2 i (by rw[Zf,vYa];exact hi') t m hi.1 hi.2;rw[this];exact vNa
   rw[hd];rw[List.take_zero,uJa]at L1;simp[L1]
  ·cases L2;have hd:zE b s k=true:=by
    unfold zE;rw[List.any_eq_true];exact⟨(t,m),hz i t m h1 h2,h3⟩
   rw[hd];rw[List.take_zero,uJa]at L1;simp[L1]
 ·rintro i d Z hi ⟨⟨x5,x6,x7,x8,rfl⟩,hj⟩;obtain⟨t,ht,rfl⟩:=Wi hi;have hlt:i < b.dues.length:=(uSa ht).1;have hm:s.met[i]?=some (s.met[i]'(by have:=X.m;lia)):=by simp
  revert hm;generalize s.met[i]'(by have:=X.m;lia)=m;intro hm;have hg:=Gk (k:=k) ht hm;have ea:atI (s.met.map D.bl) (i:Int)=some (.bl m):=Uq (by lia) (by rw[uAa];simp[hm]);have lenT:((Jx b s k).take i).length=i:=by rw[uOa];lia
  revert lenT;generalize hT:(Jx b s k).take i=L;intro lenT;have hz':L.length < sizeLine:=jo (by lia);have eb:∀c:Bool,atI (L.map D.bl++[.bl c]) (i:Int)=some (.bl c):=fun c=>Uq (by lia) (by
   rw[List.getElem?_append_right (by rw[vYa];lia),vYa];have:(i:Int).toNat - L.length=0:=by lia
   rw[this];rfl)
  obtain⟨p,q,r⟩:=t
  let R:List Bool->jk:=fun l=>[.bo (J9 b),.bo (.int (s.place+1)),.bo (.tup (s.met.map .bl)),.bo (.int k),.ow none (.lst (l.map .bl)),.cl (.int (i:Int)),.cl (.int p),.cl (.int q),.cl (.int r)]
  have key:∀c:Bool,(m||yd k (s.place+1) (p,q,r))=c->(((r=s.place+1/\c=false)/\zn C (R L)=some (.rt .non)) \/ (¬(r=s.place+1/\c=false)/\zn C (R L)=some (.nx (R (L++[c]))))):=by
   intro c hc;have ev:(Ub (d2 j6 (dV 2) (dV 5)) (Ju (d2 jt (dV 6) (dV 3)) (J1 J5 J5 (dV 7) (dV 1) (dV 8)))) (R L)=some (.bl c):=by
    rw[<-hc];unfold yd;cases m with
    | true=>simp[R,ea]
    | false=>
     by_cases e1:p=k
     ·by_cases e2:q<=s.place+1 <;> simp[R,ea,e1,e2]
     ·simp[R,ea,e1]
   have e4:JZ 4 (Ub (d2 j6 (dV 2) (dV 5)) (Ju (d2 jt (dV 6) (dV 3)) (J1 J5 J5 (dV 7) (dV 1) (dV 8)))) (R L)=some (.nx (R (L++[c]))):=by
    generalize (Ub (d2 j6 (dV 2) (dV 5)) (Ju (d2 jt (dV 6) (dV 3)) (J1 J5 J5 (dV 7) (dV 1) (dV 8))))=dd at ev⊢;simp[R]at ev;simp[R,ev,hz']
   by_cases e0:r=s.place+1/\c=false
   ·exact .inl ⟨e0,sq e4 (YY (by simp[R,eb,e0.1,e0.2]) rfl)⟩
   ·refine .inr ⟨e0,sq e4 (YZ ?_ rfl)⟩;by_cases e1:r=s.place+1
    ·have:c=true:=by cases c <;> simp_all
     simp[R,eb,e1,this]
    ·simp[R,e1]
  refine⟨_,rfl,?_⟩;rcases key _ rfl with⟨⟨e1,e2⟩,e3⟩ | ⟨e1,e3⟩
  ·exact .inr ⟨_,e3,rfl,_,_,ht,hg,by rw[e2];simp[e1]⟩
  ·refine .inl ⟨_,e3,⟨_,_,_,_,by rw[UI hg,hT]⟩,fun j hj' t m h1 h2=>?_⟩;by_cases ej:j < i
   ·exact hj j ej t m h1 h2
   ·have ej:j=i:=by lia
    subst ej;rw[ht]at h1;rw[hg]at h2;cases h1;cases h2;rw[Bool.eq_false_iff];intro z;simp only[Bool.and_eq_true,decide_eq_true_eq,Bool.not_eq_true']at z;exact e1 z
def y9(b:Bk)(s:Sd)(k:Int):Option Sd:=if s.place>=b.size then none else if (Jg b s k).isSome=true then none else some (yp b s k)
def UK:Option Sd->D
 | none=>.non
 | some s=>j3 s
noncomputable def VL(b:Bk)(s:Sd)(k:Int)(i:Nat)(t:T3)(x:Int):Int:=if (i:Int)=k then 0 else mx ((if (i:Int)=s.kind then t.2.2 else x) - 1) 0
def qz{b:Bk}{s:Sd}{k:Int}{i:Nat}{t:T3}{x:Int}(X:Fit b s)(h:yV b k)(ht:b.kinds[i]?=some t)(hx:s.waits[i]?=some x):(yo b s k)[i]?=some (VL b s k i t x):=by
 have hi:i < s.waits.length:=(uSa hx).1;have k0:=h.1;have e3:∀j:Int,0<=j->j.toNat=i->JQ b.kinds j=t:=fun j h0 h1=>by
  unfold JQ;rw[h1,uBa,ht];rfl
 unfold yo VL;by_cases e1:(i:Int)=k
 ·have e1':k.toNat=i:=by lia
  rw[if_pos e1,e1',List.getElem?_set];rw[if_pos rfl,if_pos (by split <;> simp <;> lia)]
 ·have e1':k.toNat≠i:=by lia
  rw[if_neg e1,List.getElem?_set,if_neg e1'];by_cases e2:s.kind=-1
  ·rw[if_pos e2,if_neg (by lia),uAa,hx];rfl
  ·have c0:=X.c0;rw[if_neg e2,List.getElem?_set];by_cases e4:(i:Int)=s.kind
   ·have e4':s.kind.toNat=i:=by lia
    rw[if_pos e4',if_pos e4,if_pos (by rw[vYa];lia),e3 s.kind (by lia) e4']
   ·have e4':¬s.kind.toNat=i:=by lia
    rw[if_neg e4',if_neg e4,uAa,hx];rfl
def EG(w:Int):(if w - 1 > 0 then w - 1 else 0)=mx (w - 1) 0:=by
 unfold mx;split <;> split <;> lia
def WH(b:Bk)(s:Sd)(k:Int):(Jg b s k).isSome=(Y0 b s k||(gf b s k||(zE b s k||vQ b s k))):=by
 unfold Jg gf;cases Y0 b s k <;> cases Yn b s k <;> cases JE b s k <;> cases JF s k <;> cases zD b s k <;> cases zE b s k <;> cases vQ b s k <;> rfl
def Wj(C:Addr)(b:Bk)(s:Sd)(k:Int)(ok:OkB b)(X:Form b s)(h:yV b k):Yz C [J9 b,j3 s,.int k]=some (UK (y9 b s k)):=by
 have ek:=yZ h.1 h.2;have e1:=Xh C b s k ok X h;have e2:=cZ C b s k ok X.toFit;have hk2:=ok.k2;have er:∀Z:jk,(gQ (jg (d2 jt (dV 2) (dV 4))) (d2 jx (dV 5) (dK (.int 1))) (dK (.int 1))) (.bo (J9 b)::.cl (j3 s)::.cl (.int k)::.cl (.int s.place)::.cl (.int s.kind)::.cl (.int s.len)::Z)=some (.int (zU s k)):=fun Z=>by
  unfold zU;by_cases z:s.kind=k
  ·simp[z]
  ·have z':¬k=s.kind:=fun y=>z y.symm;simp[z,z']
 have L:=Yc (g:=uJ) (s:=ZB C) (items:=b.bars.map t3) (fun Z=>∃x y z,Z=[.bo (J9 b),.cl (j3 s),.cl (.int k),.cl (.int s.place),.cl (.int s.kind),.cl (.int s.len),.cl (.int s.before),.cl (.tup (s.waits.map .int)),.cl (.tup (s.met.map .bl)),.cl (.int (s.place+1)),.cl (.int (zU s k)),x,y,z,.un,.un,.un,.un,.un,.un,.un]) (kb (yd k (s.place+1))) (.rt .non) (.inl ⟨_,rfl⟩) ?_ ⟨.un,.un,.un,rfl⟩
 ·rw[any_map t3 _ (yd k (s.place+1)) (JV _)]at L;have L2:=fun(x y z:Sl)=>yq (g:=uK) (s:=uL C) (items:=YI 0 (b.kinds.map t3)) (fun i Z=>∃x16 x17 x18 x19 x20,Z=[.bo (J9 b),.cl (j3 s),.cl (.int k),.cl (.int s.place),.cl (.int s.kind),.cl (.int s.len),.cl (.int s.before),.cl (.tup (s.waits.map .int)),.cl (.tup (s.met.map .bl)),.cl (.int (s.place+1)),.cl (.int (zU s k)),x,y,z,.cl (.lst ((Jx b s k).map .bl)),.ow none (.lst (((yo b s k).take i).map .int)),x16,x17,x18,x19,x20]) (by
   rintro i d Z hi ⟨x16,x17,x18,x19,x20,rfl⟩;obtain⟨t,ht,rfl⟩:=Wi hi;have hlt:i < b.kinds.length:=(uSa ht).1;have hw:s.waits[i]?=some (s.waits[i]'(by have:=X.w;lia)):=by simp
   revert hw;generalize s.waits[i]'(by have:=X.w;lia)=w;intro hw;have hg:=qz X.toFit h ht hw;have ea:atI (s.waits.map D.int) (i:Int)=some (.int w):=Uq (by lia) (by rw[uAa];simp[hw]);have lenT:((yo b s k).take i).length<=i:=by rw[uOa];lia
   rw[UI hg];revert lenT;generalize (yo b s k).take i=T;intro lenT;have hz':T.length < sizeLine:=jo (by lia);obtain⟨p,q,r⟩:=t
   let Q:List Int->Sl->jk:=fun l e=>[.bo (J9 b),.cl (j3 s),.cl (.int k),.cl (.int s.place),.cl (.int s.kind),.cl (.int s.len),.cl (.int s.before),.cl (.tup (s.waits.map .int)),.cl (.tup (s.met.map .bl)),.cl (.int (s.place+1)),.cl (.int (zU s k)),x,y,z,.cl (.lst ((Jx b s k).map .bl)),.ow none (.lst (l.map .int)),.cl (.int (i:Int)),.cl (.int p),.cl (.int q),.cl (.int r),e]
   refine⟨Q T x20,Q (T++[VL b s k i (p,q,r) w]) (.cl (.int (if (i:Int)=s.kind then r else w))),rfl,sq (Z1:=Q T (.cl (.int w))) (by simp[Q,ea]) (sq (Z1:=Q T (.cl (.int (if (i:Int)=s.kind then r else w)))) (by by_cases c1:(i:Int)=s.kind <;> simp[Q,c1]) ?_),_,_,_,_,_,rfl⟩;unfold VL;show JZ 15 _ (Q T (.cl (.int (if (i:Int)=s.kind then r else w))))=some (.nx (Q (T++[if (i:Int)=k then 0 else mx ((if (i:Int)=s.kind then r else w) - 1) 0]) (.cl (.int (if (i:Int)=s.kind then r else w)))));generalize (if (i:Int)=s.kind then r else w)=v;by_cases c2:(i:Int)=k
   ·simp[Q,c2,hz']
   ·have em:=EG v;simp at em;simp[Q,c2,hz',em]) ⟨.un,.un,.un,.un,.un,rfl⟩
  have hwl:(YI 0 (b.kinds.map t3)).length=(yo b s k).length:=by rw[Zf,vYa,kf,X.w]
  unfold y9;rw[WH];have hb0:Y0 b s k=b.bars.any (yd k (s.place+1)):=rfl
  let R:Sl->Sl->Sl->Sl->Sl->Sl->Sl->Sl->Sl->Sl->jk:=fun x y z m l x16 x17 x18 x19 x20=>[.bo (J9 b),.cl (j3 s),.cl (.int k),.cl (.int s.place),.cl (.int s.kind),.cl (.int s.len),.cl (.int s.before),.cl (.tup (s.waits.map .int)),.cl (.tup (s.met.map .bl)),.cl (.int (s.place+1)),.cl (.int (zU s k)),x,y,z,m,l,x16,x17,x18,x19,x20]
  refine fE (sq rfl (sq rfl (sq (Z1:=R .un .un .un .un .un .un .un .un .un .un) (by
   show ji 10 _ (.bo (J9 b)::.cl (j3 s)::.cl (.int k)::.cl (.int s.place)::.cl (.int s.kind)::.cl (.int s.len)::[.cl (.int s.before),.cl (.tup (s.waits.map .int)),.cl (.tup (s.met.map .bl)),.cl (.int (s.place+1)),.un,.un,.un,.un,.un,.un,.un,.un,.un,.un,.un])=_;rw[ji,er];rfl) ?_)))
  by_cases c0:s.place>=b.size
  ·rw[if_pos c0];have c0':b.size < s.place+1:=by lia
   exact YX (YY (by simp[R,c0']) rfl)
  ·rw[if_neg c0];have c0':¬b.size < s.place+1:=by lia
   refine sq (YZ (by simp[R,c0']) rfl) ?_;rcases L with⟨L1,Lb⟩ | ⟨L1,Z',⟨x,y,z,rfl⟩,Lb⟩
   ·rw[hb0,L1];exact YX (by rw[jR];exact Lb)
   ·rw[hb0,L1];refine sq (Z1:=R x y z .un .un .un .un .un .un .un) (by rw[jR];exact Lb) ?_;cases ht:gf b s k with
    | true=>
     rw[ht]at e1;exact YX (YY (by simp[R,e1]) rfl)
    | false=>
     rw[ht]at e1;refine sq (YZ (by simp[R,e1]) rfl) ?_;cases hd:zE b s k with
     | true=>
      rw[hd]at e2;exact sq (Z1:=R x y z (.cl .non) .un .un .un .un .un .un) (by simp[R]at e2⊢;simp[e2]) (YX (YY (by simp[R]) rfl))
     | false=>
      rw[hd]at e2;refine sq (Z1:=R x y z (.cl (.lst ((Jx b s k).map .bl))) .un .un .un .un .un .un) (by simp[R]at e2⊢;simp[e2]) (sq (YZ (by simp[R]) rfl) ?_);obtain⟨Z2,M1,x16,x17,x18,x19,x20,rfl⟩:=L2 x y z;rw[hwl,List.take_length,List.take_zero,uJa]at M1;have tc:(J3 (jg (d2 jt (dV 9) (d2 j6 (dV 0) (dN 0)))) (jg (d2 yj (dV 10) (d2 j6 (d2 j6 (d2 j6 (dV 0) (dN 1)) (dV 2)) (dN 0))))) (R x y z (.cl (.lst ((Jx b s k).map .bl))) .un .un .un .un .un .un)=some (vQ b s k):=by
       unfold vQ;by_cases c5:s.place+1=b.size
       ·simp[R,c5,ek]
       ·simp[R,c5]
      cases hc:vQ b s k with
      | true=>rw[hc]at tc;exact YX (YY tc rfl)
      | false=>
       rw[hc]at tc;refine sq (YZ tc rfl) (sq rfl (sq (by rw[jR];exact M1) ?_));simp[UK,j3,yp]
 ·rintro d hd Z ⟨x,y,z,rfl⟩;obtain⟨t,_,rfl⟩:=uVa hd;obtain⟨u,v,w⟩:=t;refine⟨_,rfl,?_⟩;rw[JV];unfold yd;simp only[ZB];by_cases h1:u=k
  ·by_cases h2:v<=s.place+1
   ·by_cases h3:s.place+1<=w <;> simp[h1,h2,h3]
   ·simp[h1,h2]
  ·simp[h1]
theorem UL:∀l:List Int,vn (l.map D.int)=0
 | []=>rfl
 | x::l=>by rw[vWa,vn,UL l];rfl
theorem UM:∀l m:List Int,l.length=m.length->zd (l.map D.int) (m.map D.int)=some (decide (l=m))
 | [],[],_=>rfl
 | [],_::_,h=>by simp at h
 | _::_,[],h=>by simp at h
 | x::l,y::m,h=>by
  rw[vWa,vWa,zd,UM l m (by simpa using h),ZM];simp only[Option.bind_some,Option.some.injEq];by_cases h1:x=y <;> by_cases h2:l=m <;> simp[h1,h2]
def qA(l m:List Int):J8 (.lst (l.map D.int)) (.lst (m.map D.int))=some (.bl (!decide (l=m))):=by
 have e:dep (.lst (l.map D.int))<=20:=by rw[dep,UL];decide
 have e0:VU (D.lst (l.map D.int)) (D.lst (m.map D.int))=true:=rfl;unfold J8;rw[if_pos e0];unfold kL;rw[if_pos ⟨e0,e⟩,ZM];by_cases h:l.length=m.length
 ·rw[if_pos (by simpa using h),UM l m h];rfl
 ·have h':¬l=m:=fun z=>h (by rw[z]);rw[if_neg (by simpa using h),decide_eq_false h'];rfl
def ki(l:List Int):J8 (.lst (l.map D.int)) (.lst [])=some (.bl (!decide (l=[]))):=qA l []
def Ai{l:List D}{d:D}:atI (l++[d]) (-1)=some d:=by
 unfold atI uA;rw[if_neg (by decide),if_pos (by simp;lia),vZa,List.length_singleton];have:(-1+((l.length+1:Nat):Int)).toNat=l.length:=by lia
 simp only[Option.bind_some];rw[this];simp[getElem?_pos]
def b_(x:Int):0<=mx x 0:=by unfold mx;split <;> lia
def Gn{xs:List Int}{i:Nat}{x y:Int}(h:y∈xs.set i x):y∈xs \/ y=x:=List.mem_or_eq_of_mem_set h
set_option tactic.hygienic true in
theorem Form.next{b:Bk}{s:Sd}(X:Form b s){k:Int}(h:yV b k):Form b (yp b s k):=by
 refine⟨X.toFit.next h,fun x hx=>?_⟩;have hx:x∈yo b s k:=hx;unfold yo at hx;have hm:∀x∈s.waits.map (fun x=>mx (x - 1) 0),0<=x:=fun x hx=>by
  obtain⟨y,_,rfl⟩:=uVa hx;exact b_ _
 rcases Gn hx with hx | rfl
 ·split at hx
  ·exact hm x hx
  ·rcases Gn hx with hx | rfl
   ·exact hm x hx
   ·exact b_ _
 ·lia
def Form.empty(b:Bk):Form b (ju b):=⟨Fit.empty b,fun x hx=>by
 have:=List.eq_of_mem_replicate hx
 lia⟩
theorem kj{b:Bk}{k:Int}:∀{row:List Int} {s0 s:Sd},jz b s0 row=(s,none)->Jg b s k=none->jz b s0 (row++[k])=(yp b s k,none)
 | [],s0,s,h,hb=>by
  cases h;rw[List.nil_append,jz,hb];rfl
 | n::row,s0,s,h,hb=>by
  rw[jz]at h;rw[List.cons_append,jz];cases q:Jg b s0 n with
  | some w=>rw[q]at h;cases h
  | none=>rw[q]at h;exact kj h hb
set_option tactic.hygienic true in
theorem kl{b:Bk}{s s':Sd}{k:Int}(h:y9 b s k=some s'):Jg b s k=none/\s'=yp b s k/\s.place < b.size:=by
 unfold y9 at h;split at h
 ·cases h
 ·split at h
  ·cases h
  ·rename_i h1 h2;cases h;refine⟨?_,rfl,by lia⟩;cases q:Jg b s k with
   | none=>rfl
   | some w=>rw[q]at h2;exact vDa rfl h2
structure Walked (b:Bk) (row:List Int) (s:Sd):Prop where
 ks:∀n∈row,yV b n
 st:jz b (ju b) row=(s,none)
 fo:Form b s
 pl:s.place=row.length
 sz:(row.length:Int)<=b.size
def c_(C:Addr)(b:Bk)(s:Sd)(ok:OkB b)(X:Form b s)(Z:jk):Jm (gN 0) (jg (d2 yJ (j7 (Yz C) [(false,(dV 1)),(true,(dC 2)),(true,(dC 0))]) (dK .non))) (dC 0) (Jf 0 b.kinds.length) [.un,.bo (J9 b),.cl (j3 s)]=some ((((List.range b.kinds.length).filter fun(i:Nat)=>(y9 b s (0+(i:Int))).isSome).map fun(i:Nat)=>0+(i:Int)).map D.int):=by
 have:=z_ (g:=gN 0) (dc:=jg (d2 yJ (j7 (Yz C) [(false,(dV 1)),(true,(dC 2)),(true,(dC 0))]) (dK .non))) (de:=dC 0) (Z:=[.un,.bo (J9 b),.cl (j3 s)]) (fun i:Nat=>D.int (0+(i:Int))) (fun i:Nat=>(y9 b s (0+(i:Int))).isSome) (fun i:Nat=>D.int (0+(i:Int))) (xs:=List.range b.kinds.length) fun i hi=>by
  have hi:=List.mem_range.mp hi;have e:=Wj C b s (0+(i:Int)) ok X ⟨by lia,by lia⟩;refine⟨_,rfl,?_,rfl⟩;cases q:y9 b s (0+(i:Int))with
  | none=>rw[q]at e;simp at e⊢;simp[e,UK]
  | some s'=>rw[q]at e;simp at e⊢;simp[e,UK]
 rw[List.map_map];exact this
def Xi(C:Addr)(b:Bk)(ds row:List Int)(s:Sd)(x4 x5:Sl)(x:Int)(i:Nat)(ok:OkB b)(W:Walked b row s)(hl:row.length<=i)(hi:i<=1000):∃Z2,yS C [.bo (J9 b),.bo (.lst (ds.map .int)),.ow none (.lst (row.map .int)),.cl (j3 s),.cl (.int x),x5]=some (.nx Z2)/\∃(row:List Int) (s:Sd) (x4 x5:Sl),Z2=[.bo (J9 b),.bo (.lst (ds.map .int)),.ow none (.lst (row.map .int)),.cl (j3 s),x4,x5]/\Walked b row s/\row.length<=i+1:=by
 have hk2:=ok.k2;have c:=c_ C b s ok W.fo [];have hso:∀e∈((List.range b.kinds.length).filter fun(i:Nat)=>(y9 b s (0+(i:Int))).isSome).map (fun(i:Nat)=>0+(i:Int)),yV b e/\(y9 b s e).isSome=true:=fun e he=>by
  obtain⟨j,hj,rfl⟩:=uVa he;obtain⟨h1,h2⟩:=List.mem_filter.mp hj;have:=List.mem_range.mp h1;exact⟨⟨by lia,by lia⟩,h2⟩
 revert c hso;generalize ((List.range b.kinds.length).filter fun(i:Nat)=>(y9 b s (0+(i:Int))).isSome).map (fun(i:Nat)=>0+(i:Int))=so;intro c hso;have z1:Jy (b.kinds.length:Int)=true:=zc (by lia) (by lia);have z2:(Jf 0 b.kinds.length).length<=sizeLine:=wQa (jo (by simp[Jf];lia));have hz:row.length < sizeLine:=jo (by lia);by_cases hs:so=[]
 ·subst hs;have en:=ki [];rw[uJa]at en c;refine⟨[.bo (J9 b),.bo (.lst (ds.map .int)),.ow none (.lst (row.map .int)),.cl (j3 s),.cl (.int x),.cl (.lst [])],?_,row,s,_,_,rfl,W,by lia⟩;simp only[yS];simp[-J8,c,z1,z2,en]
 ·have en:=ki so;rw[decide_eq_false hs]at en;have hsl:0 < (so.length:Int):=by
   cases so with
   | nil=>exact vDa rfl hs
   | cons _ _=>simp
  have hm:=Jc (a:=x) (b:=(so.length:Int)) hsl;have ea:=YW (f:=D.int) (xs:=so) (d:=0) hm.1 hm.2;have hmem:=Wh hm.1 hm.2;revert ea hmem;generalize so.getD (x % (so.length:Int)).toNat 0=e;intro ea hmem;obtain⟨hk,hst⟩:=hso e hmem;obtain⟨s',hs'⟩:=Option.isSome_iff_exists.mp hst;obtain⟨hb,rfl,hp⟩:=kl hs';have e2:=Wj C b s e ok W.fo hk;rw[hs']at e2;have el:atI (row.map D.int++[D.int e]) (-1)=some (.int e):=Ai;refine⟨[.bo (J9 b),.bo (.lst (ds.map .int)),.ow none (.lst ((row++[e]).map .int)),.cl (j3 (yp b s e)),.cl (.int x),.cl (.lst (so.map .int))],?_,row++[e],yp b s e,_,_,rfl,⟨vS W.ks hk,kj W.st hb,W.fo.next hk,?_,?_⟩,by simp;lia⟩
  ·simp only[yS];have hsl':0 < so.length:=by lia
   simp[-J8,c,z1,z2,en,hsl,hsl',ea,hz,el,e2,UK]
  ·show s.place+1=_;rw[W.pl];simp
  ·have:=W.pl;simp
   lia
def C0(C:Addr)(b:Bk)(ds:List Int)(ok:OkB b)(hd:ds.length<=1000):∃(row:List Int) (s:Sd),Vm C [J9 b,.lst (ds.map .int)]=some (.lst (row.map .int))/\Walked b row s/\row.length<=ds.length:=by
 have L:=yq (g:=uM) (s:=yS C) (items:=ds.map D.int) (fun i Z=>∃(row:List Int) (s:Sd) (x4 x5:Sl),Z=[.bo (J9 b),.bo (.lst (ds.map .int)),.ow none (.lst (row.map .int)),.cl (j3 s),x4,x5]/\Walked b row s/\row.length<=i) ?_ ⟨[],ju b,.un,.un,rfl,⟨(fun _ h=>by cases h),rfl,Form.empty b,rfl,(by have:=ok.s1;show(0:Int)<=b.size;lia)⟩,wPa _⟩
 ·obtain⟨Z',L1,row,s,x4,x5,rfl,W,hl⟩:=L;rw[vYa]at hl;refine⟨row,s,?_,W,hl⟩;have e:=Ah C b ok;rw[uJa]at L1;simp only[Vm,Vl];simp[e,L1]
 ·rintro i d Z hi ⟨row,s,x4,x5,rfl,W,hl⟩;have hlt:i < ds.length:=by have:=(uSa hi).1;rwa [vYa]at this
  obtain⟨x,rfl⟩:∃x,d=D.int x:=by
   rw[uAa]at hi;cases q:ds[i]? with
   | none=>rw[q]at hi;cases hi
   | some z=>rw[q]at hi;exact⟨z,(vFa hi).symm⟩
  obtain⟨Z2,e1,e2⟩:=Xi C b ds row s x4 x5 x i ok W hl (by lia);exact⟨_,Z2,rfl,e1,e2⟩
noncomputable def ra(row:List Int)(i:Nat):Int:=row.getD i 0
def YB{row:List Int}{i:Nat}(h:i < row.length):row[i]?=some (ra row i):=by
 unfold ra;rw[uBa,uCa h];rfl
def vc{row:List Int}{i:Nat}{k:Int}(h:i < row.length)(hk:k=(i:Int)):atI (row.map D.int) k=some (.int (ra row i)):=by
 subst hk;refine Uq (by lia) ?_;rw[uAa,Int.toNat_natCast,YB h];rfl
noncomputable def JW(row:List Int):Nat->Nat
 | 0=>1
 | i+1=>if ra row (i+1)=ra row i then JW row i+1 else 1
def Aj(row:List Int)(i:Nat):1<=JW row i:=by
 cases i with
 | zero=>exact wPa _
 | succ i=>unfold JW;split <;> lia
theorem Wk(row:List Int):∀(i sz:Nat),1<=sz->sz<=i+1->(∀j,j < sz->ra row (i - j)=ra row i)->¬(sz<=i/\ra row (i - sz)=ra row i)->JW row i=sz
 | 0,sz,h1,h2,_,_=>by unfold JW;lia
 | i+1,sz,h1,h2,h3,h4=>by
  unfold JW;by_cases e:ra row (i+1)=ra row i
  ·rw[if_pos e];have h5:2<=sz:=by
    by_cases z:sz=1
    ·exact vDa ⟨by lia,by rw[z];exact e.symm⟩ h4
    ·lia
   have ih:=Wk row i (sz - 1) (by lia) (by lia) (fun j hj=>by
    have:=h3 (j+1) (by lia);rw[show i+1 - (j+1)=i - j by lia]at this;rw[this,e]) (fun z=>h4 ⟨by lia,by rw[show i+1 - sz=i - (sz - 1) by lia,z.2,e]⟩)
   lia
  ·rw[if_neg e];by_cases z:sz=1
   ·lia
   ·exact vDa (by have:=h3 1 (by lia);rw[show i+1 - 1=i by lia]at this;exact this.symm) e
def Wl(C:Addr)(row:List Int)(i:Nat)(h:i < row.length)(hl:row.length<=1000){k:Int}(hk:k=(i:Int)):zo C [.lst (row.map .int),.int k]=some (.int (JW row i)):=by
 subst hk;obtain⟨Z',e1,⟨sz,rfl,h1,h2,h3⟩,e2⟩:=k9 (dt:=yB C) (s:=vC C) (fun Z=>∃sz:Nat,Z=[.bo (.lst (row.map .int)),.bo (.int (i:Int)),.cl (.int (sz:Int))]/\1<=sz/\sz<=i+1/\∀j,j < sz->ra row (i - j)=ra row i) (fun Z=>match Z with | [_,_,.cl (.int z)]=>i+2 - z.toNat | _=>0) (fun Z=>by
   rintro⟨sz,rfl,h1,h2,h3⟩;have a0:=vc (row:=row) (k:=(i:Int)) h rfl;by_cases c1:sz<=i
   ·have c1':(sz:Int)<=(i:Int):=by lia
    have a1:=vc (row:=row) (i:=i - sz) (k:=(i:Int) - (sz:Int)) (by lia) (by lia);by_cases c2:ra row (i - sz)=ra row i
    ·right;refine⟨by simp[yB,a0,a1,c1,c2],[.bo (.lst (row.map .int)),.bo (.int (i:Int)),.cl (.int ((sz+1:Nat):Int))],by simp[vC],⟨sz+1,rfl,by lia,by lia,fun j hj=>?_⟩,?_⟩
     ·by_cases ej:j=sz
      ·rw[ej];exact c2
      ·exact h3 j (by lia)
     ·show i+2 - ((sz+1:Nat):Int).toNat < i+2 - (sz:Int).toNat
      lia
    ·left;simp[yB,a0,a1,c1,c2]
   ·left;simp[yB,c1]) (n:=20000) (Z:=[.bo (.lst (row.map .int)),.bo (.int (i:Int)),.cl (.int ((1:Nat):Int))]) ⟨1,rfl,wPa _,by lia,fun j hj=>congrArg (ra row) (by lia)⟩ (by show i+2 - ((1:Nat):Int).toNat < 20000;lia)
 have er:=Wk row i sz h1 h2 h3 (fun z=>by
  have a0:=vc (row:=row) (k:=(i:Int)) h rfl;have a1:=vc (row:=row) (i:=i - sz) (k:=(i:Int) - (sz:Int)) (by lia) (by lia);simp[yB,a0,a1,z.1,z.2]at e2)
 rw[er];simp only[zo,ua];simp at e1;simp[e1]
noncomputable def VM(row:List Int):Nat->Int->Option Nat
 | 0,_=>none
 | i+1,c=>if ra row i=c then some i else VM row i c
def vd(b:Bk)(row:List Int)(i:Nat)(c:Int):Int:=match VM row i c with
 | none=>0
 | some j=>if j+1=i then 0 else mx ((JQ b.kinds c).2.2 - ((i:Int) - 1 - (j:Int))) 0
def ZI(row:List Int):Nat->T3->Bool
 | 0,_=>false
 | i+1,t=>ZI row i t||yd (ra row i) ((i:Int)+1) t
theorem Wm{row:List Int}:∀{i j:Nat} {c:Int},VM row i c=some j->j < i/\ra row j=c
 | 0,j,c,h=>by cases h
 | i+1,j,c,h=>by
  unfold VM at h;split at h
  ·cases h;exact⟨by lia,by assumption⟩
  ·have:=Wm h;exact⟨by lia,this.2⟩
theorem Go{row:List Int}:∀{i:Nat} {c:Int},VM row i c=none->∀j,j < i->ra row j≠c
 | 0,c,h,j,hj=>by lia
 | i+1,c,h,j,hj=>by
  unfold VM at h;split at h
  ·cases h
  ·by_cases e:j=i
   ·rw[e];assumption
   ·exact Go h j (by lia)
theorem Gp{row:List Int}:∀{i j:Nat} {c:Int},VM row i c=some j->∀m,j < m->m < i->ra row m≠c
 | 0,j,c,h,m,h1,h2=>by lia
 | i+1,j,c,h,m,h1,h2=>by
  unfold VM at h;split at h
  ·cases h;lia
  ·by_cases e:m=i
   ·rw[e];assumption
   ·exact Gp h m h1 (by lia)
structure StOf (b:Bk) (row:List Int) (i:Nat) (s:Sd):Prop where
 pl:s.place=(i:Int)
 kd:s.kind=if i=0 then -1 else ra row (i - 1)
 ln:s.len=if i=0 then 0 else(JW row (i - 1):Int)
 bf:s.before=if i < 2 then -1 else ra row (i - 2)
 ws:∀c:Nat,c < b.kinds.length->s.waits[c]?=some (vd b row i (c:Int))
 ms:∀(j:Nat) (t:T3),b.dues[j]?=some t->s.met[j]?=some (ZI row i t)
 fo:Form b s
def StOf.empty(b:Bk)(row:List Int):StOf b row 0 (ju b):=⟨rfl,rfl,rfl,rfl,fun c hc=>by simp[ju,hc,vd,VM],fun j t ht=>by
 have:=(uSa ht).1;simp[ju,this,ZI],Form.empty b⟩
def StOf.run{b:Bk}{row:List Int}{i:Nat}{s:Sd}(R:StOf b row i s)(h0:0<=ra row i):zU s (ra row i)=(JW row i:Int):=by
 unfold zU;rw[R.kd,R.ln];cases i with
 | zero=>
  rw[if_pos rfl,if_neg (show¬(-1:Int)=ra row 0 by lia)];rfl
 | succ i=>
  have er:JW row (i+1)=if ra row (i+1)=ra row i then JW row i+1 else 1:=rfl
  simp only[Nat.add_sub_cancel,if_neg (Nat.succ_ne_zero i)];rw[er];by_cases e:ra row i=ra row (i+1)
  ·rw[if_pos e,if_pos e.symm];lia
  ·rw[if_neg e,if_neg (fun z=>e z.symm)];rfl
def Xj(b:Bk)(row:List Int)(i:Nat)(s:Sd)(R:StOf b row i s)(c:Nat)(t:T3)(ht:b.kinds[c]?=some t):VL b s (ra row i) c t (vd b row i (c:Int))=vd b row (i+1) (c:Int):=by
 have e3:JQ b.kinds (c:Int)=t:=by
  unfold JQ;rw[Int.toNat_natCast,uBa,ht];rfl
 have el:VM row (i+1) (c:Int)=if ra row i=(c:Int)then some i else VM row i (c:Int):=rfl
 unfold VL vd;rw[e3,el];by_cases e1:(c:Int)=ra row i
 ·rw[if_pos e1,if_pos (show ra row i=(c:Int) from e1.symm)];simp
 ·rw[if_neg e1,if_neg (show¬ra row i=(c:Int) from fun z=>e1 z.symm)];rw[R.kd];cases hl:VM row i (c:Int)with
  | none=>
   have hn:=Go hl;by_cases e2:i=0
   ·subst e2;simp[mx]
   ·have h2:=hn (i - 1) (by lia);rw[if_neg e2];rw[if_neg (fun z=>h2 z.symm)];simp[mx]
  | some j=>
   obtain⟨h1,h2⟩:=Wm hl;have e2:¬i=0:=by lia
   rw[if_neg e2];by_cases e4:j+1=i
   ·have e5:(c:Int)=ra row (i - 1):=by rw[<-h2];congr 1;lia
    simp only[if_pos e5,if_neg (show¬j+1=i+1 by lia)];congr 1
    lia
   ·have e5:¬(c:Int)=ra row (i - 1):=fun z=>Gp hl (i - 1) (by lia) (by lia) z.symm;simp only[if_neg e5,if_neg e4,if_neg (show¬j+1=i+1 by lia)];unfold mx;split <;> split <;> split <;> lia
def StOf.next{b:Bk}{row:List Int}{i:Nat}{s:Sd}(R:StOf b row i s)(h:yV b (ra row i)):StOf b row (i+1) (yp b s (ra row i)) where
 pl:=by show s.place+1=_;rw[R.pl];lia
 kd:=by simp;rfl
 ln:=by simp;exact R.run h.1
 bf:=by
  show s.kind=_;rw[R.kd];by_cases e:i=0
  ·rw[if_pos e,if_pos (by lia)]
  ·rw[if_neg e,if_neg (by lia)];rfl
 ws:=fun c hc=>by
  have hx:=R.ws c hc;have ht:b.kinds[c]?=some b.kinds[c]:=by simp[hc]
  rw[<-Xj b row i s R c _ ht];exact qz R.fo.toFit h ht hx
 ms:=fun j t ht=>by
  have:=Gk (k:=ra row i) ht (R.ms j t ht);rw[R.pl]at this;exact this
 fo:=R.fo.next h
theorem Kr:∀l:List Int,gX (l.map D.int)=some (l.map V.int)
 | []=>rfl
 | x::l=>by rw[vWa,gX,Kr l];rfl
def Ak(k:Int)(l:List Int):w5 (.int k) (l.map V.int)=decide (k∈l):=by
 unfold w5;induction l with
 | nil=>simp
 | cons x l ih=>
  rw[vWa,List.any_cons,ih];by_cases e:x=k
  ·simp[uZ,e]
  ·have e':¬k=x:=fun z=>e z.symm;simp[uZ,e,e']
def qB(neg:Bool)(k:Int)(l:List Int):Yq neg (.int k) (.lst (l.map D.int))=some (.bl (if neg then !decide (k∈l)else decide (k∈l))):=by
 simp[Yq,Kr,Ak]
def qC{row:List Int}{f e:Nat}{k:Int}(he:e<=row.length):k∈(row.drop f).take (e - f)↔∃j,f<=j/\j < e/\ra row j=k:=by
 rw[List.mem_iff_getElem?];constructor
 ·rintro⟨n,hn⟩;rw[List.getElem?_take]at hn;split at hn
  ·rw[List.getElem?_drop]at hn;refine⟨f+n,by lia,by lia,?_⟩;have:=YB (row:=row) (i:=f+n) (by lia);rw[this]at hn;exact vFa hn
  ·cases hn
 ·rintro⟨j,h1,h2,rfl⟩;refine⟨j - f,?_⟩;rw[List.getElem?_take,if_pos (by lia),List.getElem?_drop,show f+(j - f)=j by lia];exact YB (by lia)
def Am{b:Bk}{k:Int}(h:yV b k)(ok:OkB b):fK (JQ b.kinds k)=true:=by
 refine ok.ks _ ?_;unfold JQ;have hk:k.toNat < b.kinds.length:=by have:=h.1;have:=h.2;lia
 rw[uBa,uCa hk];exact List.getElem_mem hk
def km(b:Bk)(s:Sd)(k:Int):Option Str:=if Yn b s k=true then some "long" else if JE b s k=true then some "short" else if JF s k=true then some "early" else if zD b s k=true then some "shun" else none
def An{b:Bk}{row:List Int}{i:Nat}{s:Sd}(R:StOf b row i s)(ok:OkB b)(hr:∀n∈row,yV b n)(hi:i < row.length)(f:Nat)(hf:(f:Int)=if (i:Int) - (JQ b.kinds (ra row i)).2.2 > 0 then(i:Int) - (JQ b.kinds (ra row i)).2.2 else 0)(hne:s.kind≠ra row i):JF s (ra row i)=decide (ra row i∈(row.drop f).take (i - f)):=by
 have hk:=hr (ra row i) (wYa (YB hi));have hw:=R.ws (ra row i).toNat (by have:=hk.1;have:=hk.2;lia)
 have ek:((ra row i).toNat:Int)=ra row i:=by have:=hk.1;lia
 rw[ek]at hw;unfold JF;rw[decide_eq_false hne,Bool.not_false,Bool.true_and,uBa,hw];show(!decide (vd b row i (ra row i)=0))=_;have key:vd b row i (ra row i)≠0↔ra row i∈(row.drop f).take (i - f):=by
  rw[qC (by lia)];unfold vd;have hkd:=R.kd;cases hl:VM row i (ra row i)with
  | none=>
   simp only[ne_eq,not_true_eq_false,false_iff];rintro⟨j,h1,h2,h3⟩;exact Go hl j h2 h3
  | some j=>
   obtain⟨h1,h2⟩:=Wm hl;have e4:¬j+1=i:=fun z=>hne (by
    rw[hkd,if_neg (by lia),<-h2];congr 1
    lia)
   simp only[if_neg e4];have hm:mx ((JQ b.kinds (ra row i)).2.2 - ((i:Int) - 1 - (j:Int))) 0≠0↔(i:Int) - 1 - (j:Int) < (JQ b.kinds (ra row i)).2.2:=by
    unfold mx;split <;> lia
   rw[hm];constructor
   ·intro z;refine⟨j,?_,h1,h2⟩;split at hf <;> lia
   ·rintro⟨j',g1,g2,g3⟩;have:j'<=j:=by
     by_cases z:j'<=j
     ·exact z
     ·exact vDa g3 (Gp hl j' (by lia) g2)
    split at hf <;> lia
 by_cases z:vd b row i (ra row i)=0
 ·rw[decide_eq_true z,decide_eq_false (fun y=>key.mpr y z)];rfl
 ·rw[decide_eq_false z,decide_eq_true (key.mp z)];rfl
def C2(C:Addr)(b:Bk)(row:List Int)(i:Nat)(s:Sd)(ok:OkB b)(hr:∀n∈row,yV b n)(hi:i < row.length)(hl:row.length<=1000)(R:StOf b row i s):ZO C [J9 b,.lst (row.map .int),.int (i:Int)]=some (oS (km b s (ra row i))):=by
 have hk:=hr (ra row i) (wYa (YB hi));have fk:=Am hk ok;unfold fK at fk;simp only[Bool.and_eq_true,decide_eq_true_eq]at fk;have a0:=vc (row:=row) (k:=(i:Int)) hi rfl;have e1:=Wl C row i hi hl (k:=(i:Int)) rfl;have ek:=yZ hk.1 hk.2;have hrun:=R.run hk.1;have hlen:s.kind=ra row i->1<=s.len:=fun z=>by
  rw[R.ln];have:=R.kd;by_cases e:i=0
  ·rw[if_pos e]at this;have:=hk.1;lia
  ·rw[if_neg e];have:=Aj row (i - 1);lia
 unfold zU at hrun;have hlong:Yn b s (ra row i)=decide ((JQ b.kinds (ra row i)).2.1 < (JW row i:Int)):=by
  unfold Yn;by_cases z:s.kind=ra row i
  ·rw[if_pos z]at hrun;rw[decide_eq_true z,Bool.true_and];by_cases y:s.len>=(JQ b.kinds (ra row i)).2.1
   ·rw[decide_eq_true y,decide_eq_true (by lia)]
   ·rw[decide_eq_false y,decide_eq_false (by lia)]
  ·rw[if_neg z]at hrun;rw[decide_eq_false z,Bool.false_and,decide_eq_false (by lia)]
 have hone:(JW row i:Int)=1↔s.kind≠ra row i:=by
  by_cases z:s.kind=ra row i
  ·rw[if_pos z]at hrun;have:=hlen z;constructor
   ·intro y;lia
   ·intro y;exact vDa z y
  ·rw[if_neg z]at hrun;exact⟨fun _=>z,fun _=>hrun.symm⟩
 have L:=fun(x4 x5 x6:Sl)=>Yc (g:=Y3) (s:=J_ C) (items:=b.shuns.map t3) (fun Z=>∃x y z,Z=[.bo (J9 b),.bo (.lst (row.map .int)),.bo (.int (i:Int)),.cl (.int (ra row i)),x4,x5,x6,x,y,z]) (kb (yU s (ra row i))) (.rt (.str "shun")) (.inl ⟨_,rfl⟩) (by
  rintro d hd Z ⟨x,y,z,rfl⟩;obtain⟨t,ht,rfl⟩:=uVa hd;have hf:=ok.hs t ht;obtain⟨u,v,w⟩:=t;unfold fS at hf;simp only[Bool.and_eq_true,decide_eq_true_eq]at hf;refine⟨_,rfl,?_⟩;rw[JV];unfold yU;simp only[J_];by_cases h2:v=ra row i
  ·have hkd:=R.kd;have hbf:=R.bf;by_cases h1:w=1
   ·subst h1;by_cases h3:1<=i
    ·have a1:=vc (row:=row) (i:=i - 1) (k:=(i:Int) - 1) (by lia) (by lia);rw[if_neg (by lia)]at hkd;have h3':(1:Int)<=(i:Int):=by lia
     have h3'':0 < i:=by lia
     by_cases h4:ra row (i - 1)=u <;> simp[h2,h3,h3',h3'',a1,hkd,h4]
    ·have h3':i=0:=by lia
     rw[if_pos h3']at hkd;have h5:¬(-1:Int)=u:=by lia
     simp[h2,h3',hkd,h5]
   ·have h1:w=2:=by lia
    subst h1;by_cases h3:2<=i
    ·have a1:=vc (row:=row) (i:=i - 2) (k:=(i:Int) - 2) (by lia) (by lia);rw[if_neg (by lia)]at hbf;have h3':(2:Int)<=(i:Int):=by lia
     by_cases h4:ra row (i - 2)=u <;> simp[h2,h3',a1,hbf,h4]
    ·rw[if_pos (by lia)]at hbf;have h3':¬(2:Int)<=(i:Int):=by lia
     have h5:¬(-1:Int)=u:=by lia
     simp[h2,h3',hbf,h5]
  ·simp[h2]) (Z:=[.bo (J9 b),.bo (.lst (row.map .int)),.bo (.int (i:Int)),.cl (.int (ra row i)),x4,x5,x6,.un,.un,.un]) ⟨.un,.un,.un,rfl⟩
 have hsh:zD b s (ra row i)=b.shuns.any (yU s (ra row i)):=rfl;simp only[any_map t3 _ (yU s (ra row i)) (JV _),<-hsh]at L;unfold km;rw[hlong];refine fE (sq (by simp[a0] <;> rfl) (sq (by simp[e1] <;> rfl) ?_));by_cases c1:(JQ b.kinds (ra row i)).2.1 < (JW row i:Int)
 ·rw[decide_eq_true c1];exact YX (YY (by simp[ek,c1]) rfl)
 rw[decide_eq_false c1];refine sq (YZ (by simp[ek,c1]) rfl) ?_;have fin:∀x4 x5 x6:Sl,(j0 (jR (jU (d2 j6 (dV 0) (dK (.int 2)))) Y3 (J_ C)) (jb (dK .non))) [.bo (J9 b),.bo (.lst (row.map .int)),.bo (.int (i:Int)),.cl (.int (ra row i)),x4,x5,x6,.un,.un,.un]=some (.rt (oS (if zD b s (ra row i)=true then some "shun" else none))):=fun x4 x5 x6=>by
  rcases L x4 x5 x6 with⟨L1,L2⟩ | ⟨L1,Z',_,L2⟩ <;> rw[L1]
  ·exact YX L2
  ·exact sq L2 rfl
 by_cases c2:s.kind=ra row i
 ·have r1:¬(JW row i:Int)=1:=fun z=>hone.mp z c2;have s1:JE b s (ra row i)=false:=by unfold JE;simp[c2]
  have s2:JF s (ra row i)=false:=by unfold JF;simp[c2]
  have r1':¬JW row i=1:=fun z=>r1 (by lia);rw[s1,s2];refine sq (YZ (by by_cases c3:0 < i <;> simp[c3,r1,r1']) rfl) (sq (YZ (by simp[r1,r1']) rfl) (fin _ _ _))
 ·have r1:JW row i=1:=by have:=hone.mpr c2;lia
  obtain⟨f,hf⟩:∃f:Nat,(f:Int)=if (i:Int) - (JQ b.kinds (ra row i)).2.2 > 0 then(i:Int) - (JQ b.kinds (ra row i)).2.2 else 0:=⟨(if (i:Int) - (JQ b.kinds (ra row i)).2.2 > 0 then(i:Int) - (JQ b.kinds (ra row i)).2.2 else 0).toNat,by split <;> lia⟩
  have hea:=An R ok hr hi f hf c2;have hfi:f<=i:=by split at hf <;> lia
  have ec:Jo (row.map D.int) (some (f:Int)) (some (i:Int))=((row.drop f).take (i - f)).map D.int:=by
   rw[Ye,vR row f i (by lia) (by lia)]
  have ein:=qB false (ra row i) ((row.drop f).take (i - f));rw[<-hea]at ein
  have emx:vm [.int 0,.int ((i:Int) - (JQ b.kinds (ra row i)).2.2)]=some (.int (f:Int)):=by rw[hf];rfl
  generalize (row.drop f).take (i - f)=cut at ec ein
  refine lK (fun Z1=>JE b s (ra row i)=false/\∃x5,Z1=[.bo (J9 b),.bo (.lst (row.map .int)),.bo (.int (i:Int)),.cl (.int (ra row i)),.cl (.int (JW row i)),x5,.un,.un,.un,.un]) ?_ ?_
  ·have hkd:=R.kd;by_cases c3:i=0
   ·rw[if_pos c3]at hkd;exact .inr ⟨_,YZ (by simp[c3]) rfl,by unfold JE;simp[hkd],_,rfl⟩
   ·rw[if_neg c3]at hkd;have a1:=vc (row:=row) (i:=i - 1) (k:=(i:Int) - 1) (by lia) (by lia);have hk1:=hr (ra row (i - 1)) (wYa (YB (by lia)));have ek1:=yZ hk1.1 hk1.2;have e1':=Wl C row (i - 1) (by lia) hl (k:=(i:Int) - 1) (by lia);have c3':0 < i:=by lia
    have hsh1:JE b s (ra row i)=decide ((JW row (i - 1):Int) < (JQ b.kinds (ra row (i - 1))).1):=by
     unfold JE;have n1:¬s.kind=-1:=by rw[hkd];have:=hk1.1;lia
     rw[decide_eq_false c2,decide_eq_false n1,R.ln,if_neg c3,hkd];rfl
    by_cases c4:(JW row (i - 1):Int) < (JQ b.kinds (ra row (i - 1))).1
    ·rw[hsh1,decide_eq_true c4];exact .inl ⟨_,YY (by simp[c3',r1]) (sq (by simp[a1,ek1] <;> rfl) (YY (by simp[e1',c4]) rfl)),rfl⟩
    ·rw[hsh1,decide_eq_false c4];exact .inr ⟨_,YY (by simp[c3',r1]) (sq (by simp[a1,ek1] <;> rfl) (YZ (by simp[e1',c4]) rfl)),rfl,_,rfl⟩
  ·rintro Z1 ⟨s1,x5,rfl⟩;rw[s1];cases he:JF s (ra row i) <;> rw[he]at ein
   ·exact sq (YY (by simp[r1]) (sq (by simp[-vm,ek,emx] <;> rfl) (YZ (by simp[-Yq,ec,ein]) rfl))) (fin (.cl (.int (JW row i))) x5 (.cl (.int (f:Int))))
   ·exact YX (YY (by simp[r1]) (sq (by simp[-vm,ek,emx] <;> rfl) (YY (by simp[-Yq,ec,ein]) rfl)))
theorem Wn(row:List Int)(t:T3):∀n:Nat,ZI row n t=true↔∃j,j < n/\yd (ra row j) ((j:Int)+1) t=true
 | 0=>by simp[ZI]
 | n+1=>by
  unfold ZI;rw[Bool.or_eq_true,Wn row t n];constructor
  ·rintro(⟨j,h1,h2⟩ | h)
   ·exact⟨j,by lia,h2⟩
   ·exact⟨n,by lia,h⟩
  ·rintro⟨j,h1,h2⟩;by_cases e:j=n
   ·subst e;exact .inr h2
   ·exact .inl ⟨j,by lia,h2⟩
def C3{row:List Int}{i f:Nat}{t:T3}(hi:i < row.length)(hf:(f:Int)=t.2.1 - 1)(hl:t.2.2=(i:Int)+1):ZI row (i+1) t=decide (t.1∈(row.drop f).take (i+1 - f)):=by
 have key:ZI row (i+1) t=true↔t.1∈(row.drop f).take (i+1 - f):=by
  rw[Wn,qC (by lia)];constructor
  ·rintro⟨j,h1,h2⟩;unfold yd at h2;simp only[Bool.and_eq_true,decide_eq_true_eq]at h2;exact⟨j,by lia,h1,h2.1.symm⟩
  ·rintro⟨j,h1,h2,h3⟩;refine⟨j,h2,?_⟩;unfold yd;simp only[Bool.and_eq_true,decide_eq_true_eq];exact⟨h3.symm,by lia,by lia⟩
 by_cases z:t.1∈(row.drop f).take (i+1 - f)
 ·rw[decide_eq_true z,key.mpr z]
 ·rw[decide_eq_false z];cases h:ZI row (i+1) t with
  | true=>exact vDa (key.mp h) z
  | false=>rfl
def Qy(row:List Int)(i:Nat)(t:T3):Bool:=decide (t.2.2=(i:Int)+1)&&!ZI row (i+1) t
def C4{b:Bk}{row:List Int}{i:Nat}{s:Sd}(R:StOf b row i s):List.zip b.dues (Jx b s (ra row i))=b.dues.map fun t=>(t,ZI row (i+1) t):=by
 apply List.ext_getElem?;intro j;rw[uAa,List.zip,List.getElem?_zipWith];cases h:b.dues[j]? with
 | none=>rfl
 | some t=>
  have:=Gk (k:=ra row i) h (R.ms j t h);rw[R.pl]at this;rw[this];rfl
def EH{b:Bk}{row:List Int}{i:Nat}{s:Sd}(R:StOf b row i s):zE b s (ra row i)=b.dues.any (Qy row i):=by
 unfold zE;rw[C4 R,List.any_map,R.pl];rfl
def Wo(b:Bk)(s:Sd)(k:Int):Jg b s k=if Y0 b s k=true then some (Str.ofString "barred")else match km b s k with
  | some w=>some w
  | none=>if zE b s k=true then some (Str.ofString "due")else if vQ b s k=true then some (Str.ofString "cut")else none:=by
 unfold Jg km;cases Y0 b s k <;> cases Yn b s k <;> cases JE b s k <;> cases JF s k <;> cases zD b s k <;> rfl
def Ao(C:Addr)(b:Bk)(row:List Int)(i:Nat)(s:Sd)(ok:OkB b)(hr:∀n∈row,yV b n)(hi:i < row.length)(hl:row.length<=1000)(R:StOf b row i s):Uu C [J9 b,.lst (row.map .int),.int (i:Int)]=some (oS (Jg b s (ra row i))):=by
 have hk:=hr (ra row i) (wYa (YB hi));have a0:=vc (row:=row) (k:=(i:Int)) hi rfl;have e1:=Wl C row i hi hl (k:=(i:Int)) rfl;have ek:=yZ hk.1 hk.2;have hrun:=R.run hk.1;have en:=C2 C b row i s ok hr hi hl R;have L:=Yc (g:=VC) (s:=zN C) (items:=b.bars.map t3) (fun Z=>∃x,Z=[.bo (J9 b),.bo (.lst (row.map .int)),.bo (.int (i:Int)),.cl (.int (ra row i)),x,.un,.un]) (kb (yd (ra row i) ((i:Int)+1))) (.rt (.str "barred")) (.inl ⟨_,rfl⟩) (by
  rintro d hd Z ⟨x,rfl⟩;obtain⟨t,_,rfl⟩:=uVa hd;obtain⟨u,v,w⟩:=t;refine⟨_,rfl,?_⟩;rw[JV];unfold yd;simp only[zN];by_cases h1:u=ra row i
  ·by_cases h2:v<=(i:Int)+1
   ·by_cases h3:(i:Int)+1<=w <;> simp[h1,h2,h3]
   ·simp[h1,h2]
  ·simp[h1]) (Z:=[.bo (J9 b),.bo (.lst (row.map .int)),.bo (.int (i:Int)),.cl (.int (ra row i)),.un,.un,.un]) ⟨.un,rfl⟩
 have hba:Y0 b s (ra row i)=b.bars.any (yd (ra row i) ((i:Int)+1)):=by unfold Y0;rw[R.pl]
 rw[any_map t3 _ (yd (ra row i) ((i:Int)+1)) (JV _),<-hba]at L;have M:=fun(x4:Sl)=>Yc (g:=VD) (s:=zO C) (items:=b.dues.map t3) (fun Z=>∃x,Z=[.bo (J9 b),.bo (.lst (row.map .int)),.bo (.int (i:Int)),.cl (.int (ra row i)),x4,.cl .non,x]) (kb (Qy row i)) (.rt (.str "due")) (.inl ⟨_,rfl⟩) (by
  rintro d hd Z ⟨x,rfl⟩;obtain⟨t,ht,rfl⟩:=uVa hd;have hf:=ok.ds t ht;unfold fB at hf;simp only[Bool.and_eq_true,decide_eq_true_eq]at hf;refine⟨_,rfl,?_⟩;rw[JV];unfold Qy;simp only[zO];by_cases h1:t.2.2=(i:Int)+1
  ·obtain⟨f,hf'⟩:∃f:Nat,(f:Int)=t.2.1 - 1:=⟨(t.2.1 - 1).toNat,by lia⟩
   have hm:=C3 hi hf' h1;have ec:Jo (row.map D.int) (some (t.2.1 - 1)) (some ((i:Int)+1))=((row.drop f).take (i+1 - f)).map D.int:=by
    rw[<-hf',show(i:Int)+1=((i+1:Nat):Int) by lia,Ye,vR row f (i+1) (by lia) (by lia)]
   have ein:=qB true t.1 ((row.drop f).take (i+1 - f));rw[<-hm]at ein
   revert ec ein
   generalize (row.drop f).take (i+1 - f)=cut;intro ec ein
   cases hmm:ZI row (i+1) t <;> rw[hmm]at ein <;> simp[-Yq,h1,ec,ein]
  ·simp[h1]) (Z:=[.bo (J9 b),.bo (.lst (row.map .int)),.bo (.int (i:Int)),.cl (.int (ra row i)),x4,.cl .non,.un]) ⟨.un,rfl⟩
 simp only[any_map t3 _ (Qy row i) (JV _),<-EH R]at M;rw[Wo];refine fE (sq (by simp[a0] <;> rfl) ?_);rcases L with⟨L1,L2⟩ | ⟨L1,Z',⟨x,rfl⟩,L2⟩ <;> rw[L1]
 ·exact YX L2
 ·refine sq L2 (sq (by simp[en] <;> rfl) ?_);cases hn:km b s (ra row i)with
  | some w=>exact YX (YY rfl rfl)
  | none=>
   refine sq (YZ rfl rfl) ?_;rcases M x with⟨M1,M2⟩ | ⟨M1,Z',⟨y,rfl⟩,M2⟩ <;> rw[M1]
   ·exact YX M2
   ·have hc:vQ b s (ra row i)=(decide ((i:Int)+1=b.size)&&decide ((JW row i:Int) < (JQ b.kinds (ra row i)).1)):=by unfold vQ;rw[R.pl,hrun]
    refine sq M2 ?_;rw[hc];by_cases c1:(i:Int)+1=b.size
    ·by_cases c2:(JW row i:Int) < (JQ b.kinds (ra row i)).1
     ·rw[decide_eq_true c1,decide_eq_true c2];exact YX (YY (by simp[e1,ek,c1,c2]) rfl)
     ·rw[decide_eq_false c2,Bool.and_false];exact sq (YZ (by simp[e1,ek,c1,c2]) rfl) rfl
    ·rw[decide_eq_false c1];exact sq (YZ (by simp[c1]) rfl) rfl
def Wp{b:Bk}{row:List Int}{i:Nat}{s:Sd}(hi:i < row.length):jz b s (row.drop i)=match Jg b s (ra row i)with
  | some w=>(s,some w)
  | none=>jz b (yp b s (ra row i)) (row.drop (i+1)):=by
 have e:row.drop i=ra row i::row.drop (i+1):=by
  have h:=YB hi;rw[List.drop_eq_getElem_cons hi];rw[uCa hi]at h;rw[Option.some.inj h]
 rw[e,jz];all_goals (cases Jg b s (ra row i) <;> rfl)
def Gq{n i:Nat}{d:D}(h:(Jf 0 n)[i]?=some d):i < n/\d=.int (i:Int):=by
 unfold Jf at h;rw[uAa]at h;by_cases z:i < n
 ·rw[List.getElem?_range z]at h;refine⟨z,?_⟩;have:=vFa h;rw[<-this];simp
 ·rw[List.getElem?_eq_none (by simp;lia)]at h;cases h
def Qz(C:Addr)(b:Bk)(row:List Int)(ok:OkB b)(hr:∀n∈row,yV b n)(hl:row.length<=1000):YK C [J9 b,.lst (row.map .int)]=some (oJ (vg b row)):=by
 have L:=W5 (g:=V5) (s:=zp C) (items:=Jf 0 row.length) (r:=.nx []) (fun i Z=>∃x y s,Z=[.bo (J9 b),.bo (.lst (row.map .int)),x,y]/\StOf b row i s/\jz b (ju b) row=jz b s (row.drop i)) (fun i r=>∃s w,jz b (ju b) row=(s,some w)/\r=.rt (.tup [.int (s.place+1),.str w])) (by
  rintro i d Z hd ⟨x,y,s,rfl,R,hw⟩;obtain⟨hi,rfl⟩:=Gq hd;have e:=Ao C b row i s ok hr hi hl R;have hk:=hr (ra row i) (wYa (YB hi));rw[Wp hi]at hw;refine⟨_,rfl,?_⟩;simp only[zp];cases hb:Jg b s (ra row i)with
  | some w=>
   rw[hb]at e hw;exact .inr ⟨.tup [.int ((i:Int)+1),.str w],by simp[e,oS],s,w,hw,by rw[R.pl]⟩
  | none=>
   rw[hb]at e hw;exact .inl ⟨[.bo (J9 b),.bo (.lst (row.map .int)),.cl (.int (i:Int)),.cl .non],by simp[e,oS],_,_,_,rfl,R.next hk,hw⟩) (Z:=[.bo (J9 b),.bo (.lst (row.map .int)),.un,.un]) ⟨_,_,ju b,rfl,StOf.empty b row,rfl⟩
 have z1:Jy (row.length:Int)=true:=zc (by lia) (by lia);simp only[YK,ZC];rcases L with⟨Z',L1,x,y,s,rfl,R,hw⟩ | ⟨i,d',_,L1,s,w,hw,hd⟩
 ·have hn:vg b row=none:=by
   unfold vg;rw[hw];have:row.drop (Jf 0 row.length).length=[]:=List.drop_eq_nil_of_le (by simp[Jf]);rw[this];rfl
  rw[hn];simp[z1,L1,oJ]
 ·cases hd;have hn:vg b row=some (s.place+1,w):=by
   unfold vg;rw[hw]
  rw[hn];simp[z1,L1,oJ]
def Jw.set{b:Bk}{row:List Int}(h:Jw b row)(n:Nat){k:Int}(hk:yV b k):Jw b (row.set n k):=⟨fun x hx=>by
 rcases Gn hx with hx | rfl
 ·exact h.1 x hx
 ·exact hk,by rw[List.length_set];exact h.2⟩
def Xk{b:Bk}(ok:OkB b)(x:Int):yV b (x % (b.kinds.length:Int)):=by
 have:=ok.k1;have:=Jc (a:=x) (b:=(b.kinds.length:Int)) (by lia);exact⟨this.1,this.2⟩
def Jw.mods{b:Bk}(ok:OkB b){ds:List Int}(h:(ds.length:Int)<=b.size):Jw b (ds.map fun x=>x % (b.kinds.length:Int)):=⟨fun x hx=>by
 obtain⟨y,_,rfl⟩:=uVa hx;exact Xk ok y,by rw[vYa];exact h⟩
def Xl(b:Bk)(ok:OkB b)(row:List Int):Jm (gN 0) jW (d2 jF (dV 0) (j7 jY [(false,(d2 j6 (dV 1) (dK (.int 1))))])) (row.map D.int) [.un,.bo (J9 b)]=some ((row.map fun x=>x % (b.kinds.length:Int)).map D.int):=by
 have k1:=ok.k1;have k1':0 < (b.kinds.length:Int):=by lia
 have k1'':0 < b.kinds.length:=by lia
 rw[List.map_map];exact Jp D.int (fun x=>D.int (x % (b.kinds.length:Int))) fun x _=>⟨[.cl (.int x),.bo (J9 b)],rfl,rfl,by simp[k1',k1'']⟩
def EI(C:Addr)(b:Bk)(ds:List Int)(ok:OkB b)(hn:36<=ds.length)(hn2:ds.length<=1000):∃row:List Int,ZW C [J9 b,.lst (ds.map .int)]=some (.lst (row.map .int))/\Jw b row:=by
 have s1:=ok.s1;have s2:=ok.s2;have k1:=ok.k1;have k1':0 < (b.kinds.length:Int):=by lia
 have k1'':0 < b.kinds.length:=by lia
 obtain⟨v0,a0⟩:=Zo (ds:=ds) (k:=0) (by decide) (by lia);obtain⟨v1,a1⟩:=Zo (ds:=ds) (k:=1) (by decide) (by lia);obtain⟨v2,a2⟩:=Zo (ds:=ds) (k:=2) (by decide) (by lia);obtain⟨v3,a3⟩:=Zo (ds:=ds) (k:=3) (by decide) (by lia);have sp:0 < b.size+1:=by lia
 have hm0:=Jc (a:=v0) (b:=b.size+1) sp;obtain⟨n,hn0⟩:∃n:Nat,v0 % (b.size+1)=(n:Int):=⟨(v0 % (b.size+1)).toNat,by lia⟩
 have ec:Jo (ds.map D.int) (some 5) (some (5+(n:Int)))=((ds.drop 5).take n).map D.int:=by
  have:=vR ds 5 (5+n) (by lia) (by lia);rw[Ye];rw[show 5+n - 5=n by lia]at this;rw[<-this];congr 2
 have hcl:((ds.drop 5).take n).length=n:=by simp;lia
 have hcomp:=Xl b ok ((ds.drop 5).take n);obtain⟨row,s,ew,W,hl⟩:=C0 C b ((ds.drop 5).take n) ok (by lia);have hrm:Jw b (((ds.drop 5).take n).map fun x=>x % (b.kinds.length:Int)):=Jw.mods ok (by rw[hcl];lia);have hrw:Jw b row:=⟨W.ks,W.sz⟩
 revert ec hcl hcomp ew hl hrm;generalize (ds.drop 5).take n=cut;intro ec hcl hcomp ew hl hrm;have z2:cut.length<=sizeLine:=wQa (jo (by lia));have hmk:=Xk ok v3;have en:=ki row;simp only[ZW,u9];by_cases c2:v1 % 6=5
 ·refine⟨_,?_,hrm⟩;have c1:¬v1 % 3=1:=by lia
  simp[-J8,a0,a1,a2,a3,sp,hn0,ec,ew,c1,c2,VT,hcomp,z2]
 ·by_cases c1:v1 % 3=1
  ·by_cases c3:row=[]
   ·refine⟨row,?_,hrw⟩;rw[decide_eq_true c3]at en;simp[-J8,a0,a1,a2,a3,sp,hn0,ec,ew,c1,c2,en]
   ·have c4:0 < row.length:=by
     cases row with
     | nil=>exact vDa rfl c3
     | cons _ _=>simp
    have c4':0 < (row.length:Int):=by lia
    have hm2:=Jc (a:=v2) (b:=(row.length:Int)) c4';have ei:=W6 (n:=row.length) hm2.1 hm2.2;refine⟨row.set (v2 % (row.length:Int)).toNat (v3 % (b.kinds.length:Int)),?_,hrw.set _ hmk⟩;rw[decide_eq_false c3]at en;simp[-J8,a0,a1,a2,a3,sp,hn0,ec,ew,c1,c2,c4,c4',k1',k1'',en,ei]
  ·refine⟨row,?_,hrw⟩;simp[-J8,a0,a1,a2,a3,sp,hn0,ec,ew,c1,c2]
def Wq(C:Addr)(j:Option (Int×Str)):jJ C 6 [oJ j,oJ j]=some (.bl true):=by
 refine qy C (oJ j) 6 ?_ ?_
 ·cases j with
  | none=>exact trivial
  | some p=>exact⟨wQa (jo (by simp)),trivial,trivial,trivial⟩
 ·cases j with
  | none=>decide
  | some p=>simp[oJ,dep,vn]
theorem StOf.walk{b:Bk}{row:List Int}(hr:∀n∈row,yV b n){s':Sd}:∀(m i:Nat) (s:Sd),row.length - i=m->i<=row.length->StOf b row i s->jz b s (row.drop i)=(s',none)->StOf b row row.length s'
 | 0,i,s,hm,hi,R,hw=>by
  have e:i=row.length:=by lia
  subst e;rw[List.drop_length]at hw;cases hw;exact R
 | m+1,i,s,hm,hi,R,hw=>by
  have hlt:i < row.length:=by lia
  rw[Wp hlt]at hw;have hk:=hr (ra row i) (wYa (YB hlt));cases hb:Jg b s (ra row i)with
  | some w=>rw[hb]at hw;cases hw
  | none=>
   rw[hb]at hw;exact StOf.walk hr m (i+1) _ (by lia) hlt (R.next hk) hw
def StOf.all{b:Bk}{row:List Int}(hr:∀n∈row,yV b n){s:Sd}(hw:jz b (ju b) row=(s,none)):StOf b row row.length s:=
 StOf.walk hr _ 0 (ju b) rfl (Nat.zero_le _) (StOf.empty b row) hw
def J2(b:Bk)(row:List Int):Option Xp:=if ZP b row=false then some ("NoKind",[])else if b.size < (row.length:Int)then some ("TooLong",[])else match jz b (ju b) row with
 | (s,some w)=>some ("Broken",[("word",.str w),("place",.int (s.place+1))])
 | _=>none
theorem UN(C:Addr)(b:Bk)(row:List Int)(ok:OkB b)(hl:row.length<=1000):jX C [jf C b,.lst (row.map .int)]=some (match J2 b row with
  | some p=>.xc p
  | none=>.ok (j3 (jz b (ju b) row).1)):=by
 have e1:=UH C b row hl;simp only[jX,ui];unfold J2;cases hk:ZP b row with
 | false=>rw[hk]at e1;simp[e1]
 | true=>
  rw[hk]at e1;by_cases c:b.size < (row.length:Int)
  ·simp[c]at e1;simp[e1,c]
  ·simp[c]at e1;have e2:=UJ C b row ok (UG hk);revert e2;generalize jz b (ju b) row=q;obtain⟨s,o⟩:=q;intro e2;cases o with
   | none=>simp[e1,e2,oS,c]
   | some x=>simp[e1,e2,oS,c,Qp,HG]
def Ap{b:Bk}{row:List Int}(h:Jw b row){s:Sd}(hw:jz b (ju b) row=(s,none)):J2 b row=none:=by
 unfold J2;have h2:=h.2;rw[Ey h.1,if_neg (by decide),if_neg (by lia),hw]
def Jl(C:Addr)(b:Bk)(row:List Int)(ok:OkB b)(h:Jw b row){s:Sd}(hw:jz b (ju b) row=(s,none)):jX C [jf C b,.lst (row.map .int)]=some (.ok (j3 s)):=by
 have s2:=ok.s2;have h2:=h.2;rw[UN C b row ok (by lia),Ap h hw,hw]
def Aq{b:Bk}{row:List Int}(h:J2 b row=none):Jw b row/\∃s,jz b (ju b) row=(s,none):=by
 unfold J2 at h;cases hk:ZP b row with
 | false=>rw[hk]at h;simp at h
 | true=>
  rw[hk]at h;by_cases c1:b.size < (row.length:Int)
  ·simp[c1]at h
  ·simp only[c1,if_false,Bool.true_eq_false]at h;refine⟨⟨UG hk,by lia⟩,?_⟩;revert h;generalize jz b (ju b) row=q;obtain⟨s,o⟩:=q;cases o with
   | none=>exact fun _=>⟨s,rfl⟩
   | some x=>intro h;simp at h
def QA(C:Addr)(b:Bk)(s:Sd)(k:Int)(ok:OkB b)(X:Fit b s)(h:yV b k):UE C [jf C b,j3 s,.int k]=some (UK (y9 b s k)):=by
 have e1:=Kq C b s k ok X h;have e2:=Wd C b s k ok X h;unfold y9;simp only[UE,UD];by_cases c:s.place>=b.size
 ·have c':b.size<=s.place:=c;rw[if_pos c];simp[c',UK]
 ·have c':¬b.size<=s.place:=c;rw[if_neg c];cases hb:Jg b s k with
  | none=>rw[hb]at e1;simp[c',e1,e2,oS,UK]
  | some w=>rw[hb]at e1;simp[c',e1,oS,UK]
noncomputable instance:DecidableEq Sd:=fun _ _=>Classical.propDecidable _
noncomputable def kB(b:Bool):KD:=.i (if b then 1 else 0)
noncomputable def kS(s:Sd):KD:=.t [.i s.place,.i s.kind,.i s.len,.i s.before,.t (s.waits.map .i),.t (s.met.map kB)]
theorem Wr:∀l:List Int,YF (l.map D.int)=some (l.map KD.i)
 | []=>by rw[uJa,YF];rfl
 | x::l=>by rw[vWa,YF,yI,Wr l];rfl
theorem qD:∀l:List Bool,YF (l.map D.bl)=some (l.map kB)
 | []=>by rw[uJa,YF];rfl
 | x::l=>by rw[vWa,YF,yI,qD l];rfl
theorem qF:∀l:List Int,Yi (l.map KD.i)=0
 | []=>rfl
 | x::l=>by rw[vWa,Yi,qF l];rfl
theorem qG:∀l:List Bool,Yi (l.map kB)=0
 | []=>rfl
 | x::l=>by rw[vWa,Yi,qG l];rfl
def Ws(s:Sd):yv (j3 s)=some (kS s):=by
 have e:yI (j3 s)=some (kS s):=by
  unfold j3 kS;simp[yI,YF,Wr,qD]
 have d:(kS s).dep<=8:=by
  unfold kS;simp[KD.dep,Yi,qF,qG]
 show(yI (j3 s)).bind _=_;rw[e];simp[d]
theorem Gr{α β:Type}{f:α->β}(h:∀a b,f a=f b->a=b):∀{l m:List α},l.map f=m.map f->l=m
 | [],[],_=>rfl
 | [],_::_,e=>by cases e
 | _::_,[],e=>by cases e
 | a::l,b::m,e=>by
  rw[vWa,vWa]at e;injection e with e1 e2;rw[h _ _ e1,Gr h e2]
def Wt{s t:Sd}(h:kS s=kS t):s=t:=by
 unfold kS at h;simp only[KD.t.injEq,List.cons.injEq,KD.i.injEq]at h;obtain⟨h1,h2,h3,h4,h5,h6,_⟩:=h;have e5:=Gr (fun a b e=>by injection e) h5;have e6:=Gr (fun a b e=>by cases a <;> cases b <;> first | rfl | (unfold kB at e;simp at e)) h6;obtain⟨a1,a2,a3,a4,a5,a6⟩:=s;obtain⟨b1,b2,b3,b4,b5,b6⟩:=t;simp only at h1 h2 h3 h4 e5 e6;subst h1 h2 h3 h4 e5 e6;rfl
theorem K4:∀l:List Sd,Jb (l.map j3)=some (l.map kS)
 | []=>rfl
 | s::l=>by rw[vWa,Jb,Ws,K4 l];rfl
def ko{l:List Sd}{s:Sd}:kS s∈l.map kS↔s∈l:=by
 rw[List.mem_map];constructor
 ·rintro⟨t,h,e⟩;rw[<-Wt e];exact h
 ·exact fun h=>⟨s,h,rfl⟩
theorem qH{f:Sd->D}{s:Sd}:∀{l:List Sd},s∈l->V2 (l.map kS) (l.map f) (kS s)=some (f s)
 | [],h=>by cases h
 | t::l,h=>by
  rw[vWa,vWa,V2];by_cases e:t=s
  ·rw[if_pos (by rw[e]),e]
  ·rw[if_neg (fun z=>e (Wt z))];rcases uTa h with z | z
   ·exact vDa z.symm e
   ·exact qH z
def YC{f:Sd->D}{s:Sd}{l:List Sd}(h:s∈l):yb (.dct (l.map j3) (l.map f)) (j3 s)=some (f s):=by
 show(yv (j3 s)).bind _=_;rw[Ws];show(Jb (l.map j3)).bind _=_;rw[K4];exact qH h
theorem Wu{f:Sd->D}{s:Sd}:∀l:List Sd,Ug (l.map kS) (l.map f) (kS s) (f s)=l.map f
 | []=>by rw[uJa,uJa,Ug];all_goals (intros;contradiction)
 | t::l=>by
  rw[vWa,vWa,Ug,Wu l];by_cases e:t=s
  ·rw[if_pos (by rw[e]),e]
  ·rw[if_neg (fun z=>e (Wt z))]
noncomputable def jB(l:List Sd)(s:Sd):List Sd:=if s∈l then l else l++[s]
def UO{i:Nat}{q:Option Addr}{l:List Sd}{f:Sd->D}{s:Sd}{dk de:DE}{Z:jk}(h:Z[i]?=some (.ow q (.dct (l.map j3) (l.map f))))(hd:de Z=some (f s))(hk:dk Z=some (j3 s))(hl:l.length < sizeLine):
  Zw i dk de Z=some (.nx (Z.set i (.ow q (.dct ((jB l s).map j3) ((jB l s).map f))))):=by
 rw[Zw,h];simp only[hd,hk,Option.bind_some,Ws,K4,List.length_map,hl,if_true];unfold GP KJ jB;by_cases e:s∈l
 ·rw[if_pos (ko.mpr e),if_pos (ko.mpr e),if_pos e,Wu]
 ·rw[if_neg (fun z=>e (ko.mp z)),if_neg (fun z=>e (ko.mp z)),if_neg e,uDa,uDa];rfl
def Gs{l:List Sd}{s t:Sd}:t∈jB l s↔t∈l \/ t=s:=by
 unfold jB;split
 ·constructor
  ·exact .inl
  ·rintro(h | rfl)
   ·exact h
   ·assumption
 ·simp
def ut(l:List Sd)(s:Sd):l.length<=(jB l s).length/\(jB l s).length<=l.length+1:=by
 unfold jB;split <;> simp
def C5{l:List Sd}{s:Sd}(h:l.Nodup):(jB l s).Nodup:=by
 unfold jB;split
 ·exact h
 ·rename_i e;exact List.nodup_append.mpr ⟨h,by simp,fun a ha b hb z=>by simp at hb;rw[hb]at z;exact e (z▸ha)⟩
theorem Yg{t:Sd}:∀{xs l:List Sd},t∈xs.foldl jB l↔t∈l \/ t∈xs
 | [],l=>by simp
 | x::xs,l=>by
  rw[List.foldl_cons,Yg,Gs,List.mem_cons];constructor
  ·rintro((h | h) | h)
   ·exact .inl h
   ·exact .inr (.inl h)
   ·exact .inr (.inr h)
  ·rintro(h | h | h)
   ·exact .inl (.inl h)
   ·exact .inl (.inr h)
   ·exact .inr h
theorem zV:∀(xs l:List Sd),l.length<=(xs.foldl jB l).length/\(xs.foldl jB l).length<=l.length+xs.length
 | [],l=>by simp
 | x::xs,l=>by
  have h1:=zV xs (jB l x);have h2:=ut l x;rw[List.foldl_cons,vXa]
  lia
theorem qI:∀{xs l:List Sd},l.Nodup->(xs.foldl jB l).Nodup
 | [],_,h=>h
 | x::xs,l,h=>qI (xs:=xs) (C5 h)
def VN(b:Bk)(s:Sd)(n:Nat):List (Int×Sd):=(List.range n).filterMap fun(c:Nat)=>(y9 b s (c:Int)).map fun t=>((c:Int),t)
def jd(b:Bk)(s:Sd):List (Int×Sd):=VN b s b.kinds.length
def pD(p:Int×Sd):D:=.tup [.int p.1,j3 p.2]
def Wv(b:Bk)(s:Sd)(n:Nat):VN b s (n+1)=VN b s n++(match y9 b s (n:Int)with | some t=>[((n:Int),t)] | none=>[]):=by
 unfold VN;rw[List.range_succ,List.filterMap_append];cases e:y9 b s (n:Int) <;> simp[e]
def VO(b:Bk)(s:Sd)(n:Nat):(VN b s n).length<=n:=by
 unfold VN;exact wSa (List.length_filterMap_le _ _) (by simp)
def gh{b:Bk}{s:Sd}{n:Nat}{p:Int×Sd}(h:p∈VN b s n):∃c:Nat,c < n/\p.1=(c:Int)/\y9 b s (c:Int)=some p.2:=by
 unfold VN at h;obtain⟨c,hc,e⟩:=List.mem_filterMap.mp h;obtain⟨t,e1,rfl⟩:=Option.map_eq_some_iff.mp e;exact⟨c,List.mem_range.mp hc,rfl,e1⟩
def uu(C:Addr)(b:Bk)(s:Sd)(ok:OkB b)(X:Fit b s):JU C [jf C b,j3 s]=some (.lst ((jd b s).map pD)):=by
 have k2:=ok.k2;have z1:Jy (b.kinds.length:Int)=true:=zc (by lia) (by lia);obtain⟨Z1,L1,y3,y4,rfl⟩:=yq (g:=VH) (s:=Yl C) (items:=Jf 0 b.kinds.length) (fun i Z=>∃y3 y4:Sl,Z=[.bo (jf C b),.bo (j3 s),.ow none (.lst ((VN b s i).map pD)),y3,y4]) (by
  rintro i d Z hd ⟨y3,y4,rfl⟩;obtain⟨hi,rfl⟩:=Gq hd;have e1:=QA C b s (i:Int) ok X ⟨by lia,by lia⟩;have hl:=VO b s i;have z3:(VN b s i).length < sizeLine:=jo (by lia);cases hs:y9 b s (i:Int)with
  | none=>
   rw[hs]at e1;refine⟨_,_,rfl,?_,.cl (.int (i:Int)),.cl .non,rfl⟩;rw[Wv,hs,uFa];simp only[Yl];simp[e1,UK]
  | some t=>
   rw[hs]at e1;refine⟨_,_,rfl,?_,.cl (.int (i:Int)),.cl (j3 t),rfl⟩;rw[Wv,hs,uDa];have en:ZL (j3 t)=false:=rfl;simp only[Yl];simp[e1,UK,en,z3,pD]) (Z:=[.bo (jf C b),.bo (j3 s),.ow none (.lst ((VN b s 0).map pD)),.un,.un]) ⟨.un,.un,rfl⟩
 rw[show(Jf 0 b.kinds.length).length=b.kinds.length by simp[Jf]]at L1;simp only[JU,vM];have e0:(VN b s 0).map pD=[]:=rfl;rw[e0]at L1;simp[z1,L1];rfl
def YN(b:Bk)(ss:List Sd):List Sd:=(ss.flatMap fun s=>(jd b s).map (·.2)).foldl jB []
def ja(b:Bk)(s:Sd):Nat->List Sd
 | 0=>[s]
 | n+1=>YN b (ja b s n)
def JG(b:Bk)(s:Sd):D:=.lst ((jd b s).map pD)
def JL(b:Bk)(ss:List Sd):D:=.dct (ss.map j3) (ss.map (JG b))
noncomputable def Va:Sd->D:=fun _=>.bl true
def vT{b:Bk}{s t:Sd}{c:Nat}(X:Fit b s)(hc:c < b.kinds.length)(h:y9 b s (c:Int)=some t):Fit b t/\t.place=s.place+1/\s.place < b.size:=by
 obtain⟨_,rfl,h3⟩:=kl h;exact⟨X.next ⟨by lia,by lia⟩,rfl,h3⟩
def zW{b:Bk}{ss:List Sd}{t:Sd}:t∈YN b ss↔∃s∈ss,∃p∈jd b s,p.2=t:=by
 unfold YN;rw[Yg];simp[List.mem_flatMap]
def C6(b:Bk)(ss:List Sd):(YN b ss).Nodup:=qI List.nodup_nil
theorem EJ(b:Bk)(s:Sd):∀n,(ja b s n).Nodup
 | 0=>by simp[ja]
 | n+1=>C6 b _
theorem Yo{b:Bk}{s:Sd}(X:Fit b s):∀n,∀t∈ja b s n,Fit b t/\t.place=s.place+n/\(0 < n->t.place<=b.size)
 | 0,t,h=>by
  simp[ja]at h;subst h;exact⟨X,by simp,fun z=>vDa z (by lia)⟩
 | n+1,t,h=>by
  obtain⟨u,hu,p,hp,rfl⟩:=zW.mp h;obtain⟨c,hc,e1,e2⟩:=gh hp;obtain⟨f1,f2,f3⟩:=Yo X n u hu;obtain⟨g1,g2,g3⟩:=vT f1 hc e2;exact⟨g1,by rw[g2,f2];lia,fun _=>by rw[g2];lia⟩
def qJ{b:Bk}{s:Sd}(X:Fit b s){n:Nat}(h:b.size < s.place+n):ja b s (n+1)=[]:=by
 rw[List.eq_nil_iff_forall_not_mem];intro t ht;have:=(Yo X (n+1) t ht).2;have h1:=this.1;have h2:=this.2 (by lia)
 lia
theorem Hm(C:Addr)(b:Bk)(r0 r1 r2 r3 r4 r6:Sl)(ps:List (Int×Sd))(l:List Sd)(hl:(l++ps.map (·.2)).length < 10000000 \/ ((ps.map (·.2)).foldl jB l).length < 10000000)(x7 x8:Sl):∃y7 y8:Sl,jP zt (yk C) (ps.map pD) [r0,r1,r2,r3,r4,.ow none (.dct (l.map j3) (l.map Va)),r6,x7,x8]=
  some (.nx [r0,r1,r2,r3,r4,.ow none (.dct (((ps.map (·.2)).foldl jB l).map j3) (((ps.map (·.2)).foldl jB l).map Va)),r6,y7,y8]):=by
 induction ps generalizing l x7 x8 with
 | nil=>exact⟨x7,x8,rfl⟩
 | cons p ps ih=>
  have hlen:l.length < sizeLine:=by
   have:=zV ((p::ps).map (·.2)) l;have e:(10000000:Nat) < sizeLine:=by decide
   rcases hl with hl | hl
   ·simp at hl;lia
   ·lia
  have e1:yk C [r0,r1,r2,r3,r4,.ow none (.dct (l.map j3) (l.map Va)),r6,.cl (.int p.1),.cl (j3 p.2)]=some (.nx [r0,r1,r2,r3,r4,.ow none (.dct ((jB l p.2).map j3) ((jB l p.2).map Va)),r6,.cl (.int p.1),.cl (j3 p.2)]):=by
   unfold yk;rw[UO (l:=l) (f:=Va) (s:=p.2) (q:=none) rfl rfl rfl hlen];rfl
  obtain⟨y7,y8,e2⟩:=ih (jB l p.2) (by
   have:=ut l p.2;rcases hl with hl | hl
   ·left;simp at hl⊢;lia
   ·right;exact hl) (.cl (.int p.1)) (.cl (j3 p.2))
  refine⟨y7,y8,?_⟩;rw[vWa,vWa,List.foldl_cons,jP];have e0:zt (pD p) [r0,r1,r2,r3,r4,.ow none (.dct (l.map j3) (l.map Va)),r6,x7,x8]=some [r0,r1,r2,r3,r4,.ow none (.dct (l.map j3) (l.map Va)),r6,.cl (.int p.1),.cl (j3 p.2)]:=rfl;rw[e0];show(yk C _).bind _=_;rw[e1];exact e2
def Ar(xs ys l:List Sd):(xs.foldl jB l).length<=((xs++ys).foldl jB l).length:=by
 rw[List.foldl_append];exact(zV ys _).1
theorem Hn(C:Addr)(b:Bk)(ok:OkB b)(r1 r2 r3:Sl)(all:List Sd)(hfit:∀t∈all,Fit b t)(hnd:all.Nodup)(hb:(YN b all).length < 10000000)(ha:all.length < 10000000):∀(ss pre:List Sd),pre++ss=all->∀x6 x7 x8:Sl,∃y6 y7 y8:Sl,
  jP zu (yl C) (ss.map j3) [.bo (jf C b),r1,r2,r3,.ow none (.dct (pre.map j3) (pre.map (JG b))),.ow none (.dct (((pre.flatMap fun s=>(jd b s).map (·.2)).foldl jB []).map j3) (((pre.flatMap fun s=>(jd b s).map (·.2)).foldl jB []).map Va)),x6,x7,x8]=
  some (.nx [.bo (jf C b),r1,r2,r3,.ow none (.dct (all.map j3) (all.map (JG b))),.ow none (.dct ((YN b all).map j3) ((YN b all).map Va)),y6,y7,y8]):=by
 intro ss;induction ss with
 | nil=>
  intro pre e x6 x7 x8;rw[uFa]at e;subst e;exact⟨x6,x7,x8,rfl⟩
 | cons s ss ih=>
  intro pre e x6 x7 x8;have hs:s∈all:=by rw[<-e];simp
  have X:=hfit s hs;have e1:=uu C b s ok X;have hp:pre.length < sizeLine:=by
   have:pre.length<=all.length:=by rw[<-e];simp
   have e:(10000000:Nat) < sizeLine:=by decide
   lia
  have hins:jB pre s=pre++[s]:=by
   unfold jB;rw[if_neg];intro z;rw[<-e,List.nodup_append]at hnd;exact hnd.2.2 s z s wNa rfl
  have hf:(((jd b s).map (·.2)).foldl jB ((pre.flatMap fun s=>(jd b s).map (·.2)).foldl jB []))=(((pre++[s]).flatMap fun s=>(jd b s).map (·.2)).foldl jB []):=by
   rw[List.flatMap_append,List.foldl_append];simp
  obtain⟨y7,y8,e2⟩:=Hm C b (.bo (jf C b)) r1 r2 r3 (.ow none (.dct ((pre++[s]).map j3) ((pre++[s]).map (JG b)))) (.cl (j3 s)) (jd b s) ((pre.flatMap fun s=>(jd b s).map (·.2)).foldl jB []) (by
   right;rw[hf];refine Nat.lt_of_le_of_lt ?_ hb;have e9:all=(pre++[s])++ss:=by rw[<-e];simp
   unfold YN;rw[e9,List.flatMap_append (xs:=pre++[s]) (ys:=ss)];exact Ar _ _ _) x7 x8
  rw[hf]at e2;obtain⟨z6,z7,z8,e3⟩:=ih (pre++[s]) (by rw[<-e];simp) (.cl (j3 s)) y7 y8;refine⟨z6,z7,z8,?_⟩;rw[vWa,jP];show(yl C _).bind _=_;have e4:yl C [.bo (jf C b),r1,r2,r3,.ow none (.dct (pre.map j3) (pre.map (JG b))),.ow none (.dct (((pre.flatMap fun s=>(jd b s).map (·.2)).foldl jB []).map j3) (((pre.flatMap fun s=>(jd b s).map (·.2)).foldl jB []).map Va)),.cl (j3 s),x7,x8]=
    some (.nx [.bo (jf C b),r1,r2,r3,.ow none (.dct ((pre++[s]).map j3) ((pre++[s]).map (JG b))),.ow none (.dct ((((pre++[s]).flatMap fun s=>(jd b s).map (·.2)).foldl jB []).map j3) ((((pre++[s]).flatMap fun s=>(jd b s).map (·.2)).foldl jB []).map Va)),.cl (j3 s),y7,y8]):=by
   unfold yl;rw[j0,UO (l:=pre) (f:=JG b) (s:=s) (q:=none) rfl (by simp[e1,JG]) rfl hp,hins];have g:yb (.dct ((pre++[s]).map j3) ((pre++[s]).map (JG b))) (j3 s)=some (JG b s):=YC (by simp);simp only[Option.bind_some,jR,jU,d2,dV,List.set_cons_succ,List.set_cons_zero,List.getElem?_cons_succ,List.getElem?_cons_zero,OD.toD,g];rw[JG,xj,uEa];exact e2
  have e5:zu (j3 s) [.bo (jf C b),r1,r2,r3,.ow none (.dct (pre.map j3) (pre.map (JG b))),.ow none (.dct (((pre.flatMap fun s=>(jd b s).map (·.2)).foldl jB []).map j3) (((pre.flatMap fun s=>(jd b s).map (·.2)).foldl jB []).map Va)),x6,x7,x8]=some [.bo (jf C b),r1,r2,r3,.ow none (.dct (pre.map j3) (pre.map (JG b))),.ow none (.dct (((pre.flatMap fun s=>(jd b s).map (·.2)).foldl jB []).map j3) (((pre.flatMap fun s=>(jd b s).map (·.2)).foldl jB []).map Va)),.cl (j3 s),x7,x8]:=rfl;simp only[List.set_cons_succ,List.set_cons_zero];rw[e4];exact e3
structure Lim (b:Bk) (s:Sd):Prop where
 fit:Fit b s
 p0:0<=s.place
 p1:s.place<=b.size
 tot:∀n,((List.range n).flatMap (ja b s)).length < 10000000
def Lim.len{b:Bk}{s:Sd}(L:Lim b s)(n:Nat):(ja b s n).length < 10000000:=by
 have:=L.tot (n+1);rw[List.range_succ,List.flatMap_append]at this;simp at this
 lia
def ye(b:Bk)(s:Sd)(n:Nat):List D:=(List.range n).map fun j=>JL b (ja b s j)
def UP(b:Bk)(s:Sd)(n:Nat):ye b s (n+1)=ye b s n++[JL b (ja b s n)]:=by
 unfold ye;rw[List.range_succ,uDa];rfl
def Gu(b:Bk)(s:Sd)(n:Nat):(ye b s n).length=n:=by simp[ye]
def Ho(C:Addr)(b:Bk)(ok:OkB b)(s:Sd)(L:Lim b s)(n:Nat)(hn:n<=1000)(x4 x5 x6 x7 x8:Sl):∃y4 y5 y6 y7 y8:Sl,Y6 C [.bo (jf C b),.cl (j3 s),.ow none (.lst (ye b s n)),.cl (.lst ((ja b s n).map j3)),x4,x5,x6,x7,x8]=
  some (.nx [.bo (jf C b),.cl (j3 s),.ow none (.lst (ye b s (n+1))),.cl (.lst ((ja b s (n+1)).map j3)),y4,y5,y6,y7,y8]):=by
 obtain⟨y6,y7,y8,e⟩:=Hn C b ok (.cl (j3 s)) (.ow none (.lst (ye b s n))) (.cl (.lst ((ja b s n).map j3))) (ja b s n) (fun t ht=>(Yo L.fit n t ht).1) (EJ b s n) (L.len (n+1)) (L.len n) (ja b s n) [] rfl x6 x7 x8;have z:(ye b s n).length < sizeLine:=by rw[Gu];exact jo (by lia)
 simp only[List.map_nil,List.flatMap_nil,List.foldl_nil]at e;refine⟨.cl (JL b (ja b s n)),.ow none (.dct ((YN b (ja b s n)).map j3) ((YN b (ja b s n)).map Va)),y6,y7,y8,?_⟩;rw[UP];simp only[Y6];simp[e,z,ze,JL,ja]
noncomputable def IS(Z:jk):Nat:=match Z[2]? with
 | some (Sl.ow _ (OD.lst l))=>100 - l.length
 | _=>0
def Vb(C:Addr)(b:Bk)(ok:OkB b)(s:Sd)(L:Lim b s):∃n,yT C [jf C b,j3 s]=some (.lst (ye b s n))/\n<=32/\ja b s n=[]/\∀j,j < n->ja b s j≠[]:=by
 have s2:=ok.s2;obtain⟨Z1,W1,⟨n,hn,hne,y4,y5,y6,y7,y8,rfl⟩,hq⟩:=k9 (dt:=V7 C) (s:=Y6 C)
  (fun Z=>∃n,n<=32/\(∀j,j < n->ja b s j≠[])/\∃y4 y5 y6 y7 y8:Sl,Z=[.bo (jf C b),.cl (j3 s),.ow none (.lst (ye b s n)),.cl (.lst ((ja b s n).map j3)),y4,y5,y6,y7,y8])
  (fun Z=>IS Z) (by
   rintro Z ⟨n,hn,hne,y4,y5,y6,y7,y8,rfl⟩;by_cases h:ja b s n=[]
   ·left;rw[h];rfl
   ·right;have hn':n < 32:=by
     have h1:=L.p0;by_cases q:n < 32
     ·exact q
     ·have e:n=31+1:=by lia
      subst e;exact vDa (qJ L.fit (by lia)) h
    obtain⟨z4,z5,z6,z7,z8,e⟩:=Ho C b ok s L n (by lia) y4 y5 y6 y7 y8;refine⟨?_,_,e,⟨n+1,by lia,(fun j hj=>by
     by_cases q:j < n
     ·exact hne j q
     ·rw[show j=n by lia];exact h),z4,z5,z6,z7,z8,rfl⟩,?_⟩
    ·cases hl:ja b s n with
     | nil=>exact vDa hl h
     | cons a l=>rfl
    ·show 100 - (ye b s (n+1)).length < 100 - (ye b s n).length;rw[Gu,Gu]
     lia) (n:=20000) (Z:=[.bo (jf C b),.cl (j3 s),.ow none (.lst (ye b s 0)),.cl (.lst ((ja b s 0).map j3)),.un,.un,.un,.un,.un]) ⟨0,by lia,(fun j hj=>vDa hj (Nat.not_lt_zero _)),.un,.un,.un,.un,.un,rfl⟩ (by show 100 - (ye b s 0).length < 20000;lia)
 have e:ja b s n=[]:=by
  cases hl:ja b s n with
  | nil=>rfl
  | cons a l=>rw[hl]at hq;cases hq
 refine⟨n,?_,hn,e,hne⟩;simp only[yT,ZF];have e0:ye b s 0=[]:=rfl;have e1:(ja b s 0).map j3=[j3 s]:=rfl;rw[e0,e1]at W1;simp[W1]
def Ww(b:Bk)(t:Sd):D:=.tup [j3 t,JG b t]
theorem UQ(b:Bk):∀l:List Sd,List.zipWith (fun k v=>D.tup [k,v]) (l.map j3) (l.map (JG b))=l.map (Ww b)
 | []=>rfl
 | s::l=>by rw[vWa,vWa,List.zipWith_cons_cons,UQ b l];rfl
def K5(b:Bk):Nat->Sd->Int
 | 0,_=>1
 | f+1,s=>((jd b s).map fun p=>K5 b f p.2).sum
def JM(b:Bk)(s:Sd):Int:=K5 b (b.size - s.place).toNat s
def cD(b:Bk)(s:Sd):D:=.int (JM b s)
def C7{b:Bk}{s:Sd}(h:s.place=b.size):JM b s=1:=by
 unfold JM;rw[h,Int.sub_self];rfl
def Wx{b:Bk}{s:Sd}(X:Fit b s)(h:s.place < b.size):JM b s=((jd b s).map fun p=>JM b p.2).sum:=by
 have e:(b.size - s.place).toNat=(b.size - (s.place+1)).toNat+1:=by lia
 unfold JM;rw[e,K5];congr 1;refine List.map_congr_left fun p hp=>?_;obtain⟨c,hc,e1,e2⟩:=gh hp;rw[(vT X hc e2).2.1]
theorem Wy{α:Type}(f:α->Int):∀l:List α,ZU (l.map fun x=>D.int (f x))=some (l.map f)
 | []=>rfl
 | x::l=>by rw[vWa,ZU,Wy f l];rfl
def C8(C:Addr)(b:Bk)(ok:OkB b)(r1 x3:Sl)(t:Sd)(X:Fit b t)(hp:t.place<=b.size)(l:List Sd)(hl:l.length < 10000000)(hs:∀p∈jd b t,p.2∈l):
  ym C [.bo (jf C b),r1,.ow none (.dct (l.map j3) (l.map (cD b))),x3,.cl (j3 t),.cl (JG b t)]=some (.nx [.bo (jf C b),r1,.ow none (.dct ((jB l t).map j3) ((jB l t).map (cD b))),x3,.cl (j3 t),.cl (JG b t)]):=by
 have hl':l.length < sizeLine:=by
  have e:(10000000:Nat) < sizeLine:=by decide
  lia
 have ef:jV C "size" (jf C b)=some (.int b.size):=by simp[jV,jf]
 unfold ym;rw[jc];by_cases h:t.place=b.size
 ·have e0:jg (d2 jt (d2 j6 (dV 4) (dK (.int 0))) (d1 (jV C "size") (dV 0))) [.bo (jf C b),r1,.ow none (.dct (l.map j3) (l.map (cD b))),x3,.cl (j3 t),.cl (JG b t)]=some true:=by
   simp[ef,h]
  rw[e0];simp only[Option.bind_some,if_true];rw[UO (l:=l) (f:=cD b) (s:=t) (q:=none) rfl (by simp[cD,C7 h]) rfl hl'];rfl
 ·have e0:jg (d2 jt (d2 j6 (dV 4) (dK (.int 0))) (d1 (jV C "size") (dV 0))) [.bo (jf C b),r1,.ow none (.dct (l.map j3) (l.map (cD b))),x3,.cl (j3 t),.cl (JG b t)]=some false:=by
   simp[ef,h]
  have e1:Jm (gT 2 (gC (gN 0) (gC (gN 1) gZ))) jW (d2 yb (dV 2) (dV 1)) ((jd b t).map pD) [.un,.un,.ow none (.dct (l.map j3) (l.map (cD b)))]=some ((jd b t).map fun p=>cD b p.2):=
   Jp pD _ fun p hq=>⟨[.cl (.int p.1),.cl (j3 p.2),.ow none (.dct (l.map j3) (l.map (cD b)))],rfl,rfl,by
    have:=YC (f:=cD b) (hs p hq);simp[this]⟩
  have e2:(jd b t).length<=sizeLine:=wSa (VO b t _) (wQa (jo (by have:=ok.k2;lia)));rw[e0];simp only[Option.bind_some,Bool.false_eq_true,if_false];rw[UO (l:=l) (f:=cD b) (s:=t) (q:=none) rfl (by
   simp only[JG];simp[e1,e2];show(ZU ((jd b t).map fun p=>cD b p.2)).bind _=_;unfold cD;rw[Wy fun p:Int×Sd=>JM b p.2];rw[Wx X (by lia)];rfl) rfl hl']
  rfl
theorem qK(C:Addr)(b:Bk)(ok:OkB b)(r1 x3:Sl)(up:List Sd):∀(ts l:List Sd),(∀t∈ts,Fit b t/\t.place<=b.size/\∀p∈jd b t,p.2∈up)->(∀t∈up,t∈l)->l.length+ts.length < 10000000->∀x4 x5:Sl,∃y4 y5:Sl,
  jP zw (ym C) (ts.map (Ww b)) [.bo (jf C b),r1,.ow none (.dct (l.map j3) (l.map (cD b))),x3,x4,x5]=
  some (.nx [.bo (jf C b),r1,.ow none (.dct ((ts.foldl jB l).map j3) ((ts.foldl jB l).map (cD b))),x3,y4,y5])
 | [],l,_,_,_,x4,x5=>⟨x4,x5,rfl⟩
 | t::ts,l,h,hu,hl,x4,x5=>by
  obtain⟨f1,f2,f3⟩:=h t wNa;have hlen:=ut l t;rw[vXa]at hl;have e1:=C8 C b ok r1 x3 t f1 f2 l (by lia) fun p hp=>hu _ (f3 p hp);obtain⟨y4,y5,e2⟩:=qK C b ok r1 x3 up ts (jB l t) (fun u hu=>h u (wMa _ hu)) (fun u hv=>Gs.mpr (.inl (hu u hv))) (by lia) (.cl (j3 t)) (.cl (JG b t));refine⟨y4,y5,?_⟩;rw[vWa,List.foldl_cons,jP];have e0:zw (Ww b t) [.bo (jf C b),r1,.ow none (.dct (l.map j3) (l.map (cD b))),x3,x4,x5]=some [.bo (jf C b),r1,.ow none (.dct (l.map j3) (l.map (cD b))),x3,.cl (j3 t),.cl (JG b t)]:=rfl;rw[e0];show(ym C _).bind _=_;rw[e1];exact e2
theorem K6(C:Addr)(b:Bk)(ok:OkB b)(s:Sd)(L:Lim b s)(r1:Sl):∀(m:Nat) (l:List Sd),(∀t∈ja b s m,t∈l)->l.length+((List.range m).flatMap (ja b s)).length < 10000000->∀x3 x4 x5:Sl,∃(l':List Sd) (y3 y4 y5:Sl),
  jP zx (yn C) (ye b s m).reverse [.bo (jf C b),r1,.ow none (.dct (l.map j3) (l.map (cD b))),x3,x4,x5]=
  some (.nx [.bo (jf C b),r1,.ow none (.dct (l'.map j3) (l'.map (cD b))),y3,y4,y5])/\(∀t∈l,t∈l')/\∀j,j<=m->∀t∈ja b s j,t∈l'
 | 0,l,h,_,x3,x4,x5=>⟨l,x3,x4,x5,rfl,fun t ht=>ht,fun j hj t ht=>by
  have e:j=0:=by lia
  subst e;exact h t ht⟩
 | m+1,l,h,hl,x3,x4,x5=>by
  rw[List.range_succ,List.flatMap_append,vZa]at hl;simp only[List.flatMap_cons,List.flatMap_nil,List.append_nil]at hl;obtain⟨y4,y5,e1⟩:=qK C b ok r1 (.cl (JL b (ja b s m))) (ja b s (m+1)) (ja b s m) l (fun t ht=>⟨(Yo L.fit m t ht).1,by
   by_cases q:0 < m
   ·exact(Yo L.fit m t ht).2.2 q
   ·have:=(Yo L.fit m t ht).2.1;have:=L.p1
    lia,fun p hp=>zW.mpr ⟨t,ht,p,hp,rfl⟩⟩) h (by lia) x4 x5
  have hf:=zV (ja b s m) l;obtain⟨l',z3,z4,z5,e2,e3,e6⟩:=K6 C b ok s L r1 m ((ja b s m).foldl jB l) (fun t ht=>Yg.mpr (.inr ht)) (by lia) (.cl (JL b (ja b s m))) y4 y5;refine⟨l',z3,z4,z5,?_,fun t ht=>e3 t (Yg.mpr (.inl ht)),fun j hj t ht=>?_⟩
  rotate_left
  ·by_cases q:j<=m
   ·exact e6 j q t ht
   ·have e:j=m+1:=by lia
    subst e;exact e3 t (Yg.mpr (.inl (h t ht)))
  rw[UP,List.reverse_append,List.reverse_singleton,List.singleton_append,jP];have e0:zx (JL b (ja b s m)) [.bo (jf C b),r1,.ow none (.dct (l.map j3) (l.map (cD b))),x3,x4,x5]=some [.bo (jf C b),r1,.ow none (.dct (l.map j3) (l.map (cD b))),.cl (JL b (ja b s m)),x4,x5]:=rfl;have e4:yn C [.bo (jf C b),r1,.ow none (.dct (l.map j3) (l.map (cD b))),.cl (JL b (ja b s m)),x4,x5]=some (.nx [.bo (jf C b),r1,.ow none (.dct ((((ja b s m)).foldl jB l).map j3) ((((ja b s m)).foldl jB l).map (cD b))),.cl (JL b (ja b s m)),y4,y5]):=by
   unfold yn;rw[jR];have e5:Zi (dP 3) [.bo (jf C b),r1,.ow none (.dct (l.map j3) (l.map (cD b))),.cl (JL b (ja b s m)),x4,x5]=some ((ja b s m).map (Ww b)):=by
    rw[Zi];show VA (JL b (ja b s m))=_;rw[JL,Km,UQ]
   rw[e5,uEa];exact e1
  rw[e0];show(yn C _).bind _=_;rw[e4];exact e2
def Ks(C:Addr)(b:Bk)(ok:OkB b)(s:Sd)(L:Lim b s):∃l:List Sd,Jn C [jf C b,j3 s]=some (.dct (l.map j3) (l.map (cD b)))/\s∈l/\∀p∈jd b s,p.2∈l:=by
 obtain⟨n,e1,_,e2,_⟩:=Vb C b ok s L;obtain⟨l,y3,y4,y5,e3,_,e4⟩:=K6 C b ok s L (.cl (j3 s)) n [] (fun t ht=>by rw[e2]at ht;cases ht) (by have:=L.tot n;simpa using this) .un .un .un;have h0:s∈ja b s 0:=by simp[ja]
 have hn:0 < n:=by
  cases n with
  | zero=>rw[e2]at h0;cases h0
  | succ n=>lia
 refine⟨l,?_,e4 0 (by lia) s h0,fun p hp=>e4 1 hn p.2 (zW.mpr ⟨s,h0,p,hp,rfl⟩)⟩;simp only[Jn,YL];rw[uJa,uJa]at e3;simp[e1,vZ,e3]
def C9(C:Addr)(b:Bk)(ok:OkB b)(row:List Int)(h:Jw b row){s:Sd}(hw:jz b (ju b) row=(s,none))(L:Lim b s):VI C [jf C b,.lst (row.map .int)]=some (.ok (.int (JM b s))):=by
 have e1:=Jl C b row ok h hw;obtain⟨l,e2,e3,_⟩:=Ks C b ok s L;have e4:=YC (f:=cD b) e3;simp only[VI,ka];simp[e1,e2,e4,cD]
def As{b:Bk}(ok:OkB b)(ss:List Sd):(YN b ss).length<=4 * ss.length:=by
 have h1:=(zV (ss.flatMap fun s=>(jd b s).map (·.2)) []).2;have h2:∀ss:List Sd,(ss.flatMap fun s=>(jd b s).map (·.2)).length<=4 * ss.length:=fun ss=>by
  induction ss with
  | nil=>simp
  | cons s ss ih=>
   have:=VO b s b.kinds.length;have:=ok.k2;have e:(jd b s).length=(VN b s b.kinds.length).length:=rfl;rw[List.flatMap_cons,vZa,vYa,vXa]
   lia
 have:=h2 ss;rw[List.length_nil,Nat.zero_add]at h1;exact wSa h1 this
theorem qL{b:Bk}(ok:OkB b)(s:Sd):∀n,(ja b s n).length<=4 ^ n
 | 0=>by simp[ja]
 | n+1=>by
  have h1:=qL ok s n;have h2:=As ok (ja b s n);rw[ja,Nat.pow_succ]
  lia
theorem qM{b:Bk}(ok:OkB b)(h9:b.size<=9){s:Sd}(X:Fit b s)(p0:0<=s.place):∀n,((List.range n).flatMap (ja b s)).length<=4 ^ (min n 11)
 | 0=>by simp
 | n+1=>by
  have ih:=qM ok h9 X p0 n;rw[List.range_succ,List.flatMap_append,vZa];simp only[List.flatMap_cons,List.flatMap_nil,List.append_nil];by_cases h:n < 11
  ·have:=qL ok s n;rw[Nat.min_eq_left (by lia)]at ih⊢;rw[Nat.pow_succ]
   lia
  ·obtain⟨k,rfl⟩:∃k,n=k+1:=⟨n - 1,by lia⟩
   have e:ja b s (k+1)=[]:=qJ X (by lia);rw[e,Nat.min_eq_right (by lia)]at *;simpa using ih
def IT{b:Bk}(ok:OkB b)(h9:b.size<=9){s:Sd}(X:Fit b s)(p0:0<=s.place)(n:Nat):((List.range n).flatMap (ja b s)).length<=4194304:=wSa (qM ok h9 X p0 n) (Nat.pow_le_pow_right (by decide) (Nat.min_le_right n 11))
def vU{b:Bk}(ok:OkB b)(h9:b.size<=9){row:List Int}(h:Jw b row){s:Sd}(hw:jz b (ju b) row=(s,none)):Lim b s:=by
 have R:=StOf.all h.1 hw;have pl:=R.pl;have h2:=h.2;exact⟨R.fo.toFit,by lia,by lia,fun n=>by have:=IT ok h9 R.fo.toFit (by lia) n;lia⟩
def cs(b:Bk)(ps:List (Int×Sd)):Int:=(ps.map fun p=>JM b p.2).sum
def qN(b:Bk)(p:Int×Sd)(ps:List (Int×Sd)):cs b (p::ps)=JM b p.2+cs b ps:=by
 unfold cs;rw[vWa,List.sum_cons]
theorem Wz(b:Bk):∀(f:Nat) (s:Sd),0<=K5 b f s
 | 0,s=>by rw[K5];decide
 | f+1,s=>by
  rw[K5];generalize jd b s=ps;induction ps with
  | nil=>simp
  | cons p ps ih=>
   have:=Wz b f p.2;rw[vWa,List.sum_cons]
   lia
def Ca(b:Bk)(s:Sd):0<=JM b s:=Wz b _ s
def kq(b:Bk):List (Int×Sd)->Int->Option ((Int×Sd)×Int)
 | [],_=>none
 | p::ps,x=>if x < JM b p.2 then some (p,x)else kq b ps (x - JM b p.2)
theorem qO(b:Bk):∀(ps:List (Int×Sd)) (x:Int),0<=x->x < cs b ps->∃pre p post y,ps=pre++p::post/\kq b ps x=some (p,y)/\0<=y/\y < JM b p.2/\x=cs b pre+y
 | [],x,h0,h1=>by simp[cs]at h1;lia
 | p::ps,x,h0,h1=>by
  rw[qN]at h1;by_cases c:x < JM b p.2
  ·exact⟨[],p,ps,x,rfl,by rw[kq,if_pos c],h0,c,by simp[cs]⟩
  ·obtain⟨pre,q,post,y,e1,e2,e3,e4,e5⟩:=qO b ps (x - JM b p.2) (by lia) (by lia);exact⟨p::pre,q,post,y,by rw[e1];rfl,by rw[kq,if_neg c];exact e2,e3,e4,by rw[qN];lia⟩
def Xm(b:Bk):Nat->Sd->Int->List Int
 | 0,_,_=>[]
 | f+1,s,x=>match kq b (jd b s) x with
  | some (p,y)=>p.1::Xm b f p.2 y
  | none=>[]
theorem WA{b:Bk}{s:Sd}{n:Nat}(h:ja b s n=[]):∀m,ja b s (n+m)=[]
 | 0=>h
 | m+1=>by
  show YN b (ja b s (n+m))=[]
  rw[WA h m];rfl
def kr(C:Addr)(b:Bk)(ok:OkB b)(s:Sd)(L:Lim b s):∃l:List Sd,Jn C [jf C b,j3 s]=some (.dct (l.map j3) (l.map (cD b)))/\∀j,∀t∈ja b s j,t∈l:=by
 obtain⟨n,e1,_,e2,_⟩:=Vb C b ok s L;obtain⟨l,y3,y4,y5,e3,_,e4⟩:=K6 C b ok s L (.cl (j3 s)) n [] (fun t ht=>by rw[e2]at ht;cases ht) (by have:=L.tot n;simpa using this) .un .un .un;refine⟨l,?_,fun j t ht=>?_⟩
 ·simp only[Jn,YL];rw[uJa,uJa]at e3;simp[e1,vZ,e3]
 ·by_cases q:j<=n
  ·exact e4 j q t ht
  ·obtain⟨m,rfl⟩:∃m,j=n+m:=⟨j - n,by lia⟩
   rw[WA e2 m]at ht;cases ht
def oV:Option ((Int×Sd)×Int)->D
 | some (p,y)=>.tup [.int p.1,j3 p.2,.int y]
 | none=>.non
theorem qP(C:Addr)(b:Bk)(l:List Sd)(r0 r1 r3:Sl):∀(ps:List (Int×Sd)),(∀p∈ps,p.2∈l)->∀(x:Int) (x5 x6:Sl),∃y4 y5 y6:Sl,
  jP zy (Jv C) (ps.map pD) [r0,r1,.bo (.dct (l.map j3) (l.map (cD b))),r3,.cl (.int x),x5,x6]=
  match kq b ps x with
  | some q=>some (.rt (oV (some q)))
  | none=>some (.nx [r0,r1,.bo (.dct (l.map j3) (l.map (cD b))),r3,y4,y5,y6])
 | [],_,x,x5,x6=>⟨.cl (.int x),x5,x6,rfl⟩
 | p::ps,h,x,x5,x6=>by
  have g:=YC (f:=cD b) (h p wNa);obtain⟨y4,y5,y6,e⟩:=qP C b l r0 r1 r3 ps (fun q hq=>h q (wMa _ hq)) (x - JM b p.2) (.cl (.int p.1)) (.cl (j3 p.2));refine⟨y4,y5,y6,?_⟩;rw[vWa,jP,kq];have e0:zy (pD p) [r0,r1,.bo (.dct (l.map j3) (l.map (cD b))),r3,.cl (.int x),x5,x6]=some [r0,r1,.bo (.dct (l.map j3) (l.map (cD b))),r3,.cl (.int x),.cl (.int p.1),.cl (j3 p.2)]:=rfl;rw[e0];show(Jv C _).bind _=_;by_cases c:x < JM b p.2
  ·have e1:Jv C [r0,r1,.bo (.dct (l.map j3) (l.map (cD b))),r3,.cl (.int x),.cl (.int p.1),.cl (j3 p.2)]=some (.rt (oV (some (p,x)))):=by
    simp only[Jv];simp[g,cD,yj,c,oV]
   rw[e1,if_pos c];rfl
  ·have e1:Jv C [r0,r1,.bo (.dct (l.map j3) (l.map (cD b))),r3,.cl (.int x),.cl (.int p.1),.cl (j3 p.2)]=some (.nx [r0,r1,.bo (.dct (l.map j3) (l.map (cD b))),r3,.cl (.int (x - JM b p.2)),.cl (.int p.1),.cl (j3 p.2)]):=by
    simp only[Jv];simp[g,cD,yj,c]
   rw[e1,if_neg c];exact e
def Au(C:Addr)(b:Bk)(ok:OkB b)(s:Sd)(X:Fit b s)(l:List Sd)(hl:∀p∈jd b s,p.2∈l)(x:Int):ZH C [jf C b,j3 s,.dct (l.map j3) (l.map (cD b)),.int x]=some (oV (kq b (jd b s) x)):=by
 have e5:=uu C b s ok X;obtain⟨y4,y5,y6,e⟩:=qP C b l (.bo (jf C b)) (.bo (j3 s)) (.cl (.int x)) (jd b s) hl x .un .un;simp only[ZH,ZG];cases hv:kq b (jd b s) x with
 | none=>rw[hv]at e;simp[e5,e,oV]
 | some q=>rw[hv]at e;simp[e5,e]
theorem qQ(C:Addr)(b:Bk)(ok:OkB b)(s0:Sd)(l:List Sd)(hl:∀j,∀t∈ja b s0 j,t∈l)(r1 r3:Sl):∀(m n:Nat) (r:List Int) (t:Sd) (j:Nat) (y:Int),(r.length:Int)+(m:Int)=b.size->m < n->Fit b t->t.place=(r.length:Int)->t∈ja b s0 j->0<=y->y < JM b t->∀x7:Sl,∃y5 y6 y7:Sl,
  Zg (yD C) (zA C) n [.bo (jf C b),r1,.bo (.dct (l.map j3) (l.map (cD b))),r3,.ow none (.lst (r.map .int)),.cl (j3 t),.cl (.int y),x7]=
  some (.nx [.bo (jf C b),r1,.bo (.dct (l.map j3) (l.map (cD b))),r3,.ow none (.lst ((r++Xm b m t y).map .int)),y5,y6,y7])
 | m,0,_,_,_,_,_,hn,_,_,_,_,_,x7=>vDa hn (Nat.not_lt_zero _)
 | 0,n+1,r,t,j,y,hm,hn,X,hp,ht,h0,h1,x7=>by
  have ef:jV C "size" (jf C b)=some (.int b.size):=by simp[jV,jf]
  have hq:yD C [.bo (jf C b),r1,.bo (.dct (l.map j3) (l.map (cD b))),r3,.ow none (.lst (r.map .int)),.cl (j3 t),.cl (.int y),x7]=some false:=by
   have:¬(r.length:Int) < b.size:=by lia
   simp only[yD];simp[ef,yj,this]
  refine⟨.cl (j3 t),.cl (.int y),x7,?_⟩;rw[Zg,hq,Xm,uFa];rfl
 | m+1,n+1,r,t,j,y,hm,hn,X,hp,ht,h0,h1,x7=>by
  have s2:=ok.s2;have ef:jV C "size" (jf C b)=some (.int b.size):=by simp[jV,jf]
  have hq:yD C [.bo (jf C b),r1,.bo (.dct (l.map j3) (l.map (cD b))),r3,.ow none (.lst (r.map .int)),.cl (j3 t),.cl (.int y),x7]=some true:=by
   have:(r.length:Int) < b.size:=by lia
   simp only[yD];simp[ef,yj,this]
  have hst:∀p∈jd b t,p.2∈ja b s0 (j+1):=fun p hp=>zW.mpr ⟨t,ht,p,hp,rfl⟩;have ev:=Au C b ok t X l (fun p hp=>hl _ _ (hst p hp)) y;have e:=Wx (b:=b) X (by lia);rw[e]at h1;obtain⟨pre,p,post,z,e1,e2,e3,e4,e5⟩:=qO b (jd b t) y h0 h1;have hpm:p∈jd b t:=by rw[e1];simp
  obtain⟨c,hc,g1,g2⟩:=gh hpm;have X2:=(vT X hc g2).1;have pl:=(vT X hc g2).2.1;rw[e2]at ev;have zl:r.length < sizeLine:=jo (by lia);have ew:zA C [.bo (jf C b),r1,.bo (.dct (l.map j3) (l.map (cD b))),r3,.ow none (.lst (r.map .int)),.cl (j3 t),.cl (.int y),x7]=some (.nx [.bo (jf C b),r1,.bo (.dct (l.map j3) (l.map (cD b))),r3,.ow none (.lst ((r++[p.1]).map .int)),.cl (j3 p.2),.cl (.int z),.cl (.int p.1)]):=by
   simp only[zA];simp[ev,oV,zl]
  obtain⟨y5,y6,y7,ih⟩:=qQ C b ok s0 l hl r1 r3 m n (r++[p.1]) p.2 (j+1) z (by simp;lia) (by lia) X2 (by simp;lia) (hst p hpm) e3 e4 (.cl (.int p.1));refine⟨y5,y6,y7,?_⟩;rw[Zg,hq,uEa,if_pos rfl,ew];show Zg _ _ n _=_;rw[ih,Xm,e2,List.append_assoc];rfl
def WI(C:Addr)(b:Bk)(ok:OkB b)(row:List Int)(h:Jw b row){s:Sd}(hw:jz b (ju b) row=(s,none))(l:List Sd)(e3:∀j,∀t∈ja b s j,t∈l)(x:Int)(h0:0<=x)(h1:x < JM b s):uk C [jf C b,.lst (row.map .int),.dct (l.map j3) (l.map (cD b)),.int x]=some (.lst ((row++Xm b (b.size - row.length).toNat s x).map .int)):=by
 have R:=StOf.all h.1 hw;have hr2:=h.2;have s2:=ok.s2;have e1:=Jl C b row ok h hw;have hs0:s∈ja b s 0:=by simp[ja]
 have zl:row.length<=sizeLine:=wQa (jo (by lia));obtain⟨y5,y6,y7,e5⟩:=qQ C b ok s l e3 (.bo (.lst (row.map .int))) (.cl (.int x)) (b.size - row.length).toNat 20000 row s 0 x (by lia) (by lia) R.fo.toFit R.pl hs0 h0 h1 .un;simp only[uk,uj];simp[e1,zl,e5]
def Xn(C:Addr)(b:Bk)(ok:OkB b)(h9:b.size<=9)(row:List Int)(h:Jw b row){s:Sd}(hw:jz b (ju b) row=(s,none)):∃d,zQ C [jf C b,.lst (row.map .int)]=some (.ok d):=by
 have e1:=Jl C b row ok h hw;obtain⟨l,e2,e3⟩:=kr C b ok s (vU ok h9 h hw);have hs0:s∈ja b s 0:=by simp[ja]
 have e4:=YC (f:=cD b) (e3 0 s hs0);simp only[zQ,ul];by_cases h0:JM b s=0
 ·exact⟨.non,by simp[e1,e2,e4,cD,h0]⟩
 ·have h1:=Ca b s;have e6:=WI C b ok row h hw l e3 0 (by decide) (by lia);exact⟨_,by simp[e1,e2,e4,cD,h0,e6];rfl⟩
def EK(C:Addr)(b:Bk)(ok:OkB b)(h9:b.size<=9)(row:List Int)(h:Jw b row){s:Sd}(hw:jz b (ju b) row=(s,none)):gb C [jf C b,.lst (row.map .int),.int (-1)]=some (.xc ("NoNumber",[])):=by
 have e1:=Jl C b row ok h hw;obtain⟨l,e2,e3⟩:=kr C b ok s (vU ok h9 h hw);have hs0:s∈ja b s 0:=by simp[ja]
 have e4:=YC (f:=cD b) (e3 0 s hs0);simp only[gb,KN];simp[e1,e2,e4,cD,J5,yj]
noncomputable def YO(bt:Int)(s:Sd):Bool:=decide ((s.place+1) % bt=0)
def gi(b:Bk)(bt:Int):Nat->Sd->Bool
 | 0,_=>true
 | f+1,s=>if YO bt s=true then decide ((jd b s).length > 0)&&(jd b s).all (fun p=>gi b bt f p.2)else(jd b s).any fun p=>gi b bt f p.2
def Y7(b:Bk)(bt:Int)(s:Sd):Bool:=gi b bt (b.size - s.place).toNat s
def hD(b:Bk)(bt:Int)(s:Sd):D:=.bl (Y7 b bt s)
def Av{b:Bk}{bt:Int}{s:Sd}(h:s.place=b.size):Y7 b bt s=true:=by
 unfold Y7;rw[h,Int.sub_self];rfl
theorem kt{α:Type}{f g:α->Bool}:∀{l:List α},(∀x∈l,f x=g x)->l.all f=l.all g/\l.any f=l.any g
 | [],_=>⟨rfl,rfl⟩
 | x::l,h=>by
  obtain⟨h1,h2⟩:=kt fun y hy=>h y (wMa x hy);rw[List.all_cons,List.all_cons,List.any_cons,List.any_cons,h1,h2,h x List.mem_cons_self];exact⟨rfl,rfl⟩
def Xo{b:Bk}{bt:Int}{s:Sd}(X:Fit b s)(h:s.place < b.size):Y7 b bt s=if YO bt s=true then decide ((jd b s).length > 0)&&(jd b s).all (fun p=>Y7 b bt p.2)else(jd b s).any fun p=>Y7 b bt p.2:=by
 have e:(b.size - s.place).toNat=(b.size - (s.place+1)).toNat+1:=by lia
 unfold Y7;rw[e,gi];obtain⟨h1,h2⟩:=kt (f:=fun p:Int×Sd=>gi b bt (b.size - (s.place+1)).toNat p.2) (g:=fun p:Int×Sd=>gi b bt (b.size - p.2.place).toNat p.2) (l:=jd b s) fun p hp=>by
  obtain⟨c,hc,e1,e2⟩:=gh hp;rw[(vT X hc e2).2.1]
 rw[h1,h2]
def Cb(b:Bk)(bt:Int)(l:List (Int×Sd)):Vd (l.map fun p=>hD b bt p.2)=some (l.map fun p=>Y7 b bt p.2):=Yd (fun p:Int×Sd=>Y7 b bt p.2) l
def WB(C:Addr)(bt:Int)(h:0 < bt)(s:Sd):JI C [.int bt,j3 s]=some (.bl (YO bt s)):=by
 simp only[JI,Yx];simp[YO,jF,h]
def EL(C:Addr)(b:Bk)(ok:OkB b)(bt:Int)(hbt:0 < bt)(r2 x4 x7:Sl)(t:Sd)(X:Fit b t)(hp:t.place<=b.size)(l:List Sd)(hl:l.length < 10000000)(hs:∀p∈jd b t,p.2∈l):∃y7:Sl,
  yE C [.bo (jf C b),.bo (.int bt),r2,.ow none (.dct (l.map j3) (l.map (hD b bt))),x4,.cl (j3 t),.cl (JG b t),x7]=some (.nx [.bo (jf C b),.bo (.int bt),r2,.ow none (.dct ((jB l t).map j3) ((jB l t).map (hD b bt))),x4,.cl (j3 t),.cl (JG b t),y7]):=by
 have hl':l.length < sizeLine:=by
  have e:(10000000:Nat) < sizeLine:=by decide
  lia
 have ef:jV C "size" (jf C b)=some (.int b.size):=by simp[jV,jf]
 have e1:Jm (gT 2 (gC (gN 0) (gC (gN 1) gZ))) jW (d2 yb (dV 2) (dV 1)) ((jd b t).map pD) [.un,.un,.ow none (.dct (l.map j3) (l.map (hD b bt)))]=some ((jd b t).map fun p=>hD b bt p.2):=
  Jp pD _ fun p hq=>⟨[.cl (.int p.1),.cl (j3 p.2),.ow none (.dct (l.map j3) (l.map (hD b bt)))],rfl,rfl,by
   have:=YC (f:=hD b bt) (hs p hq);simp[this]⟩
 have e2:(jd b t).length<=sizeLine:=wSa (VO b t _) (wQa (jo (by have:=ok.k2;lia)));have e3:=WB C bt hbt t;have e4:=Cb b bt (jd b t);refine⟨.cl (.lst ((jd b t).map fun p=>hD b bt p.2)),?_⟩;have put:=fun(de:DE) (hd:de [.bo (jf C b),.bo (.int bt),r2,.ow none (.dct (l.map j3) (l.map (hD b bt))),x4,.cl (j3 t),.cl (JG b t),.cl (.lst ((jd b t).map fun p=>hD b bt p.2))]=some (hD b bt t))=>UO (i:=3) (dk:=dC 5) (de:=de) (l:=l) (f:=hD b bt) (s:=t) (q:=none) (Z:=[.bo (jf C b),.bo (.int bt),r2,.ow none (.dct (l.map j3) (l.map (hD b bt))),x4,.cl (j3 t),.cl (JG b t),.cl (.lst ((jd b t).map fun p=>hD b bt p.2))]) rfl hd rfl hl';have e5:ji 7 (dL (yt 2 [3] (jU (dP 6)) (gT 2 (gC (gN 0) (gC (gN 1) gZ))) jW (d2 yb (dV 2) (dV 1)))) [.bo (jf C b),.bo (.int bt),r2,.ow none (.dct (l.map j3) (l.map (hD b bt))),x4,.cl (j3 t),.cl (JG b t),x7]=some (.nx [.bo (jf C b),.bo (.int bt),r2,.ow none (.dct (l.map j3) (l.map (hD b bt))),x4,.cl (j3 t),.cl (JG b t),.cl (.lst ((jd b t).map fun p=>hD b bt p.2))]):=by
  simp only[JG];simp[e1,e2]
 unfold yE;rw[j0,e5,uEa];show jc _ _ _ _=_;rw[jc];by_cases h:t.place=b.size
 ·have e0:jg (d2 jt (d2 j6 (dV 5) (dK (.int 0))) (d1 (jV C "size") (dV 0))) [.bo (jf C b),.bo (.int bt),r2,.ow none (.dct (l.map j3) (l.map (hD b bt))),x4,.cl (j3 t),.cl (JG b t),.cl (.lst ((jd b t).map fun p=>hD b bt p.2))]=some true:=by
   simp[ef,h]
  rw[e0];simp only[Option.bind_some,if_true];rw[put _ (by simp[hD,Av h])];rfl
 ·have e0:jg (d2 jt (d2 j6 (dV 5) (dK (.int 0))) (d1 (jV C "size") (dV 0))) [.bo (jf C b),.bo (.int bt),r2,.ow none (.dct (l.map j3) (l.map (hD b bt))),x4,.cl (j3 t),.cl (JG b t),.cl (.lst ((jd b t).map fun p=>hD b bt p.2))]=some false:=by
   simp[ef,h]
  have hh:=Xo (bt:=bt) X (by lia:t.place < b.size);rw[e0];simp only[Option.bind_some,Bool.false_eq_true,if_false];rw[jc];have e6:JA (j7 (JI C) [(false,(dV 1)),(false,(dV 5))]) [.bo (jf C b),.bo (.int bt),r2,.ow none (.dct (l.map j3) (l.map (hD b bt))),x4,.cl (j3 t),.cl (JG b t),.cl (.lst ((jd b t).map fun p=>hD b bt p.2))]=some (YO bt t):=by
   simp[e3]
  rw[e6,uEa];by_cases hs:YO bt t=true
  ·rw[if_pos hs];rw[if_pos hs]at hh;rw[put _ (by
    have q1:zJ [.lst ((jd b t).map fun p=>hD b bt p.2)]=some (.bl ((jd b t).all fun p=>Y7 b bt p.2)):=by
     show(Vd _).bind _=_;rw[e4];simp[List.all_map]
    unfold hD at q1⊢;rw[hh];by_cases hn:(jd b t).length > 0
    ·have hn':0 < ((jd b t).length:Int):=by lia
     simp[-zJ,q1,hn,hn',yG]
    ·have hn':¬0 < ((jd b t).length:Int):=by lia
     simp[-zJ,q1,hn,hn',yG])]
   rfl
  ·rw[if_neg hs];rw[if_neg hs]at hh;rw[put _ (by
    have q1:kN [.lst ((jd b t).map fun p=>hD b bt p.2)]=some (.bl ((jd b t).any fun p=>Y7 b bt p.2)):=by
     show(Vd _).bind _=_;rw[e4];simp[List.any_map]
    unfold hD at q1⊢;rw[hh];simp[-kN,q1])]
   rfl
theorem Xq(C:Addr)(b:Bk)(ok:OkB b)(bt:Int)(hbt:0 < bt)(r2 x4:Sl)(up:List Sd):∀(ts l:List Sd),(∀t∈ts,Fit b t/\t.place<=b.size/\∀p∈jd b t,p.2∈up)->(∀t∈up,t∈l)->l.length+ts.length < 10000000->∀x5 x6 x7:Sl,∃y5 y6 y7:Sl,
  jP zR (yE C) (ts.map (Ww b)) [.bo (jf C b),.bo (.int bt),r2,.ow none (.dct (l.map j3) (l.map (hD b bt))),x4,x5,x6,x7]=
  some (.nx [.bo (jf C b),.bo (.int bt),r2,.ow none (.dct ((ts.foldl jB l).map j3) ((ts.foldl jB l).map (hD b bt))),x4,y5,y6,y7])
 | [],l,_,_,_,x5,x6,x7=>⟨x5,x6,x7,rfl⟩
 | t::ts,l,h,hu,hl,x5,x6,x7=>by
  obtain⟨f1,f2,f3⟩:=h t wNa;have hlen:=ut l t;rw[vXa]at hl;obtain⟨y7,e1⟩:=EL C b ok bt hbt r2 x4 x7 t f1 f2 l (by lia) fun p hp=>hu _ (f3 p hp);obtain⟨z5,z6,z7,e2⟩:=Xq C b ok bt hbt r2 x4 up ts (jB l t) (fun u hu=>h u (wMa _ hu)) (fun u hv=>Gs.mpr (.inl (hu u hv))) (by lia) (.cl (j3 t)) (.cl (JG b t)) y7;refine⟨z5,z6,z7,?_⟩;rw[vWa,List.foldl_cons,jP];have e0:zR (Ww b t) [.bo (jf C b),.bo (.int bt),r2,.ow none (.dct (l.map j3) (l.map (hD b bt))),x4,x5,x6,x7]=some [.bo (jf C b),.bo (.int bt),r2,.ow none (.dct (l.map j3) (l.map (hD b bt))),x4,.cl (j3 t),.cl (JG b t),x7]:=rfl;rw[e0];show(yE C _).bind _=_;rw[e1];exact e2
theorem Xr(C:Addr)(b:Bk)(ok:OkB b)(bt:Int)(hbt:0 < bt)(s:Sd)(L:Lim b s)(r2:Sl):∀(m:Nat) (l:List Sd),(∀t∈ja b s m,t∈l)->l.length+((List.range m).flatMap (ja b s)).length < 10000000->∀x4 x5 x6 x7:Sl,∃(l':List Sd) (y4 y5 y6 y7:Sl),
  jP zS (yF C) (ye b s m).reverse [.bo (jf C b),.bo (.int bt),r2,.ow none (.dct (l.map j3) (l.map (hD b bt))),x4,x5,x6,x7]=
  some (.nx [.bo (jf C b),.bo (.int bt),r2,.ow none (.dct (l'.map j3) (l'.map (hD b bt))),y4,y5,y6,y7])/\(∀t∈l,t∈l')/\∀j,j<=m->∀t∈ja b s j,t∈l'
 | 0,l,h,_,x4,x5,x6,x7=>⟨l,x4,x5,x6,x7,rfl,fun t ht=>ht,fun j hj t ht=>by
  have e:j=0:=by lia
  subst e;exact h t ht⟩
 | m+1,l,h,hl,x4,x5,x6,x7=>by
  rw[List.range_succ,List.flatMap_append,vZa]at hl;simp only[List.flatMap_cons,List.flatMap_nil,List.append_nil]at hl;obtain⟨y5,y6,y7,e1⟩:=Xq C b ok bt hbt r2 (.cl (JL b (ja b s m))) (ja b s (m+1)) (ja b s m) l (fun t ht=>⟨(Yo L.fit m t ht).1,by
   by_cases q:0 < m
   ·exact(Yo L.fit m t ht).2.2 q
   ·have:=(Yo L.fit m t ht).2.1;have:=L.p1
    lia,fun p hp=>zW.mpr ⟨t,ht,p,hp,rfl⟩⟩) h (by lia) x5 x6 x7
  have hf:=zV (ja b s m) l;obtain⟨l',z4,z5,z6,z7,e2,e3,e6⟩:=Xr C b ok bt hbt s L r2 m ((ja b s m).foldl jB l) (fun t ht=>Yg.mpr (.inr ht)) (by lia) (.cl (JL b (ja b s m))) y5 y6 y7;refine⟨l',z4,z5,z6,z7,?_,fun t ht=>e3 t (Yg.mpr (.inl ht)),fun j hj t ht=>?_⟩
  rotate_left
  ·by_cases q:j<=m
   ·exact e6 j q t ht
   ·have e:j=m+1:=by lia
    subst e;exact e3 t (Yg.mpr (.inl (h t ht)))
  rw[UP,List.reverse_append,List.reverse_singleton,List.singleton_append,jP];have e0:zS (JL b (ja b s m)) [.bo (jf C b),.bo (.int bt),r2,.ow none (.dct (l.map j3) (l.map (hD b bt))),x4,x5,x6,x7]=some [.bo (jf C b),.bo (.int bt),r2,.ow none (.dct (l.map j3) (l.map (hD b bt))),.cl (JL b (ja b s m)),x5,x6,x7]:=rfl;have e4:yF C [.bo (jf C b),.bo (.int bt),r2,.ow none (.dct (l.map j3) (l.map (hD b bt))),.cl (JL b (ja b s m)),x5,x6,x7]=some (.nx [.bo (jf C b),.bo (.int bt),r2,.ow none (.dct ((((ja b s m)).foldl jB l).map j3) ((((ja b s m)).foldl jB l).map (hD b bt))),.cl (JL b (ja b s m)),y5,y6,y7]):=by
   unfold yF;rw[jR];have e5:Zi (dP 4) [.bo (jf C b),.bo (.int bt),r2,.ow none (.dct (l.map j3) (l.map (hD b bt))),.cl (JL b (ja b s m)),x5,x6,x7]=some ((ja b s m).map (Ww b)):=by
    rw[Zi];show VA (JL b (ja b s m))=_;rw[JL,Km,UQ]
   rw[e5,uEa];exact e1
  rw[e0];show(yF C _).bind _=_;rw[e4];exact e2
def WC(C:Addr)(b:Bk)(ok:OkB b)(bt:Int)(hbt:0 < bt)(s:Sd)(L:Lim b s):∃l:List Sd,zC C [jf C b,.int bt,j3 s]=some (.dct (l.map j3) (l.map (hD b bt)))/\s∈l/\∀p∈jd b s,p.2∈l:=by
 obtain⟨n,e1,_,e2,_⟩:=Vb C b ok s L;obtain⟨l,y4,y5,y6,y7,e3,_,e4⟩:=Xr C b ok bt hbt s L (.cl (j3 s)) n [] (fun t ht=>by rw[e2]at ht;cases ht) (by have:=L.tot n;simpa using this) .un .un .un .un;have h0:s∈ja b s 0:=by simp[ja]
 have hn:0 < n:=by
  cases n with
  | zero=>rw[e2]at h0;cases h0
  | succ n=>lia
 refine⟨l,?_,e4 0 (by lia) s h0,fun p hp=>e4 1 hn p.2 (zW.mpr ⟨s,h0,p,hp,rfl⟩)⟩;simp only[zC,vP];rw[uJa,uJa]at e3;simp[e1,vZ,e3]
noncomputable def B0(h:Bool):D:=.str (if h=true then "host" else "spoiler")
def gj(C:Addr)(bt:Int)(h1:2<=bt)(h2:bt<=5):zB C [.int bt]=some (.ok .non):=by
 simp only[zB,vO];simp[J5,h1,h2]
def QB(C:Addr)(b:Bk)(ok:OkB b)(bt:Int)(h1:2<=bt)(h2:bt<=5)(h9:b.size<=9)(row:List Int)(h:Jw b row){s:Sd}(hw:jz b (ju b) row=(s,none)):z9 C [jf C b,.int bt,.lst (row.map .int)]=some (.ok (B0 (Y7 b bt s))):=by
 have e0:=gj C bt h1 h2;have e1:=Jl C b row ok h hw;obtain⟨l,e2,e3,_⟩:=WC C b ok bt (by lia) s (vU ok h9 h hw);have e4:=YC (f:=hD b bt) e3;simp only[z9,V9];cases hh:Y7 b bt s <;> simp[e0,e1,e2,e4,hD,hh,B0]
def gk(b:Bk)(bt:Int)(s:Sd)(p:Int×Sd):Bool:=decide (Y7 b bt p.2=!YO bt s)
noncomputable def oI:Option Int->D
 | none=>.non
 | some i=>.int i
theorem WD(C:Addr)(b:Bk)(bt:Int)(s:Sd)(l:List Sd)(r0 r1 r2 r3:Sl):∀(ps:List (Int×Sd)),(∀p∈ps,p.2∈l)->∀x6 x7:Sl,∃y6 y7:Sl,
  jP um (v7 C) (ps.map pD) [r0,r1,r2,r3,.cl (.dct (l.map j3) (l.map (hD b bt))),.cl (.bl (!YO bt s)),x6,x7]=
  match ps.find? (gk b bt s)with
  | some p=>some (.rt (.int p.1))
  | none=>some (.nx [r0,r1,r2,r3,.cl (.dct (l.map j3) (l.map (hD b bt))),.cl (.bl (!YO bt s)),y6,y7])
 | [],_,x6,x7=>⟨x6,x7,rfl⟩
 | p::ps,h,x6,x7=>by
  have g:=YC (f:=hD b bt) (h p wNa);obtain⟨y6,y7,e⟩:=WD C b bt s l r0 r1 r2 r3 ps (fun q hq=>h q (wMa _ hq)) (.cl (.int p.1)) (.cl (j3 p.2));refine⟨y6,y7,?_⟩;rw[vWa,jP,List.find?_cons];have e0:um (pD p) [r0,r1,r2,r3,.cl (.dct (l.map j3) (l.map (hD b bt))),.cl (.bl (!YO bt s)),x6,x7]=some [r0,r1,r2,r3,.cl (.dct (l.map j3) (l.map (hD b bt))),.cl (.bl (!YO bt s)),.cl (.int p.1),.cl (j3 p.2)]:=rfl;rw[e0];show(v7 C _).bind _=_;have e1:jg (d2 jt (d2 yb (dV 4) (dV 7)) (dV 5)) [r0,r1,r2,r3,.cl (.dct (l.map j3) (l.map (hD b bt))),.cl (.bl (!YO bt s)),.cl (.int p.1),.cl (j3 p.2)]=some (gk b bt s p):=by
   simp[g,hD,gk]
  unfold v7;unfold jc;rw[e1,uEa];cases hq:gk b bt s p with
  | true=>rfl
  | false=>exact e
def Xs(C:Addr)(b:Bk)(ok:OkB b)(bt:Int)(h1:2<=bt)(h2:bt<=5)(h9:b.size<=9)(row:List Int)(h:Jw b row){s:Sd}(hw:jz b (ju b) row=(s,none)):zT C [jf C b,.int bt,.lst (row.map .int)]=some (.ok (oI (((jd b s).find? (gk b bt s)).map (·.1)))):=by
 have e0:=gj C bt h1 h2;have e1:=Jl C b row ok h hw;have L:=vU ok h9 h hw;obtain⟨l,e2,e3,e4⟩:=WC C b ok bt (by lia) s L;have e5:=WB C bt (by lia) s;have e6:=uu C b s ok L.fit;obtain⟨y6,y7,e7⟩:=WD C b bt s l (.bo (jf C b)) (.bo (.int bt)) (.bo (.lst (row.map .int))) (.cl (j3 s)) (jd b s) e4 .un .un;simp only[zT,uo];simp[e0,e1,e2,e5,e6,e7];cases (jd b s).find? (gk b bt s) <;> rfl
end M
namespace M
open PySem L2 DS CP
section
variable (C:Addr) (b:Bk) (ok:OkB b) (h9:b.size<=9) (row:List Int)
include ok
def UR(b:Bk)(row:List Int):Option Xp:=if ZP b row=false then some ("NoKind",[])else if b.size < (row.length:Int)then some ("TooLong",[])else none
theorem QC(hl:row.length<=1000):match UR b row with
  | some p=>vL C [jf C b,.lst (row.map .int)]=some (.xc p)
  | none=>∃d,vL C [jf C b,.lst (row.map .int)]=some (.ok d):=by
 have e1:=UH C b row hl;simp only[vL,Gg];unfold UR;cases hk:ZP b row with
 | false=>rw[hk]at e1;simp[e1]
 | true=>
  rw[hk]at e1;by_cases c:b.size < (row.length:Int)
  ·simp[c]at e1;simp[e1,c]
  ·simp[c]at e1;have e2:=UJ C b row ok (UG hk);revert e2;generalize jz b (ju b) row=q;obtain⟨s,o⟩:=q;intro e2;cases o with
   | none=>simp[e1,e2,oS,c]
   | some x=>simp[e1,e2,oS,c]
include h9
theorem WJ(h:Jw b row){s:Sd}(hw:jz b (ju b) row=(s,none)):∃d,Ym C [jf C b,.lst (row.map .int)]=some (.ok d):=by
 have e1:=Jl C b row ok h hw;have L:=vU ok h9 h hw;obtain⟨l,e2,e3,e4⟩:=Ks C b ok s L;have e6:=uu C b s ok L.fit;have hc:=z_ (g:=gT 2 (gC (gN 0) (gC (gN 1) gZ))) (dc:=jg (d2 yG (d2 yb (dV 2) (dV 1)) (dN 0))) (de:=dC 0) (Z:=[.un,.un,.cl (.dct (l.map j3) (l.map (cD b)))]) pD (fun p:Int×Sd=>decide (JM b p.2 > 0)) (fun p:Int×Sd=>D.int p.1) (xs:=jd b s) fun p hp=>by
  have g:=YC (f:=cD b) (e4 p hp);exact⟨_,rfl,by simp[g,cD],rfl⟩
 have zl:(jd b s).length<=sizeLine:=wSa (VO b s _) (wQa (jo (by have:=ok.k2;lia)));revert hc;generalize (jd b s).filter (fun p:Int×Sd=>decide (JM b p.2 > 0))=u;intro hc;simp only[Ym,v5];exact⟨_,by simp[e1,e2,e6,hc,zl];rfl⟩
theorem QD(h:Jw b row){s:Sd}(hw:jz b (ju b) row=(s,none)):∃d,Y_ C [jf C b,.lst (row.map .int)]=some (.ok d):=by
 have L:=vU ok h9 h hw;have e1:=Jl C b row ok h hw;have ef:=ur C b;obtain⟨n,e2,hn,_,_⟩:=Vb C b ok s L;have hc:=Jp (g:=gN 0) (dc:=jW) (de:=dL (jK ze [(false,(dV 0))])) (Z:=[.un]) (fun j:Nat=>JL b (ja b s j)) (fun j:Nat=>D.lst ((ja b s j).map j3)) (xs:=List.range n) (fun j _=>⟨_,rfl,rfl,by simp[JL]⟩);have hc:Jm (gN 0) jW (dL (jK ze [(false,(dV 0))])) (ye b s n) [.un]=_:=hc;have hll:(ye b s n).length=n:=by simp[ye]
 have zr:row.length<=sizeLine:=wQa (jo (by have:=ok.s2;have:=h.2;lia));have zl:n<=sizeLine:=wQa (jo (by lia));revert hc hll e2;generalize ye b s n=u;intro e2 hc hll;simp only[Y_,V8];by_cases c:b.size < (row.length:Int)+(n:Int)
 ·exact⟨.non,by simp[e1,e2,hll,ef,zr,zl,c]⟩
 ·exact⟨_,by simp[e1,e2,hll,ef,zr,zl,c,hc];rfl⟩
theorem Xu:yP C [jf C b,.lst []]=some (.bl false):=by
 have ef:=ur C b;have s1:=ok.s1;have c:(0:Int)≠b.size:=by lia
 simp only[yP,v6];simp[ef,c]
theorem Xv(h:Jw b row){s:Sd}(hw:jz b (ju b) row=(s,none)):y_ C [jf C b,.lst (row.map .int),.lst []]=some (.xc ("NoSheet",[])):=by
 have e1:=Jl C b row ok h hw;have e2:=Xu C b ok h9;simp only[y_,Z9];simp[e1,e2]
theorem Aw(h:Jw b row){s:Sd}(hw:jz b (ju b) row=(s,none)):∃d,yf C [jf C b,.lst (row.map .int),.lst []]=some (.ok d):=by
 have e1:=Jl C b row ok h hw;simp only[yf,YM];exact⟨.bl false,by simp[e1]⟩
omit h9 in
theorem Xw(hl:row.length<=1000){p:Xp}(h:J2 b row=some p):VI C [jf C b,.lst (row.map .int)]=some (.xc p)/\Ym C [jf C b,.lst (row.map .int)]=some (.xc p)/\gb C [jf C b,.lst (row.map .int),.int (-1)]=some (.xc p)/\y_ C [jf C b,.lst (row.map .int),.lst []]=some (.xc p)/\zQ C [jf C b,.lst (row.map .int)]=some (.xc p)/\
  Y_ C [jf C b,.lst (row.map .int)]=some (.xc p)/\yf C [jf C b,.lst (row.map .int),.lst []]=some (.xc p)/\z9 C [jf C b,.int 2,.lst (row.map .int)]=some (.xc p)/\zT C [jf C b,.int 5,.lst (row.map .int)]=some (.xc p):=by
 have e:=UN C b row ok hl;rw[h]at e;have e:jX C [jf C b,.lst (row.map .int)]=some (.xc p):=e;have b2:=gj C 2 (by decide) (by decide);have b5:=gj C 5 (by decide) (by decide);simp only[VI,ka,Ym,v5,gb,KN,y_,Z9,zQ,ul,Y_,V8,yf,YM,z9,V9,zT,uo];simp[e,b2,b5]
end
set_option backward.match.sparseCases true in
noncomputable def zF(o:Option Rx):Option Rx:=o.bind fun r=>match r with
 | .ok _=>some (.ok .non)
 | .xc p=>some (.xc p)
set_option backward.match.sparseCases true in
theorem Yh(x:Option Rx)(Z:jk):((x.bind fun r=>match r with
  | .ok _=>some (Rs.nx Z)
  | .xc p=>some (.xc p)).bind fun r=>match r with
  | .rt d=>some (.ok d)
  | .rf o=>some (.ok o.toD)
  | .nx _=>some (.ok .non)
  | .xc p=>some (.xc p)
  | _=>none)=zF x:=by
 cases x with
 | none=>rfl
 | some r=>cases r <;> rfl
section
variable (C:Addr) (R w:D)
def lL:jL C [.int 0,R,w]=zF (vL C [R,w]):=Yh _ _
def HZ:jL C [.int 1,R,w]=zF (jX C [R,w]):=Yh _ _
def H_:jL C [.int 2,R,w]=zF (VI C [R,w]):=Yh _ _
def ic:jL C [.int 3,R,w]=zF (Ym C [R,w]):=Yh _ _
def ig:jL C [.int 4,R,w]=zF (gb C [R,w,.int (-1)]):=Yh _ _
def ii:jL C [.int 5,R,w]=zF (y_ C [R,w,.lst []]):=Yh _ _
def ij:jL C [.int 6,R,w]=zF (zQ C [R,w]):=Yh _ _
def ik:jL C [.int 7,R,w]=zF (Y_ C [R,w]):=Yh _ _
def im:jL C [.int 8,R,w]=zF (yf C [R,w,.lst []]):=Yh _ _
def io:jL C [.int 9,R,w]=zF (z9 C [R,.int 2,w]):=Yh _ _
def EM:jL C [.int 10,R,w]=zF (zT C [R,.int 5,w]):=Yh _ _
end
def K7(b:Bk)(row:List Int)(i:Nat):Option Xp:=if i=0 then UR b row else match J2 b row with
 | some p=>some p
 | none=>if i=4 then some ("NoNumber",[])else if i=5 then some ("NoSheet",[])else none
noncomputable def Xx:Option Xp->Rx
 | some p=>.xc p
 | none=>.ok .non
section
variable (C:Addr) (b:Bk) (ok:OkB b) (h9:b.size<=9) (row:List Int) (hl:row.length<=1000)
include ok h9 hl
theorem Ax:∀i:Nat,i < 11->jL C [.int (i:Int),jf C b,.lst (row.map .int)]=some (Xx (K7 b row i)):=by
 intro i hi;have f1:∀{x:Option Rx} {d:D},x=some (.ok d)->zF x=some (.ok .non):=fun h=>by rw[h];rfl
 have f2:∀{x:Option Rx} {p:Xp},x=some (.xc p)->zF x=some (.xc p):=fun h=>by rw[h];rfl
 by_cases h0:i=0
 ·subst h0;have e:=QC C b ok row hl;refine(lL C _ _).trans ?_;show _=some (Xx (UR b row));cases hd:UR b row with
  | some p=>rw[hd]at e;exact f2 e
  | none=>rw[hd]at e;obtain⟨d,e⟩:=e;exact f1 e
 ·unfold K7;rw[if_neg h0];cases hd:J2 b row with
  | some p=>
   have e:=UN C b row ok hl;rw[hd]at e;obtain⟨r1,r2,r3,r4,r5,r6,r7,r8,r9⟩:=Xw C b ok row hl hd;rcases(by lia:i=1 \/ i=2 \/ i=3 \/ i=4 \/ i=5 \/ i=6 \/ i=7 \/ i=8 \/ i=9 \/ i=10)with rfl | rfl | rfl | rfl | rfl | rfl | rfl | rfl | rfl | rfl
   ·exact(HZ C _ _).trans (f2 e)
   ·exact(H_ C _ _).trans (f2 r1)
   ·exact(ic C _ _).trans (f2 r2)
   ·exact(ig C _ _).trans (f2 r3)
   ·exact(ii C _ _).trans (f2 r4)
   ·exact(ij C _ _).trans (f2 r5)
   ·exact(ik C _ _).trans (f2 r6)
   ·exact(im C _ _).trans (f2 r7)
   ·exact(io C _ _).trans (f2 r8)
   ·exact(EM C _ _).trans (f2 r9)
  | none=>
   obtain⟨h,s,hw⟩:=Aq hd;rcases(by lia:i=1 \/ i=2 \/ i=3 \/ i=4 \/ i=5 \/ i=6 \/ i=7 \/ i=8 \/ i=9 \/ i=10)with rfl | rfl | rfl | rfl | rfl | rfl | rfl | rfl | rfl | rfl
   ·exact(HZ C _ _).trans (f1 (Jl C b row ok h hw))
   ·exact(H_ C _ _).trans (f1 (C9 C b ok row h hw (vU ok h9 h hw)))
   ·obtain⟨d,e⟩:=WJ C b ok h9 row h hw;exact(ic C _ _).trans (f1 e)
   ·exact(ig C _ _).trans (f2 (EK C b ok h9 row h hw))
   ·exact(ii C _ _).trans (f2 (Xv C b ok h9 row h hw))
   ·obtain⟨d,e⟩:=Xn C b ok h9 row h hw;exact(ij C _ _).trans (f1 e)
   ·obtain⟨d,e⟩:=QD C b ok h9 row h hw;exact(ik C _ _).trans (f1 e)
   ·obtain⟨d,e⟩:=Aw C b ok h9 row h hw;exact(im C _ _).trans (f1 e)
   ·exact(io C _ _).trans (f1 (QB C b ok 2 (by decide) (by decide) h9 row h hw))
   ·exact(EM C _ _).trans (f1 (Xs C b ok 5 (by decide) (by decide) h9 row h hw))
end
noncomputable def Ys(o:Option Xp):D:=match o with
 | none=>.lst []
 | some p=>.lst [.bl (p.1==("NoKind" : Str)),.bl (p.1==("TooLong" : Str)),.bl (p.1==("Broken" : Str))]
noncomputable def zG(o:Option Xp):D:=match o with
 | some (_,[(_,.str w),(_,.int n)])=>.tup [.int n,.str w]
 | _=>.non
noncomputable def brk(w:Str)(n:Int):Xp:=("Broken",[("word",.str w),("place",.int n)])
def Ay(o:Option Xp):Prop:=o=none \/ (∃c∈(["NoKind", "TooLong", "NoNumber", "NoSheet"]:List Str),o=some (c,[])) \/∃w n,o=some (brk w n)
def Cd(C:Addr)(i R w:D){o:Option Xp}(hx:Ay o)(h:jL C [i,R,w]=some (Xx o)):YA C [i,R,w]=some (.tup [Ys o,zG o]):=by
 have hd:J4 (jL C) [(fV 0),(fV 1),(fV 2)] [.bo i,.bo R,.bo w,.cl (.lst []),.cl .non,.un]=some (Xx o):=by simp[h]
 simp only[YA,Vo];refine fE (sq (Z1:=[.bo i,.bo R,.bo w,.cl (.lst []),.un,.un]) rfl (sq (Z1:=[.bo i,.bo R,.bo w,.cl (.lst []),.cl .non,.un]) rfl (sq (Z1:=[.bo i,.bo R,.bo w,.cl (Ys o),.cl (zG o),.un]) ?_ rfl)));unfold wQ;rw[hd];rcases hx with rfl | ⟨c,hc,rfl⟩ | ⟨x,n,rfl⟩
 ·simp[Xx,h,Ys,zG]
 ·simp only[List.mem_cons,List.not_mem_nil,or_false]at hc;rcases hc with rfl | rfl | rfl | rfl <;> rfl
 ·rfl
def qR{α:Type}(f:α->Bool)(l:List α):(l.filter fun x=>!f x)=[]↔l.all f=true:=by
 rw[List.filter_eq_nil_iff,List.all_eq_true];exact⟨fun h x hx=>by have:=h x hx;simpa using this,fun h x hx=>by simp[h x hx]⟩
def EN(f:Int->Bool)(l:List Int):J8 (.lst ((l.filter fun x=>!f x).map D.int)) (.lst [])=some (.bl (!l.all f)):=by
 rw[ki];congr 3;cases h:l.all f with
 | true=>exact decide_eq_true ((qR f l).mpr h)
 | false=>exact vBa fun c=>by rw[(qR f l).mp c]at h;cases h
noncomputable def nk:Xp:=("NoKind",[])
noncomputable def tl:Xp:=("TooLong",[])
def Cs(o o0:Option Xp)(cn ce:Bool):Prop:=(o=some nk/\o0=some nk/\cn=false/\ce=false) \/ (o=some tl/\o0=some tl/\cn=false/\ce=false) \/ (∃w n,o=some (brk w n)/\o0=none/\cn=true/\ce=false) \/ (o=none/\o0=none/\cn=false/\ce=true)
def Qs(b:Bk)(row:List Int):∃cn ce,Cs (J2 b row) (UR b row) cn ce:=by
 unfold J2 UR;by_cases h1:ZP b row=false
 ·rw[if_pos h1,if_pos h1];exact⟨_,_,.inl ⟨rfl,rfl,rfl,rfl⟩⟩
 ·rw[if_neg h1,if_neg h1];by_cases h2:b.size < (row.length:Int)
  ·rw[if_pos h2,if_pos h2];exact⟨_,_,.inr (.inl ⟨rfl,rfl,rfl,rfl⟩)⟩
  ·rw[if_neg h2,if_neg h2];generalize jz b (ju b) row=q;obtain⟨s,o⟩:=q;cases o with
   | none=>exact⟨_,_,.inr (.inr (.inr ⟨rfl,rfl,rfl,rfl⟩))⟩
   | some x=>exact⟨_,_,.inr (.inr (.inl ⟨_,_,rfl,rfl,rfl,rfl⟩))⟩
def Ce(C:Addr)(b:Bk)(ok:OkB b)(row:List Int)(hl:row.length<=1000):ZX C [J9 b,.lst (row.map .int)]=some (.tup [Ys (J2 b row),zG (J2 b row)]):=by
 have f1:Jm (gN 0) (JJ (jg (J1 J5 yj (dN 0) (dV 0) (dV 1)))) (dC 0) (row.map .int) [.un,.cl (.int (b.kinds.length:Int))]=some ((row.filter fun n=>!(decide (0<=n)&&decide (n < (b.kinds.length:Int)))).map .int):=z_ D.int _ D.int fun n hn=>⟨[.cl (.int n),.cl (.int (b.kinds.length:Int))],rfl,by
  by_cases h:0<=n
  ·by_cases h2:n < (b.kinds.length:Int)
   ·simp[J5,yj,h,h2]
   ·simp[J5,yj,h,h2]
  ·simp[J5,yj,h],rfl⟩
 have g1:=EN (fun n:Int=>decide (0<=n)&&decide (n < (b.kinds.length:Int))) row;have g1:J8 (.lst ((row.filter fun n=>!(decide (0<=n)&&decide (n < (b.kinds.length:Int)))).map D.int)) (.lst [])=some (.bl (!ZP b row)):=g1;revert f1 g1;generalize ((row.filter fun n=>!(decide (0<=n)&&decide (n < (b.kinds.length:Int)))).map D.int)=u1;intro f1 g1;have z1:row.length<=sizeLine:=wQa (jo (by lia));have z2:b.kinds.length<=sizeLine:=wQa (jo (by have:=ok.k2;lia));unfold J2;simp only[ZX,ub];cases hk:ZP b row with
 | false=>
  rw[hk]at g1;simp[-J8,f1,g1,z1,z2,Ys,zG];exact⟨by decide,by decide⟩
 | true=>
  rw[hk]at g1;have e:=Qz C b row ok (UG hk) hl;by_cases c1:b.size < (row.length:Int)
  ·simp[-J8,f1,g1,z1,z2,yG,c1,Ys,zG];exact⟨by decide,by decide⟩
  ·unfold vg at e;revert e;generalize jz b (ju b) row=q;obtain⟨s,o⟩:=q;intro e;cases o with
   | none=>simp[-J8,f1,g1,z1,z2,yG,c1,e,oJ,Ys,zG]
   | some x=>
    simp[-J8,f1,g1,z1,z2,yG,c1,e,oJ,Ys,zG];exact⟨by decide,by decide⟩
noncomputable def bF:D:=.lst [.bl false,.bl false,.bl false]
def EO{b:Bk}{row:List Int}{cn ce:Bool}(hc:Cs (J2 b row) (UR b row) cn ce)(i:Nat):Ay (K7 b row i)/\zG (K7 b row i)=(if 0 < i then zG (J2 b row)else .non)/\
  Ys (K7 b row i)=if (i=4 \/ i=5)/\ce=true then bF else if i=0/\cn=true then .lst []else Ys (J2 b row):=by
 unfold K7;by_cases h0:i=0
 ·subst h0;rw[if_pos rfl];rcases hc with⟨e,e0,rfl,rfl⟩ | ⟨e,e0,rfl,rfl⟩ | ⟨w,n,e,e0,rfl,rfl⟩ | ⟨e,e0,rfl,rfl⟩ <;> rw[e,e0]
  ·exact⟨.inr (.inl ⟨_,by decide,rfl⟩),rfl,rfl⟩
  ·exact⟨.inr (.inl ⟨_,by decide,rfl⟩),rfl,rfl⟩
  ·exact⟨.inl rfl,rfl,rfl⟩
  ·exact⟨.inl rfl,rfl,rfl⟩
 ·have hp:0 < i:=by lia
  rw[if_neg h0,if_pos hp];rcases hc with⟨e,e0,rfl,rfl⟩ | ⟨e,e0,rfl,rfl⟩ | ⟨w,n,e,e0,rfl,rfl⟩ | ⟨e,e0,rfl,rfl⟩ <;> rw[e]
  ·exact⟨.inr (.inl ⟨_,by decide,rfl⟩),rfl,by simp[h0]⟩
  ·exact⟨.inr (.inl ⟨_,by decide,rfl⟩),rfl,by simp[h0]⟩
  ·exact⟨.inr (.inr ⟨w,n,rfl⟩),rfl,by simp[h0]⟩
  ·by_cases h4:i=4
   ·subst h4;exact⟨.inr (.inl ⟨_,by decide,rfl⟩),rfl,rfl⟩
   ·by_cases h5:i=5
    ·subst h5;exact⟨.inr (.inl ⟨_,by decide,rfl⟩),rfl,rfl⟩
    ·refine⟨.inl (by simp[h4,h5]),by simp[h4,h5],by simp[h4,h5]⟩
def Kt(C:Addr)(ns ms:List Int)(b:Bk)(row:List Int)(x5 x6 x7:Sl)(d1 d2:D)(x10 x11 x12 x13 x14:Sl):jk:=[.bo (.scr ns),.cl (.lst (ms.map .int)),.cl (J9 b),.cl (jf C b),.ow none (.lst (row.map .int)),x5,x6,x7,.cl (.tup [d1,d2]),.cl (.lst (row.map .int)),x10,x11,x12,x13,x14]
def Cf(C:Addr)(ns ms:List Int)(b:Bk)(row:List Int)(x5 x6 x7 x11 x12 x13 x14:Sl)(i:Nat)(m t d1 d2:D)(cn ce:Bool)(hw:YA C [.int (i:Int),jf C b,.lst (row.map .int)]=some (.tup [m,t]))(q2:jJ C 6 [t,if 0 < i then d2 else .non]=some (.bl true))(q3:ZL d2=!cn)(q4:jt d1 (.lst [])=some (.bl ce))
  (q6:∀x,x=(if (i=4 \/ i=5)/\ce=true then bF else if i=0/\cn=true then .lst []else d1)->J8 m x=some (.bl false)):∃x13',vf C (Kt C ns ms b row x5 x6 x7 d1 d2 (.cl (.int (i:Int))) x11 x12 x13 x14)=some (.nx (Kt C ns ms b row x5 x6 x7 d1 d2 (.cl (.int (i:Int))) (.cl m) (.cl t) x13' x14)):=by
 have q1:J8 (.lst (row.map .int)) (.lst (row.map .int))=some (.bl false):=by rw[qA];simp
 have a0:atI [d1,d2] 0=some d1:=rfl;have a1:atI [d1,d2] 1=some d2:=rfl;unfold vf Kt;by_cases h0:i=0
 ·subst h0;have q2:jJ C 6 [t,.non]=some (.bl true):=q2;have hw:YA C [.int 0,jf C b,.lst (row.map .int)]=some (.tup [m,t]):=hw;have i4:Yq false (.int 0) (.lst [.int 4,.int 5])=some (.bl false):=rfl;have k0:jt (.int 0) (.int 0)=some (.bl true):=rfl;cases cn with
  | true=>
   have q6:=q6 (.lst []) (by simp);exact⟨.cl (.lst []),by simp[-J8,-jt,-Yq,a0,a1,k0,hw,q1,q2,q3,q4,q6,i4]⟩
  | false=>
   have q6:=q6 d1 (by simp);exact⟨.cl d1,by simp[-J8,-jt,-Yq,a0,a1,k0,hw,q1,q2,q3,q4,q6,i4]⟩
 ·have hp:0 < i:=by lia
  have hz:0 < (i:Int):=by lia
  have q2:jJ C 6 [t,d2]=some (.bl true):=by rw[if_pos hp]at q2;exact q2
  have k0:jt (.int (i:Int)) (.int 0)=some (.bl false):=by simp[h0]
  by_cases h4:i=4 \/ i=5
  ·have i4:Yq false (.int (i:Int)) (.lst [.int 4,.int 5])=some (.bl true):=by rcases h4 with rfl | rfl <;> rfl
   cases ce with
   | true=>
    have q6:=q6 bF (by simp[h4]);unfold bF at q6;exact⟨.cl bF,by simp[-J8,-jt,-Yq,a0,a1,k0,hz,hp,hw,q1,q2,q3,q4,q6,i4,bF]⟩
   | false=>
    have q6:=q6 d1 (by simp[h0]);exact⟨.cl d1,by simp[-J8,-jt,-Yq,a0,a1,k0,hz,hp,hw,q1,q2,q3,q4,q6,i4]⟩
  ·have i4:Yq false (.int (i:Int)) (.lst [.int 4,.int 5])=some (.bl false):=by
    have h5:(i:Int)≠4/\(i:Int)≠5:=by lia
    simp[Yq,xu,gX,YG,w5,h5.1,h5.2];refine⟨?_,?_⟩ <;> simp[uZ] <;> lia
   have q6:=q6 d1 (by simp[h0,h4]);exact⟨.cl d1,by simp[-J8,-jt,-Yq,a0,a1,k0,hz,hp,hw,q1,q2,q3,q4,q6,i4]⟩
def uB:DS.DS:=(jc (jg (d2 jt (d2 jF (d2 j6 (dV 1) (dN 100)) (dN 4)) (dN 1))) (JB 4 (xh kG (dV 4) (dL (yt 1 [5] (jU (dL (Y5 (dV 1) (fun Z=>((dN 114) Z).bind yR) (fun Z=>((d2 jx (dN 114) (dV 6)) Z).bind yR)))) (gN 0) jW (d2 jF (dV 0) (dV 1)))))) jr)
def uC:DS.DS:=(ji 7 (d2 j6 (dL (jZ [(true,(Yv (dN 1))),(tC 5),(true,(d2 gP (dN 10) (dN 20))),(true,(Yv (d2 gP (dN 10) (dN 20))))])) (d2 jF (d2 j6 (dV 1) (dN 113)) (dN 4))))
def uD:DS.DS:=(jc (jg (d2 jt (d2 jF (d2 j6 (dV 1) (dN 111)) (dN 4)) (dN 1))) (wK 4 (d2 jF (d2 j6 (dV 1) (dN 112)) (d2 jx (j7 jY [(fV 4)]) (dN 1))) (dC 7)) jr)
def uP(C:Addr)(ns ms:List Int)(b:Bk)(row:List Int)(mo:Int)(x7:Sl):jk:=[.bo (.scr ns),.cl (.lst (ms.map .int)),.cl (J9 b),.cl (jf C b),.ow none (.lst (row.map .int)),.cl (.int (b.kinds.length:Int)),.cl (.int mo),x7,.un,.un,.un,.un,.un,.un,.un]
section
variable (C:Addr) (ns ms:List Int) (b:Bk) (hm:ms.length=130) (ok:OkB b)
include hm
theorem Xy{i:Int}(h0:0<=i)(h1:i < 130):∃v:Int,atI (ms.map D.int) i=some (.int v):=⟨_,YW (f:=D.int) (xs:=ms) (d:=0) h0 (by lia)⟩
include ok in
theorem lM(row:List Int)(mo:Int)(x7:Sl)(hl:row.length<=60)(h0:0<=mo)(h1:mo<=16):∃row':List Int,row'.length<=row.length+16/\uB (uP C ns ms b row mo x7)=some (.nx (uP C ns ms b row' mo x7)):=by
 obtain⟨v,a⟩:=Xy ms hm (i:=100) (by decide) (by decide);by_cases c:v % 4=1
 ·obtain⟨m,rfl⟩:=Int.eq_ofNat_of_zero_le h0;have ec:Jo (ms.map D.int) (some 114) (some (114+(m:Int)))=((ms.drop 114).take m).map D.int:=by
   have e:(114:Int)+(m:Int)=((114+m:Nat):Int):=by lia
   rw[e,Ye];have:=vR ms 114 (114+m) (by lia) (by lia);rw[show((114:Nat):Int)=114 from rfl]at this;rw[this,Nat.add_sub_cancel_left]
  have k1:=ok.k1;have kp:(0:Int) < (b.kinds.length:Int):=by lia
  have kn:¬b.kinds=[]:=fun z=>by rw[z]at k1;simp at k1
  have em:Jm (gN 0) jW (d2 jF (dV 0) (dV 1)) (((ms.drop 114).take m).map D.int) [.un,.cl (.int (b.kinds.length:Int))]=some (((ms.drop 114).take m).map fun x=>D.int (x % (b.kinds.length:Int))):=Jp D.int _ fun n hn=>⟨_,rfl,rfl,by simp[kn]⟩
  have hlen:((ms.drop 114).take m).length<=16:=by rw[uOa,uNa];lia
  revert ec em hlen;generalize (ms.drop 114).take m=u;intro ec em hlen;have z1:u.length<=sizeLine:=wQa (jo (by lia));have z2:row.length+u.length<=sizeLine:=wQa (jo (by lia));refine⟨row++u.map fun x=>x % (b.kinds.length:Int),by rw[vZa,vYa];lia,?_⟩;simp[uB,uP,a,c,ec,em,z1,z2,List.map_map,Function.comp_def]
 ·exact⟨row,by lia,by simp[uB,uP,a,c]⟩
theorem lN(row:List Int)(mo:Int)(x7:Sl):∃o:Int,uC (uP C ns ms b row mo x7)=some (.nx (uP C ns ms b row mo (.cl (.int o)))):=by
 obtain⟨v,a⟩:=Xy ms hm (i:=113) (by decide) (by decide);have cp:aq 10 20=true:=by decide
 obtain⟨o,ho⟩:∃o:Int,atI [.int (-1),.int (b.kinds.length:Int),.int 100000000000000000000,.int (-100000000000000000000)] (v % 4)=some (D.int o):=by
  rcases(by lia:v % 4=0 \/ v % 4=1 \/ v % 4=2 \/ v % 4=3)with h | h | h | h <;> rw[h] <;> exact⟨_,rfl⟩
 exact⟨o,by simp[uC,uP,a,ho,cp]⟩
theorem lO(row:List Int)(mo o:Int)(hl:row.length<=100):∃row':List Int,row'.length<=row.length+1/\uD (uP C ns ms b row mo (.cl (.int o)))=some (.nx (uP C ns ms b row' mo (.cl (.int o)))):=by
 obtain⟨v,a⟩:=Xy ms hm (i:=111) (by decide) (by decide);obtain⟨u,a''⟩:=Xy ms hm (i:=112) (by decide) (by decide);by_cases c:v % 4=1
 ·have p:(0:Int) < (row.length:Int)+1:=by lia
  have g1:=Int.emod_nonneg u (show(row.length:Int)+1≠0 by lia);have g2:=Int.emod_lt_of_pos u p;have g3:u % ((row.length:Int)+1)<=(row.length:Int):=by lia
  have g4:row.length < 1000000:=by lia
  generalize hk:u % ((row.length:Int)+1)=k at g1 g2 g3;refine⟨row.take k.toNat++o::row.drop k.toNat,?_,?_⟩
  ·rw[vZa,vXa,uOa,uNa];lia
  ·simp[uD,uP,a,a'',c,p,hk,g1,g3,g4]
 ·exact⟨row,vKa _ _,by simp[uD,uP,a,c]⟩
end
def Cg(l m:List Int):jt (.lst (l.map D.int)) (.lst (m.map D.int))=some (.bl (decide (l=m))):=by
 have e:dep (.lst (l.map D.int))<=20:=by rw[dep,UL];decide
 have e0:VU (D.lst (l.map D.int)) (D.lst (m.map D.int))=true:=rfl;unfold jt;rw[if_pos e0];unfold kL;rw[if_pos ⟨e0,e⟩,ZM];by_cases h:l.length=m.length
 ·rw[if_pos (by simpa using h),UM l m h];rfl
 ·have h':¬l=m:=fun z=>h (by rw[z]);rw[if_neg (by simpa using h),decide_eq_false h'];rfl
def Ch(C:Addr){o:Option Xp}(h:Ay o):jJ C 6 [zG o,zG o]=some (.bl true):=by
 rcases h with rfl | ⟨c,hc,rfl⟩ | ⟨x,n,rfl⟩
 ·exact Wq C none
 ·exact Wq C none
 ·exact Wq C (some (n,x))
def Az(C:Addr)(ns ms:List Int)(b:Bk)(ok:OkB b)(h9:b.size<=9)(row:List Int)(hl:row.length<=1000)(x5 x6 x7:Sl):∃x10 x11 x12 x13,jP gc (vf C) (Jf 0 11) (Kt C ns ms b row x5 x6 x7 (Ys (J2 b row)) (zG (J2 b row)) .un .un .un .un .un)=some (.nx (Kt C ns ms b row x5 x6 x7 (Ys (J2 b row)) (zG (J2 b row)) x10 x11 x12 x13 .un)):=by
 obtain⟨cn,ce,hc⟩:=Qs b row;have q3:ZL (zG (J2 b row))=!cn:=by
  rcases hc with⟨e,e0,rfl,rfl⟩ | ⟨e,e0,rfl,rfl⟩ | ⟨w,n,e,e0,rfl,rfl⟩ | ⟨e,e0,rfl,rfl⟩ <;> rw[e] <;> rfl
 have q4:jt (Ys (J2 b row)) (.lst [])=some (.bl ce):=by
  rcases hc with⟨e,e0,rfl,rfl⟩ | ⟨e,e0,rfl,rfl⟩ | ⟨w,n,e,e0,rfl,rfl⟩ | ⟨e,e0,rfl,rfl⟩ <;> rw[e] <;> rfl
 have nn:∀o:Option Xp,J8 (Ys o) (Ys o)=some (.bl false):=fun o=>by
  cases o with
  | none=>rfl
  | some p=>simp[Ys,VU,dep,vn,ZM,zd]
 obtain⟨Z',L,x10,x11,x12,x13,rfl⟩:=yq (g:=gc) (s:=vf C) (items:=Jf 0 11) (fun _ Z=>∃x10 x11 x12 x13,Z=Kt C ns ms b row x5 x6 x7 (Ys (J2 b row)) (zG (J2 b row)) x10 x11 x12 x13 .un) (fun i d Z hd hI=>by
  obtain⟨x10,x11,x12,x13,rfl⟩:=hI;obtain⟨hi,rfl⟩:=Gq hd;obtain⟨k1,k2,k3⟩:=EO hc i;have hw:=Cd C (.int (i:Int)) (jf C b) (.lst (row.map .int)) k1 (Ax C b ok h9 row hl i hi);obtain⟨y,e⟩:=Cf C ns ms b row x5 x6 x7 x11 x12 x13 .un i _ _ (Ys (J2 b row)) (zG (J2 b row)) cn ce hw (by rw[<-k2];exact Ch C k1) q3 q4 (fun x hx=>by rw[hx,<-k3];exact nn _);exact⟨Kt C ns ms b row x5 x6 x7 (Ys (J2 b row)) (zG (J2 b row)) (.cl (.int (i:Int))) x11 x12 x13 .un,_,rfl,e,_,_,_,_,rfl⟩) ⟨.un,.un,.un,.un,rfl⟩
 exact⟨x10,x11,x12,x13,L⟩
def AA(C:Addr)(b:Bk)(ok:OkB b)(row:List Int)(hl:row.length<=1000):yP C [jf C b,.lst (row.map .int)]=some (.bl ((J2 b row).isNone&&decide ((row.length:Int)=b.size))):=by
 have ef:=ur C b;have z1:row.length<=sizeLine:=wQa (jo (by lia));have e:=VJ C b row hl;have e:Jz C [jf C b,.lst (row.map .int)]=some (.bl (ZP b row)):=e;simp only[yP,v6];by_cases c:(row.length:Int)=b.size
 ·have c2:¬b.size < (row.length:Int):=by lia
  unfold J2;cases hk:ZP b row with
  | false=>rw[hk]at e;simp[ef,z1,c,e]
  | true=>
   rw[hk]at e;have e2:=UJ C b row ok (UG hk);revert e2;generalize jz b (ju b) row=q;obtain⟨s,o⟩:=q;intro e2;cases o with
   | none=>
    have i1:atI [j3 s,.non] 1=some .non:=rfl;simp[ef,z1,c,e,e2,oS,c2,i1]
   | some x=>
    have i1:atI [j3 s,.str x] 1=some (.str x):=rfl;simp[ef,z1,c,e,e2,oS,c2,i1]
 ·simp[ef,z1,c]
def AB(C:Addr)(ns:List Int)(h:ns.length<=63):KP C [.scr ns]=some (.bl true):=by
 obtain⟨ms,e1,hm⟩:=Qx C ns 130 h (by decide) (by decide);have hml:ms.length=130:=by lia
 obtain⟨b,eb,ok,hbs⟩:=cY C ms 8 (by lia) (by lia) (by lia) (by lia);have s1:=ok.s1;have s2:=ok.s2;have em:=cM C b ok;have tl:∀l:List D,(OD.lst l).toD=.lst l:=fun _=>rfl;have c60:Jo (ms.map D.int) (some 60) none=(ms.drop 60).map D.int:=by rw[Ye];exact congrArg _ (EB ms 60)
 obtain⟨r0,er,hr⟩:=EI C b (ms.drop 60) ok (by rw[uNa];lia) (by rw[uNa];lia);have hr2:=hr.2;obtain⟨v,a⟩:=Xy ms hml (i:=110) (by decide) (by decide);have zk:b.kinds.length<=sizeLine:=wQa (jo (by have:=ok.k2;lia));have z0:r0.length<=sizeLine:=wQa (jo (by lia));obtain⟨r1,l1,F1⟩:=lM C ns ms b hml ok r0 (1+b.size - (r0.length:Int)+v % 3) .un (by lia) (by lia) (by lia);obtain⟨o,F2⟩:=lN C ns ms b hml r1 (1+b.size - (r0.length:Int)+v % 3) .un;obtain⟨r2,l2,F3⟩:=lO C ns ms b hml r1 (1+b.size - (r0.length:Int)+v % 3) o (by lia);have hl:r2.length<=1000:=by lia
 have q1:=Ce C b ok r2 hl;have z2:r2.length<=sizeLine:=wQa (jo (by lia));obtain⟨x10,x11,x12,x13,q2⟩:=Az C ns ms b ok (by lia) r2 hl (.cl (.int (b.kinds.length:Int))) (.cl (.int (1+b.size - (r0.length:Int)+v % 3))) (.cl (.int o));have q3:=AA C b ok r2 hl;have q4:jt (Ys (J2 b r2)) (.lst [])=some (.bl (J2 b r2).isNone):=by
  cases J2 b r2 <;> rfl
 have q5:jt (.lst (r2.map .int)) (.lst (r2.map .int))=some (.bl true):=by
  rw[Cg];simp
 have q6:∀x:Bool,jJ C 6 [.bl x,.bl x]=some (.bl true):=fun x=>qy C (.bl x) 6 trivial (by simp[dep]);have st:KO C=(j0 (ji 1 (dL (jK (Yj C) [(fV 0),(false,(dN 130))]))) (j0 (ji 2 (j7 (Z0 C) [(fV 1),(false,(dN 8))])) (j0 (ji 3 (dL (jK (Z7 C) [(fV 2)]))) (j0 (JB 4 (jK (ZW C) [(fV 2),(false,(dL (Y5 (dV 1) (fun Z=>((dN 60) Z).bind yR) (fun _=>some none))))])) (j0 (ji 5 (j7 jY [(false,(d2 j6 (dV 2) (dN 1)))])) (j0 (ji 6 (d2 jx (d2 Y2 (d2 jx (dN 1) (d2 j6 (dV 2) (dN 0))) (j7 jY [(fV 4)])) (d2 jF (d2 j6 (dV 1) (dN 110)) (dN 3)))) (j0 uB (j0 uC (j0 uD (j0 (ji 8 (j7 (ZX C) [(fV 2),(fV 4)])) (j0 (ji 9 (dL (jK zY [(fV 4)]))) (j0 (jR (YH (dN 11)) gc (vf C)) (j0 (ji 14 (Ju (d2 jt (d2 j6 (dV 8) (dN 0)) (dL (jZ []))) (d2 jt (j7 jY [(fV 4)]) (d2 j6 (dV 2) (dN 0))))) (jb (Ju (j7 (jJ C 6) [(false,(j7 (yP C) [(fV 3),(fV 9)])),(fV 14)]) (d2 jt (dV 9) (dV 4))))))))))))))))):=rfl;have sm:Jy 11=true:=by decide
 have i0:atI [Ys (J2 b r2),zG (J2 b r2)] 0=some (Ys (J2 b r2)):=rfl;have ie:jt (.int (r2.length:Int)) (.int b.size)=some (.bl (decide ((r2.length:Int)=b.size))):=by simp
 revert c60 er;generalize ms.drop 60=m60;intro c60 er;unfold uP at F1 F2 F3;unfold Kt at q2;simp only[KP,st];simp[-OD.toD,-jt,tl,e1,eb,em,Aa,c60,er,a,zk,z0,F1,F2,F3,q1,z2,q2,q3,q4,q5,q6,sm,i0,ie];cases hd:J2 b r2 <;> rw[hd]at q3 <;> simp[-OD.toD,-jt,tl,q3,q5,q6]
end M
noncomputable section
namespace M
open PySem L2 DS CP
noncomputable def top(i:Nat):Stmt:=PySem.Challenge.pw_moonseat_k04_rows_refused.main.body.getD i (.Pass ⟨0,0,0,0⟩)
def dF(i f k:Nat)(ks:List Nat)(b:DS.DS)(hs:List ((Nat×Nat×Nat)×List Nat):=[])(sh:List (Nat×Nat):=[])(ow:List Nat:=[]):Df:=⟨top i,sN (top i),f,false,k==1,ks.map (Nat.beq 1),b,hs,sh,ow,k==2⟩
def dM(i j:Nat)(q:Str)(f k:Nat)(ks:List Nat)(b:DS.DS)(hs:List ((Nat×Nat×Nat)×List Nat):=[])(sh:List (Nat×Nat):=[])(ow:List Nat:=[]):Df:=⟨inClass (top i) j,q,f,true,k==1,ks.map (Nat.beq 1),b,hs,sh,ow,k==2⟩
def xt:XT:=⟨Xb,[("Broken",["Broken"],["NoKind", "TooLong", "NoNumber", "NoSheet", "BadBeat"]),("VerseError",["NoKind", "TooLong", "Broken", "NoNumber", "NoSheet", "BadBeat"],[])],Ex,["NoKind", "TooLong", "NoNumber", "NoSheet", "BadBeat"],[("Broken",["place", "word"])]⟩
noncomputable def T0(C:Addr):Tb:=⟨C,[("LEAST_BEAT",.con 2),("MOST_BEAT",.con 5),("MOST_SIZE",.con 30),("MOST_KINDS",.con 4),("MOST_SHUNS",.con 20),("MOST_BARS",.con 12),("MOST_DUES",.con 3),("MOST_RUN",.con 4),("MOST_REST",.con 4),("MOST_FAR",.con 2),("all",.blt),("any",.blt),("bool",.blt),("enumerate",.blt),("int",.blt),("isinstance",.blt),("len",.blt),("list",.blt),("max",.blt),("range",.blt),("reversed",.blt),("str",.blt),("sum",.blt),("tuple",.blt),("zip",.blt)],[],["size", "kind_rows", "shun_rows", "bar_rows", "due_rows"],xt⟩
def l1(C:Addr):List Df:=[dF 71 469 1 [0,0] (zL C) [] [] [2],
 dF 73 481 1 [0,0,0,0] (zM C) [] [] [4],
 dF 74 486 0 [0,0] (Ve C) [((371,16,82),[0])] [(376,4),(376,8)] [4,8],
 dF 63 386 0 [0,0,0,0,0] (Zz C),
 dF 60 365 0 [1] (Vf C),
 dF 61 372 0 [1,0] (Vg C),
 dF 62 379 0 [1,0,0] (Vh C),
 dF 64 391 0 [0,0,0,0,0] (Vi C) [((275,15,54),[5]),((277,54,65),[]),((277,15,66),[5,0])]]
def k1(C:Addr):(T0 C).chks 2 (l1 C)=A9 (l1 C):=by kernel_rfl
def T1(C:Addr):Tb:=(T0 C).adds 2 (l1 C)
def JC(C:Addr):Df:=dM 65 0 "Rules.__init__" 405 0 [1,0,0,0,0] (yO C) [] [] [0]
def Gv(C:Addr):Um (T1 C) (JC C).de false=some (yO C):=by kernel_rfl
def T2(C:Addr):Tb:=(T1 C).ag "Rules" (.mk 19 (JC C).de.ps (JC C).de.ks (yw C) (JT C))
def l3(C:Addr):List Df:=[dF 75 493 1 [0] (Vk C),
 dF 80 526 0 [0] (vA C),
 dF 81 533 0 [0,0,0] (Zm C) [((424,54,69),[])],
 dF 82 540 0 [0,0,0,0] (u7 C) [] [] [4],
 dF 83 547 0 [0,1,1] (gB C) [] [] [15],
 dF 84 552 1 [0,0] (Vl C) [((467,20,133),[0,3])] [] [2],
 dF 85 557 1 [0,0] (u9 C) [((477,24,131),[0])] [] [2],
 dF 76 500 0 [0,0] (ua C),
 dF 77 507 0 [0,0,0] (ZN C),
 dF 78 514 0 [0,0,0] (Ut C),
 dF 79 521 0 [0,0] (ZC C),
 dF 88 576 0 [0,0] (ub C) [((515,7,83),[2])],
 dM 65 5 "Rules.many" 440 0 [0] (vF C),
 dF 27 235 0 [0,0] (Uv C),
 dF 28 240 0 [0,0] (Yw C) [((124,15,57),[0])],
 dF 29 247 2 [0,0] (Vn C),
 dF 10 125 0 [0] (ZD C),
 dF 15 158 0 [0,0,0] (gD C),
 dF 16 165 0 [0,0,0] (Uw C),
 dF 17 172 0 [0,0,0] (uc C),
 dF 18 179 0 [0,0] (ue C),
 dF 19 186 0 [0,0,0] (Uy C),
 dF 13 144 0 [0,0,0] (ug C) [] [] [4],
 dF 20 193 0 [0,0,0] (UB C),
 dF 11 132 0 [0,0] (uh C),
 dF 21 200 0 [0,0,0] (Gb C),
 dF 22 207 0 [0,0,0] (Gd C),
 dF 12 137 0 [0,0,0] (vH C) [] [] [4],
 dF 14 151 0 [0,0,1] (vJ C),
 dF 30 254 0 [0,0] (Gf C),
 dF 31 261 2 [0,0] (Gg C),
 dF 33 275 2 [0,0] (ui C),
 dF 23 214 0 [0,0,1] (UD C),
 dF 24 221 1 [0,0] (vM C) [] [] [2],
 dF 25 228 1 [0,1] (ZF C) [((114,12,23),[]),((115,31,42),[]),((116,16,29),[]),((118,16,28),[])] [(117,4)] [2,4,5],
 dF 35 280 1 [0,1] (YL C) [((160,16,28),[]),((162,16,28),[]),((162,36,49),[]),((162,35,75),[2])] [] [2],
 dF 38 301 2 [0,0] (ka C) [((181,11,43),[])],
 dF 39 306 2 [0,0] (v5 C) [((185,64,77),[]),((185,11,82),[3])],
 dF 36 287 0 [0,0,0,1] (ZG C) [((167,18,31),[]),((169,16,29),[])],
 dF 37 294 1 [0,0,0,1] (uj C) [] [] [4],
 dF 40 313 2 [0,0,1] (KN C) [((189,25,38),[])] [(191,1000)],
 dF 32 268 0 [0,0] (v6 C),
 dF 41 318 2 [0,0,0] (Z9 C) [] [(197,1000)],
 dF 42 325 2 [0,0] (ul C) [((205,7,20),[])],
 dF 67 452 2 [0,0] (V8 C) [((310,12,23),[])],
 dF 68 457 0 [0,0,0,0] (WG C) [((314,16,31),[]),((314,15,76),[3])],
 dF 69 462 2 [0,0,0] (YM C) [] [(319,1000)],
 dF 46 332 2 [0] (vO C),
 dF 47 339 0 [0,0] (Yx C),
 dF 48 344 1 [0,0,1] (vP C) [((220,20,32),[]),((220,19,58),[3]),((222,16,27),[]),((224,16,27),[]),((226,16,27),[])] [] [3],
 dF 49 351 2 [0,0,0] (V9 C) [((231,7,44),[])],
 dF 50 358 2 [0,0,0] (uo C) [((240,11,23),[])],
 dF 86 564 2 [0,0,0] (UF C),
 dF 87 571 0 [0,0,0] (Vo C)]
def k3(C:Addr):(T2 C).chks 20 (l3 C)=A9 (l3 C):=by kernel_rfl
def T3(C:Addr):Tb:=(T2 C).adds 20 (l3 C)
def JO(C:Addr):Df:=dF 72 474 0 [0,0] jr 
def WK(C:Addr)(m:Nat):Um ((T3 C).ag "_law_same" (.fE (128+m) (JO C).de.ps (JO C).de.ks (jJ C m))) (JO C).de false=some (Za C (jJ C m)):=by kernel_rfl
def T4(C:Addr):Tb:=(T3 C).ag "_law_same" (.fE (128+6) (JO C).de.ps (JO C).de.ks (jJ C 6))
def uw(C:Addr):Df:=dF 89 581 0 [0] (KO C) [((530,24,123),[]),((530,40,123),[5])] [] [4]
def Hq(C:Addr):Um (T4 C) (uw C).de false=some (KO C):=by kernel_rfl
end M
set_option maxHeartbeats 0
noncomputable def PySem.W.Fast.tw4312290659797389631:PySem.Program:=PySem.Challenge.pw_moonseat_k04_rows_refused
theorem PySem.W.Fast.te4312290659797389631:PySem.Challenge.pw_moonseat_k04_rows_refused=PySem.W.Fast.tw4312290659797389631:=rfl
namespace Hd
noncomputable section
open PySem PySem.W PyProof.Rows L2 M CP
noncomputable abbrev pw:=PySem.Challenge.pw_moonseat_k04_rows_refused
theorem prm:((fun(_:Params->Obj)=>true) boot_o_0)=true:=by first | k_qdec | rfl
noncomputable def de(P:Params)(x:Str)(t:Nat)(v:Value):DictEntry:=⟨PyData.keyHash P x,.str x t,v⟩
noncomputable def f3(a b:Int)(r:Nat)(l:List Value):List Value:=.int a 0::.int b 0::.ref r::l
noncomputable def fC(n q:Str)(a b c:Nat)(l x1 x2 x3 x4:Int)(r1:Nat)(z:Bool)(k:Int)(r2:Nat)(m:Int)(e:Nat):Data:=.fields #[.str n a,.str q b,.str "/claim/cut.py" c,.int l 0,.int x1 0,.int x2 0,.int x3 0,.int x4 0,.ref r1,.bool z,.int k 0,.ref r2,.none,.none,.none,.none,.int m 0,.int l 0,.str "/claim/cut.py" e]
noncomputable def oU(l:List Value):Obj:=⟨.type "tuple",none,.seq (List.toArray l) 0,#[]⟩
def oF(n q:Str)(s:Stmt)(m:Str)(t cd:Nat):Obj:=⟨.type "function",none,.func (fnOf n q (defArgs s) (defBody s) (defScope s) .none .none .none (.str m t) none (.ref cd) .none),#[]⟩
def oT(n q:Str)(s:Stmt):Obj:=⟨.none,none,.func { name:=n,qualname:=q,params:=defArgs s,body:=.stmts (defBody s),scope:=defScope s,globals:=0,closure:=[],defaults:=.none,kwdefaults:=.none,doc:=.none,pyModule:=.none,annotations:=none,code:=.none,closureTuple:=.none,builtins:=0 },#[]⟩
noncomputable def ins2:BT->Nat->Obj->BT
 | .nil,_,o=>.node o .nil .nil
 | .node v l r,i,o=>match Nat.beq i 0 with
  | true=>.node o l r
  | false=>match Nat.beq (i % 2) 1 with
   | true=>.node v (ins2 l (i / 2) o) r
   | false=>.node v l (ins2 r (i / 2 - 1) o)
def putAll(t:BT)(l:List (Nat×Obj)):BT:=l.foldl (fun t q=>ins2 t q.1 q.2) t
noncomputable def env:Env:={ scope:=pw.main.scope,locals:=mainNs,globals:=mainNs,cells:=[],code:=.ref 13,frame:=some 14 }
noncomputable def bd:List Stmt:=behindTheImports pw
def cE:Code:=.body bd env
noncomputable def oD(l:List DictEntry)(k:Nat):Obj:=⟨.type "dict",none,.dict (List.toArray l) k,#[]⟩
noncomputable def oX(c d:Nat)(m:Str)(t:Nat):Obj:=⟨.type "frame",none,.plain,#[some (.ref c),some (.ref 3),some (.ref d),none,some (.str m t),none,some (.ref 0)]⟩
noncomputable def oS(a:Nat):Obj:=⟨.type "super",none,.fields #[.ref a,.ref a,.ref a],#[]⟩
noncomputable def oB(a:Nat):Obj:=⟨.type "builtin_function_or_method",none,.fields #[.builtin "object.__init_subclass__",.ref a],#[]⟩
noncomputable def oP:Obj:=⟨.type "builtin_function_or_method",none,.fields #[.builtin "type.__prepare__",.type "type"],#[]⟩
noncomputable def oE(d:Data):Obj:=⟨.type "code",none,d,#[]⟩
noncomputable def oK(n:Str)(b o:List Value)(s:Nat)(u:List Value)(f:Option Value)(t t':Nat)(w:String):Obj:=⟨.type "type",none,.cls { name:=n,bases:=b,mro:=o,ns:=s,qualname:=n,hasDict:=true,slotNames:=[],subclasses:=u,abstract:=false,collection:=none,hasDel:=false },#[f,none,some (.str n t),some (.str n t'),some (.builtin w),some (.bool true)]⟩
noncomputable def oW(t:Nat):List Str->List Value
 | []=>[]
 | x::l=>.str x t::oW (t+1) l
def oV(t:Nat)(l:List Str):Obj:=oU (oW t l)
def o0:Obj:=oU []
noncomputable def o1:Obj:=⟨.none,none,.fields #[],#[]⟩
noncomputable def nz:Nat->List Obj->List (Nat×Obj)
 | _,[]=>[]
 | n,o::l=>(n,o)::nz (n+1) l
def vN(s:Stmt):List Str:=((defScope s).names.filter fun y=>y.2==.local).map (·.1)
def oC(n q:Str)(s:Stmt)(a r:Nat)(l:List Value)(m:Nat):Obj:=oE (.fields (List.toArray (.str n a::.str q (a+1)::.str "/claim/cut.py" (a+2)::.int s.pos.line 0::.int (defArgs s).args.length 0::.int 0 0::.int 0 0::.int 3 0::.ref r::.bool true::.int 181 0::.ref (r+1)::.none::List.append l [.int m 0,.int s.pos.line 0,.str "/claim/cut.py" (m+1)])))
def fO(q:Str)(m:Str)(u:Nat)(s:Stmt)(v:Bool)(a t:Nat):List Obj:=match v with
 | true=>[o0,o1,oV (t+3) (vN s),o0,oT (sN s) q s,oC (sN s) q s t a [.ref (a+2),.ref (a+3),.ref (a+4)] (t+3+(vN s).length),oF (sN s) q s m u (a+5)]
 | false=>[o0,o1,oT (sN s) q s,oC (sN s) q s t a [.none,.none,.ref (a+2)] (t+3),oF (sN s) q s m u (a+3)]
def cO(P:Params)(m:Str)(u:Nat)(s:Stmt)(a t:Nat):List Obj:=
 [oU [.ref 24],oP,oD [de P "__module__" (t+7) (.str m u),de P "__qualname__" (t+9) (.str (sN s) (t+8)),de P "__firstlineno__" (t+11) (.int s.pos.line (t+10)),de P "__static_attributes__" (t+12) (.ref (a+7))] 4,o0,o1,
  oE (fC (sN s) (sN s) (t+2) (t+3) (t+4) s.pos.line 0 0 0 0 (a+3) false 181 (a+4) ↑(t+5) (t+6)),oX (a+5) (a+2) m u,o0,
  oD [de P "__module__" (t+7) (.str m u),de P "__firstlineno__" (t+11) (.int s.pos.line (t+10)),de P "__static_attributes__" (t+12) (.ref (a+7)),de P "__doc__" (t+13) .none] 2,
  oK (sN s) [.ref 24] [.ref (a+9),.ref 24,.type "ValueError",.type "Exception",.type "BaseException",.type "object"] (a+8) [] (some (.ref a)) t (t+8) "ValueError.__new__",oS (a+9),oB (a+9)]
noncomputable abbrev It:=Nat×Bool×Nat×Nat
def iO(m:Str)(u:Nat)(y:It):List Obj:=fO (sN (top y.1)) m u (top y.1) y.2.1 y.2.2.1 y.2.2.2
noncomputable def iF(y:It):Nat:=y.2.2.1+cond y.2.1 6 4
def iE(P:Params)(y:It):DictEntry:=de P (sN (top y.1)) (y.2.2.2+5+cond y.2.1 (vN (top y.1)).length 0) (.ref (iF y))
noncomputable def kI(y:It):List Nat:=cond y.2.1 [y.2.2.1,y.2.2.1+2,y.2.2.1+3,y.2.2.1+5,y.2.2.1+6] [y.2.2.1,y.2.2.1+3,y.2.2.1+4]
def iT(y:It)(l:List Value):List Value:=f3 (top y.1).pos.line 0 (iF y - 1) l
def jO(P:Params)(m:Str)(u:Nat)(y:Nat×Nat×Nat):List Obj:=cO P m u (top y.1) y.2.1 y.2.2
def jE(P:Params)(y:Nat×Nat×Nat):DictEntry:=de P (sN (top y.1)) (y.2.2+15) (.ref (y.2.1+9))
def jT(y:Nat×Nat×Nat)(l:List Value):List Value:=f3 (top y.1).pos.line 0 (y.2.1+5) l
noncomputable def kJ(y:Nat×Nat×Nat):List Nat:=[y.2.1,y.2.1+7,y.2.1+8,y.2.1+9]
noncomputable def vE(u:List Value):Obj:=oK "VerseError" [.type "ValueError"] [.ref 24,.type "ValueError",.type "Exception",.type "BaseException",.type "object"] 23 u (some (.ref 15)) 189 197 "ValueError.__new__"
noncomputable def i1:List (Nat×Nat×Nat):=[(2,28,207),(3,40,223),(4,52,239)]
noncomputable def i2:List (Nat×Nat×Nat):=[(5,64,255),(6,76,271),(7,88,287)]
noncomputable def i3:List It:=[(10,true,119,332),(11,true,126,341),(12,false,133,349)]
noncomputable def i4:List It:=[(13,true,138,355),(14,true,145,371),(15,true,152,383),(16,true,159,396),(17,true,166,405),(18,true,173,415),(19,true,180,423),(20,true,187,436),(21,true,194,448),(22,true,201,457),(23,true,208,466),(24,true,215,475),(25,true,222,486)]
noncomputable def i5:List It:=[(27,true,229,503),(28,false,236,511),(29,true,241,517),(30,true,248,525),(31,true,255,536),(32,true,262,546),(33,true,269,554)]
noncomputable def i6:List It:=[(35,false,276,566),(36,true,281,572),(37,true,288,585),(38,true,295,599),(39,false,302,608),(40,true,307,614),(41,false,314,625),(42,true,319,631)]
noncomputable def i7:List It:=[(46,true,326,647),(47,true,333,654)]
noncomputable def i8:List It:=[(48,false,340,662),(49,true,345,668),(50,true,352,678)]
noncomputable def i9:List It:=[(60,true,359,710),(61,true,366,720),(62,true,373,731),(63,true,380,743),(64,false,387,754)]
noncomputable def i10:List It:=[(67,false,448,834),(68,false,453,840),(69,false,458,846)]
noncomputable def i11:List It:=[(71,true,463,854),(72,false,470,867),(73,true,475,873),(74,false,482,886),(75,true,487,892),(76,true,494,899)]
noncomputable def i12:List It:=[(77,true,501,908),(78,true,508,924),(79,true,515,937),(80,false,522,947),(81,true,527,953),(82,true,534,969),(83,true,541,984),(84,false,548,1011),(85,false,553,1017),(86,true,558,1023),(87,true,565,1032),(88,false,572,1044),(89,false,577,1050)]
def n0(P:Params)(u:List Value):List Obj:=(List.append [oU [.type "ValueError"],oP,oD [de P "__module__" 196 (.str "moonseat.errors" 187),de P "__qualname__" 198 (.str "VerseError" 197),de P "__firstlineno__" 200 (.int 2 199),de P "__static_attributes__" 201 (.ref 22)] 4,o0,o1,oE (fC "VerseError" "VerseError" 191 192 193 2 0 0 0 0 18 false 181 19 194 195),oX 20 17 "moonseat.errors" 187,o0,oD [de P "__module__" 196 (.str "moonseat.errors" 187),de P "__firstlineno__" 200 (.int 2 199),de P "__static_attributes__" 201 (.ref 22),de P "__weakref__" 203 (.ref 25),de P "__doc__" 204 .none] 3,vE u,⟨.type "getset_descriptor",none,(.fields #[.str "__weakref__" 202,.ref 24,.builtin "ExceptionGroup.__weakref__",.none]),#[]⟩,oS 24,oB 24] (i1.flatMap (jO P "moonseat.errors" 187)))
def n1(P:Params)(u:List Value):List Obj:=(List.append (i2.flatMap (jO P "moonseat.errors" 187)) (List.append [oU [.ref 24],oP,oD [de P "__module__" 310 (.str "moonseat.errors" 187),de P "__qualname__" 312 (.str "Broken" 311),de P "__firstlineno__" 314 (.int 16 313),de P "__init__" 323 (.ref 113),de P "__static_attributes__" 326 (.ref 114)] 5,o0,⟨.none,none,(.fields #[.int 18 0,.int 4 0,.ref 112]),#[]⟩,oE (fC "Broken" "Broken" 305 306 307 16 0 0 0 0 103 false 181 104 308 309),oX 105 102 "moonseat.errors" 187] (List.append (fO "Broken.__init__" "moonseat.errors" 187 (inClass (top 8) 0) true 107 315) (List.append [oV 324 ["place", "word"],oD [de P "__module__" 310 (.str "moonseat.errors" 187),de P "__firstlineno__" 314 (.int 16 313),de P "__init__" 323 (.ref 113),de P "__static_attributes__" 326 (.ref 114),de P "__doc__" 327 .none] 2,oK "Broken" [.ref 24] [.ref 116,.ref 24,.type "ValueError",.type "Exception",.type "BaseException",.type "object"] 115 [] (some (.ref 100)) 303 311 "ValueError.__new__",oS 116,oB 116] (i3.flatMap (iO "moonseat.stands" 330))))))
noncomputable def n2(P:Params)(u:List Value):List Obj:=(List.append (i4.flatMap (iO "moonseat.stands" 330)) (List.append (i5.flatMap (iO "moonseat.sheets" 501)) (List.append (i6.flatMap (iO "moonseat.ahead" 564)) (i7.flatMap (iO "moonseat.host" 641)))))
def n3(P:Params)(u:List Value):List Obj:=(List.append (i8.flatMap (iO "moonseat.host" 641)) (List.append (i9.flatMap (iO "moonseat.rules" 692)) (List.append [o0,oP,oD [de P "__module__" 767 (.str "moonseat.rules" 692),de P "__qualname__" 769 (.str "Rules" 768),de P "__firstlineno__" 771 (.int 278 770),de P "__init__" 783 (.ref 405),de P "kinds" 790 (.ref 412),de P "shuns" 797 (.ref 419),de P "bars" 804 (.ref 426),de P "dues" 811 (.ref 433),de P "many" 818 (.ref 440),de P "__static_attributes__" 824 (.ref 441)] 10,o0,⟨.none,none,(.fields (List.toArray (f3 280 4 404 (f3 291 4 411 (f3 294 4 418 (f3 297 4 425 (f3 300 4 432 (f3 303 4 439 ([]))))))))),#[]⟩,oE (fC "Rules" "Rules" 762 763 764 278 0 0 0 0 395 false 181 396 765 766),oX 397 394 "moonseat.rules" 692] (List.append (fO "Rules.__init__" "moonseat.rules" 692 (inClass (top 65) 0) true 399 772) (List.append (fO "Rules.kinds" "moonseat.rules" 692 (inClass (top 65) 1) true 406 784) (List.append (fO "Rules.shuns" "moonseat.rules" 692 (inClass (top 65) 2) true 413 791) (List.append (fO "Rules.bars" "moonseat.rules" 692 (inClass (top 65) 3) true 420 798) (List.append (fO "Rules.dues" "moonseat.rules" 692 (inClass (top 65) 4) true 427 805) (List.append (fO "Rules.many" "moonseat.rules" 692 (inClass (top 65) 5) true 434 812) (List.append [oV 819 ["bar_rows", "due_rows", "kind_rows", "shun_rows", "size"],oD [de P "__module__" 767 (.str "moonseat.rules" 692),de P "__firstlineno__" 771 (.int 278 770),de P "__init__" 783 (.ref 405),de P "kinds" 790 (.ref 412),de P "shuns" 797 (.ref 419),de P "bars" 804 (.ref 426),de P "dues" 811 (.ref 433),de P "many" 818 (.ref 440),de P "__static_attributes__" 824 (.ref 441),de P "__dict__" 826 (.ref 444),de P "__weakref__" 828 (.ref 445),de P "__doc__" 829 .none] 4,oK "Rules" [.type "object"] [.ref 443,.type "object"] 442 [] (none) 760 768 "object.__new__",⟨.type "getset_descriptor",none,(.fields #[.str "__dict__" 825,.ref 443,.builtin "function.__dict__",.builtin "function.__dict__#set"]),#[]⟩,⟨.type "getset_descriptor",none,(.fields #[.str "__weakref__" 827,.ref 443,.builtin "ExceptionGroup.__weakref__",.none]),#[]⟩,oS 443,oB 443] (List.append (i10.flatMap (iO "moonseat.tables" 832)) (i11.flatMap (iO "law_moonseat_k04_rows_refused" 852)))))))))))))
def n4(P:Params)(u:List Value):List Obj:=(i12.flatMap (iO "law_moonseat_k04_rows_refused" 852))
def E(P:Params):List DictEntry:=(List.append [de P "__doc__" 166 .none,de P "__package__" 167 .none,de P "__loader__" 168 (.builtin "__main__.__loader__#opaque"),de P "__spec__" 169 .none,de P "__annotations__" 170 (.ref 6),de P "__builtins__" 171 (.ref 4),de P "__file__" 173 (.str "/claim/cut.py" 172),de P "__cached__" 174 .none,de P "VerseError" 206 (.ref 24)] (List.append (i1.map (jE P)) (List.append (i2.map (jE P)) (List.append [de P "Broken" 329 (.ref 116)] (List.append (i3.map (iE P)) (List.append (i4.map (iE P)) (List.append (i5.map (iE P)) (List.append (i6.map (iE P)) (List.append [de P "LEAST_BEAT" 644 (.int 2 643),de P "MOST_BEAT" 646 (.int 5 645)] (List.append (i7.map (iE P)) (List.append (i8.map (iE P)) (List.append [de P "MOST_SIZE" 695 (.int 30 694),de P "MOST_KINDS" 697 (.int 4 696),de P "MOST_SHUNS" 699 (.int 20 698),de P "MOST_BARS" 701 (.int 12 700),de P "MOST_DUES" 703 (.int 3 702),de P "MOST_RUN" 705 (.int 4 704),de P "MOST_REST" 707 (.int 4 706),de P "MOST_FAR" 709 (.int 2 708)] (List.append (i9.map (iE P)) (List.append [de P "Rules" 831 (.ref 443)] (List.append (i10.map (iE P)) (List.append (i11.map (iE P)) (i12.map (iE P))))))))))))))))))
def mT(k:Nat):Obj:=⟨.none,none,.fields (List.toArray (List.take (3 * k) (f3 2 0 20 (i1.foldr jT (i2.foldr jT (f3 16 0 105 (i3.foldr iT (i4.foldr iT (i5.foldr iT (i6.foldr iT (i7.foldr iT (i8.foldr iT (i9.foldr iT (f3 278 0 397 (i10.foldr iT (i11.foldr iT (i12.foldr iT []))))))))))))))))),#[]⟩
def mD(P:Params)(x:Str)(t k:Nat):Obj:=oD (de P "__name__" 165 (.str x t)::(E P).take k) (k+1)
def lA(P:Params):List Obj:=[boot_o_0 P,boot_o_1 P,boot_o_2 P,boot_o_3 P,boot_o_4 P,boot_o_5 P,boot_o_6 P,boot_o_7 P,boot_o_8 P,boot_o_9 P,boot_o_10 P,o0,o1,oE (fC "<module>" "<module>" 182 183 184 1 0 0 0 0 11 false 181 12 185 186),oX 13 3 "__main__" 164]
noncomputable def hA(P:Params):Heap:=⟨⟨lA P⟩,{}⟩
def t0(P:Params):BT:=putAll .nil (nz 0 (lA P))
def t1(P:Params):BT:=putAll (t0 P) ((3,mD P "moonseat.errors" 187 12)::(12,mT 4)::nz 15 (n0 P [.ref 37,.ref 49,.ref 61]))
def t2(P:Params):BT:=putAll (t1 P) ((3,mD P "moonseat.stands" 330 19)::(12,mT 11)::(24,vE [.ref 37,.ref 49,.ref 61,.ref 73,.ref 85,.ref 97,.ref 116])::nz 64 (n1 P [.ref 37,.ref 49,.ref 61,.ref 73,.ref 85,.ref 97,.ref 116]))
def t3(P:Params):BT:=putAll (t2 P) ((3,mD P "moonseat.host" 641 51)::(12,mT 41)::nz 138 (n2 P []))
def t4(P:Params):BT:=putAll (t3 P) ((3,mD P "law_moonseat_k04_rows_refused" 852 77)::(12,mT 59)::nz 340 (n3 P []))
def t5(P:Params):BT:=putAll (t4 P) ((3,mD P "law_moonseat_k04_rows_refused" 852 90)::(12,mT 72)::nz 501 (n4 P []))
def lF(P:Params):List Obj:=(List.append [boot_o_0 P,boot_o_1 P,boot_o_2 P,mD P "law_moonseat_k04_rows_refused" 852 90,boot_o_4 P,boot_o_5 P,boot_o_6 P,boot_o_7 P,boot_o_8 P,boot_o_9 P,boot_o_10 P,o0,mT 72,oE (fC "<module>" "<module>" 182 183 184 1 0 0 0 0 11 false 181 12 185 186),oX 13 3 "__main__" 164] (List.append (n0 P [.ref 37,.ref 49,.ref 61,.ref 73,.ref 85,.ref 97,.ref 116]) (List.append (n1 P [.ref 37,.ref 49,.ref 61,.ref 73,.ref 85,.ref 97,.ref 116]) (List.append (n2 P [.ref 37,.ref 49,.ref 61,.ref 73,.ref 85,.ref 97,.ref 116]) (List.append (n3 P [.ref 37,.ref 49,.ref 61,.ref 73,.ref 85,.ref 97,.ref 116]) (n4 P [.ref 37,.ref 49,.ref 61,.ref 73,.ref 85,.ref 97,.ref 116]))))))
noncomputable def hF(P:Params):Heap:=⟨⟨lF P⟩,{}⟩
def kA:List Addr:=(List.append [2,3,15,22,23,24,25] (List.append (i1.flatMap kJ) (List.append (i2.flatMap kJ) (List.append [100,107,109,110,112,113,114,115,116] (List.append (i3.flatMap kI) (List.append (i4.flatMap kI) (List.append (i5.flatMap kI) (List.append (i6.flatMap kI) (List.append (i7.flatMap kI) (List.append (i8.flatMap kI) (List.append (i9.flatMap kI) (List.append [399,401,402,404,405,406,408,409,411,412,413,415,416,418,419,420,422,423,425,426,427,429,430,432,433,434,436,437,439,440,441,442,443,444,445] (List.append (i10.flatMap kI) (List.append (i11.flatMap kI) (i12.flatMap kI)))))))))))))))
def K(P:Params):Frag:=kA.map fun a=>(a,(lF P).getD a o0)
def kOk:∀P,kA=(K P).map (·.1):=fun _=>by kernel_rfl
def sts0:List Stmt:=(List.range' 0 5).map top
def sts1:List Stmt:=(List.range' 5 8).map top
def sts2:List Stmt:=(List.range' 13 35).map top
def sts3:List Stmt:=(List.range' 48 29).map top
def sts4:List Stmt:=(List.range' 77 13).map top
def q:Program:={ pw with main:={ pw.main with body:=((List.append (List.range' 1 8) (List.append (List.range' 10 16) (List.append (List.range' 27 7) (List.append (List.range' 35 8) (List.append (List.range' 44 7) (List.append (List.range' 52 14) (List.append (List.range' 67 3) (List.range' 71 19))))))))).map top } }
noncomputable abbrev Xt:Shared->Bool:=fun s=>xlAt q [] s&&recOk (RowW.records (OpenRow.toRowW (OpenLaw.row PySem.Challenge.rw_moonseat_k04_rows_refused))) s
noncomputable def G2(p:Program)(w:World)(m:Nat)(an:Option Value)(n:Nat)(s:Shared)(t:Thread):=segRun treeTable p w m an 1 n s t
lay_quick G2
def g2{p:Program}{w:World}{m:Nat}{an:Option Value}{n:Nat}{s:Shared}{t:Thread}{r}(e:PySem.W.Fast.tw10880070632800087129 p w m an n s t=r):segRun treeTable p w m an 1 n s t=r:=by rw[<-PySem.W.Fast.te10880070632800087129]at e;exact e
noncomputable def G3(p:Program)(w:World)(m:Nat)(an:Option Value)(n:Nat)(s:SharedT)(t:Thread):=segRunT treeTable p w m an 1 n s t
lay_quick G3
def g3{p:Program}{w:World}{m:Nat}{an:Option Value}{n:Nat}{s:SharedT}{t:Thread}{r}(e:PySem.W.Fast.tw4145583888436359099 p w m an n s t=r):segRunT treeTable p w m an 1 n s t=r:=by rw[<-PySem.W.Fast.te4145583888436359099]at e;exact e
noncomputable def G4(p:Program)(w:World)(m:Nat)(an:Option Value)(n:Nat)(s:Shared)(t:Thread):=topRun treeTable p w m an n s t
lay_quick G4
def g4{p:Program}{w:World}{m:Nat}{an:Option Value}{n:Nat}{s:Shared}{t:Thread}{r}(e:PySem.W.Fast.tw6531939937263253831 p w m an n s t=r):topRun treeTable p w m an n s t=r:=by rw[<-PySem.W.Fast.te6531939937263253831]at e;exact e
noncomputable def G7(p:Program)(g h:Heap)(s:Shared):=(staticsOk (importedModules p.main.body) g h&&namesBound p h&&gensDone s&&laidKept g h)
lay_quick G7
def g7{p:Program}{g h:Heap}{s:Shared}{r}(e:PySem.W.Fast.tw9566738594451217396 p g h s=r):(staticsOk (importedModules p.main.body) g h&&namesBound p h&&gensDone s&&laidKept g h)=r:=by rw[<-PySem.W.Fast.te9566738594451217396]at e;exact e
noncomputable def G9(h:Heap):=(h.isNs mainGlobals&&(Array.mk []:Array GenState).size==0,h.objs.size,h.nsMap mainGlobals "__annotations__")
lay_quick G9
def g9{h:Heap}{r}(e:PySem.W.Fast.tw14578262778655688011 h=r):(h.isNs mainGlobals&&(Array.mk []:Array GenState).size==0,h.objs.size,h.nsMap mainGlobals "__annotations__")=r:=by rw[<-PySem.W.Fast.te14578262778655688011]at e;exact e
noncomputable def G5(q:Program)(R:WRecords)(md:List Str)(s:Shared):=(openSeen q [] md (fun s=>xlAt q [] s&&recOk R s) true s)
noncomputable def G6(q:Program):=openGood q []
lay_quick G5 G6
def g5{q:Program}{R:WRecords}{md:List Str}{s:Shared}{α:Type}(f:_->α)(e:f (PySem.W.Fast.tw5989712690265804088 q R md s)=f (PySem.W.Fast.tw12956129408465502666 q)):f (openSeen q [] md (fun s=>xlAt q [] s&&recOk R s) true s)=f (openGood q []):=by rw[<-PySem.W.Fast.te5989712690265804088,<-PySem.W.Fast.te12956129408465502666]at e;exact e
noncomputable def Lpre(w:World)(os:OsState):=topGo treeTable pw w 11 (some (.ref 6)) 12 (⟨boot_heap w.params,Array.mk [],boot_drawn,boot_toks,os⟩:Shared) (topStub pw)
def Rpre(w:World)(os:OsState):=some ((⟨hA w.params,Array.mk [],{},187,os⟩:Shared),(⟨denote treeTable cE,cE,(⟨0,0,0,0⟩:Pos),[topFrame (⟨0,0,0,0⟩:Pos)]⟩:Thread))
lay_quick Lpre Rpre
def Qpre:Lpre=Rpre:=PySem.W.Fast.te10476676399240795362.trans ((by kernel_rfl:PySem.W.Fast.tw10476676399240795362=PySem.W.Fast.tw9996742816549557572).trans PySem.W.Fast.te9996742816549557572.symm)
def Ppre(w:World)(os:OsState):topGo treeTable pw w 11 (some (.ref 6)) 12 (⟨boot_heap w.params,Array.mk [],boot_drawn,boot_toks,os⟩:Shared) (topStub pw)=some ((⟨hA w.params,Array.mk [],{},187,os⟩:Shared),(⟨denote treeTable cE,cE,(⟨0,0,0,0⟩:Pos),[topFrame (⟨0,0,0,0⟩:Pos)]⟩:Thread)):=congrFun (congrFun Qpre w) os
def Pblk(w:World)(os:OsState):segRun treeTable pw w 11 (some (.ref 6)) 1 1 (⟨hA w.params,Array.mk [],{},187,os⟩:Shared) (blockOf bd env cE (⟨0,0,0,0⟩:Pos) [topFrame (⟨0,0,0,0⟩:Pos)])=some (Flow.next,SharedT.abs (⟨t0 w.params,15,{},Array.mk [],{},187,os⟩:SharedT),cE,(⟨0,0,0,0⟩:Pos)):=g2 (by kernel_rfl)
def P0(w:World)(os:OsState):segRunT treeTable pw w 11 (some (.ref 6)) 1 835 (⟨t0 w.params,15,{},Array.mk [],{},187,os⟩:SharedT) (piecesOf sts0 env cE (⟨0,0,0,0⟩:Pos) [topFrame (⟨0,0,0,0⟩:Pos)])=some (Flow.next,(⟨t1 w.params,64,{},Array.mk [],{},255,os⟩:SharedT),cE,(⟨8,0,9,8⟩:Pos)):=g3 (by kernel_rfl)
def P1(w:World)(os:OsState):segRunT treeTable pw w 11 (some (.ref 6)) 1 983 (⟨t1 w.params,64,{},Array.mk [],{},255,os⟩:SharedT) (piecesOf sts1 env cE (⟨8,0,9,8⟩:Pos) [topFrame (⟨0,0,0,0⟩:Pos)])=some (Flow.next,(⟨t2 w.params,138,{},Array.mk [],{},355,os⟩:SharedT),cE,(⟨30,0,36,23⟩:Pos)):=g3 (by kernel_rfl)
def P2(w:World)(os:OsState):segRunT treeTable pw w 11 (some (.ref 6)) 1 995 (⟨t2 w.params,138,{},Array.mk [],{},355,os⟩:SharedT) (piecesOf sts2 env cE (⟨30,0,36,23⟩:Pos) [topFrame (⟨0,0,0,0⟩:Pos)])=some (Flow.next,(⟨t3 w.params,340,{},Array.mk [],{},662,os⟩:SharedT),cE,(⟨214,0,215,37⟩:Pos)):=g3 (by kernel_rfl)
def P3(w:World)(os:OsState):segRunT treeTable pw w 11 (some (.ref 6)) 1 997 (⟨t3 w.params,340,{},Array.mk [],{},662,os⟩:SharedT) (piecesOf sts3 env cE (⟨214,0,215,37⟩:Pos) [topFrame (⟨0,0,0,0⟩:Pos)])=some (Flow.next,(⟨t4 w.params,501,{},Array.mk [],{},908,os⟩:SharedT),cE,(⟨379,0,383,20⟩:Pos)):=g3 (by kernel_rfl)
def P4(w:World)(os:OsState):segRunT treeTable pw w 11 (some (.ref 6)) 1 425 (⟨t4 w.params,501,{},Array.mk [],{},908,os⟩:SharedT) (piecesOf sts4 env cE (⟨379,0,383,20⟩:Pos) [topFrame (⟨0,0,0,0⟩:Pos)])=some (Flow.next,(⟨t5 w.params,582,{},Array.mk [],{},1056,os⟩:SharedT),cE,(⟨522,0,548,99⟩:Pos)):=g3 (by kernel_rfl)
def Pfin(w:World)(os:OsState):topRun treeTable pw w 11 (some (.ref 6)) 2 (SharedT.abs (⟨t5 w.params,582,{},Array.mk [],{},1056,os⟩:SharedT)) (⟨doneF .next,cE,(⟨522,0,548,99⟩:Pos),[topFrame (⟨0,0,0,0⟩:Pos)]⟩:Thread)=some (⟨hF w.params,Array.mk [],{},1056,os⟩:Shared):=g4 (by kernel_rfl)
def Pc0(w:World)(os:OsState):(openSeen q [] (importedModules pw.main.body) Xt true (⟨hF w.params,Array.mk [],{},1056,os⟩:Shared)).1=(openGood q []).1:=g5 (·.1) (by kernel_rfl)
def Pc1(w:World)(os:OsState):(openSeen q [] (importedModules pw.main.body) Xt true (⟨hF w.params,Array.mk [],{},1056,os⟩:Shared)).2.1=(openGood q []).2.1:=g5 (·.2.1) (by kernel_rfl)
def Pc2(w:World)(os:OsState):(openSeen q [] (importedModules pw.main.body) Xt true (⟨hF w.params,Array.mk [],{},1056,os⟩:Shared)).2.2.1=(openGood q []).2.2.1:=g5 (·.2.2.1) (by kernel_rfl)
def Pc3(w:World)(os:OsState):(openSeen q [] (importedModules pw.main.body) Xt true (⟨hF w.params,Array.mk [],{},1056,os⟩:Shared)).2.2.2.1=(openGood q []).2.2.2.1:=g5 (·.2.2.2.1) (by kernel_rfl)
def Pc4(w:World)(os:OsState):(openSeen q [] (importedModules pw.main.body) Xt true (⟨hF w.params,Array.mk [],{},1056,os⟩:Shared)).2.2.2.2.1=(openGood q []).2.2.2.2.1:=g5 (·.2.2.2.2.1) (by kernel_rfl)
def Pc5(w:World)(os:OsState):(openSeen q [] (importedModules pw.main.body) Xt true (⟨hF w.params,Array.mk [],{},1056,os⟩:Shared)).2.2.2.2.2.1=(openGood q []).2.2.2.2.2.1:=g5 (·.2.2.2.2.2.1) (by kernel_rfl)
def Pc6(w:World)(os:OsState):(openSeen q [] (importedModules pw.main.body) Xt true (⟨hF w.params,Array.mk [],{},1056,os⟩:Shared)).2.2.2.2.2.2.1=(openGood q []).2.2.2.2.2.2.1:=g5 (·.2.2.2.2.2.2.1) (by kernel_rfl)
def Pc7(w:World)(os:OsState):(openSeen q [] (importedModules pw.main.body) Xt true (⟨hF w.params,Array.mk [],{},1056,os⟩:Shared)).2.2.2.2.2.2.2.1=(openGood q []).2.2.2.2.2.2.2.1:=g5 (·.2.2.2.2.2.2.2.1) (by kernel_rfl)
def Pc8(w:World)(os:OsState):(openSeen q [] (importedModules pw.main.body) Xt true (⟨hF w.params,Array.mk [],{},1056,os⟩:Shared)).2.2.2.2.2.2.2.2=(openGood q []).2.2.2.2.2.2.2.2:=g5 (·.2.2.2.2.2.2.2.2) (by kernel_rfl)
def Pa(w:World)(os:OsState):(staticsOk (importedModules pw.main.body) (boot_heap w.params) (hF w.params)&&namesBound pw (hF w.params)&&gensDone (⟨hF w.params,Array.mk [],{},1056,os⟩:Shared)&&laidKept (boot_heap w.params) (hF w.params))=true:=g7 (by kernel_rfl)
def Py(w:World)(os:OsState):kA.map ((⟨hF w.params,Array.mk [],{},1056,os⟩:Shared)).heap.get?=(K w.params).map fun p=>some p.2:=by kernel_rfl
def Pz(w:World):((boot_heap w.params).isNs mainGlobals&&(Array.mk []:Array GenState).size==0,(boot_heap w.params).objs.size,(boot_heap w.params).nsMap mainGlobals "__annotations__")=(true,11,(some (.ref 6))):=g9 (by kernel_rfl)
def run(w:World)(os:OsState):topRun treeTable pw w 11 (some (.ref 6)) (12+(1+(835+(983+(995+(997+(425+2))))))) (⟨boot_heap w.params,Array.mk [],boot_drawn,boot_toks,os⟩:Shared) (topStub pw)=some (⟨hF w.params,Array.mk [],{},1056,os⟩:Shared):=
 go_top (Ppre w os) (piece_block (Pblk w os) (piece_app (l:=sts0) (segRun_of (P0 w os)) (piece_app (l:=sts1) (segRun_of (P1 w os)) (piece_app (l:=sts2) (segRun_of (P2 w os)) (piece_app (l:=sts3) (segRun_of (P3 w os)) (piece_app (l:=sts4) (segRun_of (P4 w os)) (piece_nil (Pfin w os))))))))
def opn:opening pw=plainProg pw.main.scope.names:=by kernel_rfl
def fen(s:Shared):fenceModules? pw s=some s:=by kernel_rfl
def left:LeftO pw q [] Xt (Hook.obs (kHook K kA kOk)) (Hook.val (kHook K kA kOk)) 8586:=
 LeftO.of_pieces (H₀:=boot_heap) (H₁:=hF) (boot_open opn (by decide) fen) Pz run (by decide) fun w=>funext fun os=>Prod.ext (Pa w os) (Prod.ext (Prod.ext (Pc0 w os) (Prod.ext (Pc1 w os) (Prod.ext (Pc2 w os) (Prod.ext (Pc3 w os) (Prod.ext (Pc4 w os) (Prod.ext (Pc5 w os) (Prod.ext (Pc6 w os) (Prod.ext (Pc7 w os) (Pc8 w os))))))))) (Py w os))
end
end Hd
namespace M
open PySem L2 DS CP
def ku(K:W.Frag):Sp:=fun vs H Q _=>∃(a:Addr) (ns:List Int),vs=[.ref a]/\jC K H a (ns.map V.int)/\ns.length<=63/\∀H',Q (.bl true) H'
def Ci{K:W.Frag}{C:Addr}(vs:List V)(H:Hp)(Q:VK)(E:XK)(h:ku K vs H Q E):Vx K [false] (KP C) vs H Q E:=by
 obtain⟨a,ns,rfl,hS,hl,q⟩:=h;have e:je H []=H:=by funext b;rfl
 exact⟨[],[.scr ns],.bl true,(fun a h=>by cases h),⟨.inl (by rw[e];show DS.j8 K H (.scr ns) _;rw[DS.j8];exact⟨a,rfl,hS⟩),trivial⟩,AB C ns hl,fun v H' _ r=>by rw[DS.j8]at r;rw[r];exact q H'⟩
def WE(C:Addr):Df:=dM 8 0 "Broken.__init__" 113 0 [1,0,0] jr
def EQ{l:W.OpenLaw}{w:World}{K:W.Frag}{h:Heap}{mg:Tj}{fa:Addr}(C:Addr)(X:K.In h)(G:h.Ns mainGlobals mg)(hfa:mg "law" = some (.ref fa))
 (aC:W.nsIn K mainGlobals "Rules" = some (some (.ref C)))
 (pg:W.plainGet K C Str.empty=true)
 (hd:W.hasDictIn K C=true)
 (po:W.plainOver K C=true)
 (sa:W.findIn K (.ref C) "__setattr__" = some (some (.builtin "object.__setattr__")))
 (mk:W.makesIn K C=true)
 (kc:W.keepIn K (.ref C)=true)
 (A1:(l1 C).map (Uo K (T0 C).C)=(l1 C).map (Up K))
 (A_Rules___init__:Uo K (T1 C).C (JC C)=Up K (JC C))
 (A3:(l3 C).map (Uo K (T2 C).C)=(l3 C).map (Up K))
 (A__law_same:Uo K (T3 C).C (JO C)=Up K (JO C))
 (X1:xt.ex.map (Eo K)=xt.ex.map (Ep K))
 (X2:(xt.ex.map fun x=>xt.ex.map fun y=>W.kitOne K (.ref (jG K x)) (.ref (jG K y)))=xt.ex.map fun x=>xt.ex.map fun y=>some (x==y))
 (X3:xt.ct.map (fun h=>(W.nsIn K mainGlobals h.1,h.2.1.map (fun x=>W.exmOne K (.ref (jG K x)) (.ref (jG K h.1))),h.2.2.map fun x=>W.exmOne K (.ref (jG K x)) (.ref (jG K h.1))))=xt.ct.map fun h=>(some (some (.ref (jG K h.1))),h.2.1.map (fun _=>some true),h.2.2.map fun _=>some false))
 (X4:xt.xf.map (Es K)=xt.xf.map fun _=>(some (some (.builtin "BaseException.__getattribute__")),some none,true,true,some none))
 (X5:xt.xp.map (fun x=>(W.nsIn K mainGlobals x,W.excIn K (jG K x) W3 "ValueError.__new__"))=xt.xp.map fun x=>(some (some (.ref (jG K x))),true))
 (YBroken1:W.nsIn K mainGlobals "Broken" = some (some (.ref (jG K "Broken"))))
 (YBroken2:VB K (jG K "Broken") W3 "ValueError.__new__" 113=true)
 (YBroken3:W.keepIn K (.ref (jG K "Broken"))=true)
 (YBroken4:W.findIn K (.ref (jG K "Broken")) "__init__" = some (some (.ref 113)))
 (YBroken5:Uo K (jG K "Broken") (WE C)=Up K (WE C))
 (YBroken6:qw K "Broken" "place" = (some (some (.builtin "object.__setattr__")),true,some none,true))
 (YBroken7:qw K "Broken" "word" = (some (some (.builtin "object.__setattr__")),true,some none,true))
 (Al:Uo K C (uw C)=Up K (uw C))
 (hF:(T0 C).fl.map (W.findIn K (.ref C))=(T0 C).fl.map fun _=>some none)
 (hG:(T0 C).gs.map (fun p=>(qv (W.nsIn K mainGlobals p.1),(bV p.2).isSome))=(T0 C).gs.map fun p=>(bV p.2,true)):
  ∃fd:FuncData,(∀(s:Shared) (v:Value),BindsTo s fd ⟨[v],[]⟩ [("_law_script",v)])/\∀base:Heap,K.In base->base.Ns mainGlobals mg->FnOk l.prog w K mg base Y4 135 fa fd ["_law_script"] (ku K):=by
 have XG:∀x v,W.nsIn K mainGlobals x=some (some v)->mg x=some v:=fun x v a=>W.mg_of X G a;obtain⟨f_law,KP,a_law,F_law⟩:=k7 Al rfl;have e:=hfa.symm.trans (XG _ _ a_law);cases e;obtain⟨_,_,kV,dc,pm,an,cd,ct,_,rfl,_,_⟩:=F_law.ex;refine⟨W.fnOf "law" "law" (defArgs (uw C).st) (defBody (uw C).st) (defScope (uw C).st) .none kV dc pm an cd ct,fun s v=>.of_eq rfl,fun base _ _=>?_⟩;have h:TOk l.prog w K mg base 2 (T0 C):=⟨fun p hp=>Hc XG (fun x a=>W.mg_none_of X G a) (He hG p hp),(fun _ h=>by cases h),⟨pg,hd,po,sa⟩,Yb hF,Hf XG X1 X2 X3 X4,Hg X5,fun x fs e=>?_⟩
 rotate_left
 ·have e:(if (x==("Broken" : Str))=true then some (["place", "word"]:List Str)else none)=some fs:=by
   have e:List.lookup x [(("Broken" : Str),(["place", "word"]:List Str))]=some fs:=e;rw[List.lookup_cons]at e;cases z:x==("Broken" : Str) <;> rw[z]at e <;> simpa using e
  split at e
  ·cases e;have ex:=vLa (by assumption:(x==("Broken" : Str))=true);subst ex;exact Et YBroken1 YBroken2 YBroken3 YBroken4 (k8 YBroken5 rfl) YBroken6 YBroken7 (by kernel_rfl) rfl (by kernel_rfl) (by kernel_rfl) (by kernel_rfl) (V4 (by kernel_rfl))
  ·cases e
 have h:=TOk.adds XG (l1 C) h (k1 C) A1;have h:TOk l.prog w K mg base 20 (T2 C):=TOk.I XG (d:=(JC C).de) h (k8 A_Rules___init__ rfl) (by kernel_rfl) (Gv C) (by kernel_rfl) (V4 (by kernel_rfl)) mk kc aC (gl C);have h:=TOk.adds XG (l3 C) h (k3 C) A3;have h:TOk l.prog w K mg base 134 (T4 C):=TOk.R XG (d:=(JO C).de) h (k7 A__law_same rfl) (jJ C) (Za C) 6 (fun _=>rfl) (fun _=>rfl) (WK C) (by kernel_rfl) (V4 (by kernel_rfl));exact(bU (d:=(uw C).de) h F_law (Hq C) rfl).imp Ci
def walk{l:W.OpenLaw}{q:Program}{loose:List Str}{XP:(Str->Option Value)->Heap->Prop}{YP:World->Heap->Prop}{d:DefRec}{K:Params->W.Frag}(hn:l.most=some 63)(hdf:d.params.defaults=[])
  (hY:∀(w:World) (h:Heap),YP w h->(K w.params).In h)
  (F:∀(w:World) (mg:Tj) (fa:Addr) (h:Heap),(K w.params).In h->h.Ns mainGlobals mg->mg d.name=some (.ref fa)->
   ∃fd:FuncData,(∀(s:Shared) (u:Value),BindsTo s fd ⟨[u],[]⟩ [("_law_script",u)])/\∀base:Heap,(K w.params).In base->base.Ns mainGlobals mg->FnOk l.prog w (K w.params) mg base Y4 135 fa fd ["_law_script"] (ku (K w.params))):
  W.WalkO q loose XP YP l.row.toRowW d [] (fun f vs=>PySem.call f vs):=
 L2.Bp (n:=63) (k:=135) (x := "_law_script") (CX:=fun _=>Y4) (sp:=fun w=>ku (K w.params)) hn (by decide) hdf ⟨rfl,by decide,by decide⟩ hY F (fun _ _ a ns hl _ hS=>⟨a,ns,rfl,hS,hl,fun _=>rfl⟩) fun _ _ _ _ _ z=>z
end M
open PySem PySem.W PyProof.Rows
set_option maxHeartbeats 0 in
theorem PySem.Challenge.cw_moonseat_k04_rows_refused_holds : PySem.Challenge.rw_moonseat_k04_rows_refused.Holds := by
 w_on;o_law
 refine holds_open (q:=Hd.q) (loose:=[]) (Xt:=Hd.Xt) (XP:=XL Hd.q []) (Yf:=Hook.obs (kHook Hd.K Hd.kA Hd.kOk)) (Ya:=Hook.val (kHook Hd.K Hd.kA Hd.kOk)) (YP:=Hook.says (kHook Hd.K Hd.kA Hd.kOk)) (N:=8586) Hd.left (Hook.of _) (Hook.keeps _) (fun s e=>xl_of s (Bool.and_eq_true_iff.mp e).1) XL.keeps (by rfl) (by rfl) (by rfl) (fun s e=>recFacts_of (Bool.and_eq_true_iff.mp e).2) (by rfl) (by assumption) (by decide +kernel) ⟨rfl,rfl,rfl,rfl,rfl,by decide +kernel⟩ ?hw ?hc
 case hw=>w_witness2
 exact M.walk (l:=PySem.Challenge.rw_moonseat_k04_rows_refused) rfl rfl (fun w h Y=>kIn_of Y) fun w mg fa h KX G hmg=>M.EQ 443 KX G hmg (by kernel_rfl) (by kernel_rfl) (by kernel_rfl) (by kernel_rfl) (by kernel_rfl) (by kernel_rfl) (by kernel_rfl) (by kernel_rfl) (by kernel_rfl) (by kernel_rfl) (by kernel_rfl) (by kernel_rfl) (by kernel_rfl) (by kernel_rfl) (by kernel_rfl) (by kernel_rfl) (by kernel_rfl) (by kernel_rfl) (by kernel_rfl) (by kernel_rfl) (by kernel_rfl) (by kernel_rfl) (by kernel_rfl) (by kernel_rfl) (by kernel_rfl) (by kernel_rfl)
