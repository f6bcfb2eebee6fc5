import PyProof.Rows.All
import Wide.All
import OpenK.AllK
import Wide.FinOn
import Lean
import PyProof.EqAt
import PyProof.EqKinds
import PyProof.TupleCall
import PyProof.NeKinds
import PyProof.IsiTupleOf
import PyProof.IsiPairs
import PyProof.IsiHeapPairs
import PyProof.ConsumeWalk
import PyProof.EnumFor
import PyProof.EnumMake
import PyProof.AutoSeq1
import KE.KIntText
import PyProof.Rows.StrSplitJoin
import PyProof.Rows.StrNews2
import PyProof.FString5
import PyProof.Rows.FStr
import PyProof.CollectIter
import PyProof.Rows.CallKwBuiltin
import PyProof.Draws
import PyProof.ListTruth
import PyProof.SeqRoads
import PyProof.FactsAll.str_0
import PyProof.FactsAll.str_5
import PyProof.FactsAll.str_6
import PyProof.FactsAll.str_7
import PyProof.FactsAll.tuple_0
import PyProof.FactsAll.list_1
import PyProof.FactsAll.tuple_2
import PyProof.FactsAll.tuple_3
import PyProof.FactsAll.list_3
import PyProof.AutoListH
import PyProof.MinMaxWalk
import PyProof.FactsAll.list_2
import PyProof.ListRange
import KE.KRevIter
import PyProof.SumWalkG
import PySem.Challenge.RW_moonseat_k39_rule_books_written
section
open PySem PySem.Spec PyProof.Rows
def wAa:=@wpAny_bind
def wBa:=@wpAny_pure
def wCa:=@wpAny_mono
def wDa:=@wpAny_holding
def wIa:=@Heap.get?_push_of_some
def wJa:=@Heap.get?_push_size
def wLa:=@Heap.lt_size
def wMa:=@List.mem_cons_of_mem
def wNa:=@List.mem_cons_self
def wPa:=@Nat.le_refl
def wQa:=@Nat.le_of_lt
def wSa:=@Nat.le_trans
def wTa:=@Nat.ne_of_lt
def wUa:=@Nat.lt_irrefl
def wYa:=@List.mem_of_getElem?
def vAa:=@decide_eq_true
def vBa:=@decide_eq_false
def vCa:=@of_decide_eq_true
def vDa:=@absurd
def vFa:=@Option.some.inj
def vIa:=@List.mem_append_left
def vJa:=@List.mem_append_right
def vKa:=@Nat.le_add_right
def vLa:=@eq_of_beq
def vNa:=@Bool.false_ne_true
def vOa:=@wpAny_standAt
def vTa:=@wpAny_newObj_type
end
noncomputable section
set_option Elab.async false
set_option linter.all false
set_option maxRecDepth 100000
set_option maxHeartbeats 1000000
namespace L2
open PySem PySem.Spec PyProof.Rows
inductive KD where
 | i (n:Int) | s (x:Str) | t (l:List KD)
noncomputable instance:DecidableEq KD:=fun _ _=>Classical.propDecidable _
mutual
noncomputable def js(h:Heap):KD->Value->Prop
 | .i n,v=>(∃t,v=.int n t)∨∃b:Bool,v=.bool b/\n=(if b then 1 else 0)
 | .s x,v=>∃t,v=.str x t
 | .t l,v=>∃a its,v=.ref a/\h.IsTuple a its/\jA h l its.toList
noncomputable def jA(h:Heap):List KD->List Value->Prop
 | [],vs=>vs=[]
 | k::ks,vs=>∃v r,vs=v::r/\js h k v/\jA h ks r
end
mutual
noncomputable def KD.dep:KD->Nat
 | .i _=>0
 | .s _=>0
 | .t l=>YR l+1
noncomputable def YR:List KD->Nat
 | []=>0
 | k::ks=>max k.dep (YR ks)
end
mutual
noncomputable def KD.drw:KD->Nat
 | .i _=>1
 | .s _=>1
 | .t l=>vS l+1
noncomputable def vS:List KD->Nat
 | []=>0
 | k::ks=>k.drw+vS ks
end
mutual
noncomputable def ZF(w:World):KD->Int
 | .i n=>hashInt n
 | .s x=>hashStr w x
 | .t l=>reduceHash (Builtin.Tuple.tupleHashOf (Zb w l))
noncomputable def Zb(w:World):List KD->List Int
 | []=>[]
 | k::ks=>ZF w k::Zb w ks
end
mutual
theorem js.inj{h:Heap}:∀{x y:KD} {v:Value},js h x v->js h y v->x=y
 | .i n,.i m,v,p,q=>by
  rw[js]at p;rw[js]at q;rcases p with⟨t,rfl⟩ | ⟨b,rfl,rfl⟩
  ·rcases q with⟨t,e⟩ | ⟨b,e,_⟩ <;> cases e
   rfl
  ·rcases q with⟨t,e⟩ | ⟨b,e,rfl⟩ <;> cases e
   rfl
 | .s n,.s m,v,p,q=>by
  rw[js]at p;rw[js]at q;obtain⟨t,rfl⟩:=p;obtain⟨t,e⟩:=q;cases e;rfl
 | .t n,.t m,v,p,q=>by
  rw[js]at p;rw[js]at q;obtain⟨a,its,rfl,o1,p⟩:=p;obtain⟨a',its',e,o2,q⟩:=q;cases e;obtain⟨o,g,_,_,d⟩:=o1;obtain⟨o',g',_,_,d'⟩:=o2;rw[g]at g';cases g';rw[d]at d';cases d';rw[jA.inj p q]
 | .i n,.s m,v,p,q=>by
  rw[js]at p;rw[js]at q;obtain⟨t,rfl⟩:=q;rcases p with⟨t,e⟩ | ⟨b,e,_⟩ <;> cases e
 | .i n,.t m,v,p,q=>by
  rw[js]at p;rw[js]at q;obtain⟨_,_,rfl,_⟩:=q;rcases p with⟨t,e⟩ | ⟨b,e,_⟩ <;> cases e
 | .s n,.i m,v,p,q=>by
  rw[js]at p;rw[js]at q;obtain⟨t,rfl⟩:=p;rcases q with⟨t,e⟩ | ⟨b,e,_⟩ <;> cases e
 | .s n,.t m,v,p,q=>by
  rw[js]at p;rw[js]at q;obtain⟨t,rfl⟩:=p;obtain⟨_,_,e,_⟩:=q;cases e
 | .t n,.i m,v,p,q=>by
  rw[js]at p;rw[js]at q;obtain⟨_,_,rfl,_⟩:=p;rcases q with⟨t,e⟩ | ⟨b,e,_⟩ <;> cases e
 | .t n,.s m,v,p,q=>by
  rw[js]at p;rw[js]at q;obtain⟨_,_,rfl,_⟩:=p;obtain⟨t,e⟩:=q;cases e
theorem jA.inj{h:Heap}:∀{x y:List KD} {v:List Value},jA h x v->jA h y v->x=y
 | [],[],_,_,_=>rfl
 | [],_::_,_,p,q=>by
  rw[jA]at p;rw[jA]at q;subst p;obtain⟨_,_,e,_⟩:=q;cases e
 | _::_,[],_,p,q=>by
  rw[jA]at p;rw[jA]at q;subst q;obtain⟨_,_,e,_⟩:=p;cases e
 | x::xs,y::ys,_,p,q=>by
  rw[jA]at p;rw[jA]at q;obtain⟨v,r,rfl,p1,p2⟩:=p;obtain⟨v',r',e,q1,q2⟩:=q;cases e;rw[js.inj p1 q1,jA.inj p2 q2]
end
mutual
theorem js.keep{h h':Heap}(m:∀a its,h.IsTuple a its->h'.IsTuple a its):∀{k:KD} {v:Value},js h k v->js h' k v
 | .i _,_,p=>by rw[js]at p⊢;exact p
 | .s _,_,p=>by rw[js]at p⊢;exact p
 | .t l,_,p=>by
  rw[js]at p⊢;obtain⟨a,its,rfl,o,p⟩:=p;exact⟨a,its,rfl,m a its o,jA.keep m p⟩
theorem jA.keep{h h':Heap}(m:∀a its,h.IsTuple a its->h'.IsTuple a its):∀{k:List KD} {v:List Value},jA h k v->jA h' k v
 | [],_,p=>by rw[jA]at p⊢;exact p
 | k::ks,_,p=>by
  rw[jA]at p⊢;obtain⟨v,r,rfl,p1,p2⟩:=p;exact⟨v,r,rfl,js.keep m p1,jA.keep m p2⟩
end
section
variable {prog:Program} {w:World} {E:Value->Shared->Prop}
theorem kr{A:Around}{s:Shared}{b:Bool}{Q:Int->Shared->Prop}(hu:A.units < cLine)(h:Q (hashInt (if b then 1 else 0)) { s with toks:=s.toks+1 }):wpAny (model prog w) A (pyHash (.bool b)) Q E s:=by
 refine PySem.W.pyHash_slot (v:=.bool b) (T := "bool") rfl F.slot_bool_hash entry_int_hash (args_int_hash _) (beq_builtin_none _) (.inr hu) ?_;cases b
 ·exact(show wpAny _ _ (do ret (<-mkInt 0)) _ _ s from wAa (wpAny_mkInt (wBa ⟨_,_,rfl,by
    have e:reduceHash 0=hashInt 0:=by decide
    rw[e];exact h⟩)))
 ·exact(show wpAny _ _ (do ret (<-mkInt 1)) _ _ s from wAa (wpAny_mkInt (wBa ⟨_,_,rfl,by
    have e:reduceHash 1=hashInt 1:=by decide
    rw[e];exact h⟩)))
mutual
theorem gy:∀(k:KD) (v:Value) (A:Around) (s:Shared) (Q:Int->Shared->Prop),js s.heap k v->A.units+k.dep < cLine->Q (ZF w k) { s with toks:=s.toks+k.drw }->wpAny (model prog w) A (pyHash v) Q E s
 | .i n,v,A,s,Q,p,hu,h=>by
  rw[js]at p;rw[ZF,KD.drw]at h;rcases p with⟨t,rfl⟩ | ⟨b,rfl,rfl⟩
  ·exact wpAny_pyHash_int h
  ·exact kr (by rw[KD.dep]at hu;exact hu) h
 | .s x,v,A,s,Q,p,hu,h=>by
  rw[js]at p;rw[ZF,KD.drw]at h;obtain⟨t,rfl⟩:=p;exact wpAny_pyHash_str h
 | .t l,v,A,s,Q,p,hu,h=>by
  rw[js]at p;rw[ZF,KD.drw]at h;rw[KD.dep]at hu;obtain⟨a,its,rfl,o,p⟩:=p;obtain⟨ob,g,c,n,dt⟩:=o;refine PySem.W.pyHash_slot (v:=.ref a) (T := "tuple") ⟨_,g,c⟩ F.slot_tuple_hash F.entry_tuple_hash (F.args_tuple_hash_1 _) (beq_builtin_none _) (.inr (by omega)) ?_;refine(show wpAny _ _ (Builtin.Tuple.tupleItemsOf (.ref a) >>= _) _ _ s from wAa (wpAny_tupleItemsOf g dt (wAa ?_)));rw[<-Array.forIn_toList];refine uK l its.toList A.in1 s #[] _ p (by rw[Around.in1_units];omega) fun b' hb=>?_;show wpAny _ _ (retInt (Builtin.Tuple.tupleHashOf b'.toList)) _ _ _;rw[hb];exact wAa (wpAny_mkInt (wBa ⟨_,_,rfl,by simpa[Nat.add_assoc]using h⟩))
theorem uK:∀(ks:List KD) (vs:List Value) (A:Around) (s:Shared) (b:Array Int) (Q:Array Int->Shared->Prop),jA s.heap ks vs->A.units+YR ks < cLine->(∀b':Array Int,b'.toList=b.toList++Zb w ks->Q b' { s with toks:=s.toks+vS ks })->
  wpAny (model prog w) A (forIn vs b fun x r=>do let h<-pyHash x;pure (ForInStep.yield (r.push h))) Q E s
 | [],vs,A,s,b,Q,p,hu,h=>by
  rw[jA]at p;subst p;rw[List.forIn_nil];exact wBa (by simpa[vS,Zb]using h b)
 | k::ks,vs,A,s,b,Q,p,hu,h=>by
  rw[jA]at p;rw[YR]at hu;obtain⟨v,r,rfl,p1,p2⟩:=p;rw[List.forIn_cons];refine wAa (wAa (gy k v A s _ p1 (by omega) (wBa ?_)));refine uK ks r A _ _ Q p2 (by omega) fun b' hb=>?_;have:=h b' (by rw[hb,Zb];simp);rw[vS]at this;simpa[Nat.add_assoc]using this
end
end
section
open SeqAt
variable {s:Shared}
theorem zt{α:Type}[DecidableEq α]{a b:α}{c:Bool}(h:c=true↔a=b):decide (a=b)=c:=by
 cases c with
 | true=>exact vAa (h.mp rfl)
 | false=>exact vBa fun z=>by have:=h.mpr z;cases this
theorem jA.len{h:Heap}:∀{ks:List KD} {vs:List Value},jA h ks vs->vs.length=ks.length
 | [],_,p=>by rw[jA]at p;subst p;rfl
 | k::ks,_,p=>by
  rw[jA]at p;obtain⟨v,r,rfl,_,p2⟩:=p;simp[p2.len]
theorem jA.get{h:Heap}:∀{ks:List KD} {vs:List Value} {j:Nat} {v:Value},jA h ks vs->vs[j]?=some v->∃k,ks[j]?=some k/\js h k v
 | [],_,_,_,p,e=>by rw[jA]at p;subst p;simp at e
 | k::ks,_,j,v',p,e=>by
  rw[jA]at p;obtain⟨v,r,rfl,p1,p2⟩:=p;cases j with
  | zero=>cases e;exact⟨k,rfl,p1⟩
  | succ j=>exact p2.get (j:=j) e
theorem VU:∀{ks:List KD} {k:KD},k∈ks->k.dep<=YR ks
 | [],_,h=>by cases h
 | x::xs,k,h=>by
  rw[YR];rcases List.mem_cons.mp h with rfl | h
  ·omega
  ·have:=VU h;omega
theorem Wf:∀(n:Nat) (x y:KD) (u v:Value) (A:Around),x.dep<=n->js s.heap x u->js s.heap y v->A.units+n < cLine->EqAt A s u v (decide (x=y))
 | n,.i a,.i b,u,v,A,hn,p,q,hu=>by
  rw[js]at p;rw[js]at q;rcases p with⟨t,rfl⟩ | ⟨c,rfl,rfl⟩
  ·rcases q with⟨t',rfl⟩ | ⟨c',rfl,rfl⟩
   ·rw[zt (c:=(a==b)) (by simp)];exact .int_int a t b t'
   ·rw[zt (c:=(a==if c' then 1 else 0)) (by simp)];exact .int_bool a t c'
  ·rcases q with⟨t',rfl⟩ | ⟨c',rfl,rfl⟩
   ·rw[zt (c:=((if c then 1 else 0)==b)) (by simp)];exact .bool_int c b t'
   ·rw[zt (c:=(c==c')) (by cases c <;> cases c' <;> simp)];exact .bool_bool c c'
 | n,.s a,.s b,u,v,A,hn,p,q,hu=>by
  rw[js]at p;rw[js]at q;obtain⟨t,rfl⟩:=p;obtain⟨t',rfl⟩:=q;rw[zt (c:=(a==b)) (by simp)];exact .str_str a t b t'
 | n,.i a,.s b,u,v,A,hn,p,q,hu=>by
  rw[js]at p;rw[js]at q;obtain⟨t',rfl⟩:=q;rw[decide_eq_false (by intro z;cases z)];rcases p with⟨t,rfl⟩ | ⟨c,rfl,rfl⟩
  ·exact .int_str a t b t'
  ·exact .bool_str c b t'
 | n,.s a,.i b,u,v,A,hn,p,q,hu=>by
  rw[js]at p;rw[js]at q;obtain⟨t',rfl⟩:=p;rw[decide_eq_false (by intro z;cases z)];rcases q with⟨t,rfl⟩ | ⟨c,rfl,rfl⟩
  ·exact .str_int a t' b t
  ·exact .str_bool a t' c
 | n,.i a,.t b,u,v,A,hn,p,q,hu=>by
  rw[js]at p;rw[js]at q;obtain⟨e,its,rfl,o,_⟩:=q;rw[decide_eq_false (by intro z;cases z)];rcases p with⟨t,rfl⟩ | ⟨c,rfl,rfl⟩
  ·exact .int_tuple a t o (by omega)
  ·exact .bool_tuple c o (by omega)
 | n,.t a,.i b,u,v,A,hn,p,q,hu=>by
  rw[js]at p;rw[js]at q;obtain⟨e,its,rfl,o,_⟩:=p;rw[decide_eq_false (by intro z;cases z)];rcases q with⟨t,rfl⟩ | ⟨c,rfl,rfl⟩
  ·exact .tuple_int b t o (by omega)
  ·exact .tuple_bool c o (by omega)
 | n,.s a,.t b,u,v,A,hn,p,q,hu=>by
  rw[js]at p;rw[js]at q;obtain⟨e,its,rfl,o,_⟩:=q;obtain⟨t,rfl⟩:=p;rw[decide_eq_false (by intro z;cases z)];exact .str_tuple a t o (by omega)
 | n,.t a,.s b,u,v,A,hn,p,q,hu=>by
  rw[js]at p;rw[js]at q;obtain⟨e,its,rfl,o,_⟩:=p;obtain⟨t,rfl⟩:=q;rw[decide_eq_false (by intro z;cases z)];exact .tuple_str b t o (by omega)
 | 0,.t a,.t b,u,v,A,hn,p,q,hu=>by rw[KD.dep]at hn;omega
 | n+1,.t a,.t b,u,v,A,hn,p,q,hu=>by
  rw[KD.dep]at hn;rw[js]at p;rw[js]at q;obtain⟨l,its,rfl,o,p⟩:=p;obtain⟨l',its',rfl,o',q⟩:=q;by_cases hl:l=l'
  ·subst hl;obtain⟨z,g,_,_,d⟩:=o;obtain⟨z',g',_,_,d'⟩:=o';rw[g]at g';cases g';rw[d]at d';cases d';rw[jA.inj p q,decide_eq_true rfl];exact .same _
  ·have l1:=p.len;have l2:=q.len;have ev:=RcAt.tuples (A:=A) (e:=fun j=>decide (a[j]?=b[j]?)) o o' (by omega) fun j h1 h2=>by
    have g1:its.toList[j]?=some its[j]:=by simp[h1]
    have g2:its'.toList[j]?=some its'[j]:=by simp[h2]
    obtain⟨k1,e1,r1⟩:=p.get g1;obtain⟨k2,e2,r2⟩:=q.get g2;have:=Wf n k1 k2 _ _ A.in1 (wSa (VU (wYa e1)) (by omega)) r1 r2 (by rw[Around.in1_units];omega);rw[e1,e2];have ee:decide (some k1=some k2)=decide (k1=k2):=by
     by_cases z:k1=k2
     ·rw[decide_eq_true z,decide_eq_true (by rw[z])]
     ·rw[decide_eq_false z,decide_eq_false (fun y=>z (Option.some.inj y))]
    rw[ee];exact this
   refine .of_refs hl ?_;rw[zt (c:=((List.range (min its.size its'.size)).all (fun j=>decide (a[j]?=b[j]?))&&its.size==its'.size))]
   ·exact ev
   ·rw[Bool.and_eq_true,beq_iff_eq,List.all_eq_true];have z1:its.size=a.length:=by rw[<-l1];simp
    have z2:its'.size=b.length:=by rw[<-l2];simp
    rw[z1,z2];constructor
    ·rintro⟨h1,h2⟩;congr 1;refine List.ext_getElem? fun j=>?_;by_cases hj:j < a.length
     ·exact vCa (h1 j (by simp;omega))
     ·rw[List.getElem?_eq_none (by omega),List.getElem?_eq_none (by omega)]
    ·intro h;cases h;exact⟨fun j _=>by simp,rfl⟩
end
section
variable {prog:Program} {w:World} {E:Value->Shared->Prop} {s:Shared}
theorem uL:∀(n:Nat) (k:KD) (v:Value) (A:Around) (Q:Bool->Shared->Prop),k.dep<=n->js s.heap k v->Q true s->wpAny (model prog w) A (eqIsQuiet n v) Q E s
 | n,.i _,v,A,Q,_,p,h=>by
  rw[js]at p;rcases p with⟨t,rfl⟩ | ⟨b,rfl,_⟩
  ·rw[eqIsQuiet_byValue n (v:=.int _ t) rfl];exact wBa h
  ·rw[eqIsQuiet_byValue n (v:=.bool b) rfl];exact wBa h
 | n,.s x,v,A,Q,_,p,h=>by
  rw[js]at p;obtain⟨t,rfl⟩:=p;rw[eqIsQuiet_byValue n (v:=.str x t) rfl];exact wBa h
 | 0,.t l,v,A,Q,hn,p,h=>by rw[KD.dep]at hn;omega
 | n+1,.t l,v,A,Q,hn,p,h=>by
  rw[KD.dep]at hn;rw[js]at p;obtain⟨a,its,rfl,o,p⟩:=p;obtain⟨ob,g,c,m,dt⟩:=o;have ty:s.TypeIs (.ref a) "tuple" := ⟨ob,g,c⟩
  unfold eqIsQuiet;refine wAa (wpAny_specialOf ty F.slot_tuple_eq.lookup ?_);refine(show wpAny _ _ (isInstance (.ref a) (.type "tuple") >>= _) _ _ s from wAa (wpAny_isInstance ty isSubtype_tuple_tuple ?_));rw[if_neg (by decide)];refine wAa (wpAny_seqItems g dt (wAa ?_));rw[Option.getD_some,<-Array.forIn_toList];have ql:∀(rest:List Value),(∃ks,jA s.heap ks rest/\YR ks<=n)->wpAny (model prog w) A (forIn rest ((none:Option Bool),PUnit.unit) fun y r=>do
    if (!(<-eqIsQuiet n y))=true then pure (ForInStep.done (some false,PUnit.unit))else do pure PUnit.unit;pure (ForInStep.yield (none,PUnit.unit))) (fun r s'=>r=(none,PUnit.unit)/\s'=s) E s:=by
   intro rest;induction rest with
   | nil=>intro _;rw[List.forIn_nil];exact wBa ⟨rfl,rfl⟩
   | cons y rest ih=>
    rintro⟨ks,hk,hd⟩;cases ks with
    | nil=>rw[jA]at hk;cases hk
    | cons k ks=>
     rw[jA]at hk;obtain⟨_,_,e,k1,k2⟩:=hk;cases e;rw[YR]at hd;rw[List.forIn_cons];refine wAa (wAa (uL n k y A _ (by omega) k1 ?_));rw[if_neg (by decide)];exact wBa (ih ⟨ks,k2,by omega⟩)
  refine wCa (ql its.toList ⟨l,p,by omega⟩) ?_ fun _ _ x=>x;rintro r s' ⟨rfl,rfl⟩;exact wBa h
end
def QE(prog:Program)(w:World):HeapKind prog w KD where
 is:=fun h k a=>js h k (.ref a)/\k.dep<=8
 hash:=ZF w
 draws:=KD.drw
 room:=fun A=>A.units+8 < cLine
 inj:=fun p q=>p.1.inj q.1
 keeps:=fun p ho hd hs=>by
  refine⟨p.1.keep fun b its t=>?_,p.2⟩;obtain⟨ob,g,c,m,dt⟩:=t;refine⟨ob,(hs.2 b ?_).trans g,c,m,dt⟩;rintro rfl;rw[ho]at g;cases g;rw[hd]at dt;cases dt
 pyHash:=fun hu p h=>gy _ _ _ _ _ p.1 (by have:=p.2;omega) h
 eqBool:=fun hu p q h=>Wf 8 _ _ _ _ _ p.2 p.1 q.1 hu _ _ _ _ h
 quiet:=fun p h=>uL 8 _ _ _ _ p.2 p.1 h
noncomputable abbrev Ye:=Sum Int Str
noncomputable def Wg:Ye->Value->Bool
 | .inl k,v=>Value.isInt k v
 | .inr x,v=>Value.isStrOf x v
noncomputable def BV(w:World):Ye->Int
 | .inl k=>hashInt k
 | .inr x=>hashStr w x
theorem jW:∀{k:Ye} {v:Value},Wg k v=true->(∃i t,k=Sum.inl i/\v=Value.int i t)∨(∃x t,k=Sum.inr x/\v=Value.str x t)
 | .inl i,v,h=>by
  obtain⟨t,e⟩:=Value.isInt_shape (k:=i) (v:=v) h;exact .inl ⟨i,t,rfl,e⟩
 | .inr x,v,h=>by
  obtain⟨t,e⟩:=Value.isStrOf_shape (x:=x) (v:=v) h;exact .inr ⟨x,t,rfl,e⟩
theorem QF(a b:Int):decide ((Sum.inl a:Ye)=Sum.inl b)=(a==b):=by
 by_cases e:a=b
 ·subst e;simp
 ·have h:¬(Sum.inl a:Ye)=Sum.inl b:=fun q=>e (Sum.inl.inj q);rw[decide_eq_false h];exact(beq_eq_false_iff_ne.mpr e).symm
theorem QG(a b:Str):decide ((Sum.inr a:Ye)=Sum.inr b)=decide (a=b):=by
 by_cases e:a=b
 ·subst e;simp
 ·have h:¬(Sum.inr a:Ye)=Sum.inr b:=fun q=>e (Sum.inr.inj q);rw[decide_eq_false h,decide_eq_false e]
theorem QH(a:Int)(b:Str):decide ((Sum.inl a:Ye)=Sum.inr b)=false:=vBa (fun q=>nomatch q)
theorem QI(a:Str)(b:Int):decide ((Sum.inr a:Ye)=Sum.inl b)=false:=vBa (fun q=>nomatch q)
def Vs(prog:Program)(w:World):PySem.KeyKind prog w Ye where
 is:=Wg
 hash:=BV w
 inj:=fun v a b ha hb=>by
  rcases jW ha with⟨i,t,rfl,rfl⟩ | ⟨x,t,rfl,rfl⟩
  ·rcases jW hb with⟨j,u,rfl,e⟩ | ⟨y,u,rfl,e⟩
   ·injection e with e1 _;rw[e1]
   ·exact nomatch e
  ·rcases jW hb with⟨j,u,rfl,e⟩ | ⟨y,u,rfl,e⟩
   ·exact nomatch e
   ·injection e with e1 _;rw[e1]
 byValue:=fun k v h=>by
  rcases jW h with⟨i,t,rfl,rfl⟩ | ⟨x,t,rfl,rfl⟩ <;> rfl
 pyHash:=fun hv h=>by
  rcases jW hv with⟨i,t,rfl,rfl⟩ | ⟨x,t,rfl,rfl⟩
  ·exact wpAny_pyHash_int h
  ·exact wpAny_pyHash_str h
 eqBool:=fun hu hv h=>by
  rcases jW hu with⟨i,t,rfl,rfl⟩ | ⟨x,t,rfl,rfl⟩
  ·rcases jW hv with⟨j,u,rfl,rfl⟩ | ⟨y,u,rfl,rfl⟩
   ·rw[QF]at h;exact wpAny_eqBool_int h
   ·rw[QH]at h;exact SeqAt.EqAt.int_str i t y u _ _ _ _ h
  ·rcases jW hv with⟨j,u,rfl,rfl⟩ | ⟨y,u,rfl,rfl⟩
   ·rw[QI]at h;exact SeqAt.EqAt.str_int x t j u _ _ _ _ h
   ·rw[QG]at h;exact wpAny_eqBool_str h
 «strs»:=fun k x t v h=>by
  rcases jW h with⟨i,u,rfl,e⟩ | ⟨y,u,rfl,e⟩
  ·exact nomatch e
  ·injection e with e1 _;subst e1;cases v <;> rfl
inductive V where
 | non | bl (b:Bool) | int (i:Int) | str (x:Str) | byt (b:Array UInt8) | flt (b:UInt64) | ref (a:Addr) | ty (n:String)
 deriving DecidableEq
def jh:V->Value->Prop
 | .non,u=>u=Value.none
 | .bl b,u=>u=Value.bool b
 | .int i,u=>∃t,u=Value.int i t
 | .str x,u=>∃t,u=Value.str x t
 | .byt b,u=>∃t,u=Value.bytes b t
 | .flt b,u=>∃t,u=Value.float b t
 | .ref a,u=>u=Value.ref a
 | .ty n,u=>u=Value.type n
abbrev jb:List V->List Value->Prop:=Paired jh
theorem jb.length{xs:List V}{us:List Value}(r:jb xs us):xs.length=us.length:=Paired.length r
theorem jb.get:∀{xs:List V} {us:List Value} {i:Nat} {x:V},jb xs us->xs[i]?=some x->∃u,us[i]?=some u/\jh x u
 | _,_,_,_,.nil,e=>by simp at e
 | _,_,0,_,.cons r _,e=>by simp at e;subst e;exact⟨_,rfl,r⟩
 | _,_,i+1,x,.cons _ t,e=>by
  obtain⟨u,h1,h2⟩:=jb.get (i:=i) (x:=x) t (by simpa using e);exact⟨u,by simpa using h1,h2⟩
theorem jb.set{x:V}{u:Value}(r:jh x u):∀{xs:List V} {us:List Value} (i:Nat),jb xs us->jb (xs.set i x) (us.set i u)
 | _,_,_,.nil=>.nil
 | _,_,0,.cons _ t=>.cons r t
 | _,_,i+1,.cons q t=>.cons q (jb.set r i t)
theorem jb.append:∀{xs ys:List V} {us ws:List Value},jb xs us->jb ys ws->jb (xs++ys) (us++ws)
 | _,_,_,_,.nil,s=>s
 | _,_,_,_,.cons r t,s=>.cons r (jb.append t s)
theorem jb.take:∀{xs:List V} {us:List Value} (n:Nat),jb xs us->jb (xs.take n) (us.take n)
 | _,_,0,_=>.nil
 | _,_,_+1,.nil=>.nil
 | _,_,n+1,.cons r t=>.cons r (jb.take n t)
theorem jb.drop:∀{xs:List V} {us:List Value} (n:Nat),jb xs us->jb (xs.drop n) (us.drop n)
 | _,_,0,r=>r
 | _,_,_+1,.nil=>.nil
 | _,_,n+1,.cons _ t=>jb.drop n t
def zb:Option V->Option Value->Prop
 | some v,some u=>jh v u
 | none,none=>True
 | _,_=>False
def KV{κ:Type}:List (κ×V)->List (κ×Value)->Prop:=Paired fun(p:κ×V) (q:κ×Value)=>p.1=q.1/\jh p.2 q.2
noncomputable def kV:Ye->V
 | .inl i=>.int i
 | .inr x=>.str x
inductive HO where
 | lst (xs:List V)
 | tup (xs:List V)
 | dK (kvs:List (Ye×V)) | dT (kvs:List (List Ye×V))
 | dD (kvs:List (KD×Addr×V)) (ep:Nat)
 | set (S:Int->Bool) (n:Nat)
 | ins (C dx:Addr) (fs:List (Str×V))
 | own (x:Addr)
 | xd (fs:List (Str×V))
 | met (f x:Addr)
 | rng (lo hi:Int)
 | frz (o:Obj) (u:HO)
 | tbl (ps:Array Value)
 | ext (φ:Heap->Prop)
noncomputable abbrev Hp:=Addr->Option HO
noncomputable def upd(H:Hp)(a:Addr)(o:HO):Hp:=fun b=>if b=a then some o else H b
theorem jx{H:Hp}{a:Addr}{o:HO}:upd H a o a=some o:=by unfold upd;rw[if_pos rfl]
theorem jc{H:Hp}{a b:Addr}{o:HO}(h:b≠a):upd H a o b=H b:=by unfold upd;rw[if_neg h]
theorem jl{H:Hp}{a b:Addr}{o:HO}(h:H a=some o)(h':H b=none):a≠b:=by
 intro e;subst e;rw[h]at h';cases h'
section
variable (P:Program) (w:World)
def J9(H:Hp)(h:Heap)(a:Addr):HO->Prop
 | .lst xs=>xs.length<=sizeLine/\∃(its:List Value) (n:Nat),jb xs its/\h.get? a=some { cls:=.type "list",data:=.seq its.toArray n }
 | .tup xs=>xs.length<=sizeLine/\∃its:List Value,jb xs its/\IsTup h a its.toArray
 | .dK kvs=>kvs.length<=sizeLine/\(a==sysModules)=false/\∃vs,KV kvs vs/\h.DictOf (Vs P w) a vs
 | .dT kvs=>kvs.length<=sizeLine/\(a==sysModules)=false/\∃xs:List (List Ye×Addr×Value),
   Paired (fun(p:List Ye×V) (q:List Ye×Addr×Value)=>p.1=q.1/\H q.2.1=some (.tup (p.1.map kV))/\jh p.2 q.2.2) kvs xs/\
   ∃o es ep,h.get? a=some o/\o.ExactDict/\o.data=.dict es ep/\es.toList=xs.map (entryOfKey (tupleKind (Vs P w)))/\(xs.map (·.1)).Nodup
 | .dD kvs ep=>kvs.length<=sizeLine/\(a==sysModules)=false/\(kvs.map (·.1)).Nodup/\∃xs:List (KD×Addr×Value),
   Paired (fun(p:KD×Addr×V) (q:KD×Addr×Value)=>p.1=q.1/\p.2.1=q.2.1/\jh p.2.2 q.2.2) kvs xs/\
   ∃o es,h.get? a=some o/\o.ExactDict/\o.data=.dict es ep/\es.toList=xs.map (entryOfKey (QE P w))
 | .set S n=>h.SetOf (intKind P w) a S n
 | .ins C dx fs=>H dx=some (.own a)/\fs.length<=1000/\dx≠a/\h.get? a=some (PySem.W.instObj C dx)/\
   ∃mA,h.Ns1 dx mA/\(∀f,zb (fs.lookup f) (mA f))/\PySem.Within mA (fs.map (·.1))
 | .own _=>∃o,h.get? a=some o
 | .xd fs=>∃mA,h.Ns1 a mA/\∀f,zb (fs.lookup f) (mA f)
 | .rng lo hi=>∃t u v,h.get? a=some { cls:=.type "range",data:=.fields #[.int lo t,.int hi u,.int 1 v] }
 | .frz o u=>h.get? a=some o/\J9 H h a u
 | .tbl ps=>h.get? a=some { cls:=.none,data:=.fields ps }
 | .met f x=>h.get? a=some (PySem.W.methodObj (.ref f) (.ref x))
 | .ext φ=>φ h/\(∃o,h.get? a=some o)/\∀h1 h2:Heap,φ h1->(∀o,h1.get? a=some o->h2.get? a=some o)->φ h2
def Jj(H:Hp)(h:Heap):Prop:=∀a o,H a=some o->J9 P w H h a o
end
section
variable {P:Program} {w:World} {H H':Hp} {h h':Heap} {a:Addr} {o:HO}
theorem J9.lt(x:J9 P w H h a o):a < h.objs.size:=by
 cases o with
 | lst xs=>obtain⟨_,_,_,_,e⟩:=x;exact wLa e
 | tup xs=>obtain⟨_,_,_,p⟩:=x;exact p.lt
 | dK kvs=>obtain⟨_,_,_,_,o,_,_,e,_⟩:=x;exact wLa e
 | dT kvs=>obtain⟨_,_,_,_,o,_,_,e,_⟩:=x;exact wLa e
 | dD kvs ep=>obtain⟨_,_,_,_,_,o,_,e,_⟩:=x;exact wLa e
 | set S n=>obtain⟨o,_,_,_,e,_⟩:=x;exact wLa e
 | ins C dx fs=>obtain⟨_,_,_,e,_⟩:=x;exact wLa e
 | own y=>obtain⟨_,e⟩:=x;exact wLa e
 | xd fs=>obtain⟨_,⟨_,_,_,e,_⟩,_⟩:=x;exact wLa e
 | rng lo hi=>obtain⟨_,_,_,e⟩:=x;exact wLa e
 | frz ob u=>obtain⟨e,_⟩:=x;exact wLa e
 | tbl ps=>exact wLa (show h.get? a=some _ from x)
 | met f y=>exact wLa (show h.get? a=some _ from x)
 | ext φ=>obtain⟨_,⟨_,e⟩,_⟩:=x;exact wLa e
theorem Paired.mapP{α β:Type}{F G:α->β->Prop}:∀{l₁:List α} {l₂:List β},Paired F l₁ l₂->(∀a b,F a b->G a b)->Paired G l₁ l₂
 | _,_,.nil,_=>.nil
 | _,_,.cons r t,f=>.cons (f _ _ r) (Paired.mapP t f)
theorem J9.stay(x:J9 P w H h a o)(k:∀b u,(b=a∨H b=some (.own a))->h.get? b=some u->h'.get? b=some u)
  (ho:∀b,H b=some (.own a)->H' b=some (.own a)) (ht:∀b xs,H b=some (.tup xs)->H' b=some (.tup xs)):J9 P w H' h' a o:=by
 induction o with
 | lst xs=>obtain⟨z,its,n,r,e⟩:=x;exact⟨z,its,n,r,k _ _ (.inl rfl) e⟩
 | tup xs=>obtain⟨z,its,r,ob,e,c⟩:=x;exact⟨z,its,r,ob,k _ _ (.inl rfl) e,c⟩
 | dK kvs=>obtain⟨z,y,vs,r,ob,es,ep,e,c⟩:=x;exact⟨z,y,vs,r,ob,es,ep,k _ _ (.inl rfl) e,c⟩
 | dT kvs=>
  obtain⟨z,y,xs,r,ob,es,ep,e,c⟩:=x;exact⟨z,y,xs,Paired.mapP r fun p q z=>⟨z.1,ht _ _ z.2.1,z.2.2⟩,ob,es,ep,k _ _ (.inl rfl) e,c⟩
 | dD kvs ep=>obtain⟨z,y,nd,xs,r,ob,es,e,c⟩:=x;exact⟨z,y,nd,xs,r,ob,es,k _ _ (.inl rfl) e,c⟩
 | set S n=>obtain⟨ob,es,ep,t,e,c⟩:=x;exact⟨ob,es,ep,t,k _ _ (.inl rfl) e,c⟩
 | ins C dx fs=>
  obtain⟨d,z,ne,e,mA,⟨od,es,ep,e2,c⟩,r⟩:=x;exact⟨ho _ d,z,ne,k _ _ (.inl rfl) e,mA,⟨od,es,ep,k _ _ (.inr d) e2,c⟩,r⟩
 | own y=>obtain⟨ob,e⟩:=x;exact⟨ob,k _ _ (.inl rfl) e⟩
 | xd fs=>obtain⟨mA,⟨od,es,ep,e,c⟩,r⟩:=x;exact⟨mA,⟨od,es,ep,k _ _ (.inl rfl) e,c⟩,r⟩
 | rng lo hi=>obtain⟨t,u,v,e⟩:=x;exact⟨t,u,v,k _ _ (.inl rfl) e⟩
 | frz ob u ih=>obtain⟨e,q⟩:=x;exact⟨k _ _ (.inl rfl) e,ih q⟩
 | tbl ps=>
  have e:h.get? a=some { cls:=.none,data:=.fields ps }:=x;show h'.get? a=some { cls:=.none,data:=.fields ps };exact k a _ (.inl rfl) e
 | met f y=>
  have e:h.get? a=some (PySem.W.methodObj (.ref f) (.ref y)):=x;show h'.get? a=some (PySem.W.methodObj (.ref f) (.ref y));exact k a _ (.inl rfl) e
 | ext φ=>obtain⟨p,⟨o,e⟩,st⟩:=x;exact⟨st _ _ p fun o q=>k _ _ (.inl rfl) q,⟨o,k _ _ (.inl rfl) e⟩,st⟩
theorem Jj.lt(x:Jj P w H h)(e:H a=some o):a < h.objs.size:=(x a o e).lt
theorem Jj.fresh(x:Jj P w H h)(e:h.objs.size<=a):H a=none:=by
 cases q:H a with
 | none=>rfl
 | some u=>exact vDa (Nat.lt_of_lt_of_le (x.lt q) e) (wUa _)
theorem Jj.kept(x:Jj P w H h)(k:∀b u,h.get? b=some u->h'.get? b=some u):Jj P w H h':=fun a o e=>
 (x a o e).stay (fun b u _ q=>k b u q) (fun _ q=>q) fun _ _ q=>q
theorem Jj.laid(x:Jj P w H h)(k:∀b u,h.get? b=some u->h'.get? b=some u)(hp:h.objs.size<=a)(new:J9 P w (upd H a o) h' a o):Jj P w (upd H a o) h':=fun b u e=>by
 have hn:=x.fresh hp;by_cases hb:b=a
 ·subst hb;rw[jx]at e;cases e;exact new
 ·rw[jc hb]at e;exact(x b u e).stay (fun c v _ q=>k c v q) (fun c q=>by rw[jc (jl q hn)];exact q) fun c xs q=>by rw[jc (jl q hn)];exact q
end
def Rd(H:Hp)(a:Addr)(u:HO):Prop:=H a=some u∨∃o,H a=some (.frz o u)
theorem Rd.ok{P:Program}{w:World}{H:Hp}{h:Heap}{a:Addr}{u:HO}(r:Rd H a u)(x:Jj P w H h):J9 P w H h a u:=by
 rcases r with r | ⟨o,r⟩
 ·exact x a u r
 ·obtain⟨_,q⟩:=x a _ r;exact q
def Wh:Option HO->Prop
 | some (.lst _)=>True
 | some (.dK _)=>True
 | some (.dT _)=>True
 | some (.dD _ _)=>True
 | some (.set _ _)=>True
 | some (.ins _ _ _)=>True
 | some (.ext _)=>True
 | _=>False
section
variable {P:Program} {w:World} {H:Hp} {h h':Heap} {x e:Addr} {o':HO}
theorem Jj.write(ok:Jj P w H h)(mu:Wh (H x))(he:e=x∨H e=some (.own x))(k:∀b u,b≠e->h.get? b=some u->h'.get? b=some u)(heo:∃u,h'.get? e=some u)
  (new:J9 P w (upd H x o') h' x o'):Jj P w (upd H x o') h':=fun b u q=>by
 have nown:∀c y,H c=some (.own y)->c≠x:=fun c y r z=>by subst z;rw[r]at mu;exact mu
 have ntup:∀c xs,H c=some (.tup xs)->c≠x:=fun c xs r z=>by subst z;rw[r]at mu;exact mu
 by_cases hb:b=x
 ·subst hb;rw[jx]at q;cases q;exact new
 ·rw[jc hb]at q;by_cases hbe:b=e
  ·have q':H b=some (.own x):=by
    rcases he with z | z
    ·exact vDa (hbe.trans z) hb
    ·rw[hbe];exact z
   rw[q]at q';cases q';obtain⟨v,hv⟩:=heo;exact⟨v,by rw[hbe];exact hv⟩
  ·refine(ok b u q).stay (fun c v hc r=>k c v ?_ r) (fun c r=>by rw[jc (nown c b r)];exact r) fun c xs r=>by rw[jc (ntup c xs r)];exact r
   rcases hc with rfl | hc
   ·exact hbe
   ·rintro rfl;rcases he with z | z
    ·exact nown c b hc z
    ·rw[hc]at z;cases z;exact hb rfl
end
structure Un (fs ex:List Addr) (H H':Hp) (h h':Heap):Prop where
 keep:∀b o,h.get? b=some o->H b=none->b∉fs->b∉ex->h'.get? b=some o
 slot:∀b o,h.get? b=some o->H b=none->b∈fs->b∉ex->∃sl,h'.get? b=some { o with slots:=sl }
 free:∀b o,h.get? b=some o->H b=none->b∉ex->H' b=none
 there:∀b o,h.get? b=some o->b∉ex->∃o',h'.get? b=some o'
 tups:∀b xs,H b=some (.tup xs)->H' b=some (.tup xs)
 frzs:∀b o u,H b=some (.frz o u)->H' b=some (.frz o u)
 tbls:∀b ps,H b=some (.tbl ps)->∃more,H' b=some (.tbl (ps++more))
section
variable {fs fs' ex ex':List Addr} {H H1 H2:Hp} {h h1 h2 h':Heap} {a x e:Addr} {o:HO}
theorem Un.any(u:Un fs ex H H1 h h1){b:Addr}{ob:Obj}(q:h.get? b=some ob)(n:H b=none)(hx:b∉ex):∃sl,h1.get? b=some { ob with slots:=sl }:=by
 by_cases hb:b∈fs
 ·exact u.slot b ob q n hb hx
 ·exact⟨ob.slots,u.keep b ob q n hb hx⟩
theorem Un.kept(k:∀b u,h.get? b=some u->h'.get? b=some u):Un fs ex H H h h':=
 ⟨fun b ob q _ _ _=>k b ob q,fun b ob q _ _ _=>⟨ob.slots,k b ob q⟩,fun _ _ _ n _=>n,fun b ob q _=>⟨ob,k b ob q⟩,fun _ _ q=>q,fun _ _ _ q=>q,fun _ ps q=>⟨#[],by rw[q];simp⟩⟩
theorem Un.refl:Un fs ex H H h h:=Un.kept fun _ _ q=>q
theorem Un.laid(k:∀b u,h.get? b=some u->h'.get? b=some u)(hp:h.objs.size<=a)(hn:H a=none):Un fs ex H (upd H a o) h h' where
 keep:=fun b u q _ _ _=>k b u q
 slot:=fun b u q _ _ _=>⟨u.slots,k b u q⟩
 free:=fun b u q n _=>by rw[jc (Nat.ne_of_lt (Nat.lt_of_lt_of_le (Heap.lt_size q) hp))];exact n
 there:=fun b u q _=>⟨u,k b u q⟩
 tups:=fun b xs q=>by rw[jc (jl q hn)];exact q
 frzs:=fun b u xs q=>by rw[jc (jl q hn)];exact q
 tbls:=fun b ps q=>⟨#[],by rw[jc (jl q hn),q];simp⟩
theorem Un.write(mu:Wh (H x))(he:e=x∨H e=some (.own x))(k:∀b u,b≠e->h.get? b=some u->h'.get? b=some u)(heo:∃u,h'.get? e=some u):Un fs ex H (upd H x o) h h':=by
 have hx:∀b,H b=none->b≠x:=fun b n z=>by subst z;rw[n]at mu;exact mu
 have hb:∀b,H b=none->b≠e:=fun b n z=>by
  subst z;rcases he with r | r
  ·exact hx b n r
  ·rw[n]at r;cases r
 have hm:∀b u,H b=some u->¬Wh (some u)->b≠x:=fun b u q nm z=>by subst z;rw[q]at mu;exact nm mu
 refine⟨fun b u q n _ _=>k b u (hb b n) q,fun b u q n _ _=>⟨u.slots,k b u (hb b n) q⟩,fun b u q n _=>by rw[jc (hx b n)];exact n,fun b u q _=>?_,
  fun b xs q=>by rw[jc (hm b _ q fun z=>z)];exact q,fun b u xs q=>by rw[jc (hm b _ q fun z=>z)];exact q,fun b ps q=>⟨#[],by rw[jc (hm b _ q fun z=>z),q];simp⟩⟩
 by_cases hbe:b=e
 ·subst hbe;exact heo
 ·exact⟨u,k b u hbe q⟩
end
noncomputable def Wi(h:Heap)(H:Hp):List Addr:=(List.range h.objs.size).filter fun a=>(H a).isSome
def zH(h:Heap)(H:Hp):Heap:=PySem.W.hideAll h (Wi h H)
theorem ku(h:Heap)(H:Hp):(zH h H).objs.size=h.objs.size:=PySem.W.hideAll_size _ _
theorem Ky{h:Heap}{H:Hp}{b:Addr}{o:Obj}(e:h.get? b=some o)(n:H b=none):(zH h H).get? b=some o:=
 PySem.W.hideAll_get _ e fun hm=>by
  have q:(H b).isSome=true:=(List.mem_filter.mp hm).2;rw[n]at q;simp at q
theorem qx{h:Heap}{H:Hp}{b:Addr}{o:Obj}(e:(zH h H).get? b=some o):h.get? b=some o/\H b=none:=by
 have e':h.get? b=some o:=PySem.W.of_hideAll (Wi h H) e;refine⟨e',?_⟩;cases q:H b with
 | none=>rfl
 | some x=>
  have hm:b∈Wi h H:=List.mem_filter.mpr ⟨List.mem_range.mpr (wLa e'),by simp[q]⟩;have z:(zH h H).get? b=none:=PySem.W.hideAll_none (Wi h H) hm;rw[z]at e;cases e
structure Mod (K:PySem.W.Frag) (mg:Str->Option Value) (base:Heap):Prop where
 kin:K.In base
 glob:base.Ns mainGlobals mg
 blt:∃mb,base.Ns builtinsNs mb/\∀x:Str,x≠ "__name__" ->mb x=bootBuiltins x
 nolimit:base.NoLimit
structure Cx where
 prog:Program
 w:World
 K:PySem.W.Frag
 mg:Str->Option Value
 base:Heap
 A:Around
 N:List Str
 s₀:Shared
 H₀:Hp
 env:Env
 outer:List Env
 stack:List Env
 ex:List Addr
 fn:Str->Bool
 calm:Bool
 pn:List (Addr×Obj)
 xe:Value->Shared->Prop
noncomputable def Z0(l:List Env):List Addr:=l.filterMap (·.frame)
abbrev Cx.fs(X:Cx):List Addr:=Z0 X.outer
def gz(sc:Scope)(x:Str):Prop:=sc.names.lookup x=some .local∨sc.names.lookup x=some .cell∨sc.names.lookup x=some .free
def ZT(sc:Scope)(x:Str):Prop:=sc.names.lookup x=some .local∨sc.names.lookup x=some .cell
def BW(env:Env)(h:Heap)(m:Str->Option Value)(x:Str)(u:Value):Prop:=
 (env.kindOf x=some .local/\m x=some u)∨((env.kindOf x=some .cell∨env.kindOf x=some .free)/\∃c,env.cells.lookup x=some c/\h.IsCell c (some u))
structure Cx.Ok (X:Cx):Prop where
 mod:Mod X.K X.mg X.base
 kind:X.env.scope.kind=.function
 glob:X.env.globals=mainGlobals
 blt:X.env.builtins=builtinsNs
 above:X.s₀.heap.objs.size<=X.env.locals
 inj:∀x y c,X.env.cells.lookup x=some c->X.env.cells.lookup y=some c->x=y
 has:∀x,(X.env.kindOf x=some .cell∨X.env.kindOf x=some .free)->∃c,X.env.cells.lookup x=some c
 cab:∀x c,X.fn x=true->X.env.cells.lookup x=some c->X.s₀.heap.objs.size<=c
 hd:X.calm=true->X.A.handled=none
 frames:X.A.frames=some X.stack
 stk:X.stack=X.outer∨(X.stack=X.env::X.outer/\X.env.frame=some X.env.locals)
 exf:∀b∈X.ex,b≠X.env.locals/\∀x c,X.env.cells.lookup x=some c->c≠b
 bs:∀b o,X.base.get? b=some o->X.s₀.heap.get? b=some o/\X.H₀ b=none
 bsz:X.base.objs.size<=X.s₀.heap.objs.size
 noex:∀b o,X.base.get? b=some o->b∉X.ex
 exfs:∀b∈X.ex,b∉X.fs
 funs:X.s₀.heap.FunFrames X.base X.outer
 frf:∀b∈X.fs,X.H₀ b=none
structure Inv (X:Cx) (pins:List (Addr×Obj)) (σ:List (Option V)) (H:Hp) (s:Shared):Prop where
 ok:X.Ok
 os:s.os=X.s₀.os
 bare:AllBare s.gens
 base:Un X.fs X.ex X.H₀ H X.s₀.heap s.heap
 loc:∃m,s.heap.Ns X.env.locals m/\∀(i:Nat) (x:Str) (v:V),X.N[i]?=some x->σ[i]?=some (some v)->gz X.env.scope x->∃u,jh v u/\BW X.env s.heap m x u
 cell:∀x c,X.env.cells.lookup x=some c->∃v,s.heap.IsCell c v
 free:H X.env.locals=none
 freeC:∀x c,X.env.cells.lookup x=some c->H c=none
 pin:∀p∈X.pn++pins,s.heap.get? p.1=some p.2/\H p.1=none/\p.1≠X.env.locals/\p.1∉X.fs/\∀v,p.2.data≠.cell v
 hok:Jj X.prog X.w H s.heap
 len:σ.length=X.N.length
section
variable {X:Cx} {pins:List (Addr×Obj)} {σ:List (Option V)} {H H':Hp} {s:Shared} {h':Heap}
theorem Cx.Ok.nofr(ok:X.Ok){b:Addr}{o:Obj}(e:X.base.get? b=some o):b∉X.fs:=fun hb=>by
 have:=(ok.funs.mem hb).1;rw[e]at this;cases this
theorem Inv.bs(I:Inv X pins σ H s):∀b o,X.base.get? b=some o->s.heap.get? b=some o/\H b=none:=fun b o e=>
 ⟨I.base.keep b o (I.ok.bs b o e).1 (I.ok.bs b o e).2 (I.ok.nofr e) (I.ok.noex b o e),I.base.free b o (I.ok.bs b o e).1 (I.ok.bs b o e).2 (I.ok.noex b o e)⟩
theorem Inv.bk(I:Inv X pins σ H s):∀b o,X.base.get? b=some o->s.heap.get? b=some o:=fun b o e=>(I.bs b o e).1
theorem Inv.mod(I:Inv X pins σ H s):Mod X.K X.mg X.base:=I.ok.mod
theorem Inv.kIn(I:Inv X pins σ H s):X.K.In s.heap:=I.ok.mod.kin.keeps I.bk
theorem Inv.lt(I:Inv X pins σ H s):X.env.locals < s.heap.objs.size:=let ⟨_,hn,_⟩:=I.loc;hn.lt
theorem Inv.sz(I:Inv X pins σ H s):X.s₀.heap.objs.size<=s.heap.objs.size:=wSa I.ok.above (wQa I.lt)
theorem Inv.nofs(I:Inv X pins σ H s){a:Addr}(h:s.heap.objs.size<=a):a∉X.fs:=fun hb=>by
 obtain⟨_,o,ho,_⟩:=I.ok.funs.mem hb;exact vDa (Nat.lt_of_lt_of_le (wLa ho) (wSa I.sz h)) (wUa _)
theorem Inv.cne(I:Inv X pins σ H s):∀x c,X.env.cells.lookup x=some c->c≠X.env.locals:=fun x c e z=>by
 obtain⟨v,o,ho,hd⟩:=I.cell x c e;obtain⟨m,⟨o',es,ep,ho',hd',_⟩,_⟩:=I.loc;rw[z,ho']at ho;cases ho;rw[hd']at hd;cases hd
theorem Inv.funs(I:Inv X pins σ H s):s.heap.FunFrames X.base X.outer:=by
 have all:∀(l:List Env),(∀b∈Z0 l,b∈X.fs)->X.s₀.heap.FunFrames X.base l->s.heap.FunFrames X.base l:=by
  intro l;induction l with
  | nil=>intro _ _;trivial
  | cons env r ih=>
   intro hs hl;obtain⟨hk,⟨L,o,hf,hn,ho,hd⟩,hr⟩:=hl;have hL:L∈X.fs:=hs L (by unfold Z0;rw[List.filterMap_cons,hf];exact wNa);obtain⟨sl,e⟩:=I.base.slot L o ho (I.ok.frf L hL) hL fun z=>I.ok.exfs L z hL;exact⟨hk,⟨L,_,hf,hn,e,hd⟩,ih (fun b hb=>hs b (by unfold Z0;rw[List.filterMap_cons,hf];exact wMa _ hb)) hr⟩
 exact all X.outer (fun _ hb=>hb) I.ok.funs
theorem Inv.stack(I:Inv X pins σ H s):s.heap.FunFrames X.base X.stack:=by
 rcases I.ok.stk with e | ⟨e,hf⟩
 ·rw[e];exact I.funs
 ·rw[e];obtain⟨m,hn,_⟩:=I.loc;refine .cons (by rw[I.ok.kind];decide) hf hn ?_ I.funs;exact Heap.get?_none_of_le (wSa I.ok.bsz I.ok.above)
theorem Inv.stkSub(I:Inv X pins σ H s):∀b∈Z0 X.stack,b∈X.env.locals::X.fs:=fun b hb=>by
 rcases I.ok.stk with e | ⟨e,hf⟩
 ·rw[e]at hb;exact wMa _ hb
 ·rw[e]at hb;unfold Z0 at hb;rw[List.filterMap_cons,hf]at hb;exact hb
theorem Inv.stkFree(I:Inv X pins σ H s):∀b∈Z0 X.stack,H b=none:=fun b hb=>by
 rcases List.mem_cons.mp (I.stkSub b hb)with e | hb
 ·rw[e];exact I.free
 ·obtain⟨_,o,ho,_⟩:=I.ok.funs.mem hb;exact I.base.free b o ho (I.ok.frf b hb) fun z=>I.ok.exfs b z hb
theorem Inv.step{g':Array GenState}{t':Nat}{d':Drawn}{ch:List Addr}(I:Inv X pins σ H s)
  (hch:∀b∈ch,(b∈X.ex∨X.s₀.heap.objs.size<=b)/\b≠X.env.locals/\(∀x c,X.env.cells.lookup x=some c->c≠b)/\∀p∈X.pn++pins,p.1≠b)
  (keep:∀b o,b≠X.env.locals->b∉X.fs->b∉ch->s.heap.get? b=some o->H b=none->h'.get? b=some o)
  (slot:∀b o,b≠X.env.locals->b∈X.fs->b∉ch->s.heap.get? b=some o->H b=none->∃sl,h'.get? b=some { o with slots:=sl }) (free:∀b o,b∉ch->s.heap.get? b=some o->H b=none->H' b=none)
  (there:∀b o,b∉ch->s.heap.get? b=some o->∃o',h'.get? b=some o')
  (tups:∀b xs,H b=some (.tup xs)->H' b=some (.tup xs)) (frzs:∀b o u,H b=some (.frz o u)->H' b=some (.frz o u)) (tbls:∀b ps,H b=some (.tbl ps)->∃more,H' b=some (.tbl (ps++more)))
  (ns:∀m,s.heap.Ns X.env.locals m->h'.Ns X.env.locals m) (hok:Jj X.prog X.w H' h') (hg:AllBare g'):
  Inv X pins σ H' { s with heap:=h',gens:=g',drawn:=d',toks:=t' }:=by
 have neL:∀b o,X.s₀.heap.get? b=some o->b≠X.env.locals:=fun b o e=>wTa (Nat.lt_of_lt_of_le (wLa e) I.ok.above);have neC:∀b o,X.s₀.heap.get? b=some o->b∉X.ex->b∉ch:=fun b o e hx hb=>by
  rcases(hch b hb).1 with z | z
  ·exact hx z
  ·exact vDa (Nat.lt_of_lt_of_le (wLa e) z) (wUa _)
 have cellK:∀x c,X.env.cells.lookup x=some c->∀v,s.heap.IsCell c v->h'.IsCell c v:=fun x c e v xx=>by
  obtain⟨o,ho,hd⟩:=xx;have nch:c∉ch:=fun z=>(hch c z).2.2.1 x c e rfl;by_cases hc:c∈X.fs
  ·obtain⟨sl,q⟩:=slot c o (I.cne x c e) hc nch ho (I.freeC x c e);exact⟨_,q,hd⟩
  ·exact⟨o,keep c o (I.cne x c e) hc nch ho (I.freeC x c e),hd⟩
 refine⟨I.ok,I.os,hg,⟨fun b o e n hb hx=>?_,fun b o e n hb hx=>?_,fun b o e n hx=>?_,fun b o e hx=>?_,fun b xs e=>tups b xs (I.base.tups b xs e),fun b o xs e=>frzs b o xs (I.base.frzs b o xs e),fun b ps e=>?_⟩,?_,fun x c e=>?_,?_,fun x c e=>?_,fun p hp=>?_,hok,I.len⟩
 ·exact keep b o (neL b o e) hb (neC b o e hx) (I.base.keep b o e n hb hx) (I.base.free b o e n hx)
 ·obtain⟨sl,e1⟩:=I.base.slot b o e n hb hx;obtain⟨sl',e2⟩:=slot b _ (neL b o e) hb (neC b o e hx) e1 (I.base.free b o e n hx);exact⟨sl',e2⟩
 ·obtain⟨o',e1⟩:=I.base.there b o e hx;exact free b o' (neC b o e hx) e1 (I.base.free b o e n hx)
 ·obtain⟨o',e1⟩:=I.base.there b o e hx;exact there b o' (neC b o e hx) e1
 ·obtain⟨m1,e1⟩:=I.base.tbls b ps e;obtain⟨m2,e2⟩:=tbls b _ e1;exact⟨m1++m2,by rw[e2,Array.append_assoc]⟩
 ·obtain⟨m,hn,hl⟩:=I.loc;refine⟨m,ns m hn,fun i x v e1 e2 e3=>?_⟩;obtain⟨u,r,l⟩:=hl i x v e1 e2 e3;refine⟨u,r,?_⟩;rcases l with l | ⟨k,c,e,z⟩
  ·exact .inl l
  ·exact .inr ⟨k,c,e,cellK x c e _ z⟩
 ·obtain⟨v,z⟩:=I.cell x c e;exact⟨v,cellK x c e v z⟩
 ·obtain⟨m,⟨o,_,_,ho,_⟩,_⟩:=I.loc;exact free _ o (fun z=>(hch _ z).2.1 rfl) ho I.free
 ·obtain⟨v,o,ho,hd⟩:=I.cell x c e;exact free c o (fun z=>(hch c z).2.2.1 x c e rfl) ho (I.freeC x c e)
 ·obtain⟨e,n,ne,nf,d⟩:=I.pin p hp;have nch:p.1∉ch:=fun z=>(hch p.1 z).2.2.2 p hp rfl;exact⟨keep p.1 p.2 ne nf nch e n,free p.1 p.2 nch e n,ne,nf,d⟩
theorem Inv.un{t':Nat}(I:Inv X pins σ H s)(u:Un X.fs [] H H' s.heap h')(hok:Jj X.prog X.w H' h'):Inv X pins σ H' { s with heap:=h',toks:=t' }:=by
 obtain⟨m,⟨o,es,ep,ho,r⟩,_⟩:=id I.loc;obtain⟨sl,hL⟩:=u.any ho I.free (by simp);exact I.step (g':=s.gens) (d':=s.drawn) (ch:=[]) (fun _ z=>nomatch z) (fun b o _ hb _ e n=>u.keep b o e n hb (by simp)) (fun b o _ hb _ e n=>u.slot b o e n hb (by simp)) (fun b o _ e n=>u.free b o e n (by simp)) (fun b o _ e=>u.there b o e (by simp)) u.tups u.frzs u.tbls (fun m' hm=>by
  obtain⟨o',es',ep',ho',r'⟩:=hm;rw[ho]at ho';cases ho';exact⟨_,es',ep',hL,r'⟩) hok I.bare
theorem Inv.call{g':Array GenState}{t':Nat}{d':Drawn}{ch:List Addr}(I:Inv X pins σ H s)(u:Un (Z0 X.stack) ch H H' s.heap h')(hok:Jj X.prog X.w H' h')(hg:AllBare g')
  (hch:∀b∈ch,(b∈X.ex∨X.s₀.heap.objs.size<=b)/\b≠X.env.locals/\(∀x c,X.env.cells.lookup x=some c->c≠b)/\∀p∈X.pn++pins,p.1≠b):
  Inv X pins σ H' { s with heap:=h',gens:=g',drawn:=d',toks:=t' }:=by
 obtain⟨m,⟨o,es,ep,ho,r⟩,_⟩:=id I.loc;obtain⟨sl,hL⟩:=u.any ho I.free fun z=>(hch _ z).2.1 rfl;exact I.step (ch:=ch) hch (fun b o hL hb hc e n=>u.keep b o e n (fun z=>(List.mem_cons.mp (I.stkSub b z)).elim hL hb) hc) (fun b o _ _ hc e n=>u.any e n hc) (fun b o hc e n=>u.free b o e n hc) (fun b o hc e=>u.there b o e hc) u.tups u.frzs u.tbls (fun m' hm=>by
  obtain⟨o',es',ep',ho',r'⟩:=hm;rw[ho]at ho';cases ho';exact⟨_,es',ep',hL,r'⟩) hok hg
theorem Inv.turned{t':Nat}{it:Addr}(I:Inv X pins σ H s)(k:∀b o,b≠it->s.heap.get? b=some o->h'.get? b=some o)(hn:H it=none)(hL:it≠X.env.locals)
  (h1:it∈X.ex∨X.s₀.heap.objs.size<=it) (h2:∀x c,X.env.cells.lookup x=some c->c≠it) (h3:∀p∈X.pn++pins,p.1≠it):Inv X pins σ H { s with heap:=h',toks:=t' }:=by
 have nit:∀b u,H b=some u->b≠it:=fun b u e z=>by rw[z,hn]at e;cases e
 refine I.step (g':=s.gens) (d':=s.drawn) (ch:=[it]) (fun b hb=>?_) (fun b o _ _ hc e _=>k b o (fun z=>hc (by simp[z])) e) (fun b o _ _ hc e _=>⟨o.slots,k b o (fun z=>hc (by simp[z])) e⟩) (fun _ _ _ _ n=>n)
  (fun b o hc e=>⟨o,k b o (fun z=>hc (by simp[z])) e⟩) (fun _ _ e=>e) (fun _ _ _ e=>e) (fun b ps e=>⟨#[],by rw[e];simp⟩) (fun m hm=>?_) (fun b u e=>?_) I.bare
 ·have e:b=it:=by simpa using hb
  subst e;exact⟨h1,hL,h2,h3⟩
 ·obtain⟨o,es,ep,ho,r⟩:=hm;exact⟨o,es,ep,k _ o (Ne.symm hL) ho,r⟩
 ·refine(I.hok b u e).stay (fun c v hc q=>k c v ?_ q) (fun _ q=>q) fun _ _ q=>q;rcases hc with z | z
  ·rw[z];exact nit b u e
  ·exact nit c _ z
theorem Inv.tok(I:Inv X pins σ H s)(t:Nat):Inv X pins σ H { s with toks:=t }:=I.un (h':=s.heap) (t':=t) Un.refl I.hok
theorem Inv.kept{t':Nat}(I:Inv X pins σ H s)(k:∀b u,s.heap.get? b=some u->h'.get? b=some u):Inv X pins σ H { s with heap:=h',toks:=t' }:=I.un (Un.kept k) (I.hok.kept k)
theorem Inv.laid{a:Addr}{o:HO}{t':Nat}(I:Inv X pins σ H s)(k:∀b u,s.heap.get? b=some u->h'.get? b=some u)(hp:s.heap.objs.size<=a)(new:J9 X.prog X.w (upd H a o) h' a o):
  Inv X pins σ (upd H a o) { s with heap:=h',toks:=t' }:=I.un (Un.laid k hp (I.hok.fresh hp)) (I.hok.laid k hp new)
theorem Inv.write{x e:Addr}{o:HO}{t':Nat}(I:Inv X pins σ H s)(mu:Wh (H x))(he:e=x∨H e=some (.own x))(k:∀b u,b≠e->s.heap.get? b=some u->h'.get? b=some u)(heo:∃u,h'.get? e=some u)
  (new:J9 X.prog X.w (upd H x o) h' x o):Inv X pins σ (upd H x o) { s with heap:=h',toks:=t' }:=I.un (Un.write mu he k heo) (I.hok.write mu he k heo new)
theorem Inv.weak{σ':List (Option V)}(I:Inv X pins σ H s)(hl:σ'.length=σ.length)(w:∀(i:Nat) v,σ'[i]?=some (some v)->σ[i]?=some (some v)):Inv X pins σ' H s:=
 ⟨I.ok,I.os,I.bare,I.base,let ⟨m,hn,hl'⟩:=I.loc;⟨m,hn,fun i x v e1 e2 e3=>hl' i x v e1 (w i v e2) e3⟩,I.cell,I.free,I.freeC,I.pin,I.hok,hl.trans I.len⟩
theorem Inv.pins_of{pins':List (Addr×Obj)}(I:Inv X pins σ H s)(h:∀p∈pins',s.heap.get? p.1=some p.2/\H p.1=none/\p.1≠X.env.locals/\p.1∉X.fs/\∀v,p.2.data≠.cell v):Inv X pins' σ H s:=
 ⟨I.ok,I.os,I.bare,I.base,I.loc,I.cell,I.free,I.freeC,fun p hp=>(List.mem_append.mp hp).elim (fun z=>I.pin p (vIa _ z)) (h p),I.hok,I.len⟩
theorem uM{N:List Str}(hN:N.Nodup){i j:Nat}{x:Str}(a:N[i]?=some x)(b:N[j]?=some x):i=j:=by
 obtain⟨h1,e1⟩:=List.getElem?_eq_some_iff.mp a;obtain⟨h2,e2⟩:=List.getElem?_eq_some_iff.mp b;exact(List.getElem_inj hN).mp (e1.trans e2.symm)
theorem VV{M:Model}{A:Around}{E:Value->Shared->Prop}{i:Nat}{x:Str}{v:V}{u:Value}{Q:Unit->Shared->Prop}(I:Inv X pins σ H s)(hN:X.N.Nodup)(hi:X.N[i]?=some x)(hx:ZT X.env.scope x)(r:jh v u)
  (h:∀s',Inv X pins (σ.set i (some v)) H s'->(∃a,Heap.SameBut a s.heap s'.heap/\(a=X.env.locals∨X.env.cells.lookup x=some a))->Q () s') (hf:X.fn x=true∨X.env.scope.names.lookup x=some .local:=by first | exact .inl rfl | exact .inr rfl | assumption):wpAny M A (storeName X.env x u) Q E s:=by
 obtain⟨m,hn,hl⟩:=id I.loc;have hcls:(X.env.scope.kind==.class||(X.env.scope.kind==.module&&X.env.locals != X.env.globals))=false:=by rw[I.ok.kind];rfl
 have hiσ:i < σ.length:=by rw[I.len];exact(List.getElem?_eq_some_iff.mp hi).1
 have cne:=I.cne;have tracked:∀{a:Addr} {h':Heap},(∃o,s.heap.get? a=some o/\H a=none)->Heap.SameBut a s.heap h'->Jj X.prog X.w H h':=fun {a h'} ha hs b ob e=>by
  obtain⟨_,_,hfree⟩:=ha;refine(I.hok b ob e).stay (fun c w' hc q=>(hs.2 c ?_).trans q) (fun _ q=>q) fun _ _ q=>q;rintro rfl;rcases hc with rfl | hc
  ·rw[hfree]at e;cases e
  ·rw[hfree]at hc;cases hc
 rcases hx with hk | hk
 ·refine wpAny_storeName_local hk hn (fun h' hn' hs=>?_) hcls;obtain⟨oL,_,_,hoL,_⟩:=id hn;refine h _ ⟨I.ok,I.os,I.bare,⟨fun b o e n hb hx=>?_,fun b o e n hb hx=>?_,I.base.free,fun b o e hx=>?_,I.base.tups,I.base.frzs,I.base.tbls⟩,⟨_,hn',fun j y v' e1 e2 e3=>?_⟩,fun y c e=>?_,I.free,I.freeC,fun p hp=>?_,tracked ⟨oL,hoL,I.free⟩ hs,by simpa using I.len⟩ ⟨_,hs,.inl rfl⟩
  ·exact(hs.2 b (wTa (Nat.lt_of_lt_of_le (wLa e) I.ok.above))).trans (I.base.keep b o e n hb hx)
  ·obtain⟨sl,e1⟩:=I.base.slot b o e n hb hx;exact⟨sl,(hs.2 b (wTa (Nat.lt_of_lt_of_le (wLa e) I.ok.above))).trans e1⟩
  ·obtain⟨o',e1⟩:=I.base.there b o e hx;exact⟨o',(hs.2 b (wTa (Nat.lt_of_lt_of_le (wLa e) I.ok.above))).trans e1⟩
  ·by_cases hj:j=i
   ·subst hj;rw[hi]at e1;cases e1;rw[List.getElem?_set_self hiσ]at e2;cases e2;exact⟨u,r,.inl ⟨hk,by simp⟩⟩
   ·rw[List.getElem?_set_ne (Ne.symm hj)]at e2;obtain⟨u',r',q⟩:=hl j y v' e1 e2 e3;refine⟨u',r',?_⟩;rcases q with⟨k,e⟩ | ⟨k,c,e,z⟩
    ·refine .inl ⟨k,?_⟩;have:y≠x:=fun e=>hj (uM hN e1 (e▸hi));simp[this,e]
    ·exact .inr ⟨k,c,e,z.sameBut hs (cne y c e)⟩
  ·obtain⟨w',z⟩:=I.cell y c e;exact⟨w',z.sameBut hs (cne y c e)⟩
  ·obtain⟨e,n,ne,nf,d⟩:=I.pin p hp;exact⟨(hs.2 p.1 ne).trans e,n,ne,nf,d⟩
 ·have hfn:X.fn x=true:=by
   rcases hf with z | z
   ·exact z
   ·rw[z]at hk;cases hk
  obtain⟨c,hc⟩:=I.ok.has x (.inl hk);obtain⟨w',z⟩:=I.cell x c hc;refine wpAny_storeName_cell I.ok.kind hk hc z (fun h' hc' hs=>?_);obtain⟨oc,hoc,hocd⟩:=id z;refine h { s with heap:=h' } ⟨I.ok,I.os,I.bare,⟨fun b o e n hb hx=>?_,fun b o e n hb hx=>?_,I.base.free,fun b o e hx=>?_,I.base.tups,I.base.frzs,I.base.tbls⟩,⟨m,hn.sameBut hs (Ne.symm (cne x c hc)),fun j y v' e1 e2 e3=>?_⟩,fun y c' e=>?_,I.free,I.freeC,fun p hp=>?_,tracked ⟨oc,hoc,I.freeC x c hc⟩ hs,by simpa using I.len⟩ ⟨c,hs,.inr hc⟩
  ·exact(hs.2 b (wTa (Nat.lt_of_lt_of_le (wLa e) (I.ok.cab x c hfn hc)))).trans (I.base.keep b o e n hb hx)
  ·obtain⟨sl,e1⟩:=I.base.slot b o e n hb hx;exact⟨sl,(hs.2 b (wTa (Nat.lt_of_lt_of_le (wLa e) (I.ok.cab x c hfn hc)))).trans e1⟩
  ·obtain⟨o',e1⟩:=I.base.there b o e hx;exact⟨o',(hs.2 b (wTa (Nat.lt_of_lt_of_le (wLa e) (I.ok.cab x c hfn hc)))).trans e1⟩
  ·by_cases hj:j=i
   ·subst hj;rw[hi]at e1;cases e1;rw[List.getElem?_set_self hiσ]at e2;cases e2;exact⟨u,r,.inr ⟨.inl hk,c,hc,hc'⟩⟩
   ·rw[List.getElem?_set_ne (Ne.symm hj)]at e2;obtain⟨u',r',q⟩:=hl j y v' e1 e2 e3;refine⟨u',r',?_⟩;rcases q with q | ⟨k,c',e,z'⟩
    ·exact .inl q
    ·refine .inr ⟨k,c',e,z'.sameBut hs ?_⟩;rintro rfl;exact hj (uM hN e1 (I.ok.inj _ _ _ e hc▸hi))
  ·by_cases hcc:c'=c
   ·subst hcc;exact⟨_,hc'⟩
   ·obtain⟨w2,z2⟩:=I.cell y c' e;exact⟨w2,z2.sameBut hs hcc⟩
  ·obtain⟨e,n,ne,nf,d⟩:=I.pin p hp;refine⟨(hs.2 p.1 ?_).trans e,n,ne,nf,d⟩;intro q;rw[q,hoc]at e;have q':oc=p.2:=vFa e;exact d w' (by rw[<-q'];exact hocd)
theorem vk{M:Model}{A:Around}{E:Value->Shared->Prop}{i:Nat}{x:Str}{v:V}{u:Value}{Q:Unit->Shared->Prop}(I:Inv X pins σ H s)(hN:X.N.Nodup)(hi:X.N[i]?=some x)(hx:ZT X.env.scope x)(r:jh v u)
  (h:∀s',Inv X pins (σ.set i (some v)) H s'->Q () s') (hf:X.fn x=true∨X.env.scope.names.lookup x=some .local:=by first | exact .inl rfl | exact .inr rfl | assumption):wpAny M A (storeName X.env x u) Q E s:=
 VV I hN hi hx r (fun s' I' _=>h s' I') hf
theorem Inv.call'{s':Shared}{ch:List Addr}(I:Inv X pins σ H s)(ho:s'.os=s.os)(u:Un (Z0 X.stack) ch H H' s.heap s'.heap)(hok:Jj X.prog X.w H' s'.heap)(hg:AllBare s'.gens)
  (hch:∀b∈ch,(b∈X.ex∨X.s₀.heap.objs.size<=b)/\b≠X.env.locals/\(∀x c,X.env.cells.lookup x=some c->c≠b)/\∀p∈X.pn++pins,p.1≠b):Inv X pins σ H' s':=by
 obtain⟨h',g',d',t',o'⟩:=s';have e:o'=s.os:=ho;subst e;exact I.call (g':=g') (t':=t') (d':=d') u hok hg hch
end
noncomputable abbrev XK:=Value->Option Addr->Hp->Prop
noncomputable abbrev St:=List (Option V)
noncomputable abbrev VK:=V->Hp->Prop
noncomputable abbrev TE:=St->Hp->VK->Prop
noncomputable abbrev TT:=St->Hp->(Bool->Hp->Prop)->Prop
noncomputable abbrev TA:=St->Hp->(List V->Hp->Prop)->Prop
structure Ends where
 nx:St->Hp->Prop
 rt:VK
 bk:St->Hp->Prop:=fun _ _=>False
 ct:St->Hp->Prop:=fun _ _=>False
noncomputable abbrev TS:=Ends->St->Hp->Prop
def EP(X:Cx)(pins:List (Addr×Obj))(σ:St)(Q:VK)(u:Value)(s':Shared):Prop:=∃v H',Inv X pins σ H' s'/\jh v u/\Q v H'
def TP(X:Cx)(pins:List (Addr×Obj))(σ:St)(Q:Bool->Hp->Prop)(b:Bool)(s':Shared):Prop:=∃H',Inv X pins σ H' s'/\Q b H'
def AP(X:Cx)(pins:List (Addr×Obj))(σ:St)(Q:List V->Hp->Prop)(us:List Value)(s':Shared):Prop:=∃vs H',Inv X pins σ H' s'/\jb vs us/\Q vs H'
def SP(X:Cx)(pins:List (Addr×Obj))(D:Ends)(f:Flow)(s':Shared):Prop:=
 match f with
 | .next=>∃σ' H',Inv X pins σ' H' s'/\D.nx σ' H'
 | .brk=>∃σ' H',Inv X pins σ' H' s'/\D.bk σ' H'
 | .cont=>∃σ' H',Inv X pins σ' H' s'/\D.ct σ' H'
 | .ret u=>∃v σ' H',Inv X pins σ' H' s'/\jh v u/\D.rt v H'
def PE(X:Cx)(e:Expr)(t:TE):Prop:=
 ∀(pins:List (Addr×Obj)) (s:Shared) (σ:St) (H:Hp) (Q:VK),Inv X pins σ H s->t σ H Q->wpAny (model X.prog X.w) X.A (eval e X.env) (EP X pins σ Q) X.xe s
def PT(X:Cx)(e:Expr)(t:TT):Prop:=
 ∀(pins:List (Addr×Obj)) (s:Shared) (σ:St) (H:Hp) (Q:Bool->Hp->Prop),Inv X pins σ H s->t σ H Q->wpAny (model X.prog X.w) X.A (isTrue e X.env (eval e X.env)) (TP X pins σ Q) X.xe s
def PW(X:Cx)(e:Expr)(t:TT):Prop:=
 ∀(whole:Sem Value) (pins:List (Addr×Obj)) (s:Shared) (σ:St) (H:Hp) (Q:Bool->Hp->Prop),Inv X pins σ H s->t σ H Q->wpAny (model X.prog X.w) X.A (isTrue e X.env whole) (TP X pins σ Q) X.xe s
theorem PW.pt{X:Cx}{e:Expr}{t:TT}(h:PW X e t):PT X e t:=h _
def PA(X:Cx)(es:List Expr)(t:TA):Prop:=
 ∀(pos:Pos) (pins:List (Addr×Obj)) (s:Shared) (σ:St) (H:Hp) (Q:List V->Hp->Prop),Inv X pins σ H s->t σ H Q->wpAny (model X.prog X.w) X.A (spliced (backTo pos (starEach es X.env))) (AP X pins σ Q) X.xe s
def PS(X:Cx)(st:Stmt)(t:TS):Prop:=
 ∀(pins:List (Addr×Obj)) (s:Shared) (σ:St) (H:Hp) (D:Ends),Inv X pins σ H s->t D σ H->wpAny (model X.prog X.w) X.A (exec st X.env) (SP X pins D) X.xe s
def jy(X:Cx)(st:List Stmt)(t:TS):Prop:=
 ∀(pins:List (Addr×Obj)) (s:Shared) (σ:St) (H:Hp) (D:Ends),Inv X pins σ H s->t D σ H->wpAny (model X.prog X.w) X.A (execs st X.env) (SP X pins D) X.xe s
theorem jg{α:Type}{t:Sem α}{Q Q':α->Shared->Prop}{M:Model}{A:Around}{E:Value->Shared->Prop}{s:Shared}(h:wpAny M A t Q E s)(hQ:∀a s,Q a s->Q' a s):wpAny M A t Q' E s:=wCa h hQ fun _ _ x=>x
section
variable {X:Cx}
def yu(i:Nat):TE:=fun σ H Q=>∃v,σ[i]?=some (some v)/\Q v H
def tC(v:V):TE:=fun _ H Q=>Q v H
theorem QJ{i:Nat}{x:Str}{pos:Pos}(hN:X.N[i]?=some x)(hv:gz X.env.scope x)(hd:(x==("__debug__" : Str))=false:=by decide)(hcd:(x==("__classdict__" : Str))=false:=by decide):PE X (.Name x pos) (yu i):=by
 intro pins s σ H Q I h;obtain⟨v,e,h⟩:=h;obtain⟨m,hn,hl⟩:=I.loc;obtain⟨u,r,l⟩:=hl i x v hN e hv;have fin:EP X pins σ Q u s:=⟨v,H,I,r,h⟩
 rcases l with⟨hk,hm⟩ | ⟨hk,c,hc,hcell⟩
 ·exact wpAny_Name (wpAny_loadName_local I.ok.kind hk hn hm fin) hd
 ·rcases hk with hk | hk
  ·exact wpAny_Name (wpAny_loadName_cell I.ok.kind hk hc hcell fin) hd
  ·exact wpAny_Name (wpAny_loadName_free I.ok.kind hk hc hcell fin hcd) hd
theorem QK{i j pos}:PE X (.Constant (.int i) j pos) (tC (.int i)):=fun _ _ _ H _ I h=>wpAny_Constant_int ⟨.int i,H,I.tok _,⟨_,rfl⟩,h⟩
theorem Av{b j pos}:PE X (.Constant (.bool b) j pos) (tC (.bl b)):=fun _ _ _ H _ I h=>Constant_bool ⟨.bl b,H,I,rfl,h⟩
theorem QL{j pos}:PE X (.Constant .none j pos) (tC .non):=fun _ _ _ H _ I h=>Constant_none ⟨.non,H,I,rfl,h⟩
theorem QM{x j pos}:PE X (.Constant (.str x) j pos) (tC (.str x)):=fun _ _ _ H _ I h=>Calls.Constant_str ⟨.str x,H,I.tok _,⟨_,rfl⟩,h⟩
def Gl(X:Cx)(x:Str):Prop:=X.env.kindOf x=some .globalImplicit
theorem Vt{E:Value->Shared->Prop}{pins:List (Addr×Obj)}{s:Shared}{σ:St}{H:Hp}{x:Str}{u:Value}{pos:Pos}{Q:Value->Shared->Prop}(I:Inv X pins σ H s)(hg:Gl X x)(hm:X.mg x=some u)(h:Q u s)
  (hd:(x==("__debug__" : Str))=false:=by decide):wpAny (model X.prog X.w) X.A (eval (.Name x pos) X.env) Q E s:=
 Calls.Name_function_global I.ok.kind hg (Calls.loadGlobal_global (by rw[I.ok.glob];exact I.mod.glob.keeps I.bk) hm h) hd
theorem yT{E:Value->Shared->Prop}{pins:List (Addr×Obj)}{s:Shared}{σ:St}{H:Hp}{x:Str}{u:Value}{pos:Pos}{Q:Value->Shared->Prop}(I:Inv X pins σ H s)(hg:Gl X x)(hm:X.mg x=none)(hv:bootBuiltins x=some u)(h:Q u s)
  (hn:x≠ "__name__" := by decide) (hd:(x==("__debug__" : Str))=false:=by decide):wpAny (model X.prog X.w) X.A (eval (.Name x pos) X.env) Q E s:=by
 obtain⟨mb,h1,h2⟩:=I.mod.blt;exact Calls.Name_function_global I.ok.kind hg (Calls.loadGlobal_builtin (by rw[I.ok.glob];exact I.mod.glob.keeps I.bk) hm (by rw[I.ok.blt];exact h1.keeps I.bk) ((h2 x hn).trans hv) h) hd
theorem Vu{x:Str}{v:V}{u:Value}{pos:Pos}(hg:Gl X x)(hm:X.mg x=some u)(r:jh v u)(hd:(x==("__debug__" : Str))=false:=by decide):PE X (.Name x pos) (tC v):=
 fun _ _ _ H _ I h=>Vt I hg hm ⟨v,H,I,r,h⟩ hd
theorem Vv{x:Str}{v:V}{u:Value}{pos:Pos}(hg:Gl X x)(hm:X.mg x=none)(hv:bootBuiltins x=some u)(r:jh v u)(hn:x≠ "__name__" := by decide)(hd:(x==("__debug__" : Str))=false:=by decide):PE X (.Name x pos) (tC v):=
 fun _ _ _ H _ I h=>yT I hg hm hv ⟨v,H,I,r,h⟩ hn hd
variable {a b:Expr} {ta tb:TE} {pos:Pos}
variable {tA tB':TT} {rest:List Expr}
def BX(t u:TT):TT:=fun σ H Q=>t σ H fun c H1=>if c=true then u σ H1 Q else Q false H1
def CH(t u:TT):TT:=fun σ H Q=>t σ H fun c H1=>if c=true then Q true H1 else u σ H1 Q
def BZ(t:TT):TT:=fun σ H Q=>t σ H fun c H1=>Q (!c) H1
theorem qy(ha:PT X a tA):PW X (.BoolOp .And [a] pos) tA:=by
 intro wh pins s σ H Q I h;refine isTrue_and (jg (ha pins s σ H Q I h) fun c s1 e=>?_);cases c with
 | true=>exact isTrue_and_nil e
 | false=>exact e
theorem QN(ha:PT X a tA):PW X (.BoolOp .Or [a] pos) tA:=by
 intro wh pins s σ H Q I h;refine isTrue_or (jg (ha pins s σ H Q I h) fun c s1 e=>?_);cases c with
 | false=>exact isTrue_or_nil e
 | true=>exact e
theorem QO(ha:PT X a tA)(hb:PW X (.BoolOp .And (b::rest) pos) tB'):PW X (.BoolOp .And (a::b::rest) pos) (BX tA tB'):=by
 intro wh pins s σ H Q I h;refine isTrue_and (jg (ha pins s σ H _ I h) fun c s1 xx=>?_);obtain⟨H1,I1,q1⟩:=xx;cases c with
 | true=>exact hb wh pins s1 σ H1 Q I1 q1
 | false=>exact⟨H1,I1,q1⟩
theorem Aw(ha:PT X a tA)(hb:PW X (.BoolOp .Or (b::rest) pos) tB'):PW X (.BoolOp .Or (a::b::rest) pos) (CH tA tB'):=by
 intro wh pins s σ H Q I h;refine isTrue_or (jg (ha pins s σ H _ I h) fun c s1 xx=>?_);obtain⟨H1,I1,q1⟩:=xx;cases c with
 | true=>exact⟨H1,I1,q1⟩
 | false=>exact hb wh pins s1 σ H1 Q I1 q1
theorem QP(ha:PT X a tA):PT X (.UnaryOp .Not a pos) (BZ tA):=by
 intro pins s σ H Q I h;exact isTrue_not (ha pins s σ H (fun c H1=>Q (!c) H1) I h)
def Ax(ta tb:TE):TE:=fun σ H Q=>ta σ H fun x H1=>∃c,x=.bl c/\if c=true then tb σ H1 Q else Q (.bl false) H1
def B_(ta tb:TE):TE:=fun σ H Q=>ta σ H fun x H1=>∃c,x=.bl c/\if c=true then Q (.bl true) H1 else tb σ H1 Q
def Ay(ta:TE):TE:=fun σ H Q=>ta σ H fun x H1=>∃c,x=.bl c/\Q (.bl (!c)) H1
theorem QQ{op}{t:TE}(h:PE X a t):PE X (.BoolOp op [a] pos) t:=fun pins s σ H Q I hw=>BoolOp_one (h pins s σ H Q I hw)
theorem QR(ha:PE X a ta)(hb:PE X (.BoolOp .And (b::rest) pos) tb):PE X (.BoolOp .And (a::b::rest) pos) (Ax ta tb):=by
 intro pins s σ H Q I h;refine BoolOp_and (jg (ha pins s σ H _ I h) fun v s1 xx=>?_);obtain⟨x,H1,I1,r1,q1⟩:=xx;obtain⟨c,rfl,q1⟩:=q1;cases r1;refine wpAny_truthy_bool ?_;cases c with
 | true=>exact hb pins s1 σ H1 Q I1 q1
 | false=>exact⟨.bl false,H1,I1,rfl,q1⟩
theorem Az(ha:PE X a ta)(hb:PE X (.BoolOp .Or (b::rest) pos) tb):PE X (.BoolOp .Or (a::b::rest) pos) (B_ ta tb):=by
 intro pins s σ H Q I h;refine BoolOp_or (jg (ha pins s σ H _ I h) fun v s1 xx=>?_);obtain⟨x,H1,I1,r1,q1⟩:=xx;obtain⟨c,rfl,q1⟩:=q1;cases r1;refine wpAny_truthy_bool ?_;cases c with
 | false=>exact hb pins s1 σ H1 Q I1 q1
 | true=>exact⟨.bl true,H1,I1,rfl,q1⟩
theorem QS(ha:PE X a ta):PE X (.UnaryOp .Not a pos) (Ay ta):=by
 intro pins s σ H Q I h;refine UnaryOp_ (jg (ha pins s σ H _ I h) fun v s1 xx=>?_);obtain⟨x,H1,I1,r1,q1⟩:=xx;obtain⟨c,rfl,q1⟩:=q1;cases r1;exact not_of (wpAny_truthy_bool ⟨.bl (!c),H1,I1,rfl,q1⟩)
def CI(t:TT)(ta tb:TE):TE:=fun σ H Q=>t σ H fun c H1=>if c=true then ta σ H1 Q else tb σ H1 Q
theorem Kz{c:Expr}(hc:PT X c tA)(ha:PE X a ta)(hb:PE X b tb):PE X (.IfExp c a b pos) (CI tA ta tb):=by
 intro pins s σ H Q I h;refine wpAny_IfExp (jg (hc pins s σ H _ I h) fun d s1 xx=>?_);obtain⟨H1,I1,q1⟩:=xx;cases d with
 | true=>exact ha pins s1 σ H1 Q I1 q1
 | false=>exact hb pins s1 σ H1 Q I1 q1
end
def jj(K:PySem.W.Frag)(H:Hp)(a:Addr)(xs:List V):Prop:=
 Rd H a (.lst xs)∨
  ∃(o:Obj) (its:Array Value) (n:Nat),K.lookup a=some o/\o.cls=.type "list" /\o.dict=none/\o.data=.seq its n/\its.size<=sizeLine/\jb xs its.toList
def jX(K:PySem.W.Frag)(H:Hp)(a:Addr)(xs:List V):Prop:=
 Rd H a (.tup xs)∨
  ∃(o:Obj) (its:Array Value) (n:Nat),K.lookup a=some o/\o.cls=.type "tuple" /\o.data=.seq its n/\its.size<=sizeLine/\jb xs its.toList
noncomputable def c0:Value->Option V
 | .none=>some .non
 | .bool b=>some (.bl b)
 | .int i _=>some (.int i)
 | .str x _=>some (.str x)
 | .bytes b _=>some (.byt b)
 | .float b _=>some (.flt b)
 | .ref a=>some (.ref a)
 | .type n=>some (.ty n)
 | _=>none
theorem jh.abs{x:V}{u:Value}(r:jh x u):c0 u=some x:=by
 cases x with
 | non=>cases r;rfl
 | bl _=>cases r;rfl
 | int _=>obtain⟨t,rfl⟩:=r;rfl
 | str _=>obtain⟨t,rfl⟩:=r;rfl
 | byt _=>obtain⟨t,rfl⟩:=r;rfl
 | flt _=>obtain⟨t,rfl⟩:=r;rfl
 | ref _=>cases r;rfl
 | ty _=>cases r;rfl
theorem jh.inj{x y:V}{u:Value}(r:jh x u)(q:jh y u):x=y:=vFa (r.abs.symm.trans q.abs)
theorem jb.inj:∀{xs ys:List V} {us:List Value},jb xs us->jb ys us->xs=ys
 | _,_,_,.nil,.nil=>rfl
 | _,_,_,.cons r t,.cons r' t'=>by rw[r.inj r',jb.inj t t']
section
variable {X:Cx} {pins:List (Addr×Obj)} {σ:St} {H:Hp} {s:Shared} {a:Addr} {xs ys:List V}
theorem jj.of{K:PySem.W.Frag}(h:H a=some (.lst xs)):jj K H a xs:=.inl (.inl h)
theorem jX.of{K:PySem.W.Frag}(h:H a=some (.tup xs)):jX K H a xs:=.inl (.inl h)
theorem Inv.list(I:Inv X pins σ H s)(h:jj X.K H a xs):∃its:List Value,jb xs its/\PlainL s.heap a its.toArray/\xs.length<=sizeLine:=by
 rcases h with h | ⟨o,its,n,hk,hc,hd,hs,hz,r⟩
 ·obtain⟨z,its,n,r,e⟩:=h.ok I.hok;exact⟨its,r,⟨_,n,e,rfl,rfl,rfl⟩,z⟩
 ·refine⟨its.toList,r,⟨o,n,I.kIn a o hk,hc,hd,by simpa using hs⟩,?_⟩;have e:=r.length;simp only[Array.length_toList]at e;omega
theorem Inv.tuple(I:Inv X pins σ H s)(h:jX X.K H a xs):∃its:List Value,jb xs its/\IsTup s.heap a its.toArray/\xs.length<=sizeLine:=by
 rcases h with h | ⟨o,its,n,hk,hc,hs,hz,r⟩
 ·obtain⟨z,its,r,p⟩:=h.ok I.hok;exact⟨its,r,p,z⟩
 ·refine⟨its.toList,r,⟨o,I.kIn a o hk,hc,n,by simpa using hs⟩,?_⟩;have e:=r.length;simp only[Array.length_toList]at e;omega
theorem Inv.list_inj(I:Inv X pins σ H s)(h:jj X.K H a xs)(h':jj X.K H a ys):xs=ys:=by
 obtain⟨its,r,⟨o,n,e,_,_,d⟩,_⟩:=I.list h;obtain⟨its',r',⟨o',n',e',_,_,d'⟩,_⟩:=I.list h';rw[e]at e';cases e';rw[d]at d';injection d' with d1 _;have:its=its':=by simpa using congrArg Array.toList d1
 subst this;exact r.inj r'
theorem Inv.tuple_inj(I:Inv X pins σ H s)(h:jX X.K H a xs)(h':jX X.K H a ys):xs=ys:=by
 obtain⟨its,r,⟨o,e,_,n,d⟩,_⟩:=I.tuple h;obtain⟨its',r',⟨o',e',_,n',d'⟩,_⟩:=I.tuple h';rw[e]at e';cases e';rw[d]at d';injection d' with d1 _;have:its=its':=by simpa using congrArg Array.toList d1
 subst this;exact r.inj r'
end
noncomputable abbrev Cx.wish(X:Cx)(E:Value->Shared->Prop):Cx:={ X with xe:=E }
abbrev Cx.nox(X:Cx):Cx:=X.wish fun _ _=>False
theorem Cx.Ok.wish{X:Cx}(ok:X.Ok)(E:Value->Shared->Prop):(X.wish E).Ok:=
 ⟨ok.mod,ok.kind,ok.glob,ok.blt,ok.above,ok.inj,ok.has,ok.cab,ok.hd,ok.frames,ok.stk,ok.exf,ok.bs,ok.bsz,ok.noex,ok.exfs,ok.funs,ok.frf⟩
theorem Cx.Ok.unwish{X:Cx}{E:Value->Shared->Prop}(ok:(X.wish E).Ok):X.Ok:=
 ⟨ok.mod,ok.kind,ok.glob,ok.blt,ok.above,ok.inj,ok.has,ok.cab,ok.hd,ok.frames,ok.stk,ok.exf,ok.bs,ok.bsz,ok.noex,ok.exfs,ok.funs,ok.frf⟩
section
variable {X:Cx} {pins:List (Addr×Obj)} {σ:St} {H:Hp} {s:Shared} {E:Value->Shared->Prop}
theorem Inv.wish(I:Inv X pins σ H s)(E:Value->Shared->Prop):Inv (X.wish E) pins σ H s:=⟨I.ok.wish E,I.os,I.bare,I.base,I.loc,I.cell,I.free,I.freeC,I.pin,I.hok,I.len⟩
theorem Inv.unwish(I:Inv (X.wish E) pins σ H s):Inv X pins σ H s:=⟨I.ok.unwish,I.os,I.bare,I.base,I.loc,I.cell,I.free,I.freeC,I.pin,I.hok,I.len⟩
theorem SP.unwish{D:Ends}{f:Flow}{s':Shared}(h:SP (X.wish E) pins D f s'):SP X pins D f s':=by
 cases f with
 | next=>obtain⟨σ',H',I,q⟩:=h;exact⟨σ',H',I.unwish,q⟩
 | brk=>obtain⟨σ',H',I,q⟩:=h;exact⟨σ',H',I.unwish,q⟩
 | cont=>obtain⟨σ',H',I,q⟩:=h;exact⟨σ',H',I.unwish,q⟩
 | ret u=>obtain⟨v,σ',H',I,r,q⟩:=h;exact⟨v,σ',H',I.unwish,r,q⟩
theorem jy.nox{st:List Stmt}{t:TS}(h:jy X.nox st t):jy X st t:=fun pins s σ H D I hw=>
 wCa (h pins s σ H D (I.wish _) hw) (fun _ _ q=>q.unwish) fun _ _ z=>False.elim z
end
section
variable {X:Cx} {st:Stmt} {rest:List Stmt} {t u:TS} {e:Expr} {te:TE} {pos:Pos}
def Wj:TS:=fun D σ H=>D.nx σ H
def ca(t u:TS):TS:=fun D σ H=>t { D with nx:=u D } σ H
theorem gA:jy X [] Wj:=fun _ _ σ H _ I h=>wpAny_execs_nil ⟨σ,H,I,h⟩
theorem vm(h1:PS X st t)(h2:jy X rest u):jy X (st::rest) (ca t u):=by
 intro pins s σ H D I h;refine wpAny_execs_cons (jg (h1 pins s σ H { D with nx:=u D } I h) fun f s1 q=>?_);cases f with
 | next=>
  obtain⟨σ',H',I',q⟩:=q;exact h2 pins s1 σ' H' D I' q
 | ret v=>exact q
 | brk=>exact q
 | cont=>exact q
theorem Vw(h1:PS X st t):jy X [st] t:=by
 intro pins s σ H D I h;refine wpAny_execs_cons (jg (h1 pins s σ H D I h) fun f s1 q=>?_);cases f with
 | next=>exact wpAny_execs_nil q
 | ret v=>exact q
 | brk=>exact q
 | cont=>exact q
def QT:TS:=fun D σ H=>D.bk σ H
def AA:TS:=fun D σ H=>D.ct σ H
theorem qz:PS X (.Pass pos) Wj:=fun _ _ σ H _ I h=>wpAny_Pass ⟨σ,H,I,h⟩
theorem KA:PS X (.Break pos) QT:=fun _ _ σ H _ I h=>wpAny_Break ⟨σ,H,I,h⟩
theorem gb:PS X (.Continue pos) AA:=fun _ _ σ H _ I h=>wpAny_Continue ⟨σ,H,I,h⟩
theorem Inv.quiet{pins:List (Addr×Obj)}{σ:St}{H:Hp}{s:Shared}(I:Inv X pins σ H s):interactive X.env=false:=by simp[interactive,I.ok.kind]
def uA(te:TE):TS:=fun D σ H=>te σ H fun _ H1=>D.nx σ H1
theorem ZG(he:PE X e te)(hs:swapsWith e none pos.line X.env=pure false:=by rfl):PS X (.Expr e pos) (uA te):=by
 intro pins s σ H D I h;exact wpAny_Expr_any (jg (he pins s σ H _ I h) fun v s1 ⟨x,H1,I1,r1,q1⟩=>⟨σ,H1,I1,q1⟩) I.quiet hs
def cb(te:TE):TS:=fun D σ H=>te σ H D.rt
theorem vT(he:PE X e te):PS X (.Return (some e) pos) (cb te):=by
 intro pins s σ H D I h;exact wpAny_Return_some (jg (he pins s σ H _ I h) fun v s1 ⟨x,H1,I1,r1,q1⟩=>⟨x,σ,H1,I1,r1,q1⟩)
def AB:TS:=fun D _ H=>D.rt .non H
theorem qA:PS X (.Return none pos) AB:=fun _ _ σ H _ I h=>wpAny_Return_none ⟨.non,σ,H,I,rfl,h⟩
def ce(c:TT)(t u:TS):TS:=fun D σ H=>c σ H fun b H1=>if b=true then t D σ H1 else u D σ H1
theorem Wk{c:Expr}{a b:List Stmt}{tc:TT}(hc:PT X c tc)(ha:jy X a t)(hb:jy X b u):PS X (.If c a b pos) (ce tc t u):=by
 intro pins s σ H D I h;refine wpAny_If (jg (hc pins s σ H _ I h) fun d s1 xx=>?_);obtain⟨H1,I1,q1⟩:=xx;cases d with
 | true=>exact ha pins s1 σ H1 D I1 q1
 | false=>exact hb pins s1 σ H1 D I1 q1
def QU:TS:=fun _ _ _=>False
theorem kv{sts:List Stmt}:jy X sts QU:=fun _ _ _ _ _ _ h=>h.elim
end
noncomputable abbrev TG:=V->St->Hp->(St->Hp->Prop)->Prop
noncomputable abbrev Zc:=List V->St->Hp->(St->Hp->Prop)->Prop
def PG(X:Cx)(target:Expr)(t:TG):Prop:=
 ∀(pins:List (Addr×Obj)) (s:Shared) (σ:St) (H:Hp) (v:V) (u:Value) (Q:St->Hp->Prop),Inv X pins σ H s->jh v u->t v σ H Q->
  wpAny (model X.prog X.w) X.A (assign target X.env u) (fun _ s'=>∃σ' H',Inv X pins σ' H' s'/\Q σ' H') X.xe s
def Z1(X:Cx)(ts:List Expr)(t:Zc):Prop:=
 ∀(pins:List (Addr×Obj)) (s:Shared) (σ:St) (H:Hp) (vs:List V) (us:List Value) (Q:St->Hp->Prop),Inv X pins σ H s->jb vs us->t vs σ H Q->
  wpAny (model X.prog X.w) X.A (assignInOrder ((assignEach ts X.env).map (·.2)) us) (fun _ s'=>∃σ' H',Inv X pins σ' H' s'/\Q σ' H') X.xe s
noncomputable abbrev KB:=V->V->V->Hp->(Hp->Prop)->Prop
def QV(X:Cx)(t:KB):Prop:=
 ∀(pins:List (Addr×Obj)) (s:Shared) (σ:St) (H:Hp) (o i v:V) (ov iv u:Value) (Q:Hp->Prop),Inv X pins σ H s->jh o ov->jh i iv->jh v u->t o i v H Q->
  wpAny (model X.prog X.w) X.A (setItem ov iv u) (fun _ s'=>∃H',Inv X pins σ H' s'/\Q H') X.xe s
noncomputable abbrev Wl:=V->V->Hp->VK->Prop
def Wm(X:Cx)(op:Operator)(t:Wl):Prop:=
 ∀(pins:List (Addr×Obj)) (s:Shared) (σ:St) (H:Hp) (x y:V) (v u:Value) (Q:VK),Inv X pins σ H s->jh x v->jh y u->t x y H Q->
  wpAny (model X.prog X.w) X.A (inplaceOp op v u) (EP X pins σ Q) X.xe s
section
variable {X:Cx} {pos:Pos}
def yH(i:Nat):TG:=fun v σ H Q=>Q (σ.set i (some v)) H
theorem qB{i:Nat}{x:Str}(hN:X.N.Nodup)(hi:X.N[i]?=some x)(hx:ZT X.env.scope x)(hf:X.fn x=true∨X.env.scope.names.lookup x=some .local:=by first | exact .inl rfl | exact .inr rfl | assumption):PG X (.Name x pos) (yH i):=by
 intro pins s σ H v u Q I r h;exact wpAny_assign_Name (vk I hN hi hx r (fun s' I'=>⟨_,H,I',h⟩) hf)
def cf:Zc:=fun vs σ H Q=>vs=[]/\Q σ H
def AD(t:TG)(u:Zc):Zc:=fun vs σ H Q=>∃v r,vs=v::r/\t v σ H fun σ' H'=>u r σ' H' Q
theorem qC:Z1 X [] cf:=by
 intro pins s σ H vs us Q I r h;obtain⟨e,h⟩:=h;subst e;cases r;exact assignInOrder_nil ⟨σ,H,I,h⟩
theorem KC{e:Expr}{es:List Expr}{t:TG}{u:Zc}(h1:PG X e t)(h2:Z1 X es u)
  (hs:(assignEach (e::es) X.env).map (·.2)=assign e X.env::(assignEach es X.env).map (·.2):=by rfl):Z1 X (e::es) (AD t u):=by
 intro pins s σ H vs us Q I r h;obtain⟨v,vr,e1,h⟩:=h;subst e1;cases r with
 | cons r rr=>
  rw[hs];refine assignInOrder_cons (jg (h1 pins s σ H _ _ _ I r h) fun _ s1 xx=>?_);obtain⟨σ1,H1,I1,q1⟩:=xx;exact h2 pins s1 σ1 H1 _ _ Q I1 rr q1
def cg(K:PySem.W.Frag)(n:Nat)(t:Zc):TG:=fun v σ H Q=>∃a xs,v=.ref a/\jX K H a xs/\xs.length=n/\t xs σ H Q
theorem QW{es:List Expr}{k:Nat}{t:Zc}{n:Nat}(hc:X.calm=true)(h:Z1 X es t)
  (hn:(assignEach es X.env).length=n:=by rfl) (hst:(assignEach es X.env).findIdx? (·.1)=none:=by rfl):PG X (.Tuple es k pos) (cg X.K n t):=by
 intro pins s σ H v u Q I r hw;obtain⟨a,xs,e1,hq,hl,hw⟩:=hw;subst e1;cases r;obtain⟨its,rv,ht,hz⟩:=I.tuple hq;refine assign_Tuple_tuple (I.ok.hd hc) ht (by simp[hn,<-hl,rv.length]) hst fun h' hx=>?_;have I1:Inv X pins σ H { s with heap:=h' }:=I.kept (t':=s.toks) fun b o e=>hx b o (wTa (wLa e)) e;exact h pins _ σ H xs _ Q I1 (by simpa using rv) hw
def QX(to ti:TE)(t:KB):TG:=fun v σ H Q=>to σ H fun o H1=>ti σ H1 fun i H2=>t o i v H2 fun H3=>Q σ H3
theorem QY{o i:Expr}{to ti:TE}{t:KB}(ho:PE X o to)(hi:PE X i ti)(hs:QV X t)
  (ha:∀v,assign (.Subscript o i pos) X.env v=(do
   let ov<-holding [v] (eval o X.env)
   let iv<-holding [v,ov] (eval i X.env)
   standAt pos
   holding [v,ov,iv] (setItem ov iv v)
   release [v,ov,iv] []):=by intro _;rfl):PG X (.Subscript o i pos) (QX to ti t):=by
 intro pins s σ H v u Q I r h;rw[ha];refine wAa (wDa (jg (ho pins s σ H _ I h) fun ov s1 xx=>?_));obtain⟨x,H1,I1,r1,q1⟩:=xx;refine wAa (wDa (jg (hi pins s1 σ H1 _ I1 q1) fun iv s2 xx=>?_));obtain⟨y,H2,I2,r2,q2⟩:=xx;refine wAa (vOa (wAa (wDa (jg (hs pins s2 σ H2 x y v ov iv u _ I2 r1 r2 r q2) fun _ s3 xx=>?_))));obtain⟨H3,I3,q3⟩:=xx;exact wpAny_release ⟨σ,H3,I3,q3⟩
def y9(te:TE)(g:TG):TS:=fun D σ H=>te σ H fun x H1=>g x σ H1 D.nx
theorem uN{tg e:Expr}{te:TE}{g:TG}(he:PE X e te)(hg:PG X tg g)(hs:swapsWithSole [tg] e pos.line X.env=pure false:=by rfl)(hw:swappedStores [tg] e X.env=pure none:=by rfl)
  (h1:(assignEach [tg] X.env).map (·.2)=[assign tg X.env]:=by rfl):PS X (.Assign [tg] e pos) (y9 te g):=by
 intro pins s σ H D I h;refine wpAny_Assign_stores (jg (he pins s σ H _ I h) fun v s1 xx=>?_) hs hw;obtain⟨x,H1,I1,r1,q1⟩:=xx;rw[h1];exact jg (hg pins s1 σ H1 x v _ I1 r1 q1) fun _ s2 q=>q
theorem vU{i:Nat}{x:Str}{e:Expr}{te:TE}{pos':Pos}(hN:X.N.Nodup)(hi:X.N[i]?=some x)(hx:ZT X.env.scope x)(he:PE X e te)(hs:swapsWith e (some (.Name x pos')) pos.line X.env=pure false:=by rfl)(hf:X.fn x=true∨X.env.scope.names.lookup x=some .local:=by first | exact .inl rfl | exact .inr rfl | assumption):
  PS X (.Assign [.Name x pos'] e pos) (y9 te (yH i)):=by
 intro pins s σ H D I h;refine wpAny_Assign_Name (jg (he pins s σ H _ I h) fun v s1 xx=>?_) hs;obtain⟨y,H1,I1,r1,q1⟩:=xx;exact vk I1 hN hi hx r1 (fun s2 I2=>⟨_,H1,I2,q1⟩) hf
def KF(i:Nat)(te:TE)(ti:Wl):TS:=fun D σ H=>∃x,σ[i]?=some (some x)/\te σ H fun y H1=>ti x y H1 fun z H2=>D.nx (σ.set i (some z)) H2
theorem uO{i:Nat}{x:Str}{e:Expr}{te:TE}{op:Operator}{ti:Wl}{pos':Pos}(hN:X.N.Nodup)(hi:X.N[i]?=some x)(hx:ZT X.env.scope x)(he:PE X e te)(ho:Wm X op ti)(hf:X.fn x=true∨X.env.scope.names.lookup x=some .local:=by first | exact .inl rfl | exact .inr rfl | assumption):
  PS X (.AugAssign (.Name x pos') op e pos) (KF i te ti):=by
 intro pins s σ H D I h;obtain⟨v,e1,h⟩:=h;obtain⟨m,hn,hl⟩:=I.loc;have vis:gz X.env.scope x:=by rcases hx with k | k;exact .inl k;exact .inr (.inl k)
 obtain⟨u,r,l⟩:=hl i x v hi e1 vis;refine wpAny_AugAssign_Name ?_;have go:wpAny (model X.prog X.w) X.A (eval e X.env) (fun w s₂=>wpAny (model X.prog X.w) X.A (inplaceOp op u w) (fun r s₃=>wpAny (model X.prog X.w) X.A (storeName X.env x r) (fun _=>SP X pins D .next) X.xe s₃) X.xe s₂) X.xe s:=by
  refine jg (he pins s σ H _ I h) fun w s1 xx=>?_;obtain⟨y,H1,I1,r1,q1⟩:=xx;refine jg (ho pins s1 σ H1 v y u w _ I1 r r1 q1) fun z s2 xx=>?_;obtain⟨zv,H2,I2,r2,q2⟩:=xx;exact vk I2 hN hi hx r2 (fun s3 I3=>⟨_,H2,I3,q2⟩) hf
 rcases l with⟨hk,hm⟩ | ⟨hk,c,hc,hcell⟩
 ·exact wpAny_loadName_local I.ok.kind hk hn hm go
 ·rcases hk with hk | hk
  ·exact wpAny_loadName_cell I.ok.kind hk hc hcell go
  ·rcases hx with k | k
   ·have:X.env.scope.names.lookup x=some .free:=hk;rw[k]at this;cases this
   ·have:X.env.scope.names.lookup x=some .free:=hk;rw[k]at this;cases this
noncomputable def QZ(f:Int->Int->Int):Wl:=fun x y H Q=>∃i j,x=.int i/\y=.int j/\Q (.int (f i j)) H
theorem Q_:Wm X .Add (QZ fun i j=>i+j):=by
 intro pins s σ H x y v u Q I r1 r2 h;obtain⟨i,j,e1,e2,q⟩:=h;subst e1;subst e2;obtain⟨t,rfl⟩:=r1;obtain⟨t',rfl⟩:=r2;exact iadd_int ⟨.int _,H,I.tok _,⟨_,rfl⟩,q⟩
theorem x8:Wm X .Sub (QZ fun i j=>i - j):=by
 intro pins s σ H x y v u Q I r1 r2 h;obtain⟨i,j,e1,e2,q⟩:=h;subst e1;subst e2;obtain⟨t,rfl⟩:=r1;obtain⟨t',rfl⟩:=r2;exact isub_int ⟨.int _,H,I.tok _,⟨_,rfl⟩,q⟩
end
section
variable {X:Cx} {pos:Pos}
def x9(c:TT)(tb:TS):TS:=fun D σ H=>∃W:Nat->St->Hp->Prop,(∃m,W m σ H)/\∀m σ H,W m σ H->
 c σ H fun b H1=>if b=true then∃N:St->Hp->Prop,(∀σ' H',N σ' H'->∃m',m' < m/\W m' σ' H')/\tb { D with nx:=N,ct:=N,bk:=D.nx } σ H1 else D.nx σ H1
theorem KG{c:Expr}{body:List Stmt}{tc:TT}{tb:TS}(hp:PassesOwn (model X.prog X.w) X.A X.env X.xe)(hc:PT X c tc)(hb:jy X body tb):PS X (.While c body [] pos) (x9 tc tb):=by
 intro pins s σ H D I h;obtain⟨W,⟨m0,w0⟩,turn⟩:=h;refine wpAny_While (codeAny_whileLoop (fun n s'=>∃σ' H',Inv X pins σ' H' s'/\W n σ' H') ?_ m0 ⟨σ,H,I,w0⟩);rintro n s1 ⟨σ1,H1,I1,w1⟩;refine wpAny_passesOwn hp (jg (hc pins s1 σ1 H1 _ I1 (turn n σ1 H1 w1)) fun b s2 xx=>?_);obtain⟨H2,I2,q2⟩:=xx;cases b with
 | true=>
  obtain⟨N,hN,q2⟩:=q2;rw[if_pos rfl];refine wpAny_passesOwn hp (jg (hb pins s2 σ1 H2 _ I2 q2) fun f s3 q3=>?_);cases f with
  | next=>
   obtain⟨σ3,H3,I3,n3⟩:=q3;obtain⟨m',hm,w3⟩:=hN σ3 H3 n3;exact⟨m',hm,σ3,H3,I3,w3⟩
  | cont=>
   obtain⟨σ3,H3,I3,n3⟩:=q3;obtain⟨m',hm,w3⟩:=hN σ3 H3 n3;exact⟨m',hm,σ3,H3,I3,w3⟩
  | brk=>exact q3
  | ret v=>exact q3
 | false=>
  rw[if_neg Bool.false_ne_true];exact wpAny_execs_nil ⟨σ1,H2,I2,q2⟩
end
structure It where
 go:Nat->Hp->Prop
 yld:Nat->Hp->V->Hp->Prop
 stop:Nat->Hp->Prop
def jY(X:Cx)(pins:List (Addr×Obj))(H:Hp)(b:Addr):Prop:=
 H b=none/\b≠X.env.locals/\b∉X.fs/\(b∈X.ex∨X.s₀.heap.objs.size<=b)/\(∀x c,X.env.cells.lookup x=some c->c≠b)/\∀p∈X.pn++pins,p.1≠b
theorem Inv.fpOk{X:Cx}{pins:List (Addr×Obj)}{σ:St}{H H':Hp}{s:Shared}{b:Addr}(I:Inv X pins σ H s)(hb:s.heap.objs.size<=b)(hn:H' b=none):jY X pins H' b:=by
 refine⟨hn,Nat.ne_of_gt (Nat.lt_of_lt_of_le I.lt hb),I.nofs hb,.inr (wSa I.sz hb),fun x c e z=>?_,fun p hp z=>?_⟩
 ·obtain⟨v,q⟩:=I.cell x c e;exact vDa (Nat.lt_of_lt_of_le q.lt (by rw[z];exact hb)) (wUa _)
 ·exact vDa (Nat.lt_of_lt_of_le (wLa (I.pin p hp).1) (by rw[z];exact hb)) (wUa _)
structure Turn (P:Program) (w:World) (K:PySem.W.Frag) (tg:Expr) (J:It) (fp:List Addr) (it:Addr) (tn:Nat->Heap->Prop):Prop where
 mem:it∈fp
 obj:∀i h,tn i h->∀b∈fp,∃o,h.get? b=some o/\∀v,o.data≠.cell v
 keep:∀i h h',tn i h->(∀b∈fp,∀o,h.get? b=some o->h'.get? b=some o)->tn i h'
 item:∀(X:Cx),X.prog=P->X.w=w->X.K=K->X.calm=true->∀(i:Nat) (pins:List (Addr×Obj)) (s:Shared) (σ:St) (H:Hp) (E:Value->Shared->Prop),Inv X pins σ H s->(∀b∈fp,jY X pins H b)->tn i s.heap->J.go i H->
  wpAny (model P w) X.A (pyNext (.ref it)) (fun r s1=>∃u,r=some u/\
   wpAny (model P w) X.A (letOwnedTupleGo tg (.ref it) u) (fun _ s2=>∃x H',Inv X pins σ H' s2/\jh x u/\J.yld i H x H'/\tn (i+1) s2.heap/\∀b∈fp,H' b=none) E s1) E s
 done:∀(X:Cx),X.prog=P->X.w=w->X.K=K->X.calm=true->∀(i:Nat) (pins:List (Addr×Obj)) (s:Shared) (σ:St) (H:Hp) (E:Value->Shared->Prop),Inv X pins σ H s->(∀b∈fp,jY X pins H b)->tn i s.heap->J.stop i H->
  wpAny (model P w) X.A (pyNext (.ref it)) (fun r s1=>r=none/\Inv X pins σ H s1) E s
 self:∀(A:Around) (i:Nat) (s:Shared) (Q:Value->Shared->Prop) (E:Value->Shared->Prop),tn i s.heap->Q (.ref it) s->wpAny (model P w) A (pyIter (.ref it)) Q E s
noncomputable abbrev TI:=St->Hp->(It->Hp->Prop)->Prop
def Bg(X:Cx)(pins:List (Addr×Obj))(σ:St)(tg:Expr)(R:It->Hp->Prop)(itv:Value)(s2:Shared):Prop:=
 ∃(it:Addr) (fp:List Addr) (tn:Nat->Heap->Prop) (J:It) (H':Hp),itv=.ref it/\Inv X pins σ H' s2/\Turn X.prog X.w X.K tg J fp it tn/\tn 0 s2.heap/\(∀b∈fp,jY X pins H' b)/\R J H'
def PI(X:Cx)(tg iter:Expr)(wi:TI):Prop:=
 ∀(pins:List (Addr×Obj)) (s:Shared) (σ:St) (H:Hp) (R:It->Hp->Prop),Inv X pins σ H s->wi σ H R->
  wpAny (model X.prog X.w) X.A (eval iter X.env) (fun v s1=>wpAny (model X.prog X.w) X.A (pyIter v) (Bg X pins σ tg R) X.xe s1) X.xe s
theorem uB{M:Model}{A:Around}{E:Value->Shared->Prop}{s:Shared}{tg:Expr}{it:Addr}{u:Value}{o:Obj}{n:String}{vs:Array Value}{Q:Unit->Shared->Prop}(ho:s.heap.get? it=some o)(hc:o.cls=.type n)(hd:o.data=.fields vs)
  (hn:["enumerate", "zip", "dict_itemiterator", "dict_reverseitemiterator", "odict_iterator", "itertools.zip_longest", "itertools.pairwise"].contains n=false) (hQ:Q () s):wpAny M A (letOwnedTupleGo tg (.ref it) u) Q E s:=by
 unfold letOwnedTupleGo;cases tg <;> first
  | exact wBa hQ
  | (cases u <;> first
    | exact wBa hQ
    | (refine wAa (wpAny_load ho ?_)
       rw[hc,hd];show wpAny M A (if (["enumerate", "zip", "dict_itemiterator", "dict_reverseitemiterator", "odict_iterator", "itertools.zip_longest", "itertools.pairwise"].contains n&&vs[0]?==some (rawInt _))=true then _ else _) Q E s;rw[if_neg (by intro h;rw[hn,Bool.false_and]at h;cases h)];exact wBa hQ))
def xa(K:PySem.W.Frag)(a:Addr):It:=
 ⟨fun i H=>∃xs x,jj K H a xs/\xs[i]?=some x,fun i H x H'=>H'=H/\∀xs,jj K H a xs->xs[i]?=some x,fun i H=>∃xs,jj K H a xs/\xs.length<=i⟩
def xb(K:PySem.W.Frag)(a:Addr):It:=
 ⟨fun i H=>∃xs x,jX K H a xs/\xs[i]?=some x,fun i H x H'=>H'=H/\∀xs,jX K H a xs->xs[i]?=some x,fun i H=>∃xs,jX K H a xs/\xs.length<=i⟩
def Wn(lo:Int)(n:Nat):It:=⟨fun i _=>i < n,fun i H x H'=>H'=H/\x=.int (lo+i),fun i _=>n<=i⟩
theorem kx{P:Program}{w:World}{K:PySem.W.Frag}{tg:Expr}(a it:Addr):Turn P w K tg (xa K a) [it] it (fun i h=>h.IsListIter it a i) where
 mem:=by simp
 obj:=fun i h st b hb=>by
  have e:b=it:=by simpa using hb
  subst e;obtain⟨o,e,c,d⟩:=st;exact⟨o,e,fun v z=>by rw[d]at z;cases z⟩
 keep:=fun i h h' st k=>st.at fun o e=>k it (by simp) o e
 item:=by
  intro X hP hw hK hc i pins s σ H E I hf st hg;subst hP hw hK;obtain⟨xs,x,hq,hx⟩:=hg;obtain⟨its,rv,p,hz⟩:=I.list hq;obtain⟨u,hu,ru⟩:=rv.get hx;obtain⟨f0,f1,f2,f3,f4,f5⟩:=hf it (by simp);refine wpAny_pyNext_list_item st p.isList (x:=u) (by simpa using hu) fun h' st' sb=>?_;have I1:Inv X pins σ H { s with heap:=h' }:=I.turned (t':=s.toks) (fun b o hb e=>(sb.2 b hb).trans e) f0 f1 f3 f4 f5;obtain⟨o,e,c,d⟩:=id st';exact⟨u,rfl,uB (s:={ s with heap:=h' }) e c d (by decide) ⟨x,H,I1,ru,⟨rfl,fun ys hy=>by rw[I.list_inj hy hq];exact hx⟩,st',fun b hb=>(hf b hb).1⟩⟩
 done:=by
  intro X hP hw hK hc i pins s σ H E I hf st hg;subst hP hw hK;obtain⟨xs,hq,hx⟩:=hg;obtain⟨its,rv,p,hz⟩:=I.list hq;obtain⟨f0,f1,f2,f3,f4,f5⟩:=hf it (by simp);have hl:=rv.length;exact wpAny_pyNext_list_end (I.ok.hd hc) st p.isList (by simp;omega) fun h' eb=>⟨rfl,I.turned (t':=s.toks) (fun b o hb e=>eb b o hb e) f0 f1 f3 f4 f5⟩
 self:=fun _ _ _ _ _ st h=>wpAny_pyIter_listiter st h
theorem Gn{P:Program}{w:World}{K:PySem.W.Frag}{tg:Expr}(a it:Addr):Turn P w K tg (xb K a) [it] it (fun i h=>h.IsTupleIter it a i) where
 mem:=by simp
 obj:=fun i h st b hb=>by
  have e:b=it:=by simpa using hb
  subst e;obtain⟨o,e,c,d⟩:=st;exact⟨o,e,fun v z=>by rw[d]at z;cases z⟩
 keep:=fun i h h' st k=>st.at fun o e=>k it (by simp) o e
 item:=by
  intro X hP hw hK hc i pins s σ H E I hf st hg;subst hP hw hK;obtain⟨xs,x,hq,hx⟩:=hg;obtain⟨its,rv,p,hz⟩:=I.tuple hq;obtain⟨u,hu,ru⟩:=rv.get hx;obtain⟨f0,f1,f2,f3,f4,f5⟩:=hf it (by simp);refine wpAny_pyNext_tuple_item st (show s.heap.IsTuple a its.toArray from p) (x:=u) (by simpa using hu) fun h' st' sb=>?_;have I1:Inv X pins σ H { s with heap:=h' }:=I.turned (t':=s.toks) (fun b o hb e=>(sb.2 b hb).trans e) f0 f1 f3 f4 f5;obtain⟨o,e,c,d⟩:=id st';exact⟨u,rfl,uB (s:={ s with heap:=h' }) e c d (by decide) ⟨x,H,I1,ru,⟨rfl,fun ys hy=>by rw[I.tuple_inj hy hq];exact hx⟩,st',fun b hb=>(hf b hb).1⟩⟩
 done:=by
  intro X hP hw hK hc i pins s σ H E I hf st hg;subst hP hw hK;obtain⟨xs,hq,hx⟩:=hg;obtain⟨its,rv,p,hz⟩:=I.tuple hq;obtain⟨f0,f1,f2,f3,f4,f5⟩:=hf it (by simp);have hl:=rv.length;exact wpAny_pyNext_tuple_end (I.ok.hd hc) st (show s.heap.IsTuple a its.toArray from p) (by simp;omega) fun h' eb=>⟨rfl,I.turned (t':=s.toks) (fun b o hb e=>eb b o hb e) f0 f1 f3 f4 f5⟩
 self:=fun _ _ _ _ _ st h=>wpAny_pyIter_tupleiter st h
theorem Go{P:Program}{w:World}{K:PySem.W.Frag}{tg:Expr}(it:Addr)(lo:Int)(n:Nat):Turn P w K tg (Wn lo n) [it] it (fun i h=>IsRangeIter h it (lo+(i:Nat) * 1) ((n:Int) - (i:Nat)) 1) where
 mem:=by simp
 obj:=fun i h st b hb=>by
  have e:b=it:=by simpa using hb
  subst e;exact⟨_,st,fun v z=>by
   have z':Data.fields _=Data.cell v:=z;cases z'⟩
 keep:=fun i h h' st k=>k it (by simp) _ st
 item:=by
  intro X hP hw hK hc i pins s σ H E I hf st hg;subst hP hw hK;obtain⟨f0,f1,f2,f3,f4,f5⟩:=hf it (by simp);have W:=Walks.range (prog:=X.prog) (w:=X.w) (I.ok.hd hc) it lo 1 n;refine W.item i s _ _ hg st fun v h' tk hv st' kk=>?_;obtain⟨t,rfl⟩:=hv;have I1:Inv X pins σ H { s with heap:=h',toks:=tk }:=I.turned (fun b o hb e=>kk b o (by simpa using hb) e) f0 f1 f3 f4 f5;refine⟨_,rfl,uB (s:={ s with heap:=h',toks:=tk }) (n := "range_iterator") st' rfl rfl (by decide) ⟨.int (lo+i),H,I1,⟨t,?_⟩,⟨rfl,rfl⟩,st',fun b hb=>(hf b hb).1⟩⟩;rw[Int.mul_one]
 done:=by
  intro X hP hw hK hc i pins s σ H E I hf st hg;subst hP hw hK;obtain⟨f0,f1,f2,f3,f4,f5⟩:=hf it (by simp);exact wpAny_pyNext_range_end (I.ok.hd hc) st (by have:n<=i:=hg;omega) fun h' eb=>⟨rfl,I.turned (t':=s.toks) (fun b o hb e=>eb b o hb e) f0 f1 f3 f4 f5⟩
 self:=fun _ _ _ _ _ st h=>wpAny_pyIter_rangeiter st h
section
variable {X:Cx} {tg:Expr}
theorem KH{pins:List (Addr×Obj)}{σ:St}{H:Hp}{s:Shared}{R:It->Hp->Prop}{E:Value->Shared->Prop}{lo hi:Int}{t u v:Tok}{tk:Nat}(I:Inv X pins σ H s)(h1:-(2 ^ 62)<=lo)(h2:lo < 2 ^ 62)(h3:-(2 ^ 62)<=hi)(h4:hi < 2 ^ 62)
  (q:R (Wn lo (hi - lo).toNat) H):wpAny (model X.prog X.w) X.A (pyIter (.ref s.heap.objs.size)) (Bg X pins σ tg R) E { s with heap:=s.heap.push { cls:=.type "range",data:=.fields #[.int lo t,.int hi u,.int 1 v] },toks:=tk }:=by
 refine wpAny_pyIter_range (IsRange.new ..) (small_one h1 h2 h3 h4) ?_;have I1:Inv X pins σ H { s with heap:=s.heap.push { cls:=.type "range",data:=.fields #[.int lo t,.int hi u,.int 1 v] },toks:=tk }:=I.kept fun b o e=>wIa _ e;refine⟨(s.heap.push { cls:=.type "range",data:=.fields #[.int lo t,.int hi u,.int 1 v] }).objs.size,[(s.heap.push { cls:=.type "range",data:=.fields #[.int lo t,.int hi u,.int 1 v] }).objs.size],_,_,H,rfl,
  I1.kept (t':=tk) fun b o e=>wIa _ e,Go _ lo (hi - lo).toNat,?_,fun b hb=>?_,q⟩
 ·have e1:lo+((0:Nat):Int) * 1=lo:=by simp
  have e2:(((hi - lo).toNat:Nat):Int) - ((0:Nat):Int)=Builtin.Range.rangeSize lo hi 1:=by rw[rangeSize_one];split <;> omega
  show IsRangeIter _ _ (lo+((0:Nat):Int) * 1) ((((hi - lo).toNat:Nat):Int) - ((0:Nat):Int)) 1;rw[e1,e2];exact wJa _ rfl
 ·have e:b=(s.heap.push { cls:=.type "range",data:=.fields #[.int lo t,.int hi u,.int 1 v] }).objs.size:=by simpa using hb
  subst e;exact I1.fpOk (wPa _) (I1.hok.fresh (wPa _))
def AE(ta:TA):TI:=fun σ H R=>ta σ H fun vs H1=>∃j:Int,vs=[.int j]/\-(2 ^ 62)<=j/\j < 2 ^ 62/\R (Wn 0 j.toNat) H1
theorem ky{a:Expr}{ta:TA}{p pos:Pos}(hg:Gl X "range")(hm:X.mg "range" = none)(ha:PA X [a] ta)(hs:starEach [a] X.env=[(false,eval a X.env)]:=by rfl):PI X tg (.Call (.Name "range" p) [a] [] pos) (AE ta):=by
 intro pins s σ H R I h;refine Call_ (yT I hg hm boot_range (PyProof.Rows.callWith_type1 (jg (ha pos pins s σ H _ I h) fun us s1 xx=>?_) hs rfl));obtain⟨vs,H1,I1,r1,q1⟩:=xx;obtain⟨j,e,q1,q2,q⟩:=q1;subst e;cases r1 with
 | cons r rr=>
  cases rr;obtain⟨t,rfl⟩:=r;exact call_range_1 (KH I1 (by omega) (by omega) q1 q2 (by simpa using q))
def ci(wi:TI)(g:TG)(tb:TS):TS:=fun D σ H=>wi σ H fun J H1=>∃W:Nat->Nat->St->Hp->Prop,(∃m,W 0 m σ H1)/\∀i m σ H,W i m σ H->
 (J.stop i H/\D.nx σ H)∨(J.go i H/\∃N:St->Hp->Prop,(∀σ' H',N σ' H'->∃m',m' < m/\W (i+1) m' σ' H')/\∀x H',J.yld i H x H'->g x σ H' fun σ2 H2=>tb { D with nx:=N,ct:=N,bk:=D.nx } σ2 H2)
noncomputable def Zd(fp:List Addr)(h:Heap):List (Addr×Obj):=fp.filterMap fun b=>(h.get? b).map fun o=>(b,o)
theorem Yk{fp:List Addr}{h:Heap}{b:Addr}{o:Obj}(hb:b∈fp)(e:h.get? b=some o):(b,o)∈Zd fp h:=List.mem_filterMap.mpr ⟨b,hb,by rw[e];rfl⟩
theorem kz{fp:List Addr}{h:Heap}{p:Addr×Obj}(hp:p∈Zd fp h):p.1∈fp/\h.get? p.1=some p.2:=by
 obtain⟨b,hb,e⟩:=List.mem_filterMap.mp hp;cases q:h.get? b with
 | none=>rw[q]at e;cases e
 | some o=>
  rw[q]at e;have e':(b,o)=p:=vFa e;subst e';exact⟨hb,q⟩
theorem Inv.pinned{pins:List (Addr×Obj)}{σ:St}{H:Hp}{s:Shared}{fp:List Addr}(I:Inv X pins σ H s)(hf:∀b∈fp,jY X pins H b)(ho:∀b∈fp,∃o,s.heap.get? b=some o/\∀v,o.data≠.cell v):Inv X (pins++Zd fp s.heap) σ H s:=
 I.pins_of fun p hp=>(List.mem_append.mp hp).elim (fun z=>I.pin p (vJa _ z)) fun z=>by
  obtain⟨hb,e⟩:=kz z;obtain⟨f0,f1,f2,_⟩:=hf p.1 hb;obtain⟨o,e',d⟩:=ho p.1 hb;rw[e]at e';cases e';exact⟨e,f0,f1,f2,d⟩
theorem Inv.unpinned{pins pl:List (Addr×Obj)}{σ:St}{H:Hp}{s:Shared}(I:Inv X (pins++pl) σ H s):Inv X pins σ H s:=I.pins_of fun p hp=>I.pin p (vJa _ (vIa _ hp))
theorem xc{iter:Expr}{body:List Stmt}{wi:TI}{g:TG}{tb:TS}{pos:Pos}(hp:PassesOwn (model X.prog X.w) X.A X.env X.xe)(hc:X.calm=true)(hi:PI X tg iter wi)(hg:PG X tg g)(hb:jy X body tb)
  (hs:∀x,foldedSetIterable iter X.env x=pure x:=by intro _;rfl):PS X (.For tg iter body [] pos) (ci wi g tb):=by
 intro pins s σ H D I h;refine wpAny_For (jg (hi pins s σ H _ I h) fun v s1 h1=>jg h1 fun itv s2 h2=>?_) hs;obtain⟨it,fp,tn,J,H2,e,I2,T,st2,f2,W,⟨m0,w0⟩,turn⟩:=h2;subst e;have stat:∀{H':Hp},(∀b∈fp,H' b=none)->∀b∈fp,jY X pins H' b:=fun hn b hb=>⟨hn b hb,(f2 b hb).2⟩
 refine codeAny_forLoop_any (fun n s'=>∃i σ' H',Inv X pins σ' H' s'/\tn i s'.heap/\(∀b∈fp,H' b=none)/\W i n σ' H') ?_ m0 ⟨0,σ,H2,I2,st2,fun b hb=>(f2 b hb).1,w0⟩;rintro n s3 ⟨i,σ3,H3,I3,st3,fr3,w3⟩;rcases turn i n σ3 H3 w3 with⟨stop,qn⟩ | ⟨go,N,hN,step⟩
 ·refine wpAny_passesOwn hp (jg (T.done X rfl rfl rfl hc i pins s3 σ3 H3 X.xe I3 (stat fr3) st3 stop) fun r s4 xx=>?_);obtain⟨hr,I4⟩:=xx;subst hr;exact wpAny_execs_nil ⟨σ3,H3,I4,qn⟩
 ·refine wpAny_passesOwn hp (jg (T.item X rfl rfl rfl hc i pins s3 σ3 H3 X.xe I3 (stat fr3) st3 go) fun r s4 xx=>?_);obtain⟨u,hr,h4⟩:=xx;subst hr;refine wpAny_passesOwn hp (jg h4 fun _ s5 xx=>?_);obtain⟨x,H5,I5,r5,y5,st5,fr5⟩:=xx;have I5':=I5.pinned (stat fr5) (T.obj _ _ st5);refine wpAny_passesOwn hp (jg (hg _ s5 σ3 H5 x u _ I5' r5 (step x H5 y5)) fun _ s6 xx=>?_);obtain⟨σ6,H6,I6,q6⟩:=xx;refine wpAny_passesOwn hp (jg (hb _ s6 σ6 H6 _ I6 q6) fun f s7 q7=>?_);have again:∀{σ7:St} {H7:Hp},Inv X (pins++Zd fp s5.heap) σ7 H7 s7->N σ7 H7->∃m,m < n/\∃i σ' H',Inv X pins σ' H' s7/\tn i s7.heap/\(∀b∈fp,H' b=none)/\W i m σ' H':=fun {σ7 H7} I7 n7=>by
   obtain⟨m',hm,w7⟩:=hN σ7 H7 n7;refine⟨m',hm,i+1,σ7,H7,I7.unpinned,T.keep _ _ _ st5 fun b hb o e=>(I7.pin (b,o) (vJa _ (vJa _ (Yk hb e)))).1,fun b hb=>?_,w7⟩;obtain⟨o,e,d⟩:=T.obj _ _ st5 b hb;exact(I7.pin (b,o) (vJa _ (vJa _ (Yk hb e)))).2.1
  cases f with
  | next=>obtain⟨σ7,H7,I7,n7⟩:=q7;exact again I7 n7
  | cont=>obtain⟨σ7,H7,I7,n7⟩:=q7;exact again I7 n7
  | brk=>obtain⟨σ7,H7,I7,q7⟩:=q7;exact⟨σ7,H7,I7.unpinned,q7⟩
  | ret v=>obtain⟨x7,σ7,H7,I7,r7,q7⟩:=q7;exact⟨x7,σ7,H7,I7.unpinned,r7,q7⟩
end
noncomputable abbrev R2:=V->V->Hp->VK->Prop
def jt(X:Cx)(f:Value->Value->Sem Value)(r:R2):Prop:=
 ∀(pins:List (Addr×Obj)) (s:Shared) (σ:St) (H:Hp) (x y:V) (v u:Value) (Q:VK),Inv X pins σ H s->jh x v->jh y u->r x y H Q->
  wpAny (model X.prog X.w) X.A (f v u) (EP X pins σ Q) X.xe s
def xf(X:Cx)(f:Value->Sem Value)(r:V->Hp->VK->Prop):Prop:=
 ∀(pins:List (Addr×Obj)) (s:Shared) (σ:St) (H:Hp) (x:V) (v:Value) (Q:VK),Inv X pins σ H s->jh x v->r x H Q->
  wpAny (model X.prog X.w) X.A (f v) (EP X pins σ Q) X.xe s
def ya(X:Cx)(f:Value)(r:List V->Hp->VK->Prop):Prop:=
 ∀(pins:List (Addr×Obj)) (s:Shared) (σ:St) (H:Hp) (xs:List V) (us:List Value) (Q:VK),Inv X pins σ H s->jb xs us->r xs H Q->
  wpAny (model X.prog X.w) X.A (call f us) (EP X pins σ Q) X.xe s
def cj(X:Cx)(r:V->Hp->(Bool->Hp->Prop)->Prop):Prop:=
 ∀(pins:List (Addr×Obj)) (s:Shared) (σ:St) (H:Hp) (x:V) (v:Value) (Q:Bool->Hp->Prop),Inv X pins σ H s->jh x v->r x H Q->
  wpAny (model X.prog X.w) X.A (truthy v) (TP X pins σ Q) X.xe s
def gB(r:R2)(ta tb:TE):TE:=fun σ H Q=>ta σ H fun x H1=>tb σ H1 fun y H2=>r x y H2 Q
def CJ(r:V->Hp->VK->Prop)(ta:TE):TE:=fun σ H Q=>ta σ H fun x H1=>r x H1 Q
def rI(C:Int->Int->Prop)(g:Int->Int->V):R2:=fun x y H Q=>∃i j,x=.int i/\y=.int j/\C i j/\Q (g i j) H
def Yg(g:Int->Int->V):R2:=fun x y H Q=>∃i j,x=.int i/\y=.int j/\Q (g i j) H
def rU(g:Int->V):V->Hp->VK->Prop:=fun x H Q=>∃i,x=.int i/\Q (g i) H
section
variable {X:Cx} {a b c:Expr} {ta tb tc:TE} {pos:Pos}
theorem KI(ha:PE X a ta)(hb:PE X b tb){pins:List (Addr×Obj)}{s:Shared}{σ:St}{H:Hp}{R:V->V->Hp->Prop}(I:Inv X pins σ H s)
  (h:ta σ H fun x H1=>tb σ H1 fun y H2=>R x y H2) {Q:Value->Shared->Prop} {f:Value->Value->Sem Value}
  (hf:∀v u s2 x y H2,Inv X pins σ H2 s2->jh x v->jh y u->R x y H2->wpAny (model X.prog X.w) X.A (f v u) Q X.xe s2):
  wpAny (model X.prog X.w) X.A (eval a X.env) (fun v s₁=>wpAny (model X.prog X.w) X.A (eval b X.env) (fun u s₂=>wpAny (model X.prog X.w) X.A (f v u) Q X.xe s₂) X.xe s₁) X.xe s:=by
 refine jg (ha pins s σ H _ I h) fun v s1 xx=>?_;obtain⟨x,H1,I1,r1,q1⟩:=xx;refine jg (hb pins s1 σ H1 _ I1 q1) fun u s2 xx=>?_;obtain⟨y,H2,I2,r2,q2⟩:=xx;exact hf v u s2 x y H2 I2 r1 r2 q2
theorem Wo{op:Operator}{r:R2}(ho:jt X (binaryOp op) r)(ha:PE X a ta)(hb:PE X b tb):PE X (.BinOp a op b pos) (gB r ta tb):=by
 intro pins s σ H Q I h;exact wpAny_BinOp (KI ha hb I h fun v u s2 x y H2 I2 rx ry q=>ho pins s2 σ H2 x y v u Q I2 rx ry q)
theorem AF{op:UnaryOp}{r:V->Hp->VK->Prop}(ho:xf X (unaryOp op) r)(ha:PE X a ta):PE X (.UnaryOp op a pos) (CJ r ta):=by
 intro pins s σ H Q I h;exact UnaryOp_ (jg (ha pins s σ H _ I h) fun v s1 ⟨x,H1,I1,r1,q1⟩=>ho pins s1 σ H1 x v Q I1 r1 q1)
theorem Wp{f:Value->Value->Sem Value}{C:Int->Int->Prop}{g:Int->Int->Int}
  (rule:∀(i j:Int) (t u:Tok) (s:Shared) (Q:Value->Shared->Prop) (E:Value->Shared->Prop),C i j->Q (.int (g i j) s.toks) { s with toks:=s.toks+1 }->wpAny (model X.prog X.w) X.A (f (.int i t) (.int j u)) Q E s):
  jt X f (rI C fun i j=>.int (g i j)):=by
 intro pins s σ H x y v u Q I rx ry h;obtain⟨i,j,rfl,rfl,hc,q⟩:=h;obtain⟨t,rfl⟩:=rx;obtain⟨t',rfl⟩:=ry;exact rule i j t t' s _ _ hc ⟨.int (g i j),H,I.tok _,⟨_,rfl⟩,q⟩
theorem xg{f:Value->Value->Sem Value}{g:Int->Int->Int}
  (rule:∀(i j:Int) (t u:Tok) (s:Shared) (Q:Value->Shared->Prop) (E:Value->Shared->Prop),Q (.int (g i j) s.toks) { s with toks:=s.toks+1 }->wpAny (model X.prog X.w) X.A (f (.int i t) (.int j u)) Q E s):
  jt X f (Yg fun i j=>.int (g i j)):=by
 intro pins s σ H x y v u Q I rx ry h;obtain⟨i,j,rfl,rfl,q⟩:=h;obtain⟨t,rfl⟩:=rx;obtain⟨t',rfl⟩:=ry;exact rule i j t t' s _ _ ⟨.int (g i j),H,I.tok _,⟨_,rfl⟩,q⟩
theorem Gp{f:Value->Value->Sem Value}{g:Int->Int->Bool}
  (rule:∀(i j:Int) (t u:Tok) (s:Shared) (Q:Value->Shared->Prop) (E:Value->Shared->Prop),Q (.bool (g i j)) s->wpAny (model X.prog X.w) X.A (f (.int i t) (.int j u)) Q E s):
  jt X f (Yg fun i j=>.bl (g i j)):=by
 intro pins s σ H x y v u Q I rx ry h;obtain⟨i,j,rfl,rfl,q⟩:=h;obtain⟨t,rfl⟩:=rx;obtain⟨t',rfl⟩:=ry;exact rule i j t t' s _ _ ⟨.bl (g i j),H,I,rfl,q⟩
def KJ(i j:Int):Prop:=0 < j/\j < 1073741824
def KKz(i j:Int):Prop:=0<=j/\j<=1000000/\i.natAbs < 2 ^ 64
def vn(i j:Int):Prop:=(-(2 ^ 64) < i/\i < 2 ^ 64)∨(-(2 ^ 64) < j/\j < 2 ^ 64)
theorem vn.ok{i j:Int}(h:vn i j):IntMulOk i j:=by
 rcases h with⟨h1,h2⟩ | ⟨h1,h2⟩
 ·exact .of_left (intBits_le_64 h1 h2)
 ·exact .of_right (intBits_le_64 h1 h2)
theorem xh:jt X (binaryOp .Add) (Yg fun i j=>.int (i+j)):=xg fun _ _ _ _ _ _ _ q=>add_int q
theorem xi:jt X (binaryOp .Sub) (Yg fun i j=>.int (i - j)):=xg fun _ _ _ _ _ _ _ q=>sub_int q
theorem xj:jt X (binaryOp .Mult) (rI vn fun i j=>.int (i * j)):=Wp fun _ _ _ _ _ _ _ hc q=>mul_int q hc.ok
theorem qD:jt X (binaryOp .FloorDiv) (rI KJ fun i j=>.int (i / j)):=Wp fun i j _ _ _ _ _ hc q=>by
 have h1:(0:Int) < j:=hc.1;have h2:j < 1073741824:=hc.2;exact floordiv_int (by omega) (by rw[Int.fdiv_eq_ediv_of_nonneg i (by omega)];exact q) (.inl (PyProof.noPylong_small (by omega)))
theorem xk:jt X (binaryOp .Mod) (rI (fun _ j=>0 < j) fun i j=>.int (i % j)):=Wp fun i j _ _ _ _ _ hc q=>by
 have h1:(0:Int) < j:=hc;exact mod_int' (by omega) (by rw[Int.fmod_eq_emod_of_nonneg i (by omega)];exact q)
theorem xl:jt X (binaryOp .Pow) (rI KKz fun i j=>.int (i ^ j.toNat)):=Wp fun _ _ _ _ _ _ _ hc q=>pow_int_small hc.1 hc.2.1 hc.2.2 q
theorem CK{f:Value->Sem Value}{g:Int->Int}
  (rule:∀(i:Int) (t:Tok) (s:Shared) (Q:Value->Shared->Prop) (E:Value->Shared->Prop),Q (.int (g i) s.toks) { s with toks:=s.toks+1 }->wpAny (model X.prog X.w) X.A (f (.int i t)) Q E s):
  xf X f (rU fun i=>.int (g i)):=by
 intro pins s σ H x v Q I rx h;obtain⟨i,rfl,q⟩:=h;obtain⟨t,rfl⟩:=rx;exact rule i t s _ _ ⟨.int (g i),H,I.tok _,⟨_,rfl⟩,q⟩
theorem xm:xf X (unaryOp .USub) (rU fun i=>.int (-i)):=CK fun _ _ _ _ _ q=>neg_int q
end
noncomputable def xn:V->V->Bool
 | .non,.non=>true | .non,.int _=>true | .int _,.non=>true | .non,.bl _=>true | .bl _,.non=>true | .non,.str _=>true | .str _,.non=>true
 | .int _,.int _=>true | .bl _,.bl _=>true | .str _,.str _=>true | .byt _,.byt _=>true
 | .int _,.str _=>true | .str _,.int _=>true | .bl _,.str _=>true | .str _,.bl _=>true
 | _,_=>false
def Wq:R2:=fun x y H Q=>xn x y=true/\Q (.bl (decide (x=y))) H
def Wr:R2:=fun x y H Q=>xn x y=true/\Q (.bl (!decide (x=y))) H
theorem zu{i j:Int}:decide (V.int i=V.int j)=(i==j):=by
 rw[Bool.eq_iff_iff];simp
theorem Ze{i j:Bool}:decide (V.bl i=V.bl j)=(i==j):=by
 rw[Bool.eq_iff_iff];simp
theorem zw{i j:Str}:decide (V.str i=V.str j)=(i==j):=by
 rw[Bool.eq_iff_iff];simp
theorem gD{i j:Array UInt8}:decide (V.byt i=V.byt j)=(i.toList==j.toList):=by
 rw[Bool.eq_iff_iff];cases i;cases j;simp
section
variable {X:Cx} {a b c:Expr} {ta tb tc:TE} {pos:Pos}
theorem jm{pins:List (Addr×Obj)}{σ:St}{H:Hp}{s:Shared}{Q:VK}{k k':Bool}(I:Inv X pins σ H s)(q:Q (.bl k) H)(e:k=k'):EP X pins σ Q (.bool k') s:=by
 subst e;exact⟨.bl k,H,I,rfl,q⟩
theorem AG:jt X (compareOp .Eq) Wq:=by
 intro pins s σ H x y v u Q I rx ry h;obtain⟨hs,q⟩:=h;cases x with
 | non=>
  cases rx;cases y with
  | non=>cases ry;exact PySem.EqNone.eq_none_none (jm I q (by simp))
  | bl j=>cases ry;exact PySem.EqNone.eq_none_bool (jm I q (by simp))
  | int j=>obtain⟨t',rfl⟩:=ry;exact PySem.EqNone.eq_none_int (jm I q (by simp))
  | str j=>obtain⟨t',rfl⟩:=ry;exact PySem.EqNone.eq_none_str (jm I q (by simp))
  | _=>exact vDa (show false=true from hs) vNa
 | bl i=>
  cases rx;cases y with
  | non=>cases ry;exact PySem.EqNone.eq_bool_none (jm I q (by simp))
  | bl j=>cases ry;exact eq_bool (jm I q Ze)
  | str j=>obtain⟨t',rfl⟩:=ry;exact PySem.EqMixed.eq_bool_str (jm I q (by simp))
  | _=>exact vDa (show false=true from hs) vNa
 | int i=>
  obtain⟨t,rfl⟩:=rx;cases y with
  | non=>cases ry;exact PySem.EqNone.eq_int_none (jm I q (by simp))
  | int j=>obtain⟨t',rfl⟩:=ry;exact eq_int (jm I q zu)
  | str j=>obtain⟨t',rfl⟩:=ry;exact PySem.EqMixed.eq_int_str (jm I q (by simp))
  | _=>exact vDa (show false=true from hs) vNa
 | str i=>
  obtain⟨t,rfl⟩:=rx;cases y with
  | non=>cases ry;exact PySem.EqNone.eq_str_none (jm I q (by simp))
  | bl j=>cases ry;exact PySem.EqMixed.eq_str_bool (jm I q (by simp))
  | int j=>obtain⟨t',rfl⟩:=ry;exact PySem.EqMixed.eq_str_int (jm I q (by simp))
  | str j=>obtain⟨t',rfl⟩:=ry;exact eq_str (jm I q zw)
  | _=>exact vDa (show false=true from hs) vNa
 | byt i=>
  obtain⟨t,rfl⟩:=rx;cases y with
  | byt j=>obtain⟨t',rfl⟩:=ry;exact PySem.W.eq_bytes (jm I q gD)
  | _=>exact vDa (show false=true from hs) vNa
 | _=>cases y <;> exact vDa (show false=true from hs) vNa
theorem AH:jt X (compareOp .NotEq) Wr:=by
 intro pins s σ H x y v u Q I rx ry h;obtain⟨hs,q⟩:=h;cases x with
 | non=>
  cases rx;cases y with
  | non=>cases ry;exact PySem.EqNone.ne_none_none (jm I q (by simp))
  | bl j=>cases ry;exact PySem.EqNone.ne_none_bool (jm I q (by simp))
  | int j=>obtain⟨t',rfl⟩:=ry;exact PySem.EqNone.ne_none_int (jm I q (by simp))
  | str j=>obtain⟨t',rfl⟩:=ry;exact PySem.EqNone.ne_none_str (jm I q (by simp))
  | _=>exact vDa (show false=true from hs) vNa
 | bl i=>
  cases rx;cases y with
  | non=>cases ry;exact PySem.EqNone.ne_bool_none (jm I q (by simp))
  | bl j=>cases ry;exact ne_bool (jm I q (congrArg not Ze))
  | str j=>obtain⟨t',rfl⟩:=ry;exact PySem.EqMixed.ne_bool_str (jm I q (by simp))
  | _=>exact vDa (show false=true from hs) vNa
 | int i=>
  obtain⟨t,rfl⟩:=rx;cases y with
  | non=>cases ry;exact PySem.EqNone.ne_int_none (jm I q (by simp))
  | int j=>obtain⟨t',rfl⟩:=ry;exact ne_int (jm I q (congrArg not zu))
  | str j=>obtain⟨t',rfl⟩:=ry;exact PySem.EqMixed.ne_int_str (jm I q (by simp))
  | _=>exact vDa (show false=true from hs) vNa
 | str i=>
  obtain⟨t,rfl⟩:=rx;cases y with
  | non=>cases ry;exact PySem.EqNone.ne_str_none (jm I q (by simp))
  | bl j=>cases ry;exact PySem.EqMixed.ne_str_bool (jm I q (by simp))
  | int j=>obtain⟨t',rfl⟩:=ry;exact PySem.EqMixed.ne_str_int (jm I q (by simp))
  | str j=>obtain⟨t',rfl⟩:=ry;exact ne_str (jm I q (congrArg not zw))
  | _=>exact vDa (show false=true from hs) vNa
 | byt i=>
  obtain⟨t,rfl⟩:=rx;cases y with
  | byt j=>obtain⟨t',rfl⟩:=ry;exact PySem.W.ne_bytes (jm I q (congrArg not gD))
  | _=>exact vDa (show false=true from hs) vNa
 | _=>cases y <;> exact vDa (show false=true from hs) vNa
theorem AI:jt X (compareOp .Lt) (Yg fun i j=>.bl (decide (i < j))):=Gp fun _ _ _ _ _ _ _ q=>lt_int q
theorem AJ:jt X (compareOp .LtE) (Yg fun i j=>.bl (decide (i<=j))):=Gp fun _ _ _ _ _ _ _ q=>le_int q
theorem AL:jt X (compareOp .Gt) (Yg fun i j=>.bl (decide (j < i))):=Gp fun _ _ _ _ _ _ _ q=>gt_int q
theorem AM:jt X (compareOp .GtE) (Yg fun i j=>.bl (decide (j<=i))):=Gp fun _ _ _ _ _ _ _ q=>ge_int q
theorem xo:jt X (compareOp .Is) (fun x y H Q=>y=.non/\Q (.bl (decide (x=.non))) H):=by
 intro pins s σ H x y v u Q I rx ry h;obtain⟨rfl,q⟩:=h;cases ry;refine is_none_gen (jm I q ?_);cases x <;> first
  | (cases rx;rfl)
  | (obtain⟨t,rfl⟩:=rx;rfl)
theorem qE:jt X (compareOp .IsNot) (fun x y H Q=>y=.non/\Q (.bl (!decide (x=.non))) H):=by
 intro pins s σ H x y v u Q I rx ry h;obtain⟨rfl,q⟩:=h;cases ry;refine isnot_none_gen (jm I q ?_);cases x <;> first
  | (cases rx;rfl)
  | (obtain⟨t,rfl⟩:=rx;rfl)
theorem jt.or{f:Value->Value->Sem Value}{r r':R2}(h:jt X f r)(h':jt X f r'):jt X f (fun x y H Q=>r x y H Q∨r' x y H Q):=by
 intro pins s σ H x y v u Q I rx ry q;rcases q with q | q
 ·exact h pins s σ H x y v u Q I rx ry q
 ·exact h' pins s σ H x y v u Q I rx ry q
theorem qF{op:CmpOp}{r:R2}(ho:jt X (compareOp op) r)(ha:PE X a ta)(hb:PE X b tb)(hm:behindInMarks op b=false):PE X (.Compare a [op] [b] pos) (gB r ta tb):=by
 intro pins s σ H Q I h;exact wpAny_Compare1 (KI ha hb I h fun v u s2 x y H2 I2 rx ry q=>ho pins s2 σ H2 x y v u Q I2 rx ry q) hm
def Ws(t:TE):TT:=fun σ H Q=>t σ H fun x H'=>∃k,x=.bl k/\Q k H'
theorem qG{op:CmpOp}{r:R2}(ho:jt X (compareOp op) r)(ha:PE X a ta)(hb:PE X b tb)(hm:behindInMarks op b=false):PT X (.Compare a [op] [b] pos) (Ws (gB r ta tb)):=by
 intro pins s σ H Q I h;refine wpAny_isTrue_Compare1 (jg (ha pins s σ H _ I h) fun v s1 ⟨x,H1,I1,r1,q1⟩=>jg (hb pins s1 σ H1 _ I1 q1) fun u s2 ⟨y,H2,I2,r2,q2⟩=>
  jg (ho pins s2 σ H2 x y v u _ I2 r1 r2 q2) fun c s3 ⟨z,H3,I3,r3,k,e,q3⟩=>?_) hm
 subst e;cases r3;exact wpAny_truthy_bool ⟨H3,I3,q3⟩
def uP(r r':R2)(ta tb tc:TE):TE:=fun σ H Q=>ta σ H fun x H1=>tb σ H1 fun y H2=>r x y H2 fun z H3=>∃k,z=.bl k/\
 (if k=true then tc σ H3 fun w' H4=>r' y w' H4 Q else Q (.bl false) H3)
theorem KL{op op':CmpOp}{r r':R2}(ho:jt X (compareOp op) r)(ho':jt X (compareOp op') r')(ha:PE X a ta)(hb:PE X b tb)(hc:PE X c tc)
  (hm:lastMarks [op,op'] [b,c]=false:=by with_unfolding_all rfl):PE X (.Compare a [op,op'] [b,c] pos) (uP r r' ta tb tc):=by
 intro pins s σ H Q I h;refine Compare_chain (jg (ha pins s σ H _ I h) fun v s1 ⟨x,H1,I1,r1,q1⟩=>chain_link (jg (hb pins s1 σ H1 _ I1 q1) fun u s2 ⟨y,H2,I2,r2,q2⟩=>
  jg (ho pins s2 σ H2 x y v u _ I2 r1 r2 q2) fun d s3 ⟨z,H3,I3,r3,k,e,q3⟩=>?_)) hm
 subst e;cases r3;refine wpAny_truthy_bool ?_;cases k with
 | false=>exact ite_ff ⟨.bl false,H3,I3,rfl,q3⟩
 | true=>exact ite_tt (chain_last (jg (hc pins s3 σ H3 _ I3 q3) fun w' s4 ⟨z',H4,I4,r4,q4⟩=>ho' pins s4 σ H4 y z' u w' Q I4 r2 r4 q4))
theorem KM{op op':CmpOp}{r r':R2}(ho:jt X (compareOp op) r)(ho':jt X (compareOp op') r')(ha:PE X a ta)(hb:PE X b tb)(hc:PE X c tc)
  (hm:lastMarks [op,op'] [b,c]=false:=by with_unfolding_all rfl):PT X (.Compare a [op,op'] [b,c] pos) (Ws (uP r r' ta tb tc)):=by
 intro pins s σ H Q I h;refine isTrue_chain (jg (ha pins s σ H _ I h) fun v s1 ⟨x,H1,I1,r1,q1⟩=>test_link (jg (hb pins s1 σ H1 _ I1 q1) fun u s2 ⟨y,H2,I2,r2,q2⟩=>
  jg (ho pins s2 σ H2 x y v u _ I2 r1 r2 q2) fun d s3 ⟨z,H3,I3,r3,k,e,q3⟩=>?_)) hm
 subst e;cases r3;refine wpAny_truthy_bool ?_;cases k with
 | false=>
  obtain⟨k',e',q'⟩:=q3;cases e';exact ite_ff ⟨H3,I3,q'⟩
 | true=>
  refine ite_tt (test_last (jg (hc pins s3 σ H3 _ I3 q3) fun w' s4 ⟨z',H4,I4,r4,q4⟩=>jg (ho' pins s4 σ H4 y z' u w' _ I4 r2 r4 q4) fun d' s5 xx=>?_));obtain⟨z2,H5,I5,r5,k2,e2,q5⟩:=xx;subst e2;cases r5;exact wpAny_truthy_bool ⟨H5,I5,q5⟩
def KN(K:PySem.W.Frag)(x:V)(H:Hp)(k:Bool):Prop:=
 match x with
 | .non=>k=false
 | .bl b=>k=b
 | .int i=>k=(i != 0)
 | .str y=>y.length<=sizeLine/\k=((y.length:Int) != 0)
 | .byt y=>y.size<=sizeLine/\k=((y.size:Int) != 0)
 | .ref p=>(∃xs,jj K H p xs/\k=!xs.isEmpty)∨(∃xs,jX K H p xs/\k=!xs.isEmpty)∨∃kvs,H p=some (.dK kvs)/\k=!kvs.isEmpty
 | _=>False
theorem Gq{κ:Type}{kvs:List (κ×V)}{vs:List (κ×Value)}(r:KV kvs vs):(!vs.isEmpty)=!kvs.isEmpty:=by
 cases r <;> rfl
theorem vV{xs:List V}{its:List Value}(r:jb xs its):(!its.toArray.isEmpty)=!xs.isEmpty:=by
 cases r <;> simp
theorem yU:(sizeLine:Nat) < 2 ^ 63:=by rw[sizeLine_eq];decide
theorem xq:cj X (fun x H Q=>∃k,KN X.K x H k/\Q k H):=by
 intro pins s σ H x v Q I rx h;obtain⟨k,e,q⟩:=h;have hl:=yU;have hs:sizeLine=16777216:=sizeLine_eq;cases x with
 | non=>
  cases rx;have e':k=false:=e;subst e';exact truthy_none ⟨H,I,q⟩
 | bl b=>
  cases rx;have e':k=b:=e;subst e';exact wpAny_truthy_bool ⟨H,I,q⟩
 | int i=>
  obtain⟨t,rfl⟩:=rx;have e':k=(i != 0):=e;subst e';exact PySem.P.truthy_int ⟨H,I,q⟩
 | str y=>
  obtain⟨t,rfl⟩:=rx;obtain⟨hy,e'⟩:y.length<=sizeLine/\k=((y.length:Int) != 0):=e;subst e';exact PySem.P.truthy_str (by omega) ⟨H,I.tok _,q⟩
 | byt y=>
  obtain⟨t,rfl⟩:=rx;obtain⟨hy,e'⟩:y.size<=sizeLine/\k=((y.size:Int) != 0):=e;subst e';exact PySem.W.truthy_bytes (by omega) ⟨H,I.tok _,q⟩
 | ref p=>
  cases rx;have e':(∃xs,jj X.K H p xs/\k=!xs.isEmpty)∨(∃xs,jX X.K H p xs/\k=!xs.isEmpty)∨∃kvs,H p=some (.dK kvs)/\k=!kvs.isEmpty:=e;rcases e' with⟨xs,hx,e'⟩ | ⟨xs,hx,e'⟩ | ⟨kvs,hx,e'⟩
  ·subst e';obtain⟨its,r,pl,hz⟩:=I.list hx;have hlen:=r.length;exact wpAny_truthy_list pl.isList (by simp only[List.size_toArray];omega) ⟨H,I.tok _,by rw[vV r];exact q⟩
  ·subst e';obtain⟨its,r,pl,hz⟩:=I.tuple hx;have hlen:=r.length;exact truthy_tuple pl (by simp only[List.size_toArray];omega) ⟨H,I.tok _,by rw[vV r];exact q⟩
  ·subst e';obtain⟨hz,hS,vs,r,m⟩:kvs.length<=sizeLine/\(p==sysModules)=false/\∃vs,KV kvs vs/\s.heap.DictOf (Vs X.prog X.w) p vs:=I.hok p _ hx;have hlen:kvs.length=vs.length:=Paired.length r;exact wpAny_truthy_dict hS m (by omega) ⟨H,I.tok _,by rw[Gq r];exact q⟩
 | _=>exact(show False from e).elim
theorem KO(ha:PE X a ta)(he:∀whole,isTrue a X.env whole=(do let v<-whole;standAt a.pos;holding [v] (truthy v))):
  PT X a (fun σ H Q=>ta σ H fun x H'=>∃k,KN X.K x H' k/\Q k H'):=by
 intro pins s σ H Q I h;exact isTrue_plain (jg (ha pins s σ H _ I h) fun v s1 ⟨x,H1,I1,r1,q1⟩=>xq pins s1 σ H1 x v Q I1 r1 q1) (he _)
theorem Gr:jt X (binaryOp .Add) (fun x y H Q=>∃i j,x=.str i/\y=.str j/\i.length+j.length<=sizeLine/\Q (.str (i++j)) H):=by
 intro pins s σ H x y v u Q I rx ry h;obtain⟨i,j,rfl,rfl,hz,q⟩:=h;obtain⟨t,rfl⟩:=rx;obtain⟨t',rfl⟩:=ry;exact add_str (fun t' tk=>⟨.str (i++j),H,I.tok _,⟨_,rfl⟩,q⟩) hz
theorem zI{x:V}{us:List Value}(r:jb [x] us):∃u,us=[u]/\jh x u:=by
 cases r with
 | cons r1 r2=>cases r2;exact⟨_,rfl,r1⟩
theorem uQ:ya X (.type "str") (fun xs H Q=>∃i,xs=[.int i]/\i.natAbs.log2 < 1920/\Q (.str (toString i)) H):=by
 intro pins s σ H xs us Q I r h;obtain⟨i,rfl,hz,q⟩:=h;obtain⟨u,rfl,t,rfl⟩:=zI r;exact PySem.P.str_of_int hz ⟨.str _,H,I.tok _,⟨_,rfl⟩,q⟩
end
structure ObjM (h:Heap) (x dx C:Addr) (mA:Str->Option Value):Prop where
 obj:h.get? x=some (PySem.W.instObj C dx)
 ns:h.Ns1 dx mA
 ne:dx≠x
theorem kB{h:Heap}{dx:Addr}{mA:Str->Option Value}(n:h.Ns1 dx mA):∃od,h.get? dx=some od/\∀name,PySem.W.lookIn name od=some (mA name):=by
 obtain⟨o,es,ep,ho,hd,hk,_,hm⟩:=n;refine⟨o,ho,fun name=>?_⟩;have e:=hm name;unfold nsFind findBy at e;rw[<-Array.find?_toList]at e;unfold PySem.W.lookIn;rw[hd];dsimp only;split
 ·rename_i y q;rw[q]at e;exact congrArg some e
 ·rename_i q;rw[q]at e;have a:es.toList.any (·.refKey)=false:=by
   rw[List.any_eq_false];intro y hy;obtain⟨z,t,hkey⟩:=hk y (Array.mem_toList_iff.mp hy);simp[DictEntry.refKey,hkey]
  have a':¬es.toList.any (·.refKey)=true:=by rw[a];exact vNa
  rw[if_neg a'];exact congrArg some e
theorem ObjM.look{h:Heap}{x dx C:Addr}{mA:Str->Option Value}(I:ObjM h x dx C mA):∃od,PySem.W.InstAt h x (PySem.W.instObj C dx) C (some od)/\∀name,PySem.W.lookIn name od=some (mA name):=
 let ⟨od,ho,hl⟩:=kB I.ns
 ⟨od,⟨I.obj,rfl,rfl,ho⟩,hl⟩
section
variable {prog:Program} {w:World} {A:Around} {E:Value->Shared->Prop} {s:Shared} {K:PySem.W.Frag} {x dx C f:Addr} {mA:Str->Option Value} {name:Str} {v:Value}
theorem qH{expr:Bool}{Q:Value->Shared->Prop}(X:K.In s.heap)(I:ObjM s.heap x dx C mA)(hg:PySem.W.plainGet K C name=true)(hh:PySem.W.hasDictIn K C=true)
  (ha:PySem.W.findIn K (.ref C) name=some none) (hv:mA name=some v) (hv':PySem.W.handedIn v=true) (h:Q v { s with toks:=s.toks+1 }):
  wpAny (model prog w) A (getAttr (.ref x) name expr) Q E s:=by
 obtain⟨od,J,hl⟩:=I.look;exact PySem.W.get_value X J (PySem.W.plainGet_of hg).1 (PySem.W.findObj_own hh ha rfl (by rw[hl,hv])) hv' h
theorem KP{pl:Sem Bool}{Q:Value×List Value->Shared->Prop}(X:K.In s.heap)(I:ObjM s.heap x dx C mA)(hg:PySem.W.plainGet K C name=true)
  (hf:PySem.W.findIn K (.ref C) name=some (some (.ref f))) (ht:PySem.W.isFn K (.ref f)=true) (hv:mA name=none) (h:Q (.ref f,[.ref x]) s):
  wpAny (model prog w) A (getMethod (.ref x) name pl) Q E s:=by
 obtain⟨od,J,hl⟩:=I.look;exact PySem.W.method_fn X J (PySem.W.plainGet_of hg).1 (PySem.W.plainGet_of hg).2 hf (beq_iff_eq.mp ht) (by show(PySem.W.lookIn name od).map (·.isSome)=some false;rw[hl,hv];rfl) h
theorem qI{ns:List Str}{Q:Unit->Shared->Prop}(X:K.In s.heap)(I:ObjM s.heap x dx C mA)
  (hs:PySem.W.findIn K (.ref C) "__setattr__" = some (some (.builtin "object.__setattr__"))) (hp:PySem.W.plainOver K C=true) (ht:PySem.W.takerIn K C name=some none) (hh:PySem.W.hasDictIn K C=true)
  (hw:PySem.Within mA ns) (hsz:ns.length<=sizeLine)
  (h:∀h',ObjM h' x dx C (fun y=>if y=name then some v else mA y)->Heap.SameBut dx s.heap h'->Q () { s with heap:=h',toks:=s.toks+2 }):
  wpAny (model prog w) A (setAttr (.ref x) name v) Q E s:=by
 obtain⟨od,J,hl⟩:=I.look;refine PySem.W.set_plain X J hs (PySem.W.osa_open (s:={ s with toks:=s.toks+1 }) (r:=none) X J hp ht fun b=>?_);obtain⟨cd,hc,hd'⟩:=PySem.W.any_some hh;have hx:s.heap.get? x=some ⟨.ref C,some dx,.plain,#[]⟩:=I.obj;refine wAa (wBa (wAa (wAa (wpAny_loadPart hx (wAa (PySem.W.Looks.here (s:={ s with toks:=s.toks+1 }) (PySem.W.looks_clsIn X hc) ?_))))));rw[hd'];refine wBa (a:=some dx) (wAa (wBa (wAa ?_)));refine wpAny_nsSet1 (s:={ s with toks:=s.toks+1 }) I.ns fun h' hn2 hs2=>?_;obtain⟨oD,esD,epD,hoD,hdD,hcD⟩:=hn2.count (PySem.Within.cons name v hw);refine wAa (wpAny_lookBehind hoD (by rw[hdD];exact pastItsLine_dict (wSa hcD (by rw[List.length_cons];omega))) ?_);exact wBa (h _ ⟨(hs2.2 _ (Ne.symm I.ne)).trans I.obj,hn2,I.ne⟩ hs2)
theorem KQ{R:Result->Shared->Prop}{vs:List Value}{kw:List (Str×Value)}(X:K.In s.heap)(hm:PySem.W.makesIn K C=true)
  (hi:PySem.W.findIn K (.ref C) "__init__" = some (some (.ref f))) (hf:PySem.W.typeIn K (.ref f)=some (.type "function"))
  (h:codeAny (model prog w) (A.under (.builtin "type.__call__" ⟨.ref C::vs,kw⟩)) (.call (.ref f) ⟨.ref (s.heap.objs.size+1)::vs,kw⟩) (PySem.W.InitBack (s.heap.objs.size+1) R)
   { s with heap:=(s.heap.push PySem.W.emptyDict).push (PySem.W.instObj C s.heap.objs.size) }):
  codeAny (model prog w) A (.call (.ref C) ⟨vs,kw⟩) R s:=by
 obtain⟨hh,g,d,t,os⟩:=s;exact PySem.W.make_core (PySem.W.makes_of X hm) (PySem.W.looks_findIn X hi) (fun self=>PySem.W.bind_fn X self hf) (.inl rfl) h
end
noncomputable def Jy(f:Str)(v:V):List (Str×V)->List (Str×V)
 | []=>[(f,v)]
 | (g,x)::r=>if g=f then(g,v)::r else(g,x)::Jy f v r
theorem ZU(f g:Str)(v:V):∀fs:List (Str×V),(Jy f v fs).lookup g=if g=f then some v else fs.lookup g
 | []=>by
  show List.lookup g [(f,v)]=_;by_cases h:g=f
  ·have hb:(g==f)=true:=beq_iff_eq.mpr h;simp only[List.lookup,hb,if_pos h]
  ·have hb:(g==f)=false:=beq_eq_false_iff_ne.mpr h;simp only[List.lookup,hb,if_neg h]
 | (k,x)::r=>by
  have ih:=ZU f g v r;rw[show Jy f v ((k,x)::r)=(if k=f then(k,v)::r else(k,x)::Jy f v r) from rfl];by_cases hk:k=f
  ·rw[if_pos hk];by_cases h:g=k
   ·have hb:(g==k)=true:=beq_iff_eq.mpr h;simp only[List.lookup,hb,if_pos (h.trans hk)]
   ·have hb:(g==k)=false:=beq_eq_false_iff_ne.mpr h;simp only[List.lookup,hb,if_neg (fun e:g=f=>h (e.trans hk.symm))]
  ·rw[if_neg hk];by_cases h:g=k
   ·have hb:(g==k)=true:=beq_iff_eq.mpr h;simp only[List.lookup,hb,if_neg (fun e:g=f=>hk (h.symm.trans e))]
   ·have hb:(g==k)=false:=beq_eq_false_iff_ne.mpr h;simp only[List.lookup,hb];exact ih
theorem Zf(f:Str)(v:V):∀fs:List (Str×V),f∈(Jy f v fs).map (·.1)/\∀g,g∈fs.map (·.1)->g∈(Jy f v fs).map (·.1)
 | []=>⟨by simp[Jy],fun g h=>by simp at h⟩
 | (k,x)::r=>by
  obtain⟨i1,i2⟩:=Zf f v r;rw[show Jy f v ((k,x)::r)=(if k=f then(k,v)::r else(k,x)::Jy f v r) from rfl];by_cases hk:k=f
  ·rw[if_pos hk];subst hk;exact⟨by simp,fun g h=>by simpa using h⟩
  ·rw[if_neg hk];refine⟨?_,fun g h=>?_⟩
   ·rw[List.map_cons];exact wMa _ i1
   ·rw[List.map_cons]at h⊢;rcases List.mem_cons.mp h with e | e
    ·exact List.mem_cons.mpr (.inl e)
    ·exact wMa _ (i2 g e)
theorem ZV(f:Str)(v:V):∀fs:List (Str×V),(Jy f v fs).length<=fs.length+1
 | []=>by simp[Jy]
 | (k,x)::r=>by
  have ih:=ZV f v r;rw[show Jy f v ((k,x)::r)=(if k=f then(k,v)::r else(k,x)::Jy f v r) from rfl];by_cases hk:k=f
  ·rw[if_pos hk,List.length_cons,List.length_cons];omega
  ·rw[if_neg hk,List.length_cons,List.length_cons];omega
theorem zb.some_of{v:V}{o:Option Value}(r:zb (some v) o):∃u,o=some u/\jh v u:=by
 cases o with
 | none=>exact(show False from r).elim
 | some u=>exact⟨u,rfl,r⟩
theorem zb.none_of{o:Option Value}(r:zb none o):o=none:=by
 cases o with
 | none=>rfl
 | some u=>exact(show False from r).elim
theorem kC{v:V}{u:Value}(r:jh v u):PySem.W.handedIn u=true:=by
 cases v with
 | non=>cases (show u=Value.none from r);rfl
 | bl b=>cases (show u=Value.bool b from r);rfl
 | int i=>obtain⟨t,e⟩:=(show∃t,u=Value.int i t from r);cases e;rfl
 | str x=>obtain⟨t,e⟩:=(show∃t,u=Value.str x t from r);cases e;rfl
 | byt b=>obtain⟨t,e⟩:=(show∃t,u=Value.bytes b t from r);cases e;rfl
 | flt b=>obtain⟨t,e⟩:=(show∃t,u=Value.float b t from r);cases e;rfl
 | ref a=>cases (show u=Value.ref a from r);rfl
 | ty n=>cases (show u=Value.type n from r);rfl
section
variable {P:Program} {w:World} {H H':Hp} {h h':Heap} {a C dx:Addr} {fs fs':List (Str×V)}
theorem Vx(hok:Jj P w H h)(e:H a=some (.ins C dx fs)):∃mA,ObjM h a dx C mA/\(∀f,zb (fs.lookup f) (mA f))/\PySem.Within mA (fs.map (·.1))/\fs.length<=1000/\H dx=some (.own a):=by
 obtain⟨d,z,ne,ob,mA,n,r,q⟩:=(show J9 P w H h a (.ins C dx fs) from hok a _ e)
 exact⟨mA,⟨ob,n,ne⟩,r,q,z,d⟩
end
structure Cls (K:PySem.W.Frag) (C:Addr):Prop where
 pg:PySem.W.plainGet K C Str.empty=true
 hd:PySem.W.hasDictIn K C=true
 po:PySem.W.plainOver K C=true
 sa:PySem.W.findIn K (.ref C) "__setattr__" = some (some (.builtin "object.__setattr__"))
theorem Cls.get{K:PySem.W.Frag}{C:Addr}(c:Cls K C)(f:Str):PySem.W.plainGet K C f=true:=c.pg
def JE(K:PySem.W.Frag)(C:Addr)(f:Str):Prop:=PySem.W.findIn K (.ref C) f=some none
theorem JE.taker{K:PySem.W.Frag}{C:Addr}{f:Str}(n:JE K C f):PySem.W.takerIn K C f=some none:=by
 unfold PySem.W.takerIn;rw[show PySem.W.findIn K (.ref C) f=some none from n];rfl
structure Meth (K:PySem.W.Frag) (C:Addr) (m:Str) (f:Addr):Prop where
 at_:PySem.W.findIn K (.ref C) m=some (some (.ref f))
 fn:PySem.W.isFn K (.ref f)=true
 kp:PySem.W.keepIn K (.ref f)=true
section
variable {X:Cx} {pins:List (Addr×Obj)} {σ:St} {H:Hp} {s:Shared} {a C dx:Addr} {fs:List (Str×V)} {f:Str} {v:V} {A:Around} {E:Value->Shared->Prop}
theorem Gs{b:Bool}{Q:Value->Shared->Prop}(I:Inv X pins σ H s)(e:H a=some (.ins C dx fs))(c:Cls X.K C)(n:JE X.K C f)(l:fs.lookup f=some v)
  (h:∀u s',Inv X pins σ H s'->jh v u->Q u s'):wpAny (model X.prog X.w) A (getAttr (.ref a) f b) Q E s:=by
 obtain⟨mA,O,r,_,_,_⟩:=Vx I.hok e;obtain⟨u,hu,ru⟩:=zb.some_of (v:=v) (o:=mA f) (by rw[<-l];exact r f);exact qH I.kIn O (c.get f) c.hd n hu (kC ru) (h u _ (I.tok _) ru)
theorem Gu{m:Str}{g:Addr}{pl:Sem Bool}{Q:Value×List Value->Shared->Prop}(I:Inv X pins σ H s)(e:H a=some (.ins C dx fs))(c:Cls X.K C)(k:Meth X.K C m g)(l:fs.lookup m=none)
  (h:Q (.ref g,[.ref a]) s):wpAny (model X.prog X.w) A (getMethod (.ref a) m pl) Q E s:=by
 obtain⟨mA,O,r,_,_,_⟩:=Vx I.hok e;have hn:mA m=none:=zb.none_of (by rw[<-l];exact r m);exact KP I.kIn O (c.get m) k.at_ k.fn hn h
theorem Gv{y:V}{u:Value}{Q:Unit->Shared->Prop}(I:Inv X pins σ H s)(e:H a=some (.ins C dx fs))(c:Cls X.K C)(n:JE X.K C f)(hl:fs.length < 1000)(ry:jh y u)
  (h:∀s',Inv X pins σ (upd H a (.ins C dx (Jy f y fs))) s'->Q () s'):wpAny (model X.prog X.w) A (setAttr (.ref a) f u) Q E s:=by
 obtain⟨mA,O,r,wi,_,ho⟩:=Vx I.hok e;have hz:(fs.map (·.1)).length<=sizeLine:=by rw[List.length_map,sizeLine_eq];omega
 refine qI I.kIn O c.sa c.po n.taker c.hd wi hz fun h' O' sb=>h _ ?_;have hd:∃o,h'.get? dx=some o:=let ⟨o,_,_,e',_⟩:=O'.ns;⟨o,e'⟩
 refine I.write (x:=a) (e:=dx) (by rw[e];exact True.intro) (.inr ho) (fun b q hb z=>(sb.2 b hb).trans z) hd ?_;refine⟨by rw[jc O.ne];exact ho,?_,O.ne,O'.obj,_,O'.ns,fun g=>?_,fun g hg=>?_⟩
 ·have:=ZV f y fs;omega
 ·show zb ((Jy f y fs).lookup g) (if g=f then some u else mA g);rw[ZU];by_cases q:g=f
  ·rw[if_pos q,if_pos q];exact ry
  ·rw[if_neg q,if_neg q];exact r g
 ·by_cases q:g=f
  ·rw[q];exact(Zf f y fs).1
  ·refine(Zf f y fs).2 g (wi g fun z=>hg ?_);show(if g=f then some u else mA g)=none;rw[if_neg q];exact z
theorem Inv.made(I:Inv X pins σ H s):Inv X pins σ (upd (upd H s.heap.objs.size (.own (s.heap.objs.size+1))) (s.heap.objs.size+1) (.ins C s.heap.objs.size []))
  { s with heap:=(s.heap.push PySem.W.emptyDict).push (PySem.W.instObj C s.heap.objs.size) }:=by
 have e1:(s.heap.push PySem.W.emptyDict).get? s.heap.objs.size=some PySem.W.emptyDict:=wJa s.heap rfl;have e2:((s.heap.push PySem.W.emptyDict).push (PySem.W.instObj C s.heap.objs.size)).get? (s.heap.objs.size+1)=some (PySem.W.instObj C s.heap.objs.size):=by
  have:=wJa (s.heap.push PySem.W.emptyDict) (o:=PySem.W.instObj C s.heap.objs.size) rfl;rwa [Heap.size_push]at this
 have e3:(s.heap.push PySem.W.emptyDict).Ns s.heap.objs.size (fun _=>none):=⟨PySem.W.emptyDict,#[],_,e1,rfl,(fun e he=>vDa he (by simp)),fun _=>rfl⟩
 have I1:=I.laid (a:=s.heap.objs.size) (o:=.own (s.heap.objs.size+1)) (h':=s.heap.push PySem.W.emptyDict) (t':=s.toks) (fun b u q=>wIa _ q) (wPa _) ⟨_,e1⟩;refine I1.laid (a:=s.heap.objs.size+1) (o:=.ins C s.heap.objs.size []) (t':=s.toks) (fun b u q=>wIa _ q) (Nat.le_of_eq (Heap.size_push _ _)) ?_;have ne:s.heap.objs.size≠s.heap.objs.size+1:=wTa (Nat.lt_succ_self _);refine⟨by rw[jc ne,jx],Nat.zero_le _,ne,e2,fun _=>none,(Heap.Ns1.of_empty e3).at fun o q=>wIa _ q,fun _=>True.intro,fun y hy=>vDa rfl hy⟩
theorem zx{prog:Program}{w:World}{env:Env}{e:Expr}{f:Str}{pos:Pos}{s:Shared}{Q:Value->Shared->Prop}(hb:attributeBase e f env (eval e env)=eval e env)
  (h:wpAny (model prog w) A (eval e env) (fun o s₁=>wpAny (model prog w) A (getAttr o f true) Q E s₁) E s):wpAny (model prog w) A (eval (.Attribute e f pos) env) Q E s:=
 Attribute_any_ h (by rw[arm_eval_Attribute,hb])
end
def ck(K:PySem.W.Frag)(ta:TE)(f:Str):TE:=fun σ H Q=>ta σ H fun x H1=>∃a C dx fs v,x=.ref a/\H1 a=some (.ins C dx fs)/\Cls K C/\JE K C f/\fs.lookup f=some v/\Q v H1
def xr(K:PySem.W.Frag)(ta tv:TE)(f:Str):TS:=fun D σ H=>tv σ H fun y H1=>ta σ H1 fun x H2=>∃a C dx fs,x=.ref a/\H2 a=some (.ins C dx fs)/\Cls K C/\JE K C f/\fs.length < 1000/\
 D.nx σ (upd H2 a (.ins C dx (Jy f y fs)))
section
variable {X:Cx} {o e value:Expr} {f:Str} {pos pos' tpos:Pos} {ta tv:TE}
theorem xt(he:PE X e ta)(hb:attributeBase e f X.env (eval e X.env)=eval e X.env):PE X (.Attribute e f pos) (ck X.K ta f):=by
 intro pins s σ H Q I h;refine zx hb (jg (he pins s σ H _ I h) fun u s1 xx=>?_);obtain⟨x,H1,I1,rx,a,C,dx,fs,v,ex,ea,c,n,l,q⟩:=xx;subst ex;obtain rfl:u=Value.ref a:=rx;exact Gs I1 ea c n l fun u' s2 I2 ru=>⟨v,H1,I2,ru,q⟩
theorem xu(ha:PE X o ta)(hv:PE X value tv)(hs:swapsWith value (some (.Attribute o f pos')) pos.line X.env=pure false):PS X (.Assign [.Attribute o f pos'] value pos) (xr X.K ta tv f):=by
 intro pins s σ H D I h;refine plainObj_wpAny_Assign_Attribute (jg (hv pins s σ H _ I h) fun u s1 ⟨y,H1,I1,ry,q⟩=>jg (ha pins s1 σ H1 _ I1 q) fun ov s2 xx=>?_) hs;obtain⟨x,H2,I2,rx,a,C,dx,fs,ex,ea,c,n,l,q2⟩:=xx;subst ex;obtain rfl:ov=Value.ref a:=rx;exact Gv I2 ea c n l ry fun s3 I3=>⟨σ,_,I3,q2⟩
end
structure Room (k:Nat) (A:Around):Prop where
 hd:A.handled=none
 dp:A.depth+3 * k+5 < recursionLimit
 un:A.units+16 * k+200 < cLine
theorem Room.mono{j k:Nat}{A:Around}(r:Room k A)(h:j<=k):Room j A:=⟨r.hd,by have:=r.dp;omega,by have:=r.un;omega⟩
theorem Room.deeper{k:Nat}{A:Around}(r:Room (k+1) A)(env:Env):Room k (A.deeper env):=
 ⟨r.hd,by have:=r.dp;show A.depth+1+3 * k+5 < _;omega,by have:=r.un;show A.units+3+16 * k+200 < _;omega⟩
theorem Gw{A:Around}{C:Addr}{us:List Value}{kw:List (Str×Value)}:(A.under (.builtin "type.__call__" ⟨.ref C::us,kw⟩)).depth=A.depth+1:=by
 first | rfl | simp[Around.under,Code.weight,Code.isCreation,Code.isGuard,Code.isCaller,Code.frames,Code.isFrame,guardIds]
theorem Gx{A:Around}{C:Addr}{us:List Value}{kw:List (Str×Value)}:(A.under (.builtin "type.__call__" ⟨.ref C::us,kw⟩)).units=A.units+1:=by
 first | rfl | simp[Around.under,Code.cUnits,Code.frames,Code.isFrame]
theorem Room.make{k:Nat}{A:Around}(r:Room (k+1) A)(C:Addr)(us:List Value)(kw:List (Str×Value)):Room k (A.under (.builtin "type.__call__" ⟨.ref C::us,kw⟩)):=
 ⟨r.hd,by have:=r.dp;rw[Gw];omega,by have:=r.un;rw[Gx];omega⟩
theorem Room.depth{k:Nat}{A:Around}(r:Room k A):A.depth < recursionLimit:=by have:=r.dp;omega
theorem Room.units{k:Nat}{A:Around}(r:Room k A):A.units+64 < cLine:=by have:=r.un;omega
def zJ:TA:=fun _ H Q=>Q [] H
def yb(ta:TE)(tr:TA):TA:=fun σ H Q=>ta σ H fun x H1=>tr σ H1 fun xs H2=>Q (x::xs) H2
section
variable {X:Cx} {e:Expr} {es:List Expr} {te:TE} {t:TA} {pos:Pos}
theorem J4:PA X [] zJ:=fun _ _ _ _ H Q I h=>Calls.spliced_nil ⟨[],H,I,.nil,h⟩
theorem jz(ha:PE X e te)(hr:PA X es t)(hs:starEach (e::es) X.env=(false,eval e X.env)::starEach es X.env:=by rfl):PA X (e::es) (yb te t):=by
 intro pos pins s σ H Q I h;rw[hs];show wpAny _ _ (spliced ((false,eval e X.env)::backTo pos (starEach es X.env))) _ _ s;refine Calls.spliced_cons (jg (ha pins s σ H _ I h) fun u s1 xx=>?_);obtain⟨x,H1,I1,r1,q1⟩:=xx;exact jg (hr pos pins s1 σ H1 _ I1 q1) fun us s2 ⟨xs,H2,I2,r2,q2⟩=>⟨x::xs,H2,I2,.cons r1 r2,q2⟩
def cn(t:TA):TE:=fun σ H Q=>t σ H fun xs H1=>xs.length<=sizeLine/\∀p,H1 p=none->Q (.ref p) (upd H1 p (.tup xs))
def xw(t:TA):TE:=fun σ H Q=>t σ H fun xs H1=>xs.length<=sizeLine/\∀p,H1 p=none->Q (.ref p) (upd H1 p (.lst xs))
theorem xy{x1}(h:PA X es t):PE X (.Tuple es x1 pos) (cn t):=by
 intro pins s σ H Q I hq;refine wpAny_Tuple_spliced (jg (h pos pins s σ H _ I hq) fun us s1 ⟨xs,H1,I1,r,z,q⟩=>⟨by rw[<-r.length];exact z,?_⟩);have hf:H1 s1.heap.objs.size=none:=I1.hok.fresh (wPa _);refine⟨.ref s1.heap.objs.size,upd H1 s1.heap.objs.size (.tup xs),I1.laid (t':=s1.toks) (fun b u e=>wIa _ e) (wPa _) ?_,rfl,q _ hf⟩;exact⟨z,us,r,⟨_,wJa _ rfl,rfl,_,rfl⟩⟩
theorem kD(h:PA X es t):PE X (.List es pos) (xw t):=by
 intro pins s σ H Q I hq;refine wpAny_List_spliced (jg (h pos pins s σ H _ I hq) fun us s1 ⟨xs,H1,I1,r,z,q⟩=>⟨by rw[<-r.length];exact z,?_⟩);have hf:H1 s1.heap.objs.size=none:=I1.hok.fresh (wPa _);refine⟨.ref s1.heap.objs.size,upd H1 s1.heap.objs.size (.lst xs),I1.laid (t':=s1.toks) (fun b u e=>wIa _ e) (wPa _) ?_,rfl,q _ hf⟩;exact⟨z,us,0,r,wJa _ rfl⟩
end
noncomputable abbrev Sp:=List V->Hp->VK->XK->Prop
noncomputable abbrev Zg:=List Env->Hp->Shared->XK->Value->Shared->Prop
structure Env0 (P:Program) (w:World) (K:PySem.W.Frag) (mg:Str->Option Value) (base:Heap) (A:Around) (outer:List Env) (s:Shared) (H:Hp):Prop where
 frames:A.frames=some outer
 mod:Mod K mg base
 bs:∀b o,base.get? b=some o->s.heap.get? b=some o/\H b=none
 bsz:base.objs.size<=s.heap.objs.size
 funs:s.heap.FunFrames base outer
 frf:∀b∈Z0 outer,H b=none
 hok:Jj P w H s.heap
 bare:AllBare s.gens
def CE(outer:List Env)(P:Program)(w:World)(H:Hp)(s:Shared)(Q:VK)(u:Value)(s':Shared):Prop:=
 ∃v H',s'.os=s.os/\AllBare s'.gens/\Un (Z0 outer) [] H H' s.heap s'.heap/\Jj P w H' s'.heap/\jh v u/\Q v H'
def CR(CX:Zg)(outer:List Env)(P:Program)(w:World)(H:Hp)(s:Shared)(Q:VK)(E:XK)(r:Result)(s':Shared):Prop:=
 match r with
 | .ok (.ret u)=>CE outer P w H s Q u s'
 | .ok _=>False
 | .error e=>CX outer H s E e s'
structure FnOk (P:Program) (w:World) (K:PySem.W.Frag) (mg:Str->Option Value) (base:Heap) (CX:Zg) (k:Nat) (f:Addr) (fd:FuncData) (ps:List Str) (sp:Sp):Prop where
 len:∀vs H Q E,sp vs H Q E->vs.length=ps.length
 run:∀(A:Around) (outer:List Env) (s:Shared) (H:Hp) (args:Args) (us:List Value) (vs:List V) (Q:VK) (E:XK),Room k A->Env0 P w K mg base A outer s H->BindsTo s fd args (ps.zip us)->jb vs us->sp vs H Q E->
  codeAny (model P w) A (.call (.ref f) args) (CR CX outer P w H s Q E) s
theorem FnOk.imp{P:Program}{w:World}{K:PySem.W.Frag}{mg:Str->Option Value}{base:Heap}{CX:Zg}{k:Nat}{f:Addr}{fd:FuncData}{ps:List Str}{sp sp':Sp}(F:FnOk P w K mg base CX k f fd ps sp)
  (h:∀vs H Q E,sp' vs H Q E->sp vs H Q E):FnOk P w K mg base CX k f fd ps sp':=
 ⟨fun vs H Q E q=>F.len vs H Q E (h _ _ _ _ q),fun A outer s H args us vs Q E hr he hb hv hs=>F.run A outer s H args us vs Q E hr he hb hv (h _ _ _ _ hs)⟩
theorem Env0.make{P:Program}{w:World}{K:PySem.W.Frag}{mg:Str->Option Value}{base:Heap}{A:Around}{outer:List Env}{s:Shared}{H:Hp}(e:Env0 P w K mg base A outer s H)(C:Addr)(us:List Value)(kw:List (Str×Value)):
  Env0 P w K mg base (A.under (.builtin "type.__call__" ⟨.ref C::us,kw⟩)) outer s H:=⟨by first | exact e.frames | (simpa[Around.under,Code.envs,Code.isFrame,pushEnvs]using e.frames),e.mod,e.bs,e.bsz,e.funs,e.frf,e.hok,e.bare⟩
section
variable {X:Cx} {pins:List (Addr×Obj)} {σ:St} {H:Hp} {s s':Shared}
theorem Inv.env0(I:Inv X pins σ H s):Env0 X.prog X.w X.K X.mg X.base X.A X.stack s H:=
 ⟨I.ok.frames,I.ok.mod,I.bs,wSa I.ok.bsz I.sz,I.stack,I.stkFree,I.hok,I.bare⟩
theorem Inv.after{Q:VK}{u:Value}(I:Inv X pins σ H s)(h:CE X.stack X.prog X.w H s Q u s'):EP X pins σ Q u s':=by
 obtain⟨v,H',os,bare,un,hok,r,q⟩:=h;obtain⟨hh,g,d,t,os'⟩:=s';obtain rfl:os'=s.os:=os;exact⟨v,H',I.call (h':=hh) (g':=g) (d':=d) (t':=t) (ch:=[]) un hok bare (fun b z=>vDa z (by simp)),r,q⟩
end
def Gy(sp:Sp)(dvs:List V)(E:XK)(t:TA):TE:=fun σ H Q=>t σ H fun vs H1=>sp (vs++dvs) H1 Q E
def Wt(C:Addr)(m:Str)(sp:Sp)(dvs:List V)(E:XK)(ta:TE)(t:TA):TE:=fun σ H Q=>ta σ H fun x H1=>∃a dx fs,x=.ref a/\H1 a=some (.ins C dx fs)/\fs.lookup m=none/\
 t σ H1 fun vs H2=>sp (x::(vs++dvs)) H2 Q E
def Wu(C:Addr)(sp:Sp)(dvs:List V)(E:XK)(t:TA):TE:=fun σ H Q=>t σ H fun vs H1=>∀x dx,H1 x=none->H1 dx=none->dx≠x->
 sp (.ref x::(vs++dvs)) (upd (upd H1 dx (.own x)) x (.ins C dx [])) (fun v H2=>v=.non/\Q (.ref x) H2) E
def yc(K:PySem.W.Frag)(fd:FuncData)(ps:List Str)(ds:List Value):Prop:=
 ∀(s:Shared) (us:List Value),K.In s.heap->(us++ds).length=ps.length->BindsTo s fd ⟨us,[]⟩ (ps.zip (us++ds))
theorem yc.all{K:PySem.W.Frag}{fd:FuncData}{ps:List Str}(h:∀us:List Value,us.length=ps.length->bindArgs fd ⟨us,[]⟩=pure (ps.zip us)):yc K fd ps []:=fun s us _ hl=>by
 rw[List.append_nil]at hl⊢;exact .of_eq (h us hl)
def zy(CX:Zg)(X:Cx)(E:XK):Prop:=∀(pins:List (Addr×Obj)) (σ:St) (H:Hp) (s:Shared) (e:Value) (s':Shared),Inv X pins σ H s->CX X.stack H s E e s'->X.xe e s'
section
variable {X:Cx} {CX:Zg} {k:Nat} {f C:Addr} {fd:FuncData} {ps:List Str} {sp:Sp} {dvs:List V} {ds:List Value} {E:XK} {x m:Str} {p pos apos:Pos} {e o:Expr} {es:List Expr} {ta:TE} {t:TA}
theorem kE{pins:List (Addr×Obj)}{σ:St}{H:Hp}{s:Shared}{Q:VK}{us:List Value}{vs:List V}(F:FnOk X.prog X.w X.K X.mg X.base CX k f fd ps sp)(hr:Room k X.A)(hb:yc X.K fd ps ds)(hd:jb dvs ds)(hx:zy CX X E)
  (I:Inv X pins σ H s) (r:jb vs us) (h:sp (vs++dvs) H Q E):wpAny (model X.prog X.w) X.A (call (.ref f) us) (EP X pins σ Q) X.xe s:=by
 have r2:jb (vs++dvs) (us++ds):=r.append hd;have hl:(us++ds).length=ps.length:=by rw[<-r2.length];exact F.len _ _ _ _ h
 refine wpAny_call (codeAny_mono (F.run X.A X.stack s H ⟨us,[]⟩ (us++ds) (vs++dvs) Q E hr I.env0 (hb s us I.kIn hl) r2 h) fun r s' hq=>?_);cases r with
 | error e=>exact hx pins σ H s e s' I hq
 | ok fl=>
  cases fl with
  | ret u=>exact I.after hq
  | next=>exact False.elim hq
  | brk=>exact False.elim hq
  | cont=>exact False.elim hq
theorem qJ(F:FnOk X.prog X.w X.K X.mg X.base CX k f fd ps sp)(hr:Room k X.A)(hg:Gl X x)(hm:X.mg x=some (.ref f))(hk:PySem.W.keepIn X.K (.ref f)=true)(hb:yc X.K fd ps ds)(hd:jb dvs ds)(hx:zy CX X E)
  (ha:PA X (e::es) t) (hdb:(x==("__debug__" : Str))=false:=by decide) (he:starEach (e::es) X.env=(false,eval e X.env)::starEach es X.env:=by rfl) (hpl:(backTo pos (starEach es X.env)).any (·.1)=false:=by rfl):
  PE X (.Call (.Name x p) (e::es) [] pos) (Gy sp dvs E t):=by
 intro pins s σ H Q I h;refine wpAny_Call_Name_kw (Vt I hg hm ?_ hdb);refine PySem.W.callWith_K (h₀:=X.base) I.ok.mod.kin hk (jg (ha pos pins s σ H _ I h) fun us s1 ⟨vs,H1,I1,r,q⟩=>⟨I1.kIn,?_⟩) he hpl;exact kE F hr hb hd hx I1 r q
theorem KR{pl:Sem Bool}(he:PE X o ta)(c:Cls X.K C)(hm:Meth X.K C m f)(F:FnOk X.prog X.w X.K X.mg X.base CX k f fd ps sp)(hr:Room k X.A)(hb:yc X.K fd ps ds)(hd:jb dvs ds)(hx:zy CX X E)
  (ht:eval (.Call (.Attribute o m apos) [] [] pos) X.env=(do
   let ov<-eval o X.env
   standAt apos.atName
   let (f,first)<-holding [ov] (getMethod ov m pl)
   callWith pos f first (backTo pos (starEach [] X.env)) (backToKw pos (keywordEach [] X.env))):=by rfl):
  PE X (.Call (.Attribute o m apos) [] [] pos) (Wt C m sp dvs E ta zJ):=by
 intro pins s σ H Q I h;refine PySem.W.methodCall_KW (pl:=pl) (jg (he pins s σ H _ I h) fun u s1 xx=>?_) ht;obtain⟨x,H1,I1,rx,a,dx,fs,ex,ea,l,q⟩:=xx;subst ex;obtain rfl:u=Value.ref a:=rx;refine Gu I1 ea c hm l ?_;exact PySem.W.callWith_K0 (first:=[.ref a]) I1.kIn hm.kp (kE (us:=[.ref a]) (vs:=[.ref a]) F hr hb hd hx I1 (.cons rfl .nil) q)
structure Mk (K:PySem.W.Frag) (C f:Addr):Prop where
 makes:PySem.W.makesIn K C=true
 init:PySem.W.findIn K (.ref C) "__init__" = some (some (.ref f))
 fn:PySem.W.isFn K (.ref f)=true
 kp:PySem.W.keepIn K (.ref C)=true
theorem KS{pins:List (Addr×Obj)}{σ:St}{H:Hp}{s:Shared}{Q:VK}{us:List Value}{vs:List V}(M:Mk X.K C f)(F:FnOk X.prog X.w X.K X.mg X.base CX k f fd ps sp)(hr:Room (k+1) X.A)(hb:yc X.K fd ps ds)(hd:jb dvs ds)
  (hx:zy CX X E) (I:Inv X pins σ H s) (r:jb vs us)
  (h:∀x dx,H x=none->H dx=none->dx≠x->sp (.ref x::(vs++dvs)) (upd (upd H dx (.own x)) x (.ins C dx [])) (fun v H2=>v=.non/\Q (.ref x) H2) E):
  wpAny (model X.prog X.w) X.A (call (.ref C) us) (EP X pins σ Q) X.xe s:=by
 have hq:=h (s.heap.objs.size+1) s.heap.objs.size (I.hok.fresh (Nat.le_succ _)) (I.hok.fresh (wPa _)) (wTa (Nat.lt_succ_self _));have I2:=Inv.made (C:=C) I;have r2:jb (V.ref (s.heap.objs.size+1)::(vs++dvs)) (Value.ref (s.heap.objs.size+1)::(us++ds)):=.cons rfl (r.append hd);have hl:(Value.ref (s.heap.objs.size+1)::us++ds).length=ps.length:=by
  have e:=r2.length;rw[F.len _ _ _ _ hq]at e;exact e.symm
 refine wpAny_call (KQ (f:=f) I.kIn M.makes M.init (beq_iff_eq.mp M.fn) (codeAny_mono (F.run _ X.stack _ _ ⟨Value.ref (s.heap.objs.size+1)::us,[]⟩ (Value.ref (s.heap.objs.size+1)::(us++ds)) _ _ E (hr.make C us [])
  (I2.env0.make C us []) (hb _ (Value.ref (s.heap.objs.size+1)::us) I2.kIn hl) r2 hq) fun r s' hq'=>?_))
 cases r with
 | error e=>exact hx pins σ _ _ e s' I2 hq'
 | ok fl=>
  cases fl with
  | ret u=>
   obtain⟨v,H',I3,rv,ev,q3⟩:=I2.after hq';subst ev;exact⟨rv,⟨V.ref (s.heap.objs.size+1),H',I3,rfl,q3⟩⟩
  | next=>exact False.elim hq'
  | brk=>exact False.elim hq'
  | cont=>exact False.elim hq'
theorem qK(M:Mk X.K C f)(F:FnOk X.prog X.w X.K X.mg X.base CX k f fd ps sp)(hr:Room (k+1) X.A)(hg:Gl X x)(hm:X.mg x=some (.ref C))(hb:yc X.K fd ps ds)(hd:jb dvs ds)(hx:zy CX X E)
  (ha:PA X (e::es) t) (hdb:(x==("__debug__" : Str))=false:=by decide) (he:starEach (e::es) X.env=(false,eval e X.env)::starEach es X.env:=by rfl) (hpl:(backTo pos (starEach es X.env)).any (·.1)=false:=by rfl):
  PE X (.Call (.Name x p) (e::es) [] pos) (Wu C sp dvs E t):=by
 intro pins s σ H Q I h;refine wpAny_Call_Name_kw (Vt I hg hm ?_ hdb);refine PySem.W.callWith_K (h₀:=X.base) I.ok.mod.kin M.kp (jg (ha pos pins s σ H _ I h) fun us s1 ⟨vs,H1,I1,r,q⟩=>⟨I1.kIn,?_⟩) he hpl;exact KS M F hr hb hd hx I1 r q
end
structure FnScope (N P:List Str) (sc:Scope):Prop where
 kind:sc.kind=.function
 co:sc.isCoroutine=false
 gen:sc.isGenerator=false
 nd:N.Nodup
 pre:N.take P.length=P
 par:∀x∈P,sc.names.lookup x=some .local∨sc.names.lookup x=some .cell
 nofree:∀y∈sc.names,y.2≠.free
theorem VW{kindOf:Str->Option NameKind}{x:Str}:∀{binds:List (Str×Value)} {m:Str->Option Value},(∀v,(x,v)∉binds)->bindL kindOf binds m x=m x
 | [],_,_=>rfl
 | (n,v)::r,m,h=>by
  unfold bindL;rw[VW fun w hw=>h w (List.mem_cons_of_mem _ hw)];split
  ·have:x≠n:=by rintro rfl;exact h v wNa
   simp[this]
  ·rfl
theorem VX{kindOf:Str->Option NameKind}{x:Str}:∀{binds:List (Str×Value)} {m:Str->Option Value},(∀v,(x,v)∉binds)->bindC kindOf binds m x=m x
 | [],_,_=>rfl
 | (n,v)::r,m,h=>by
  unfold bindC;rw[VX fun w hw=>h w (List.mem_cons_of_mem _ hw)];split
  ·rfl
  ·have:x≠n:=by rintro rfl;exact h v wNa
   simp[this]
theorem VY{kindOf:Str->Option NameKind}{x:Str}{v:Value}:∀{P:List Str} {vs:List Value} {i:Nat} {m:Str->Option Value},P.Nodup->P[i]?=some x->vs[i]?=some v->kindOf x=some .local->
  bindL kindOf (P.zip vs) m x=some v
 | [],_,_,_,_,h,_,_=>by simp at h
 | _::_,[],_,_,_,_,h,_=>by simp at h
 | p::P,w::vs,0,m,nd,h1,h2,hk=>by
  simp at h1 h2;subst h1;subst h2;show bindL kindOf ((p,w)::P.zip vs) m p=_;unfold bindL;rw[VW fun v hv=>(List.nodup_cons.mp nd).1 (List.of_mem_zip hv).1,if_pos hk];simp
 | p::P,w::vs,i+1,m,nd,h1,h2,hk=>by
  show bindL kindOf ((p,w)::P.zip vs) m x=_;unfold bindL;exact VY (i:=i) (List.nodup_cons.mp nd).2 (by simpa using h1) (by simpa using h2) hk
theorem VZ{kindOf:Str->Option NameKind}{x:Str}{v:Value}:∀{P:List Str} {vs:List Value} {i:Nat} {m:Str->Option Value},P.Nodup->P[i]?=some x->vs[i]?=some v->kindOf x≠some .local->
  bindC kindOf (P.zip vs) m x=some v
 | [],_,_,_,_,h,_,_=>by simp at h
 | _::_,[],_,_,_,_,h,_=>by simp at h
 | p::P,w::vs,0,m,nd,h1,h2,hk=>by
  simp at h1 h2;subst h1;subst h2;show bindC kindOf ((p,w)::P.zip vs) m p=_;unfold bindC;rw[VX fun v hv=>(List.nodup_cons.mp nd).1 (List.of_mem_zip hv).1,if_neg hk];simp
 | p::P,w::vs,i+1,m,nd,h1,h2,hk=>by
  show bindC kindOf ((p,w)::P.zip vs) m x=_;unfold bindC;exact VZ (i:=i) (List.nodup_cons.mp nd).2 (by simpa using h1) (by simpa using h2) hk
noncomputable def start(N:List Str)(vs:List V):St:=vs.map some++List.replicate (N.length - vs.length) none
noncomputable def Y1(CX:Zg)(P:Program)(w:World)(K:PySem.W.Frag)(mg:Str->Option Value)(base:Heap)(N:List Str)(qual:Str)(scope:Scope)(f:Addr)(cd:Value)(A:Around)(outer:List Env)(s:Shared)(H:Hp)(E:XK):Cx where
 prog:=P
 w:=w
 K:=K
 mg:=mg
 base:=base
 A:=A.deeper (envOfC qual scope s.heap.objs.size f cd)
 N:=N
 s₀:=s
 H₀:=H
 env:=envOfC qual scope s.heap.objs.size f cd
 outer:=outer
 stack:=envOfC qual scope s.heap.objs.size f cd::outer
 ex:=[]
 calm:=true
 fn:=fun _=>true
 pn:=[]
 xe:=fun e s'=>wpAny (model P w) (A.deeper (envOfC qual scope s.heap.objs.size f cd)) (leaving (envOfC qual scope s.heap.objs.size f cd) e) (fun _ s''=>CX outer H s E e s'') (fun e' s''=>CX outer H s E e' s'') s'
theorem uR{sc:Scope}{n:Nat}{x:Str}(h:sc.names.lookup x=some .cell):∃c,(cellsFrom n sc.names []).lookup x=some c:=by
 have q:=PySem.W.cellsFrom_some sc.names n [] (.inl h);exact Option.isSome_iff_exists.mp q
theorem kG{CX:Zg}{P:Program}{w:World}{K:PySem.W.Frag}{mg:Str->Option Value}{base:Heap}{N ps:List Str}{qual:Str}{scope:Scope}{f:Addr}{cd:Value}{A:Around}{outer:List Env}{s s1:Shared}{H:Hp}{E:XK}{us:List Value}{vs:List V}
  (S:FnScope N ps scope) (hd:A.handled=none) (e0:Env0 P w K mg base A outer s H) (hl:vs.length=ps.length) (r:jb vs us)
  (x:InCallC s s.heap.objs.size (bindL (envOfC qual scope s.heap.objs.size f cd).kindOf (ps.zip us) fun _=>none) (cellsFrom (s.heap.objs.size+1) scope.names []) (bindC (envOfC qual scope s.heap.objs.size f cd).kindOf (ps.zip us) fun _=>none) s1):
  Inv (Y1 CX P w K mg base N qual scope f cd A outer s H E) [] (start N vs) H s1:=by
 have hpl:ps.length<=N.length:=by have:=congrArg List.length S.pre;rw[List.length_take]at this;omega
 obtain⟨h1,tk,rfl,hk⟩:=x.done;have noA:∀b:Addr,b∉(Y1 CX P w K mg base N qual scope f cd A outer s H E).ex:=fun b z=>vDa (show b∈([]:List Addr) from z) (by simp);refine⟨⟨e0.mod,S.kind,rfl,rfl,wPa _,fun y z c h1 h2=>?_,fun y hy=>?_,fun y c _ h=>?_,fun _=>hd,Around.frames_deeper e0.frames,.inr ⟨rfl,rfl⟩,fun b z=>vDa z (noA b),e0.bs,e0.bsz,fun b _ _=>noA b,fun b z=>vDa z (noA b),e0.funs,e0.frf⟩,
  rfl,e0.bare,Un.kept hk,⟨_,x.toInCall.ns,fun i y v h1 h2 h3=>?_⟩,fun y c h=>⟨_,x.cell y c h⟩,e0.hok.fresh (wPa _),fun y c h=>?_,fun p hp=>vDa (show p∈([]:List (Addr×Obj)) from hp) (by simp),e0.hok.kept hk,?_⟩
 ·exact name_of_addr x.apart (PySem.mem_of_lookup h1) (PySem.mem_of_lookup h2)
 ·have hy:scope.names.lookup y=some .cell∨scope.names.lookup y=some .free:=hy;rcases hy with hy | hy
  ·exact uR hy
  ·exact vDa rfl (S.nofree _ (PySem.mem_of_lookup hy))
 ·exact wQa (x.above y c (PySem.mem_of_lookup h))
 ·have hi:i < vs.length:=by
   unfold start at h2;by_cases hi:i < vs.length
   ·exact hi
   ·rw[List.getElem?_append_right (by simpa using hi)]at h2;rw[List.getElem?_replicate]at h2;split at h2 <;> cases h2
  have ha:vs[i]?=some v:=by
   unfold start at h2;rw[List.getElem?_append_left (by simpa using hi),List.getElem?_map]at h2;cases e:vs[i]? with
   | none=>rw[e]at h2;cases h2
   | some a=>rw[e]at h2;cases h2;rfl
  obtain⟨u,hu,rv⟩:=r.get ha;have hp:ps[i]?=some y:=by
   rw[<-S.pre,List.getElem?_take_of_lt (by omega)];exact h1
  have ndP:ps.Nodup:=by rw[<-S.pre];exact S.nd.sublist (List.take_sublist _ _)
  refine⟨u,rv,?_⟩;rcases S.par y (wYa hp)with k | k
  ·exact .inl ⟨k,VY ndP hp hu k⟩
  ·obtain⟨c,e⟩:=uR (n:=s.heap.objs.size+1) k;refine .inr ⟨.inl k,c,e,?_⟩;have q:=x.cell y c e;rw[VZ ndP hp hu (by show scope.names.lookup y≠_;rw[k];decide)]at q;exact q
 ·exact e0.hok.fresh (wQa (x.above y c (PySem.mem_of_lookup h)))
 ·unfold start;show _=N.length;rw[List.length_append,List.length_map,List.length_replicate];omega
theorem AN{CX:Zg}{P:Program}{w:World}{K:PySem.W.Frag}{mg:Str->Option Value}{base:Heap}{k:Nat}{f:Addr}{name qual:Str}{params:Arguments}{body:List Stmt}{scope:Scope}{dV kV doc pm cdv ct oc:Value}{an od:Option Addr}
  {osl:Array (Option Value)} {N ps:List Str} {sp:Sp} (lk:K.lookup f=some ⟨oc,od,.func (PySem.W.fnOf name qual params body scope dV kV doc pm an cdv ct),osl⟩) (hcd:PySem.W.codeIn K cdv qual=true) (S:FnScope N ps scope)
  (len:∀vs H Q E,sp vs H Q E->vs.length=ps.length)
  (hbody:∀(A:Around) (outer:List Env) (s:Shared) (H:Hp) (vs:List V) (Q:VK) (E:XK),Room k (A.deeper (envOfC qual scope s.heap.objs.size f cdv))->sp vs H Q E->
   ∃t,jy (Y1 CX P w K mg base N qual scope f cdv A outer s H E) body t/\t { nx:=fun _ H'=>Q .non H',rt:=Q } (start N vs) H):
  FnOk P w K mg base CX (k+1) f (PySem.W.fnOf name qual params body scope dV kV doc pm an cdv ct) ps sp:=by
 refine⟨len,fun A outer s H args us vs Q E hr e0 hb r hsp=>?_⟩;have hl:=len _ _ _ _ hsp;have KX:K.In s.heap:=e0.mod.kin.keeps fun b o e=>(e0.bs b o e).1;have lim:s.heap.NoLimit:=e0.mod.nolimit.keeps fun b o e=>(e0.bs b o e).1;have hkind:∀y∈ps.zip us,scope.names.lookup y.1=some .local∨(scope.names.lookup y.1=some .cell/\((cellsFrom (s.heap.objs.size+1) scope.names []).lookup y.1).isSome=true):=fun⟨n,v⟩ hy=>by
  rcases S.par n (List.of_mem_zip hy).1 with q | q
  ·exact .inl q
  ·exact .inr ⟨q,PySem.W.cellsFrom_some _ _ _ (.inl q)⟩
 refine codeAny_call_function hr.depth (KX _ _ lk) rfl S.co S.gen rfl (PySem.W.codeRec_of KX hcd) (hb _ _ _ _ ?_);refine wpAny_newFunctionEnv_cells S.kind hkind fun env he s1 x=>?_;subst he;refine⟨lim.keeps x.toInCall.keep,codeAny_func ?_⟩;obtain⟨t,ht,hq⟩:=hbody A outer s H vs Q E (hr.deeper _) hsp;have I:Inv (Y1 CX P w K mg base N qual scope f cdv A outer s H E) [] (start N vs) H s1:=kG S hr.hd e0 hl r x;refine wCa (ht [] s1 (start N vs) H _ I hq) (fun fl s' hs=>?_) fun e s' hs=>hs;have fin:∀{σ':St} {H':Hp} {v:V} {u:Value},Inv (Y1 CX P w K mg base N qual scope f cdv A outer s H E) [] σ' H' s'->jh v u->Q v H'->CE outer P w H s Q u s':=
  fun {σ' H' v u} J rv q=>⟨v,H',J.os,J.bare,J.base,J.hok,rv,q⟩
 cases fl with
 | ret u=>
  obtain⟨v,σ',H',J,rv,q⟩:=hs;exact fin J rv q
 | next=>
  obtain⟨σ',H',J,q⟩:=hs;exact fin (v:=V.non) (u:=Value.none) J rfl q
 | brk=>
  obtain⟨_,_,_,q⟩:=hs;exact False.elim q
 | cont=>
  obtain⟨_,_,_,q⟩:=hs;exact False.elim q
section
variable {X:Cx} {x:Str} {p pos:Pos} {e:Expr} {es:List Expr} {t:TA} {id T:String} {r:List V->Hp->VK->Prop}
def kH(r:List V->Hp->VK->Prop)(t:TA):TE:=fun σ H Q=>t σ H fun vs H1=>r vs H1 Q
theorem Yu(hc:ya X (.builtin id) r)(hg:Gl X x)(hm:X.mg x=none)(hv:bootBuiltins x=some (.builtin id))(ha:PA X (e::es) t)(hn:x≠ "__name__" := by decide)(hdb:(x==("__debug__" : Str))=false:=by decide)
  (he:starEach (e::es) X.env=(false,eval e X.env)::starEach es X.env:=by rfl) (hpl:(backTo pos (starEach es X.env)).any (·.1)=false:=by rfl):PE X (.Call (.Name x p) (e::es) [] pos) (kH r t):=by
 intro pins s σ H Q I h;refine wpAny_Call_Name_kw (yT I hg hm hv ?_ hn hdb);exact PyProof.Rows.callWith_builtin1 (jg (ha pos pins s σ H _ I h) fun us s1 ⟨vs,H1,I1,r1,q1⟩=>hc pins s1 σ H1 vs us Q I1 r1 q1) he hpl
theorem YS(hc:ya X (.type T) r)(hg:Gl X x)(hm:X.mg x=none)(hv:bootBuiltins x=some (.type T))(ha:PA X (e::es) t)(hn:x≠ "__name__" := by decide)(hdb:(x==("__debug__" : Str))=false:=by decide)
  (he:starEach (e::es) X.env=(false,eval e X.env)::starEach es X.env:=by rfl) (hpl:(backTo pos (starEach es X.env)).any (·.1)=false:=by rfl):PE X (.Call (.Name x p) (e::es) [] pos) (kH r t):=by
 intro pins s σ H Q I h;refine wpAny_Call_Name_kw (yT I hg hm hv ?_ hn hdb);exact PyProof.Rows.callWith_type1 (jg (ha pos pins s σ H _ I h) fun us s1 ⟨vs,H1,I1,r1,q1⟩=>hc pins s1 σ H1 vs us Q I1 r1 q1) he hpl
end
end L2
namespace HT
open PySem PyProof.Rows
section
open PySem.SeqAt
open PySem.AutoSeq1 (wpAny_loadPart')
open PySem.MeetsSeq PySem.MeetsSeq2 PySem.MeetsSeq3
end
section
variable {prog:Program} {w:World} {A:Around} {E:Value->Shared->Prop} {s:Shared}
theorem cat_tup{t b:Addr}{vs ws:List Value}{Q:Value->Shared->Prop}(ht:IsTup s.heap t vs.toArray)(hb:IsTup s.heap b ws.toArray)(hv:vs≠[])
  (h1:ws=[]->Q (.ref t) s) (h2:ws≠[]->Q (.ref s.heap.objs.size) { s with heap:=s.heap.push { cls:=.type "tuple",data:=.seq (vs++ws).toArray } })
  (hsz:vs.length+ws.length<=sizeLine):wpAny (model prog w) A (binaryOp .Add (.ref t) (.ref b)) Q E s:=by
 obtain⟨⟨cls,dd,data,sl⟩,ho,hc,n,hd⟩:=id ht;obtain⟨⟨cls2,dd2,data2,sl2⟩,ho2,hc2,n2,hd2⟩:=id hb;simp only at hc hd hc2 hd2;subst hc hd hc2 hd2;have e:vs.toArray++ws.toArray=(vs++ws).toArray:=by simp
 by_cases hw:ws=[]
 ·exact concat_meets ⟨_,ho,rfl⟩ ⟨_,ho2,rfl⟩ noFill_tuple_add seq_tuple_add PySem.F.slot_tuple_add PySem.F.entry_tuple_add (PySem.F.args_tuple_add_2 _ _)
   (tuple_addW1 t b vs.toArray ws.toArray n n2 dd dd2 sl sl2 (by simpa using hv) (by simp[hw])) ⟨ho,ho2,h1 hw⟩
 ·refine concat_meets ⟨_,ho,rfl⟩ ⟨_,ho2,rfl⟩ noFill_tuple_add seq_tuple_add PySem.F.slot_tuple_add PySem.F.entry_tuple_add (PySem.F.args_tuple_add_2 _ _)
   (tuple_addW2 t b vs.toArray ws.toArray n n2 dd dd2 sl sl2 (by simpa using hv) (by simpa using hw) (by rw[List.size_toArray,List.size_toArray];exact hsz)) ⟨ho,ho2,?_⟩
  rw[e];exact h2 hw
noncomputable def sIx(n d:Nat):Option Int->Nat
 | none=>d
 | some v=>if v < 0 then(v+(n:Int)).toNat else min v.toNat n
theorem sIx_nat(n d k:Nat):sIx n d (some (k:Int))=min k n:=by
 show(if (k:Int) < 0 then((k:Int)+(n:Int)).toNat else min (k:Int).toNat n)=min k n;rw[if_neg (by omega),Int.toNat_natCast]
theorem sIx_le(n d:Nat)(hd:d<=n)(o:Option Int):sIx n d o<=n:=by
 cases o with
 | none=>exact hd
 | some v=>
  show(if v < 0 then(v+(n:Int)).toNat else min v.toNat n)<=n;by_cases hv:v < 0
  ·rw[if_pos hv];omega
  ·rw[if_neg hv];exact Nat.min_le_right _ _
theorem clip_eq(v:Int)(n d:Nat):(if v < 0 then max (v+(n:Int)) 0 else min v (n:Int))=((sIx n d (some v):Nat):Int):=by
 show(if v < 0 then max (v+(n:Int)) 0 else min v (n:Int))=(((if v < 0 then(v+(n:Int)).toNat else min v.toNat n):Nat):Int)
 by_cases hv:v < 0
 ·simp only[if_pos hv];omega
 ·simp only[if_neg hv];omega
theorem adjust_gen(lo hi:Option Int)(n:Nat):Builtin.Slice.sliceAdjust lo hi 1 (n:Int)=(((sIx n 0 lo:Nat):Int),((sIx n n hi:Nat):Int)):=by
 have h1:¬((1:Int) < 0):=by omega
 unfold Builtin.Slice.sliceAdjust;simp only[h1,if_false];refine Prod.ext ?_ ?_
 ·cases lo with
  | none=>rfl
  | some v=>exact clip_eq v n 0
 ·cases hi with
  | none=>rfl
  | some v=>exact clip_eq v n n
theorem places_gen(i j:Nat):Builtin.Slice.slicePlaces (i:Int) (j:Int) 1=j - i:=by
 unfold Builtin.Slice.slicePlaces;have h1:(1:Int) > 0:=by omega
 simp only[h1,if_true,Int.ediv_one];split <;> omega
theorem slicePart_{v:Value}{o:Option Int}{Q:Option Int->Shared->Prop}(p:IsPart v o)(h:Q o s):wpAny (model prog w) A (Builtin.Slice.slicePartIndex v) Q E s:=by
 cases p with
 | none=>exact slicePart_none h
 | int i t=>exact slicePart_int h
theorem sliceApplied_gen{sl:Addr}{vl vu:Value}{lo hi:Option Int}{n:Nat}{Q:Int×Int×Nat->Shared->Prop}(hs:s.heap.IsSliceOf sl vl vu .none)(pl:IsPart vl lo)(pu:IsPart vu hi)
  (h:Q (((sIx n 0 lo:Nat):Int),1,sIx n n hi - sIx n 0 lo) s):wpAny (model prog w) A (Builtin.Slice.sliceApplied (.ref sl) (pure (n:Int))) Q E s:=by
 obtain⟨os,hos,hcs,hds⟩:=id hs;unfold Builtin.Slice.sliceApplied Builtin.Slice.sliceFields;refine wAa (wAa (wpAny_field hos hds (x:=vl) rfl (wAa (wpAny_field hos hds (x:=vu) rfl (wAa (wpAny_field hos hds (x:=.none) rfl (wBa ?_)))))));refine wAa (slicePart_none ?_);show wpAny _ _ (if ((1:Int)==0)=true then _ else _) _ _ s;rw[if_neg (by decide)];refine wAa (slicePart_ pl (wAa (slicePart_ pu (wAa (wBa ?_)))));show wpAny _ _ (match Builtin.Slice.sliceAdjust lo hi 1 (n:Int)with | (lo,hi)=>pure (lo,(1:Int),Builtin.Slice.slicePlaces lo hi 1)) _ _ s;rw[adjust_gen lo hi n];show wpAny _ _ (pure (((sIx n 0 lo:Nat):Int),(1:Int),Builtin.Slice.slicePlaces ((sIx n 0 lo:Nat):Int) ((sIx n n hi:Nat):Int) 1)) _ _ s;rw[places_gen];exact wBa h
theorem pick_gen(xs:Array Value)(i k:Nat):((List.range k).filterMap fun(m:Nat)=>xs[((i:Int)+(m:Int) * 1).toNat]?).toArray=((xs.toList.drop i).take k).toArray:=by
 have e:(fun(m:Nat)=>xs[((i:Int)+(m:Int) * 1).toNat]?)=fun m=>xs[i+m]?:=by
  funext m;have:((i:Int)+(m:Int) * 1).toNat=i+m:=by omega
  rw[this]
 rw[e];have:=pick_run xs i k;rw[List.filterMap_map]at this;have e2:((fun x=>xs[x]?)∘fun x=>i+x)=fun m=>xs[i+m]?:=rfl;rw[e2]at this;rw[this]
theorem getItem_tuple_cut{t sl:Addr}{items:Array Value}{vl vu:Value}{lo hi:Option Int}{Q:Value->Shared->Prop}(ht:IsTup s.heap t items)(hs:s.heap.IsSliceOf sl vl vu .none)(pl:IsPart vl lo)(pu:IsPart vu hi)
  (hw:¬(sIx items.size 0 lo=0/\sIx items.size items.size hi=items.size))
  (h:Q (.ref s.heap.objs.size) { s with heap:=s.heap.push { cls:=.type "tuple",data:=.seq ((items.toList.drop (sIx items.size 0 lo)).take (sIx items.size items.size hi - sIx items.size 0 lo)).toArray } })
  (hsz:items.size<=sizeLine):wpAny (model prog w) A (getItem (.ref t) (.ref sl)) Q E s:=by
 have htake:sizeOk (.seq ((items.toList.drop (sIx items.size 0 lo)).take (sIx items.size items.size hi - sIx items.size 0 lo)).toArray):=by
  show((items.toList.drop (sIx items.size 0 lo)).take (sIx items.size items.size hi - sIx items.size 0 lo)).toArray.size<=sizeLine;rw[List.size_toArray,List.length_take,List.length_drop,Array.length_toList];omega
 have hj:sIx items.size items.size hi<=items.size:=sIx_le _ _ (wPa _) hi;obtain⟨os,hos,hcs,hds⟩:=id hs;have hTs:s.TypeIs (.ref sl) "slice" := ⟨os,hos,hcs⟩
 unfold getItem
 try with_reducible refine wDa ?_
 first | refine wAa (wBa ?_) | skip
 refine wAa (wpAny_sequenceKey ht.typeIs (by decide) ?_);refine wAa (wpAny_callSpecial?_slot (name:=Str.ofString "__getitem__") ht.typeIs PyProof.Rows.slot_tuple_getitem
  (wpAny_call_entry PyProof.Rows.slot_tuple_getitem ht.typeIs entry_tuple_getitem ?_ (args_tuple_getitem _ _)))
 show wpAny _ _ (Builtin.Tuple.tupleItemsOf (.ref t) >>= _) _ _ s;refine wAa (tupleItemsOf_ ht ?_);refine wAa (wpAny_typeOf hTs ?_);rw[if_pos (by decide)];refine wAa (sliceApplied_gen hs pl pu ?_);have hno:¬((((sIx items.size 0 lo:Nat):Int)==0&&(1:Int)==1&&(sIx items.size items.size hi - sIx items.size 0 lo)==items.size)=true):=by
  intro q;rw[Bool.and_eq_true,Bool.and_eq_true]at q;have q1:((sIx items.size 0 lo:Nat):Int)=0:=vLa q.1.1;have q2:sIx items.size items.size hi - sIx items.size 0 lo=items.size:=vLa q.2;exact hw ⟨by omega,by omega⟩
 show wpAny _ _ (if (((sIx items.size 0 lo:Nat):Int)==0&&(1:Int)==1&&(sIx items.size items.size hi - sIx items.size 0 lo)==items.size)=true then _ else _) _ _ s;rw[if_neg hno,pick_gen]
 first
  | exact wAa (m:=Builtin.Tuple.tupleExact _) (vTa (wBa ⟨_,rfl,wBa h⟩) htake)
  | exact wAa (m:=Builtin.Tuple.tupleExact _) (vTa (wAa (wBa (wBa ⟨_,rfl,wBa h⟩))) htake)
  | exact wAa (wAa (m:=Builtin.Tuple.tupleExact _) (vTa (wBa (wBa ⟨_,rfl,wBa h⟩)) htake))
  | exact wAa (wAa (m:=Builtin.Tuple.tupleExact _) (vTa (wBa ⟨_,rfl,wBa h⟩) htake))
end
end HT
namespace L2
open PySem PySem.Spec PyProof.Rows
noncomputable abbrev TO:=St->Hp->(Option Int->Hp->Prop)->Prop
def PO(X:Cx)(e:Option Expr)(t:TO):Prop:=
 ∀(pins:List (Addr×Obj)) (s:Shared) (σ:St) (H:Hp) (Q:Option Int->Hp->Prop),Inv X pins σ H s->t σ H Q->
  wpAny (model X.prog X.w) X.A (evalPart e X.env) (fun u s'=>∃o H',Inv X pins σ H' s'/\IsPart u o/\Q o H') X.xe s
noncomputable def qL:TO:=fun _ H Q=>Q none H
noncomputable def AO(t:TE):TO:=fun σ H Q=>t σ H fun x H1=>∃i,x=.int i/\Q (some i) H1
section
variable {X:Cx} {e:Expr} {te:TE} {lo hi:Option Expr} {tl th:TO} {pos p2:Pos}
theorem qM:PO X none qL:=by
 intro pins s σ H Q I h;rw[evalPart_none];exact wBa ⟨none,H,I,.none,h⟩
theorem qN(h:PE X e te):PO X (some e) (AO te):=by
 intro pins s σ H Q I hw;rw[evalPart_some];refine jg (h pins s σ H _ I hw) fun u s1 xx=>?_;obtain⟨x,H1,I1,r1,q1⟩:=xx;obtain⟨i,rfl,q⟩:=q1;obtain⟨t,rfl⟩:=r1;exact⟨some i,H1,I1,.int i t,q⟩
def xz(X:Cx)(r:V->Option Int->Option Int->Hp->VK->Prop):Prop:=
 ∀(pins:List (Addr×Obj)) (s:Shared) (σ:St) (H:Hp) (x:V) (v vl vu:Value) (lo hi:Option Int) (sl:Addr) (Q:VK),Inv X pins σ H s->jh x v->s.heap.IsSliceOf sl vl vu .none->IsPart vl lo->IsPart vu hi->r x lo hi H Q->
  ∃T id,typeLookup (.type T) "__getitem__" = pure (some (.builtin id))/\s.TypeIs v T/\wpAny (model X.prog X.w) X.A (getItem v (.ref sl)) (EP X pins σ Q) X.xe s
def CL(r:V->Option Int->Option Int->Hp->VK->Prop)(te:TE)(tl th:TO):TE:=fun σ H Q=>te σ H fun x H1=>tl σ H1 fun l H2=>th σ H2 fun u H3=>r x l u H3 Q
theorem uS{r:V->Option Int->Option Int->Hp->VK->Prop}(hr:xz X r)(he:PE X e te)(hl:PO X lo tl)(hu:PO X hi th):PE X (.Subscript e (.Slice lo hi none p2) pos) (CL r te tl th):=by
 intro pins s σ H Q I h;refine Subscript_ (jg (he pins s σ H _ I h) fun v s1 xx=>?_);obtain⟨x,H1,I1,r1,q1⟩:=xx;refine wpAny_Slice (jg (hl pins s1 σ H1 _ I1 q1) fun vl s2 ⟨l,H2,I2,pl,q2⟩=>jg (hu pins s2 σ H2 _ I2 q2) fun vu s3 xx=>?_);obtain⟨u,H3,I3,pu,q3⟩:=xx;rw[evalPart_none];refine wBa ?_;have I4:Inv X pins σ H3 { s3 with heap:=s3.heap.push { cls:=.type "slice",data:=.fields #[vl,vu,.none] } }:=I3.kept (t':=s3.toks) fun b ob q=>wIa _ q;obtain⟨T,id,hT,ht,hg⟩:=hr pins { s3 with heap:=s3.heap.push { cls:=.type "slice",data:=.fields #[vl,vu,.none] } } σ H3 x v vl vu l u s3.heap.objs.size Q I4 r1 (Heap.IsSliceOf.new ..) pl pu q3;show wpAny (model X.prog X.w) X.A (subscriptTail e (.Slice lo hi none p2) v (.ref s3.heap.objs.size)) (EP X pins σ Q) X.xe { s3 with heap:=s3.heap.push { cls:=.type "slice",data:=.fields #[vl,vu,.none] } };exact tail_any (ops:=[.ref s3.heap.objs.size,v]) ht hT hg (by with_unfolding_all rfl)
def Zh(xs:List V)(lo hi:Option Int):List V:=(xs.drop (HT.sIx xs.length 0 lo)).take (HT.sIx xs.length xs.length hi - HT.sIx xs.length 0 lo)
theorem ZW(xs:List V)(lo hi:Option Int):(Zh xs lo hi).length<=xs.length:=by
 unfold Zh;rw[List.length_take,List.length_drop];omega
def cq(K:PySem.W.Frag):V->Option Int->Option Int->Hp->VK->Prop:=fun x lo hi H Q=>∃a xs,x=.ref a/\jX K H a xs/\
 ¬(HT.sIx xs.length 0 lo=0/\HT.sIx xs.length xs.length hi=xs.length)/\∀p,H p=none->Q (.ref p) (upd H p (.tup (Zh xs lo hi)))
theorem xA:xz X (cq X.K):=by
 intro pins s σ H x v vl vu lo hi sl Q I rx hs pl pu h;obtain⟨a,xs,rfl,hx,hw,q⟩:=h;cases rx;obtain⟨its,r,ht,hz⟩:=I.tuple hx;have hlen:its.toArray.size=xs.length:=by rw[List.size_toArray];exact r.length.symm
 refine⟨"tuple",_,PyProof.Rows.slot_tuple_getitem.lookup,ht.typeIs,?_⟩;refine HT.getItem_tuple_cut ht hs pl pu (by rw[hlen];exact hw) ?_ (by rw[hlen];exact hz);rw[hlen];refine⟨.ref s.heap.objs.size,_,I.laid (t':=s.toks) (o:=.tup (Zh xs lo hi)) (fun b ob q=>wIa _ q) (wPa _) ?_,rfl,q _ (I.hok.fresh (wPa _))⟩;exact⟨wSa (ZW xs lo hi) hz,_,(r.drop (HT.sIx xs.length 0 lo)).take (HT.sIx xs.length xs.length hi - HT.sIx xs.length 0 lo),IsTup.new _ _⟩
def Gz(K:PySem.W.Frag):R2:=fun x y H Q=>∃a b xs ys,x=.ref a/\y=.ref b/\jX K H a xs/\jX K H b ys/\xs≠[]/\xs.length+ys.length<=sizeLine/\
 (ys=[]->Q (.ref a) H)/\(ys≠[]->∀p,H p=none->Q (.ref p) (upd H p (.tup (xs++ys))))
theorem jb.nil_iff{xs:List V}{us:List Value}(r:jb xs us):us=[]↔xs=[]:=by
 cases r with
 | nil=>simp
 | cons _ _=>simp
theorem qO:jt X (binaryOp .Add) (Gz X.K):=by
 intro pins s σ H x y v u Q I rx ry h;obtain⟨a,b,xs,ys,rfl,rfl,ha,hb,hx,hz,q1,q2⟩:=h;cases rx;cases ry;obtain⟨its,r1,p1,_⟩:=I.tuple ha;obtain⟨its2,r2,p2,_⟩:=I.tuple hb;refine HT.cat_tup p1 p2 (fun z=>hx (r1.nil_iff.mp z)) (fun z=>⟨.ref a,H,I,rfl,q1 (r2.nil_iff.mp z)⟩) (fun z=>?_) (by rw[<-r1.length,<-r2.length];exact hz);refine⟨.ref s.heap.objs.size,_,I.laid (t':=s.toks) (o:=.tup (xs++ys)) (fun b ob q=>wIa _ q) (wPa _) ?_,rfl,q2 (fun w=>z (r2.nil_iff.mpr w)) _ (I.hok.fresh (wPa _))⟩;exact⟨by rw[List.length_append];exact hz,_,r1.append r2,IsTup.new _ _⟩
end
noncomputable def Z2(n:Nat)(i:Int):Option Nat:=if 0<=i then(if i < n then some i.toNat else none)else if -(n:Int)<=i then some (i+n).toNat else none
def atI{α:Type}(xs:List α)(i:Int):Option α:=(Z2 xs.length i).bind fun j=>xs[j]?
theorem gE{n:Nat}{i:Int}{j:Nat}(h:Z2 n i=some j):seqIndex? i n=some j/\j < n/\-(n:Int)<=i/\i < n:=by
 unfold Z2 at h;by_cases h0:0<=i
 ·rw[if_pos h0]at h;by_cases h1:i < n
  ·rw[if_pos h1]at h;have e:i.toNat=j:=vFa h;exact⟨by rw[seqIndex_of h0 h1,e],by omega,by omega,h1⟩
  ·rw[if_neg h1]at h;cases h
 ·rw[if_neg h0]at h;by_cases h1:-(n:Int)<=i
  ·rw[if_pos h1]at h;have e:(i+n).toNat=j:=vFa h;exact⟨by rw[seqIndex_neg (by omega) h1,e],by omega,h1,by omega⟩
  ·rw[if_neg h1]at h;cases h
theorem Vy{α:Type}{xs:List α}{i:Int}{v:α}(h:atI xs i=some v):∃j,seqIndex? i xs.length=some j/\xs[j]?=some v/\j < xs.length/\-(xs.length:Int)<=i/\i < xs.length:=by
 unfold atI at h;cases e:Z2 xs.length i with
 | none=>rw[e]at h;cases h
 | some j=>
  rw[e]at h;obtain⟨h1,h2,h3,h4⟩:=gE e;exact⟨j,h1,h,h2,h3,h4⟩
def Vz(b:Expr):Prop:=∀o i,subscripted b false o i=operate [o,i] (getItem o i)
def ZX(X:Cx)(r:R2):Prop:=
 ∀(value slice:Expr) (pins:List (Addr×Obj)) (s:Shared) (σ:St) (H:Hp) (x y:V) (v u:Value) (Q:VK),Inv X pins σ H s->jh x v->jh y u->r x y H Q->
  subscripted slice false v u=operate [v,u] (getItem v u)->wpAny (model X.prog X.w) X.A (subscriptTail value slice v u) (EP X pins σ Q) X.xe s
def Bh(X:Cx)(id:String)(r:V->List V->Hp->VK->Prop):Prop:=
 ∀(pins:List (Addr×Obj)) (s:Shared) (σ:St) (H:Hp) (x:V) (xs:List V) (v:Value) (us:List Value) (Q:VK),Inv X pins σ H s->jh x v->jb xs us->r x xs H Q->
  wpAny (model X.prog X.w) X.A (call (.builtin id) (v::us)) (EP X pins σ Q) X.xe s
section
variable {X:Cx} {a b:Expr} {ta tb:TE} {pos:Pos}
theorem ZX.or{r r':R2}(h:ZX X r)(h':ZX X r'):ZX X (fun x y H Q=>r x y H Q∨r' x y H Q):=by
 intro value slice pins s σ H x y v u Q I rx ry q hs;rcases q with q | q
 ·exact h value slice pins s σ H x y v u Q I rx ry q hs
 ·exact h' value slice pins s σ H x y v u Q I rx ry q hs
theorem Wv{r:R2}(hr:ZX X r)(ha:PE X a ta)(hb:PE X b tb)(hs:Vz b):PE X (.Subscript a b pos) (gB r ta tb):=by
 intro pins s σ H Q I h;exact Subscript_ (KI ha hb I h fun v u s2 x y H2 I2 rx ry q=>hr a b pins s2 σ H2 x y v u Q I2 rx ry q (hs _ _))
def KT(K:PySem.W.Frag):R2:=fun x y H Q=>∃p xs i v,x=.ref p/\y=.int i/\jj K H p xs/\atI xs i=some v/\Q v H
def xB(K:PySem.W.Frag):R2:=fun x y H Q=>∃p xs i v,x=.ref p/\y=.int i/\jX K H p xs/\atI xs i=some v/\Q v H
def KU:R2:=fun x y H Q=>∃z i c,x=.str z/\y=.int i/\z.length<=sizeLine/\atI z.cps.toList i=some c/\Q (.str ⟨#[c]⟩) H
theorem gF:ZX X (KT X.K):=by
 intro value slice pins s σ H x y v u Q I rx ry h hs;obtain⟨p,xs,i,z,rfl,rfl,hq,he,q⟩:=h;cases rx;obtain⟨t,rfl⟩:=ry;obtain⟨its,r,pl,hz⟩:=I.list hq;obtain⟨j,h1,h2,h3,h4,h5⟩:=Vy he;obtain⟨w,ew,rw'⟩:=r.get h2;have hl:=r.length;have hn:=yU;have fin:EP X pins σ Q w s:=⟨z,H,I,rw',q⟩
 by_cases h0:0<=i
 ·have hj:i.toNat=j:=by
   rw[seqIndex_of h0 h5]at h1;exact vFa h1
  exact item_listR pl.isList h0 (by omega) (by rw[hj];simpa using ew) fin hs
 ·have hj:(i+(its.toArray.size:Int)).toNat=j:=by
   rw[seqIndex_neg (by omega) h4]at h1;rw[List.size_toArray,<-hl];exact vFa h1
  exact subscriptTail_builtinR (x:=w) pl.isList.typeIs slot_list_getitem.lookup
   (wpAny_getItem_list_neg (Q:=fun r s'=>r=w/\EP X pins σ Q r s') pl.isList (by omega) (by rw[List.size_toArray] <;> omega) (by omega) (by rw[hj];simpa using ew) ⟨rfl,fin⟩) hs
theorem xC:ZX X (xB X.K):=by
 intro value slice pins s σ H x y v u Q I rx ry h hs;obtain⟨p,xs,i,z,rfl,rfl,hq,he,q⟩:=h;cases rx;obtain⟨t,rfl⟩:=ry;obtain⟨its,r,pl,hz⟩:=I.tuple hq;obtain⟨j,h1,h2,h3,h4,h5⟩:=Vy he;obtain⟨w,ew,rw'⟩:=r.get h2;have hl:=r.length;have hn:=yU;have fin:EP X pins σ Q w s:=⟨z,H,I,rw',q⟩
 exact subscriptTail_builtinR (x:=w) pl.typeIs slot_tuple_getitem.lookup
  (getItem_tuple (j:=j) (Q:=fun r s'=>r=w/\EP X pins σ Q r s') pl (by omega) (by omega) (by rw[List.size_toArray,<-hl];exact h1) (by simpa using ew) ⟨rfl,fin⟩) hs
theorem kI:ZX X KU:=by
 intro value slice pins s σ H x y v u Q I rx ry h hs;obtain⟨z,i,c,rfl,rfl,hz,he,q⟩:=h;obtain⟨t,rfl⟩:=rx;obtain⟨t',rfl⟩:=ry;obtain⟨j,h1,h2,h3,h4,h5⟩:=Vy he;have hl:z.cps.toList.length=z.length:=by simp[Str.length]
 rw[hl]at h1 h4 h5;have hn:=yU;exact tail_any (typeIs_str s z t) slot_str_getitem.lookup (getItem_str (c:=c) (by
  have e1:decide (i < -(2 ^ 63:Int))=false:=vBa (by omega);have e2:decide (i>=2 ^ 63)=false:=vBa (by omega);rw[e1,e2,Bool.or_false]) (by rw[h1];simpa using h2) ⟨.str ⟨#[c]⟩,H,I.tok _,⟨_,rfl⟩,q⟩) hs
def Bi(K:PySem.W.Frag):R2:=fun x y H Q=>KT K x y H Q∨xB K x y H Q∨KU x y H Q
theorem xD:ZX X (Bi X.K):=gF.or (xC.or kI)
theorem GA(its:List Value)(n j:Nat)(u:Value):Obj.mapSeq (·.setIfInBounds j u) { cls:=.type "list",data:=.seq its.toArray n }={ cls:=.type "list",data:=.seq (its.set j u).toArray n }:=by
 simp[Obj.mapSeq]
theorem Inv.lst{pins:List (Addr×Obj)}{σ:St}{H:Hp}{s:Shared}{p:Addr}{xs:List V}(I:Inv X pins σ H s)(h:H p=some (.lst xs)):
  ∃(its:List Value) (n:Nat),jb xs its/\s.heap.get? p=some { cls:=.type "list",data:=.seq its.toArray n }/\xs.length<=sizeLine:=by
 obtain⟨z,its,n,r,e⟩:=I.hok p _ h;exact⟨its,n,r,e,z⟩
theorem Inv.lstUpd{pins:List (Addr×Obj)}{σ:St}{H:Hp}{s:Shared}{p:Addr}{xs ys:List V}{its its':List Value}{n n':Nat}{f:Obj->Obj}(I:Inv X pins σ H s)(h:H p=some (.lst xs))
  (ho:s.heap.get? p=some { cls:=.type "list",data:=.seq its.toArray n }) (hf:f { cls:=.type "list",data:=.seq its.toArray n }={ cls:=.type "list",data:=.seq its'.toArray n' }) (r:jb ys its') (hz:ys.length<=sizeLine) (t:Nat):
  Inv X pins σ (upd H p (.lst ys)) { s with heap:=s.heap.update p f,toks:=t }:=by
 have e:(s.heap.update p f).get? p=some { cls:=.type "list",data:=.seq its'.toArray n' }:=by
  rw[Heap.get?_update_self f ho (by rw[hf] <;> rfl),hf]
 refine I.write (x:=p) (e:=p) (by rw[h];trivial) (.inl rfl) (fun b u hb q=>(Heap.get?_update_other _ _ (Ne.symm hb)).trans q) ⟨_,e⟩ ?_;exact⟨hz,its',n',r,e⟩
def Ww:V->V->V->Hp->(Hp->Prop)->Prop:=fun o i v H Q=>∃p xs k j,o=.ref p/\i=.int k/\H p=some (.lst xs)/\Z2 xs.length k=some j/\Q (upd H p (.lst (xs.set j v)))
theorem KW:QV X Ww:=by
 intro pins s σ H o i v ov iv u Q I ro ri rv h;obtain⟨p,xs,k,j,rfl,rfl,hp,hj,q⟩:=h;cases ro;obtain⟨t,rfl⟩:=ri;obtain⟨its,n,r,ho,hz⟩:=I.lst hp;obtain⟨h1,h2,h3,h4⟩:=gE hj;have hl:=r.length;have hn:=yU;have I':Inv X pins σ (upd H p (.lst (xs.set j v))) { s with heap:=s.heap.update p (Obj.mapSeq (·.setIfInBounds j u)) }:=
  I.lstUpd hp ho (GA its n j u) (r.set rv j) (by rw[List.length_set];exact hz) s.toks
 by_cases h0:0<=k
 ·have hk:k.toNat=j:=by
   rw[seqIndex_of h0 h4]at h1;exact vFa h1
  exact PySem.W.ki_setAt ho h0 (by omega) (by rw[List.size_toArray,<-hl];exact h4) (by rw[hk];exact⟨_,I',q⟩)
 ·have hk:(k+(its.toArray.size:Int)).toNat=j:=by
   rw[seqIndex_neg (by omega) h3]at h1;rw[List.size_toArray,<-hl];exact vFa h1
  exact PySem.W.ki_setBack ho (by omega) (by rw[List.size_toArray,<-hl];exact h3) (by omega) (by rw[hk];exact⟨_,I',q⟩)
theorem uT(lo hi:Option Int)(n:Nat):(sliceBounds lo hi none n).1=((HT.sIx n 0 lo:Nat):Int)/\(sliceBounds lo hi none n).2.1=((HT.sIx n n hi:Nat):Int)/\(sliceBounds lo hi none n).2.2=1:=by
 refine⟨?_,?_,rfl⟩
 ·cases lo with
  | none=>simp[sliceBounds,HT.sIx]
  | some i=>
   simp only[sliceBounds,HT.sIx,Option.getD_none,show(1:Int) > 0 by decide,if_true];by_cases h:i < 0
   ·simp only[h,if_true] <;> omega
   ·simp only[h,if_false] <;> omega
 ·cases hi with
  | none=>simp[sliceBounds,HT.sIx]
  | some i=>
   simp only[sliceBounds,HT.sIx,Option.getD_none,show(1:Int) > 0 by decide,if_true];by_cases h:i < 0
   ·simp only[h,if_true] <;> omega
   ·simp only[h,if_false] <;> omega
theorem uk(its:List Value)(lo hi:Option Int):slicePick its.toArray lo hi none=((its.drop (HT.sIx its.length 0 lo)).take (HT.sIx its.length its.length hi - HT.sIx its.length 0 lo)).toArray:=by
 obtain⟨h1,h2,h3⟩:=uT lo hi its.toArray.size;unfold slicePick;rw[h1,h2,h3];simp only[sliceRange_one,pick_run,List.size_toArray] <;> rfl
def cr(K:PySem.W.Frag):V->Option Int->Option Int->Hp->VK->Prop:=fun x lo hi H Q=>∃a xs,x=.ref a/\jj K H a xs/\∀p,H p=none->Q (.ref p) (upd H p (.lst (Zh xs lo hi)))
theorem qP:xz X (cr X.K):=by
 intro pins s σ H x v vl vu lo hi sl Q I rx hs pl pu h;obtain⟨a,xs,rfl,hx,q⟩:=h;cases rx;obtain⟨its,r,ht,hz⟩:=I.list hx;have hlen:=r.length;refine⟨"list",_,slot_list_getitem.lookup,ht.isList.typeIs,?_⟩;refine wpAny_getItem_list_slice ht.isList hs pl pu .none (by simp) ?_ (by rw[List.size_toArray] <;> omega);rw[uk,<-hlen];refine⟨.ref s.heap.objs.size,_,I.laid (t':=s.toks) (o:=.lst (Zh xs lo hi)) (fun b ob q=>wIa _ q) (wPa _) ?_,rfl,q _ (I.hok.fresh (wPa _))⟩;exact⟨wSa (ZW xs lo hi) hz,_,0,(r.drop (HT.sIx xs.length 0 lo)).take (HT.sIx xs.length xs.length hi - HT.sIx xs.length 0 lo),wJa _ rfl⟩
noncomputable def yI:V->Bool
 | .non=>true
 | .bl _=>true
 | .int _=>true
 | .str _=>true
 | _=>false
noncomputable def V_:V->V->Bool
 | .non,.non=>true
 | .bl a,.bl b=>a==b
 | .bl a,.int b=>(if a then 1 else 0)==b
 | .int a,.bl b=>a==(if b then 1 else 0)
 | .int a,.int b=>a==b
 | .str a,.str b=>a==b
 | _,_=>false
theorem xE{A:Around}{s:Shared}{y x:V}{u v:Value}(ry:jh y u)(rx:jh x v)(fy:yI y=true)(fx:yI x=true):SeqAt.EqAt A s u v (V_ y x):=by
 cases y with
 | non=>
  cases ry;cases x with
  | non=>cases rx;exact SeqAt.EqAt.same _
  | bl b=>cases rx;exact SeqAt.EqAt.none_bool b
  | int b=>obtain⟨t,rfl⟩:=rx;exact SeqAt.EqAt.none_int b t
  | str b=>obtain⟨t,rfl⟩:=rx;exact SeqAt.EqAt.none_str b t
  | _=>exact vDa (show false=true from fx) vNa
 | bl a=>
  cases ry;cases x with
  | non=>cases rx;exact SeqAt.EqAt.bool_none a
  | bl b=>cases rx;exact SeqAt.EqAt.bool_bool a b
  | int b=>obtain⟨t,rfl⟩:=rx;exact SeqAt.EqAt.bool_int a b t
  | str b=>obtain⟨t,rfl⟩:=rx;exact SeqAt.EqAt.bool_str a b t
  | _=>exact vDa (show false=true from fx) vNa
 | int a=>
  obtain⟨t',rfl⟩:=ry;cases x with
  | non=>cases rx;exact SeqAt.EqAt.int_none a t'
  | bl b=>cases rx;exact SeqAt.EqAt.int_bool a t' b
  | int b=>obtain⟨t,rfl⟩:=rx;exact SeqAt.EqAt.int_int a t' b t
  | str b=>obtain⟨t,rfl⟩:=rx;exact SeqAt.EqAt.int_str a t' b t
  | _=>exact vDa (show false=true from fx) vNa
 | str a=>
  obtain⟨t',rfl⟩:=ry;cases x with
  | non=>cases rx;exact SeqAt.EqAt.str_none a t'
  | bl b=>cases rx;exact SeqAt.EqAt.str_bool a t' b
  | int b=>obtain⟨t,rfl⟩:=rx;exact SeqAt.EqAt.str_int a t' b t
  | str b=>obtain⟨t,rfl⟩:=rx;exact SeqAt.EqAt.str_str a t' b t
  | _=>exact vDa (show false=true from fx) vNa
 | _=>exact vDa (show false=true from fy) vNa
def Yv(x:V)(u:Value):Bool:=match u with
 | .none=>V_ .non x
 | .bool b=>V_ (.bl b) x
 | .int i _=>V_ (.int i) x
 | .str z _=>V_ (.str z) x
 | _=>false
theorem kJ{x y:V}{u:Value}(r:jh y u)(f:yI y=true):Yv x u=V_ y x:=by
 cases y with
 | non=>cases r;rfl
 | bl b=>cases r;rfl
 | int i=>obtain⟨t,rfl⟩:=r;rfl
 | str z=>obtain⟨t,rfl⟩:=r;rfl
 | _=>exact vDa (show false=true from f) vNa
theorem zz{x:V}:∀{xs:List V} {us:List Value},jb xs us->xs.all yI=true->us.any (Yv x)=xs.any fun y=>V_ y x
 | _,_,.nil,_=>rfl
 | y::xs,u::us,.cons r t,f=>by
  rw[List.all_cons,Bool.and_eq_true]at f;rw[List.any_cons,List.any_cons,kJ r f.1,zz t f.2]
theorem Yw{A:Around}{s:Shared}{x:V}{v:Value}(rx:jh x v)(fx:yI x=true):∀{xs:List V} {us:List Value},jb xs us->xs.all yI=true->∀u∈us,SeqAt.EqAt A s u v (Yv x u)
 | _,_,.nil,_=>fun u hu=>by cases hu
 | y::xs,u::us,.cons r t,f=>fun u' hu=>by
  rw[List.all_cons,Bool.and_eq_true]at f;rcases List.mem_cons.mp hu with rfl | hu
  ·rw[kJ r f.1];exact xE r rx f.1 fx
  ·exact Yw rx fx t f.2 u' hu
def kK(x:V)(xs:List V):Bool:=xs.any fun y=>V_ y x
def xF(K:PySem.W.Frag)(neg:Bool):R2:=fun x y H Q=>∃p xs,y=.ref p/\(jj K H p xs∨jX K H p xs)/\yI x=true/\xs.all yI=true/\Q (.bl (if neg then !kK x xs else kK x xs)) H
theorem kL:jt X (compareOp .In) (xF X.K false):=by
 intro pins s σ H x y v u Q I rx ry h;obtain⟨p,xs,rfl,hq,fx,fs,q⟩:=h;cases ry;rcases hq with hq | hq
 ·obtain⟨its,r,pl,hz⟩:=I.list hq;refine SeqAt.in_listAt (Yv x) pl.isList (fun w hw=>Yw rx fx r fs w (by simpa using hw)) ⟨.bl _,H,I,rfl,?_⟩;rw[show its.toArray.any (Yv x)=its.any (Yv x) by simp,zz r fs];exact q
 ·obtain⟨its,r,pl,hz⟩:=I.tuple hq;refine SeqAt.in_tupleAt (Yv x) pl (fun w hw=>Yw rx fx r fs w (by simpa using hw)) ⟨.bl _,H,I,rfl,?_⟩;rw[show its.toArray.any (Yv x)=its.any (Yv x) by simp,zz r fs];exact q
theorem uU:jt X (compareOp .NotIn) (xF X.K true):=by
 intro pins s σ H x y v u Q I rx ry h;obtain⟨p,xs,rfl,hq,fx,fs,q⟩:=h;cases ry;rcases hq with hq | hq
 ·obtain⟨its,r,pl,hz⟩:=I.list hq;refine SeqAt.notIn_listAt (Yv x) pl.isList (fun w hw=>Yw rx fx r fs w (by simpa using hw)) ⟨.bl _,H,I,rfl,?_⟩;rw[show its.toArray.any (Yv x)=its.any (Yv x) by simp,zz r fs];exact q
 ·obtain⟨its,r,pl,hz⟩:=I.tuple hq;refine SeqAt.notIn_tupleAt (Yv x) pl (fun w hw=>Yw rx fx r fs w (by simpa using hw)) ⟨.bl _,H,I,rfl,?_⟩;rw[show its.toArray.any (Yv x)=its.any (Yv x) by simp,zz r fs];exact q
theorem uV:ya X (.builtin "len") (fun xs H Q=>∃p ys,xs=[.ref p]/\(jj X.K H p ys∨jX X.K H p ys)/\Q (.int ys.length) H):=by
 intro pins s σ H xs us Q I r h;obtain⟨p,ys,rfl,hq,q⟩:=h;obtain⟨u,rfl,rx⟩:=zI r;cases rx;have hn:=yU;rcases hq with hq | hq
 ·obtain⟨its,r',pl,hz⟩:=I.list hq;have hlen:=r'.length;exact Calls.call_len_list pl.isList (by simp only[List.size_toArray] <;> omega) ⟨.int ys.length,H,I.tok _,⟨s.toks+1,by rw[List.size_toArray,hlen]⟩,q⟩
 ·obtain⟨its,r',pl,hz⟩:=I.tuple hq;have hlen:=r'.length;exact len_tuple pl (by simp only[List.size_toArray] <;> omega) ⟨.int ys.length,H,I.tok _,⟨s.toks+1,by rw[List.size_toArray,hlen]⟩,q⟩
theorem uW:ya X (.builtin "len") (fun xs H Q=>∃z,xs=[.str z]/\z.length<=sizeLine/\Q (.int z.length) H):=by
 intro pins s σ H xs us Q I r h;obtain⟨z,rfl,hz,q⟩:=h;obtain⟨u,rfl,t,rfl⟩:=zI r;have hn:=yU;exact len_str (by omega) ⟨.int z.length,H,I.tok _,⟨_,rfl⟩,q⟩
theorem uX:ya X (.type "list") (fun xs H Q=>∃p ys,xs=[.ref p]/\(jj X.K H p ys∨jX X.K H p ys)/\∀l,H l=none->Q (.ref l) (upd H l (.lst ys))):=by
 intro pins s σ H xs us Q I r h;obtain⟨p,ys,rfl,hq,q⟩:=h;obtain⟨u,rfl,rx⟩:=zI r;cases rx;have fin:∀(its:List Value),jb ys its->ys.length<=sizeLine->∀(h':Heap) (c':Nat),(∀b o',s.heap.get? b=some o'->h'.get? b=some o')->
   h'.get? s.heap.objs.size=some { cls:=.type "list",dict:=none,data:=.seq its.toArray c',slots:=#[] }->EP X pins σ Q (.ref s.heap.objs.size) { s with heap:=h' }:=fun its r' hz h' c' kp e=>
  ⟨.ref s.heap.objs.size,_,I.laid (t':=s.toks) kp (wPa _) (show J9 X.prog X.w _ h' _ (.lst ys) from⟨hz,its,c',r',e⟩),rfl,q _ (I.hok.fresh (wPa _))⟩
 rcases hq with hq | hq
 ·obtain⟨its,r',pl,hz⟩:=I.list hq;have hlen:=r'.length;obtain⟨o,ho,hc,n,hd⟩:=pl.isList;exact call_list_seq p (.inl rfl) ho hc hd (fun h' c' kp e=>fin its r' hz h' c' kp e) (by simp only[List.size_toArray] <;> omega)
 ·obtain⟨its,r',pl,hz⟩:=I.tuple hq;have hlen:=r'.length;obtain⟨o,ho,hc,n,hd⟩:=pl;exact call_list_seq p (.inr rfl) ho hc hd (fun h' c' kp e=>fin its r' hz h' c' kp e) (by simp only[List.size_toArray] <;> omega)
theorem ul:ya X (.type "tuple") (fun xs H Q=>∃p ys,xs=[.ref p]/\((jj X.K H p ys/\∀l,H l=none->Q (.ref l) (upd H l (.tup ys)))∨(jX X.K H p ys/\Q (.ref p) H))):=by
 intro pins s σ H xs us Q I r h;obtain⟨p,ys,rfl,h⟩:=h;obtain⟨u,rfl,rx⟩:=zI r;cases rx;rcases h with⟨hq,q⟩ | ⟨hq,q⟩
 ·obtain⟨its,r',pl,hz⟩:=I.list hq;have hlen:=r'.length;refine call_tuple_list pl.isList (fun h' kp=>?_) (by simp only[List.size_toArray] <;> omega);have I1:Inv X pins σ H { s with heap:=h' }:=I.kept (t':=s.toks) kp;have I2:Inv X pins σ (upd H h'.objs.size (.tup ys)) { s with heap:=h'.push { cls:=.type "tuple",data:=.seq its.toArray } }:=
   I1.laid (t':=s.toks) (fun b o e=>wIa _ e) (wPa _) (show J9 X.prog X.w _ _ _ (.tup ys) from⟨hz,its,r',IsTup.new _ _⟩)
  exact⟨.ref h'.objs.size,_,I2,rfl,q _ (I1.hok.fresh (wPa _))⟩
 ·obtain⟨its,r',pl,hz⟩:=I.tuple hq;exact call_tuple_same pl ⟨.ref p,H,I,rfl,q⟩
def Bj(K:PySem.W.Frag)(T:String)(x:V)(H:Hp):Prop:=match x with
 | .str _=>T = "str"
 | .int _=>T = "int"
 | .ref p=>(T = "list" /\∃xs,jj K H p xs)∨(T = "tuple" /\∃o,K.lookup p=some o/\o.cls=.type "tuple" /\o.dict=none)∨
   (T = "dict" /\((∃kvs,H p=some (.dK kvs))∨∃kvs,H p=some (.dT kvs)))∨(T = "set" /\∃S n,H p=some (.set S n))
 | _=>False
theorem xG{pins:List (Addr×Obj)}{σ:St}{H:Hp}{s:Shared}{T:String}{x:V}{v:Value}(I:Inv X pins σ H s)(r:jh x v)(ty:Bj X.K T x H):
  s.TypeIs v T/\∀a,v=.ref a->∃ob,s.heap.get? a=some ob/\ob.dict=none:=by
 cases x with
 | str z=>
  obtain⟨t,rfl⟩:=r;cases (show T = "str" from ty);exact⟨typeIs_str s z t,fun _ e=>nomatch e⟩
 | int i=>
  obtain⟨t,rfl⟩:=r;cases (show T = "int" from ty);exact⟨typeIs_int s i t,fun _ e=>nomatch e⟩
 | ref p=>
  cases r;rcases ty with⟨rfl,xs,hq⟩ | ⟨rfl,o,hk,hc,hd⟩ | ⟨rfl,hk⟩ | ⟨rfl,S,n,hk⟩
  ·obtain⟨its,_,pl,_⟩:=I.list hq;refine⟨pl.isList.typeIs,fun a e=>?_⟩;cases e;obtain⟨o,n,e,c,hd,_⟩:=pl;exact⟨o,e,hd⟩
  ·refine⟨⟨o,I.kIn p o hk,hc⟩,fun a e=>?_⟩;cases e;exact⟨o,I.kIn _ o hk,hd⟩
  ·have z:∃o,s.heap.get? p=some o/\o.ExactDict:=by
    rcases hk with⟨kvs,hk⟩ | ⟨kvs,hk⟩
    ·obtain⟨_,_,_,_,o,_,_,e,ex,_⟩:=I.hok p _ hk;exact⟨o,e,ex⟩
    ·obtain⟨_,_,_,_,o,_,_,e,ex,_⟩:=I.hok p _ hk;exact⟨o,e,ex⟩
   obtain⟨o,e,ex⟩:=z;refine⟨⟨o,e,ex.1⟩,fun a e2=>?_⟩;cases e2;exact⟨o,e,ex.2.1⟩
  ·obtain⟨o,_,_,_,e,ex,_⟩:=I.hok p _ hk;refine⟨⟨o,e,ex.1⟩,fun a e2=>?_⟩;cases e2;exact⟨o,e,ex.2.1⟩
 | _=>exact False.elim ty
def Wx(K:PySem.W.Frag)(T:String)(r:V->List V->Hp->VK->Prop)(to:TE)(t:TA):TE:=fun σ H Q=>to σ H fun x H1=>Bj K T x H1/\t σ H1 fun xs H2=>r x xs H2 Q
variable {o e:Expr} {es:List Expr} {to:TE} {t:TA} {name:Str} {apos cpos:Pos} {T id:String} {r:V->List V->Hp->VK->Prop}
theorem vW(pa:PlainAttrs T)(slot:Slot T name id)(hty:typeOf (.builtin id)=pure (.type "method_descriptor"))(hm:Bh X id r)(ho:PE X o to)(ha:PA X (e::es) t)
  (hbase:attributeBase o name X.env (eval o X.env)=eval o X.env:=by rfl)
  (hfew:((backTo cpos (starEach (e::es) X.env)).all (fun x=>!x.1)&&(backToKw cpos (keywordEach [] X.env)).all (fun x=>x.1.isSome)
   && decide ((e::es).length+([]:List Keyword).length+(if ([]:List Keyword).isEmpty then 0 else 1) < 30))=true:=by rfl)
  (hline:(apos.endLine==cpos.line)=true:=by rfl) (hs:starEach (e::es) X.env=(false,eval e X.env)::starEach es X.env:=by rfl) (hplain:(backTo cpos (starEach es X.env)).any (·.1)=false:=by rfl):
  PE X (.Call (.Attribute o name apos) (e::es) [] cpos) (Wx X.K T r to t):=by
 intro pins s σ H Q I h;refine wpAny_Call_method_late hbase hfew hline rfl (jg (ho pins s σ H _ I h) fun v s1 xx=>?_);obtain⟨x,H1,I1,r1,ty,q1⟩:=xx;obtain⟨h1,h2⟩:=xG I1 r1 ty;refine⟨T,id,pa,slot,hty,h1,h2,?_⟩;have hA:=ha cpos pins s1 σ H1 _ I1 q1;rw[hs]at hA⊢;refine Calls.callWith_builtin (by show(false||(backTo cpos (starEach es X.env)).any (·.1))=false;rw[hplain] <;> rfl) (Calls.evalArgs_plain ?_)
 exact jg hA fun us s2 ⟨vs,H2,I2,r2,q2⟩=>hm pins s2 σ H2 x vs v us Q I2 r1 r2 q2
end
def Wy(X:Cx)(id:String)(r:V->List V->Hp->VK->Prop):Prop:=
 ∀(pins:List (Addr×Obj)) (s:Shared) (σ:St) (H:Hp) (x:V) (xs:List V) (v:Value) (us:List Value) (Q:VK),Inv X pins σ H s->jh x v->jb xs us->r x xs H Q->
  wpAny (model X.prog X.w) X.A (call (.builtin id) (v::us)) (EP X pins σ Q) X.xe s
theorem jb.one:∀{x:V} {us:List Value},jb [x] us->∃u,us=[u]/\jh x u
 | _,_,.cons r .nil=>⟨_,rfl,r⟩
section
variable {X:Cx} {pins:List (Addr×Obj)} {σ:St} {H:Hp} {s:Shared} {l b:Addr} {xs ys zs:List V}
theorem Inv.lset{its its':List Value}{n:Nat}{f:Array Value->Array Value}{t':Nat}(I:Inv X pins σ H s)(hH:H l=some (.lst xs))
  (e:s.heap.get? l=some { cls:=.type "list",data:=.seq its.toArray n }) (hf:f its.toArray=its'.toArray) (hv:jb ys its') (hz:ys.length<=sizeLine):
  Inv X pins σ (upd H l (.lst ys)) { s with heap:=s.heap.update l (Obj.mapSeq f),toks:=t' }:=by
 have q:=PySem.IsL.update e f;rw[hf]at q;refine I.write (x:=l) (e:=l) (by rw[hH];exact trivial) (.inl rfl) (fun b' u hb hu=>(Heap.get?_update_other s.heap (Obj.mapSeq f) (Ne.symm hb)).trans hu) ⟨_,q⟩ ?_;exact⟨hz,its',_,hv,q⟩
theorem Inv.lnew{its:List Value}{t':Nat}(I:Inv X pins σ H s)(hv:jb ys its)(hz:ys.length<=sizeLine):
  Inv X pins σ (upd H s.heap.objs.size (.lst ys)) { s with heap:=s.heap.push { cls:=.type "list",data:=.seq its.toArray },toks:=t' }:=
 I.laid (fun _ _ q=>wIa _ q) (wPa _) ⟨hz,its,0,hv,wJa _ rfl⟩
theorem Inv.fresh(I:Inv X pins σ H s):H s.heap.objs.size=none:=I.hok.fresh (wPa _)
theorem Inv.lstM(I:Inv X pins σ H s)(hH:H l=some (.lst xs)):xs.length<=sizeLine/\∃(its:List Value) (n:Nat),jb xs its/\xs.length=its.length/\s.heap.get? l=some { cls:=.type "list",data:=.seq its.toArray n }:=by
 obtain⟨z,its,n,r,e⟩:=I.hok l _ hH;exact⟨z,its,n,r,r.length,e⟩
theorem KY{n:Nat}(h:n<=sizeLine):Builtin.List.listTooLong n=false:=by
 unfold Builtin.List.listTooLong;exact vBa (by omega)
end
section
variable {X:Cx}
def ZH:V->List V->Hp->VK->Prop:=fun x vs H Q=>∃l xs y,x=.ref l/\vs=[y]/\H l=some (.lst xs)/\xs.length < sizeLine/\Q .non (upd H l (.lst (xs++[y])))
theorem kM:Wy X "list.append" ZH:=by
 intro pins s σ H x vs v us Q I rx rv h;obtain⟨l,xs,y,rfl,rfl,hH,hz,q⟩:=h;cases rx;obtain⟨u,rfl,ru⟩:=rv.one;obtain⟨z,its,n,r,hl,e⟩:=I.lstM hH;refine call_meets F.slot_list_append ⟨_,e,rfl⟩ F.entry_list_append (F.args_list_append_2 _ _) (PySem.list_append l its.toArray n u (by rw[List.size_toArray];omega)) ⟨e,?_⟩;refine⟨.non,_,I.lset (its':=its++[u]) hH e (by simp) (r.append (.cons ru .nil)) ?_,rfl,q⟩;rw[List.length_append,List.length_singleton];omega
def xH:R2:=fun x y H Q=>∃l b xs zs,x=.ref l/\y=.ref b/\H l=some (.lst xs)/\H b=some (.lst zs)/\xs.length+zs.length<=sizeLine/\∀p,H p=none->Q (.ref p) (upd H p (.lst (xs++zs)))
theorem xI:jt X (binaryOp .Add) xH:=by
 intro pins s σ H x y v u Q I rx ry h;obtain⟨l,b,xs,zs,rfl,rfl,hH,hB,hz,q⟩:=h;cases rx;cases ry;obtain⟨z,its,n,r,hl,e⟩:=I.lstM hH;obtain⟨z2,its2,n2,r2,hl2,e2⟩:=I.lstM hB;refine PySem.P.add_list e e2 ?_ (by rw[List.size_toArray,List.size_toArray];omega);have ea:its.toArray++its2.toArray=(its++its2).toArray:=by simp
 rw[ea];exact⟨.ref _,_,I.lnew (t':=s.toks) (r.append r2) (by rw[List.length_append];omega),rfl,q _ I.fresh⟩
end
end L2
namespace Att
open PySem PySem.W PySem.Calls PyProof.Rows
theorem ints_of_wellAll{P:Params}{h:Heap}:∀(ns:List Int) (vs:List Value),WellAll P h vs (ns.map WData.int)->IntsAre vs ns:=by
 intro ns;induction ns with
 | nil=>
  intro vs w;rw[List.map_nil]at w;cases w;exact .nil
 | cons n ns ih=>
  intro vs w;rw[List.map_cons]at w;cases w with
  | cons a b=>
   cases a;exact .cons _ _ (ih _ b)
theorem script_of{l:OpenLaw}{n:Nat}(hn:l.most=some n){P:Params}{h:Heap}{args:List WData}{vals:List Value}
  (hpre:l.row.toRowW.claim.pre args=true) (hwl:WellAll P h vals args):
  ∃a vs ns,vals=[Value.ref a]/\args=[WData.list (ns.map WData.int)]/\h.get? a=some { cls:=.type "list",data:=.seq vs.toArray }/\IntsAre vs ns/\ns.length<=n:=by
 have hsh:WShape.hasAll [] args [.list .int]=true:=(pre_splitW hpre).1;have hc:l.pre.holds [] { args:=args }=true:=(pre_splitW hpre).2;obtain⟨d,r,rfl,h1,h2⟩:=hasAllW_cons hsh;obtain rfl:=hasAllW_nil h2;obtain⟨xs,rfl,h3⟩:=hasW_list h1;obtain⟨ns,rfl⟩:=items_int h3;have hlen:ns.length<=n:=by
  unfold OpenLaw.pre at hc;have h4:(WTm.not (.lt (.lit (.int (n:Int))) (.len (.arg 0)))).holds [] { args:=[.list (ns.map .int)] }=true:=by
   have h4:=(holds_andW hc).1;rw[hn]at h4;exact h4
  have h5:=condW_of h4 (w_not (w_lt w_lit (w_len_list (w_arg rfl))));rw[List.length_map]at h5;refine Nat.le_of_not_lt fun q=>?_;have q':(n:Int) < ((ns.length:Nat):Int):=by omega
  first
   | (rw[decide_eq_true q']at h5;exact vDa h5 (by decide))
   | (simp at h5;omega)
 cases hwl with
 | cons w1 w2=>
  cases w2;cases w1 with
  | list ho hall=>exact⟨_,_,ns,rfl,rfl,ho,ints_of_wellAll ns _ hall,hlen⟩
theorem post_true(l:OpenLaw)(args:List WData):l.row.toRowW.claim.post args (.bool true) args=true:=
 postW_of (r:=l.row.toRowW) (X:=(true==true))
  (show WShape.has [] (.bool true) .bool=true by first | rfl | decide | simp[WShape.has,WShape.arms,WShape.armsAll])
  (show(WTm.eq .res (.lit (.bool true))).value [] { args:=args,res:=some (.bool true),after:=args }=some (.bool (true==true)) from w_eq_bool (w_res rfl) w_lit) rfl
theorem attach_call{l:OpenLaw}{n:Nat}{q:Program}{loose:List Str}{XP:(Str->Option Value)->Heap->Prop}{YP:World->Heap->Prop}{d:DefRec}
  (hn:l.most=some n) (hdf:d.params.defaults=[])
  (call:∀(w:World) (s₀ s₁:Shared) (mg mb:Str->Option Value) (fa:Addr) (o:Obj) (pm cd doc:Value) (a:Addr) (vs:List Value) (ns:List Int),
   Ground q loose [] XP w s₀ mg mb s₁.heap->YP w s₁.heap->
   s₁.heap.get? fa=some o->o.data=.func (docDef d.name d.params d.body d.scope pm cd doc)->s₁.heap.CodeRec cd d.name->mg d.name=some (.ref fa)->
   s₁.heap.get? a=some { cls:=.type "list",data:=.seq vs.toArray }->IntsAre vs ns->ns.length<=n->s₁.gens=#[]->
   codeAny (model l.prog w) callerA (.call (.ref fa) ⟨[.ref a],[]⟩) (fun r s'=>r=.ok (.ret (.bool true))/\OldK s₁.heap s'.heap/\s'.os=s₁.os/\AllBare s'.gens) s₁):
  WalkO q loose XP YP l.row.toRowW d [] (fun f vs=>PySem.call f vs):=by
 intro w s₀ s₁ mg mb G Y fa o pm cd doc dV kV ho hd hcd hD hmg hg args vals as hpre hlay hrd hwl hlo;obtain rfl:dV=.none:=Dflts.none hD hdf;obtain rfl:kV=.none:=Dflts.noKw hD;obtain⟨a,vs,ns,rfl,rfl,hobj,hints,hlen⟩:=script_of hn hpre hwl;refine enter_call (codeAny_mono (call w s₀ s₁ mg mb fa o pm cd doc a vs ns G Y ho (fd_plain hd) hcd hmg hobj hints hlen hg) fun r s' hq=>?_);obtain⟨rfl,h2,h3,h4⟩:=hq;exact⟨.inl ⟨.bool true,.bool true,[],rfl,fun _=>rfl,.bool true,post_true l _,fun _=>⟨List.Pairwise.nil,fun _ hm=>(nomatch hm)⟩⟩,h2,h3,h4⟩
end Att
namespace L2
open PySem PySem.Spec PyProof.Rows
theorem u4:∀{vs:List Value} {ns:List Int},IntsAre vs ns->jb (ns.map V.int) vs
 | _,_,.nil=>.nil
 | _,_,.cons n t h=>.cons ⟨t,rfl⟩ (u4 h)
def KZ(H:Hp):Prop:=∀b,H b=none∨∃o xs,H b=some (.frz o (.lst xs))
theorem K_{P:Program}{w:World}{K:PySem.W.Frag}{mg mb:Str->Option Value}{CX:Zg}{k:Nat}{fa a:Addr}{fd:FuncData}{x:Str}{sp:Sp}{s₁:Shared}{vs:List Value}{ns:List Int}
  (KX:K.In s₁.heap) (hns:s₁.heap.Ns mainGlobals mg) (hb:s₁.heap.Ns builtinsNs mb) (hbb:∀x:Str,x≠ "__name__" ->mb x=bootBuiltins x) (hlim:s₁.heap.NoLimit) (hg:s₁.gens=#[])
  (ha:s₁.heap.get? a=some { cls:=.type "list",data:=.seq vs.toArray }) (hi:IntsAre vs ns) (hl:ns.length<=sizeLine) (hr:Room k callerA)
  (F:∀base:Heap,K.In base->base.Ns mainGlobals mg->FnOk P w K mg base CX k fa fd [x] sp) (hbind:∀(s:Shared) (u:Value),BindsTo s fd ⟨[u],[]⟩ [(x,u)])
  (hsp:∀H:Hp,KZ H->jj K H a (ns.map V.int)->sp [.ref a] H (fun v _=>v=.bl true) fun _ _ _=>False)
  (hCX:∀H e s',CX [] H s₁ (fun _ _ _=>False) e s'->False):
  codeAny (model P w) callerA (.call (.ref fa) ⟨[.ref a],[]⟩) (fun r s'=>r=.ok (.ret (.bool true))/\OldK s₁.heap s'.heap/\s'.os=s₁.os/\AllBare s'.gens) s₁:=by
 have rv:=u4 hi;have lenV:=hi.length;have core:∀H:Hp,KZ H->jj K H a (ns.map V.int)->Jj P w H s₁.heap->(∀b,H b≠none->b=a)->(H a≠none->K.lookup a=none)->
   codeAny (model P w) callerA (.call (.ref fa) ⟨[.ref a],[]⟩) (fun r s'=>r=.ok (.ret (.bool true))/\OldK s₁.heap s'.heap/\s'.os=s₁.os/\AllBare s'.gens) s₁:=by
  intro H hO hS hok hA hK;have base_of:∀{b:Addr} {o:Obj},s₁.heap.get? b=some o->H b=none->(zH s₁.heap H).get? b=some o:=fun e n=>Ky e n;have noA:∀{b:Addr} {o:Obj} {es:Array DictEntry} {ep:Nat},s₁.heap.get? b=some o->o.data=.dict es ep->H b=none:=fun {b o es ep} e d=>by
   cases q:H b with
   | none=>rfl
   | some u=>
    have e':b=a:=hA b (by rw[q];simp);subst e';rw[ha]at e;cases e;have d':Data.seq vs.toArray _=Data.dict es ep:=d;cases d'
  have nsK:∀{b:Addr} {m:Str->Option Value},s₁.heap.Ns b m->(zH s₁.heap H).Ns b m:=fun {b m} ⟨o,es,ep,e,d,r⟩=>⟨o,es,ep,base_of e (noA e d),d,r⟩
  have hKb:K.In (zH s₁.heap H):=fun b o e=>base_of (KX b o e) (by
   cases q:H b with
   | none=>rfl
   | some u=>
    have e':b=a:=hA b (by rw[q];simp);subst e';rw[hK (by rw[q];simp)]at e;cases e)
  have hM:Mod K mg (zH s₁.heap H):=⟨hKb,nsK hns,⟨mb,nsK hb,hbb⟩,let ⟨mc,h1,h2⟩:=hlim;⟨mc,nsK h1,h2⟩⟩
  have e0:Env0 P w K mg (zH s₁.heap H) callerA [] s₁ H:=⟨rfl,hM,fun b o e=>qx e,Nat.le_of_eq (ku _ _),trivial,fun b hb=>vDa (show b∈([]:List Addr) from hb) (by simp),hok,.of_eq hg⟩
  refine codeAny_mono ((F _ hKb (nsK hns)).run callerA [] s₁ H ⟨[.ref a],[]⟩ [.ref a] [.ref a] _ _ hr e0 (hbind s₁ (.ref a)) (.cons rfl .nil) (hsp H hO hS)) fun r s' h=>?_;cases r with
  | error e=>exact(hCX H e s' h).elim
  | ok fl=>
   cases fl with
   | next=>exact False.elim h
   | brk=>exact False.elim h
   | cont=>exact False.elim h
   | ret u=>
    obtain⟨v,H',os,bare,un,hok',r',q⟩:=h;have q':v=.bl true:=q;subst q';obtain rfl:u=Value.bool true:=r';refine⟨rfl,OldK.of_keep fun b o e=>?_,os,bare⟩;cases q:H b with
    | none=>exact un.keep b o e q (by intro z;exact vDa (show b∈([]:List Addr) from z) (by simp)) (by simp)
    | some u=>
     rcases hO b with z | ⟨ob,xs,z⟩
     ·rw[q]at z;cases z
     ·have z2:=un.frzs b ob _ z;obtain⟨e1,_⟩:=hok b _ z;obtain⟨e2,_⟩:=hok' b _ z2;rw[e]at e1;cases e1;exact e2
 cases hk:K.lookup a with
 | some o=>
  have e:=KX a o hk;rw[ha]at e;cases e;refine core (fun _=>none) (fun _=>.inl rfl) (.inr ⟨_,vs.toArray,_,hk,rfl,rfl,rfl,by rw[List.size_toArray,lenV];exact hl,by simpa using rv⟩) (fun b u z=>by have z':(none:Option HO)=some u:=z;cases z') (fun b z=>vDa rfl z) fun z=>vDa rfl z
 | none=>
  refine core (fun b=>if b=a then some (.frz { cls:=.type "list",data:=.seq vs.toArray } (.lst (ns.map V.int)))else none) (fun b=>?_) (.inl (.inr ⟨{ cls:=.type "list",data:=.seq vs.toArray },if_pos rfl⟩)) (fun b u z=>?_) (fun b z=>?_) fun _=>hk
  ·by_cases hb:b=a
   ·exact .inr ⟨_,_,if_pos hb⟩
   ·exact .inl (if_neg hb)
  ·by_cases hb:b=a
   ·have z':=(if_pos hb).symm.trans z;cases z';subst hb;exact⟨ha,by rw[List.length_map];exact hl,vs,_,rv,ha⟩
   ·have z':=(if_neg hb).symm.trans z;cases z'
  ·by_cases hb:b=a
   ·exact hb
   ·exact vDa (if_neg hb) z
noncomputable abbrev dY{K:PySem.W.Frag}{h:Heap}(_:K.In h):PySem.W.Frag:=K
theorem qQ{l:PySem.W.OpenLaw}{n k:Nat}{q:Program}{loose:List Str}{XP:(Str->Option Value)->Heap->Prop}{YP:World->Heap->Prop}{d:DefRec}{K:Params->PySem.W.Frag}{CX:World->Zg}{sp:World->Sp}{x:Str}
  (hn:l.most=some n) (hn2:n<=sizeLine) (hdf:d.params.defaults=[]) (hr:Room k callerA)
  (hY:∀(w:World) (h:Heap),YP w h->(K w.params).In h)
  (F:∀(w:World) (mg:Str->Option Value) (fa:Addr) (h:Heap),(K w.params).In h->h.Ns mainGlobals mg->mg d.name=some (.ref fa)->
   ∃fd:FuncData,(∀(s:Shared) (u:Value),BindsTo s fd ⟨[u],[]⟩ [(x,u)])/\
    ∀base:Heap,(K w.params).In base->base.Ns mainGlobals mg->FnOk l.prog w (K w.params) mg base (CX w) k fa fd [x] (sp w))
  (hsp:∀(w:World) (H:Hp) (a:Addr) (ns:List Int),ns.length<=n->KZ H->jj (K w.params) H a (ns.map V.int)->sp w [.ref a] H (fun v _=>v=.bl true) fun _ _ _=>False)
  (hCX:∀(w:World) (H:Hp) (s:Shared) (e:Value) (s':Shared),CX w [] H s (fun _ _ _=>False) e s'->False):
  PySem.W.WalkO q loose XP YP l.row.toRowW d [] (fun f vs=>PySem.call f vs):=by
 refine Att.attach_call hn hdf fun w s₀ s₁ mg mb fa o pm cd doc a vs ns G Y ho hd hcd hmg hobj hints hlen hg=>?_;have KX:=hY w _ Y;obtain⟨fd,hb,hF⟩:=F w mg fa _ KX G.T.g hmg;exact K_ KX G.T.g G.T.b G.T.builtins G.T.nolimit hg hobj hints (wSa hlen hn2) hr hF hb (fun H hO hS=>hsp w H a ns hlen hO hS) fun H e s'=>hCX w H s₁ e s'
noncomputable def inClass(s:Stmt)(j:Nat):Stmt:=match s with
 | .ClassDef _ _ _ body _ _ _ _ _ _ _=>body.getD j (.Pass ⟨0,0,0,0⟩)
 | _=>.Pass ⟨0,0,0,0⟩
noncomputable def defArgs(s:Stmt):Arguments:=match s with
 | .FunctionDef _ a _ _ _ _ _ _ _ _=>a
 | _=>{ posonlyargs:=[],args:=[],vararg:=none,kwonlyargs:=[],kw_defaults:=[],kwarg:=none,defaults:=[] }
noncomputable def defBody(s:Stmt):List Stmt:=match s with
 | .FunctionDef _ _ b _ _ _ _ _ _ _=>b
 | _=>[]
noncomputable def defScope(s:Stmt):Scope:=match s with
 | .FunctionDef _ _ _ _ _ _ sc _ _ _=>sc
 | _=>{ kind:=.function,names:=[],isGenerator:=false,isCoroutine:=false }
abbrev JB:Zg:=fun _ _ _ _ _ _=>False
abbrev E0:XK:=fun _ _ _=>False
theorem GB{X:Cx}:zy JB X E0:=fun _ _ _ _ _ _ _ h=>h.elim
structure Fun (K:PySem.W.Frag) (x qual:Str) (st:Stmt) (f:Addr) (fd:FuncData):Prop where
 ex:∃(oc:Value) (od:Option Addr) (kV doc pm:Value) (an:Option Addr) (cdv ct:Value) (osl:Array (Option Value)),
  fd=PySem.W.fnOf x qual (defArgs st) (defBody st) (defScope st) .none kV doc pm an cdv ct/\K.lookup f=some ⟨oc,od,.func fd,osl⟩/\PySem.W.codeIn K cdv qual=true
 kp:PySem.W.keepIn K (.ref f)=true
section
variable {P:Program} {w:World} {K:PySem.W.Frag} {mg:Str->Option Value} {base:Heap}
theorem Fun.ok{x qual:Str}{st:Stmt}{f:Addr}{fd:FuncData}{N ps:List Str}{k:Nat}{sp:Sp}(F:Fun K x qual st f fd)(S:FnScope N ps (defScope st))(len:∀vs H Q E,sp vs H Q E->vs.length=ps.length)
  (hbody:∀(cdv:Value) (A:Around) (outer:List Env) (s:Shared) (H:Hp) (vs:List V) (Q:VK) (E:XK),Room k (A.deeper (envOfC qual (defScope st) s.heap.objs.size f cdv))->sp vs H Q E->
   ∃t,jy (Y1 JB P w K mg base N qual (defScope st) f cdv A outer s H E).nox (defBody st) t/\t { nx:=fun _ H'=>Q .non H',rt:=Q } (start N vs) H):FnOk P w K mg base JB (k+1) f fd ps sp:=by
 obtain⟨oc,od,kV,doc,pm,an,cdv,ct,osl,rfl,lk,hcd⟩:=F.ex;refine AN lk hcd S len fun A outer s H vs Q E hr hsp=>?_;obtain⟨t,h,q⟩:=hbody cdv A outer s H vs Q E hr hsp;exact⟨t,h.nox,q⟩
theorem Fun.binds{x qual:Str}{st:Stmt}{f:Addr}{fd:FuncData}{ps:List Str}(F:Fun K x qual st f fd)
  (h:∀(kV doc pm:Value) (an:Option Addr) (cdv ct:Value) (us:List Value),us.length=ps.length->bindArgs (PySem.W.fnOf x qual (defArgs st) (defBody st) (defScope st) .none kV doc pm an cdv ct) ⟨us,[]⟩=pure (ps.zip us)):yc K fd ps []:=by
 obtain⟨oc,od,kV,doc,pm,an,cdv,ct,osl,rfl,lk,hcd⟩:=F.ex;exact .all (h kV doc pm an cdv ct)
theorem Zi{x qual:Str}{st:Stmt}{f:Addr}{oc:Value}{od an:Option Addr}{osl:Array (Option Value)}{kV doc pm cdv ct:Value}(l:K.lookup f=some ⟨oc,od,.func (PySem.W.fnOf x qual (defArgs st) (defBody st) (defScope st) .none kV doc pm an cdv ct),osl⟩)
  (c:PySem.W.codeIn K cdv qual=true) (k:PySem.W.keepIn K (.ref f)=true):Fun K x qual st f (PySem.W.fnOf x qual (defArgs st) (defBody st) (defScope st) .none kV doc pm an cdv ct):=⟨⟨oc,od,kV,doc,pm,an,cdv,ct,osl,rfl,l,c⟩,k⟩
end
theorem kN{n:Nat}(h:n<=1000):n < sizeLine:=Nat.lt_of_le_of_lt h (by decide)
section
variable {X:Cx}
theorem pv(i:Nat){x:Str}{pos:Pos}(hN:X.N[i]?=some x:=by rfl)(hv:gz X.env.scope x:=by first | exact Or.inl rfl | exact Or.inr (Or.inl rfl) | exact Or.inr (Or.inr rfl))(hd:(x==("__debug__" : Str))=false:=by decide)
  (hcd:(x==("__classdict__" : Str))=false:=by decide):PE X (.Name x pos) (yu i):=QJ hN hv hd hcd
end
theorem yv{A B:Prop}(h:B):if false=true then A else B:=by
 rw[if_neg Bool.false_ne_true];exact h
theorem yw{A B:Prop}(h:A):if true=true then A else B:=by
 rw[if_pos rfl];exact h
def j1(H H':Hp):Prop:=∀b o,H b=some o->H' b=some o
theorem j1.refl(H:Hp):j1 H H:=fun _ _ h=>h
theorem j1.trans{H H1 H2:Hp}(a:j1 H H1)(b:j1 H1 H2):j1 H H2:=fun c o h=>b c o (a c o h)
theorem j1.free{H H':Hp}(e:j1 H H'){l:Addr}(h:H' l=Option.none):H l=Option.none:=by
 cases q:H l with
 | none=>rfl
 | some o=>
  rw[e l o q]at h;cases h
theorem j1.seq{K:PySem.W.Frag}{H H':Hp}{a:Addr}{xs:List V}(e:j1 H H')(h:jj K H a xs):jj K H' a xs:=by
 rcases h with(h | ⟨o,h⟩) | h
 ·exact .inl (.inl (e _ _ h))
 ·exact .inl (.inr ⟨o,e _ _ h⟩)
 ·exact .inr h
end L2
set_option maxHeartbeats 4000000
namespace L2
open PySem PySem.Spec PyProof.Rows
noncomputable def JN(env:Env):List (Str×NameKind)->List (Str×Addr)->List (Str×Addr)
 | [],cs=>cs
 | (n,k)::r,cs=>JN env r (if k==.free then(match env.cells.lookup n with | some a=>(n,a)::cs | none=>cs)else cs)
theorem VA{env:Env}:∀{ns:List (Str×NameKind)} {cs:List (Str×Addr)},(∀x c,cs.lookup x=some c->env.cells.lookup x=some c)->∀x c,(JN env ns cs).lookup x=some c->env.cells.lookup x=some c
 | [],_,h,x,c,e=>h x c e
 | (n,k)::r,cs,h,x,c,e=>by
  refine VA (ns:=r) ?_ x c e;intro y d q;by_cases hk:(k==NameKind.free)=true
  ·rw[if_pos hk]at q;cases hl:env.cells.lookup n with
   | none=>rw[hl]at q;exact h y d q
   | some a=>
    rw[hl]at q;have q:((n,a)::cs).lookup y=some d:=q;rw[List.lookup_cons]at q;cases hy:(y==n)with
    | true=>
     rw[hy]at q;have e1:y=n:=by simpa using hy
     have e2:a=d:=by simpa using q
     rw[e1,hl,e2]
    | false=>rw[hy]at q;exact h y d q
  ·rw[if_neg hk]at q;exact h y d q
theorem u5{env:Env}:∀{ns:List (Str×NameKind)} {cs:List (Str×Addr)} {x:Str},(∃c,cs.lookup x=some c)->∃c,(JN env ns cs).lookup x=some c
 | [],_,_,h=>h
 | (n,k)::r,cs,x,h=>by
  refine u5 (ns:=r) ?_;by_cases hk:(k==NameKind.free)=true
  ·rw[if_pos hk];cases hl:env.cells.lookup n with
   | none=>exact h
   | some a=>
    show∃c,((n,a)::cs).lookup x=some c;rw[List.lookup_cons];cases hy:(x==n)with
    | true=>exact⟨a,rfl⟩
    | false=>exact h
  ·rw[if_neg hk];exact h
theorem vo{env:Env}:∀{ns:List (Str×NameKind)} {cs:List (Str×Addr)} {x:Str},(x,NameKind.free)∈ns->(∃c,env.cells.lookup x=some c)->∃c,(JN env ns cs).lookup x=some c
 | (n,k)::r,cs,x,hm,hc=>by
  rcases List.mem_cons.mp hm with e | hm
  ·cases e;obtain⟨c,hc⟩:=hc;refine u5 (ns:=r) ?_;rw[if_pos (by rfl)];rw[hc];exact⟨c,by rw[List.lookup_cons];simp⟩
  ·exact vo (ns:=r) hm hc
theorem gG{scope:Scope}{env:Env}(h:∀y∈scope.names,y.2=.free->∃c,env.cells.lookup y.1=some c):closureFor scope env=pure (JN env scope.names []):=by
 unfold closureFor;have go:∀(ns:List (Str×NameKind)) (cs:List (Str×Addr)),(∀y∈ns,y.2=.free->∃c,env.cells.lookup y.1=some c)->
   (forIn ns cs fun(x:Str×NameKind) (r:List (Str×Addr))=>(match x with
    | (name,kind)=>if (kind==NameKind.free)=true then(do let a<-cellOf env name;pure (ForInStep.yield ((name,a)::r)))else pure (ForInStep.yield r):Sem (ForInStep (List (Str×Addr)))))=pure (JN env ns cs):=by
  intro ns;induction ns with
  | nil=>intro cs _;rfl
  | cons p r ih=>
   obtain⟨n,k⟩:=p;intro cs hh;rw[List.forIn_cons];by_cases hk:(k==NameKind.free)=true
   ·obtain⟨c,hc⟩:=hh (n,k) wNa (by simpa using hk);have hc:env.cells.lookup n=some c:=hc;have e1:cellOf env n=pure c:=by unfold cellOf;rw[hc]
    have e2:JN env ((n,k)::r) cs=JN env r ((n,c)::cs):=by
     show JN env r (if (k==NameKind.free)=true then _ else _)=_;rw[if_pos hk,hc]
    dsimp only;rw[if_pos hk,e1,e2,<-ih ((n,c)::cs) fun y hy=>hh y (List.mem_cons_of_mem _ hy)];rfl
   ·have e2:JN env ((n,k)::r) cs=JN env r cs:=by
     show JN env r (if (k==NameKind.free)=true then _ else _)=_;rw[if_neg hk]
    dsimp only;rw[if_neg hk,e2,<-ih cs fun y hy=>hh y (List.mem_cons_of_mem _ hy)];rfl
 exact(congrArg (fun m=>m >>= fun r=>(pure r:Sem (List (Str×Addr)))) (go scope.names [] h)).trans rfl
def Cx.comp(X:Cx)(N':List Str)(scope:Scope)(s3:Shared)(H3:Hp)(ex':List Addr):Cx:=
 { X with N:=N',s₀:=s3,H₀:=H3,env:=compEnvC scope (JN X.env scope.names []) s3.heap.objs.size X.env,outer:=X.stack,stack:=X.stack,ex:=ex',fn:=fun _=>false,pn:=[],xe:=fun _ _=>False }
inductive Caps (X:Cx) (scope:Scope):List (Str×Nat)->Prop
 | nil:Caps X scope []
 | cons {y:Str} {j:Nat} {r:List (Str×Nat)}:X.N[j]?=some y->(X.env.kindOf y=some .cell∨X.env.kindOf y=some .free)->scope.names.lookup y=some .free->Caps X scope r->Caps X scope ((y,j)::r)
theorem Caps.get{X:Cx}{scope:Scope}:∀{caps:List (Str×Nat)} {k:Nat} {y:Str} {j:Nat},Caps X scope caps->caps[k]?=some (y,j)->
  X.N[j]?=some y/\(X.env.kindOf y=some .cell∨X.env.kindOf y=some .free)/\scope.names.lookup y=some .free
 | _,_,_,_,.nil,e=>by simp at e
 | _,0,_,_,.cons a b c _,e=>by simp at e;obtain⟨rfl,rfl⟩:=e;exact⟨a,b,c⟩
 | _,k+1,_,_,.cons _ _ _ t,e=>Caps.get (k:=k) t (by simpa using e)
noncomputable abbrev cN(own:List Str)(caps:List (Str×Nat)):List Str:=own++caps.map (·.1)
noncomputable abbrev YT(own:List Str)(caps:List (Str×Nat))(σ:St):St:=own.map (fun _=>none)++caps.map fun p=>(σ[p.2]?).join
def Y2(X:Cx)(ifs:List Expr)(t:TT):Prop:=
 ∀(pins:List (Addr×Obj)) (s:Shared) (σ:St) (H:Hp) (Q:Bool->Hp->Prop),Inv X pins σ H s->t σ H Q->
  wpAny (model X.prog X.w) X.A (forIn ifs true fun c r=>if r=true then do let ok<-isTrue c X.env (eval c X.env);pure (ForInStep.yield ok)else pure (ForInStep.yield r)) (TP X pins σ Q) X.xe s
def AQ:TT:=fun _ H Q=>Q true H
theorem qR{X:Cx}:Y2 X [] AQ:=fun _ _ _ H _ I h=>wpAny_tests_nil ⟨H,I,h⟩
theorem qS{X:Cx}{c:Expr}{t:TT}(h:PT X c t):Y2 X [c] t:=fun pins s σ H Q I q=>wpAny_tests_one (h pins s σ H Q I q)
theorem Zj{scope:Scope}{env:Env}{x:Str}{k:NameKind}(h:(relabel scope env).names.lookup x=some k):∃k0,scope.names.lookup x=some k0/\(k=k0∨(k0=.free/\k=.cell)):=by
 have go:∀ns:List (Str×NameKind),(ns.map fun(n,k)=>if (k==NameKind.free&&env.scope.kind==.function&&env.kindOf n==some .cell)then(n,NameKind.cell)else(n,k)).lookup x=some k->
   ∃k0,ns.lookup x=some k0/\(k=k0∨(k0=.free/\k=.cell)):=by
  intro ns;induction ns with
  | nil=>intro q;simp at q
  | cons p r ih=>
   obtain⟨n,k1⟩:=p;intro q;have q:List.lookup x ((if (k1==NameKind.free&&env.scope.kind==.function&&env.kindOf n==some .cell)=true then(n,NameKind.cell)else(n,k1))::(r.map fun(n,k)=>if (k==NameKind.free&&env.scope.kind==.function&&env.kindOf n==some .cell)then(n,NameKind.cell)else(n,k)))=some k:=q;by_cases hc:(k1==NameKind.free&&env.scope.kind==.function&&env.kindOf n==some .cell)=true
   ·rw[if_pos hc,List.lookup_cons]at q;rw[List.lookup_cons];cases hx:(x==n)with
    | true=>
     rw[hx]at q;have e:NameKind.cell=k:=by simpa using q
     refine⟨k1,rfl,.inr ⟨?_,e.symm⟩⟩;simp only[Bool.and_eq_true]at hc;simpa using hc.1.1
    | false=>rw[hx]at q;exact ih q
   ·rw[if_neg hc,List.lookup_cons]at q;rw[List.lookup_cons];cases hx:(x==n)with
    | true=>
     rw[hx]at q;have e:k1=k:=by simpa using q
     exact⟨k1,rfl,.inl e.symm⟩
    | false=>rw[hx]at q;exact ih q
 exact go scope.names h
def uY(k:Nat)(J:It)(σ0:St)(g:TG)(tc:TT)(te:TE)(Qv:VK)(W:Nat->Nat->List V->Hp->Prop):Prop:=∀i m vs H,W i m vs H->
  (J.stop i H/\vs.length<=sizeLine/\∀D,H D=none->Qv (.ref D) (upd H D (.lst vs)))∨
  (J.go i H/\vs.length < sizeLine/\∃N:List V->Hp->Prop,(∀vs' H',N vs' H'->∃m',m' < m/\W (i+1) m' vs' H')/\
   ∀x H',J.yld i H x H'->g x σ0 H' fun σ2 H2=>σ2.drop k=σ0.drop k/\tc σ2 H2 fun b H3=>if b=true then te σ2 H3 fun y H4=>N (vs++[y]) H4 else N vs H3)
section
variable {X:Cx} {elt tg iter:Expr} {ifs:List Expr} {scope:Scope} {pos:Pos} {own:List Str} {caps:List (Str×Nat)} {g:TG} {tc:TT} {te:TE} {pins:List (Addr×Obj)} {σ:St} {H:Hp} {s2:Shared} {J:It} {fp:List Addr} {it:Addr} {tn:Nat->Heap->Prop} {Qv:VK}
theorem qT(hcell:∀y∈scope.names,y.2≠.cell)(hkind:scope.kind=.function)
  (hfr:∀y∈scope.names,y.2=.free->X.env.kindOf y.1=some .cell∨X.env.kindOf y.1=some .free)
  (I:Inv X pins σ H s2) {ex':List Addr} (hf:∀b∈ex',b < s2.heap.objs.size/\jY X pins H b):(X.comp (cN own caps) scope s2 H ex').Ok:=by
 have cin:∀x c,(JN X.env scope.names []).lookup x=some c->X.env.cells.lookup x=some c:=VA fun _ _ e=>by simp at e
 refine⟨I.ok.mod,hkind,I.ok.glob,I.ok.blt,wPa _,fun x y c h1 h2=>I.ok.inj x y c (cin x c h1) (cin y c h2),fun x hx=>?_,fun _ _ z=>(by cases z),I.ok.hd,I.ok.frames,.inl rfl,fun b hb=>⟨wTa (hf b hb).1,fun x c h=>(hf b hb).2.2.2.2.2.1 x c (cin x c h)⟩,
  I.bs,wSa I.ok.bsz I.sz,fun b o e hb=>?_,fun b hb hs=>?_,I.stack,I.stkFree⟩
 ·have q:∃k,(relabel scope X.env).names.lookup x=some k/\(k=.cell∨k=.free):=by
   rcases hx with hx | hx
   ·exact⟨_,hx,.inl rfl⟩
   ·exact⟨_,hx,.inr rfl⟩
  obtain⟨k,q,hk⟩:=q;obtain⟨k0,q0,hk0⟩:=Zj q;have m0:=PySem.mem_of_lookup q0;have e0:k0=.free:=by
   rcases hk0 with e | e
   ·rcases hk with z | z
    ·exact vDa (e.symm.trans z) (hcell _ m0)
    ·exact e.symm.trans z
   ·exact e.1
  subst e0;exact vo m0 (I.ok.has x (hfr _ m0 rfl))
 ·rcases(hf b hb).2.2.2.2.1 with z | z
  ·exact I.ok.noex b o e z
  ·exact vDa (Nat.lt_of_lt_of_le (wLa e) (wSa I.ok.bsz z)) (wUa _)
 ·rcases List.mem_cons.mp (I.stkSub b hs)with z | z
  ·exact(hf b hb).2.2.1 z
  ·exact(hf b hb).2.2.2.1 z
theorem GC(hcell:∀y∈scope.names,y.2≠.cell)(hkind:scope.kind=.function)
  (hfr:∀y∈scope.names,y.2=.free->X.env.kindOf y.1=some .cell∨X.env.kindOf y.1=some .free) (hcap:Caps X scope caps)
  (I:Inv X pins σ H s2) {ex':List Addr} (hf:∀b∈ex',b < s2.heap.objs.size/\jY X pins H b) {h1:Heap} {t:Nat} {m:Str->Option Value} (hn:h1.Ns s2.heap.objs.size m) (hk:∀b o,s2.heap.get? b=some o->h1.get? b=some o):
  Inv (X.comp (cN own caps) scope s2 H ex') [] (YT own caps σ) H { s2 with heap:=h1,toks:=t }:=by
 have cin:∀x c,(JN X.env scope.names []).lookup x=some c->X.env.cells.lookup x=some c:=VA fun _ _ e=>by simp at e
 have ok:=qT (own:=own) (caps:=caps) hcell hkind hfr I hf;refine⟨ok,rfl,I.bare,Un.kept hk,⟨m,hn,fun i x v e1 e2 e3=>?_⟩,fun x c e=>?_,I.hok.fresh (wPa _),fun x c e=>I.freeC x c (cin x c e),fun p hp=>vDa (show p∈([]:List (Addr×Obj)) from hp) (by simp),I.hok.kept hk,by simp[Cx.comp,cN,YT]⟩
 ·by_cases hi:i < own.length
  ·have e2:(own.map (fun _=>(none:Option V))++caps.map fun p=>(σ[p.2]?).join)[i]?=some (some v):=e2;rw[List.getElem?_append_left (by simpa using hi),List.getElem?_map]at e2;cases q:own[i]? with
   | none=>rw[q]at e2;cases e2
   | some _=>rw[q]at e2;cases e2
  ·have e2:(own.map (fun _=>(none:Option V))++caps.map fun p=>(σ[p.2]?).join)[i]?=some (some v):=e2;have e1:(own++caps.map (·.1))[i]?=some x:=e1;rw[List.getElem?_append_right (by simpa using hi),List.getElem?_map]at e2;rw[List.getElem?_append_right (by simpa using hi),List.getElem?_map]at e1;rw[List.length_map]at e2;cases q:caps[i - own.length]? with
   | none=>rw[q]at e1;cases e1
   | some p=>
    obtain⟨y,j⟩:=p;rw[q]at e1 e2;have e1:y=x:=vFa e1;subst e1;have e2:(σ[j]?).join=some v:=vFa e2;obtain⟨a1,a2,a3⟩:=hcap.get q;have sj:σ[j]?=some (some v):=by
     cases z:σ[j]? with
     | none=>rw[z]at e2;cases e2
     | some z'=>rw[z]at e2;exact congrArg some e2
    obtain⟨m0,hn0,hl0⟩:=I.loc;have vis:gz X.env.scope y:=by
     rcases a2 with z | z
     ·exact .inr (.inl z)
     ·exact .inr (.inr z)
    obtain⟨u,r,l⟩:=hl0 j y v a1 sj vis;refine⟨u,r,.inr ⟨?_,?_⟩⟩
    ·rcases e3 with z | z
     ·obtain⟨k0,q0,hk0⟩:=Zj z;rw[a3]at q0;cases q0;rcases hk0 with z' | z'
      ·cases z'
      ·cases z'.2
     ·exact z
    ·rcases l with⟨hk',_⟩ | ⟨_,c,hc,z⟩
     ·rcases a2 with z | z <;> rw[hk']at z <;> cases z
     ·obtain⟨c',hc'⟩:=vo (cs:=[]) (PySem.mem_of_lookup a3) ⟨c,hc⟩;have:=cin y c' hc';rw[hc]at this;cases this;obtain⟨o,ho,hd⟩:=z;exact⟨c,hc',o,hk c o ho,hd⟩
 ·obtain⟨v,o,ho,hd⟩:=I.cell x c (cin x c e);exact⟨v,o,hk c o ho,hd⟩
end
section
variable {X:Cx} {elt tg iter:Expr} {ifs:List Expr} {scope:Scope} {pos:Pos} {own:List Str} {caps:List (Str×Nat)} {g:TG} {tc:TT} {te:TE} {pins:List (Addr×Obj)} {σ:St} {H:Hp} {s2:Shared} {J:It} {fp:List Addr} {it:Addr} {tn:Nat->Heap->Prop} {Qv:VK}
theorem Jj.adopt{P:Program}{w:World}{H:Hp}{h:Heap}{D:Addr}{vs:List V}{ys:List Value}{k:Nat}(x:Jj P w H h)(hn:H D=none)(hl:vs.length<=sizeLine)(r:jb vs ys)(e:h.get? D=some { cls:=.type "list",data:=.seq ys.toArray k }):Jj P w (upd H D (.lst vs)) h:=fun b u q=>by
 by_cases hb:b=D
 ·subst hb;rw[jx]at q;cases q;exact⟨hl,ys,k,r,e⟩
 ·rw[jc hb]at q;exact(x b u q).stay (fun _ _ _ z=>z) (fun c z=>by rw[jc (jl z hn)];exact z) fun c xs z=>by rw[jc (jl z hn)];exact z
theorem kO{N':List Str}{σ':St}{H':Hp}{s':Shared}{D:Addr}{vs:List V}{ys:List Value}{k:Nat}(I:Inv X pins σ H s2)(hD:D < s2.heap.objs.size)(fD:jY X pins H D)(hf:∀b∈fp,jY X pins H b)
  (J':Inv (X.comp N' scope s2 H (D::fp)) [] σ' H' s') (hn:H' D=none) (hl:vs.length<=sizeLine) (r:jb vs ys) (e:s'.heap.get? D=some { cls:=.type "list",data:=.seq ys.toArray k }):
  Inv X pins σ (upd H' D (.lst vs)) s':=by
 have u:Un (Z0 X.stack) (D::fp) H H' s2.heap s'.heap:=J'.base;have nD:∀b,b∉D::fp->b≠D:=fun b hb z=>hb (by rw[z];exact wNa);refine I.call' (ch:=D::fp) J'.os ⟨u.keep,u.slot,fun b o q n hx=>?_,u.there,fun b xs q=>?_,fun b o v q=>?_,fun b ps q=>?_⟩ (J'.hok.adopt hn hl r e) J'.bare fun b hb=>?_
 ·rw[jc (nD b hx)];exact u.free b o q n hx
 ·rw[jc (jl q fD.1)];exact u.tups b xs q
 ·rw[jc (jl q fD.1)];exact u.frzs b o v q
 ·rw[jc (jl q fD.1)];exact u.tbls b ps q
 ·have F:jY X pins H b:=by
   rcases List.mem_cons.mp hb with z | z
   ·rw[z];exact fD
   ·exact hf b z
  exact⟨F.2.2.2.1,F.2.1,F.2.2.2.2.1,F.2.2.2.2.2⟩
theorem qU{C:Addr}{D:Addr}{W:Nat->Nat->List V->Hp->Prop}(hc:X.calm=true)
  (hg:∀s3 H3 ex',PG (X.comp (cN own caps) scope s3 H3 ex') tg g) (ht:∀s3 H3 ex',Y2 (X.comp (cN own caps) scope s3 H3 ex') ifs tc) (he:∀s3 H3 ex',PE (X.comp (cN own caps) scope s3 H3 ex') elt te)
  (I:Inv X pins σ H s2) (hD:D < s2.heap.objs.size) (fD:jY X pins H D) (nDf:D∉fp) (hfl:∀b∈fp,b < s2.heap.objs.size) (hf:∀b∈fp,jY X pins H b) (T:Turn X.prog X.w X.K tg J fp it tn) (turn:uY own.length J (YT own caps σ) g tc te Qv W)
  (R:Result->Shared->Prop) (hR:∀s',(∃H' m,Inv X pins σ H' s'/\s'.heap.Ns s2.heap.objs.size m/\jY X pins H' s2.heap.objs.size/\Qv (.ref D) H')->R (.ok .next) s')
  (n:Nat) (s4:Shared) (st:∃i vs H' ys k,Inv (X.comp (cN own caps) scope s2 H (D::fp)) [] (YT own caps σ) H' s4/\tn i s4.heap/\(∀b∈fp,H' b=none)/\H' D=none/\
   s4.heap.get? D=some { cls:=.type "list",data:=.seq (ys:List Value).toArray k }/\jb vs ys/\W i n vs H'):
  codeAny (model X.prog X.w) X.A (.compLoop (.ListComp elt [⟨tg,iter,ifs,0⟩] scope pos) 0 (.ref it) (.ref D) (X.comp (cN own caps) scope s2 H (D::fp)).env) R s4:=by
 let Y:=X.comp (cN own caps) scope s2 H (D::fp)
 have stat:∀{H':Hp},H' D=none->(∀b∈fp,H' b=none)->∀s':Shared,∀σ',Inv Y [] σ' H' s'->∀b∈D::fp,jY Y [] H' b:=fun {H'} h0 h1 s' σ' I' b hb=>by
  have hb':b < s2.heap.objs.size:=by
   rcases List.mem_cons.mp hb with z | z
   ·rw[z];exact hD
   ·exact hfl b z
  refine⟨?_,wTa hb',I'.ok.exfs b hb,.inl hb,(I'.ok.exf b hb).2,fun p hp=>vDa (show p∈([]:List (Addr×Obj)) from hp) (by simp)⟩;rcases List.mem_cons.mp hb with z | z
  ·rw[z];exact h0
  ·exact h1 b z
 refine codeAny_loop rfl (fun n s'=>∃i vs H' ys k,Inv Y [] (YT own caps σ) H' s'/\tn i s'.heap/\(∀b∈fp,H' b=none)/\H' D=none/\
   s'.heap.get? D=some { cls:=.type "list",data:=.seq (ys:List Value).toArray k }/\jb vs ys/\W i n vs H') ?_ n st
 rintro n s3 ⟨i,vs,H3,ys,k,I3,st3,fr3,n3,g3,r3,w3⟩;show wpAny _ _ ((compTurn (.ListComp elt [⟨tg,iter,ifs,0⟩] scope pos) 0 (.ref it) (.ref D) Y.env).onRaise (fun x=>do noteFrame x Y.env;theTreesLotGoes x)) _ _ s3;refine wpAny_noted ?_;rw[compTurn_list];have F0:=stat n3 fr3 s3 _ I3;have pinD:∀{σ':St} {H':Hp} {s':Shared} {ps:List (Addr×Obj)} {zs:List Value} {kk:Nat},Inv Y ps σ' H' s'->H' D=none->s'.heap.get? D=some { cls:=.type "list",data:=.seq zs.toArray kk }->Inv Y (ps++[(D,{ cls:=.type "list",data:=.seq zs.toArray kk })]) σ' H' s':=fun {σ' H' s' ps zs kk} I' hn hg'=>
  I'.pins_of fun p hp=>(List.mem_append.mp hp).elim (fun z=>I'.pin p (vJa _ z)) fun z=>by
   have e:p=(D,{ cls:=.type "list",data:=.seq zs.toArray kk }):=by simpa using z
   subst e;have f:=(stat n3 fr3 s3 _ I3) D wNa;exact⟨hg',hn,f.2.1,f.2.2.1,fun v z=>by cases z⟩
 have I3p:=pinD I3 n3 g3;have F3:∀b∈fp,jY Y ([]++[(D,{ cls:=.type "list",data:=.seq ys.toArray k })]) H3 b:=fun b hb=>by
  obtain⟨f0,f1,f2,f3,f4,f5⟩:=F0 b (wMa _ hb);refine⟨f0,f1,f2,f3,f4,fun p hp z=>?_⟩;have e:p=(D,{ cls:=.type "list",data:=.seq ys.toArray k }):=by simpa[Y,Cx.comp]using hp
  subst e;exact nDf (by rw[show D=b from z];exact hb)
 rcases turn i n vs H3 w3 with⟨stop,hl,q⟩ | ⟨go,hl,N,hN,step⟩
 ·refine wAa (vOa (wAa (wCa (T.done Y rfl rfl rfl hc i _ s3 _ H3 (fun _ _=>False) I3p F3 st3 stop) (fun r s5 h5=>?_) fun _ _ z=>z.elim)));obtain⟨hr,I5p⟩:=h5;subst hr;refine wBa (hR s5 ?_);have g5:s5.heap.get? D=some { cls:=.type "list",data:=.seq ys.toArray k }:=(I5p.pin (D,_) (by simp)).1;have I5:Inv Y [] (YT own caps σ) H3 s5:=I5p.unpinned (pins:=[]);obtain⟨m5,hm5,_⟩:=id I5.loc;refine⟨_,m5,kO I hD fD hf I5 n3 hl r3 g5,hm5,I.fpOk (wPa _) ?_,q D n3⟩;rw[jc (Nat.ne_of_gt hD)];exact I5.free
 ·refine wAa (vOa (wAa (wCa (T.item Y rfl rfl rfl hc i _ s3 _ H3 (fun _ _=>False) I3p F3 st3 go) (fun r s5 h5=>?_) fun _ _ z=>z.elim)));obtain⟨u,hr,h5⟩:=h5;subst hr;refine wAa (wCa h5 (fun _ s6 h6=>?_) fun _ _ z=>z.elim);obtain⟨x,H6,I6,r6,y6,st6,fr6⟩:=h6;have F6:∀b∈fp,jY Y ([]++[(D,{ cls:=.type "list",data:=.seq ys.toArray k })]) H6 b:=fun b hb=>⟨fr6 b hb,(F3 b hb).2⟩
  have I6':=I6.pinned F6 (T.obj _ _ st6);refine wAa (wCa (hg s2 H (D::fp) _ s6 _ H6 x u _ I6' r6 (step x H6 y6)) (fun _ s7 h7=>?_) fun _ _ z=>z.elim);obtain⟨σ7,H7,I7,d7,q7⟩:=h7;refine wAa (wCa (ht s2 H (D::fp) _ s7 σ7 H7 _ I7 q7) (fun b s8 h8=>?_) fun _ _ z=>z.elim);obtain⟨H8,I8,q8⟩:=h8;have fin:∀{s9:Shared} {H9:Hp} {vs':List V} {zs:List Value} {kk:Nat},Inv Y [] σ7 H9 s9->tn (i+1) s9.heap->(∀b∈fp,H9 b=none)->H9 D=none->s9.heap.get? D=some { cls:=.type "list",data:=.seq zs.toArray kk }->jb vs' zs->N vs' H9->
    ∃m,m < n/\∃i vs H' ys k,Inv Y [] (YT own caps σ) H' s9/\tn i s9.heap/\(∀b∈fp,H' b=none)/\H' D=none/\s9.heap.get? D=some { cls:=.type "list",data:=.seq (ys:List Value).toArray k }/\jb vs ys/\W i m vs H':=fun {s9 H9 vs' zs kk} I9 st9 fr9 n9 g9 r9 w9=>by
   obtain⟨m',hm,w'⟩:=hN vs' H9 w9;refine⟨m',hm,i+1,vs',H9,zs,kk,?_,st9,fr9,n9,g9,r9,w'⟩;have l9:σ7.length=(YT own caps σ).length:=I9.len.trans (by simp[Y,Cx.comp,cN,YT]);refine I9.weak l9.symm fun j v e=>?_;by_cases hj:j < own.length
   ·rw[List.getElem?_append_left (by simpa using hj),List.getElem?_map]at e;cases q:own[j]? with
    | none=>rw[q]at e;cases e
    | some _=>rw[q]at e;cases e
   ·have z:=congrArg (fun l=>l[j - own.length]?) d7;simp only[List.getElem?_drop]at z;have ej:own.length+(j - own.length)=j:=by omega
    rw[ej]at z;exact z.trans e
  have pins8:∀{s9:Shared} {H9:Hp},Inv Y ([]++[(D,{ cls:=.type "list",data:=.seq ys.toArray k })]++Zd fp s6.heap) σ7 H9 s9->tn (i+1) s9.heap/\(∀b∈fp,H9 b=none)/\H9 D=none/\s9.heap.get? D=some { cls:=.type "list",data:=.seq ys.toArray k }:=fun {s9 H9} I9=>by
   refine⟨T.keep _ _ _ st6 fun b hb o e=>(I9.pin (b,o) (vJa _ (vJa _ (Yk hb e)))).1,fun b hb=>?_,(I9.pin (D,{ cls:=.type "list",data:=.seq ys.toArray k }) (vJa _ (vIa _ (by simp)))).2.1,(I9.pin (D,{ cls:=.type "list",data:=.seq ys.toArray k }) (vJa _ (vIa _ (by simp)))).1⟩;obtain⟨o,e,d⟩:=T.obj _ _ st6 b hb;exact(I9.pin (b,o) (vJa _ (vJa _ (Yk hb e)))).2.1
  cases b with
  | false=>
   obtain⟨a1,a2,a3,a4⟩:=pins8 I8;exact wBa ⟨rfl,fin (I8.unpinned.unpinned) a1 a2 a3 a4 r3 q8⟩
  | true=>
   refine wAa (wAa (wCa (he s2 H (D::fp) _ s8 σ7 H8 _ I8 q8) (fun y s9 h9=>?_) fun _ _ z=>z.elim));obtain⟨v9,H9,I9,r9,q9⟩:=h9;obtain⟨a1,a2,a3,a4⟩:=pins8 I9;have hlz:ys.toArray.size<=sizeLine:=by
    have:=r3.length;simp only[List.size_toArray];omega
   refine wAa (wpAny_list_append_plain (hsz:=hlz) ⟨k,a4⟩ fun h' hp sb=>wBa (wBa ⟨rfl,?_⟩));obtain⟨k',g'⟩:=hp;have I9':Inv Y [] σ7 H9 s9:=I9.unpinned.unpinned;have F9:=stat a3 a2 s9 _ I9' D wNa;obtain⟨f0,f1,f2,f3,f4,f5⟩:=F9;have I10:Inv Y [] σ7 H9 { s9 with heap:=h' }:=I9'.turned (t':=s9.toks) (fun b o hb e=>(sb.2 b hb).trans e) f0 f1 f3 f4 f5;refine fin (zs:=ys++[y]) (kk:=k') I10 (T.keep _ _ _ a1 fun b hb o e=>(sb.2 b fun z=>nDf (by rw[<-z];exact hb)).trans e) a2 a3 ?_ (r3.append (.cons r9 .nil)) q9;rw[g'];simp
end
structure CScope (X:Cx) (scope:Scope):Prop where
 kind:scope.kind=.function
 loc:(scope.names.all fun y=>y.2 != .local||scope.names.lookup y.1==some .local)=true
 nocell:(scope.names.all fun y=>y.2 != .cell)=true
 free:(scope.names.all fun y=>y.2 != .free||X.env.scope.names.lookup y.1==some .cell||X.env.scope.names.lookup y.1==some .free)=true
section
variable {X:Cx} {elt tg iter:Expr} {ifs:List Expr} {scope:Scope} {pos:Pos} {own:List Str} {caps:List (Str×Nat)} {g:TG} {tc:TT} {te:TE} {pins:List (Addr×Obj)} {σ:St} {H:Hp} {s2:Shared} {J:It} {fp:List Addr} {it:Addr} {tn:Nat->Heap->Prop} {Qv:VK}
theorem CScope.l(S:CScope X scope):∀x∈scope.names,x.2=.local->scope.names.lookup x.1=some .local:=fun x hx e=>by
 have:=List.all_eq_true.mp S.loc x hx;rw[e]at this;simpa using this
theorem CScope.c(S:CScope X scope):∀x∈scope.names,x.2≠.cell:=fun x hx e=>by
 have:=List.all_eq_true.mp S.nocell x hx;rw[e]at this;simp at this
theorem CScope.f(S:CScope X scope):∀y∈scope.names,y.2=.free->X.env.kindOf y.1=some .cell∨X.env.kindOf y.1=some .free:=fun x hx e=>by
 have:=List.all_eq_true.mp S.free x hx;rw[e]at this;simpa[Env.kindOf]using this
theorem gH{E:Value->Shared->Prop}{RR:Value->Addr->Result->Shared->Prop}(S:CScope X scope)(hcap:Caps X scope caps)(hc:X.calm=true)
  (hg:∀s3 H3 ex',PG (X.comp (cN own caps) scope s3 H3 ex') tg g) (ht:∀s3 H3 ex',Y2 (X.comp (cN own caps) scope s3 H3 ex') ifs tc) (he:∀s3 H3 ex',PE (X.comp (cN own caps) scope s3 H3 ex') elt te)
  (I:Inv X pins σ H s2) (T:Turn X.prog X.w X.K tg J fp it tn) (st:tn 0 s2.heap) (hf:∀b∈fp,jY X pins H b)
  (w:∃W,(∃m,W 0 m [] H)/\uY own.length J (YT own caps σ) g tc te Qv W)
  (hRR:∀D C s' H' m,Inv X pins σ H' s'->s'.heap.Ns C m->jY X pins H' C->Qv (.ref D) H'->RR (.ref D) C (.ok .next) s'):
  wpAny (model X.prog X.w) X.A (newList []) (fun acc s3=>wpAny (model X.prog X.w) X.A (newFunctionEnv scope X.env.globals (JN X.env scope.names []) [] X.env.qual none .none (some X.env)) (fun cenv s4=>
   codeAny (model X.prog X.w) X.A (.compStart (.ListComp elt [⟨tg,iter,ifs,0⟩] scope pos) 0 (.ref it) acc { cenv with scope:=relabel scope X.env }) (RR acc cenv.locals) s4) E s3) E s2:=by
 obtain⟨W,⟨m0,w0⟩,turn⟩:=w;refine vTa (wpAny_newFunctionEnv S.c (by intro y hy;simp at hy) (fun h1 hns hsb=>?_) S.kind);have hlt:∀b∈fp,b < s2.heap.objs.size:=fun b hb=>by
  obtain⟨o,e,_⟩:=T.obj _ _ st b hb;exact wLa e
 let s3:Shared:={ s2 with heap:=s2.heap.push { cls:=.type "list",dict:=none,data:=.seq ([]:List Value).toArray } }
 have e3:s3.heap.objs.size=s2.heap.objs.size+1:=Heap.size_push ..;have I3:Inv X pins σ H s3:=I.kept (t':=s2.toks) fun b o e=>wIa _ e;have fD:jY X pins H s2.heap.objs.size:=I.fpOk (wPa _) (I.hok.fresh (wPa _));have hk:∀b o,s3.heap.get? b=some o->h1.get? b=some o:=fun b o e=>hsb.extBut b o (wTa (wLa e)) (wIa _ e);have hD:s2.heap.objs.size < s3.heap.objs.size:=by rw[e3];exact Nat.lt_succ_self _
 have hl3:∀b∈fp,b < s3.heap.objs.size:=fun b hb=>Nat.lt_trans (hlt b hb) hD;have I4:Inv (X.comp (cN own caps) scope s3 H (s2.heap.objs.size::fp)) [] (YT own caps σ) H { s3 with heap:=h1,toks:=s2.toks+([]:List (Str×Value)).length }:=by
  refine GC S.c S.kind S.f hcap I3 (fun b hb=>?_) hns hk;rcases List.mem_cons.mp hb with z | z
  ·rw[z];exact⟨hD,fD⟩
  ·exact⟨hl3 b z,hf b z⟩
 have st4:tn 0 h1:=T.keep _ _ _ st fun b hb o e=>hk b o (wIa _ e);have g4:h1.get? s2.heap.objs.size=some { cls:=.type "list",data:=.seq ([]:List Value).toArray }:=hk _ _ (wJa _ rfl);have loop:=qU (C:=0) (iter:=iter) (pos:=pos) hc hg ht he I3 hD fD (fun z=>wUa _ (hlt _ z)) hl3 hf T turn (RR (.ref s2.heap.objs.size) s3.heap.objs.size) (fun s' ⟨H',m,a1,a2,a3,a4⟩=>hRR _ _ s' H' m a1 a2 a3 a4) m0
  { s3 with heap:=h1,toks:=s2.toks+([]:List (Str×Value)).length } ⟨0,[],H,[],0,I4,st4,fun b hb=>(hf b hb).1,fD.1,g4,.nil,w0⟩
 exact codeAny_compStart_list loop (T.self _ 0 _ _ _ st4 loop)
def xJ(own:List Str)(caps:List (Str×Nat))(wi:TI)(g:TG)(tc:TT)(te:TE):TE:=fun σ H Q=>wi σ H fun J H1=>∃W,(∃m,W 0 m [] H1)/\uY own.length J (YT own caps σ) g tc te Q W
theorem AR{wi:TI}(own:List Str)(caps:List (Str×Nat))(S:CScope X scope)(hcap:Caps X scope caps)(hc:X.calm=true)(hi:PI X tg iter wi)
  (hg:∀s3 H3 ex',PG (X.comp (cN own caps) scope s3 H3 ex') tg g) (ht:∀s3 H3 ex',Y2 (X.comp (cN own caps) scope s3 H3 ex') ifs tc) (he:∀s3 H3 ex',PE (X.comp (cN own caps) scope s3 H3 ex') elt te)
  (hs:∀x,foldedSetIterable iter X.env x=pure x:=by intro _;rfl):PE X (.ListComp elt [⟨tg,iter,ifs,0⟩] scope pos) (xJ own caps wi g tc te):=by
 intro pins s σ H Q I h;rw[eval_ListComp];refine wpAny_comprehension_free (use:=none) rfl hs (gG fun y hy e=>I.ok.has y.1 (S.f y hy e)) S.kind S.l (jg (hi pins s σ H _ I h) fun xv s1 h1=>jg h1 fun itv s2 h2=>?_);obtain⟨it,fp,tn,J,H2,e,I2,T,st,f2,w⟩:=h2;subst e;refine gH (RR:=fun acc C=>compPost (model X.prog X.w) X.A X.xe none (EP X pins σ Q) acc C) S hcap hc hg ht he I2 T st f2 w ?_;intro D C s' H' m I' hn hf' q;refine⟨m,hn,fun h' sb=>⟨.ref D,H',?_,rfl,q⟩⟩;obtain⟨f0,f1,f2,f3,f4,f5⟩:=hf';exact I'.turned (t':=s'.toks) (fun b o hb e=>(sb.2 b hb).trans e) f0 f1 f3 f4 f5
theorem uZ{wi:TI}(own:List Str)(caps:List (Str×Nat)){i:Nat}{x:Str}{pos' spos:Pos}(hN:X.N.Nodup)(hix:X.N[i]?=some x)(hx:ZT X.env.scope x)(S:CScope X scope)(hcap:Caps X scope caps)(hc:X.calm=true)(hi:PI X tg iter wi)
  (hg:∀s3 H3 ex',PG (X.comp (cN own caps) scope s3 H3 ex') tg g) (ht:∀s3 H3 ex',Y2 (X.comp (cN own caps) scope s3 H3 ex') ifs tc) (he:∀s3 H3 ex',PE (X.comp (cN own caps) scope s3 H3 ex') elt te)
  (hs:∀x,foldedSetIterable iter X.env x=pure x:=by intro _;rfl)
  (hsw:swapsWith (.ListComp elt [⟨tg,iter,ifs,0⟩] scope pos) (some (.Name x pos')) spos.line X.env=pure true:=by rfl) (hf:X.fn x=true∨X.env.scope.names.lookup x=some .local:=by first | exact .inl rfl | exact .inr rfl | assumption):
  PS X (.Assign [.Name x pos'] (.ListComp elt [⟨tg,iter,ifs,0⟩] scope pos) spos) (y9 (xJ own caps wi g tc te) (yH i)):=by
 intro pins s σ H D I h;rw[exec_Assign_Name_used _ _ _ _ hsw];refine wAa (vOa (wAa ?_));show wpAny _ _ (do let _<-comprehension (.ListComp elt [⟨tg,iter,ifs,0⟩] scope pos) scope X.env _ (newList []) false (eval iter X.env) (some (assign (.Name x pos') X.env))) _ _ s;refine wAa (wCa (wpAny_comprehension_free (use:=some (assign (.Name x pos') X.env)) (Q:=fun _ s'=>SP X pins D .next s') rfl hs (gG fun y hy e=>I.ok.has y.1 (S.f y hy e)) S.kind S.l
  (jg (hi pins s σ H _ I h) fun xv s1 h1=>jg h1 fun itv s2 h2=>?_)) (fun _ s' hq=>wBa (wBa hq)) fun _ _ e=>e)
 obtain⟨it,fp,tn,J,H2,e,I2,T,st,f2,w⟩:=h2;subst e;refine gH (RR:=fun acc C=>compPost (model X.prog X.w) X.A X.xe (some (assign (.Name x pos') X.env)) (fun _ s'=>SP X pins D .next s') acc C) S hcap hc hg ht he I2 T st f2 w ?_;intro A C s' H' m I' hn hf' q;obtain⟨f0,f1,f2,f3,f4,f5⟩:=hf';show wpAny _ _ (assign (.Name x pos') X.env (.ref A)) _ _ _;refine wpAny_assign_Name (VV (v:=.ref A) I' hN hix hx rfl (fun s'' I'' hsb=>?_) hf);obtain⟨a,sb,ha⟩:=hsb;have aC:C≠a:=by
  rcases ha with z | z
  ·rw[z];exact f1
  ·exact fun e=>f4 x a z e.symm
 refine⟨m,hn.sameBut sb aC,fun h' sb'=>⟨_,H',?_,q⟩⟩;exact I''.turned (t':=s''.toks) (fun b o hb e=>(sb'.2 b hb).trans e) f0 f1 f3 f4 f5
end
inductive Sk where
 | l | t
def Z3(K:PySem.W.Frag):Sk->Hp->Addr->List V->Prop
 | .l=>jj K
 | .t=>jX K
def jB:Sk->Heap->Addr->Array Value->Prop
 | .l,h,a,vs=>h.IsList a vs
 | .t,h,a,vs=>h.IsTuple a vs
def jC:Sk->Heap->Addr->Addr->Nat->Prop
 | .l,h,it,a,i=>h.IsListIter it a i
 | .t,h,it,a,i=>h.IsTupleIter it a i
theorem jB.at{k:Sk}{h h':Heap}{a:Addr}{vs:Array Value}(x:jB k h a vs)(e:∀o,h.get? a=some o->h'.get? a=some o):jB k h' a vs:=by
 cases k
 ·exact Heap.IsList.at x e
 ·obtain⟨o,ho,r⟩:=x;exact⟨o,e o ho,r⟩
theorem jC.at{k:Sk}{h h':Heap}{it a:Addr}{i:Nat}(x:jC k h it a i)(e:∀o,h.get? it=some o->h'.get? it=some o):jC k h' it a i:=by
 cases k <;> (obtain⟨o,ho,r⟩:=x;exact⟨o,e o ho,r⟩)
theorem jC.obj{k:Sk}{h:Heap}{it a:Addr}{i:Nat}(x:jC k h it a i):∃o,h.get? it=some o/\∀v,o.data≠.cell v:=by
 cases k <;> (obtain⟨o,ho,_,d⟩:=x;exact⟨o,ho,fun v z=>by rw[d]at z;cases z⟩)
theorem jB.lt{k:Sk}{h:Heap}{a:Addr}{vs:Array Value}(x:jB k h a vs):a < h.objs.size:=by
 cases k <;> (obtain⟨o,ho,_⟩:=x;exact wLa ho)
section
variable {prog:Program} {w:World} {A:Around} {E:Value->Shared->Prop} {s:Shared} {it a:Addr} {i:Nat} {its:Array Value} {x:Value}
theorem um{Q:Value->Shared->Prop}(hi:s.heap.IsTupleIter it a i)(ht:s.heap.IsTuple a its)(hx:its[i]?=some x)
  (hQ:∀h',h'.IsTupleIter it a (i+1)->Heap.SameBut it s.heap h'->Q x { s with heap:=h' }):wpAny (model prog w) A (Builtin.SmallTypes.nextOf (.ref it)) Q E s:=by
 obtain⟨o,ho,hc,hd⟩:=id hi;obtain⟨oa,hoa,_,na,hda⟩:=ht;unfold Builtin.SmallTypes.nextOf;refine wAa (wpAny_callSpecial?_slot (name:=Str.ofString "__next__") hi.typeIs F.slot_tuple_iterator_next (wpAny_call_entry F.slot_tuple_iterator_next hi.typeIs F.entry_tuple_iterator_next ?_ (F.args_tuple_iterator_next_1 _)));show wpAny _ _ (field (.ref it) 0 >>= _) _ _ s;refine wAa (wpAny_field ho hd (x:=.ref a) rfl ?_);show wpAny _ _ (if (Value.ref a==Value.none)=true then _ else _) _ _ s;have nn:¬((Value.ref a==Value.none)=true):=vNa;rw[if_neg nn];show wpAny _ _ (field (.ref it) 1 >>= _) _ _ s;refine wAa (wpAny_field ho hd (x:=.int i 0) rfl ?_);show wpAny _ _ (seqItems? (.ref a) >>= _) _ _ s;refine wAa (wpAny_seqItems hoa hda ?_);simp only[Int.toNat_natCast,hx];refine wAa (wpAny_setField ho hd (by simp) (wBa ⟨x,rfl,wBa (hQ _ ⟨_,Heap.get?_update_self _ ho (Obj.isFreed_of_fields (Obj.data_mapFields hd _)),(Obj.cls_mapFields ..).trans hc,?_⟩ (Heap.SameBut.update ..))⟩));rw[Obj.data_mapFields hd];simp[rawInt]
theorem u_{Q:Value->Shared->Prop}(hh:A.handled=none)(hi:s.heap.IsTupleIter it a i)(ht:s.heap.IsTuple a its)(hx:its[i]?=none)
  (hE:∀h' e,Heap.ExtBut it s.heap h'->(∃o,h'.get? e=some o/\o.cls=.type "StopIteration")->E (.ref e) { s with heap:=h' }):wpAny (model prog w) A (Builtin.SmallTypes.nextOf (.ref it)) Q E s:=by
 obtain⟨o,ho,hc,hd⟩:=id hi;obtain⟨oa,hoa,_,na,hda⟩:=ht;unfold Builtin.SmallTypes.nextOf;refine wAa (wpAny_callSpecial?_slot (name:=Str.ofString "__next__") hi.typeIs F.slot_tuple_iterator_next (wpAny_call_entry F.slot_tuple_iterator_next hi.typeIs F.entry_tuple_iterator_next ?_ (F.args_tuple_iterator_next_1 _)));show wpAny _ _ (field (.ref it) 0 >>= _) _ _ s;refine wAa (wpAny_field ho hd (x:=.ref a) rfl ?_);show wpAny _ _ (if (Value.ref a==Value.none)=true then _ else _) _ _ s;have nn:¬((Value.ref a==Value.none)=true):=vNa;rw[if_neg nn];show wpAny _ _ (field (.ref it) 1 >>= _) _ _ s;refine wAa (wpAny_field ho hd (x:=.int i 0) rfl ?_);show wpAny _ _ (seqItems? (.ref a) >>= _) _ _ s;refine wAa (wpAny_seqItems hoa hda ?_);simp only[Int.toNat_natCast,hx];refine wAa (wpAny_rule (wAa (wpAny_setField ho hd (by simp) ?_)));show wpAny _ _ (newExc (.type "StopIteration") [] >>= _) _ _ _;refine wAa ?_;simp only[newExc,newTuple];refine wAa (vTa ?_ (by size_fits));refine wAa (m:=firstArgMember _ _) (wpAny_of_eq (a:=Value.none) (by first | rfl | (simp only[firstArgMember];rfl)) (vTa ?_ (by size_fits)));simp only[raiseNew];refine wAa (wpAny_handled ?_)
 first | rw[show A.in1.handled=none from hh] | rw[hh]
 exact wAa (wBa (wpAny_throw (hE _ _ (((Heap.SameBut.update ..).extBut.push _).push _) ⟨_,wJa _ rfl,rfl⟩)))
theorem Zk{k:Sk}{Q:Value->Shared->Prop}(hi:jC k s.heap it a i)(ht:jB k s.heap a its)(hx:its[i]?=some x)
  (hQ:∀h',jC k h' it a (i+1)->Heap.SameBut it s.heap h'->Q x { s with heap:=h' }):wpAny (model prog w) A (Builtin.SmallTypes.nextOf (.ref it)) Q E s:=by
 cases k
 ·exact wpAny_nextOf_list_item hi ht hx hQ
 ·exact um hi ht hx hQ
theorem U0{k:Sk}{Q:Value->Shared->Prop}(hh:A.handled=none)(hi:jC k s.heap it a i)(ht:jB k s.heap a its)(hx:its[i]?=none)
  (hE:∀h' e,Heap.ExtBut it s.heap h'->(∃o,h'.get? e=some o/\o.cls=.type "StopIteration")->E (.ref e) { s with heap:=h' }):wpAny (model prog w) A (Builtin.SmallTypes.nextOf (.ref it)) Q E s:=by
 cases k
 ·exact wpAny_nextOf_list_end hh hi ht hx hE
 ·exact u_ hh hi ht hx hE
noncomputable def zK(k:Sk)(a:Addr):Obj:={ cls:=.type (match k with | .l => "list_iterator" | .t => "tuple_iterator"),data:=.fields #[.ref a,.int 0 0] }
theorem vX{k:Sk}{h:Heap}{it a:Addr}(e:h.get? it=some (zK k a)):jC k h it a 0:=by
 cases k <;> exact⟨_,e,rfl,rfl⟩
theorem gJ{k:Sk}{Q:Value->Shared->Prop}(ht:jB k s.heap a its)(hQ:Q (.ref s.heap.objs.size) { s with heap:=s.heap.push (zK k a) }):wpAny (model prog w) A (pyIter (.ref a)) Q E s:=by
 cases k
 ·exact wpAny_pyIter_list ht hQ
 ·exact wpAny_pyIter_tuple ht hQ
end
abbrev Wz(k:Sk)(h:Heap)(a:Addr):Heap:=h.push (zK k a)
abbrev kP(k j:Sk)(h:Heap)(a b:Addr):Heap:=(Wz k h a).push (zK j b)
abbrev WA(k j:Sk)(h:Heap)(a b:Addr):Heap:=(kP k j h a b).push { cls:=.type "tuple",data:=.seq #[.ref h.objs.size,.ref (Wz k h a).objs.size] }
abbrev WB(k j:Sk)(h:Heap)(a b:Addr):Heap:=(WA k j h a b).push { cls:=.type "tuple",data:=.seq #[.none,.none] }
abbrev U1(k j:Sk)(h:Heap)(a b:Addr):Heap:=(WB k j h a b).push { cls:=.type "zip",data:=.fields #[.none,.bool false,.bool false,.ref (kP k j h a b).objs.size,.ref (WA k j h a b).objs.size] }
theorem uo(k j:Sk)(a b:Addr)(xs ys:Array Value):
  Meets (Builtin.«zip.__new__» ⟨[.type "zip",.ref a,.ref b],[]⟩) (fun _ R s=>jB k s.heap a xs/\jB j s.heap b ys/\R (.ok (.ret (.ref (WB k j s.heap a b).objs.size))) { s with heap:=U1 k j s.heap a b }):=
 .of_wp fun prog w A R s h=>by
  obtain⟨hp,g,d,tk,os⟩:=s;obtain⟨ha,hb,h⟩:=h;have hsub:=sub_zip;have ha':jB k (Shared.heap ⟨hp,g,d,tk,os⟩) a xs:=ha;have hb':jB j (Shared.heap ⟨hp.push (zK k a),g,d,tk,os⟩) b ys:=hb.at fun o e=>wIa _ e
  wp_walk using gJ ha',gJ hb'
  exact⟨_,rfl,h⟩
section
variable {prog:Program} {w:World} {A:Around} {E:Value->Shared->Prop} {s:Shared}
theorem w5{k j:Sk}{a b:Addr}{xs ys:Array Value}{Q:Value->Shared->Prop}(ha:jB k s.heap a xs)(hb:jB j s.heap b ys)
  (h:∀h',IsZip h' (s.heap.objs.size+4) (s.heap.objs.size+2) (s.heap.objs.size+3) .none->IsPair h' (s.heap.objs.size+2) (.ref s.heap.objs.size) (.ref (s.heap.objs.size+1))->
   IsPair h' (s.heap.objs.size+3) .none .none->jC k h' s.heap.objs.size a 0->jC j h' (s.heap.objs.size+1) b 0->
   (∀c o,s.heap.get? c=some o->h'.get? c=some o)->Q (.ref (s.heap.objs.size+4)) { s with heap:=h' }):
  wpAny (model prog w) A (call (.type "zip") [.ref a,.ref b]) Q E s:=by
 refine callType_new F.called_zip (by decide) (F.typeCall_zip_2 _ _) (F.newCall_zip_2 _ _) (fun obj=>F.args_object_init_3 obj _ _) F.entry_zip_new (uo k j a b xs ys) ⟨ha,hb,?_⟩;have z1:(Wz k s.heap a).objs.size=s.heap.objs.size+1:=Heap.size_push ..;have z2:(kP k j s.heap a b).objs.size=s.heap.objs.size+2:=by rw[Heap.size_push,z1]
 have z3:(WA k j s.heap a b).objs.size=s.heap.objs.size+3:=by rw[Heap.size_push,z2]
 have z4:(WB k j s.heap a b).objs.size=s.heap.objs.size+4:=by rw[Heap.size_push,z3]
 have up:∀c o,(kP k j s.heap a b).get? c=some o->(U1 k j s.heap a b).get? c=some o:=fun c o e=>wIa _ (wIa _ (wIa _ e));have g5:(U1 k j s.heap a b).get? (WB k j s.heap a b).objs.size=some _:=wJa _ rfl;have g4:(U1 k j s.heap a b).get? (WA k j s.heap a b).objs.size=some _:=wIa _ (wJa _ rfl);have g3:(U1 k j s.heap a b).get? (kP k j s.heap a b).objs.size=some _:=wIa _ (wIa _ (wJa _ rfl));have g2:(U1 k j s.heap a b).get? (Wz k s.heap a).objs.size=some (zK j b):=up _ _ (wJa _ rfl);have g1:(U1 k j s.heap a b).get? s.heap.objs.size=some (zK k a):=up _ _ (wIa _ (wJa _ rfl));show _/\_;rw[z2,z3,z4]at g5;rw[z1,z2]at g3;rw[z3]at g4;rw[z1]at g2;rw[z4];exact⟨⟨_,g5,rfl⟩,h _ g5 g3 g4 (vX g1) (vX g2) fun c o x=>up c o (wIa _ (wIa _ x))⟩
variable {z TI TO i1 i2 a b:Addr} {k j:Sk} {n1 n2:Nat} {xs ys:Array Value} {x y:Value}
theorem w8{u v:Value}{Q:Value->Shared->Prop}(D:ZipApart z TI TO i1 i2 a b)(hz:IsZip s.heap z TI TO .none)(hTI:IsPair s.heap TI (.ref i1) (.ref i2))(hTO:IsPair s.heap TO u v)
  (h1:jC k s.heap i1 a n1) (h2:jC j s.heap i2 b n2) (ha:jB k s.heap a xs) (hb:jB j s.heap b ys) (hx:xs[n1]?=some x) (hy:ys[n2]?=some y)
  (hQ:∀h',IsZip h' z TI TO (rawInt s.heap.objs.size)->IsPair h' TO x y->jC k h' i1 a (n1+1)->jC j h' i2 b (n2+1)->IsPair h' s.heap.objs.size x y->
   (∀c o,c≠z->c≠TO->c≠i1->c≠i2->s.heap.get? c=some o->h'.get? c=some o)->Q (.ref s.heap.objs.size) { s with heap:=h' }):
  wpAny (model prog w) A (Builtin.«zip.__next__» ⟨[.ref z],[]⟩) (fun fin s'=>∃v,fin=.done (.ret v)/\Q v s') E s:=by
 show wpAny _ _ (field (.ref z) 2 >>= _) _ _ _;refine wAa (wpAny_field hz rfl (x:=.bool false) rfl ?_);show wpAny _ _ (field (.ref z) 3 >>= _) _ _ _;refine wAa (wpAny_field hz rfl (x:=.ref TI) rfl (wAa (wpAny_seqItems hTI rfl ?_)));show wpAny _ _ (Builtin.SmallTypes.ownedTupleIsFree (.ref z) >>= _) _ _ _;refine wAa ?_;unfold Builtin.SmallTypes.ownedTupleIsFree;refine wAa (wpAny_field hz rfl (x:=.none) rfl (wBa ?_));simp only[if_true];refine wAa (wpAny_rule (wAa (wpAny_field hz rfl (x:=.ref TO) rfl (wAa (wpAny_setField_rec hz (by simp) fun g1 z1 s1=>?_)))))
 replace z1:IsZip g1 z TI TO .ellipsis:=z1
 refine wAa ?_;simp only[List.zipIdx_cons,List.zipIdx_nil,List.forIn_cons,List.forIn_nil];have e1:∀c o,c≠z->s.heap.get? c=some o->g1.get? c=some o:=fun c o hc e=>s1.extBut c o hc e;refine wAa (wAa (wpAny_onRaise ?_));show wpAny _ _ (Builtin.SmallTypes.nextOf (.ref i1) >>= _) _ _ _;refine wAa (Zk (h1.at fun o e=>e1 _ o D.i1z e) (ha.at fun o e=>e1 _ o D.l1z e) hx fun g2 it2 s2=>wBa ?_);have e2:∀c o,c≠z->c≠i1->s.heap.get? c=some o->g2.get? c=some o:=fun c o hc hd e=>s2.extBut c o hd (e1 c o hc e);have t2:IsPair g2 TO u v:=e2 _ _ D.TOz D.TOi1 hTO;refine wAa (wpAny_seqItems t2 rfl (wAa (wpAny_updateSeq_pair t2 fun g3 t3 s3=>?_)))
 replace t3:IsPair g3 TO x v:=t3
 refine wAa (wpAny_letGo (wBa (wAa (wAa (wpAny_onRaise ?_)))));have e3:∀c o,c≠z->c≠i1->c≠TO->s.heap.get? c=some o->g3.get? c=some o:=fun c o hc hd he e=>s3.extBut c o he (e2 c o hc hd e);show wpAny _ _ (Builtin.SmallTypes.nextOf (.ref i2) >>= _) _ _ _;refine wAa (Zk (h2.at fun o e=>e3 _ o D.i2z D.i12.symm D.TOi2.symm e) (hb.at fun o e=>e3 _ o D.l2z D.l2i1 D.l2TO e) hy fun g4 it4 s4=>wBa ?_);have t4:IsPair g4 TO x v:=s4.extBut _ _ D.TOi2 t3;refine wAa (wpAny_seqItems t4 rfl (wAa (wpAny_updateSeq_pair t4 fun g5 t5 s5=>?_)))
 replace t5:IsPair g5 TO x y:=t5
 refine wAa (wpAny_letGo (wBa (wBa (wAa (wpAny_seqItems t5 rfl (wAa (wpAny_newTuple ?_)))))));have sz:g5.objs.size=s.heap.objs.size:=by rw[s5.1,s4.1,s3.1,s2.1,s1.1]
 have z5:IsZip g5 z TI TO .ellipsis:=s5.extBut _ _ D.TOz.symm (s4.extBut _ _ D.i2z.symm (s3.extBut _ _ D.TOz.symm (s2.extBut _ _ D.i1z.symm z1)));have e5:∀c o,c≠z->c≠TO->c≠i1->c≠i2->s.heap.get? c=some o->g5.get? c=some o:=fun c o c1 c2 c3 c4 e=>s5.extBut _ _ c2 (s4.extBut _ _ c4 (e3 c o c1 c3 c2 e));have it5:jC k g5 i1 a (n1+1):=((it2.at fun o e=>s3.extBut _ o D.TOi1.symm e).at fun o e=>s4.extBut _ o D.i12 e).at fun o e=>s5.extBut _ o D.TOi1.symm e;have jt5:jC j g5 i2 b (n2+1):=it4.at fun o e=>s5.extBut _ o D.TOi2.symm e;have lz:z < g5.objs.size:=wLa z5;show wpAny _ _ (Builtin.SmallTypes.ownedTupleHandOut (.ref z) (.ref g5.objs.size) >>= _) _ _ _;refine wAa ?_;unfold Builtin.SmallTypes.ownedTupleHandOut;have z6:IsZip (g5.push { cls:=.type "tuple",data:=.seq #[x,y] }) z TI TO .ellipsis:=wIa _ z5;refine wAa (wpAny_setField_rec z6 (by simp) fun g7 z7 s7=>?_)
 replace z7:IsZip g7 z TI TO (rawInt g5.objs.size):=z7
 refine wpAny_setField_rec z7 (by simp) fun g8 z8 s8=>?_
 replace z8:IsZip g8 z TI TO (rawInt g5.objs.size):=z8
 have up:∀c o,c≠z->g5.get? c=some o->g8.get? c=some o:=fun c o c1 e=>s8.extBut _ _ c1 (s7.extBut _ _ c1 (wIa _ e));have t8:IsPair g8 g5.objs.size x y:=s8.extBut _ _ (Nat.ne_of_gt lz) (s7.extBut _ _ (Nat.ne_of_gt lz) (wJa _ rfl));rw[sz]at z8 t8;refine wBa ⟨_,rfl,?_⟩;show Q (.ref g5.objs.size) _;rw[sz];exact hQ g8 z8 (up _ _ D.TOz t5) (it5.at fun o e=>up _ o D.i1z e) (jt5.at fun o e=>up _ o D.i2z e) t8 fun c o c1 c2 c3 c4 e=>up c o c1 (e5 c o c1 c2 c3 c4 e)
theorem wa{u v:Value}{Q:Fin->Shared->Prop}(hh:A.handled=none)(D:ZipApart z TI TO i1 i2 a b)(hz:IsZip s.heap z TI TO .none)(hTI:IsPair s.heap TI (.ref i1) (.ref i2))(hTO:IsPair s.heap TO u v)
  (h1:jC k s.heap i1 a n1) (h2:jC j s.heap i2 b n2) (ha:jB k s.heap a xs) (hb:jB j s.heap b ys) (hend:xs[n1]?=none∨ys[n2]?=none)
  (hE:∀h' e,(∀c o,c≠z->c≠TO->c≠i1->c≠i2->s.heap.get? c=some o->h'.get? c=some o)->(∃o,h'.get? e=some o/\o.cls=.type "StopIteration")->E (.ref e) { s with heap:=h' }):
  wpAny (model prog w) A (Builtin.«zip.__next__» ⟨[.ref z],[]⟩) Q E s:=by
 show wpAny _ _ (field (.ref z) 2 >>= _) _ _ _;refine wAa (wpAny_field hz rfl (x:=.bool false) rfl ?_);show wpAny _ _ (field (.ref z) 3 >>= _) _ _ _;refine wAa (wpAny_field hz rfl (x:=.ref TI) rfl (wAa (wpAny_seqItems hTI rfl ?_)));show wpAny _ _ (Builtin.SmallTypes.ownedTupleIsFree (.ref z) >>= _) _ _ _;refine wAa ?_;unfold Builtin.SmallTypes.ownedTupleIsFree;refine wAa (wpAny_field hz rfl (x:=.none) rfl (wBa ?_));simp only[if_true];refine wAa (wpAny_rule (wAa (wpAny_field hz rfl (x:=.ref TO) rfl (wAa (wpAny_setField_rec hz (by simp) fun g1 z1 s1=>?_)))))
 replace z1:IsZip g1 z TI TO .ellipsis:=z1
 refine wAa ?_;simp only[List.zipIdx_cons,List.zipIdx_nil,List.forIn_cons,List.forIn_nil];have e1:∀c o,c≠z->s.heap.get? c=some o->g1.get? c=some o:=fun c o hc e=>s1.extBut c o hc e;refine wAa (wAa (wpAny_onRaise ?_));show wpAny _ _ (Builtin.SmallTypes.nextOf (.ref i1) >>= _) _ _ _;cases hx:xs[n1]? with
 | none=>
  refine wAa (U0 hh (h1.at fun o e=>e1 _ o D.i1z e) (ha.at fun o e=>e1 _ o D.l1z e) hx fun g2 e s2 he=>?_);obtain⟨oe,hoe,hce⟩:=he;have z2:IsZip g2 z TI TO .ellipsis:=s2 _ _ D.i1z.symm z1;have ez:e≠z:=fun q=>by subst q;rw[z2]at hoe;cases hoe;simp at hce
  exact wpAny_setField_rec z2 (by simp) fun g3 _ s3=>hE g3 e (fun c o c1 _ c3 _ q=>s3.extBut _ _ c1 (s2 _ _ c3 (e1 _ _ c1 q))) ⟨oe,s3.extBut _ _ ez hoe,hce⟩
 | some x=>
  have hy:ys[n2]?=none:=by
   rcases hend with q | q
   ·rw[hx]at q;cases q
   ·exact q
  refine wAa (Zk (h1.at fun o e=>e1 _ o D.i1z e) (ha.at fun o e=>e1 _ o D.l1z e) hx fun g2 it2 s2=>wBa ?_);have e2:∀c o,c≠z->c≠i1->s.heap.get? c=some o->g2.get? c=some o:=fun c o hc hd e=>s2.extBut c o hd (e1 c o hc e);have t2:IsPair g2 TO u v:=e2 _ _ D.TOz D.TOi1 hTO;refine wAa (wpAny_seqItems t2 rfl (wAa (wpAny_updateSeq_pair t2 fun g3 t3 s3=>?_)));refine wAa (wpAny_letGo (wBa (wAa (wAa (wpAny_onRaise ?_)))));have e3:∀c o,c≠z->c≠i1->c≠TO->s.heap.get? c=some o->g3.get? c=some o:=fun c o hc hd he e=>s3.extBut c o he (e2 c o hc hd e);show wpAny _ _ (Builtin.SmallTypes.nextOf (.ref i2) >>= _) _ _ _;refine wAa (U0 hh (h2.at fun o e=>e3 _ o D.i2z D.i12.symm D.TOi2.symm e) (hb.at fun o e=>e3 _ o D.l2z D.l2i1 D.l2TO e) hy fun g4 e s4 he=>?_);obtain⟨oe,hoe,hce⟩:=he;have z4:IsZip g4 z TI TO .ellipsis:=s4 _ _ D.i2z.symm (s3.extBut _ _ D.TOz.symm (s2.extBut _ _ D.i1z.symm z1));have ez:e≠z:=fun q=>by subst q;rw[z4]at hoe;cases hoe;simp at hce
  exact wpAny_setField_rec z4 (by simp) fun g5 _ s5=>hE g5 e (fun c o c1 c2 c3 c4 q=>s5.extBut _ _ c1 (s4 _ _ c4 (e3 c o c1 c3 c2 q))) ⟨oe,s5.extBut _ _ ez hoe,hce⟩
theorem GD{u v:Value}{Q:Option Value->Shared->Prop}(D:ZipApart z TI TO i1 i2 a b)(hz:IsZip s.heap z TI TO .none)(hTI:IsPair s.heap TI (.ref i1) (.ref i2))(hTO:IsPair s.heap TO u v)
  (h1:jC k s.heap i1 a n1) (h2:jC j s.heap i2 b n2) (ha:jB k s.heap a xs) (hb:jB j s.heap b ys) (hx:xs[n1]?=some x) (hy:ys[n2]?=some y)
  (hQ:∀h',IsZip h' z TI TO (rawInt s.heap.objs.size)->IsPair h' TO x y->jC k h' i1 a (n1+1)->jC j h' i2 b (n2+1)->IsPair h' s.heap.objs.size x y->
   (∀c o,c≠z->c≠TO->c≠i1->c≠i2->s.heap.get? c=some o->h'.get? c=some o)->Q (some (.ref s.heap.objs.size)) { s with heap:=h' }):
  wpAny (model prog w) A (pyNext (.ref z)) Q E s:=by
 have hT:s.TypeIs (.ref z) "zip" := ⟨_,hz,rfl⟩
 unfold pyNext;exact wAa (wpAny_attempt (wpAny_callSpecial?_slot (name:=Str.ofString "__next__") hT F.slot_zip_next (wpAny_call_entry F.slot_zip_next hT F.entry_zip_next
   (w8 D hz hTI hTO h1 h2 ha hb hx hy fun h' a1 a2 a3 a4 a5 a6=>wBa (hQ h' a1 a2 a3 a4 a5 a6)) (F.args_zip_next_1 _))))
theorem kQ{u v:Value}{Q:Option Value->Shared->Prop}(hh:A.handled=none)(D:ZipApart z TI TO i1 i2 a b)(hz:IsZip s.heap z TI TO .none)(hTI:IsPair s.heap TI (.ref i1) (.ref i2))(hTO:IsPair s.heap TO u v)
  (h1:jC k s.heap i1 a n1) (h2:jC j s.heap i2 b n2) (ha:jB k s.heap a xs) (hb:jB j s.heap b ys) (hend:xs[n1]?=none∨ys[n2]?=none)
  (hQ:∀h',(∀c o,c≠z->c≠TO->c≠i1->c≠i2->s.heap.get? c=some o->h'.get? c=some o)->Q none { s with heap:=h' }):wpAny (model prog w) A (pyNext (.ref z)) Q E s:=by
 have hT:s.TypeIs (.ref z) "zip" := ⟨_,hz,rfl⟩
 unfold pyNext;refine wAa (wpAny_attempt (wpAny_callSpecial?_slot (name:=Str.ofString "__next__") hT F.slot_zip_next (wpAny_call_entry F.slot_zip_next hT F.entry_zip_next (wa hh D hz hTI hTO h1 h2 ha hb hend fun h' e hk he=>?_) (F.args_zip_next_1 _))));obtain⟨o,ho,hc⟩:=he;exact wAa (wpAny_isInstance (T := "StopIteration") (b:=true) ⟨o,ho,hc⟩ isSubtype_stop (wBa (hQ _ hk)))
end
section
variable {X:Cx} {pins:List (Addr×Obj)} {σ:St} {H:Hp} {s:Shared} {h':Heap}
theorem Inv.turnedL{t':Nat}{ch:List Addr}(I:Inv X pins σ H s)(hch:∀b∈ch,jY X pins H b)(k:∀c o,c∉ch->s.heap.get? c=some o->h'.get? c=some o):Inv X pins σ H { s with heap:=h',toks:=t' }:=by
 have nit:∀b u,H b=some u->b∉ch:=fun b u e z=>by rw[(hch b z).1]at e;cases e
 refine I.step (g':=s.gens) (d':=s.drawn) (ch:=ch) (fun b hb=>?_) (fun b o _ _ hc e _=>k b o hc e) (fun b o _ _ hc e _=>⟨o.slots,k b o hc e⟩) (fun _ _ _ _ n=>n)
  (fun b o hc e=>⟨o,k b o hc e⟩) (fun _ _ e=>e) (fun _ _ _ e=>e) (fun b ps e=>⟨#[],by rw[e];simp⟩) (fun m hm=>?_) (fun b u e=>?_) I.bare
 ·obtain⟨f0,f1,f2,f3,f4,f5⟩:=hch b hb;exact⟨f3,f1,f4,f5⟩
 ·obtain⟨o,es,ep,ho,r⟩:=hm;exact⟨o,es,ep,k _ o (fun z=>(hch _ z).2.1 rfl) ho,r⟩
 ·refine(I.hok b u e).stay (fun c v hc q=>k c v ?_ q) (fun _ q=>q) fun _ _ q=>q;rcases hc with z | z
  ·rw[z];exact nit b u e
  ·exact nit c _ z
theorem Inv.tupled{t':Nat}{ch:List Addr}{T:Addr}{vs:List V}{us:List Value}(I:Inv X pins σ H s)(hT:T=s.heap.objs.size)(hch:∀b∈ch,jY X pins H b)(k:∀c o,c∉ch->s.heap.get? c=some o->h'.get? c=some o)
  (r:jb vs us) (hz:vs.length<=sizeLine) (ht:IsTup h' T us.toArray):Inv X pins σ (upd H T (.tup vs)) { s with heap:=h',toks:=t' }:=by
 have nit:∀b u,H b=some u->b∉ch:=fun b u e z=>by rw[(hch b z).1]at e;cases e
 have nT:∀b o,s.heap.get? b=some o->b≠T:=fun b o e=>by rw[hT];exact wTa (wLa e)
 have fT:H T=none:=by rw[hT];exact I.hok.fresh (wPa _)
 refine I.step (g':=s.gens) (d':=s.drawn) (ch:=ch) (fun b hb=>?_) (fun b o _ _ hc e _=>k b o hc e) (fun b o _ _ hc e _=>⟨o.slots,k b o hc e⟩) (fun b o _ e n=>by rw[jc (nT b o e)];exact n)
  (fun b o hc e=>⟨o,k b o hc e⟩) (fun b xs e=>by rw[jc (jl e fT)];exact e) (fun b o u e=>by rw[jc (jl e fT)];exact e) (fun b ps e=>⟨#[],by rw[jc (jl e fT),e];simp⟩) (fun m hm=>?_) (fun b u e=>?_) I.bare
 ·obtain⟨f0,f1,f2,f3,f4,f5⟩:=hch b hb;exact⟨f3,f1,f4,f5⟩
 ·obtain⟨o,es,ep,ho,r⟩:=hm;exact⟨o,es,ep,k _ o (fun z=>(hch _ z).2.1 rfl) ho,r⟩
 ·by_cases hb:b=T
  ·subst hb;rw[jx]at e;cases e;exact⟨hz,us,r,ht⟩
  ·rw[jc hb]at e;refine(I.hok b u e).stay (fun c v hc q=>k c v ?_ q) (fun c q=>by rw[jc (jl q fT)];exact q) fun c xs q=>by rw[jc (jl q fT)];exact q
   rcases hc with z | z
   ·rw[z];exact nit b u e
   ·exact nit c _ z
theorem Inv.seqK{k:Sk}{a:Addr}{xs:List V}(I:Inv X pins σ H s)(h:Z3 X.K k H a xs):∃its:List Value,jb xs its/\jB k s.heap a its.toArray/\xs.length<=sizeLine:=by
 cases k
 ·obtain⟨its,r,p,z⟩:=I.list h;exact⟨its,r,p.isList,z⟩
 ·obtain⟨its,r,p,z⟩:=I.tuple h;exact⟨its,r,p,z⟩
theorem Inv.seqK_inj{k:Sk}{a:Addr}{xs ys:List V}(I:Inv X pins σ H s)(h:Z3 X.K k H a xs)(h':Z3 X.K k H a ys):xs=ys:=by
 cases k
 ·exact I.list_inj h h'
 ·exact I.tuple_inj h h'
end
theorem yV:2<=sizeLine:=by decide
def Bl(K:PySem.W.Frag)(k j:Sk)(a b:Addr):It:=
 ⟨fun i H=>∃xs ys x y,Z3 K k H a xs/\Z3 K j H b ys/\xs[i]?=some x/\ys[i]?=some y,
  fun i H v H'=>∃p,H p=none/\v=.ref p/\∀xs ys x y,Z3 K k H a xs->Z3 K j H b ys->xs[i]?=some x->ys[i]?=some y->H'=upd H p (.tup [x,y]),
  fun i H=>∃xs ys,Z3 K k H a xs/\Z3 K j H b ys/\(xs.length<=i∨ys.length<=i)⟩
theorem wb{P:Program}{w:World}{K:PySem.W.Frag}{es:List Expr}{x1:Nat}{tp:Pos}{k j:Sk}{a b z TI TO i1 i2:Addr}(D:ZipApart z TI TO i1 i2 a b):
  Turn P w K (.Tuple es x1 tp) (Bl K k j a b) [z,TI,TO,i1,i2] z (fun i h=>IsZip h z TI TO .none/\IsPair h TI (.ref i1) (.ref i2)/\(∃u v,IsPair h TO u v)/\jC k h i1 a i/\jC j h i2 b i) where
 mem:=by simp
 obj:=fun i h st c hc=>by
  obtain⟨s1,s2,⟨u,v,s3⟩,s4,s5⟩:=st;simp only[List.mem_cons,List.not_mem_nil,or_false]at hc;rcases hc with rfl | rfl | rfl | rfl | rfl
  ·exact⟨_,s1,fun v z=>by cases z⟩
  ·exact⟨_,s2,fun v z=>by cases z⟩
  ·exact⟨_,s3,fun v z=>by cases z⟩
  ·exact s4.obj
  ·exact s5.obj
 keep:=fun i h h' st kk=>by
  obtain⟨s1,s2,⟨u,v,s3⟩,s4,s5⟩:=st;exact⟨kk z (by simp) _ s1,kk TI (by simp) _ s2,⟨u,v,kk TO (by simp) _ s3⟩,s4.at fun o e=>kk i1 (by simp) o e,s5.at fun o e=>kk i2 (by simp) o e⟩
 item:=by
  intro X hP hw hK hc i pins s σ H E I hf st hg;subst hP hw hK;obtain⟨s1,s2,⟨u,v,s3⟩,s4,s5⟩:=st;obtain⟨xs,ys,x,y,qa,qb,ex,ey⟩:=hg;obtain⟨ia,ra,pa,_⟩:=I.seqK qa;obtain⟨ib,rb,pb,_⟩:=I.seqK qb;obtain⟨ux,eux,rx⟩:=ra.get ex;obtain⟨uy,euy,ry⟩:=rb.get ey;refine GD D s1 s2 s3 s4 s5 pa pb (x:=ux) (y:=uy) (by simpa using eux) (by simpa using euy) fun h' b1 b2 b3 b4 b5 bk=>?_;refine⟨_,rfl,wpAny_letOwnedTupleGo_zip b1 fun h2 c1 c2=>?_⟩;have F4:∀c∈[z,TO,i1,i2],jY X pins H c:=fun c hc=>hf c (by
   simp only[List.mem_cons,List.not_mem_nil,or_false]at hc⊢;rcases hc with q | q | q | q
   ·exact .inl q
   ·exact .inr (.inr (.inl q))
   ·exact .inr (.inr (.inr (.inl q)))
   ·exact .inr (.inr (.inr (.inr q))))
  have kp:∀c o,c∉[z,TO,i1,i2]->s.heap.get? c=some o->h2.get? c=some o:=fun c o hc e=>by
   simp only[List.mem_cons,List.not_mem_nil,or_false,not_or]at hc;exact c2.extBut c o hc.1 (bk c o hc.1 hc.2.1 hc.2.2.1 hc.2.2.2 e)
  have nz:s.heap.objs.size≠z:=Nat.ne_of_gt (wLa s1);have ht:IsTup h2 s.heap.objs.size ([ux,uy]:List Value).toArray:=⟨_,c2.extBut _ _ nz b5,rfl,_,rfl⟩
  have I2:=I.tupled (t':=s.toks) (h':=h2) rfl F4 kp (vs:=[x,y]) (us:=[ux,uy]) (.cons rx (.cons ry .nil)) yV ht;refine⟨.ref s.heap.objs.size,_,I2,rfl,⟨s.heap.objs.size,I.hok.fresh (wPa _),rfl,fun xs' ys' x' y' qa' qb' ex' ey'=>?_⟩,⟨c1,kp _ _ (by simp[D.TIz,D.TITO,D.TIi1,D.TIi2]) s2,⟨ux,uy,c2.extBut _ _ D.TOz b2⟩,b3.at fun o e=>c2.extBut _ o D.i1z e,b4.at fun o e=>c2.extBut _ o D.i2z e⟩,fun c hc=>?_⟩
  ·rw[I.seqK_inj qa' qa,ex]at ex';rw[I.seqK_inj qb' qb,ey]at ey';cases ex';cases ey';rfl
  ·have q:=(hf c hc).1;rw[jc ?_]
   ·exact q
   ·intro e;have:c < s.heap.objs.size:=by
     simp only[List.mem_cons,List.not_mem_nil,or_false]at hc;rcases hc with rfl | rfl | rfl | rfl | rfl
     ·exact wLa s1
     ·exact wLa s2
     ·exact wLa s3
     ·obtain⟨o,e,_⟩:=s4.obj;exact wLa e
     ·obtain⟨o,e,_⟩:=s5.obj;exact wLa e
    rw[e]at this;exact wUa _ this
 done:=by
  intro X hP hw hK hc i pins s σ H E I hf st hg;subst hP hw hK;obtain⟨s1,s2,⟨u,v,s3⟩,s4,s5⟩:=st;obtain⟨xs,ys,qa,qb,hend⟩:=hg;obtain⟨ia,ra,pa,_⟩:=I.seqK qa;obtain⟨ib,rb,pb,_⟩:=I.seqK qb;have la:=ra.length;have lb:=rb.length;have hend':ia.toArray[i]?=none∨ib.toArray[i]?=none:=by
   rcases hend with q | q
   ·exact .inl (by simp;omega)
   ·exact .inr (by simp;omega)
  refine kQ (I.ok.hd hc) D s1 s2 s3 s4 s5 pa pb hend' fun h' bk=>⟨rfl,?_⟩
  refine I.turnedL (t':=s.toks) (ch:=[z,TI,TO,i1,i2]) hf fun c o hc e=>?_;simp only[List.mem_cons,List.not_mem_nil,or_false,not_or]at hc;exact bk c o hc.1 hc.2.2.1 hc.2.2.2.1 hc.2.2.2.2 e
 self:=fun _ _ _ _ _ st h=>wpAny_pyIter_zip st.1 h
theorem j1.tup{K:PySem.W.Frag}{H H':Hp}{a:Addr}{xs:List V}(e:j1 H H')(h:jX K H a xs):jX K H' a xs:=by
 rcases h with(h | ⟨o,h⟩) | h
 ·exact .inl (.inl (e _ _ h))
 ·exact .inl (.inr ⟨o,e _ _ h⟩)
 ·exact .inr h
section
variable {X:Cx}
theorem wc(hc:X.calm=true):ya X (.builtin "all") (fun xs H Q=>∃(p:Addr) (bs:List Bool),xs=[.ref p]/\jj X.K H p (bs.map V.bl)/\Q (.bl (bs.all id)) H):=by
 intro pins s σ H xs us Q I r h;obtain⟨p,bs,e,hq,q⟩:=h;subst e;cases r with
 | cons r rr=>
  cases rr;cases r;obtain⟨its,rv,pl,hz⟩:=I.list hq;refine call_all_walk (wpAny_pyIter_list pl.isList ?_);have hp:p < s.heap.objs.size:=by obtain⟨o,ho,_⟩:=pl.isList;exact wLa ho
  have hlen:its.length=bs.length:=by have:=rv.length;simp at this;omega
  refine⟨s.heap.objs.size,_,_,_,_,_,fun i=>(bs[i]?).getD true,rfl,Walks.list (A:=X.A.in1) (I.ok.hd hc) s.heap.objs.size p (wTa hp) its.toArray,⟨⟨_,wJa _ rfl,rfl,rfl⟩,Heap.IsList.at pl.isList fun o e=>wIa _ e⟩,?_,fun h' tk hk=>?_⟩
  ·intro i v s' Q' E' hv hq';have hv:its[i]?=some v:=by simpa using hv
   have hi:i < bs.length:=by rw[<-hlen];exact(List.getElem?_eq_some_iff.mp hv).1
   obtain⟨u,eu,ru⟩:=rv.get (i:=i) (x:=V.bl bs[i]) (by simp[hi]);rw[hv]at eu;cases eu;cases ru;have e1:(bs[i]?).getD true=bs[i]:=by simp[hi]
   have hq':Q' ((bs[i]?).getD true) s':=hq';rw[e1]at hq';exact wpAny_truthy_bool hq'
  ·have e:((List.range its.toArray.size).all fun i=>(bs[i]?).getD true)=bs.all id:=by
    rw[List.size_toArray,hlen,Bool.eq_iff_iff];simp only[List.all_eq_true,List.mem_range,id];constructor
    ·intro hh x hx;obtain⟨i,hi,rfl⟩:=List.mem_iff_getElem.mp hx;have:=hh i hi;simpa[hi]using this
    ·intro hh i hi;have:=hh bs[i] (List.getElem_mem hi);simpa[hi]using this
   rw[e];have I':Inv X pins σ H { s with heap:=h',toks:=tk }:=I.turnedL (t':=tk) (ch:=[s.heap.objs.size]) (fun b hb=>by
    have e:b=s.heap.objs.size:=by simpa using hb
    subst e;exact I.fpOk (wPa _) (I.hok.fresh (wPa _))) (fun c o hc' e'=>hk c o hc' (wIa _ e'))
   exact⟨.bl (bs.all id),H,I',rfl,q⟩
inductive Kd where
 | i | b | s | l | t
def we(K:PySem.W.Frag)(H:Hp):V->Kd->Prop
 | .int _,.i=>True
 | .bl _,.b=>True
 | .str _,.s=>True
 | .ref a,.l=>∃xs,jj K H a xs
 | .ref a,.t=>∃xs,jX K H a xs
 | _,_=>False
@[simp] noncomputable def Z4:Kd->Nat
 | .i=>0 | .b=>1 | .s=>2 | .l=>3 | .t=>4
def vY(k:Kd)(T:String):Option Bool:=if T = "int" then some (Z4 k==0||Z4 k==1)else if T = "bool" then some (Z4 k==1)else if T = "str" then some (Z4 k==2)else if T = "list" then some (Z4 k==3)else if T = "tuple" then some (Z4 k==4)else none
theorem Zl{k:Kd}{T:String}{b:Bool}(h:vY k T=some b):(T = "int" /\(Z4 k==0||Z4 k==1)=b)∨(T = "bool" /\(Z4 k==1)=b)∨(T = "str" /\(Z4 k==2)=b)∨(T = "list" /\(Z4 k==3)=b)∨(T = "tuple" /\(Z4 k==4)=b):=by
 unfold vY at h;by_cases t1:T = "int"
 ·rw[if_pos t1]at h;exact .inl ⟨t1,vFa h⟩
 rw[if_neg t1]at h;by_cases t2:T = "bool"
 ·rw[if_pos t2]at h;exact .inr (.inl ⟨t2,vFa h⟩)
 rw[if_neg t2]at h;by_cases t3:T = "str"
 ·rw[if_pos t3]at h;exact .inr (.inr (.inl ⟨t3,vFa h⟩))
 rw[if_neg t3]at h;by_cases t4:T = "list"
 ·rw[if_pos t4]at h;exact .inr (.inr (.inr (.inl ⟨t4,vFa h⟩)))
 rw[if_neg t4]at h;by_cases t5:T = "tuple"
 ·rw[if_pos t5]at h;exact .inr (.inr (.inr (.inr ⟨t5,vFa h⟩)))
 rw[if_neg t5]at h;cases h
def xK(K:PySem.W.Frag):List V->Hp->VK->Prop:=fun xs H Q=>∃x T k b,xs=[x,.ty T]/\we K H x k/\vY k T=some b/\Q (.bl b) H
theorem wf:ya X (.builtin "isinstance") (xK X.K):=by
 intro pins s σ H xs us Q I r h;obtain⟨x,T,k,b,e,hk,hb,q⟩:=h;subst e;cases r with
 | cons r rr=>
  cases rr with
  | cons r' rr=>
   cases rr;cases r';have fin:∀tk,EP X pins σ Q (.bool b) { s with toks:=tk }:=fun tk=>⟨.bl b,H,I.tok tk,rfl,q⟩
   have fin0:EP X pins σ Q (.bool b) s:=⟨.bl b,H,I,rfl,q⟩
   cases k with
   | i=>
    cases x <;> try exact hk.elim
    obtain⟨t,rfl⟩:=r;rcases Zl hb with⟨rfl,rfl⟩ | ⟨rfl,rfl⟩ | ⟨rfl,rfl⟩ | ⟨rfl,rfl⟩ | ⟨rfl,rfl⟩
    all_goals (first | exact IsiPair.int_int fin0 | exact IsiPair.int_bool (fin _) | exact IsiPair.int_str (fin _) | exact IsiPair.int_list (fin _) | exact IsiPair.int_tuple (fin _))
   | b=>
    cases x <;> try exact hk.elim
    cases r;rcases Zl hb with⟨rfl,rfl⟩ | ⟨rfl,rfl⟩ | ⟨rfl,rfl⟩ | ⟨rfl,rfl⟩ | ⟨rfl,rfl⟩
    all_goals (first | exact IsiPair.bool_int fin0 | exact IsiPair.bool_bool fin0 | exact IsiPair.bool_str (fin _) | exact IsiPair.bool_list (fin _) | exact IsiPair.bool_tuple (fin _))
   | s=>
    cases x <;> try exact hk.elim
    obtain⟨t,rfl⟩:=r;rcases Zl hb with⟨rfl,rfl⟩ | ⟨rfl,rfl⟩ | ⟨rfl,rfl⟩ | ⟨rfl,rfl⟩ | ⟨rfl,rfl⟩
    all_goals (first | exact IsiPair.str_str fin0 | exact IsiPair.str_int (fin _) | exact IsiPair.str_bool (fin _) | exact IsiPair.str_list (fin _) | exact IsiPair.str_tuple (fin _))
   | l=>
    cases x <;> try exact hk.elim
    cases r;obtain⟨ys,hq⟩:=hk;obtain⟨its,rv,pl,_⟩:=I.list hq;obtain⟨o,ho,hc,_⟩:=pl.isList;rcases Zl hb with⟨rfl,rfl⟩ | ⟨rfl,rfl⟩ | ⟨rfl,rfl⟩ | ⟨rfl,rfl⟩ | ⟨rfl,rfl⟩
    all_goals (first | exact IsiPair.list_list ho hc fin0 | exact IsiPair.list_int ho hc (fin _) | exact IsiPair.list_bool ho hc (fin _) | exact IsiPair.list_str ho hc (fin _) | exact IsiPair.list_tuple ho hc (fin _))
   | t=>
    cases x <;> try exact hk.elim
    cases r;obtain⟨ys,hq⟩:=hk;obtain⟨its,rv,pl,_⟩:=I.tuple hq;obtain⟨o,ho,hc,_⟩:=pl;rcases Zl hb with⟨rfl,rfl⟩ | ⟨rfl,rfl⟩ | ⟨rfl,rfl⟩ | ⟨rfl,rfl⟩ | ⟨rfl,rfl⟩
    all_goals (first | exact IsiPair.tuple_tuple ho hc fin0 | exact IsiPair.tuple_int ho hc (fin _) | exact IsiPair.tuple_bool ho hc (fin _) | exact IsiPair.tuple_str ho hc (fin _) | exact IsiPair.tuple_list ho hc (fin _))
noncomputable def zL:Kd->Bool
 | .l=>true
 | .t=>true
 | _=>false
def WC(K:PySem.W.Frag)(te:TE):TE:=fun σ H Q=>te σ H fun x H1=>∃k,we K H1 x k/\∀p,H1 p=none->Q (.bl (zL k)) (upd H1 p (.tup [.ty "list",.ty "tuple"]))
theorem qV{e:Expr}{te:TE}{p p1 p2 tp pos:Pos}{x1:Nat}(hgi:Gl X "isinstance")(hmi:X.mg "isinstance" = none)(hgl:Gl X "list")(hml:X.mg "list" = none)(hgt:Gl X "tuple")(hmt:X.mg "tuple" = none)(he:PE X e te)
  (hs:starEach [e,.Tuple [.Name "list" p1,.Name "tuple" p2] x1 tp] X.env=(false,eval e X.env)::starEach [.Tuple [.Name "list" p1,.Name "tuple" p2] x1 tp] X.env:=by rfl)
  (hs2:starEach [.Tuple [.Name "list" p1,.Name "tuple" p2] x1 tp] X.env=(false,eval (.Tuple [.Name "list" p1,.Name "tuple" p2] x1 tp) X.env)::starEach [] X.env:=by rfl):
  PE X (.Call (.Name "isinstance" p) [e,.Tuple [.Name "list" p1,.Name "tuple" p2] x1 tp] [] pos) (WC X.K te):=by
 intro pins s σ H Q I h;refine wpAny_Call_Name_kw (yT I hgi hmi boot_isinstance ?_);refine PyProof.Rows.callWith_builtin1 ?_ hs (by rw[hs2];rfl);rw[hs];show wpAny _ _ (spliced ((false,eval e X.env)::backTo pos (starEach [.Tuple [.Name "list" p1,.Name "tuple" p2] x1 tp] X.env))) _ _ s;refine Calls.spliced_cons (jg (he pins s σ H _ I h) fun u s1 xx=>?_);obtain⟨x,H1,I1,r1,k,hk,q⟩:=xx;rw[hs2];show wpAny _ _ (spliced ((false,eval (.Tuple [.Name "list" p1,.Name "tuple" p2] x1 tp) X.env)::backTo pos (starEach [] X.env))) _ _ s1;refine Calls.spliced_cons ?_;have hpa:PA X [.Name "list" p1,.Name "tuple" p2] (yb (tC (.ty "list")) (yb (tC (.ty "tuple")) zJ)):=jz (Vv hgl hml boot_list rfl) (jz (Vv hgt hmt boot_tuple rfl) J4);refine wpAny_Tuple_spliced (jg (hpa tp pins s1 σ H1 (fun vs H2=>vs=[.ty "list",.ty "tuple"]/\H2=H1) I1 ⟨rfl,rfl⟩) fun us s2 xx=>?_);obtain⟨xs,H2,I2,r2,e1,e2⟩:=xx;subst e1 e2;have eu:us=[.type "list",.type "tuple"]:=by
  cases r2 with
  | cons a b=>
   cases b with
   | cons c d=>
    cases d;cases a;cases c;rfl
 subst eu;refine⟨yV,Calls.spliced_nil ?_⟩;have hf:H2 s2.heap.objs.size=none:=I2.hok.fresh (wPa _);have I3:=I2.laid (h':=s2.heap.push { cls:=.type "tuple",data:=.seq ([.type "list",.type "tuple"]:List Value).toArray }) (t':=s2.toks) (o:=.tup [.ty "list",.ty "tuple"]) (fun b u e=>wIa _ e) (wPa _)
  ⟨yV,[.type "list",.type "tuple"],.cons rfl (.cons rfl .nil),⟨_,wJa _ rfl,rfl,_,rfl⟩⟩
 have fin:∀b tk,b=zL k->EP X pins σ Q (.bool b) { s2 with heap:=s2.heap.push { cls:=.type "tuple",data:=.seq ([.type "list",.type "tuple"]:List Value).toArray },toks:=tk }:=fun b tk eb=>by
  subst eb;exact⟨.bl (zL k),_,I3.tok tk,rfl,q _ hf⟩
 have tob:∀a o,s2.heap.get? a=some o->(s2.heap.push { cls:=.type "tuple",data:=.seq ([.type "list",.type "tuple"]:List Value).toArray }).get? a=some o:=fun a o e=>wIa _ e;cases k with
 | i=>
  cases x <;> try exact hk.elim
  obtain⟨t,rfl⟩:=r1;exact IsiPair.tupleOf (Tx := "int") (cs:=[.type "list",.type "tuple"]) (vs:=[false,false]) ⟨Answers.of_false_int (by decide +kernel) F.isi_meta_list F.sub_int_list,Answers.of_false_int (by decide +kernel) F.isi_meta_tuple F.sub_int_tuple,trivial⟩ rfl (wJa _ rfl) fun tk=>fin _ tk rfl
 | b=>
  cases x <;> try exact hk.elim
  cases r1;exact IsiPair.tupleOf (Tx := "bool") (cs:=[.type "list",.type "tuple"]) (vs:=[false,false]) ⟨Answers.of_false_bool (by decide +kernel) F.isi_meta_list F.sub_bool_list,Answers.of_false_bool (by decide +kernel) F.isi_meta_tuple F.sub_bool_tuple,trivial⟩ rfl (wJa _ rfl) fun tk=>fin _ tk rfl
 | s=>
  cases x <;> try exact hk.elim
  obtain⟨t,rfl⟩:=r1;exact IsiPair.tupleOf (Tx := "str") (cs:=[.type "list",.type "tuple"]) (vs:=[false,false]) ⟨Answers.of_false_str (by decide +kernel) F.isi_meta_list F.sub_str_list,Answers.of_false_str (by decide +kernel) F.isi_meta_tuple F.sub_str_tuple,trivial⟩ rfl (wJa _ rfl) fun tk=>fin _ tk rfl
 | l=>
  cases x <;> try exact hk.elim
  cases r1;obtain⟨ys,hq⟩:=hk;obtain⟨its,rv,pl,_⟩:=I2.list hq;obtain⟨o,ho,hc,_⟩:=pl.isList;exact IsiPair.tupleOf (Tx := "list") (cs:=[.type "list",.type "tuple"]) (vs:=[true,false]) ⟨Answers.of_true F.isi_meta_list F.sub_list_list,Answers.of_false_list (by decide +kernel) F.isi_meta_tuple F.sub_list_tuple,trivial⟩ ⟨o,tob _ _ ho,hc⟩ (wJa _ rfl) fun tk=>fin _ tk rfl
 | t=>
  cases x <;> try exact hk.elim
  cases r1;obtain⟨ys,hq⟩:=hk;obtain⟨its,rv,pl,_⟩:=I2.tuple hq;obtain⟨o,ho,hc,_⟩:=pl;exact IsiPair.tupleOf (Tx := "tuple") (cs:=[.type "list",.type "tuple"]) (vs:=[false,true]) ⟨Answers.of_false_tuple (by decide +kernel) F.isi_meta_list F.sub_tuple_list,Answers.of_true F.isi_meta_tuple F.sub_tuple_tuple,trivial⟩ ⟨o,tob _ _ ho,hc⟩ (wJa _ rfl) fun tk=>fin _ tk rfl
end
def qW(r r' r'':R2)(ta tb tc td:TE):TE:=fun σ H Q=>ta σ H fun x H1=>tb σ H1 fun y H2=>r x y H2 fun z H3=>∃k,z=.bl k/\
 (if k=true then tc σ H3 fun w' H4=>r' y w' H4 fun z' H5=>∃k',z'=.bl k'/\(if k'=true then td σ H5 fun q H6=>r'' w' q H6 Q else Q (.bl false) H5)else Q (.bl false) H3)
section
variable {X:Cx} {a b c d:Expr} {ta tb tc td:TE} {pos:Pos}
theorem kR{op op' op'':CmpOp}{r r' r'':R2}(ho:jt X (compareOp op) r)(ho':jt X (compareOp op') r')(ho'':jt X (compareOp op'') r'')(ha:PE X a ta)(hb:PE X b tb)(hc:PE X c tc)(hd:PE X d td)
  (hm:lastMarks [op,op',op''] [b,c,d]=false:=by with_unfolding_all rfl):PE X (.Compare a [op,op',op''] [b,c,d] pos) (qW r r' r'' ta tb tc td):=by
 intro pins s σ H Q I h;refine Compare_chain (jg (ha pins s σ H _ I h) fun v s1 ⟨x,H1,I1,r1,q1⟩=>chain_link (jg (hb pins s1 σ H1 _ I1 q1) fun u s2 ⟨y,H2,I2,r2,q2⟩=>
  jg (ho pins s2 σ H2 x y v u _ I2 r1 r2 q2) fun _ s3 ⟨z,H3,I3,r3,k,e,q3⟩=>?_)) hm
 subst e;cases r3;refine wpAny_truthy_bool ?_;cases k with
 | false=>exact ite_ff ⟨.bl false,H3,I3,rfl,q3⟩
 | true=>
  refine ite_tt (chain_link (jg (hc pins s3 σ H3 _ I3 q3) fun w' s4 ⟨z',H4,I4,r4,q4⟩=>jg (ho' pins s4 σ H4 y z' u w' _ I4 r2 r4 q4) fun _ s5 xx=>?_));obtain⟨z5,H5,I5,r5,k5,e5,q5⟩:=xx;subst e5;cases r5;refine wpAny_truthy_bool ?_;cases k5 with
  | false=>exact ite_ff ⟨.bl false,H5,I5,rfl,q5⟩
  | true=>exact ite_tt (chain_last (jg (hd pins s5 σ H5 _ I5 q5) fun w6 s6 ⟨z6,H6,I6,r6,q6⟩=>ho'' pins s6 σ H6 z' z6 w' w6 Q I6 r4 r6 q6))
end
section
variable {X:Cx}
open PySem.SeqAt
end
structure FnI (P:Program) (w:World) (K:PySem.W.Frag) (mg:Str->Option Value) (base:Heap) (k:Nat) (x:Str) (ps:List Str) (sp:Sp):Prop where
 ex:∃f fd,FnOk P w K mg base JB k f fd ps sp/\yc K fd ps []/\PySem.W.keepIn K (.ref f)=true/\mg x=some (.ref f)
structure MtI (P:Program) (w:World) (K:PySem.W.Frag) (mg:Str->Option Value) (base:Heap) (k:Nat) (C:Addr) (m:Str) (ps:List Str) (sp:Sp):Prop where
 ex:∃f fd,FnOk P w K mg base JB k f fd ps sp/\yc K fd ps []/\Meth K C m f
structure MkI (P:Program) (w:World) (K:PySem.W.Frag) (mg:Str->Option Value) (base:Heap) (k:Nat) (C:Addr) (x:Str) (ps:List Str) (sp:Sp):Prop where
 ex:∃f fd,FnOk P w K mg base JB k f fd ps sp/\yc K fd ps []/\Mk K C f/\mg x=some (.ref C)
section
variable {X:Cx} {k:Nat} {x m:Str} {ps:List Str} {sp:Sp} {p pos apos:Pos} {e o:Expr} {es:List Expr} {t:TA} {ta:TE} {C:Addr}
theorem GE(F:FnI X.prog X.w X.K X.mg X.base k x ps sp)(hr:Room k X.A)(ha:PA X (e::es) t)(hg:Gl X x:=by rfl)(hdb:(x==("__debug__" : Str))=false:=by decide)
  (he:starEach (e::es) X.env=(false,eval e X.env)::starEach es X.env:=by rfl) (hpl:(backTo pos (starEach es X.env)).any (·.1)=false:=by rfl):PE X (.Call (.Name x p) (e::es) [] pos) (Gy sp [] E0 t):=by
 obtain⟨f,fd,G,b,kp,hm⟩:=F.ex;exact qJ G hr hg hm kp b .nil GB ha hdb he hpl
theorem kS{pl:Sem Bool}(he:PE X o ta)(c:Cls X.K C)(M:MtI X.prog X.w X.K X.mg X.base k C m ps sp)(hr:Room k X.A)
  (ht:eval (.Call (.Attribute o m apos) [] [] pos) X.env=(do
   let ov<-eval o X.env
   standAt apos.atName
   let (f,first)<-holding [ov] (getMethod ov m pl)
   callWith pos f first (backTo pos (starEach [] X.env)) (backToKw pos (keywordEach [] X.env))):=by rfl):
  PE X (.Call (.Attribute o m apos) [] [] pos) (Wt C m sp [] E0 ta zJ):=by
 obtain⟨f,fd,G,b,hm⟩:=M.ex;exact KR he c hm G hr b .nil GB ht
theorem AS(M:MkI X.prog X.w X.K X.mg X.base k C x ps sp)(hr:Room (k+1) X.A)(ha:PA X (e::es) t)(hg:Gl X x:=by rfl)(hdb:(x==("__debug__" : Str))=false:=by decide)
  (he:starEach (e::es) X.env=(false,eval e X.env)::starEach es X.env:=by rfl) (hpl:(backTo pos (starEach es X.env)).any (·.1)=false:=by rfl):PE X (.Call (.Name x p) (e::es) [] pos) (Wu C sp [] E0 t):=by
 obtain⟨f,fd,G,b,mk,hm⟩:=M.ex;exact qK mk G hr hg hm b .nil GB ha hdb he hpl
theorem xL(ho:PE X o ta)(ha:PA X [e] t)(hbase:attributeBase o "append" X.env (eval o X.env)=eval o X.env:=by rfl)
  (hfew:((backTo pos (starEach [e] X.env)).all (fun x=>!x.1)&&(backToKw pos (keywordEach [] X.env)).all (fun x=>x.1.isSome)
   && decide (([e]:List Expr).length+([]:List Keyword).length+(if ([]:List Keyword).isEmpty then 0 else 1) < 30))=true:=by rfl)
  (hline:(apos.endLine==pos.line)=true:=by rfl) (hs:starEach [e] X.env=(false,eval e X.env)::starEach [] X.env:=by rfl) (hplain:(backTo pos (starEach [] X.env)).any (·.1)=false:=by rfl):
  PE X (.Call (.Attribute o "append" apos) [e] [] pos) (Wx X.K "list" ZH ta t):=
 vW PySem.F.plainAttrs_list PySem.F.slot_list_append PySem.F.type_list_append kM ho ha hbase hfew hline hs hplain
end
theorem CM{X:Cx}{x:Str}{i:Int}{pos:Pos}(hm:∃t,X.mg x=some (.int i t))(hg:Gl X x:=by rfl)(hd:(x==("__debug__" : Str))=false:=by decide):PE X (.Name x pos) (tC (.int i)):=by
 obtain⟨t,h⟩:=hm;exact Vu hg h ⟨t,rfl⟩ hd
theorem jp{H:Hp}{p:Addr}(h:H p=none)(o:HO):j1 H (upd H p o):=fun b u q=>by rw[jc (jl q h)];exact q
theorem j1.upd{H0 H:Hp}{p:Addr}(s:j1 H0 H)(h:H0 p=none)(o:HO):j1 H0 (upd H p o):=fun b u q=>by rw[jc (jl q h)];exact s b u q
theorem j1.none{H H':Hp}(s:j1 H H'){p:Addr}(h:H' p=Option.none):H p=Option.none:=s.free h
theorem AU{n:Nat}(h:n<=1000):n<=sizeLine:=wQa (kN h)
noncomputable abbrev T3:=Int×Int×Int
noncomputable def kT:HO->Bool
 | .tup _=>true
 | .frz _ (.tup _)=>true
 | _=>false
def vZ(H H':Hp):Prop:=∀b o,kT o=true->H b=some o->H' b=some o
theorem vZ.sqT{K:PySem.W.Frag}{H H':Hp}{a:Addr}{xs:List V}(k:vZ H H')(h:jX K H a xs):jX K H' a xs:=by
 rcases h with(h | ⟨o,h⟩) | h
 ·exact .inl (.inl (k _ _ rfl h))
 ·exact .inl (.inr ⟨o,k _ _ rfl h⟩)
 ·exact .inr h
def Bm(K:PySem.W.Frag)(a:Addr):It:=
 ⟨fun i H=>∃xs x,jj K H a xs/\xs[i]?=some x,fun i H v H'=>∃p,H p=none/\v=.ref p/\∀xs x,jj K H a xs->xs[i]?=some x->H'=upd H p (.tup [.int i,x]),fun i H=>∃xs,jj K H a xs/\xs.length<=i⟩
theorem kU{P:Program}{w:World}{K:PySem.W.Frag}{es:List Expr}{x1:Nat}{tp:Pos}{a e it:Addr}(hei:e≠it)(hle:a≠e)(hli:a≠it):
  Turn P w K (.Tuple es x1 tp) (Bm K a) [e,it] e (fun i h=>(∃old,IsEnum h e it (i:Nat) old)/\h.IsListIter it a i) where
 mem:=by simp
 obj:=fun i h st c hc=>by
  obtain⟨⟨old,s1⟩,s2⟩:=st;simp only[List.mem_cons,List.not_mem_nil,or_false]at hc;rcases hc with rfl | rfl
  ·exact⟨_,s1,fun v z=>by cases z⟩
  ·obtain⟨o,ho,_,d⟩:=s2;exact⟨o,ho,fun v z=>by rw[d]at z;cases z⟩
 keep:=fun i h h' st kk=>by
  obtain⟨⟨old,s1⟩,s2⟩:=st;exact⟨⟨old,kk e (by simp) _ s1⟩,s2.at fun o z=>kk it (by simp) o z⟩
 item:=by
  intro X hP hw hK hc i pins s σ H E I hf st hg;subst hP hw hK;obtain⟨⟨old,s1⟩,s2⟩:=st;obtain⟨xs,x,qa,ex⟩:=hg;obtain⟨ia,ra,pa,_⟩:=I.list qa;obtain⟨ux,eux,rx⟩:=ra.get ex;refine wpAny_pyNext_enum_item s1 s2 pa.isList (x:=ux) (by simpa using eux) hei fun h' b1 b2 b3 b4 bk=>?_;refine⟨_,rfl,wpAny_letOwnedTupleGo_enum b1 fun h2 c1 c2=>?_⟩;have lt1:e < s.heap.objs.size:=wLa s1;have lt2:it < s.heap.objs.size:=by obtain⟨o,ho,_⟩:=s2;exact wLa ho
  have kp:∀c o,c∉[e,it]->s.heap.get? c=some o->h2.get? c=some o:=fun c o hc z=>by
   simp only[List.mem_cons,List.not_mem_nil,or_false,not_or]at hc;exact c2.extBut c o hc.1 (bk c o hc.1 hc.2 z)
  have ht:IsTup h2 s.heap.objs.size ([.int i s.toks,ux]:List Value).toArray:=⟨_,c2.extBut _ _ (Nat.ne_of_gt lt1) b3,rfl,_,rfl⟩
  have I2:=I.tupled (t':=s.toks+1) (h':=h2) rfl hf kp (vs:=[.int i,x]) (us:=[.int i s.toks,ux]) (.cons ⟨_,rfl⟩ (.cons rx .nil)) yV ht;refine⟨.ref s.heap.objs.size,_,I2,rfl,⟨s.heap.objs.size,I.hok.fresh (wPa _),rfl,fun xs' x' qa' ex'=>?_⟩,⟨⟨ux,by simpa using c1⟩,b2.at fun o z=>c2.extBut _ o hei.symm z⟩,fun c hc=>?_⟩
  ·rw[I.list_inj qa' qa,ex]at ex';cases ex';rfl
  ·have q:=(hf c hc).1;rw[jc ?_]
   ·exact q
   ·intro z;simp only[List.mem_cons,List.not_mem_nil,or_false]at hc;rcases hc with rfl | rfl
    ·rw[z]at lt1;exact wUa _ lt1
    ·rw[z]at lt2;exact wUa _ lt2
 done:=by
  intro X hP hw hK hc i pins s σ H E I hf st hg;subst hP hw hK;obtain⟨⟨old,s1⟩,s2⟩:=st;obtain⟨xs,qa,hend⟩:=hg;obtain⟨ia,ra,pa,_⟩:=I.list qa;have la:=ra.length;refine wpAny_pyNext_enum_end (I.ok.hd hc) s1 s2 pa.isList (by simp;omega) fun h' bk=>⟨rfl,?_⟩
  refine I.turnedL (t':=s.toks) (ch:=[e,it]) hf fun c o hc z=>?_;simp only[List.mem_cons,List.not_mem_nil,or_false,not_or]at hc;exact bk c o hc.2 z
 self:=fun _ _ _ _ _ st h=>by
  obtain⟨⟨old,s1⟩,s2⟩:=st;exact wpAny_pyIter_enum s1 h
theorem u6:bootBuiltins "enumerate" = some (.type "enumerate"):=by decide +kernel
def AV(K:PySem.W.Frag)(ta:TA):TI:=fun σ H R=>ta σ H fun vs H1=>∃a xs,vs=[.ref a]/\jj K H1 a xs/\R (Bm K a) H1
theorem qX{X:Cx}{es:List Expr}{x1:Nat}{tp:Pos}{e1:Expr}{ta:TA}{p pos:Pos}(hg:Gl X "enumerate")(hm:X.mg "enumerate" = none)(ha:PA X [e1] ta)(hs:starEach [e1] X.env=[(false,eval e1 X.env)]:=by rfl):
  PI X (.Tuple es x1 tp) (.Call (.Name "enumerate" p) [e1] [] pos) (AV X.K ta):=by
 intro pins s σ H R I h;refine Call_ (yT I hg hm u6 (PyProof.Rows.callWith_type1 (jg (ha pos pins s σ H _ I h) fun us s1 xx=>?_) hs rfl));obtain⟨vs,H1,I1,r1,q1⟩:=xx;obtain⟨a,xs,e,qa,q⟩:=q1;subst e;cases r1 with
 | cons r rr=>
  cases rr;cases r;obtain⟨ia,ra,pa,_⟩:=I1.list qa;have lt:a < s1.heap.objs.size:=by obtain⟨o,ho,_⟩:=pa.isList;exact wLa ho
  refine call_enumerate_list pa.isList fun h' b1 b2 b3 bk=>?_;refine wpAny_pyIter_enum b1 ?_;have fr:∀m,jY X pins H1 (s1.heap.objs.size+m):=fun m=>I1.fpOk (vKa _ _) (I1.hok.fresh (vKa _ _));refine⟨_,_,_,_,H1,rfl,I1.kept (t':=s1.toks) bk,kU (a:=a) (e:=s1.heap.objs.size+1) (it:=s1.heap.objs.size) (Nat.ne_of_gt (Nat.lt_succ_self _)) (wTa (Nat.lt_succ_of_lt lt)) (wTa lt),⟨⟨_,b1⟩,b2⟩,fun c hc=>?_,q⟩;simp only[List.mem_cons,List.not_mem_nil,or_false]at hc;rcases hc with rfl | rfl
  ·exact fr 1
  ·exact fr 0
end L2
namespace DS
open PySem PySem.Spec PyProof.Rows L2
inductive D where
 | non | bl (b:Bool) | int (i:Int) | str (x:Str) | tup (l:List D) | lst (l:List D) | ins (C:Addr) (ns:List Str) (ds:List D) | scr (ns:List Int) | dct (ks vs:List D)
mutual
noncomputable def xM:D->Option KD
 | .int n=>some (.i n)
 | .bl b=>some (.i (if b then 1 else 0))
 | .str x=>some (.s x)
 | .tup l=>(WD l).bind fun ks=>some (.t ks)
 | _=>none
noncomputable def WD:List D->Option (List KD)
 | []=>some []
 | d::ds=>(xM d).bind fun k=>(WD ds).bind fun ks=>some (k::ks)
end
def AW:D->Option KD
 | .tup l=>(xM (.tup l)).bind fun k=>if k.dep<=8 then some k else none
 | _=>none
def U2:List D->Option (List KD)
 | []=>some []
 | d::ds=>(AW d).bind fun k=>(U2 ds).bind fun ks=>some (k::ks)
mutual
noncomputable def j5(K:PySem.W.Frag)(H:Hp):D->V->Prop
 | .non,v=>v=.non
 | .bl b,v=>v=.bl b
 | .int i,v=>v=.int i
 | .str x,v=>v=.str x
 | .tup l,v=>∃a xs,v=.ref a/\jX K H a xs/\j3 K H l xs
 | .lst l,v=>∃a xs,v=.ref a/\H a=some (.lst xs)/\j3 K H l xs
 | .scr ns,v=>∃a,v=.ref a/\jj K H a (ns.map V.int)
 | .ins C ns l,v=>∃a dx xs,v=.ref a/\H a=some (.ins C dx (ns.zip xs))/\ns.length=xs.length/\j3 K H l xs
 | .dct ks vs,v=>∃a kvs ep,v=.ref a/\H a=some (.dD kvs ep)/\U2 ks=some (kvs.map (·.1))/\j3 K H ks (kvs.map fun p=>V.ref p.2.1)/\j3 K H vs (kvs.map (·.2.2))
noncomputable def j3(K:PySem.W.Frag)(H:Hp):List D->List V->Prop
 | [],vs=>vs=[]
 | d::ds,vs=>∃v r,vs=v::r/\j5 K H d v/\j3 K H ds r
end
mutual
theorem j5.same{K:PySem.W.Frag}{H H':Hp}(e:j1 H H'):∀{d:D} {v:V},j5 K H d v->j5 K H' d v
 | .non,_,h=>h
 | .bl _,_,h=>h
 | .int _,_,h=>h
 | .str _,_,h=>h
 | .tup l,_,h=>by
  rw[j5]at h⊢;obtain⟨a,xs,rfl,q,r⟩:=h;exact⟨a,xs,rfl,e.tup q,j3.same e r⟩
 | .lst l,_,h=>by
  rw[j5]at h⊢;obtain⟨a,xs,rfl,q,r⟩:=h;exact⟨a,xs,rfl,e _ _ q,j3.same e r⟩
 | .scr ns,_,h=>by
  rw[j5]at h⊢;obtain⟨a,rfl,q⟩:=h;exact⟨a,rfl,e.seq q⟩
 | .ins C ns l,_,h=>by
  rw[j5]at h⊢;obtain⟨a,dx,xs,rfl,q,n,r⟩:=h;exact⟨a,dx,xs,rfl,e _ _ q,n,j3.same e r⟩
 | .dct ks vs,_,h=>by
  rw[j5]at h⊢;obtain⟨a,kvs,ep,rfl,q,n,r1,r2⟩:=h;exact⟨a,kvs,ep,rfl,e _ _ q,n,j3.same e r1,j3.same e r2⟩
theorem j3.same{K:PySem.W.Frag}{H H':Hp}(e:j1 H H'):∀{ds:List D} {vs:List V},j3 K H ds vs->j3 K H' ds vs
 | [],_,h=>h
 | d::ds,_,h=>by
  rw[j3]at h⊢;obtain⟨v,r,rfl,a,b⟩:=h;exact⟨v,r,rfl,j5.same e a,j3.same e b⟩
end
section
variable {K:PySem.W.Frag} {H:Hp}
theorem j3.len:∀{ds:List D} {vs:List V},j3 K H ds vs->vs.length=ds.length
 | [],_,h=>by rw[j3]at h;subst h;rfl
 | d::ds,_,h=>by
  rw[j3]at h;obtain⟨v,r,rfl,a,b⟩:=h;rw[List.length_cons,List.length_cons,j3.len b]
theorem j3.get:∀{ds:List D} {vs:List V} {i:Nat} {d:D},j3 K H ds vs->ds[i]?=some d->∃v,vs[i]?=some v/\j5 K H d v
 | [],_,_,_,h,e=>by simp at e
 | d::ds,_,0,_,h,e=>by
  rw[j3]at h;obtain⟨v,r,rfl,a,b⟩:=h;simp at e;subst e;exact⟨v,rfl,a⟩
 | d::ds,_,i+1,d',h,e=>by
  rw[j3]at h;obtain⟨v,r,rfl,a,b⟩:=h;obtain⟨v',e',q⟩:=j3.get (i:=i) b (by simpa using e);exact⟨v',by simpa using e',q⟩
theorem j3.nil:j3 K H [] []:=by rw[j3]
theorem j3.cons{d:D}{ds:List D}{v:V}{vs:List V}(a:j5 K H d v)(b:j3 K H ds vs):j3 K H (d::ds) (v::vs):=by rw[j3];exact⟨v,vs,rfl,a,b⟩
theorem j3.app:∀{ds es:List D} {vs us:List V},j3 K H ds vs->j3 K H es us->j3 K H (ds++es) (vs++us)
 | [],_,_,_,h,g=>by rw[j3]at h;subst h;exact g
 | d::ds,es,_,us,h,g=>by
  rw[j3]at h;obtain⟨u,r,rfl,a,b⟩:=h;exact j3.cons a (j3.app b g)
theorem j3.snoc{d:D}{v:V}{ds:List D}{vs:List V}(h:j3 K H ds vs)(q:j5 K H d v):j3 K H (ds++[d]) (vs++[v]):=h.app (j3.cons q j3.nil)
theorem j3.drop:∀{ds:List D} {vs:List V} (n:Nat),j3 K H ds vs->j3 K H (ds.drop n) (vs.drop n)
 | _,_,0,h=>h
 | [],_,n+1,h=>by rw[j3]at h;subst h;exact j3.nil
 | d::ds,_,n+1,h=>by
  rw[j3]at h;obtain⟨u,r,rfl,a,b⟩:=h;exact j3.drop n b
theorem j3.take:∀{ds:List D} {vs:List V} (n:Nat),j3 K H ds vs->j3 K H (ds.take n) (vs.take n)
 | _,_,0,h=>j3.nil
 | [],_,n+1,h=>by rw[j3]at h;subst h;exact j3.nil
 | d::ds,_,n+1,h=>by
  rw[j3]at h;obtain⟨u,r,rfl,a,b⟩:=h;exact j3.cons a (j3.take n b)
theorem j3.set{d:D}{v:V}(q:j5 K H d v):∀{ds:List D} {vs:List V} (n:Nat),j3 K H ds vs->j3 K H (ds.set n d) (vs.set n v)
 | [],_,n,h=>by rw[j3]at h;subst h;exact j3.nil
 | e::ds,_,0,h=>by
  rw[j3]at h;obtain⟨u,r,rfl,a,b⟩:=h;exact j3.cons q b
 | e::ds,_,n+1,h=>by
  rw[j3]at h;obtain⟨u,r,rfl,a,b⟩:=h;exact j3.cons a (j3.set q n b)
end
noncomputable def j4(H:Hp)(O:List Addr):Hp:=fun b=>if b∈O then none else H b
theorem Yq{H:Hp}{O:List Addr}{b:Addr}(h:b∈O):j4 H O b=none:=if_pos h
theorem jq{H:Hp}{O:List Addr}{b:Addr}(h:b∉O):j4 H O b=H b:=if_neg h
theorem jL{H:Hp}{O:List Addr}{b:Addr}{o:HO}(h:j4 H O b=some o):b∉O/\H b=some o:=by
 by_cases hb:b∈O
 ·rw[Yq hb]at h;cases h
 ·rw[jq hb]at h;exact⟨hb,h⟩
theorem yx{H:Hp}{O:List Addr}:j1 (j4 H O) H:=fun b o h=>(jL h).2
theorem jP{H:Hp}{O O':List Addr}(s:∀a∈O',a∈O):j1 (j4 H O) (j4 H O'):=fun b o h=>by
 obtain⟨h1,h2⟩:=jL h;rw[jq (fun z=>h1 (s b z))];exact h2
theorem j9{H H':Hp}{O:List Addr}(s:j1 H H'):j1 (j4 H O) (j4 H' O):=fun b o h=>by
 obtain⟨h1,h2⟩:=jL h;rw[jq h1];exact s _ _ h2
theorem yW{H H':Hp}{O:List Addr}{l:Addr}(s:j1 H H')(hl:H l=none):j1 (j4 H O) (j4 H' (l::O)):=fun b o h=>by
 obtain⟨h1,h2⟩:=jL h;have ne:b≠l:=jl h2 hl;rw[jq (by intro z;rcases List.mem_cons.mp z with z | z;exact ne z;exact h1 z)];exact s _ _ h2
theorem J5{H:Hp}{O:List Addr}{l:Addr}{o:HO}(h:l∈O):j4 (upd H l o) O=j4 H O:=by
 funext b;by_cases hb:b∈O
 ·rw[Yq hb,Yq hb]
 ·rw[jq hb,jq hb,jc (fun e=>hb (by rw[e];exact h))]
inductive OD where
 | lst (ds:List D) | ins (C:Addr) (ns:List Str) (ds:List D) | dct (ks vs:List D)
@[simp] noncomputable def OD.toD:OD->D
 | .lst ds=>.lst ds
 | .ins C ns ds=>.ins C ns ds
 | .dct ks vs=>.dct ks vs
def Ja(K:PySem.W.Frag)(H Hd:Hp)(l:Addr):OD->Prop
 | .lst ds=>∃vs,H l=some (.lst vs)/\j3 K Hd ds vs
 | .ins C ns ds=>∃dx vs,H l=some (.ins C dx (ns.zip vs))/\ns.length=vs.length/\j3 K Hd ds vs
 | .dct ks vs=>∃kvs ep,H l=some (.dD kvs ep)/\U2 ks=some (kvs.map (·.1))/\j3 K Hd ks (kvs.map fun p=>V.ref p.2.1)/\j3 K Hd vs (kvs.map (·.2.2))
theorem Ja.same{K:PySem.W.Frag}{H H' Hd Hd':Hp}{l:Addr}{o:OD}(s:∀u,H l=some u->H' l=some u)(sd:j1 Hd Hd')(h:Ja K H Hd l o):Ja K H' Hd' l o:=by
 cases o with
 | lst ds=>obtain⟨vs,a,b⟩:=h;exact⟨vs,s _ a,b.same sd⟩
 | ins C ns ds=>obtain⟨dx,vs,a,n,b⟩:=h;exact⟨dx,vs,s _ a,n,b.same sd⟩
 | dct ks vs=>obtain⟨kvs,ep,a,n,b,c⟩:=h;exact⟨kvs,ep,s _ a,n,b.same sd,c.same sd⟩
theorem Ja.there{K:PySem.W.Frag}{H Hd:Hp}{l:Addr}{o:OD}(h:Ja K H Hd l o):H l≠none:=by
 cases o with
 | lst ds=>obtain⟨vs,a,b⟩:=h;rw[a];exact fun z=>nomatch z
 | ins C ns ds=>obtain⟨dx,vs,a,n,b⟩:=h;rw[a];exact fun z=>nomatch z
 | dct ks vs=>obtain⟨kvs,ep,a,n,b⟩:=h;rw[a];exact fun z=>nomatch z
theorem Ja.rep{K:PySem.W.Frag}{H Hd:Hp}{l:Addr}{o:OD}(s:∀u,H l=some u->Hd l=some u)(h:Ja K H Hd l o):j5 K Hd o.toD (.ref l):=by
 cases o with
 | lst ds=>obtain⟨vs,a,b⟩:=h;show j5 K Hd (.lst ds) _;rw[j5];exact⟨l,vs,rfl,s _ a,b⟩
 | ins C ns ds=>obtain⟨dx,vs,a,n,b⟩:=h;show j5 K Hd (.ins C ns ds) _;rw[j5];exact⟨l,dx,vs,rfl,s _ a,n,b⟩
 | dct ks vs=>obtain⟨kvs,ep,a,n,b,c⟩:=h;show j5 K Hd (.dct ks vs) _;rw[j5];exact⟨l,kvs,ep,rfl,s _ a,n,b,c⟩
inductive Sl where
 | un
 | cl (d:D)
 | bo (d:D)
 | ow (q:Option Addr) (o:OD)
 | lo (q:Option Addr) (ls:List (List D))
noncomputable abbrev j7:=List Sl
def RB(K:PySem.W.Frag)(O:List Addr)(H:Hp)(d:D)(v:V):Prop:=j5 K (j4 H O) d v∨∃l o,v=.ref l/\d=OD.toD o/\Ja K H (j4 H O) l o
theorem RB.same{K:PySem.W.Frag}{O:List Addr}{H H':Hp}{d:D}{v:V}(s:j1 H H')(h:RB K O H d v):RB K O H' d v:=by
 rcases h with h | ⟨l,o,e1,e2,h1⟩
 ·exact .inl (h.same (j9 s))
 ·exact .inr ⟨l,o,e1,e2,h1.same (s l) (j9 s)⟩
theorem RB.full{K:PySem.W.Frag}{O:List Addr}{H:Hp}{d:D}{v:V}(h:RB K O H d v):j5 K H d v:=by
 rcases h with h | ⟨l,o,rfl,rfl,h1⟩
 ·exact h.same yx
 ·exact(h1.same (fun _ z=>z) yx).rep fun _ z=>z
theorem RB.lst{K:PySem.W.Frag}{O:List Addr}{H:Hp}{ds:List D}{v:V}(h:RB K O H (.lst ds) v):∃p xs,v=.ref p/\H p=some (.lst xs)/\j3 K (j4 H O) ds xs:=by
 rcases h with h | ⟨l,o,rfl,e,h1⟩
 ·rw[j5]at h;obtain⟨a,xs,rfl,q,r⟩:=h;exact⟨a,xs,rfl,yx _ _ q,r⟩
 ·cases o <;> cases e;obtain⟨vs,a,b⟩:=h1;exact⟨l,vs,rfl,a,b⟩
theorem RB.tup{K:PySem.W.Frag}{O:List Addr}{H:Hp}{ds:List D}{v:V}(h:RB K O H (.tup ds) v):∃p xs,v=.ref p/\jX K H p xs/\j3 K (j4 H O) ds xs:=by
 rcases h with h | ⟨l,o,rfl,e,h1⟩
 ·rw[j5]at h;obtain⟨a,xs,rfl,q,r⟩:=h;exact⟨a,xs,rfl,yx.tup q,r⟩
 ·cases o <;> cases e
theorem RB.int{K:PySem.W.Frag}{O:List Addr}{H:Hp}{i:Int}{v:V}(h:RB K O H (.int i) v):v=.int i:=by have:=h.full;rwa [j5]at this
theorem RB.bl{K:PySem.W.Frag}{O:List Addr}{H:Hp}{i:Bool}{v:V}(h:RB K O H (.bl i) v):v=.bl i:=by have:=h.full;rwa [j5]at this
theorem RB.str{K:PySem.W.Frag}{O:List Addr}{H:Hp}{i:Str}{v:V}(h:RB K O H (.str i) v):v=.str i:=by have:=h.full;rwa [j5]at this
theorem RB.non{K:PySem.W.Frag}{O:List Addr}{H:Hp}{v:V}(h:RB K O H .non v):v=.non:=by have:=h.full;rwa [j5]at this
theorem RB.ins{K:PySem.W.Frag}{O:List Addr}{H:Hp}{C:Addr}{ns:List Str}{ds:List D}{v:V}(h:RB K O H (.ins C ns ds) v):∃a dx xs,v=.ref a/\H a=some (.ins C dx (ns.zip xs))/\ns.length=xs.length/\j3 K (j4 H O) ds xs:=by
 rcases h with h | ⟨l,o,rfl,e,h1⟩
 ·rw[j5]at h;obtain⟨a,dx,xs,rfl,q,n,r⟩:=h;exact⟨a,dx,xs,rfl,yx _ _ q,n,r⟩
 ·cases o <;> cases e;obtain⟨dx,vs,a,n,b⟩:=h1;exact⟨l,dx,vs,rfl,a,n,b⟩
def Jv(K:PySem.W.Frag)(Hd H:Hp):List Addr->List (List D)->Prop
 | [],[]=>True
 | a::as,m::r=>(∃vs,H a=some (.lst vs)/\j3 K Hd m vs)/\Jv K Hd H as r
 | _,_=>False
theorem Jv.mono{K:PySem.W.Frag}{Hd Hd' H H':Hp}(sd:j1 Hd Hd'):∀{as:List Addr} {ls:List (List D)},(∀a∈as,∀u,H a=some u->H' a=some u)->Jv K Hd H as ls->Jv K Hd' H' as ls
 | [],[],_,_=>trivial
 | a::as,xs::r,s,h=>by
  obtain⟨⟨vs,h1,h2⟩,h3⟩:=h;exact⟨⟨vs,s a wNa _ h1,h2.same sd⟩,Jv.mono sd (fun b hb=>s b (wMa _ hb)) h3⟩
 | [],_::_,_,h=>h.elim
 | _::_,[],_,h=>h.elim
theorem Jv.at{K:PySem.W.Frag}{Hd H:Hp}:∀{as:List Addr} {ls:List (List D)},Jv K Hd H as ls->∀a∈as,∃vs,H a=some (.lst vs)
 | _::_,_::_,h,a,ha=>by
  obtain⟨⟨vs,h1,_⟩,h3⟩:=h;rcases List.mem_cons.mp ha with rfl | ha
  ·exact⟨vs,h1⟩
  ·exact Jv.at h3 a ha
 | _::_,[],h,_,_=>h.elim
def Yx(K:PySem.W.Frag)(H Hd:Hp)(l:Addr)(ps:List Addr)(ls:List (List D)):Prop:=H l=some (.lst (ps.map V.ref))/\Jv K Hd H ps ls
theorem Yx.at{K:PySem.W.Frag}{H Hd:Hp}{l:Addr}{ps:List Addr}{ls:List (List D)}(h:Yx K H Hd l ps ls):∀a∈l::ps,∃vs,H a=some (.lst vs):=fun a ha=>by
 rcases List.mem_cons.mp ha with rfl | ha
 ·exact⟨_,h.1⟩
 ·exact h.2.at a ha
def Jz(ρ:j7)(σ:L2.St)(a:Addr):Prop:=∃(j:Nat) (q:Option Addr) (o:OD),ρ[j]?=some (.ow q o)/\σ[j]?=some (some (.ref a))
def WE(K:PySem.W.Frag)(H0:Hp)(ρ:j7)(σ:L2.St)(H:Hp)(O:List Addr):Prop:=∀(i:Nat) (q:Option Addr) (ls:List (List D)),ρ[i]?=some (.lo q ls)->∃l ps,σ[i]?=some (some (.ref l))/\Yx K H (j4 H O) l ps ls/\(l::ps).Nodup/\(∀a∈l::ps,a∈O/\H0 a=none/\¬Jz ρ σ a)/\(∀p,q=some p->l=p)/\∀j q' ms,ρ[j]?=some (.lo q' ms)->j=i
theorem WE.up{K:PySem.W.Frag}{H0 H H':Hp}{ρ ρ':j7}{σ σ':L2.St}{O O':List Addr}(h:WE K H0 ρ σ H O)(h1:∀(i:Nat) (q:Option Addr) (ls:List (List D)),ρ'[i]?=some (.lo q ls)->ρ[i]?=some (.lo q ls)/\σ'[i]?=σ[i]?)(h2:∀a,H a≠none->Jz ρ' σ' a->Jz ρ σ a)
  (h3:∀a,a∈O->¬Jz ρ σ a->a∈O'/\∀u,H a=some u->H' a=some u) (h4:j1 (j4 H O) (j4 H' O')):WE K H0 ρ' σ' H' O':=fun i q ls e=>by
 obtain⟨e1,e2⟩:=h1 i q ls e;obtain⟨l,ps,a,b,n,f,p,u⟩:=h i q ls e1;have k:∀c∈l::ps,∀u,H c=some u->H' c=some u:=fun c hc=>(h3 c (f c hc).1 (f c hc).2.2).2;refine⟨l,ps,e2.trans a,⟨k l wNa _ b.1,b.2.mono h4 fun c hc=>k c (wMa _ hc)⟩,n,fun c hc=>⟨(h3 c (f c hc).1 (f c hc).2.2).1,(f c hc).2.1,fun z=>(f c hc).2.2 (h2 c ?_ z)⟩,p,fun j q' ms z=>u j q' ms (h1 j q' ms z).1⟩;obtain⟨vs,hv⟩:=b.at c hc;rw[hv];exact fun z=>nomatch z
structure Rel (K:PySem.W.Frag) (H0:Hp) (O0:List Addr) (ρ:j7) (σ:L2.St) (H:Hp) (O:List Addr):Prop where
 len:σ.length=ρ.length
 sub:∀a∈O0,a∈O
 fr:∀a∈O,a∈O0∨H0 a=none
 al0:∀a∈O0,H0 a≠none
 al:∀a∈O,H a≠none
 keep:j1 H0 H
 cl:∀(i:Nat) (d:D),ρ[i]?=some (.cl d)->∃v,σ[i]?=some (some v)/\j5 K (j4 H O) d v
 bo:∀(i:Nat) (d:D),ρ[i]?=some (.bo d)->∃v,σ[i]?=some (some v)/\RB K O0 H0 d v
 ow:∀(i:Nat) (q:Option Addr) (o:OD),ρ[i]?=some (.ow q o)->∃l,(∀p,q=some p->l=p)/\σ[i]?=some (some (.ref l))/\Ja K H (j4 H O) l o/\l∈O/\H0 l=none
 dist:∀(i j:Nat) (q q':Option Addr) (ds es:OD) (l:Addr),ρ[i]?=some (.ow q ds)->ρ[j]?=some (.ow q' es)->σ[i]?=some (some (.ref l))->σ[j]?=some (some (.ref l))->i=j
 lo:WE K H0 ρ σ H O
section
variable {K:PySem.W.Frag} {H0 H H':Hp} {O0 O:List Addr} {ρ:j7} {σ:L2.St}
theorem Rel.in0(R:Rel K H0 O0 ρ σ H O):j1 (j4 H0 O0) (j4 H O):=fun b o h=>by
 obtain⟨h1,h2⟩:=jL h;rw[jq (fun z=>by rcases R.fr b z with y | y;exact h1 y;rw[h2]at y;cases y)];exact R.keep _ _ h2
theorem Rel.grow(R:Rel K H0 O0 ρ σ H O)(s:j1 H H'):Rel K H0 O0 ρ σ H' O where
 len:=R.len
 sub:=R.sub
 fr:=R.fr
 al0:=R.al0
 al:=fun a h z=>R.al a h (s.none z)
 keep:=R.keep.trans s
 cl:=fun i d e=>by obtain⟨v,a,b⟩:=R.cl i d e;exact⟨v,a,b.same (j9 s)⟩
 bo:=R.bo
 ow:=fun i q d e=>by obtain⟨l,z,a,b,d,f⟩:=R.ow i q d e;exact⟨l,z,a,b.same (s l) (j9 s),d,f⟩
 dist:=R.dist
 lo:=R.lo.up (fun i q' ls e=>⟨e,rfl⟩) (fun a _ z=>z) (fun a h _=>⟨h,fun u z=>s a u z⟩) (j9 s)
theorem Rel.new(R:Rel K H0 O0 ρ σ H O){p:Addr}(h:H p=none):p∉O:=fun z=>R.al p z h
theorem jd{α:Type}{xs:List α}{i j:Nat}{x y:α}(h:(xs.set i x)[j]?=some y):(j=i/\y=x/\i < xs.length)∨(j≠i/\xs[j]?=some y):=by
 rw[List.getElem?_set]at h;by_cases e:i=j
 ·subst e;rw[if_pos rfl]at h;split at h
  ·exact .inl ⟨rfl,(vFa h).symm,by assumption⟩
  ·cases h
 ·rw[if_neg e]at h;exact .inr ⟨fun z=>e z.symm,h⟩
theorem Yr{α:Type}{xs:List α}{i:Nat}{x:α}(h:i < xs.length):(xs.set i x)[i]?=some x:=by simp[h]
theorem jQ{α:Type}{xs:List α}{i j:Nat}{x:α}(h:j≠i):(xs.set i x)[j]?=xs[j]?:=by rw[List.getElem?_set,if_neg (fun z=>h z.symm)]
theorem Zm{i j:Nat}{s:Sl}{v:Option V}{q:Option Addr}{ls:List (List D)}(hs:∀q ls,s≠.lo q ls)(e:(ρ.set i s)[j]?=some (.lo q ls)):ρ[j]?=some (.lo q ls)/\(σ.set i v)[j]?=σ[j]?:=by
 rcases jd e with⟨rfl,e',_⟩ | ⟨ne,e'⟩
 ·exact vDa e'.symm (hs q ls)
 ·exact⟨e',jQ ne⟩
theorem vq{i:Nat}{s:Sl}{v:Option V}{a:Addr}(hs:∀q o,s=.ow q o->v≠some (.ref a))(hi:σ.length=ρ.length):Jz (ρ.set i s) (σ.set i v) a->Jz ρ σ a:=fun xx=>by
 obtain⟨j,q,o,e,z⟩:=xx;rcases jd e with⟨rfl,e',hj⟩ | ⟨ne,e'⟩
 ·rw[Yr (by rw[hi];exact hj)]at z;exact vDa (vFa z) (hs _ _ e'.symm)
 ·rw[jQ ne]at z;exact⟨j,q,o,e',z⟩
theorem Rel.set(R:Rel K H0 O0 ρ σ H O){d:D}{v:V}(q:j5 K (j4 H O) d v)(i:Nat):Rel K H0 O0 (ρ.set i (.cl d)) (σ.set i (some v)) H O where
 len:=by rw[List.length_set,List.length_set];exact R.len
 sub:=R.sub
 fr:=R.fr
 al0:=R.al0
 al:=R.al
 keep:=R.keep
 cl:=fun j d' e=>by
  rcases jd e with⟨rfl,e',hi⟩ | ⟨ne,e'⟩
  ·cases e';exact⟨v,Yr (by rw[R.len];exact hi),q⟩
  ·rw[jQ ne];exact R.cl j d' e'
 bo:=fun j d' e=>by
  rcases jd e with⟨rfl,e',hi⟩ | ⟨ne,e'⟩
  ·cases e'
  ·rw[jQ ne];exact R.bo j d' e'
 ow:=fun j q' d' e=>by
  rcases jd e with⟨rfl,e',hi⟩ | ⟨ne,e'⟩
  ·cases e'
  ·rw[jQ ne];exact R.ow j q' d' e'
 dist:=fun j k q1 q2 ds es l e1 e2 s1 s2=>by
  rcases jd e1 with⟨rfl,e',hi⟩ | ⟨ne,e1'⟩
  ·cases e'
  ·rcases jd e2 with⟨rfl,e',hi⟩ | ⟨ne2,e2'⟩
   ·cases e'
   ·rw[jQ ne]at s1;rw[jQ ne2]at s2;exact R.dist j k q1 q2 ds es l e1' e2' s1 s2
 lo:=R.lo.up (fun j q' ls e=>Zm (by intro _ _ z;cases z) e) (fun a _ z=>vq (by intro _ _ z;cases z) R.len z) (fun a h _=>⟨h,fun u z=>z⟩) (j1.refl _)
theorem Rel.forget(R:Rel K H0 O0 ρ σ H O)(i:Nat):Rel K H0 O0 (ρ.set i .un) σ H O where
 len:=by rw[List.length_set];exact R.len
 sub:=R.sub
 fr:=R.fr
 al0:=R.al0
 al:=R.al
 keep:=R.keep
 cl:=fun j d' e=>by
  rcases jd e with⟨rfl,e',hi⟩ | ⟨ne,e'⟩
  ·cases e'
  ·exact R.cl j d' e'
 bo:=fun j d' e=>by
  rcases jd e with⟨rfl,e',hi⟩ | ⟨ne,e'⟩
  ·cases e'
  ·exact R.bo j d' e'
 ow:=fun j q' d' e=>by
  rcases jd e with⟨rfl,e',hi⟩ | ⟨ne,e'⟩
  ·cases e'
  ·exact R.ow j q' d' e'
 dist:=fun j k q1 q2 ds es l e1 e2 s1 s2=>by
  rcases jd e1 with⟨rfl,e',hi⟩ | ⟨ne,e1'⟩
  ·cases e'
  ·rcases jd e2 with⟨rfl,e',hi⟩ | ⟨ne2,e2'⟩
   ·cases e'
   ·exact R.dist j k q1 q2 ds es l e1' e2' s1 s2
 lo:=R.lo.up (fun j q' ls e=>⟨(Zm (σ:=σ) (v:=none) (by intro _ _ z;cases z) e).1,rfl⟩) (fun a _ xx=>by
  obtain⟨j,q,o,e,z⟩:=xx;rcases jd e with⟨rfl,e',_⟩ | ⟨_,e'⟩
  ·cases e'
  ·exact⟨j,q,o,e',z⟩) (fun a h _=>⟨h,fun u z=>z⟩) (j1.refl _)
theorem Rel.own(R:Rel K H0 O0 ρ σ H O){ds:OD}{l:Addr}(s:j1 H H')(hn:H l=none)(h:Ja K H' (j4 H' (l::O)) l ds)(i:Nat):Rel K H0 O0 (ρ.set i (.ow none ds)) (σ.set i (some (.ref l))) H' (l::O) where
 len:=by rw[List.length_set,List.length_set];exact R.len
 sub:=fun a h=>wMa _ (R.sub a h)
 fr:=fun a ha=>by
  rcases List.mem_cons.mp ha with rfl | ha
  ·exact .inr (R.keep.none hn)
  ·exact R.fr a ha
 al0:=R.al0
 al:=fun a ha=>by
  rcases List.mem_cons.mp ha with rfl | ha
  ·exact h.there
  ·exact fun z=>R.al a ha (s.none z)
 keep:=R.keep.trans s
 cl:=fun j d' e=>by
  rcases jd e with⟨rfl,e',hi⟩ | ⟨ne,e'⟩
  ·cases e'
  ·rw[jQ ne];obtain⟨v,a,b⟩:=R.cl j d' e';exact⟨v,a,b.same (yW s hn)⟩
 bo:=fun j d' e=>by
  rcases jd e with⟨rfl,e',hi⟩ | ⟨ne,e'⟩
  ·cases e'
  ·rw[jQ ne];exact R.bo j d' e'
 ow:=fun j q' d' e=>by
  rcases jd e with⟨rfl,e',hi⟩ | ⟨ne,e'⟩
  ·cases e';exact⟨l,(fun p z=>nomatch z),Yr (by rw[R.len];exact hi),h,wNa,R.keep.none hn⟩
  ·rw[jQ ne];obtain⟨l',z,a,b,d,f⟩:=R.ow j q' d' e';exact⟨l',z,a,b.same (s l') (yW s hn),wMa _ d,f⟩
 dist:=fun j k q1 q2 ds' es l' e1 e2 s1 s2=>by
  have other:∀(j:Nat) (q:Option Addr) (ds:OD),ρ[j]?=some (.ow q ds)->σ[j]?≠some (some (.ref l)):=fun j q ds e z=>by
   obtain⟨l2,_,a,b,_⟩:=R.ow j q ds e;rw[z]at a;cases a;exact b.there hn
  rcases jd e1 with⟨rfl,e',hi⟩ | ⟨ne,e1'⟩
  ·rcases jd e2 with⟨rfl,e'',hi'⟩ | ⟨ne2,e2'⟩
   ·rfl
   ·rw[Yr (by rw[R.len];exact hi)]at s1;cases s1;rw[jQ ne2]at s2;exact vDa s2 (other k q2 es e2')
  ·rcases jd e2 with⟨rfl,e',hi⟩ | ⟨ne2,e2'⟩
   ·rw[Yr (by rw[R.len];exact hi)]at s2;cases s2;rw[jQ ne]at s1;exact vDa s1 (other j q1 ds' e1')
   ·rw[jQ ne]at s1;rw[jQ ne2]at s2;exact R.dist j k q1 q2 ds' es l' e1' e2' s1 s2
 lo:=R.lo.up (fun j q' ls e=>Zm (by intro _ _ z;cases z) e) (fun a ha z=>vq (by intro _ _ _ y;cases y;exact ha hn) R.len z) (fun a ha _=>⟨wMa _ ha,fun u z=>s a u z⟩) (yW s hn)
theorem Rel.change(R:Rel K H0 O0 ρ σ H O){qq:Option Addr}{ds ds':OD}{u:HO}{l:Addr}{i:Nat}(e:ρ[i]?=some (.ow qq ds))(hq:∀p,qq=some p->l=p)(hi:σ[i]?=some (some (.ref l)))(hl:l∈O)(h0:H0 l=none)(q:Ja K (upd H l u) (j4 H O) l ds'):Rel K H0 O0 (ρ.set i (.ow qq ds')) σ (upd H l u) O where
 len:=by rw[List.length_set];exact R.len
 sub:=R.sub
 fr:=R.fr
 al0:=R.al0
 al:=fun a ha=>by
  by_cases z:a=l
  ·rw[z,jx];exact fun z=>nomatch z
  ·rw[jc z];exact R.al a ha
 keep:=R.keep.upd h0 _
 cl:=fun j d' e=>by
  rcases jd e with⟨rfl,e',hi⟩ | ⟨ne,e'⟩
  ·cases e'
  ·rw[J5 hl];exact R.cl j d' e'
 bo:=fun j d' e=>by
  rcases jd e with⟨rfl,e',hi⟩ | ⟨ne,e'⟩
  ·cases e'
  ·exact R.bo j d' e'
 ow:=fun j q' d' e2=>by
  rw[J5 hl];rcases jd e2 with⟨rfl,e',_⟩ | ⟨ne,e'⟩
  ·cases e';exact⟨l,hq,hi,q,hl,h0⟩
  ·obtain⟨l',z,a,b,d,f⟩:=R.ow j q' d' e';refine⟨l',z,a,b.same (fun u h=>?_) (j1.refl _),d,f⟩;rw[jc]
   ·exact h
   ·rintro rfl;exact ne (R.dist j i _ _ _ _ _ e' e a hi)
 dist:=fun j k q1 q2 ds1 es l' e1 e2 s1 s2=>by
  have f:∀(j:Nat) (q:Option Addr) (ds1:OD),(ρ.set i (.ow qq ds'))[j]?=some (.ow q ds1)->∃q2 ds2,ρ[j]?=some (.ow q2 ds2):=fun j q ds1 z=>by
   rcases jd z with⟨rfl,_,_⟩ | ⟨_,z⟩
   ·exact⟨_,_,e⟩
   ·exact⟨_,_,z⟩
  obtain⟨_,d1,f1⟩:=f j _ _ e1;obtain⟨_,d2,f2⟩:=f k _ _ e2;exact R.dist j k _ _ _ _ l' f1 f2 s1 s2
 lo:=by
  have ft:Jz ρ σ l:=⟨i,_,_,e,hi⟩
  refine R.lo.up (fun j q' ls e=>⟨(Zm (σ:=σ) (v:=none) (by intro _ _ z;cases z) e).1,rfl⟩) (fun a _ ⟨j,q,o,e',z⟩=>?_) (fun a ha nf=>⟨ha,fun u z=>?_⟩) (by rw[J5 hl];exact j1.refl _)
  ·rcases jd e' with⟨rfl,_,_⟩ | ⟨_,e'⟩
   ·exact⟨_,_,_,e,z⟩
   ·exact⟨j,q,o,e',z⟩
  ·rw[jc fun y=>nf (by rw[y];exact ft)];exact z
theorem Rel.share(R:Rel K H0 O0 ρ σ H O){q:Option Addr}{ds:OD}{i:Nat}(e:ρ[i]?=some (.ow q ds)):∃O',Rel K H0 O0 (ρ.set i (.cl ds.toD)) σ H O'/\j1 (j4 H O) (j4 H O'):=by
 obtain⟨l,_,hs,q,lo,h0⟩:=R.ow i q ds e;have ss:j1 (j4 H O) (j4 H (O.filter (·≠l))):=jP fun a h=>(List.mem_filter.mp h).1;have nin:l∉O.filter (·≠l):=fun z=>by simpa using (List.mem_filter.mp z).2
 refine⟨O.filter (·≠l),⟨by rw[List.length_set];exact R.len,fun a h=>List.mem_filter.mpr ⟨R.sub a h,?_⟩,fun a h=>R.fr a (List.mem_filter.mp h).1,R.al0,fun a h=>R.al a (List.mem_filter.mp h).1,R.keep,?_,?_,?_,?_,?_⟩,ss⟩
 ·have z:a≠l:=by
   rintro rfl;exact R.al0 a h h0
  simpa using z
 ·intro j d' e2;rcases jd e2 with⟨rfl,e',hi⟩ | ⟨ne,e'⟩
  ·cases e';exact⟨_,hs,(q.same (fun _ z=>z) ss).rep fun u z=>by rw[jq nin];exact z⟩
  ·obtain⟨v,a,b⟩:=R.cl j d' e';exact⟨v,a,b.same ss⟩
 ·intro j d' e2;rcases jd e2 with⟨rfl,e',hi⟩ | ⟨ne,e'⟩
  ·cases e'
  ·exact R.bo j d' e'
 ·intro j q' d' e2;rcases jd e2 with⟨rfl,e',hi⟩ | ⟨ne,e'⟩
  ·cases e'
  ·obtain⟨l',z,a,b,d,f⟩:=R.ow j q' d' e';refine⟨l',z,a,b.same (fun _ z=>z) ss,List.mem_filter.mpr ⟨d,?_⟩,f⟩;have z:l'≠l:=by
    rintro rfl;exact ne (R.dist j i _ _ _ _ _ e' e a hs)
   simpa using z
 ·intro j k q1 q2 ds1 es l' e1 e2 s1 s2;rcases jd e1 with⟨rfl,e',hi⟩ | ⟨ne,e1'⟩
  ·cases e'
  ·rcases jd e2 with⟨rfl,e',hi⟩ | ⟨ne2,e2'⟩
   ·cases e'
   ·exact R.dist j k _ _ _ _ l' e1' e2' s1 s2
 ·refine R.lo.up (fun j q' ls e=>⟨(Zm (σ:=σ) (v:=none) (by intro _ _ z;cases z) e).1,rfl⟩) (fun a _ ⟨j,q,o,e',z⟩=>?_) (fun a ha nf=>⟨List.mem_filter.mpr ⟨ha,?_⟩,fun u z=>z⟩) ss
  ·rcases jd e' with⟨rfl,y,_⟩ | ⟨_,e'⟩
   ·cases y
   ·exact⟨j,q,o,e',z⟩
  ·have:a≠l:=fun y=>nf (by rw[y];exact⟨i,_,_,e,hs⟩);simpa using this
end
abbrev DE:=j7->Option D
abbrev DO:=j7->Option OD
noncomputable abbrev Fr:=PySem.W.Frag
def tE(K:Fr)(de:DE):TE:=fun σ H Q=>∃H0 O0 ρ O d,Rel K H0 O0 ρ σ H O/\de ρ=some d/\∀v H',j1 H H'->j5 K (j4 H' O) d v->Q v H'
def tR(K:Fr)(de:DE):TE:=fun σ H Q=>∃H0 O0 ρ O d,Rel K H0 O0 ρ σ H O/\de ρ=some d/\∀v H',j1 H H'->RB K O H' d v->Q v H'
def tF(K:Fr)(de:DO):TE:=fun σ H Q=>∃H0 O0 ρ O o,Rel K H0 O0 ρ σ H O/\de ρ=some o/\∀l H',j1 H H'->H l=none->Ja K H' (j4 H' (l::O)) l o->Q (.ref l) H'
def tT(K:Fr)(dt:j7->Option Bool):TT:=fun σ H Q=>∃H0 O0 ρ O b,Rel K H0 O0 ρ σ H O/\dt ρ=some b/\∀H',j1 H H'->Q b H'
def AK(K:Fr)(O:List Addr)(H:Hp):Bool->D->V->Prop
 | true,d,v=>j5 K (j4 H O) d v
 | false,d,v=>RB K O H d v
def JC(K:Fr)(O:List Addr)(H:Hp):List Bool->List D->List V->Prop
 | [],[],[]=>True
 | k::ks,d::ds,v::vs=>AK K O H k d v/\JC K O H ks ds vs
 | _,_,_=>False
theorem AK.same{K:Fr}{O:List Addr}{H H':Hp}(s:j1 H H'):∀{k:Bool} {d:D} {v:V},AK K O H k d v->AK K O H' k d v
 | true,_,_,h=>j5.same (j9 s) h
 | false,_,_,h=>RB.same s h
theorem AK.rb{K:Fr}{O:List Addr}{H:Hp}:∀{k:Bool} {d:D} {v:V},AK K O H k d v->RB K O H d v
 | true,_,_,h=>.inl h
 | false,_,_,h=>h
theorem JC.same{K:Fr}{O:List Addr}{H H':Hp}(s:j1 H H'):∀{ks:List Bool} {ds:List D} {vs:List V},JC K O H ks ds vs->JC K O H' ks ds vs
 | [],[],[],_=>trivial
 | _::_,_::_,_::_,h=>⟨AK.same s h.1,JC.same s h.2⟩
 | [],[],_::_,h=>h.elim
 | [],_::_,_,h=>h.elim
 | _::_,[],_,h=>h.elim
 | _::_,_::_,[],h=>h.elim
noncomputable abbrev DA:=List (Bool×DE)
@[simp] noncomputable def Yl:DA->j7->Option (List D)
 | [],_=>some []
 | p::ps,ρ=>(p.2 ρ).bind fun d=>(Yl ps ρ).bind fun ds=>some (d::ds)
def yX(K:Fr)(l:DA):TA:=fun σ H Q=>∃H0 O0 ρ O ds,Rel K H0 O0 ρ σ H O/\Yl l ρ=some ds/\∀vs H',j1 H H'->JC K O H' (l.map (·.1)) ds vs->Q vs H'
section
variable {X:Cx} {K:Fr} {e a b c d:Expr} {de da db dc dd:DE} {pos:Pos}
theorem jk{t t':TE}(h:PE X e t)(f:∀σ H Q,t' σ H Q->t σ H Q):PE X e t':=fun pins s σ H Q I q=>h pins s σ H Q I (f σ H Q q)
theorem v_{t t':TT}(h:PT X e t)(f:∀σ H Q,t' σ H Q->t σ H Q):PT X e t':=fun pins s σ H Q I q=>h pins s σ H Q I (f σ H Q q)
theorem WF{t t':TT}(h:PW X e t)(f:∀σ H Q,t' σ H Q->t σ H Q):PW X e t':=fun w pins s σ H Q I q=>h w pins s σ H Q I (f σ H Q q)
theorem WG{es:List Expr}{t t':TA}(h:PA X es t)(f:∀σ H Q,t' σ H Q->t σ H Q):PA X es t':=fun p pins s σ H Q I q=>h p pins s σ H Q I (f σ H Q q)
theorem cv(h:PE X e (tE K de)):PE X e (tR K de):=jk h fun σ H Q ⟨H0,O0,ρ,O,d,R,ed,q⟩=>⟨H0,O0,ρ,O,d,R,ed,fun v H' s r=>q v H' s (.inl r)⟩
@[simp] def dL(df:DO)(ρ:j7):Option D:=(df ρ).bind fun l=>some l.toD
theorem j0{α β:Type}{o:Option α}{f:α->Option β}{y:β}(h:o.bind f=some y):∃x,o=some x/\f x=some y:=by
 cases o with
 | none=>cases h
 | some x=>exact⟨x,rfl,h⟩
theorem cw{df:DO}(h:PE X e (tF K df)):PE X e (tE K (dL df)):=jk h fun σ H Q xx=>by
 obtain⟨H0,O0,ρ,O,d,R,ed,q⟩:=xx;obtain⟨ds,e1,e2⟩:=j0 ed;cases e2;exact⟨H0,O0,ρ,O,ds,R,e1,fun l H' s hn r=>q _ _ s ((r.same (fun _ z=>z) (jP fun a h=>wMa _ h)).rep fun u z=>by rw[jq (R.new hn)];exact z)⟩
@[simp] def dV(i:Nat)(ρ:j7):Option D:=match ρ[i]? with
 | some (.cl d)=>some d
 | some (.bo d)=>some d
 | some (.ow _ o)=>some o.toD
 | _=>none
@[simp] noncomputable def dC(i:Nat)(ρ:j7):Option D:=match ρ[i]? with
 | some (.cl d)=>some d
 | _=>none
theorem AX(i:Nat){x:Str}(h:PE X (.Name x pos) (yu i)):PE X (.Name x pos) (tR K (dV i)):=jk h fun σ H Q xx=>by
 obtain⟨H0,O0,ρ,O,d,R,ed,q⟩:=xx;unfold dV at ed;split at ed
 ·cases ed;obtain⟨v,e1,r⟩:=R.cl i _ (by assumption);exact⟨v,e1,q v H (j1.refl H) (.inl r)⟩
 ·cases ed;obtain⟨v,e1,r⟩:=R.bo i _ (by assumption);refine⟨v,e1,q v H (j1.refl H) ?_⟩;rcases r with r | ⟨l,o,e2,e3,h1⟩
  ·exact .inl (r.same R.in0)
  ·exact .inr ⟨l,o,e2,e3,h1.same (R.keep l) R.in0⟩
 ·cases ed;obtain⟨l,_,e1,h1,_⟩:=R.ow i _ _ (by assumption);exact⟨_,e1,q _ H (j1.refl H) (.inr ⟨l,_,rfl,rfl,h1⟩)⟩
 ·cases ed
theorem WH(i:Nat){x:Str}(h:PE X (.Name x pos) (yu i)):PE X (.Name x pos) (tE K (dC i)):=jk h fun σ H Q xx=>by
 obtain⟨H0,O0,ρ,O,d,R,ed,q⟩:=xx;unfold dC at ed;split at ed
 ·cases ed;obtain⟨v,e1,r⟩:=R.cl i _ (by assumption);exact⟨v,e1,q v H (j1.refl H) r⟩
 ·cases ed
@[simp] noncomputable def dK(d:D)(_:j7):Option D:=some d
theorem V0{v:V}{d:D}(h:PE X e (tC v))(r:∀H,j5 K H d v):PE X e (tE K (dK d)):=jk h fun σ H Q xx=>by
 obtain⟨H0,O0,ρ,O,d',R,ed,q⟩:=xx;cases ed;exact q v H (j1.refl H) (r _)
theorem AY{i j}:PE X (.Constant (.int i) j pos) (tE K (dK (.int i))):=V0 QK fun _=>by rw[j5]
theorem cx{i j}:PE X (.Constant (.bool i) j pos) (tE K (dK (.bl i))):=V0 Av fun _=>by rw[j5]
theorem AZ{j}:PE X (.Constant .none j pos) (tE K (dK .non)):=V0 QL fun _=>by rw[j5]
theorem A_{i j}:PE X (.Constant (.str i) j pos) (tE K (dK (.str i))):=V0 QM fun _=>by rw[j5]
theorem xN{x:Str}{i:Int}(h:PE X (.Name x pos) (tC (.int i))):PE X (.Name x pos) (tE K (dK (.int i))):=V0 h fun _=>by rw[j5]
@[simp] noncomputable def d2(f:D->D->Option D)(da db:DE)(ρ:j7):Option D:=(da ρ).bind fun x=>(db ρ).bind fun y=>f x y
@[simp] noncomputable def d1(f:D->Option D)(da:DE)(ρ:j7):Option D:=(da ρ).bind f
def jM(K:Fr)(r:R2)(f:D->D->Option D):Prop:=∀(O:List Addr) (H:Hp) (a b d:D) (x y:V) (Q:VK),RB K O H a x->RB K O H b y->(∀p,H p=none->p∉O)->f a b=some d->(∀v H',j1 H H'->j5 K (j4 H' O) d v->Q v H')->r x y H Q
theorem V1{r:R2}{f:D->D->Option D}(hf:jM K r f):∀σ H Q,tE K (d2 f da db) σ H Q->gB r (tR K da) (tR K db) σ H Q:=fun σ H Q xx=>by
 obtain⟨H0,O0,ρ,O,d,R,ed,q⟩:=xx;obtain⟨x,ex,ed⟩:=j0 ed;obtain⟨y,ey,ed⟩:=j0 ed;exact⟨H0,O0,ρ,O,x,R,ex,fun vx H1 s1 rx=>⟨H0,O0,ρ,O,y,R.grow s1,ey,fun vy H2 s2 ry=>hf O H2 x y d vx vy Q (rx.same s2) ry (fun p hp=>(R.grow (s1.trans s2)).new hp) ed fun v H' s r=>q v H' ((s1.trans s2).trans s) r⟩⟩
theorem cy{op:Operator}{r:R2}{f:D->D->Option D}(ho:jt X (binaryOp op) r)(hf:jM K r f)(ha:PE X a (tR K da))(hb:PE X b (tR K db)):PE X (.BinOp a op b pos) (tE K (d2 f da db)):=jk (Wo ho ha hb) (V1 hf)
theorem b7{op:CmpOp}{r:R2}{f:D->D->Option D}(ho:jt X (compareOp op) r)(hf:jM K r f)(ha:PE X a (tR K da))(hb:PE X b (tR K db))(hm:behindInMarks op b=false):PE X (.Compare a [op] [b] pos) (tE K (d2 f da db)):=jk (qF ho ha hb hm) (V1 hf)
theorem xO{r:R2}{f:D->D->Option D}(ho:ZX X r)(hf:jM K r f)(ha:PE X a (tR K da))(hb:PE X b (tR K db))(hs:Vz b):PE X (.Subscript a b pos) (tE K (d2 f da db)):=jk (Wv ho ha hb hs) (V1 hf)
def xP(K:Fr)(r:R2)(f:D->D->Option OD):Prop:=∀(O:List Addr) (H:Hp) (a b:D) (ds:OD) (x y:V) (Q:VK),RB K O H a x->RB K O H b y->f a b=some ds->(∀l H',j1 H H'->H l=none->Ja K H' (j4 H' (l::O)) l ds->Q (.ref l) H')->r x y H Q
@[simp] noncomputable def V2(f:D->D->Option OD)(da db:DE)(ρ:j7):Option OD:=(da ρ).bind fun x=>(db ρ).bind fun y=>f x y
theorem cz{op:Operator}{r:R2}{f:D->D->Option OD}(ho:jt X (binaryOp op) r)(hf:xP K r f)(ha:PE X a (tR K da))(hb:PE X b (tR K db)):PE X (.BinOp a op b pos) (tF K (V2 f da db)):=jk (Wo ho ha hb) fun σ H Q xx=>by
 obtain⟨H0,O0,ρ,O,d,R,ed,q⟩:=xx;obtain⟨x,ex,ed⟩:=j0 ed;obtain⟨y,ey,ed⟩:=j0 ed;exact⟨H0,O0,ρ,O,x,R,ex,fun vx H1 s1 rx=>⟨H0,O0,ρ,O,y,R.grow s1,ey,fun vy H2 s2 ry=>hf O H2 x y d vx vy Q (rx.same s2) ry ed fun l H' s hn r=>q l H' ((s1.trans s2).trans s) ((s1.trans s2).none hn) r⟩⟩
@[simp] noncomputable def fI(C:Int->Int->Bool)(g:Int->Int->D):D->D->Option D
 | .int i,.int j=>if C i j=true then some (g i j)else none
 | _,_=>none
noncomputable def vD:D->Option V
 | .int i=>some (.int i)
 | .bl i=>some (.bl i)
 | .str i=>some (.str i)
 | .non=>some .non
 | _=>none
theorem xQ{K:Fr}{H:Hp}{d:D}{v:V}(h:vD d=some v):j5 K H d v:=by
 cases d <;> first | (cases h;rw[j5]) | cases h
theorem U3{C:Int->Int->Bool}{P:Int->Int->Prop}{g:Int->Int->D}{gv:Int->Int->V}(hP:∀i j,C i j=true->P i j)(hg:∀i j,vD (g i j)=some (gv i j)):jM K (rI P gv) (fI C g):=by
 intro O H a b d x y Q ha hb _ e q;unfold fI at e;split at e
 ·split at e
  ·cases e;exact⟨_,_,ha.int,hb.int,hP _ _ (by assumption),q _ H (j1.refl H) (xQ (hg _ _))⟩
  ·cases e
 ·cases e
theorem V3{g:Int->Int->D}{gv:Int->Int->V}(hg:∀i j,vD (g i j)=some (gv i j)):jM K (Yg gv) (fI (fun _ _=>true) g):=by
 intro O H a b d x y Q ha hb hn e q;obtain⟨i,j,e1,e2,_,q⟩:=U3 (K:=K) (P:=fun _ _=>True) (fun _ _ _=>trivial) hg O H a b d x y Q ha hb hn e q;exact⟨i,j,e1,e2,q⟩
noncomputable abbrev U4:=fI (fun _ _=>true) fun i j=>.int (i - j)
noncomputable def VB(i j:Int):Bool:=Nat.blt i.natAbs 18446744073709551616||Nat.blt j.natAbs 18446744073709551616
abbrev WI:=fI VB fun i j=>.int (i * j)
noncomputable abbrev Jb:=fI (fun _ j=>decide (0 < j)) fun i j=>.int (i % j)
noncomputable abbrev GF:=fI (fun _ j=>decide (0 < j)&&decide (j < 1073741824)) fun i j=>.int (i / j)
@[simp] noncomputable def xR(i j:Int):Bool:=decide (0<=j)&&(decide (j<=1000000)&&decide (i.natAbs < 2 ^ 64))
abbrev wg:=fI xR fun i j=>.int (i ^ j.toNat)
noncomputable abbrev U5:=fI (fun _ _=>true) fun i j=>.bl (decide (i < j))
noncomputable abbrev Jp:=fI (fun _ _=>true) fun i j=>.bl (decide (i<=j))
noncomputable abbrev xS:=fI (fun _ _=>true) fun i j=>.bl (decide (j < i))
noncomputable abbrev Bn:=fI (fun _ _=>true) fun i j=>.bl (decide (j<=i))
theorem b8:jM K (Yg fun i j=>.int (i - j)) U4:=V3 fun _ _=>rfl
theorem b9:jM K (rI vn fun i j=>.int (i * j)) WI:=U3 (fun i j h=>by
 unfold VB at h;rw[Bool.or_eq_true,Nat.blt_eq,Nat.blt_eq]at h;unfold vn;have e:(2:Int) ^ 64=18446744073709551616:=by decide
 rw[e];rcases h with h | h
 ·exact .inl ⟨by omega,by omega⟩
 ·exact .inr ⟨by omega,by omega⟩) fun _ _=>rfl
theorem ba:jM K (rI (fun _ j=>0 < j) fun i j=>.int (i % j)) Jb:=U3 (fun i j h=>by simpa using h) fun _ _=>rfl
theorem bc:jM K (rI KJ fun i j=>.int (i / j)) GF:=U3 (fun i j h=>by simpa[KJ]using h) fun _ _=>rfl
theorem be:jM K (rI KKz fun i j=>.int (i ^ j.toNat)) wg:=U3 (fun i j h=>by simpa[KKz,xR]using h) fun _ _=>rfl
theorem cD:jM K (Yg fun i j=>.bl (decide (i < j))) U5:=V3 fun _ _=>rfl
theorem cH:jM K (Yg fun i j=>.bl (decide (i<=j))) Jp:=V3 fun _ _=>rfl
theorem cJ:jM K (Yg fun i j=>.bl (decide (j < i))) xS:=V3 fun _ _=>rfl
theorem cK:jM K (Yg fun i j=>.bl (decide (j<=i))) Bn:=V3 fun _ _=>rfl
noncomputable def YU:D->Bool
 | .non=>true
 | _=>false
@[simp] theorem Cw:YU .non=true:=rfl
@[simp] theorem CN(b:Bool):YU (.bl b)=false:=rfl
@[simp] theorem Cy(b:Int):YU (.int b)=false:=rfl
@[simp] theorem Cz(b:Str):YU (.str b)=false:=rfl
@[simp] theorem CA(b:List D):YU (.tup b)=false:=rfl
@[simp] theorem CB(b:List D):YU (.lst b)=false:=rfl
theorem WJ{H:Hp}{d:D}{v:V}(h:j5 K H d v):decide (v=.non)=YU d:=by
 cases d <;> rw[j5]at h;all_goals first
  | (subst h;rfl)
  | (obtain⟨_,_,rfl,_⟩:=h;rfl)
  | (obtain⟨_,_,_,rfl,_⟩:=h;rfl)
  | (obtain⟨_,rfl,_⟩:=h;rfl)
def Y3:D->D->Option D
 | d,.non=>some (.bl (YU d))
 | _,_=>none
@[simp] theorem cL(d:D):Y3 d .non=some (.bl (YU d)):=by cases d <;> rfl
def GG:D->D->Option D
 | d,.non=>some (.bl (!YU d))
 | _,_=>none
theorem bf:jM K (fun x y H Q=>y=.non/\Q (.bl (decide (x=.non))) H) Y3:=by
 intro O H a b d x y Q ha hb _ e q;unfold Y3 at e;split at e
 ·cases e;exact⟨hb.non,q _ H (j1.refl H) (by rw[j5,WJ ha.full])⟩
 ·cases e
theorem xT:jM K (fun x y H Q=>y=.non/\Q (.bl (!decide (x=.non))) H) GG:=by
 intro O H a b d x y Q ha hb _ e q;unfold GG at e;split at e
 ·cases e;exact⟨hb.non,q _ H (j1.refl H) (by rw[j5,WJ ha.full])⟩
 ·cases e
@[simp] noncomputable def U6:D->D->Option D
 | .int i,.int j=>some (.bl (decide (i=j)))
 | .bl i,.bl j=>some (.bl (decide (i=j)))
 | .str i,.str j=>some (.bl (decide (i=j)))
 | _,_=>none
@[simp] def wj(a b:D):Option D:=(U6 a b).bind fun r=>match r with | .bl c=>some (.bl (!c)) | _=>none
theorem zu(x y:Int):decide (V.int x=V.int y)=decide (x=y):=by simp
theorem Ze(x y:Bool):decide (V.bl x=V.bl y)=decide (x=y):=by simp
theorem zw(x y:Str):decide (V.str x=V.str y)=decide (x=y):=by simp
theorem bg:jM K Wq U6:=by
 intro O H a b d x y Q ha hb _ e q;unfold U6 at e;split at e
 ·cases e;rw[ha.int,hb.int];exact⟨rfl,q _ H (j1.refl H) (by rw[j5,zu])⟩
 ·cases e;rw[ha.bl,hb.bl];exact⟨rfl,q _ H (j1.refl H) (by rw[j5,Ze])⟩
 ·cases e;rw[ha.str,hb.str];exact⟨rfl,q _ H (j1.refl H) (by rw[j5,zw])⟩
 ·cases e
theorem bi:jM K Wr wj:=by
 intro O H a b d x y Q ha hb _ e q;unfold wj U6 at e;obtain⟨r,e1,e2⟩:=j0 e;split at e1
 ·cases e1;cases e2;rw[ha.int,hb.int];exact⟨rfl,q _ H (j1.refl H) (by rw[j5,zu])⟩
 ·cases e1;cases e2;rw[ha.bl,hb.bl];exact⟨rfl,q _ H (j1.refl H) (by rw[j5,Ze])⟩
 ·cases e1;cases e2;rw[ha.str,hb.str];exact⟨rfl,q _ H (j1.refl H) (by rw[j5,zw])⟩
 ·cases e1
def jw:D->D->Option D
 | .lst l,.int i=>atI l i
 | .tup l,.int i=>atI l i
 | _,_=>none
@[simp] theorem CD(l:List D)(i:Int):jw (.lst l) (.int i)=L2.atI l i:=rfl
@[simp] theorem CF(l:List D)(i:Int):jw (.tup l) (.int i)=L2.atI l i:=rfl
theorem j3.atI{H:Hp}{l:List D}{xs:List V}{i:Int}{d:D}(h:j3 K H l xs)(e:L2.atI l i=some d):∃v,L2.atI xs i=some v/\j5 K H d v:=by
 unfold L2.atI at e⊢;rw[h.len];obtain⟨j,e1,e2⟩:=j0 e;obtain⟨v,e3,r⟩:=h.get e2;exact⟨v,by rw[e1];exact e3,r⟩
theorem cO:jM K (Bi K) jw:=by
 intro O H a b d x y Q ha hb _ e q;unfold jw at e;split at e
 ·obtain⟨p,xs,rfl,h1,h2⟩:=ha.lst;obtain⟨v,e3,r⟩:=h2.atI e;exact .inl ⟨p,xs,_,v,rfl,hb.int,jj.of h1,e3,q v H (j1.refl H) r⟩
 ·obtain⟨p,xs,rfl,h1,h2⟩:=ha.tup;obtain⟨v,e3,r⟩:=h2.atI e;exact .inr (.inl ⟨p,xs,_,v,rfl,hb.int,h1,e3,q v H (j1.refl H) r⟩)
 ·cases e
@[simp] noncomputable def U7:D->D->Option OD
 | .lst l,.lst m=>if l.length+m.length<=sizeLine then some (.lst (l++m))else none
 | _,_=>none
theorem JF{O:List Addr}{H:Hp}{p:Addr}{ds:List D}{vs:List V}(hp:H p=none)(r:j3 K (j4 H O) ds vs):Ja K (upd H p (.lst vs)) (j4 (upd H p (.lst vs)) (p::O)) p (.lst ds):=⟨vs,jx,r.same (yW (jp hp _) hp)⟩
theorem bj:xP K xH U7:=by
 intro O H a b ds x y Q ha hb e q;unfold U7 at e;split at e
 ·split at e
  ·cases e;obtain⟨p,xs,rfl,h1,h2⟩:=ha.lst;obtain⟨p',xs',rfl,h1',h2'⟩:=hb.lst;exact⟨p,p',xs,xs',rfl,rfl,h1,h1',by rw[h2.len,h2'.len];assumption,fun l hl=>q l _ (jp hl _) hl (JF hl (h2.app h2'))⟩
  ·cases e
 ·cases e
theorem Je{O:List Addr}{H:Hp}{p:Addr}{ds:List D}{vs:List V}(hO:p∉O)(hp:H p=none)(r:j3 K (j4 H O) ds vs):j5 K (j4 (upd H p (.tup vs)) O) (.tup ds) (.ref p):=by
 rw[j5];refine⟨p,vs,rfl,jX.of ?_,r.same (j9 (jp hp _))⟩;rw[jq hO,jx]
@[simp] noncomputable def jG:D->D->Option D
 | .int i,.int j=>some (.int (i+j))
 | .str i,.str j=>if i.length+j.length<=sizeLine then some (.str (i++j))else none
 | .tup l,.tup m=>if l.length+m.length<=sizeLine/\l≠[]then some (.tup (l++m))else none
 | _,_=>none
theorem bm:jM K (fun x y H Q=>Yg (fun i j=>.int (i+j)) x y H Q∨(fun x y H Q=>Gz K x y H Q∨(fun x y H Q=>∃i j,x=.str i/\y=.str j/\i.length+j.length<=sizeLine/\Q (.str (i++j)) H) x y H Q) x y H Q) jG:=by
 intro O H a b d x y Q ha hb hn e q;unfold jG at e;split at e
 ·cases e;exact .inl ⟨_,_,ha.int,hb.int,q _ H (j1.refl H) (by rw[j5])⟩
 ·split at e
  ·cases e;exact .inr (.inr ⟨_,_,ha.str,hb.str,by assumption,q _ H (j1.refl H) (by rw[j5])⟩)
  ·cases e
 ·split at e
  ·rename_i hh;cases e;obtain⟨p,xs,rfl,h1,h2⟩:=ha.tup;obtain⟨p',xs',rfl,h1',h2'⟩:=hb.tup;have l1:=h2.len;have l2:=h2'.len;refine .inr (.inl ⟨p,p',xs,xs',rfl,rfl,h1,h1',fun z=>hh.2 (List.length_eq_zero_iff.mp (by rw[<-l1,z];rfl)),by rw[l1,l2];exact hh.1,fun z=>?_,fun _ l hl=>q _ _ (jp hl _) (Je (hn l hl) hl (h2.app h2'))⟩);refine q _ H (j1.refl H) ?_;have e0:∀m:List D,xs'.length=m.length->xs'=[]->m=[]:=fun m h z=>List.length_eq_zero_iff.mp (by rw[<-h,z];rfl);rw[e0 _ l2 z,List.append_nil];rcases ha with ha | ⟨_,o,_,z,_⟩
   ·exact ha
   ·cases o <;> cases z
  ·cases e
 ·cases e
end
section
variable {X:Cx} {K:Fr} {e a b c d:Expr} {de da db dc dd:DE} {pos:Pos}
@[simp] noncomputable def U8(z:D)(yes:Option D):Option D:=match z with
 | .bl true=>yes
 | .bl false=>some (.bl false)
 | _=>none
theorem YV{z d:D}{y:Option D}(h:U8 z y=some d):∃k,z=.bl k/\((k=true/\y=some d)∨(k=false/\d=.bl false)):=by
 unfold U8 at h;split at h
 ·exact⟨true,rfl,.inl ⟨rfl,h⟩⟩
 ·exact⟨false,rfl,.inr ⟨rfl,(vFa h).symm⟩⟩
 ·cases h
@[simp] def J6(f f':D->D->Option D)(da db dc:DE)(ρ:j7):Option D:=(da ρ).bind fun x=>(db ρ).bind fun y=>(f x y).bind fun z=>U8 z ((dc ρ).bind fun w=>f' y w)
theorem kW{r r':R2}{f f':D->D->Option D}(hf:jM K r f)(hf':jM K r' f'):∀σ H Q,tE K (J6 f f' da db dc) σ H Q->uP r r' (tR K da) (tR K db) (tR K dc) σ H Q:=fun σ H Q xx=>by
 obtain⟨H0,O0,ρ,O,d,R,ed,q⟩:=xx;obtain⟨x,ex,ed⟩:=j0 ed;obtain⟨y,ey,ed⟩:=j0 ed;obtain⟨z,ez,ed⟩:=j0 ed;obtain⟨k,rfl,ek⟩:=YV ed;refine⟨H0,O0,ρ,O,x,R,ex,fun vx H1 s1 rx=>⟨H0,O0,ρ,O,y,R.grow s1,ey,fun vy H2 s2 ry=>hf O H2 x y _ vx vy _ (rx.same s2) ry (fun p hp=>(R.grow (s1.trans s2)).new hp) ez fun v H3 s3 rz=>?_⟩⟩;rw[j5]at rz;subst rz;refine⟨k,rfl,?_⟩;have s13:=(s1.trans s2).trans s3;rcases ek with⟨rfl,e2⟩ | ⟨rfl,rfl⟩
 ·obtain⟨w,ew,e3⟩:=j0 e2;exact yw ⟨H0,O0,ρ,O,w,R.grow s13,ew,fun vw H4 s4 rw'=>hf' O H4 y w d vy vw Q ((ry.same s3).same s4) rw' (fun p hp=>(R.grow (s13.trans s4)).new hp) e3 fun v H' s r=>q v H' ((s13.trans s4).trans s) r⟩
 ·exact yv (q _ _ s13 (by rw[j5]))
theorem qY{op op':CmpOp}{r r':R2}{f f':D->D->Option D}(ho:jt X (compareOp op) r)(ho':jt X (compareOp op') r')(hf:jM K r f)(hf':jM K r' f')(ha:PE X a (tR K da))(hb:PE X b (tR K db))(hc:PE X c (tR K dc))(hm:lastMarks [op,op'] [b,c]=false:=by with_unfolding_all rfl):PE X (.Compare a [op,op'] [b,c] pos) (tE K (J6 f f' da db dc)):=jk (KL ho ho' ha hb hc hm) (kW hf hf')
@[simp] def ZI(f f' f'':D->D->Option D)(da db dc dd:DE)(ρ:j7):Option D:=(da ρ).bind fun x=>(db ρ).bind fun y=>(f x y).bind fun z=>U8 z ((dc ρ).bind fun w=>(f' y w).bind fun z'=>U8 z' ((dd ρ).bind fun u=>f'' w u))
theorem wk{op op' op'':CmpOp}{r r' r'':R2}{f f' f'':D->D->Option D}(ho:jt X (compareOp op) r)(ho':jt X (compareOp op') r')(ho'':jt X (compareOp op'') r'')(hf:jM K r f)(hf':jM K r' f')(hf'':jM K r'' f'')(ha:PE X a (tR K da))(hb:PE X b (tR K db))(hc:PE X c (tR K dc))(hd:PE X d (tR K dd))(hm:lastMarks [op,op',op''] [b,c,d]=false:=by with_unfolding_all rfl):
  PE X (.Compare a [op,op',op''] [b,c,d] pos) (tE K (ZI f f' f'' da db dc dd)):=jk (kR ho ho' ho'' ha hb hc hd hm) fun σ H Q xx=>by
 obtain⟨H0,O0,ρ,O,d,R,ed,q⟩:=xx;obtain⟨x,ex,ed⟩:=j0 ed;obtain⟨y,ey,ed⟩:=j0 ed;obtain⟨z,ez,ed⟩:=j0 ed;obtain⟨k,rfl,ek⟩:=YV ed;refine⟨H0,O0,ρ,O,x,R,ex,fun vx H1 s1 rx=>⟨H0,O0,ρ,O,y,R.grow s1,ey,fun vy H2 s2 ry=>hf O H2 x y _ vx vy _ (rx.same s2) ry (fun p hp=>(R.grow (s1.trans s2)).new hp) ez fun v H3 s3 rz=>?_⟩⟩;rw[j5]at rz;subst rz;refine⟨k,rfl,?_⟩;have s13:=(s1.trans s2).trans s3;rcases ek with⟨rfl,e2⟩ | ⟨rfl,rfl⟩
 ·obtain⟨w,ew,e3⟩:=j0 e2;obtain⟨z',ez',e3⟩:=j0 e3;obtain⟨k',rfl,ek'⟩:=YV e3;refine yw ⟨H0,O0,ρ,O,w,R.grow s13,ew,fun vw H4 s4 rw'=>hf' O H4 y w _ vy vw _ ((ry.same s3).same s4) rw' (fun p hp=>(R.grow (s13.trans s4)).new hp) ez' fun v H5 s5 r=>?_⟩;rw[j5]at r;subst r;refine⟨k',rfl,?_⟩;have s15:=(s13.trans s4).trans s5;rcases ek' with⟨rfl,e4⟩ | ⟨rfl,rfl⟩
  ·obtain⟨u,eu,e5⟩:=j0 e4;exact yw ⟨H0,O0,ρ,O,u,R.grow s15,eu,fun vu H6 s6 ru=>hf'' O H6 w u d vw vu Q ((rw'.same s5).same s6) ru (fun p hp=>(R.grow (s15.trans s6)).new hp) e5 fun v H' s r=>q v H' ((s15.trans s6).trans s) r⟩
  ·exact yv (q _ _ s15 (by rw[j5]))
 ·exact yv (q _ _ s13 (by rw[j5]))
@[simp] noncomputable def xU:D->Option Bool
 | .bl b=>some b
 | _=>none
noncomputable def zM:D->Option Bool
 | .bl b=>some b
 | .non=>some false
 | .int i=>some (i != 0)
 | .lst l=>some (!l.isEmpty)
 | .tup l=>some (!l.isEmpty)
 | _=>none
@[simp] theorem CG(b:Bool):zM (.bl b)=some b:=rfl
@[simp] theorem cP:zM .non=some false:=rfl
@[simp] theorem cR(l:List D):zM (.lst l)=some (!l.isEmpty):=rfl
@[simp] theorem cU(l:List D):zM (.tup l)=some (!l.isEmpty):=rfl
@[simp] theorem cY(i:Int):zM (.int i)=some (i != 0):=rfl
theorem xV{O:List Addr}{H:Hp}{d:D}{v:V}{k:Bool}(h:RB K O H d v)(e:zM d=some k):KN K v H k:=by
 unfold zM at e;split at e
 ·cases e;rw[h.bl];rfl
 ·cases e;rw[h.non];rfl
 ·cases e;rw[h.int];rfl
 ·cases e;obtain⟨p,xs,rfl,h1,h2⟩:=h.lst;refine .inl ⟨xs,jj.of h1,?_⟩;have:=h2.len;cases xs with
  | nil=>rw[List.length_eq_zero_iff.mp this.symm];rfl
  | cons x xs=>
   rename_i l;cases l with
   | nil=>cases this
   | cons y l=>rfl
 ·cases e;obtain⟨p,xs,rfl,h1,h2⟩:=h.tup;refine .inr (.inl ⟨xs,h1,?_⟩);have:=h2.len;cases xs with
  | nil=>rw[List.length_eq_zero_iff.mp this.symm];rfl
  | cons x xs=>
   rename_i l;cases l with
   | nil=>cases this
   | cons y l=>rfl
 ·cases e
abbrev DT:=j7->Option Bool
@[simp] def JZ(de:DE)(ρ:j7):Option Bool:=(de ρ).bind zM
theorem WK(h:PE X e (tR K de))(hK:X.K=K:=by rfl)(he:∀whole,isTrue e X.env whole=(do let v<-whole;standAt e.pos;holding [v] (truthy v)):=by intro _;rfl):PT X e (tT K (JZ de)):=v_ (KO h he) fun σ H Q xx=>by
 obtain⟨H0,O0,ρ,O,k,R,ed,q⟩:=xx;subst hK;obtain⟨d,e1,e2⟩:=j0 ed;exact⟨H0,O0,ρ,O,d,R,e1,fun v H' s r=>⟨k,xV r e2,q H' s⟩⟩
@[simp] def Jf(de:DE)(ρ:j7):Option Bool:=(de ρ).bind xU
theorem U9{d:D}{k:Bool}(h:xU d=some k):d=.bl k:=by
 unfold xU at h;split at h
 ·cases h;rfl
 ·cases h
theorem bn{op:CmpOp}{r:R2}{f:D->D->Option D}(ho:jt X (compareOp op) r)(hf:jM K r f)(ha:PE X a (tR K da))(hb:PE X b (tR K db))(hm:behindInMarks op b=false):PT X (.Compare a [op] [b] pos) (tT K (Jf (d2 f da db))):=v_ (qG ho ha hb hm) fun σ H Q xx=>by
 obtain⟨H0,O0,ρ,O,k,R,ed,q⟩:=xx;obtain⟨d,e1,e2⟩:=j0 ed;cases U9 e2;exact V1 hf σ H _ ⟨H0,O0,ρ,O,_,R,e1,fun v H' s r=>⟨k,by rw[j5]at r;exact r,q H' s⟩⟩
theorem qZ{op op':CmpOp}{r r':R2}{f f':D->D->Option D}(ho:jt X (compareOp op) r)(ho':jt X (compareOp op') r')(hf:jM K r f)(hf':jM K r' f')(ha:PE X a (tR K da))(hb:PE X b (tR K db))(hc:PE X c (tR K dc))(hm:lastMarks [op,op'] [b,c]=false:=by with_unfolding_all rfl):PT X (.Compare a [op,op'] [b,c] pos) (tT K (Jf (J6 f f' da db dc))):=v_ (KM ho ho' ha hb hc hm) fun σ H Q xx=>by
 obtain⟨H0,O0,ρ,O,k,R,ed,q⟩:=xx;obtain⟨d,e1,e2⟩:=j0 ed;cases U9 e2;have e1':=e1;obtain⟨x,ex,e1⟩:=j0 e1;obtain⟨y,ey,e1⟩:=j0 e1;obtain⟨z,ez,e1⟩:=j0 e1;obtain⟨k',rfl,ek⟩:=YV e1;refine⟨H0,O0,ρ,O,x,R,ex,fun vx H1 s1 rx=>⟨H0,O0,ρ,O,y,R.grow s1,ey,fun vy H2 s2 ry=>hf O H2 x y _ vx vy _ (rx.same s2) ry (fun p hp=>(R.grow (s1.trans s2)).new hp) ez fun v H3 s3 rz=>?_⟩⟩;rw[j5]at rz;subst rz;refine⟨k',rfl,?_⟩;have s13:=(s1.trans s2).trans s3;rcases ek with⟨rfl,e2⟩ | ⟨rfl,e0⟩
 ·obtain⟨w,ew,e3⟩:=j0 e2;exact yw ⟨H0,O0,ρ,O,w,R.grow s13,ew,fun vw H4 s4 rw'=>hf' O H4 y w _ vy vw _ ((ry.same s3).same s4) rw' (fun p hp=>(R.grow (s13.trans s4)).new hp) e3 fun v H' s r=>⟨k,by rw[j5]at r;exact r,q H' ((s13.trans s4).trans s)⟩⟩
 ·cases e0;exact yv ⟨false,rfl,q _ s13⟩
@[simp] noncomputable def JD(dt:DT)(ρ:j7):Option Bool:=(dt ρ).bind fun k=>some (!k)
theorem bp{dt:DT}(h:PT X a (tT K dt)):PT X (.UnaryOp .Not a pos) (tT K (JD dt)):=v_ (QP h) fun σ H Q xx=>by
 obtain⟨H0,O0,ρ,O,k,R,ed,q⟩:=xx;obtain⟨k',e1,e2⟩:=j0 ed;cases e2;exact⟨H0,O0,ρ,O,k',R,e1,fun H' s=>q H' s⟩
@[simp] noncomputable def GH(dt du:DT)(ρ:j7):Option Bool:=(dt ρ).bind fun k=>if k=true then du ρ else some false
@[simp] noncomputable def Yy(dt du:DT)(ρ:j7):Option Bool:=(dt ρ).bind fun k=>if k=true then some true else du ρ
theorem xW{dt:DT}(h:PT X a (tT K dt)):PW X (.BoolOp .And [a] pos) (tT K dt):=qy h
theorem bq{dt:DT}(h:PT X a (tT K dt)):PW X (.BoolOp .Or [a] pos) (tT K dt):=QN h
theorem br{dt du:DT}{rest:List Expr}(h:PT X a (tT K dt))(h2:PW X (.BoolOp .And (b::rest) pos) (tT K du)):PW X (.BoolOp .And (a::b::rest) pos) (tT K (GH dt du)):=WF (QO h h2) fun σ H Q xx=>by
 obtain⟨H0,O0,ρ,O,k,R,ed,q⟩:=xx;obtain⟨k',e1,e2⟩:=j0 ed;refine⟨H0,O0,ρ,O,k',R,e1,fun H' s=>?_⟩;cases k' with
 | true=>rw[if_pos rfl]at e2;exact yw ⟨H0,O0,ρ,O,k,R.grow s,e2,fun H2 s2=>q H2 (s.trans s2)⟩
 | false=>rw[if_neg Bool.false_ne_true]at e2;cases e2;exact yv (q H' s)
theorem cZ{dt du:DT}{rest:List Expr}(h:PT X a (tT K dt))(h2:PW X (.BoolOp .Or (b::rest) pos) (tT K du)):PW X (.BoolOp .Or (a::b::rest) pos) (tT K (Yy dt du)):=WF (Aw h h2) fun σ H Q xx=>by
 obtain⟨H0,O0,ρ,O,k,R,ed,q⟩:=xx;obtain⟨k',e1,e2⟩:=j0 ed;refine⟨H0,O0,ρ,O,k',R,e1,fun H' s=>?_⟩;cases k' with
 | true=>rw[if_pos rfl]at e2;cases e2;exact yw (q H' s)
 | false=>rw[if_neg Bool.false_ne_true]at e2;exact yv ⟨H0,O0,ρ,O,k,R.grow s,e2,fun H2 s2=>q H2 (s.trans s2)⟩
theorem xX{dt:DT}(h:PW X e (tT K dt)):PT X e (tT K dt):=h.pt
@[simp] noncomputable def JR(da db:DE)(ρ:j7):Option D:=(da ρ).bind fun x=>match x with
 | .bl true=>db ρ
 | .bl false=>some (.bl false)
 | _=>none
@[simp] noncomputable def GJ(da db:DE)(ρ:j7):Option D:=(da ρ).bind fun x=>match x with
 | .bl true=>some (.bl true)
 | .bl false=>db ρ
 | _=>none
@[simp] noncomputable def WL(da:DE)(ρ:j7):Option D:=(da ρ).bind fun x=>match x with
 | .bl k=>some (.bl (!k))
 | _=>none
theorem WM{op}(h:PE X a (tE K da)):PE X (.BoolOp op [a] pos) (tE K da):=QQ h
theorem bt{rest:List Expr}(ha:PE X a (tR K da))(hb:PE X (.BoolOp .And (b::rest) pos) (tE K db)):PE X (.BoolOp .And (a::b::rest) pos) (tE K (JR da db)):=jk (QR ha hb) fun σ H Q xx=>by
 obtain⟨H0,O0,ρ,O,d,R,ed,q⟩:=xx;obtain⟨x,e1,e2⟩:=j0 ed;refine⟨H0,O0,ρ,O,x,R,e1,fun v H' s r=>?_⟩;split at e2
 ·exact⟨true,r.bl,yw ⟨H0,O0,ρ,O,d,R.grow s,e2,fun v H2 s2 r2=>q v H2 (s.trans s2) r2⟩⟩
 ·cases e2;exact⟨false,r.bl,yv (q _ _ s (by rw[j5]))⟩
 ·cases e2
theorem c_{rest:List Expr}(ha:PE X a (tR K da))(hb:PE X (.BoolOp .Or (b::rest) pos) (tE K db)):PE X (.BoolOp .Or (a::b::rest) pos) (tE K (GJ da db)):=jk (Az ha hb) fun σ H Q xx=>by
 obtain⟨H0,O0,ρ,O,d,R,ed,q⟩:=xx;obtain⟨x,e1,e2⟩:=j0 ed;refine⟨H0,O0,ρ,O,x,R,e1,fun v H' s r=>?_⟩;split at e2
 ·cases e2;exact⟨true,r.bl,yw (q _ _ s (by rw[j5]))⟩
 ·exact⟨false,r.bl,yv ⟨H0,O0,ρ,O,d,R.grow s,e2,fun v H2 s2 r2=>q v H2 (s.trans s2) r2⟩⟩
 ·cases e2
theorem bu(ha:PE X a (tR K da)):PE X (.UnaryOp .Not a pos) (tE K (WL da)):=jk (QS ha) fun σ H Q xx=>by
 obtain⟨H0,O0,ρ,O,d,R,ed,q⟩:=xx;obtain⟨x,e1,e2⟩:=j0 ed;refine⟨H0,O0,ρ,O,x,R,e1,fun v H' s r=>?_⟩;split at e2
 ·cases e2;exact⟨_,r.bl,q _ _ s (by rw[j5])⟩
 ·cases e2
@[simp] noncomputable def xY(da:DE)(ρ:j7):Option D:=(da ρ).bind fun x=>match x with
 | .int i=>some (.int (-i))
 | _=>none
theorem bv(ha:PE X a (tR K da)):PE X (.UnaryOp .USub a pos) (tE K (xY da)):=jk (AF xm ha) fun σ H Q xx=>by
 obtain⟨H0,O0,ρ,O,d,R,ed,q⟩:=xx;obtain⟨x,e1,e2⟩:=j0 ed;refine⟨H0,O0,ρ,O,x,R,e1,fun v H' s r=>?_⟩;split at e2
 ·cases e2;exact⟨_,r.int,q _ _ s (by rw[j5])⟩
 ·cases e2
@[simp] noncomputable def xZ(dt:DT)(da db:DE)(ρ:j7):Option D:=(dt ρ).bind fun k=>if k=true then da ρ else db ρ
theorem bw{dt:DT}(hc:PT X c (tT K dt))(ha:PE X a (tE K da))(hb:PE X b (tE K db)):PE X (.IfExp c a b pos) (tE K (xZ dt da db)):=jk (Kz hc ha hb) fun σ H Q xx=>by
 obtain⟨H0,O0,ρ,O,d,R,ed,q⟩:=xx;obtain⟨k,e1,e2⟩:=j0 ed;refine⟨H0,O0,ρ,O,k,R,e1,fun H' s=>?_⟩;cases k with
 | true=>rw[if_pos rfl]at e2;exact yw ⟨H0,O0,ρ,O,d,R.grow s,e2,fun v H2 s2 r2=>q v H2 (s.trans s2) r2⟩
 | false=>rw[if_neg Bool.false_ne_true]at e2;exact yv ⟨H0,O0,ρ,O,d,R.grow s,e2,fun v H2 s2 r2=>q v H2 (s.trans s2) r2⟩
theorem bx:PA X [] (yX K []):=WG J4 fun σ H Q xx=>by
 obtain⟨H0,O0,ρ,O,ds,R,ed,q⟩:=xx;cases ed;exact q [] H (j1.refl H) trivial
theorem WN{es:List Expr}{l:DA}{k:Bool}{t:TE}(ht:∀σ H Q,(∃H0 O0 ρ O d,Rel K H0 O0 ρ σ H O/\de ρ=some d/\∀v H',j1 H H'->AK K O H' k d v->Q v H')->t σ H Q)(h:PE X e t)(hr:PA X es (yX K l))(hs:starEach (e::es) X.env=(false,eval e X.env)::starEach es X.env:=by rfl):PA X (e::es) (yX K ((k,de)::l)):=WG (jz h hr hs) fun σ H Q xx=>by
 obtain⟨H0,O0,ρ,O,ds,R,ed,q⟩:=xx;obtain⟨d,e1,ed⟩:=j0 ed;obtain⟨ds',e2,ed⟩:=j0 ed;cases ed;exact ht _ _ _ ⟨H0,O0,ρ,O,d,R,e1,fun v H1 s1 r1=>⟨H0,O0,ρ,O,ds',R.grow s1,e2,fun vs H2 s2 r2=>q _ H2 (s1.trans s2) ⟨r1.same s2,r2⟩⟩⟩
theorem C0{es:List Expr}{l:DA}(h:PE X e (tE K de))(hr:PA X es (yX K l))(hs:starEach (e::es) X.env=(false,eval e X.env)::starEach es X.env:=by rfl):PA X (e::es) (yX K ((true,de)::l)):=WN (fun σ H Q z=>z) h hr hs
theorem C1{es:List Expr}{l:DA}(h:PE X e (tR K de))(hr:PA X es (yX K l))(hs:starEach (e::es) X.env=(false,eval e X.env)::starEach es X.env:=by rfl):PA X (e::es) (yX K ((false,de)::l)):=WN (fun σ H Q z=>z) h hr hs
theorem Zn:∀{l:DA} {ρ:j7} {ds:List D},Yl l ρ=some ds->ds.length=l.length
 | [],_,_,h=>by cases h;rfl
 | p::ps,ρ,ds,h=>by
  obtain⟨d,e1,h⟩:=j0 h;obtain⟨ds',e2,h⟩:=j0 h;cases h;rw[List.length_cons,List.length_cons,Zn e2]
theorem JC.reps{O:List Addr}{H:Hp}:∀{ks:List Bool} {ds:List D} {vs:List V},JC K O H ks ds vs->ks.all id=true->j3 K (j4 H O) ds vs
 | [],[],[],_,_=>j3.nil
 | true::_,_::_,_::_,h,e=>j3.cons h.1 (JC.reps h.2 (by simpa using e))
 | false::_,_::_,_::_,h,e=>by simp at e
 | [],[],_::_,h,_=>h.elim
 | [],_::_,_,h,_=>h.elim
 | _::_,[],_,h,_=>h.elim
 | _::_,_::_,[],h,_=>h.elim
theorem JC.len{O:List Addr}{H:Hp}:∀{ks:List Bool} {ds:List D} {vs:List V},JC K O H ks ds vs->vs.length=ds.length/\ks.length=ds.length
 | [],[],[],_=>⟨rfl,rfl⟩
 | _::_,_::_,_::_,h=>by have:=JC.len h.2;simp[this.1,this.2]
 | [],[],_::_,h=>h.elim
 | [],_::_,_,h=>h.elim
 | _::_,[],_,h=>h.elim
 | _::_,_::_,[],h=>h.elim
@[simp] def Zo(l:DA)(ρ:j7):Option D:=(Yl l ρ).bind fun ds=>some (.tup ds)
theorem bz{es:List Expr}{l:DA}{x1}(h:PA X es (yX K l))(hk:(l.map (·.1)).all id=true:=by rfl)(hl:Nat.ble l.length sizeLine=true:=by rfl):PE X (.Tuple es x1 pos) (tE K (Zo l)):=jk (xy h) fun σ H Q xx=>by
 obtain⟨H0,O0,ρ,O,d,R,ed,q⟩:=xx;obtain⟨ds,e1,e2⟩:=j0 ed;cases e2;refine⟨H0,O0,ρ,O,ds,R,e1,fun vs H1 s1 r=>⟨by rw[r.len.1,Zn e1];exact Nat.le_of_ble_eq_true hl,fun p hp=>q _ _ (s1.trans (jp hp _)) (Je ((R.grow s1).new hp) hp (r.reps hk))⟩⟩
@[simp] def Jc(l:DA)(ρ:j7):Option OD:=(Yl l ρ).bind fun ds=>some (.lst ds)
theorem bA{es:List Expr}{l:DA}(h:PA X es (yX K l))(hk:(l.map (·.1)).all id=true:=by rfl)(hl:Nat.ble l.length sizeLine=true:=by rfl):PE X (.List es pos) (tF K (Jc l)):=jk (kD h) fun σ H Q xx=>by
 obtain⟨H0,O0,ρ,O,d,R,ed,q⟩:=xx;obtain⟨ds,e1,e2⟩:=j0 ed;cases e2;refine⟨H0,O0,ρ,O,ds,R,e1,fun vs H1 s1 r=>⟨by rw[r.len.1,Zn e1];exact Nat.le_of_ble_eq_true hl,fun p hp=>q _ _ (s1.trans (jp hp _)) (s1.none hp) (JF hp (r.reps hk))⟩⟩
abbrev Ua:=j7->Option (Option Int)
noncomputable def Ub(K:Fr)(p:Ua):TO:=fun σ H Q=>∃H0 O0 ρ O o,Rel K H0 O0 ρ σ H O/\p ρ=some o/\∀H',j1 H H'->Q o H'
@[simp] noncomputable def yp:D->Option (Option Int)
 | .int i=>some (some i)
 | _=>none
theorem C2:PO X none (Ub K fun _=>some none):=fun pins s σ H Q I xx=>by
 obtain⟨H0,O0,ρ,O,o,R,ed,q⟩:=xx;cases ed;exact qM pins s σ H Q I (q H (j1.refl H))
theorem C3(h:PE X e (tR K de)):PO X (some e) (Ub K fun ρ=>(de ρ).bind yp):=fun pins s σ H Q I xx=>by
 obtain⟨H0,O0,ρ,O,o,R,ed,q⟩:=xx;obtain⟨d,e1,e2⟩:=j0 ed;refine qN h pins s σ H Q I ⟨H0,O0,ρ,O,d,R,e1,fun v H' s r=>?_⟩;unfold yp at e2;split at e2
 ·cases e2;exact⟨_,r.int,q H' s⟩
 ·cases e2
def Jd{α:Type}(xs:List α)(lo hi:Option Int):List α:=(xs.drop (HT.sIx xs.length 0 lo)).take (HT.sIx xs.length xs.length hi - HT.sIx xs.length 0 lo)
theorem j3.cut{H:Hp}{l:List D}{xs:List V}(h:j3 K H l xs)(lo hi:Option Int):j3 K H (Jd l lo hi) (Zh xs lo hi):=by
 unfold Jd Zh;rw[h.len];exact(h.drop _).take _
theorem j3.ints{H:Hp}:∀ns:List Int,j3 K H (ns.map D.int) (ns.map V.int)
 | []=>j3.nil
 | n::ns=>j3.cons (by rw[j5]) (j3.ints ns)
def yd(d:D)(lo hi:Option Int):Option OD:=match d with
 | .lst l=>some (.lst (Jd l lo hi))
 | .scr ns=>some (.lst (Jd (ns.map D.int) lo hi))
 | _=>none
@[simp] theorem Bo(l:List D)(lo hi:Option Int):yd (.lst l) lo hi=some (.lst (Jd l lo hi)):=rfl
@[simp] theorem Bp(l:List Int)(lo hi:Option Int):yd (.scr l) lo hi=some (.lst (Jd (l.map D.int) lo hi)):=rfl
@[simp] def ye(de:DE)(p q:Ua)(ρ:j7):Option OD:=(de ρ).bind fun d=>(p ρ).bind fun lo=>(q ρ).bind fun hi=>yd d lo hi
theorem bB{lo hi:Option Expr}{p q:Ua}{p2:Pos}(he:PE X e (tR K de))(hl:PO X lo (Ub K p))(hu:PO X hi (Ub K q))(hK:X.K=K:=by rfl):PE X (.Subscript e (.Slice lo hi none p2) pos) (tF K (ye de p q)):=jk (uS qP he hl hu) fun σ H Q xx=>by
 obtain⟨H0,O0,ρ,O,d,R,ed,qq⟩:=xx;subst hK;obtain⟨x,e1,ed⟩:=j0 ed;obtain⟨l,e2,ed⟩:=j0 ed;obtain⟨u,e3,ed⟩:=j0 ed;refine⟨H0,O0,ρ,O,x,R,e1,fun v H1 s1 r=>⟨H0,O0,ρ,O,l,R.grow s1,e2,fun H2 s2=>⟨H0,O0,ρ,O,u,R.grow (s1.trans s2),e3,fun H3 s3=>?_⟩⟩⟩;have s13:=(s1.trans s2).trans s3;have r3:=r.same (s2.trans s3);unfold yd at ed;split at ed
 ·cases ed;obtain⟨pp,xs,rfl,h1,h2⟩:=r3.lst;exact⟨pp,xs,rfl,jj.of h1,fun p hp=>qq p _ (s13.trans (jp hp _)) (s13.none hp) (JF hp (h2.cut l u))⟩
 ·cases ed;have r4:=r3.full;rw[j5]at r4;obtain⟨pp,rfl,h1⟩:=r4;exact⟨pp,_,rfl,h1,fun p hp=>qq p _ (s13.trans (jp hp _)) (s13.none hp) (JF hp ((j3.ints _).cut l u))⟩
 ·cases ed
def GK(d:D)(lo hi:Option Int):Option D:=match d with
 | .tup l=>if HT.sIx l.length 0 lo=0/\HT.sIx l.length l.length hi=l.length then none else some (.tup (Jd l lo hi))
 | _=>none
@[simp] def uC(de:DE)(p q:Ua)(ρ:j7):Option D:=(de ρ).bind fun d=>(p ρ).bind fun lo=>(q ρ).bind fun hi=>GK d lo hi
theorem bC{lo hi:Option Expr}{p q:Ua}{p2:Pos}(he:PE X e (tR K de))(hl:PO X lo (Ub K p))(hu:PO X hi (Ub K q))(hK:X.K=K:=by rfl):PE X (.Subscript e (.Slice lo hi none p2) pos) (tE K (uC de p q)):=jk (uS xA he hl hu) fun σ H Q xx=>by
 obtain⟨H0,O0,ρ,O,d,R,ed,qq⟩:=xx;subst hK;obtain⟨x,e1,ed⟩:=j0 ed;obtain⟨l,e2,ed⟩:=j0 ed;obtain⟨u,e3,ed⟩:=j0 ed;refine⟨H0,O0,ρ,O,x,R,e1,fun v H1 s1 r=>⟨H0,O0,ρ,O,l,R.grow s1,e2,fun H2 s2=>⟨H0,O0,ρ,O,u,R.grow (s1.trans s2),e3,fun H3 s3=>?_⟩⟩⟩;have s13:=(s1.trans s2).trans s3;have r3:=r.same (s2.trans s3);unfold GK at ed;split at ed
 ·split at ed
  ·cases ed
  ·cases ed;obtain⟨pp,xs,rfl,h1,h2⟩:=r3.tup;exact⟨pp,xs,rfl,h1,by rw[h2.len];assumption,fun p hp=>qq _ _ (s13.trans (jp hp _)) (Je ((R.grow s13).new hp) hp (h2.cut l u))⟩
 ·cases ed
def Fn(K:Fr)(r:List V->Hp->VK->Prop)(f:List D->Option D):Prop:=∀(O:List Addr) (H:Hp) (ks:List Bool) (ds:List D) (vs:List V) (d:D) (Q:VK),JC K O H ks ds vs->(∀p,H p=none->p∉O)->f ds=some d->(∀v H',j1 H H'->j5 K (j4 H' O) d v->Q v H')->r vs H Q
def Bq(K:Fr)(r:List V->Hp->VK->Prop)(f:List D->Option OD):Prop:=∀(O:List Addr) (H:Hp) (ks:List Bool) (ds:List D) (vs:List V) (d:OD) (Q:VK),JC K O H ks ds vs->f ds=some d->(∀l H',j1 H H'->H l=none->Ja K H' (j4 H' (l::O)) l d->Q (.ref l) H')->r vs H Q
@[simp] def je(f:List D->Option D)(l:DA)(ρ:j7):Option D:=(Yl l ρ).bind f
@[simp] def J1(f:List D->Option OD)(l:DA)(ρ:j7):Option OD:=(Yl l ρ).bind f
theorem Yz{r:List V->Hp->VK->Prop}{f:List D->Option D}{l:DA}(hf:Fn K r f):∀σ H Q,tE K (je f l) σ H Q->kH r (yX K l) σ H Q:=fun σ H Q xx=>by
 obtain⟨H0,O0,ρ,O,d,R,ed,q⟩:=xx;obtain⟨ds,e1,e2⟩:=j0 ed;exact⟨H0,O0,ρ,O,ds,R,e1,fun vs H1 s1 r1=>hf O H1 _ ds vs d Q r1 (fun p hp=>(R.grow s1).new hp) e2 fun v H' s r=>q v H' (s1.trans s) r⟩
theorem q_{r:List V->Hp->VK->Prop}{f:List D->Option OD}{l:DA}(hf:Bq K r f):∀σ H Q,tF K (J1 f l) σ H Q->kH r (yX K l) σ H Q:=fun σ H Q xx=>by
 obtain⟨H0,O0,ρ,O,d,R,ed,q⟩:=xx;obtain⟨ds,e1,e2⟩:=j0 ed;exact⟨H0,O0,ρ,O,ds,R,e1,fun vs H1 s1 r1=>hf O H1 _ ds vs d Q r1 e2 fun l H' s hn r=>q l H' (s1.trans s) (s1.none hn) r⟩
theorem YA{O:List Addr}{H:Hp}{ks:List Bool}{d:D}{vs:List V}(h:JC K O H ks [d] vs):∃v,vs=[v]/\RB K O H d v:=by
 cases ks with
 | nil=>exact h.elim
 | cons k ks=>
  cases vs with
  | nil=>exact h.elim
  | cons v vs=>
   obtain⟨h1,h2⟩:=h;have:=JC.len h2;have e:vs=[]:=List.length_eq_zero_iff.mp this.1;subst e;exact⟨v,rfl,AK.rb h1⟩
@[simp] noncomputable def JO:List D->Option D
 | [.lst l]=>some (.int l.length)
 | [.tup l]=>some (.int l.length)
 | _=>none
theorem bD:Fn K (fun xs H Q=>∃p ys,xs=[.ref p]/\(jj K H p ys∨jX K H p ys)/\Q (.int ys.length) H) JO:=by
 intro O H ks ds vs d Q h hn e q;unfold JO at e;split at e
 ·cases e;obtain⟨v,rfl,r⟩:=YA h;obtain⟨p,xs,rfl,h1,h2⟩:=r.lst;exact⟨p,xs,rfl,.inl (jj.of h1),q _ H (j1.refl H) (by rw[j5,h2.len])⟩
 ·cases e;obtain⟨v,rfl,r⟩:=YA h;obtain⟨p,xs,rfl,h1,h2⟩:=r.tup;exact⟨p,xs,rfl,.inr h1,q _ H (j1.refl H) (by rw[j5,h2.len])⟩
 ·cases e
@[simp] noncomputable def JS:List D->Option OD
 | [.lst l]=>some (.lst l)
 | [.tup l]=>some (.lst l)
 | _=>none
theorem x_:Bq K (fun xs H Q=>∃p ys,xs=[.ref p]/\(jj K H p ys∨jX K H p ys)/\∀l,H l=none->Q (.ref l) (upd H l (.lst ys))) JS:=by
 intro O H ks ds vs d Q h e q;unfold JS at e;split at e
 ·cases e;obtain⟨v,rfl,r⟩:=YA h;obtain⟨p,xs,rfl,h1,h2⟩:=r.lst;exact⟨p,xs,rfl,.inl (jj.of h1),fun l hl=>q _ _ (jp hl _) hl (JF hl h2)⟩
 ·cases e;obtain⟨v,rfl,r⟩:=YA h;obtain⟨p,xs,rfl,h1,h2⟩:=r.tup;exact⟨p,xs,rfl,.inr h1,fun l hl=>q _ _ (jp hl _) hl (JF hl h2)⟩
 ·cases e
@[simp] noncomputable def yY:List D->Option D
 | [.lst l]=>some (.tup l)
 | [.tup l]=>some (.tup l)
 | _=>none
theorem Q0:Fn K (fun xs H Q=>∃p ys,xs=[.ref p]/\((jj K H p ys/\∀l,H l=none->Q (.ref l) (upd H l (.tup ys)))∨(jX K H p ys/\Q (.ref p) H))) yY:=by
 intro O H ks ds vs d Q h hn e q;unfold yY at e;split at e
 ·cases e;obtain⟨v,rfl,r⟩:=YA h;obtain⟨p,xs,rfl,h1,h2⟩:=r.lst;exact⟨p,xs,rfl,.inl ⟨jj.of h1,fun l hl=>q _ _ (jp hl _) (Je (hn l hl) hl h2)⟩⟩
 ·cases e;obtain⟨v,rfl,r⟩:=YA h;have r0:=r;obtain⟨p,xs,rfl,h1,h2⟩:=r.tup;refine⟨p,xs,rfl,.inr ⟨h1,q _ H (j1.refl H) ?_⟩⟩;rcases r0 with r0 | ⟨_,o,_,z,_⟩
  ·exact r0
  ·cases o <;> cases z
 ·cases e
@[simp] noncomputable def vt:List D->Option (List Bool)
 | []=>some []
 | .bl b::r=>(vt r).bind fun bs=>some (b::bs)
 | _::_=>none
theorem u7{H:Hp}:∀{l:List D} {bs:List Bool} {xs:List V},vt l=some bs->j3 K H l xs->xs=bs.map V.bl
 | [],bs,xs,e,h=>by cases e;rw[j3]at h;exact h
 | .bl b::r,bs,xs,e,h=>by
  obtain⟨bs',e1,e2⟩:=j0 e;cases e2;rw[j3]at h;obtain⟨v,vs,rfl,a,b'⟩:=h;rw[j5]at a;rw[a,u7 e1 b'];rfl
 | .non::_,_,_,e,_=>by cases e
 | .int _::_,_,_,e,_=>by cases e
 | .str _::_,_,_,e,_=>by cases e
 | .tup _::_,_,_,e,_=>by cases e
 | .lst _::_,_,_,e,_=>by cases e
 | .ins _ _ _::_,_,_,e,_=>by cases e
 | .scr _::_,_,_,e,_=>by cases e
@[simp] def zN:List D->Option D
 | [.lst l]=>(vt l).bind fun bs=>some (.bl (bs.all id))
 | _=>none
theorem bE:Fn K (fun xs H Q=>∃(p:Addr) (bs:List Bool),xs=[.ref p]/\jj K H p (bs.map V.bl)/\Q (.bl (bs.all id)) H) zN:=by
 intro O H ks ds vs d Q h hn e q;unfold zN at e;split at e
 ·obtain⟨bs,e1,e2⟩:=j0 e;cases e2;obtain⟨v,rfl,r⟩:=YA h;obtain⟨p,xs,rfl,h1,h2⟩:=r.lst;rw[u7 e1 h2]at h1;exact⟨p,bs,rfl,jj.of h1,q _ H (j1.refl H) (by rw[j5])⟩
 ·cases e
noncomputable def Jk(C:Addr)(f:Str):D->Option D
 | .ins C' ns ds=>if C'=C then(ns.zip ds).lookup f else none
 | _=>none
theorem ZY{H:Hp}{f:Str}{d:D}:∀{ns:List Str} {ds:List D} {xs:List V},j3 K H ds xs->(ns.zip ds).lookup f=some d->∃v,(ns.zip xs).lookup f=some v/\j5 K H d v
 | [],_,_,_,e=>by cases e
 | _::_,[],_,_,e=>by cases e
 | n::ns,d'::ds,xs,h,e=>by
  rw[j3]at h;obtain⟨v,r,rfl,a,b⟩:=h;rw[List.zip_cons_cons,List.lookup_cons]at e⊢;cases hf:f==n with
  | true=>rw[hf]at e;cases e;exact⟨v,rfl,a⟩
  | false=>rw[hf]at e;exact ZY b e
theorem bF{C:Addr}{f:Str}(h:PE X e (tR K de))(c:Cls K C)(n:JE K C f)(hb:attributeBase e f X.env (eval e X.env)=eval e X.env:=by rfl)(hK:X.K=K:=by rfl):PE X (.Attribute e f pos) (tE K (d1 (Jk C f) de)):=jk (xt h hb) fun σ H Q xx=>by
 obtain⟨H0,O0,ρ,O,d,R,ed,q⟩:=xx;subst hK;obtain⟨x,e1,e2⟩:=j0 ed;refine⟨H0,O0,ρ,O,x,R,e1,fun v H' s r=>?_⟩;unfold Jk at e2;split at e2
 ·split at e2
  ·rename_i hC;subst hC;obtain⟨a,dx,xs,rfl,h1,hn,h2⟩:=r.ins;obtain⟨v,e3,r3⟩:=ZY h2 e2;exact⟨a,_,dx,_,v,rfl,h1,c,n,e3,q v H' s r3⟩
  ·cases e2
 ·cases e2
end
def RP(K:Fr)(H0:Hp)(O0:List Addr)(H:Hp)(O:List Addr)(d:D)(v:V):Prop:=j5 K (j4 H O) d v∨RB K O0 H0 d v
def tP(K:Fr)(de:DE):TE:=fun σ H Q=>∃H0 O0 ρ O d,Rel K H0 O0 ρ σ H O/\de ρ=some d/\∀v H',j1 H H'->RP K H0 O0 H' O d v->Q v H'
theorem RP.at{K:Fr}{H0 H H':Hp}{O0 O O':List Addr}{d:D}{v:V}(r:RP K H0 O0 H O d v)(s0:j1 H0 H')(s1:j1 (j4 H0 O0) (j4 H' O'))(s2:j1 (j4 H O) (j4 H' O')):RB K O' H' d v:=by
 rcases r with r | r | ⟨l,o,e1,e2,h1⟩
 ·exact .inl (r.same s2)
 ·exact .inl (r.same s1)
 ·exact .inr ⟨l,o,e1,e2,h1.same (s0 l) s1⟩
def Uc(K:Fr)(J:It)(H0:Hp)(O0:List Addr)(H:Hp)(O:List Addr)(items:List D):Prop:=∀(i:Nat) (H':Hp) (O':List Addr),j1 H0 H'->j1 (j4 H0 O0) (j4 H' O')->j1 (j4 H O) (j4 H' O')->(∀a∈O',H' a≠none)->
 (∀d,items[i]?=some d->J.go i H'/\∀x H'',J.yld i H' x H''->j1 H' H''/\j5 K (j4 H'' O') d x)/\(i=items.length->J.stop i H')
abbrev DI:=j7->Option (List D)
def Yh(K:Fr)(di:DI):TI:=fun σ H R=>∃H0 O0 ρ O items,Rel K H0 O0 ρ σ H O/\di ρ=some items/\∀J H',j1 H H'->Uc K J H0 O0 H' O items->R J H'
section
variable {X:Cx} {K:Fr} {e a b c d tg:Expr} {de da db dc dd:DE} {pos:Pos}
theorem C4(h:PE X e (tE K de)):PE X e (tP K de):=jk h fun σ H Q ⟨H0,O0,ρ,O,d,R,ed,q⟩=>⟨H0,O0,ρ,O,d,R,ed,fun v H' s r=>q v H' s (.inl r)⟩
@[simp] noncomputable def dP(i:Nat)(ρ:j7):Option D:=match ρ[i]? with
 | some (.cl d)=>some d
 | some (.bo d)=>some d
 | _=>none
theorem bG(i:Nat){x:Str}(h:PE X (.Name x pos) (yu i)):PE X (.Name x pos) (tP K (dP i)):=jk h fun σ H Q xx=>by
 obtain⟨H0,O0,ρ,O,d,R,ed,q⟩:=xx;unfold dP at ed;split at ed
 ·cases ed;obtain⟨v,e1,r⟩:=R.cl i _ (by assumption);exact⟨v,e1,q v H (j1.refl H) (.inl r)⟩
 ·cases ed;obtain⟨v,e1,r⟩:=R.bo i _ (by assumption);exact⟨v,e1,q v H (j1.refl H) (.inr r)⟩
 ·cases ed
theorem V4{wi wi':TI}(h:PI X tg e wi)(f:∀σ H R,wi' σ H R->wi σ H R):PI X tg e wi':=fun pins s σ H R I q=>h pins s σ H R I (f σ H R q)
def C5(K:Fr)(tl:TE):TI:=fun σ H R=>tl σ H fun x H1=>∃a,x=.ref a/\(((∃xs,jj K H1 a xs)/\R (xa K a) H1)∨((∃xs,jX K H1 a xs)/\R (xb K a) H1))
theorem X0{l:Expr}{tl:TE}(hl:PE X l tl):PI X tg l (C5 X.K tl):=by
 intro pins s σ H R I h;refine jg (hl pins s σ H _ I h) fun v s1 xx=>?_;obtain⟨x,H1,I1,r1,q1⟩:=xx;obtain⟨a,e,q⟩:=q1;subst e;cases r1;rcases q with⟨⟨xs,hq⟩,q⟩ | ⟨⟨xs,hq⟩,q⟩
 ·obtain⟨its,rv,p,hz⟩:=I1.list hq;refine wpAny_pyIter_list p.isList ?_;refine⟨s1.heap.objs.size,[s1.heap.objs.size],_,_,H1,rfl,I1.kept (t':=s1.toks) fun b o e=>wIa _ e,kx a _,⟨_,wJa _ rfl,rfl,rfl⟩,fun b hb=>?_,q⟩;have e:b=s1.heap.objs.size:=by simpa using hb
  subst e;exact I1.fpOk (wPa _) (I1.hok.fresh (wPa _))
 ·obtain⟨its,rv,p,hz⟩:=I1.tuple hq;refine wpAny_pyIter_tuple (show s1.heap.IsTuple a its.toArray from p) ?_;refine⟨s1.heap.objs.size,[s1.heap.objs.size],_,_,H1,rfl,I1.kept (t':=s1.toks) fun b o e=>wIa _ e,Gn a _,⟨_,wJa _ rfl,rfl,rfl⟩,fun b hb=>?_,q⟩;have e:b=s1.heap.objs.size:=by simpa using hb
  subst e;exact I1.fpOk (wPa _) (I1.hok.fresh (wPa _))
noncomputable def yf:D->Option (List D)
 | .lst l=>some l
 | .tup l=>some l
 | _=>none
@[simp] theorem Br(l:List D):yf (.lst l)=some l:=rfl
@[simp] theorem Bs(l:List D):yf (.tup l)=some l:=rfl
@[simp] def yg(de:DE)(ρ:j7):Option (List D):=(de ρ).bind yf
theorem X1{H0 H:Hp}{O0 O:List Addr}{d:D}{v:V}{l:List D}(r:RP K H0 O0 H O d v)(e:yf d=some l)(s0:j1 H0 H)(s1:j1 (j4 H0 O0) (j4 H O)):
  ∃a,v=.ref a/\(((∃xs,jj K H a xs)/\Uc K (xa K a) H0 O0 H O l)∨((∃xs,jX K H a xs)/\Uc K (xb K a) H0 O0 H O l)):=by
 unfold yf at e;split at e
 ·cases e;obtain⟨p,xs,rfl,h1,h2⟩:=(r.at s0 s1 (j1.refl _)).lst;refine⟨p,rfl,.inl ⟨⟨xs,jj.of h1⟩,fun i H' O' t0 t1 t2 _=>?_⟩⟩;obtain⟨p',ys,e',g1,g2⟩:=(r.at t0 t1 t2).lst;cases e';refine⟨fun d hd=>?_,fun hi=>⟨ys,jj.of g1,by rw[g2.len,hi];exact wPa _⟩⟩;obtain⟨x,hx,rx⟩:=g2.get hd;refine⟨⟨ys,x,jj.of g1,hx⟩,fun x' H'' y=>?_⟩;obtain⟨e1,y⟩:=y;have z:=y ys (jj.of g1);rw[hx]at z;cases z;rw[e1];exact⟨j1.refl _,rx⟩
 ·cases e;obtain⟨p,xs,rfl,h1,h2⟩:=(r.at s0 s1 (j1.refl _)).tup;refine⟨p,rfl,.inr ⟨⟨xs,h1⟩,fun i H' O' t0 t1 t2 _=>?_⟩⟩;obtain⟨p',ys,e',g1,g2⟩:=(r.at t0 t1 t2).tup;cases e';refine⟨fun d hd=>?_,fun hi=>⟨ys,g1,by rw[g2.len,hi];exact wPa _⟩⟩;obtain⟨x,hx,rx⟩:=g2.get hd;refine⟨⟨ys,x,g1,hx⟩,fun x' H'' y=>?_⟩;obtain⟨e1,y⟩:=y;have z:=y ys g1;rw[hx]at z;cases z;rw[e1];exact⟨j1.refl _,rx⟩
 ·cases e
theorem bH(h:PE X e (tP K de))(hK:X.K=K:=by rfl):PI X tg e (Yh K (yg de)):=V4 (X0 h) fun σ H R xx=>by
 obtain⟨H0,O0,ρ,O,items,Re,ed,q⟩:=xx;subst hK;obtain⟨d,e1,e2⟩:=j0 ed;refine⟨H0,O0,ρ,O,d,Re,e1,fun v H' s r=>?_⟩;have R':=Re.grow s;obtain⟨a,rfl,z⟩:=X1 r e2 R'.keep R'.in0;rcases z with⟨z1,z2⟩ | ⟨z1,z2⟩
 ·exact⟨a,rfl,.inl ⟨z1,q _ H' s z2⟩⟩
 ·exact⟨a,rfl,.inr ⟨z1,q _ H' s z2⟩⟩
noncomputable def JA(lo:Int)(n:Nat):List D:=(List.range n).map fun(i:Nat)=>D.int (lo+(i:Int))
theorem X2{H0 H:Hp}{O0 O:List Addr}{lo:Int}{n:Nat}:Uc K (Wn lo n) H0 O0 H O (JA lo n):=fun i H' O' _ _ _ _=>by
 refine⟨fun d hd=>?_,fun hi=>?_⟩
 ·unfold JA at hd;rw[List.getElem?_map]at hd;cases q:(List.range n)[i]? with
  | none=>rw[q]at hd;cases hd
  | some j=>
   rw[q]at hd;cases hd;obtain⟨h1,h2⟩:=List.getElem?_eq_some_iff.mp q;rw[List.getElem_range]at h2;subst h2;rw[List.length_range]at h1;refine⟨h1,fun x H'' y=>?_⟩;obtain⟨e1,e2⟩:=y;rw[e1,e2];exact⟨j1.refl _,by rw[j5]⟩
 ·unfold JA at hi;rw[List.length_map,List.length_range]at hi;show n<=i;omega
noncomputable def Jw(j:Int):Bool:=Nat.blt j.natAbs 4611686018427387904
theorem zO{j:Int}(h1:-4611686018427387904 < j)(h2:j < 4611686018427387904):Jw j=true:=by unfold Jw;rw[Nat.blt_eq];omega
theorem GL{j:Int}(h:Jw j=true):-(2 ^ 62)<=j/\j < 2 ^ 62:=by
 unfold Jw at h;rw[Nat.blt_eq]at h;have e:(2:Int) ^ 62=4611686018427387904:=by decide
 rw[e];omega
@[simp] def ZJ(de:DE)(ρ:j7):Option (List D):=(de ρ).bind fun d=>match d with
 | .int j=>if Jw j=true then some (JA 0 j.toNat)else none
 | _=>none
theorem X3{p:Pos}(hg:Gl X "range")(hm:X.mg "range" = none)(h:PE X a (tR K da))(hs:starEach [a] X.env=[(false,eval a X.env)]:=by rfl):PI X tg (.Call (.Name "range" p) [a] [] pos) (Yh K (ZJ da)):=V4 (ky hg hm (jz h J4 (by rw[hs];rfl)) hs) fun σ H R xx=>by
 obtain⟨H0,O0,ρ,O,items,Re,ed,q⟩:=xx;obtain⟨d,e1,e2⟩:=j0 ed;refine⟨H0,O0,ρ,O,d,Re,e1,fun v H' s r=>?_⟩;split at e2
 ·split at e2
  ·cases e2;rename_i hj;have hj:=GL hj;exact⟨_,by rw[r.int],hj.1,hj.2,q _ H' s X2⟩
  ·cases e2
 ·cases e2
def bI(K:Fr)(ta:TA):TI:=fun σ H R=>ta σ H fun vs H1=>∃k j a b xs ys,vs=[.ref a,.ref b]/\Z3 K k H1 a xs/\Z3 K j H1 b ys/\R (Bl K k j a b) H1
theorem Q1{es:List Expr}{x1:Nat}{tp:Pos}{e1 e2:Expr}{ta:TA}{p pos:Pos}(hg:Gl X "zip")(hm:X.mg "zip" = none)(ha:PA X [e1,e2] ta)(hs:starEach [e1,e2] X.env=[(false,eval e1 X.env),(false,eval e2 X.env)]:=by rfl)(hs2:starEach [e2] X.env=[(false,eval e2 X.env)]:=by rfl):
  PI X (.Tuple es x1 tp) (.Call (.Name "zip" p) [e1,e2] [] pos) (bI X.K ta):=by
 intro pins s σ H R I h;refine Call_ (yT I hg hm boot_zip (PyProof.Rows.callWith_type1 (jg (ha pos pins s σ H _ I h) fun us s1 xx=>?_) (by rw[hs,hs2]) (by rw[hs2];rfl)));obtain⟨vs,H1,I1,r1,q1⟩:=xx;obtain⟨k,j,a,b,xs,ys,e,qa,qb,q⟩:=q1;subst e;cases r1 with
 | cons r rr=>
  cases rr with
  | cons r' rr=>
   cases rr;cases r;cases r';obtain⟨ia,ra,pa,_⟩:=I1.seqK qa;obtain⟨ib,rb,pb,_⟩:=I1.seqK qb;refine w5 pa pb fun h' b1 b2 b3 b4 b5 bk=>?_;refine wpAny_pyIter_zip b1 ?_;have fr:∀m,jY X pins H1 (s1.heap.objs.size+m):=fun m=>I1.fpOk (vKa _ _) (I1.hok.fresh (vKa _ _));refine⟨_,_,_,_,H1,rfl,I1.kept (t':=s1.toks) bk,wb (zipApart_new pa.lt pb.lt),⟨b1,b2,⟨_,_,b3⟩,b4,b5⟩,fun c hc=>?_,q⟩;simp only[List.mem_cons,List.not_mem_nil,or_false]at hc;rcases hc with rfl | rfl | rfl | rfl | rfl
   ·exact fr 4
   ·exact fr 2
   ·exact fr 3
   ·exact fr 0
   ·exact fr 1
theorem V5{O:List Addr}{H:Hp}{d:D}{v:V}{l:List D}(r:RB K O H d v)(e:yf d=some l):∃k a xs,v=.ref a/\Z3 K k H a xs/\j3 K (j4 H O) l xs/\(k=Sk.l↔∃m,d=D.lst m):=by
 unfold yf at e;split at e
 ·cases e;obtain⟨p,xs,rfl,h1,h2⟩:=r.lst;exact⟨.l,p,xs,rfl,jj.of h1,h2,Iff.intro (fun _=>⟨_,rfl⟩) (fun _=>rfl)⟩
 ·cases e;obtain⟨p,xs,rfl,h1,h2⟩:=r.tup;exact⟨.t,p,xs,rfl,h1,h2,Iff.intro (fun z=>nomatch z) (fun z=>by obtain⟨_,z⟩:=z;cases z)⟩
 ·cases e
theorem WO{k k':Sk}{d:D}(h:k=Sk.l↔∃m,d=D.lst m)(h':k'=Sk.l↔∃m,d=D.lst m):k=k':=by
 cases k <;> cases k' <;> first | rfl | (exact vDa (h'.mpr (h.mp rfl)) (by intro z;cases z)) | (exact vDa (h.mpr (h'.mp rfl)) (by intro z;cases z))
@[simp] def VC(da db:DE)(ρ:j7):Option (List D):=(da ρ).bind fun x=>(db ρ).bind fun y=>(yf x).bind fun l=>(yf y).bind fun m=>some (List.zipWith (fun p q=>D.tup [p,q]) l m)
theorem wl{O:List Addr}{H:Hp}{p:Addr}{d d':D}{x y:V}(hO:p∉O)(hp:H p=none)(r:j5 K (j4 H O) d x)(r':j5 K (j4 H O) d' y):j5 K (j4 (upd H p (.tup [x,y])) O) (.tup [d,d']) (.ref p):=Je hO hp (j3.cons r (j3.cons r' j3.nil))
theorem bJ{es:List Expr}{x1:Nat}{tp p:Pos}(hg:Gl X "zip")(hm:X.mg "zip" = none)(h:PE X a (tP K da))(h':PE X b (tP K db))(hs:starEach [a,b] X.env=[(false,eval a X.env),(false,eval b X.env)]:=by rfl)(hs2:starEach [b] X.env=[(false,eval b X.env)]:=by rfl)(hK:X.K=K:=by rfl):
  PI X (.Tuple es x1 tp) (.Call (.Name "zip" p) [a,b] [] pos) (Yh K (VC da db)):=V4 (Q1 hg hm (jz h (jz h' J4 (by rw[hs2];rfl)) (by rw[hs,hs2])) hs hs2) fun σ H R xx=>by
 obtain⟨H0,O0,ρ,O,items,Re,ed,q⟩:=xx;subst hK;obtain⟨x,e1,ed⟩:=j0 ed;obtain⟨y,e2,ed⟩:=j0 ed;obtain⟨l,e3,ed⟩:=j0 ed;obtain⟨m,e4,ed⟩:=j0 ed;cases ed;refine⟨H0,O0,ρ,O,x,Re,e1,fun v H1 s1 r=>⟨H0,O0,ρ,O,y,Re.grow s1,e2,fun v2 H2 s2 r2=>?_⟩⟩;have R1:=Re.grow s1;have R2:=R1.grow s2;have r':RP X.K H0 O0 H2 O x v:=by
  rcases r with r | r
  ·exact .inl (r.same (j9 s2))
  ·exact .inr r
 obtain⟨k,p,xs,rfl,h1,h2,hk⟩:=V5 (r'.at R2.keep R2.in0 (j1.refl _)) e3;obtain⟨j,p',ys,rfl,h1',h2',hj⟩:=V5 (r2.at R2.keep R2.in0 (j1.refl _)) e4;refine⟨k,j,p,p',xs,ys,rfl,h1,h1',q _ H2 (s1.trans s2) fun i H' O' t0 t1 t2 ta=>?_⟩;obtain⟨k2,q2,us,ea,g1,g2,hk2⟩:=V5 (r'.at t0 t1 t2) e3;cases ea;cases WO hk hk2;obtain⟨j2,q3,ws,eb,g1',g2',hj2⟩:=V5 (r2.at t0 t1 t2) e4;cases eb;cases WO hj hj2;refine⟨fun d hd=>?_,fun hi=>⟨us,ws,g1,g1',?_⟩⟩
 ·rw[List.getElem?_zipWith]at hd;split at hd
  ·cases hd;rename_i dp dq hp hq;obtain⟨u,hu,ru⟩:=g2.get hp;obtain⟨w,hw,rw'⟩:=g2'.get hq;refine⟨⟨us,ws,u,w,g1,g1',hu,hw⟩,fun x' H'' yy=>?_⟩;obtain⟨pp,hpp,rfl,yy⟩:=yy;rw[yy _ _ _ _ g1 g1' hu hw];exact⟨jp hpp _,wl (fun z=>ta pp z hpp) hpp ru rw'⟩
  ·cases hd
 ·rw[List.length_zipWith]at hi;rw[g2.len,g2'.len];omega
noncomputable def Jh:Nat->List D->List D
 | _,[]=>[]
 | n,d::ds=>.tup [.int n,d]::Jh (n+1) ds
theorem Zp:∀(n:Nat) (l:List D),(Jh n l).length=l.length
 | _,[]=>rfl
 | n,d::ds=>by rw[Jh,List.length_cons,List.length_cons,Zp]
theorem Zq:∀(n:Nat) (l:List D) (i:Nat) (d:D),(Jh n l)[i]?=some d->∃d',l[i]?=some d'/\d=.tup [.int ((n+i:Nat):Int),d']
 | _,[],_,_,h=>by simp[Jh]at h
 | n,x::l,0,d,h=>by
  simp[Jh]at h;exact⟨x,rfl,by rw[<-h];rfl⟩
 | n,x::l,i+1,d,h=>by
  simp only[Jh,List.getElem?_cons_succ]at h;obtain⟨d',h1,h2⟩:=Zq (n+1) l i d h;refine⟨d',by simpa using h1,?_⟩;rw[h2];have:n+1+i=n+(i+1):=by omega
  rw[this]
noncomputable def V6:D->Option (List D)
 | .lst l=>some l
 | _=>none
@[simp] theorem Bt(l:List D):V6 (.lst l)=some l:=rfl
@[simp] def WP(de:DE)(ρ:j7):Option (List D):=(de ρ).bind fun d=>(V6 d).bind fun l=>some (Jh 0 l)
theorem X4{es:List Expr}{x1:Nat}{tp p:Pos}(hg:Gl X "enumerate")(hm:X.mg "enumerate" = none)(h:PE X a (tP K da))(hs:starEach [a] X.env=[(false,eval a X.env)]:=by rfl)(hK:X.K=K:=by rfl):
  PI X (.Tuple es x1 tp) (.Call (.Name "enumerate" p) [a] [] pos) (Yh K (WP da)):=V4 (qX hg hm (jz h J4 (by rw[hs];rfl)) hs) fun σ H R xx=>by
 obtain⟨H0,O0,ρ,O,items,Re,ed,q⟩:=xx;subst hK;obtain⟨x,e1,ed⟩:=j0 ed;obtain⟨l,e3,ed⟩:=j0 ed;cases ed;refine⟨H0,O0,ρ,O,x,Re,e1,fun v H1 s1 r=>?_⟩;have R1:=Re.grow s1;unfold V6 at e3;split at e3
 ·cases e3;obtain⟨p,xs,rfl,h1,h2⟩:=(r.at R1.keep R1.in0 (j1.refl _)).lst;refine⟨p,xs,rfl,jj.of h1,q _ H1 s1 fun i H' O' t0 t1 t2 ta=>?_⟩;obtain⟨p',us,ea,g1,g2⟩:=(r.at t0 t1 t2).lst;cases ea;refine⟨fun d hd=>?_,fun hi=>⟨us,jj.of g1,by rw[g2.len,hi,Zp];exact wPa _⟩⟩;obtain⟨d',hd',rfl⟩:=Zq 0 l i d hd;obtain⟨u,hu,ru⟩:=g2.get hd';refine⟨⟨us,u,jj.of g1,hu⟩,fun x' H'' yy=>?_⟩;obtain⟨pp,hpp,rfl,yy⟩:=yy;rw[yy _ _ (jj.of g1) hu];exact⟨jp hpp _,wl (fun z=>ta pp z hpp) hpp (by rw[j5,Nat.zero_add]) ru⟩
 ·cases e3
abbrev DG:=D->j7->Option j7
abbrev V7:=List D->j7->Option j7
def tG(K:Fr)(k:Nat)(g:DG):TG:=fun v σ H Q=>∃H0 O0 ρ O d ρ',Rel K H0 O0 ρ σ H O/\j5 K (j4 H O) d v/\g d ρ=some ρ'/\∀σ',Rel K H0 O0 ρ' σ' H O->σ'.drop k=σ.drop k->Q σ' H
def gK(K:Fr)(k:Nat)(g:V7):Zc:=fun vs σ H Q=>∃H0 O0 ρ O ds ρ',Rel K H0 O0 ρ σ H O/\j3 K (j4 H O) ds vs/\g ds ρ=some ρ'/\∀σ',Rel K H0 O0 ρ' σ' H O->σ'.drop k=σ.drop k->Q σ' H
theorem WQ{t t':TG}(h:PG X tg t)(f:∀v σ H Q,t' v σ H Q->t v σ H Q):PG X tg t':=fun pins s σ H v u Q I r q=>h pins s σ H v u Q I r (f v σ H Q q)
theorem kX{ts:List Expr}{t t':Zc}(h:Z1 X ts t)(f:∀v σ H Q,t' v σ H Q->t v σ H Q):Z1 X ts t':=fun pins s σ H v u Q I r q=>h pins s σ H v u Q I r (f v σ H Q q)
@[simp] noncomputable def gN(i:Nat)(d:D)(ρ:j7):Option j7:=some (ρ.set i (.cl d))
theorem X5{i k:Nat}{x:Str}(h:PG X (.Name x pos) (yH i))(hi:i < k:=by decide):PG X (.Name x pos) (tG K k (gN i)):=WQ h fun v σ H Q xx=>by
 obtain⟨H0,O0,ρ,O,d,ρ',R,r,e,q⟩:=xx;cases e;exact q _ (R.set r i) (List.drop_set_of_lt hi)
@[simp] noncomputable def gZ(ds:List D)(ρ:j7):Option j7:=match ds with
 | []=>some ρ
 | _=>none
@[simp] noncomputable def gC(g:DG)(gs:V7)(ds:List D)(ρ:j7):Option j7:=match ds with
 | d::r=>(g d ρ).bind fun ρ1=>gs r ρ1
 | []=>none
theorem bK{k:Nat}:Z1 X [] (gK K k gZ):=kX qC fun v σ H Q xx=>by
 obtain⟨H0,O0,ρ,O,d,ρ',R,r,e,q⟩:=xx;unfold gZ at e;split at e
 ·cases e;rw[j3]at r;exact⟨r,q _ R rfl⟩
 ·cases e
theorem X6{k:Nat}{es:List Expr}{g:DG}{gs:V7}(h1:PG X e (tG K k g))(h2:Z1 X es (gK K k gs))(hs:(assignEach (e::es) X.env).map (·.2)=assign e X.env::(assignEach es X.env).map (·.2):=by rfl):Z1 X (e::es) (gK K k (gC g gs)):=kX (KC h1 h2 hs) fun v σ H Q xx=>by
 obtain⟨H0,O0,ρ,O,ds,ρ',R,r,ed,q⟩:=xx;unfold gC at ed;split at ed
 ·obtain⟨ρ1,e1,e2⟩:=j0 ed;rw[j3]at r;obtain⟨v1,vr,rfl,a,b⟩:=r;exact⟨v1,vr,rfl,H0,O0,ρ,O,_,ρ1,R,a,e1,fun σ' R' k1=>⟨H0,O0,ρ1,O,_,ρ',R',b,e2,fun σ2 R2 k2=>q σ2 R2 (k2.trans k1)⟩⟩
 ·cases ed
@[simp] noncomputable def gT(n:Nat)(gs:V7)(d:D)(ρ:j7):Option j7:=match d with
 | .tup l=>if l.length=n then gs l ρ else none
 | _=>none
theorem bL{es:List Expr}{k kk:Nat}{gs:V7}(n:Nat)(hc:X.calm=true)(h:Z1 X es (gK K kk gs))(hn:(assignEach es X.env).length=n:=by rfl)(hst:(assignEach es X.env).findIdx? (·.1)=none:=by rfl)(hK:X.K=K:=by rfl):PG X (.Tuple es k pos) (tG K kk (gT n gs)):=WQ (QW hc h hn hst) fun v σ H Q xx=>by
 obtain⟨H0,O0,ρ,O,d,ρ',R,r,ed,q⟩:=xx;subst hK;unfold gT at ed;split at ed
 ·split at ed
  ·obtain⟨a,xs,rfl,h1,h2⟩:=RB.tup (.inl r);exact⟨a,xs,rfl,h1,by rw[h2.len];assumption,H0,O0,ρ,O,_,ρ',R,h2,ed,q⟩
  ·cases ed
 ·cases ed
@[simp] noncomputable def J2(_:j7):Option Bool:=some true
theorem C6:Y2 X [] (tT K J2):=fun pins s σ H Q I xx=>by
 obtain⟨H0,O0,ρ,O,b,R,ed,q⟩:=xx;cases ed;exact qR pins s σ H Q I (q H (j1.refl H))
theorem C7{dt:DT}(h:PT X c (tT K dt)):Y2 X [c] (tT K dt):=qS h
@[simp] noncomputable def vv(k:Nat)(caps:List Nat)(ρ:j7):j7:=List.replicate k .un++caps.map fun j=>(ρ[j]?).getD .un
noncomputable def yh(g:DG)(dc:DT)(de:DE):List D->j7->Option (List D)
 | [],_=>some []
 | d::ds,ρ=>(g d ρ).bind fun ρ1=>(dc ρ1).bind fun k=>if k=true then(de ρ1).bind fun y=>(yh g dc de ds ρ).bind fun ys=>some (y::ys)else yh g dc de ds ρ
@[simp] def Yi(k:Nat)(caps:List Nat)(di:DI)(g:DG)(dc:DT)(de:DE)(ρ:j7):Option OD:=(di ρ).bind fun items=>(yh g dc de items (vv k caps ρ)).bind fun ys=>if items.length<=sizeLine then some (.lst ys)else none
theorem wm{H0 H:Hp}{O0 O:List Addr}{ρ:j7}{σ:L2.St}(own:List Str)(caps:List (Str×Nat))(R:Rel K H0 O0 ρ σ H O)(hnd:(caps.map (·.2)).Nodup):Rel K H0 O0 (vv own.length (caps.map (·.2)) ρ) (YT own caps σ) H O:=by
 have key:∀(i:Nat) (s:Sl),s≠.un->(vv own.length (caps.map (·.2)) ρ)[i]?=some s->∃m x j,i=own.length+m/\caps[m]?=some (x,j)/\ρ[j]?=some s/\(YT own caps σ)[i]?=some ((σ[j]?).join):=fun i s hs e=>by
  unfold vv at e;by_cases hi:i < own.length
  ·rw[List.getElem?_append_left (by rw[List.length_replicate];exact hi),List.getElem?_replicate,if_pos hi]at e;cases e;exact vDa rfl hs
  ·rw[List.getElem?_append_right (by rw[List.length_replicate];omega),List.length_replicate,List.map_map,List.getElem?_map]at e;cases q:caps[i - own.length]? with
   | none=>rw[q]at e;cases e
   | some p=>
    rw[q]at e;obtain⟨x,j⟩:=p;have e:(ρ[j]?).getD .un=s:=vFa e;refine⟨i - own.length,x,j,by omega,q,?_,?_⟩
    ·cases z:ρ[j]? with
     | none=>rw[z]at e;exact vDa e.symm hs
     | some s'=>rw[z]at e;rw[<-e];rfl
    ·show(own.map (fun _=>(none:Option V))++caps.map fun(p:Str×Nat)=>(σ[p.2]?).join)[i]?=_;rw[List.getElem?_append_right (by rw[List.length_map];omega),List.length_map,List.getElem?_map,q];rfl
 have jn:∀{o:Option (Option V)} {v:V},o.join=some v->o=some (some v):=fun {o v} z=>by
  cases o with
  | none=>cases z
  | some w=>cases w with
   | none=>cases z
   | some u=>cases z;rfl
 have mj:∀{m m' j:Nat} {x x':Str},caps[m]?=some (x,j)->caps[m']?=some (x',j)->m=m':=fun {m m' j x x'} c1 c2=>by
  have h1:(caps.map (·.2))[m]?=some j:=by rw[List.getElem?_map,c1];rfl
  have h2:(caps.map (·.2))[m']?=some j:=by rw[List.getElem?_map,c2];rfl
  have l1:=(List.getElem?_eq_some_iff.mp h1).1;exact(List.getElem?_inj l1 hnd).mp (h1.trans h2.symm)
 refine⟨?_,R.sub,R.fr,R.al0,R.al,R.keep,?_,?_,?_,?_,?_⟩
 ·show(own.map (fun _=>(none:Option V))++caps.map fun(p:Str×Nat)=>(σ[p.2]?).join).length=_;unfold vv;simp
 ·intro i d e;obtain⟨m,x,j,_,_,e2,e3⟩:=key i _ (by intro z;cases z) e;obtain⟨v,h1,h2⟩:=R.cl j d e2;exact⟨v,by rw[e3,h1];rfl,h2⟩
 ·intro i d e;obtain⟨m,x,j,_,_,e2,e3⟩:=key i _ (by intro z;cases z) e;obtain⟨v,h1,h2⟩:=R.bo j d e2;exact⟨v,by rw[e3,h1];rfl,h2⟩
 ·intro i q o e;obtain⟨m,x,j,_,_,e2,e3⟩:=key i _ (by intro z;cases z) e;obtain⟨l,z,h1,h2⟩:=R.ow j q o e2;exact⟨l,z,by rw[e3,h1];rfl,h2⟩
 ·intro i i' q q' ds es l e e' f f';obtain⟨m,x,j,rfl,c1,e2,e3⟩:=key i _ (by intro z;cases z) e;obtain⟨m',x',j',rfl,c2,e2',e3'⟩:=key i' _ (by intro z;cases z) e';rw[e3]at f;rw[e3']at f';have ej:=R.dist j j' q q' ds es l e2 e2' (jn (vFa f)) (jn (vFa f'));subst ej;rw[mj c1 c2]
 ·intro i q0 ls e;obtain⟨m,x,j,rfl,c1,e2,e3⟩:=key i _ (by intro z;cases z) e;obtain⟨l,ps,h1,h2,nd,f,pn,u⟩:=R.lo j q0 ls e2;refine⟨l,ps,by rw[e3,h1];rfl,h2,nd,fun a ha=>⟨(f a ha).1,(f a ha).2.1,fun⟨k,q,o,y,z⟩=>(f a ha).2.2 ?_⟩,pn,fun k q9 ms y=>?_⟩
  ·obtain⟨_,_,j',_,_,y2,y3⟩:=key k _ (by intro z;cases z) y;rw[y3]at z;exact⟨j',q,o,y2,jn (vFa z)⟩
  ·obtain⟨m',x',j',rfl,c2,y2,_⟩:=key k _ (by intro z;cases z) y;have:=u j' q9 ms y2;subst this;rw[mj c1 c2]
end
section
variable {X:Cx} {K:Fr} {e a b c d tg:Expr} {de da db dc dd:DE} {pos:Pos}
theorem Ud{own:List Str}{caps:List (Str×Nat)}{di:DI}{g:DG}{dc:DT}{de:DE}(hnd:(caps.map (·.2)).Nodup):∀σ H Q,tF K (Yi own.length (caps.map (·.2)) di g dc de) σ H Q->xJ own caps (Yh K di) (tG K own.length g) (tT K dc) (tE K de) σ H Q:=fun σ H Q xx=>by
 obtain⟨H0,O0,ρ,O,o,R,ed,q⟩:=xx;obtain⟨items,e1,ed⟩:=j0 ed;obtain⟨ys,e2,ed⟩:=j0 ed;split at ed
 ·rename_i hz;cases ed;refine⟨H0,O0,ρ,O,items,R,e1,fun J H1 s1 hJ=>?_⟩;have R1:=R.grow s1;have Rc:=wm own caps R1 hnd;refine⟨fun i m vs H'=>∃ys1 ys2,yh g dc de (items.drop i) (vv own.length (caps.map (·.2)) ρ)=some ys2/\ys1++ys2=ys/\j1 H1 H'/\j3 K (j4 H' O) ys1 vs/\m=items.length - i/\i<=items.length/\ys1.length<=i,⟨items.length,[],ys,by simpa using e2,rfl,j1.refl _,j3.nil,rfl,Nat.zero_le _,wPa _⟩,?_⟩;rintro i m vs H' ⟨ys1,ys2,d1,d2,sH,rp,rfl,hi,hy⟩;have R2:=R1.grow sH;obtain⟨hgo,hstop⟩:=hJ i H' O R2.keep R2.in0 (j9 sH) R2.al;by_cases hlt:i < items.length
  ·right;have hx:items[i]?=some items[i]:=by simp[hlt]
   have hd:items.drop i=items[i]::items.drop (i+1):=(List.getElem_cons_drop hlt).symm;rw[hd]at d1;obtain⟨g1,g2⟩:=hgo _ hx;refine⟨g1,by rw[rp.len];omega,fun vs' H4=>∃ys1 ys2,yh g dc de (items.drop (i+1)) (vv own.length (caps.map (·.2)) ρ)=some ys2/\ys1++ys2=ys/\j1 H1 H4/\j3 K (j4 H4 O) ys1 vs'/\ys1.length<=i+1,?_,fun x H'' y=>?_⟩
   ·rintro vs' H4 ⟨z1,z2,a1,a2,a3,a4,a5⟩;exact⟨items.length - (i+1),by omega,z1,z2,a1,a2,a3,a4,rfl,hlt,a5⟩
   ·obtain⟨sy,rx⟩:=g2 x H'' y;obtain⟨ρ1,f1,f2⟩:=j0 d1;obtain⟨k,f3,f4⟩:=j0 f2;refine⟨H0,O0,_,O,_,ρ1,Rc.grow (sH.trans sy),rx,f1,fun σ2 R3 kd=>⟨kd,H0,O0,ρ1,O,k,R3,f3,fun H3 s3=>?_⟩⟩;cases k with
    | true=>
     rw[if_pos rfl]at f4;obtain⟨y1,f5,f6⟩:=j0 f4;obtain⟨yr,f7,f8⟩:=j0 f6;cases f8;refine yw ⟨H0,O0,ρ1,O,y1,R3.grow s3,f5,fun v H4 s4 rv=>?_⟩;exact⟨ys1++[y1],yr,f7,by rw[<-d2];simp,sH.trans (sy.trans (s3.trans s4)),(rp.same (j9 (sy.trans (s3.trans s4)))).snoc rv,by simp;exact hy⟩
    | false=>
     rw[if_neg Bool.false_ne_true]at f4;exact yv ⟨ys1,ys2,f4,d2,sH.trans (sy.trans s3),rp.same (j9 (sy.trans s3)),by omega⟩
  ·left;have ei:i=items.length:=by omega
   refine⟨hstop ei,by rw[rp.len];omega,fun Dd hD=>?_⟩;have e0:items.drop i=[]:=List.drop_of_length_le (by omega);rw[e0]at d1;have e3:ys2=[]:=by
    have d1:some []=some ys2:=d1;exact(vFa d1).symm
   rw[e3,List.append_nil]at d2;subst d2;exact q Dd _ ((s1.trans sH).trans (jp hD _)) ((s1.trans sH).none hD) (JF hD rp)
 ·cases ed
theorem C8{iter elt:Expr}{ifs:List Expr}{scope:Scope}{di:DI}{g:DG}{dc:DT}{de:DE}(own:List Str)(caps:List (Str×Nat))(S:CScope X scope)(hcap:Caps X scope caps)(hc:X.calm=true)(hi:PI X tg iter (Yh K di))
  (hg:∀s3 H3 ex',PG (X.comp (cN own caps) scope s3 H3 ex') tg (tG K own.length g)) (ht:∀s3 H3 ex',Y2 (X.comp (cN own caps) scope s3 H3 ex') ifs (tT K dc)) (he:∀s3 H3 ex',PE (X.comp (cN own caps) scope s3 H3 ex') elt (tE K de))
  (hnd:(caps.map (·.2)).Nodup:=by decide) (hs:∀x,foldedSetIterable iter X.env x=pure x:=by intro _;rfl):PE X (.ListComp elt [⟨tg,iter,ifs,0⟩] scope pos) (tF K (Yi own.length (caps.map (·.2)) di g dc de)):=jk (AR own caps S hcap hc hi hg ht he hs) (Ud hnd)
def V8(K:Fr)(ks:List Bool)(F:List D->Option D):Sp:=fun vs H Q _=>∃O ds d,(∀a∈O,H a≠none)/\JC K O H ks ds vs/\F ds=some d/\∀v H',j1 H H'->j5 K (j4 H' O) d v->Q v H'
def gM(K:Fr)(ks:List Bool)(F:List D->Option OD):Sp:=fun vs H Q _=>∃O ds o,(∀a∈O,H a≠none)/\JC K O H ks ds vs/\F ds=some o/\∀l H',j1 H H'->H l=none->Ja K H' (j4 H' (l::O)) l o->Q (.ref l) H'
variable {k:Nat} {x m:Str} {ps:List Str} {p apos:Pos} {es:List Expr} {l:DA} {ks:List Bool}
theorem X7{F:List D->Option D}(G:FnI X.prog X.w X.K X.mg X.base k x ps (V8 K ks F))(hr:Room k X.A)(ha:PA X (e::es) (yX K l))(hk:l.map (·.1)=ks:=by rfl)(hg:Gl X x:=by rfl)(hdb:(x==("__debug__" : Str))=false:=by decide)
  (he:starEach (e::es) X.env=(false,eval e X.env)::starEach es X.env:=by rfl) (hpl:(backTo pos (starEach es X.env)).any (·.1)=false:=by rfl):PE X (.Call (.Name x p) (e::es) [] pos) (tE K (je F l)):=jk (GE G hr ha hg hdb he hpl) fun σ H Q xx=>by
 obtain⟨H0,O0,ρ,O,d,R,ed,q⟩:=xx;subst hk;obtain⟨ds,e1,e2⟩:=j0 ed;refine⟨H0,O0,ρ,O,ds,R,e1,fun vs H1 s1 r1=>?_⟩
 (try dsimp only)
 rw[List.append_nil];exact⟨O,ds,d,(R.grow s1).al,r1,e2,fun v H' s r=>q v H' (s1.trans s) r⟩
theorem X8{F:List D->Option OD}(G:FnI X.prog X.w X.K X.mg X.base k x ps (gM K ks F))(hr:Room k X.A)(ha:PA X (e::es) (yX K l))(hk:l.map (·.1)=ks:=by rfl)(hg:Gl X x:=by rfl)(hdb:(x==("__debug__" : Str))=false:=by decide)
  (he:starEach (e::es) X.env=(false,eval e X.env)::starEach es X.env:=by rfl) (hpl:(backTo pos (starEach es X.env)).any (·.1)=false:=by rfl):PE X (.Call (.Name x p) (e::es) [] pos) (tF K (J1 F l)):=jk (GE G hr ha hg hdb he hpl) fun σ H Q xx=>by
 obtain⟨H0,O0,ρ,O,d,R,ed,q⟩:=xx;subst hk;obtain⟨ds,e1,e2⟩:=j0 ed;refine⟨H0,O0,ρ,O,ds,R,e1,fun vs H1 s1 r1=>?_⟩
 (try dsimp only)
 rw[List.append_nil];exact⟨O,ds,d,(R.grow s1).al,r1,e2,fun l H' s hn r=>q l H' (s1.trans s) (s1.none hn) r⟩
noncomputable def GM(C:Addr)(m:Str)(F:List D->Option D):D->Option D:=fun d=>match d with
 | .ins C' ns ds=>if C'=C/\m∉ns then F [d]else none
 | _=>none
noncomputable def jZ(C:Addr)(m:Str)(F:List D->Option OD):D->Option OD:=fun d=>match d with
 | .ins C' ns ds=>if C'=C/\m∉ns then F [d]else none
 | _=>none
theorem zc{α:Type}{m:Str}:∀{ns:List Str} {xs:List α},m∉ns->(ns.zip xs).lookup m=none
 | [],_,_=>rfl
 | _::_,[],_=>rfl
 | n::ns,x::xs,h=>by
  rw[List.zip_cons_cons,List.lookup_cons];have e:(m==n)=false:=by
   rw[beq_eq_false_iff_ne];exact fun z=>h (by rw[z];exact wNa)
  rw[e];exact zc fun z=>h (wMa _ z)
theorem Q2{F:List D->Option D}{C:Addr}{pl:Sem Bool}(he:PE X a (tR K da))(c:Cls K C)(M:MtI X.prog X.w X.K X.mg X.base k C m ps (V8 K [false] F))(hr:Room k X.A)
  (ht:eval (.Call (.Attribute a m apos) [] [] pos) X.env=(do
   let ov<-eval a X.env
   standAt apos.atName
   let (f,first)<-holding [ov] (getMethod ov m pl)
   callWith pos f first (backTo pos (starEach [] X.env)) (backToKw pos (keywordEach [] X.env))):=by rfl) (hK:X.K=K:=by rfl):
  PE X (.Call (.Attribute a m apos) [] [] pos) (tE K (d1 (GM C m F) da)):=by
 subst hK;refine jk (kS he c M hr ht) fun σ H Q xx=>?_;obtain⟨H0,O0,ρ,O,d,R,ed,q⟩:=xx;obtain⟨x,e1,e2⟩:=j0 ed;refine⟨H0,O0,ρ,O,x,R,e1,fun v H1 s1 r=>?_⟩;unfold GM at e2;split at e2
 ·split at e2
  ·rename_i hh;obtain⟨rfl,hm⟩:=hh;have r0:=r;obtain⟨pa,dx,xs,rfl,h1,hn,h2⟩:=r.ins;exact⟨pa,dx,_,rfl,h1,zc hm,O,[_],d,(R.grow s1).al,⟨r0,trivial⟩,e2,fun v H' s r=>q v H' (s1.trans s) r⟩
  ·cases e2
 ·cases e2
@[simp] noncomputable def ZZ(f:D->Option OD)(da:DE)(ρ:j7):Option OD:=(da ρ).bind f
theorem Q3{F:List D->Option OD}{C:Addr}{pl:Sem Bool}(he:PE X a (tR K da))(c:Cls K C)(M:MtI X.prog X.w X.K X.mg X.base k C m ps (gM K [false] F))(hr:Room k X.A)
  (ht:eval (.Call (.Attribute a m apos) [] [] pos) X.env=(do
   let ov<-eval a X.env
   standAt apos.atName
   let (f,first)<-holding [ov] (getMethod ov m pl)
   callWith pos f first (backTo pos (starEach [] X.env)) (backToKw pos (keywordEach [] X.env))):=by rfl) (hK:X.K=K:=by rfl):
  PE X (.Call (.Attribute a m apos) [] [] pos) (tF K (ZZ (jZ C m F) da)):=by
 subst hK;refine jk (kS he c M hr ht) fun σ H Q xx=>?_;obtain⟨H0,O0,ρ,O,d,R,ed,q⟩:=xx;obtain⟨x,e1,e2⟩:=j0 ed;refine⟨H0,O0,ρ,O,x,R,e1,fun v H1 s1 r=>?_⟩;unfold jZ at e2;split at e2
 ·split at e2
  ·rename_i hh;obtain⟨rfl,hm⟩:=hh;have r0:=r;obtain⟨pa,dx,xs,rfl,h1,hn,h2⟩:=r.ins;exact⟨pa,dx,_,rfl,h1,zc hm,O,[_],d,(R.grow s1).al,⟨r0,trivial⟩,e2,fun l H' s hn r=>q l H' (s1.trans s) (s1.none hn) r⟩
  ·cases e2
 ·cases e2
def WR(K:Fr)(C:Addr)(ks:List Bool)(F:Addr->List D->Option OD):Sp:=fun vs H Q _=>∃O ds p dx vs' o,vs=.ref p::vs'/\(∀a∈O,H a≠none)/\H p=some (.ins C dx [])/\p∉O/\JC K O (j4 H [p]) ks ds vs'/\F p ds=some o/\∀H',j1 (j4 H [p]) H'->Ja K H' (j4 H' (p::O)) p o->Q .non H'
@[simp] def V9(F:List D->Option OD)(l:DA)(ρ:j7):Option OD:=(Yl l ρ).bind F
theorem X9{F:Addr->List D->Option OD}{F1:List D->Option OD}{C:Addr}(M:MkI X.prog X.w X.K X.mg X.base k C x ps (WR K C ks F))(hF:∀p ds o,F1 ds=some o->F p ds=some o)(hr:Room (k+1) X.A)(ha:PA X (e::es) (yX K l))(hk:l.map (·.1)=ks:=by rfl)(hg:Gl X x:=by rfl)(hdb:(x==("__debug__" : Str))=false:=by decide)
  (he:starEach (e::es) X.env=(false,eval e X.env)::starEach es X.env:=by rfl) (hpl:(backTo pos (starEach es X.env)).any (·.1)=false:=by rfl):PE X (.Call (.Name x p) (e::es) [] pos) (tF K (V9 F1 l)):=jk (AS M hr ha hg hdb he hpl) fun σ H Q xx=>by
 obtain⟨H0,O0,ρ,O,o,R,ed,q⟩:=xx;subst hk;obtain⟨ds,e1,e2⟩:=j0 ed;refine⟨H0,O0,ρ,O,ds,R,e1,fun vs H1 s1 r1=>fun y dy ny ndy hne=>?_⟩
 (try dsimp only)
 rw[List.append_nil];have R1:=R.grow s1;have sB:j1 H1 (j4 (upd (upd H1 dy (.own y)) y (.ins C dy [])) [y]):=fun c u z=>by
  rw[jq (by intro w;simp at w;exact jl z ny w),jc (jl z ny),jc (jl z ndy)];exact z
 refine⟨O,ds,y,dy,vs,o,rfl,fun c hc z=>?_,jx,R1.new ny,r1.same sB,hF y ds o e2,fun H' s ow=>⟨rfl,q y H' (s1.trans (sB.trans s)) (s1.none ny) ow⟩⟩;refine R1.al c hc ?_;by_cases h1:c=y
 ·rw[h1];exact ny
 ·rw[jc h1]at z;by_cases h2:c=dy
  ·rw[h2];exact ndy
  ·rw[jc h2]at z;exact z
inductive Rs where
 | nx (ρ:j7) | rt (d:D) | rf (o:OD) | bk (ρ:j7) | ct (ρ:j7)
abbrev DS:=j7->Option Rs
def Fin(K:Fr)(H0:Hp)(O0:List Addr)(H:Hp)(O:List Addr)(E:Ends):Rs->Prop
 | .nx ρ=>∀σ' H' O',Rel K H0 O0 ρ σ' H' O'->j1 (j4 H O) (j4 H' O')->E.nx σ' H'
 | .bk ρ=>∀σ' H' O',Rel K H0 O0 ρ σ' H' O'->j1 (j4 H O) (j4 H' O')->E.bk σ' H'
 | .ct ρ=>∀σ' H' O',Rel K H0 O0 ρ σ' H' O'->j1 (j4 H O) (j4 H' O')->E.ct σ' H'
 | .rt d=>∀v H',j1 H0 H'->j5 K (j4 H' O0) d v->E.rt v H'
 | .rf o=>∀l H',j1 H0 H'->H0 l=none->Ja K H' (j4 H' (l::O0)) l o->E.rt (.ref l) H'
theorem Fin.mono{H0 H H1:Hp}{O0 O O1:List Addr}{E:Ends}{r:Rs}(s:j1 (j4 H O) (j4 H1 O1))(h:Fin K H0 O0 H O E r):Fin K H0 O0 H1 O1 E r:=by
 cases r with
 | nx ρ=>exact fun σ' H' O' R t=>h σ' H' O' R (s.trans t)
 | bk ρ=>exact fun σ' H' O' R t=>h σ' H' O' R (s.trans t)
 | ct ρ=>exact fun σ' H' O' R t=>h σ' H' O' R (s.trans t)
 | rt d=>exact h
 | rf o=>exact h
def tS(K:Fr)(ds:DS):TS:=fun E σ H=>∃H0 O0 ρ O r,Rel K H0 O0 ρ σ H O/\ds ρ=some r/\Fin K H0 O0 H O E r
variable {st:Stmt} {rest:List Stmt} {s1 s2:DS}
theorem jO{t t':TS}(h:PS X st t)(f:∀D σ H,t' D σ H->t D σ H):PS X st t':=fun pins s σ H D I q=>h pins s σ H D I (f D σ H q)
theorem YB{t t':TS}(h:jy X rest t)(f:∀D σ H,t' D σ H->t D σ H):jy X rest t':=fun pins s σ H D I q=>h pins s σ H D I (f D σ H q)
@[simp] noncomputable def Jg(ρ:j7):Option Rs:=some (.nx ρ)
theorem Xa:jy X [] (tS K Jg):=YB gA fun D σ H xx=>by
 obtain⟨H0,O0,ρ,O,r,R,ed,f⟩:=xx;cases ed;exact f σ H O R (j1.refl _)
@[simp] noncomputable def ja(s1 s2:DS)(ρ:j7):Option Rs:=(s1 ρ).bind fun r=>match r with
 | .nx ρ1=>s2 ρ1
 | r=>some r
theorem Q4(h1:PS X st (tS K s1))(h2:jy X rest (tS K s2)):jy X (st::rest) (tS K (ja s1 s2)):=YB (vm h1 h2) fun D σ H xx=>by
 obtain⟨H0,O0,ρ,O,r,R,ed,f⟩:=xx;obtain⟨r1,e1,e2⟩:=j0 ed;refine⟨H0,O0,ρ,O,r1,R,e1,?_⟩;cases r1 with
 | nx ρ1=>exact fun σ' H' O' R' t=>⟨H0,O0,ρ1,O',r,R',e2,f.mono t⟩
 | bk ρ1=>cases e2;exact f
 | ct ρ1=>cases e2;exact f
 | rt d=>cases e2;exact f
 | rf o=>cases e2;exact f
theorem Xb(h1:PS X st (tS K s1)):jy X [st] (tS K s1):=Vw h1
@[simp] noncomputable def YW(_:j7):Option Rs:=none
theorem wn:jy X rest (tS K YW):=YB kv fun D σ H ⟨H0,O0,ρ,O,r,R,ed,f⟩=>by cases ed
theorem Xc:PS X (.Pass pos) (tS K Jg):=jO qz fun D σ H xx=>by
 obtain⟨H0,O0,ρ,O,r,R,ed,f⟩:=xx;cases ed;exact f σ H O R (j1.refl _)
@[simp] noncomputable def Bu(ρ:j7):Option Rs:=some (.bk ρ)
@[simp] noncomputable def Bv(ρ:j7):Option Rs:=some (.ct ρ)
theorem Q5:PS X (.Break pos) (tS K Bu):=jO KA fun D σ H xx=>by
 obtain⟨H0,O0,ρ,O,r,R,ed,f⟩:=xx;cases ed;exact f σ H O R (j1.refl _)
theorem Xd:PS X (.Continue pos) (tS K Bv):=jO gb fun D σ H xx=>by
 obtain⟨H0,O0,ρ,O,r,R,ed,f⟩:=xx;cases ed;exact f σ H O R (j1.refl _)
@[simp] def Zr(i:Nat)(s:DS)(ρ:j7):Option Rs:=match ρ[i]? with
 | some (.ow _ o)=>s (ρ.set i (.cl o.toD))
 | _=>none
theorem wo(i:Nat)(h:jy X rest (tS K s1)):jy X rest (tS K (Zr i s1)):=YB h fun D σ H xx=>by
 obtain⟨H0,O0,ρ,O,r,R,ed,f⟩:=xx;unfold Zr at ed;split at ed
 ·obtain⟨O',R',ss⟩:=R.share (by assumption);exact⟨H0,O0,_,O',r,R',ed,f.mono ss⟩
 ·cases ed
@[simp] noncomputable def J3(dt:DT)(s1 s2:DS)(ρ:j7):Option Rs:=(dt ρ).bind fun k=>if k=true then s1 ρ else s2 ρ
theorem C9{dt:DT}{sa sb:List Stmt}(hc:PT X c (tT K dt))(ha:jy X sa (tS K s1))(hb:jy X sb (tS K s2)):PS X (.If c sa sb pos) (tS K (J3 dt s1 s2)):=jO (Wk hc ha hb) fun D σ H xx=>by
 obtain⟨H0,O0,ρ,O,r,R,ed,f⟩:=xx;obtain⟨k,e1,e2⟩:=j0 ed;refine⟨H0,O0,ρ,O,k,R,e1,fun H' s=>?_⟩;cases k with
 | true=>rw[if_pos rfl]at e2;exact yw ⟨H0,O0,ρ,O,r,R.grow s,e2,f.mono (j9 s)⟩
 | false=>rw[if_neg Bool.false_ne_true]at e2;exact yv ⟨H0,O0,ρ,O,r,R.grow s,e2,f.mono (j9 s)⟩
@[simp] noncomputable def jJ(i:Nat)(de:DE)(ρ:j7):Option Rs:=(de ρ).bind fun d=>some (.nx (ρ.set i (.cl d)))
theorem Xe{i:Nat}:∀D σ H,tS K (jJ i de) D σ H->y9 (tE K de) (yH i) D σ H:=fun D σ H xx=>by
 obtain⟨H0,O0,ρ,O,r,R,ed,f⟩:=xx;obtain⟨d,e1,e2⟩:=j0 ed;cases e2;exact⟨H0,O0,ρ,O,d,R,e1,fun v H' s q=>f _ H' O ((R.grow s).set q i) (j9 s)⟩
theorem WS{i:Nat}(h:PS X st (y9 (tE K de) (yH i))):PS X st (tS K (jJ i de)):=jO h Xe
@[simp] noncomputable def yz(i:Nat)(df:DO)(ρ:j7):Option Rs:=(df ρ).bind fun o=>some (.nx (ρ.set i (.ow none o)))
theorem Xf{i:Nat}{df:DO}:∀D σ H,tS K (yz i df) D σ H->y9 (tF K df) (yH i) D σ H:=fun D σ H xx=>by
 obtain⟨H0,O0,ρ,O,r,R,ed,f⟩:=xx;obtain⟨d,e1,e2⟩:=j0 ed;cases e2;exact⟨H0,O0,ρ,O,d,R,e1,fun l H' s hn q=>f _ H' (l::O) (R.own s hn q i) (yW s hn)⟩
theorem WT{i:Nat}{df:DO}(h:PS X st (y9 (tF K df) (yH i))):PS X st (tS K (yz i df)):=jO h Xf
theorem vz{te te':TE}{g:TG}(h:PS X st (y9 te g))(f:∀σ H Q,te' σ H Q->te σ H Q):PS X st (y9 te' g):=jO h fun D σ H q=>f σ H _ q
theorem wp{df:DO}:∀σ H Q,tE K (dL df) σ H Q->tF K df σ H Q:=fun σ H Q xx=>by
 obtain⟨H0,O0,ρ,O,d,R,ed,q⟩:=xx;obtain⟨ds,e1,e2⟩:=j0 ed;cases e2;exact⟨H0,O0,ρ,O,ds,R,e1,fun l H' s hn r=>q _ _ s ((r.same (fun _ z=>z) (jP fun a h=>wMa _ h)).rep fun u z=>by rw[jq (R.new hn)];exact z)⟩
@[simp] noncomputable def Zs(de:DE)(g:DG)(ρ:j7):Option Rs:=(de ρ).bind fun d=>(g d ρ).bind fun ρ'=>some (.nx ρ')
theorem bM{g:DG}{kk:Nat}(h:PS X st (y9 (tE K de) (tG K kk g))):PS X st (tS K (Zs de g)):=jO h fun D σ H xx=>by
 obtain⟨H0,O0,ρ,O,r,R,ed,f⟩:=xx;obtain⟨d,e1,ed⟩:=j0 ed;obtain⟨ρ',e2,ed⟩:=j0 ed;cases ed;exact⟨H0,O0,ρ,O,d,R,e1,fun v H' s q=>⟨H0,O0,ρ,O,d,ρ',R.grow s,q,e2,fun σ' R' _=>f σ' H' O R' (j9 s)⟩⟩
@[simp] noncomputable def wq(i:Nat)(h:Int->Int->Int)(de:DE)(ρ:j7):Option Rs:=(dC i ρ).bind fun x=>(de ρ).bind fun y=>match x,y with
 | .int p,.int q=>some (.nx (ρ.set i (.cl (.int (h p q)))))
 | _,_=>none
theorem WU{i:Nat}{g:Int->Int->Int}(h:PS X st (KF i (tR K de) (QZ g))):PS X st (tS K (wq i g de)):=jO h fun D σ H xx=>by
 obtain⟨H0,O0,ρ,O,r,R,ed,f⟩:=xx;obtain⟨x,e1,ed⟩:=j0 ed;obtain⟨y,e2,ed⟩:=j0 ed;split at ed
 ·cases ed;unfold dC at e1;split at e1
  ·cases e1;obtain⟨v,h1,h2⟩:=R.cl i _ (by assumption);rw[j5]at h2;subst h2;exact⟨_,h1,H0,O0,ρ,O,_,R,e2,fun v H' s q=>⟨_,_,rfl,q.int,f _ H' O ((R.grow s).set (by rw[j5]) i) (j9 s)⟩⟩
  ·cases e1
 ·cases ed
@[simp] noncomputable def GN(de:DE)(ρ:j7):Option Rs:=(de ρ).bind fun _=>some (.nx ρ)
theorem kY(h:PS X st (uA (tR K de))):PS X st (tS K (GN de)):=jO h fun D σ H xx=>by
 obtain⟨H0,O0,ρ,O,r,R,ed,f⟩:=xx;obtain⟨d,e1,e2⟩:=j0 ed;cases e2;exact⟨H0,O0,ρ,O,d,R,e1,fun v H' s q=>f _ H' O (R.grow s) (j9 s)⟩
@[simp] noncomputable def yJ(i:Nat)(de:DE)(ρ:j7):Option Rs:=match ρ[i]? with
 | some (.ow q (.lst ds))=>(de ρ).bind fun d=>if ds.length < sizeLine then some (.nx (ρ.set i (.ow q (.lst (ds++[d])))))else none
 | _=>none
theorem wt{i:Nat}(h:PS X st (uA (Wx K "list" ZH (yu i) (yb (tE K de) zJ)))):PS X st (tS K (yJ i de)):=jO h fun D σ H xx=>by
 obtain⟨H0,O0,ρ,O,r,R,ed,f⟩:=xx;unfold yJ at ed;split at ed
 ·rename_i q ds hi;obtain⟨d,e1,e2⟩:=j0 ed;split at e2
  ·rename_i hz;cases e2;obtain⟨l,hq,hs,⟨vs,hl,rp⟩,lo,h0⟩:=R.ow i _ _ hi;refine⟨_,hs,.inl ⟨rfl,_,jj.of hl⟩,H0,O0,ρ,O,d,R,e1,fun v H' s rv=>?_⟩;have R':=R.grow s;have rp':=rp.same (j9 s);refine⟨l,vs,v,rfl,rfl,s _ _ hl,by rw[rp.len];exact hz,f _ _ O (R'.change hi hq hs lo h0 ⟨_,jx,rp'.snoc rv⟩) ?_⟩;rw[J5 lo];exact j9 s
  ·cases e2
 ·cases ed
@[simp] def GO(i:Nat)(dx de:DE)(ρ:j7):Option Rs:=match ρ[i]? with
 | some (.ow q (.lst ds))=>(de ρ).bind fun d=>(dx ρ).bind fun j=>match j with
  | .int j=>(Z2 ds.length j).bind fun n=>some (.nx (ρ.set i (.ow q (.lst (ds.set n d)))))
  | _=>none
 | _=>none
theorem Xg{i:Nat}{dx:DE}(h:PS X st (y9 (tE K de) (QX (yu i) (tR K dx) Ww))):PS X st (tS K (GO i dx de)):=jO h fun D σ H xx=>by
 obtain⟨H0,O0,ρ,O,r,R,ed,f⟩:=xx;unfold GO at ed;split at ed
 ·rename_i q ds hi;obtain⟨d,e1,ed⟩:=j0 ed;obtain⟨j,e2,ed⟩:=j0 ed;split at ed
  ·obtain⟨n,e3,ed⟩:=j0 ed;cases ed;obtain⟨l,hq,hs,⟨vs,hl,rp⟩,lo,h0⟩:=R.ow i _ _ hi;refine⟨H0,O0,ρ,O,d,R,e1,fun v H1 s1 rv=>⟨_,hs,H0,O0,ρ,O,_,R.grow s1,e2,fun w H2 s2 rw'=>?_⟩⟩;have s12:=s1.trans s2;have R':=R.grow s12;have rp':=rp.same (j9 s12);refine⟨l,vs,_,n,rfl,rw'.int,s12 _ _ hl,by rw[rp.len];exact e3,f _ _ O (R'.change hi hq hs lo h0 ⟨_,jx,rp'.set (rv.same (j9 s2)) n⟩) ?_⟩;rw[J5 lo];exact j9 s12
  ·cases ed
 ·cases ed
@[simp] noncomputable def jF(de:DE)(ρ:j7):Option Rs:=(de ρ).bind fun d=>some (.rt d)
theorem WV(h:PE X e (tE K de)):PS X (.Return (some e) pos) (tS K (jF de)):=jO (vT h) fun D σ H xx=>by
 obtain⟨H0,O0,ρ,O,r,R,ed,f⟩:=xx;obtain⟨d,e1,e2⟩:=j0 ed;cases e2;exact⟨H0,O0,ρ,O,d,R,e1,fun v H' s q=>f v H' (R.keep.trans s) (q.same (jP R.sub))⟩
@[simp] noncomputable def YX(df:DO)(ρ:j7):Option Rs:=(df ρ).bind fun o=>some (.rf o)
theorem Xh{df:DO}(h:PE X e (tF K df)):PS X (.Return (some e) pos) (tS K (YX df)):=jO (vT h) fun D σ H xx=>by
 obtain⟨H0,O0,ρ,O,r,R,ed,f⟩:=xx;obtain⟨d,e1,e2⟩:=j0 ed;cases e2;refine⟨H0,O0,ρ,O,d,R,e1,fun l H' s hn q=>f l H' (R.keep.trans s) (R.keep.none hn) (q.same (fun _ z=>z) (jP fun a h=>?_))⟩;rcases List.mem_cons.mp h with rfl | h
 ·exact wNa
 ·exact wMa _ (R.sub a h)
@[simp] noncomputable def Va(i:Nat)(ρ:j7):Option Rs:=match ρ[i]? with
 | some (.ow _ o)=>some (.rf o)
 | _=>none
theorem Xi{i:Nat}{x:Str}{pos':Pos}(h:PE X (.Name x pos') (yu i)):PS X (.Return (some (.Name x pos')) pos) (tS K (Va i)):=jO (vT h) fun D σ H xx=>by
 obtain⟨H0,O0,ρ,O,r,R,ed,f⟩:=xx;unfold Va at ed;split at ed
 ·cases ed;obtain⟨l,_,hs,ow,lo,h0⟩:=R.ow i _ _ (by assumption);refine⟨_,hs,f l H R.keep h0 (ow.same (fun _ z=>z) (jP fun a h=>?_))⟩;rcases List.mem_cons.mp h with rfl | h
  ·exact lo
  ·exact R.sub a h
 ·cases ed
theorem Xj:PS X (.Return none pos) (tS K (jF (dK .non))):=jO qA fun D σ H xx=>by
 obtain⟨H0,O0,ρ,O,r,R,ed,f⟩:=xx;cases ed;exact f .non H R.keep (by rw[j5])
noncomputable def jR(g:DG)(s:DS):List D->DS
 | [],ρ=>some (.nx ρ)
 | d::ds,ρ=>(g d ρ).bind fun ρ1=>(s ρ1).bind fun r=>match r with
  | .nx ρ2=>jR g s ds ρ2
  | .ct ρ2=>jR g s ds ρ2
  | .bk ρ2=>some (.nx ρ2)
  | .rt d=>some (.rt d)
  | .rf o=>some (.rf o)
@[simp] def yi(di:DI)(g:DG)(s:DS)(ρ:j7):Option Rs:=(di ρ).bind fun items=>jR g s items ρ
theorem bN{iter:Expr}{body:List Stmt}{di:DI}{g:DG}{kk:Nat}(hp:PassesOwn (model X.prog X.w) X.A X.env X.xe)(hc:X.calm=true)(hi:PI X tg iter (Yh K di))(hg:PG X tg (tG K kk g))(hb:jy X body (tS K s1))(hs:∀x,foldedSetIterable iter X.env x=pure x:=by intro _;rfl):PS X (.For tg iter body [] pos) (tS K (yi di g s1)):=jO (xc hp hc hi hg hb hs) fun D σ H xx=>by
 obtain⟨H0,O0,ρ,O,r,R,ed,f⟩:=xx;obtain⟨items,e1,ed⟩:=j0 ed;refine⟨H0,O0,ρ,O,items,R,e1,fun J H1 s1' hJ=>?_⟩;have R1:=R.grow s1';have f1:=f.mono (j9 s1');refine⟨fun i m σ' H'=>∃ρ' O',Rel K H0 O0 ρ' σ' H' O'/\jR g s1 (items.drop i) ρ'=some r/\j1 (j4 H1 O) (j4 H' O')/\m=items.length - i/\i<=items.length,⟨items.length,ρ,O,R1,by simpa using ed,j1.refl _,rfl,Nat.zero_le _⟩,?_⟩;rintro i m σ' H' ⟨ρ',O',R',d1,sd,rfl,hi'⟩;obtain⟨hgo,hstop⟩:=hJ i H' O' R'.keep R'.in0 sd R'.al;by_cases hlt:i < items.length
 ·right;have hx:items[i]?=some items[i]:=by simp[hlt]
  have hd:items.drop i=items[i]::items.drop (i+1):=(List.getElem_cons_drop hlt).symm;rw[hd]at d1;obtain⟨g1,g2⟩:=hgo _ hx;refine⟨g1,fun σ2 H2=>∃ρ2 O2,Rel K H0 O0 ρ2 σ2 H2 O2/\jR g s1 (items.drop (i+1)) ρ2=some r/\j1 (j4 H1 O) (j4 H2 O2),?_,fun x H'' y=>?_⟩
  ·rintro σ2 H2 ⟨ρ2,O2,a1,a2,a3⟩;exact⟨items.length - (i+1),by omega,ρ2,O2,a1,a2,a3,rfl,hlt⟩
  ·obtain⟨sy,rx⟩:=g2 x H'' y;obtain⟨ρ1,f3,f4⟩:=j0 d1;obtain⟨r1,f5,f6⟩:=j0 f4;refine⟨H0,O0,ρ',O',_,ρ1,R'.grow sy,rx,f3,fun σ2 R3 _=>⟨H0,O0,ρ1,O',r1,R3,f5,?_⟩⟩;have t1:=sd.trans (j9 sy);cases r1 with
   | nx ρ2=>exact fun σ3 H3 O3 R4 t=>⟨ρ2,O3,R4,f6,t1.trans t⟩
   | ct ρ2=>exact fun σ3 H3 O3 R4 t=>⟨ρ2,O3,R4,f6,t1.trans t⟩
   | bk ρ2=>cases f6;exact fun σ3 H3 O3 R4 t=>f1 σ3 H3 O3 R4 (t1.trans t)
   | rt d=>cases f6;exact f1
   | rf o=>cases f6;exact f1
 ·left;have ei:i=items.length:=by omega
  refine⟨hstop ei,?_⟩;have e0:items.drop i=[]:=List.drop_of_length_le (by omega);rw[e0]at d1;have d1:some (Rs.nx ρ')=some r:=d1;cases d1;exact f1 σ' H' O' R' sd
noncomputable def Z_(dt:DT)(s:DS):Nat->DS
 | 0,_=>none
 | n+1,ρ=>(dt ρ).bind fun k=>if k=true then(s ρ).bind fun r=>match r with
  | .nx ρ2=>Z_ dt s n ρ2
  | .ct ρ2=>Z_ dt s n ρ2
  | .bk ρ2=>some (.nx ρ2)
  | .rt d=>some (.rt d)
  | .rf o=>some (.rf o)else some (.nx ρ)
theorem Q6{dt:DT}{body:List Stmt}(n:Nat)(hp:PassesOwn (model X.prog X.w) X.A X.env X.xe)(hc:PT X c (tT K dt))(hb:jy X body (tS K s1)):PS X (.While c body [] pos) (tS K (Z_ dt s1 n)):=jO (KG hp hc hb) fun D σ H xx=>by
 obtain⟨H0,O0,ρ,O,r,R,ed,f⟩:=xx;refine⟨fun m σ' H'=>∃ρ' O',Rel K H0 O0 ρ' σ' H' O'/\Z_ dt s1 m ρ'=some r/\j1 (j4 H O) (j4 H' O'),⟨n,ρ,O,R,ed,j1.refl _⟩,?_⟩;rintro m σ' H' ⟨ρ',O',R',d1,sd⟩;cases m with
 | zero=>cases d1
 | succ m=>
  obtain⟨k,e1,e2⟩:=j0 d1;refine⟨H0,O0,ρ',O',k,R',e1,fun H2 s2=>?_⟩;have t1:=sd.trans (j9 s2);cases k with
  | true=>
   rw[if_pos rfl]at e2;obtain⟨r1,f5,f6⟩:=j0 e2;refine yw ⟨fun σ3 H3=>∃ρ3 O3,Rel K H0 O0 ρ3 σ3 H3 O3/\Z_ dt s1 m ρ3=some r/\j1 (j4 H O) (j4 H3 O3),?_,H0,O0,ρ',O',r1,R'.grow s2,f5,?_⟩
   ·rintro σ3 H3 ⟨ρ3,O3,a1,a2,a3⟩;exact⟨m,Nat.lt_succ_self m,ρ3,O3,a1,a2,a3⟩
   ·cases r1 with
    | nx ρ2=>exact fun σ3 H3 O3 R4 t=>⟨ρ2,O3,R4,f6,t1.trans t⟩
    | ct ρ2=>exact fun σ3 H3 O3 R4 t=>⟨ρ2,O3,R4,f6,t1.trans t⟩
    | bk ρ2=>cases f6;exact fun σ3 H3 O3 R4 t=>f σ3 H3 O3 R4 (t1.trans t)
    | rt d=>cases f6;exact f
    | rf o=>cases f6;exact f
  | false=>
   rw[if_neg Bool.false_ne_true]at e2;cases e2;exact yv (f σ' H2 O' (R'.grow s2) t1)
theorem Q7{iter elt:Expr}{ifs:List Expr}{scope:Scope}{di:DI}{g:DG}{dc:DT}{de:DE}(own:List Str)(caps:List (Str×Nat)){i:Nat}{x:Str}{pos' spos:Pos}(hN:X.N.Nodup)(hix:X.N[i]?=some x)(hx:ZT X.env.scope x)(S:CScope X scope)(hcap:Caps X scope caps)(hc:X.calm=true)(hi:PI X tg iter (Yh K di))
  (hg:∀s3 H3 ex',PG (X.comp (cN own caps) scope s3 H3 ex') tg (tG K own.length g)) (ht:∀s3 H3 ex',Y2 (X.comp (cN own caps) scope s3 H3 ex') ifs (tT K dc)) (he:∀s3 H3 ex',PE (X.comp (cN own caps) scope s3 H3 ex') elt (tE K de)) (hnd:(caps.map (·.2)).Nodup:=by decide)
  (hs:∀x,foldedSetIterable iter X.env x=pure x:=by intro _;rfl)
  (hsw:swapsWith (.ListComp elt [⟨tg,iter,ifs,0⟩] scope pos) (some (.Name x pos')) spos.line X.env=pure true:=by rfl) (hf:X.fn x=true∨X.env.scope.names.lookup x=some .local:=by first | exact .inl rfl | exact .inr rfl | assumption):
  PS X (.Assign [.Name x pos'] (.ListComp elt [⟨tg,iter,ifs,0⟩] scope pos) spos) (tS K (yz i (Yi own.length (caps.map (·.2)) di g dc de))):=
 WT (vz (uZ own caps hN hix hx S hcap hc hi hg ht he hs hsw hf) (Ud hnd))
theorem Q8{iter elt:Expr}{ifs:List Expr}{scope:Scope}{di:DI}{g:DG}{dc:DT}{de:DE}(own:List Str)(caps:List (Str×Nat)){i:Nat}{x:Str}{pos' spos:Pos}(hN:X.N.Nodup)(hix:X.N[i]?=some x)(hx:ZT X.env.scope x)(S:CScope X scope)(hcap:Caps X scope caps)(hc:X.calm=true)(hi:PI X tg iter (Yh K di))
  (hg:∀s3 H3 ex',PG (X.comp (cN own caps) scope s3 H3 ex') tg (tG K own.length g)) (ht:∀s3 H3 ex',Y2 (X.comp (cN own caps) scope s3 H3 ex') ifs (tT K dc)) (he:∀s3 H3 ex',PE (X.comp (cN own caps) scope s3 H3 ex') elt (tE K de)) (hnd:(caps.map (·.2)).Nodup:=by decide)
  (hs:∀x,foldedSetIterable iter X.env x=pure x:=by intro _;rfl)
  (hsw:swapsWith (.ListComp elt [⟨tg,iter,ifs,0⟩] scope pos) (some (.Name x pos')) spos.line X.env=pure true:=by rfl) (hf:X.fn x=true∨X.env.scope.names.lookup x=some .local:=by first | exact .inl rfl | exact .inr rfl | assumption):
  PS X (.Assign [.Name x pos'] (.ListComp elt [⟨tg,iter,ifs,0⟩] scope pos) spos) (tS K (jJ i (dL (Yi own.length (caps.map (·.2)) di g dc de)))):=
 WS (vz (vz (uZ own caps hN hix hx S hcap hc hi hg ht he hs hsw hf) (Ud hnd)) wp)
end
theorem Vb(v:Value)(n:Nat):List.foldl (fun x1 x2=>x1++x2) #[] (List.replicate n #[v])=(List.replicate n v).toArray:=by
 have f:∀(n:Nat) (a:Array Value),List.foldl (fun x1 x2=>x1++x2) a (List.replicate n #[v])=a++(List.replicate n v).toArray:=fun n=>by
  induction n with
  | zero=>intro a;simp
  | succ n ih=>intro a;rw[List.replicate_succ,List.foldl_cons,ih];apply Array.ext';simp[List.replicate_succ]
 rw[f];simp
theorem uq(l:Addr)(v:Value)(n:Nat)(dd:Option Addr)(sl:Array (Option Value))(x:Int)(u:Tok)(h1:1 < x)(h2:x<=1000):
  Meets (Builtin.«tuple.__mul__» ⟨[.ref l,.int x u],[]⟩) (fun _ R s=>s.heap.get? l=some { cls:=.type "tuple",dict:=dd,data:=.seq #[v] n,slots:=sl }/\R (.ok (.ret (Value.ref s.heap.objs.size))) { s with heap:=s.heap.push { cls:=Value.type "tuple",data:=Data.seq (List.foldl (fun x1 x2=>x1++x2) #[] (List.replicate x.toNat #[v])) },toks:=s.toks }):=
 .of_wp fun prog w A R s h=>by
  obtain⟨hp,g,d,tk,os⟩:=s;obtain⟨hl,h⟩:=h
  wp_walk
  refine wpAny_ite_false (by simp;omega) ?_
  wp_walk
  refine wpAny_ite_false (by simp;omega) ?_
  wp_walk
  refine wpAny_ite_false (by simp;omega) ?_
  wp_walk
  rw[if_neg (by simp;omega)]
  wp_walk
  refine wpAny_ite_false (by simp[Builtin.Tuple.tupleTooMany,sizeLine];omega) ?_
  wp_walk
  have hz:(List.foldl (fun x1 x2=>x1++x2) #[] (List.replicate x.toNat #[v])).size<=sizeLine:=by
   rw[Vb];simp[sizeLine];omega
  first | exact⟨_,rfl,h⟩ | (refine wpAny_ite_false (vBa (Nat.not_lt.mpr hz)) ?_;wp_walk;exact⟨_,rfl,h⟩)
theorem ur(l:Addr)(v:Value)(n:Nat)(dd:Option Addr)(sl:Array (Option Value))(u:Tok):
  Meets (Builtin.«tuple.__mul__» ⟨[.ref l,.int 1 u],[]⟩) (fun _ R s=>s.heap.get? l=some { cls:=.type "tuple",dict:=dd,data:=.seq #[v] n,slots:=sl }/\R (.ok (.ret (Value.ref l))) { s with heap:=s.heap,toks:=s.toks }):=
 .of_wp fun prog w A R s h=>by
  obtain⟨hp,g,d,tk,os⟩:=s;obtain⟨hl,h⟩:=h
  wp_walk
  first | exact⟨_,rfl,h⟩ | (refine wpAny_ite_false (by simp) ?_;wp_walk;refine wpAny_ite_true (by simp) ?_;wp_walk;exact⟨_,rfl,h⟩)
theorem VD(l:Addr)(v:Value)(n:Nat)(dd:Option Addr)(sl:Array (Option Value))(u:Tok):
  Meets (Builtin.«tuple.__mul__» ⟨[.ref l,.int 0 u],[]⟩) (fun _ R s=>s.heap.get? l=some { cls:=.type "tuple",dict:=dd,data:=.seq #[v] n,slots:=sl }/\R (.ok (.ret (Value.ref s.heap.objs.size))) { s with heap:=s.heap.push { cls:=Value.type "tuple",data:=Data.seq #[] },toks:=s.toks }):=
 .of_wp fun prog w A R s h=>by
  obtain⟨hp,g,d,tk,os⟩:=s;obtain⟨hl,h⟩:=h
  wp_walk
  first | exact⟨_,rfl,h⟩ | (refine wpAny_ite_false (by simp) ?_;wp_walk;refine wpAny_ite_false (by simp) ?_;wp_walk;refine wpAny_ite_true (by simp) ?_;wp_walk;exact⟨_,rfl,h⟩)
theorem vA:fillsNumberSlot (.type "tuple") "mul" = pure false:=
 PySem.fillsNumberSlot_seq (id := "tuple.__mul__") (r:=some (.builtin "tuple.__rmul__")) F.slot_tuple_mul.lookup (by decide +kernel) F.slot_tuple_rmul.lookup (by decide +kernel)
theorem Ue:seqRepeat? (.type "tuple")=pure (some (.builtin "tuple.__mul__")):=by
 unfold seqRepeat?;rw[PySem.seqSlot_of (T := "tuple") (name := "__mul__") (id := "tuple.__mul__") F.slot_tuple_mul.lookup (by decide +kernel),PySem.seqSlot_of (T := "tuple") (name := "__rmul__") (id := "tuple.__rmul__") F.slot_tuple_rmul.lookup (by decide +kernel)];rfl
theorem VE(a:Int)(t:Tok)(l:Addr)(items:Array Value)(n:Nat)(dd:Option Addr)(sl:Array (Option Value)):
  Meets (Builtin.«int.__rmul__» ⟨[.int a t,.ref l],[]⟩) (fun _ R s=>s.heap.get? l=some { cls:=.type "tuple",dict:=dd,data:=.seq items n,slots:=sl }/\R (.ok (.ret Value.notImplemented)) s):=
 .of_wp fun prog w A R s h=>by obtain⟨hp,g,d,tk,os⟩:=s;obtain⟨hl,h⟩:=h;wp_walk;exact⟨_,rfl,h⟩
section
variable {X:Cx} {K:Fr}
def GP(K:Fr):R2:=fun x y H Q=>∃l k z,x=.ref l/\y=.int k/\jX K H l [z]/\0<=k/\k<=1000/\(k=1->Q (.ref l) H)/\(k≠1->∀p,H p=none->Q (.ref p) (upd H p (.tup (List.replicate k.toNat z))))
theorem Uf{z:V}{v:Value}(r:jh z v):∀n:Nat,jb (List.replicate n z) (List.replicate n v)
 | 0=>.nil
 | n+1=>by rw[List.replicate_succ,List.replicate_succ];exact .cons r (Uf r n)
theorem Q9:jt X (binaryOp .Mult) (GP X.K):=by
 intro pins s σ H x y v u Q I rx ry h;obtain⟨l,k,z,rfl,rfl,hq,h1,h2,q1,q2⟩:=h;cases rx;obtain⟨t,rfl⟩:=ry;obtain⟨its,r,⟨⟨cls,dd,data,sl⟩,ho,hc,n,hd⟩,hz⟩:=I.tuple hq;simp only at hc hd;subst hc hd;obtain⟨w,rfl,rw'⟩:∃w,its=[w]/\jh z w:=by
  cases r with
  | cons a b=>cases b;exact⟨_,rfl,a⟩
 refine wpAny_binaryOp_repeat_ref (T := "tuple") (U := "int") (by decide) ⟨_,ho,rfl⟩ (fun s'=>typeIs_int s' k t) vA F.fills_int_mul F.slot_int_rmul Ue F.slot_int_index.lookup
  (call_meets F.slot_int_rmul (typeIs_int s k t) F.entry_int_rmul (F.args_int_rmul_2 _ _) (VE k t l _ n dd sl) ⟨ho,rfl,⟨_,ho,rfl⟩,?_⟩)
 by_cases e1:k=1
 ·subst e1;exact call_meets F.slot_tuple_mul ⟨_,ho,rfl⟩ F.entry_tuple_mul (F.args_tuple_mul_2 _ _) (ur l w n dd sl t) ⟨ho,.ref l,H,I,rfl,q1 rfl⟩
 ·by_cases e0:k=0
  ·subst e0;refine call_meets F.slot_tuple_mul ⟨_,ho,rfl⟩ F.entry_tuple_mul (F.args_tuple_mul_2 _ _) (VD l w n dd sl t) ⟨ho,.ref s.heap.objs.size,_,I.laid (t':=s.toks) (o:=.tup (List.replicate (0:Int).toNat z)) (fun b ob q=>wIa _ q) (wPa _) ?_,rfl,q2 e1 _ (I.hok.fresh (wPa _))⟩;exact⟨Nat.zero_le _,[],.nil,IsTup.new _ _⟩
  ·refine call_meets F.slot_tuple_mul ⟨_,ho,rfl⟩ F.entry_tuple_mul (F.args_tuple_mul_2 _ _) (uq l w n dd sl k t (by omega) h2) ⟨ho,?_⟩;rw[Vb];refine⟨.ref s.heap.objs.size,_,I.laid (t':=s.toks) (o:=.tup (List.replicate k.toNat z)) (fun b ob q=>wIa _ q) (wPa _) ?_,rfl,q2 e1 _ (I.hok.fresh (wPa _))⟩;exact⟨by rw[List.length_replicate];exact AU (by omega),_,Uf rw' _,IsTup.new _ _⟩
@[simp] def yA:D->D->Option D
 | .int i,.int j=>WI (.int i) (.int j)
 | .tup [z],.int k=>if 0<=k/\k<=1000 then some (.tup (List.replicate k.toNat z))else none
 | _,_=>none
theorem Ug{H:Hp}{d:D}{v:V}(h:j5 K H d v):∀n:Nat,j3 K H (List.replicate n d) (List.replicate n v)
 | 0=>j3.nil
 | n+1=>by rw[List.replicate_succ,List.replicate_succ];exact j3.cons h (Ug h n)
theorem Xk:jM K (fun x y H Q=>rI vn (fun i j=>.int (i * j)) x y H Q∨GP K x y H Q) yA:=by
 intro O H a b d x y Q ha hb hn e q;unfold yA at e;split at e
 ·exact .inl (b9 O H _ _ d x y Q ha hb hn e q)
 ·split at e
  ·rename_i hk;cases e;right;obtain⟨p,xs,rfl,h1,h2⟩:=ha.tup;obtain⟨v,rfl,rv⟩:∃v,xs=[v]/\j5 K (j4 H O) _ v:=by
    rw[j3]at h2;obtain⟨v,r,rfl,a1,b1⟩:=h2;rw[j3]at b1;subst b1;exact⟨v,rfl,a1⟩
   refine⟨p,_,v,rfl,hb.int,h1,hk.1,hk.2,fun e1=>?_,fun _ p hp=>q _ _ (jp hp _) (Je (hn p hp) hp (Ug rv _))⟩;refine q _ H (j1.refl H) ?_;subst e1;rcases ha with ha | ⟨_,o,_,z,_⟩
   ·exact ha
   ·cases o <;> cases z
  ·cases e
 ·cases e
theorem Qa:jt X (binaryOp .Mult) (fun x y H Q=>rI vn (fun i j=>.int (i * j)) x y H Q∨GP X.K x y H Q):=xj.or Q9
theorem Qb:jt X (binaryOp .Add) (fun x y H Q=>Yg (fun i j=>.int (i+j)) x y H Q∨(fun x y H Q=>Gz X.K x y H Q∨(fun x y H Q=>∃i j,x=.str i/\y=.str j/\i.length+j.length<=sizeLine/\Q (.str (i++j)) H) x y H Q) x y H Q):=xh.or (qO.or Gr)
end
mutual
noncomputable def Z5:D->D->Option Bool
 | .tup l,.tup m=>(YC l m).bind fun b=>some (b&&l.length==m.length)
 | .lst l,.lst m=>if l.length=m.length then YC l m else some false
 | .non,.non=>some true
 | .non,.tup _=>some false
 | .tup _,.non=>some false
 | .int a,.int b=>some (a==b)
 | .bl a,.bl b=>some (a==b)
 | .str a,.str b=>some (a==b)
 | _,_=>none
noncomputable def YC:List D->List D->Option Bool
 | [],_=>some true
 | _::_,[]=>some true
 | a::l,b::m=>(Z5 a b).bind fun x=>(YC l m).bind fun y=>some (x&&y)
end
mutual
@[simp] noncomputable def dep:D->Nat
 | .tup l=>YD l+1
 | .lst l=>YD l+1
 | _=>0
@[simp] noncomputable def YD:List D->Nat
 | []=>0
 | d::ds=>max (dep d) (YD ds)
end
theorem D.ind{P:D->Prop}(h:∀d,(∀l,d=.tup l->∀x∈l,P x)->(∀l,d=.lst l->∀x∈l,P x)->P d)(d:D):P d:=
 h d (fun l e x hx=>D.ind h x) (fun l e x hx=>D.ind h x)
termination_by sizeOf d
decreasing_by
 all_goals (subst e;have:=List.sizeOf_lt_of_mem hx;simp;omega)
theorem vB:∀{l:List D} {d:D},d∈l->dep d<=YD l
 | e::l,d,h=>by
  rw[YD];rcases List.mem_cons.mp h with rfl | h
  ·exact Nat.le_max_left _ _
  ·exact wSa (vB h) (Nat.le_max_right _ _)
section
variable {X:Cx} {K:Fr}
open PySem.SeqAt
theorem in1_units{A:Around}:A.in1.units=A.units+1:=rfl
variable {pins:List (Addr×Obj)} {σ:L2.St} {H:Hp} {s:Shared}
theorem Vc(ih:∀d∈l,∀{d':D} {x:V} {r:Bool},j5 K H d x->j5 K H d' x->Z5 d d'=some r->r=true):∀{m:List D} {xs:List V} {r:Bool},j3 K H l xs->j3 K H m xs->YC l m=some r->r=true:=by
 induction l with
 | nil=>intro m xs r _ _ e;rw[YC]at e;cases e;rfl
 | cons a l il=>
  intro m xs r h1 h2 e;cases m with
  | nil=>rw[YC]at e;cases e;rfl
  | cons b m=>
   rw[YC]at e;obtain⟨x,e1,e⟩:=j0 e;obtain⟨y,e2,e⟩:=j0 e;cases e;rw[j3]at h1 h2;obtain⟨v,t,rfl,a1,b1⟩:=h1;obtain⟨v',t',e',a2,b2⟩:=h2;cases e';rw[ih a List.mem_cons_self a1 a2 e1,il (fun d hd=>ih d (List.mem_cons_of_mem _ hd)) b1 b2 e2];rfl
theorem u8(I:Inv X pins σ H s)(d:D):∀{d':D} {x:V} {r:Bool},j5 X.K H d x->j5 X.K H d' x->Z5 d d'=some r->r=true:=by
 induction d using D.ind with
 | h d i1 i2=>
  intro d' x r h1 h2 e;unfold Z5 at e;split at e
  ·obtain⟨b,e1,e2⟩:=j0 e;cases e2;rw[j5]at h1 h2;obtain⟨a,xs,rfl,qa,ra⟩:=h1;obtain⟨b',ys,e',qb,rb⟩:=h2;cases e';have exy:=I.tuple_inj qa qb;subst exy;rw[Vc (fun d hd=>i1 _ rfl d hd) ra rb e1,<-ra.len,<-rb.len,beq_self_eq_true];rfl
  ·rw[j5]at h1 h2;obtain⟨a,xs,rfl,qa,ra⟩:=h1;obtain⟨b',ys,e',qb,rb⟩:=h2;cases e';rw[qa]at qb;cases qb;rw[if_pos (by rw[<-ra.len,<-rb.len])]at e;exact Vc (fun d hd=>i2 _ rfl d hd) ra rb e
  ·cases e;rfl
  ·rw[j5]at h1;rw[j5]at h2;obtain⟨b',ys,e',qb,rb⟩:=h2;rw[h1]at e';cases e'
  ·rw[j5]at h1;rw[j5]at h2;obtain⟨b',ys,e',qb,rb⟩:=h1;rw[h2]at e';cases e'
  ·cases e;rw[j5]at h1 h2;rw[h1]at h2;cases h2;simp
  ·cases e;rw[j5]at h1 h2;rw[h1]at h2;cases h2;simp
  ·cases e;rw[j5]at h1 h2;rw[h1]at h2;cases h2;simp
  ·cases e
theorem uD{l:List D}(ih:∀d∈l,∀{d':D} {x y:V} {u v:Value} {A:Around} {r:Bool},Z5 d d'=some r->j5 K H d x->j5 K H d' y->jh x u->jh y v->A.units+dep d < cLine->EqAt A s u v r):∀{m:List D} {xs ys:List V} {us vs:List Value} {A:Around} {r:Bool},YC l m=some r->j3 K H l xs->j3 K H m ys->jb xs us->jb ys vs->A.units+YD l < cLine->
  ∃e:Nat->Bool,(∀(j:Nat) (h1:j < us.length) (h2:j < vs.length),EqAt A s us[j] vs[j] (e j))/\(List.range (min l.length m.length)).all e=r:=by
 induction l with
 | nil=>
  intro m xs ys us vs A r e h1 h2 v1 v2 hu;rw[YC]at e;cases e;rw[j3]at h1;subst h1;cases v1;exact⟨fun _=>true,fun j h1 _=>vDa h1 (by simp),by simp⟩
 | cons a l il=>
  intro m xs ys us vs A r e h1 h2 v1 v2 hu;cases m with
  | nil=>
   rw[YC]at e;cases e;rw[j3]at h2;subst h2;cases v2;exact⟨fun _=>true,fun j _ h2=>vDa h2 (by simp),by simp⟩
  | cons b m=>
   rw[YC]at e;obtain⟨x,e1,e⟩:=j0 e;obtain⟨y,e2,e⟩:=j0 e;cases e;rw[j3]at h1 h2;obtain⟨v,t,rfl,a1,b1⟩:=h1;obtain⟨v',t',rfl,a2,b2⟩:=h2;rw[YD]at hu;cases v1 with
   | cons r1 rr1=>
    cases v2 with
    | cons r2 rr2=>
     obtain⟨e',q1,q2⟩:=il (fun d hd=>ih d (wMa _ hd)) e2 b1 b2 rr1 rr2 (A:=A) (by omega);refine⟨fun j=>match j with | 0=>x | j+1=>e' j,fun j h1 h2=>?_,?_⟩
     ·cases j with
      | zero=>exact ih a wNa e1 a1 a2 r1 r2 (by omega)
      | succ j=>exact q1 j (by simpa using h1) (by simpa using h2)
     ·rw[List.length_cons,List.length_cons,Nat.succ_min_succ,List.range_succ_eq_map,List.all_cons,List.all_map];rw[<-q2];rfl
theorem Xl(I:Inv X pins σ H s)(d:D):∀{d':D} {x y:V} {u v:Value} {A:Around} {r:Bool},Z5 d d'=some r->j5 X.K H d x->j5 X.K H d' y->jh x u->jh y v->A.units+dep d < cLine->EqAt A s u v r:=by
 induction d using D.ind with
 | h d i1 i2=>
  intro d' x y u v A r e hx hy rx ry hu;have e0:=e;unfold Z5 at e;split at e
  ·obtain⟨b,e1,e2⟩:=j0 e;cases e2;have hx0:=hx;have hy0:=hy;rw[j5]at hx hy;obtain⟨a,xs,rfl,qa,ra⟩:=hx;obtain⟨b',ys,rfl,qb,rb⟩:=hy;cases rx;cases ry;rw[dep]at hu;by_cases hab:a=b'
   ·subst hab;have:=u8 I _ hx0 hy0 e0;rw[this];exact EqAt.same _
   ·obtain⟨ia,va,pa,_⟩:=I.tuple qa;obtain⟨ib,vb,pb,_⟩:=I.tuple qb;have la:=(List.size_toArray (as:=ia)).trans (va.length.symm.trans ra.len);have lb:=(List.size_toArray (as:=ib)).trans (vb.length.symm.trans rb.len);obtain⟨e',h1,h2⟩:=uD (fun d hd=>i1 _ rfl d hd) e1 ra rb va vb (A:=A.in1) (by rw[in1_units];omega);have key:=RcAt.tuples (A:=A) (s:=s) (l:=a) (b:=b') (items:=ia.toArray) (items2:=ib.toArray) (e:=e') pa pb (by omega) (fun j h1' h2'=>by simpa using h1 j (by simpa using h1') (by simpa using h2'));rw[la,lb,h2]at key;exact EqAt.of_refs hab key
  ·have hx0:=hx;have hy0:=hy;rw[j5]at hx hy;obtain⟨a,xs,rfl,qa,ra⟩:=hx;obtain⟨b',ys,rfl,qb,rb⟩:=hy;cases rx;cases ry;rw[dep]at hu;by_cases hab:a=b'
   ·subst hab;have:=u8 I _ hx0 hy0 e0;rw[this];exact EqAt.same _
   ·obtain⟨ia,va,pa,_⟩:=I.list (jj.of qa);obtain⟨ib,vb,pb,_⟩:=I.list (jj.of qb);have la:=(List.size_toArray (as:=ia)).trans (va.length.symm.trans ra.len);have lb:=(List.size_toArray (as:=ib)).trans (vb.length.symm.trans rb.len);split at e
    ·rename_i ell;obtain⟨e',h1,h2⟩:=uD (fun d hd=>i2 _ rfl d hd) e ra rb va vb (A:=A.in1) (by rw[in1_units];omega);have key:=RcAt.lists (A:=A) (s:=s) (l:=a) (b:=b') (items:=ia.toArray) (items2:=ib.toArray) (e:=e') pa.isList pb.isList (by rw[la,lb,ell]) (by omega) (fun j h1' h2'=>by simpa using h1 j (by simpa using h1') (by simpa using h2'));rw[la]at key;rw[<-ell,Nat.min_self]at h2;rw[h2]at key;exact EqAt.of_refs hab key
    ·rename_i ell;cases e;exact EqAt.of_refs hab (RcAt.lists_lengths pa.isList pb.isList (by rw[la,lb];simpa using ell) (by omega))
  ·cases e;rw[j5]at hx hy;subst hx hy;cases rx;cases ry;exact EqAt.same _
  ·cases e;rw[j5]at hx;rw[j5]at hy;subst hx;cases rx;obtain⟨b',ys,rfl,qb,rb⟩:=hy;cases ry;obtain⟨ib,vb,pb,_⟩:=I.tuple qb;exact EqAt.none_tuple pb (by omega)
  ·cases e;rw[j5]at hx;rw[j5]at hy;subst hy;cases ry;obtain⟨b',ys,rfl,qb,rb⟩:=hx;cases rx;obtain⟨ib,vb,pb,_⟩:=I.tuple qb;exact EqAt.tuple_none pb (by omega)
  ·cases e;rw[j5]at hx hy;subst hx hy;obtain⟨t,rfl⟩:=rx;obtain⟨t',rfl⟩:=ry;exact EqAt.int_int _ _ _ _
  ·cases e;rw[j5]at hx hy;subst hx hy;cases rx;cases ry;exact EqAt.bool_bool _ _
  ·cases e;rw[j5]at hx hy;subst hx hy;obtain⟨t,rfl⟩:=rx;obtain⟨t',rfl⟩:=ry;exact EqAt.str_str _ _ _ _
  ·cases e
@[simp] noncomputable def VF:D->D->Bool
 | .lst _,.lst _=>true
 | .tup _,.tup _=>true
 | _,_=>false
def vC(K:Fr)(neg:Bool):R2:=fun x y H Q=>∃d d' r,j5 K H d x/\j5 K H d' y/\VF d d'=true/\Z5 d d'=some r/\dep d<=20/\Q (.bl (if neg then !r else r)) H
theorem Xm(I:Inv X pins σ H s){d d':D}{x y:V}{u v:Value}{A:Around}{r:Bool}(e:Z5 d d'=some r)(q:VF d d'=true)(hx:j5 X.K H d x)(hy:j5 X.K H d' y)(rx:jh x u)(ry:jh y v)(hu:A.units+dep d < cLine):RcAt A s u v r/\RcNeAt A s u v (!r):=by
 unfold VF at q;split at q
 ·rw[j5]at hx hy;obtain⟨a,xs,rfl,qa,ra⟩:=hx;obtain⟨b',ys,rfl,qb,rb⟩:=hy;cases rx;cases ry;rw[dep]at hu;rw[Z5]at e;obtain⟨ia,va,pa,_⟩:=I.list (jj.of qa);obtain⟨ib,vb,pb,_⟩:=I.list (jj.of qb);have la:=(List.size_toArray (as:=ia)).trans (va.length.symm.trans ra.len);have lb:=(List.size_toArray (as:=ib)).trans (vb.length.symm.trans rb.len);split at e
  ·rename_i ell;obtain⟨e',h1,h2⟩:=uD (fun d _=>Xl I d) e ra rb va vb (A:=A.in1) (by rw[in1_units];omega);have key:=RcAt.lists (A:=A) (s:=s) (l:=a) (b:=b') (items:=ia.toArray) (items2:=ib.toArray) (e:=e') pa.isList pb.isList (by rw[la,lb,ell]) (by omega) (fun j h1' h2'=>by simpa using h1 j (by simpa using h1') (by simpa using h2'));have key2:=RcNeAt.lists (A:=A) (s:=s) (l:=a) (b:=b') (items:=ia.toArray) (items2:=ib.toArray) (e:=e') pa.isList pb.isList (by rw[la,lb,ell]) (by omega) (fun j h1' h2'=>by simpa using h1 j (by simpa using h1') (by simpa using h2'));rw[la]at key key2;rw[<-ell,Nat.min_self]at h2;rw[h2]at key key2;exact⟨key,key2⟩
  ·rename_i ell;cases e;exact⟨RcAt.lists_lengths pa.isList pb.isList (by rw[la,lb];simpa using ell) (by omega),RcNeAt.lists_lengths pa.isList pb.isList (by rw[la,lb];simpa using ell) (by omega)⟩
 ·rw[j5]at hx hy;obtain⟨a,xs,rfl,qa,ra⟩:=hx;obtain⟨b',ys,rfl,qb,rb⟩:=hy;cases rx;cases ry;rw[dep]at hu;rw[Z5]at e;obtain⟨b,e1,e2⟩:=j0 e;cases e2;obtain⟨ia,va,pa,_⟩:=I.tuple qa;obtain⟨ib,vb,pb,_⟩:=I.tuple qb;have la:=(List.size_toArray (as:=ia)).trans (va.length.symm.trans ra.len);have lb:=(List.size_toArray (as:=ib)).trans (vb.length.symm.trans rb.len);obtain⟨e',h1,h2⟩:=uD (fun d _=>Xl I d) e1 ra rb va vb (A:=A.in1) (by rw[in1_units];omega);have key:=RcAt.tuples (A:=A) (s:=s) (l:=a) (b:=b') (items:=ia.toArray) (items2:=ib.toArray) (e:=e') pa pb (by omega) (fun j h1' h2'=>by simpa using h1 j (by simpa using h1') (by simpa using h2'));have key2:=RcNeAt.tuples (A:=A) (s:=s) (l:=a) (b:=b') (items:=ia.toArray) (items2:=ib.toArray) (e:=e') pa pb (by omega) (fun j h1' h2'=>by simpa using h1 j (by simpa using h1') (by simpa using h2'));rw[la,lb,h2]at key key2;exact⟨key,key2⟩
 ·cases q
theorem Xn{k:Nat}(hr:Room k X.A):jt X (compareOp .Eq) (vC X.K false):=by
 intro pins s σ H x y v u Q I rx ry h;obtain⟨d,d',r,hx,hy,q,e,hd,qq⟩:=h;have hu:=hr.units;exact(Xm (A:=X.A) I e q hx hy rx ry (by omega)).1 X.prog X.w X.xe _ ⟨.bl r,H,I,rfl,qq⟩
theorem Xo{k:Nat}(hr:Room k X.A):jt X (compareOp .NotEq) (vC X.K true):=by
 intro pins s σ H x y v u Q I rx ry h;obtain⟨d,d',r,hx,hy,q,e,hd,qq⟩:=h;have hu:=hr.units;exact(Xm (A:=X.A) I e q hx hy rx ry (by omega)).2 X.prog X.w X.xe _ ⟨.bl (!r),H,I,rfl,qq⟩
@[simp] def GQ(neg:Bool):D->D->Option D:=fun a b=>if VF a b=true/\dep a<=20 then(Z5 a b).bind fun r=>some (.bl (if neg then !r else r))else none
theorem WW{neg:Bool}:jM K (vC K neg) (GQ neg):=by
 intro O H a b d x y Q ha hb hn e q;unfold GQ at e;split at e
 ·rename_i hh;obtain⟨r,e1,e2⟩:=j0 e;cases e2;exact⟨a,b,r,ha.full,hb.full,hh.1,e1,hh.2,q _ H (j1.refl H) (by rw[j5])⟩
 ·cases e
@[simp] def u9(a b:D):Option D:=if VF a b=true then GQ false a b else U6 a b
@[simp] def zA(a b:D):Option D:=if VF a b=true then GQ true a b else wj a b
theorem Ca:jM K (fun x y H Q=>Wq x y H Q∨vC K false x y H Q) u9:=by
 intro O H a b d x y Q ha hb hn e q;unfold u9 at e;split at e
 ·exact .inr (WW O H a b d x y Q ha hb hn e q)
 ·exact .inl (bg O H a b d x y Q ha hb hn e q)
theorem Cb:jM K (fun x y H Q=>Wr x y H Q∨vC K true x y H Q) zA:=by
 intro O H a b d x y Q ha hb hn e q;unfold zA at e;split at e
 ·exact .inr (WW O H a b d x y Q ha hb hn e q)
 ·exact .inl (bi O H a b d x y Q ha hb hn e q)
theorem Xp{k:Nat}(hr:Room k X.A):jt X (compareOp .Eq) (fun x y H Q=>Wq x y H Q∨vC X.K false x y H Q):=AG.or (Xn hr)
theorem Xq{k:Nat}(hr:Room k X.A):jt X (compareOp .NotEq) (fun x y H Q=>Wr x y H Q∨vC X.K true x y H Q):=AH.or (Xo hr)
@[simp] noncomputable def WX:D->Option V
 | .non=>some .non
 | .bl b=>some (.bl b)
 | .int i=>some (.int i)
 | .str s=>some (.str s)
 | _=>none
@[simp] def Uh:List D->Option (List V)
 | []=>some []
 | d::ds=>(WX d).bind fun v=>(Uh ds).bind fun vs=>some (v::vs)
theorem kZ{H:Hp}{d:D}{v w:V}(e:WX d=some v)(h:j5 K H d w):w=v/\yI v=true:=by
 unfold WX at e;split at e <;> first | (cases e;rw[j5]at h;exact⟨h,rfl⟩) | cases e
theorem VG{H:Hp}:∀{l:List D} {vs xs:List V},Uh l=some vs->j3 K H l xs->xs=vs/\vs.all yI=true
 | [],vs,xs,e,h=>by cases e;rw[j3]at h;exact⟨h,rfl⟩
 | d::l,vs,xs,e,h=>by
  rw[Uh]at e;obtain⟨v,e1,e⟩:=j0 e;obtain⟨r,e2,e⟩:=j0 e;cases e;rw[j3]at h;obtain⟨w,t,rfl,a,b⟩:=h;obtain⟨h1,h2⟩:=kZ e1 a;obtain⟨h3,h4⟩:=VG e2 b;exact⟨by rw[h1,h3],by rw[List.all_cons,h2,h4];rfl⟩
@[simp] def k_(neg:Bool):D->D->Option D:=fun a b=>(WX a).bind fun v=>(yf b).bind fun l=>(Uh l).bind fun vs=>some (.bl (if neg then !kK v vs else kK v vs))
theorem Xr{neg:Bool}:jM K (xF K neg) (k_ neg):=by
 intro O H a b d x y Q ha hb hn e q;unfold k_ at e;obtain⟨v,e1,e⟩:=j0 e;obtain⟨l,e2,e⟩:=j0 e;obtain⟨vs,e3,e⟩:=j0 e;cases e;obtain⟨h1,h2⟩:=kZ e1 ha.full;subst h1;unfold yf at e2;split at e2
 ·cases e2;obtain⟨p,xs,rfl,g1,g2⟩:=hb.lst;obtain⟨h3,h4⟩:=VG e3 g2;subst h3;exact⟨p,xs,rfl,.inl (jj.of g1),h2,h4,q _ H (j1.refl H) (by rw[j5])⟩
 ·cases e2;obtain⟨p,xs,rfl,g1,g2⟩:=hb.tup;obtain⟨h3,h4⟩:=VG e3 g2;subst h3;exact⟨p,xs,rfl,.inr g1,h2,h4,q _ H (j1.refl H) (by rw[j5])⟩
 ·cases e2
@[simp] noncomputable def WY:D->Option Kd
 | .int _=>some .i
 | .bl _=>some .b
 | .str _=>some .s
 | .lst _=>some .l
 | .tup _=>some .t
 | _=>none
theorem WZ{O:List Addr}{d:D}{v:V}{k:Kd}(e:WY d=some k)(h:RB K O H d v):we K H v k:=by
 unfold WY at e;split at e
 ·cases e;rw[h.int];trivial
 ·cases e;rw[h.bl];trivial
 ·cases e;rw[h.str];trivial
 ·cases e;obtain⟨p,xs,rfl,g1,g2⟩:=h.lst;exact⟨xs,jj.of g1⟩
 ·cases e;obtain⟨p,xs,rfl,g1,g2⟩:=h.tup;exact⟨xs,g1⟩
 ·cases e
variable {e:Expr} {de:DE} {pos p p1 p2 tp:Pos}
@[simp] def Y4(T:String):D->Option D:=fun d=>(WY d).bind fun k=>(vY k T).bind fun b=>some (.bl b)
theorem bO{T:String}{e2:Expr}(h:PE X (.Call (.Name "isinstance" p) [e,e2] [] pos) (kH (xK X.K) (yb (tR K de) (yb (tC (.ty T)) zJ))))(hK:X.K=K:=by rfl):PE X (.Call (.Name "isinstance" p) [e,e2] [] pos) (tE K (d1 (Y4 T) de)):=jk h fun σ H Q xx=>by
 obtain⟨H0,O0,ρ,O,d,R,ed,q⟩:=xx;subst hK;obtain⟨x,e1,e2⟩:=j0 ed;obtain⟨k,e3,e2⟩:=j0 e2;obtain⟨b,e4,e2⟩:=j0 e2;cases e2;exact⟨H0,O0,ρ,O,x,R,e1,fun v H' s r=>⟨v,T,k,b,rfl,WZ e3 r,e4,q _ H' s (by rw[j5])⟩⟩
@[simp] def GR:D->Option D:=fun d=>(WY d).bind fun k=>some (.bl (zL k))
theorem Xs{ex:Expr}(h:PE X ex (WC X.K (tR K de)))(hK:X.K=K:=by rfl):PE X ex (tE K (d1 GR de)):=jk h fun σ H Q xx=>by
 obtain⟨H0,O0,ρ,O,d,R,ed,q⟩:=xx;subst hK;obtain⟨x,e1,e2⟩:=j0 ed;obtain⟨k,e3,e2⟩:=j0 e2;cases e2;exact⟨H0,O0,ρ,O,x,R,e1,fun v H' s r=>⟨k,WZ e3 r,fun p hp=>q _ _ (s.trans (jp hp _)) (by rw[j5])⟩⟩
end
@[simp] noncomputable def YY(f:Str)(d:D):List Str->List D->List Str×List D
 | g::ns,x::xs=>if g=f then(g::ns,d::xs)else((g::(YY f d ns xs).1),x::(YY f d ns xs).2)
 | _,_=>([f],[d])
section
variable {X:Cx} {K:Fr}
theorem Ui{H:Hp}{f:Str}{d:D}{v:V}(r:j5 K H d v):∀{ns:List Str} {ds:List D} {vs:List V},ns.length=vs.length->j3 K H ds vs->∃vs',Jy f v (ns.zip vs)=(YY f d ns ds).1.zip vs'/\(YY f d ns ds).1.length=vs'.length/\j3 K H (YY f d ns ds).2 vs'
 | [],ds,vs,h,rp=>by
  have e:vs=[]:=List.length_eq_zero_iff.mp h.symm;subst e;have e:ds=[]:=by have:=rp.len;exact List.length_eq_zero_iff.mp this.symm
  subst e;exact⟨[v],rfl,rfl,j3.cons r j3.nil⟩
 | g::ns,[],vs,h,rp=>by rw[j3]at rp;subst rp;cases h
 | g::ns,x::ds,vs,h,rp=>by
  rw[j3]at rp;obtain⟨w,t,rfl,a,b⟩:=rp;rw[YY];by_cases e:g=f
  ·rw[if_pos e];refine⟨v::t,?_,by simpa using h,j3.cons r b⟩;show(if g=f then(g,v)::ns.zip t else _)=_;rw[if_pos e];rfl
  ·rw[if_neg e];obtain⟨vs',q1,q2,q3⟩:=Ui (f:=f) r (ns:=ns) (ds:=ds) (vs:=t) (by simpa using h) b;refine⟨w::vs',?_,by simpa using q2,j3.cons a q3⟩;show(if g=f then _ else(g,w)::Jy f v (ns.zip t))=_;rw[if_neg e,q1];rfl
variable {e o:Expr} {de:DE} {pos pos':Pos} {st:Stmt}
@[simp] def YZ(i:Nat)(C:Addr)(f:Str)(de:DE)(ρ:j7):Option Rs:=match ρ[i]? with
 | some (.ow q (.ins C' ns ds))=>if C'=C/\ns.length < 1000 then(de ρ).bind fun d=>some (.nx (ρ.set i (.ow q (.ins C' (YY f d ns ds).1 (YY f d ns ds).2))))else none
 | _=>none
theorem Xu{i:Nat}{C:Addr}{f:Str}(h:PS X st (xr X.K (yu i) (tE K de) f))(c:Cls K C)(n:JE K C f)(hK:X.K=K:=by rfl):PS X st (tS K (YZ i C f de)):=jO h fun D σ H xx=>by
 obtain⟨H0,O0,ρ,O,r,R,ed,fi⟩:=xx;subst hK;unfold YZ at ed;split at ed
 ·rename_i q C' ns ds hi;split at ed
  ·rename_i hh;obtain⟨rfl,hlen⟩:=hh;obtain⟨d,e1,e2⟩:=j0 ed;cases e2;obtain⟨l,hq,hs,⟨dx,vs,hl,hn,rp⟩,lo,h0⟩:=R.ow i _ _ hi;refine⟨H0,O0,ρ,O,d,R,e1,fun v H1 s1 rv=>⟨_,hs,l,_,dx,_,rfl,s1 _ _ hl,c,n,?_,?_⟩⟩
   ·rw[List.length_zip,<-hn,Nat.min_self];exact hlen
   have R':=R.grow s1;obtain⟨vs',p1,p2,p3⟩:=Ui (f:=f) rv hn (rp.same (j9 s1));refine fi _ _ O (R'.change hi hq hs lo h0 ⟨dx,vs',by rw[jx,p1],p2,p3⟩) ?_;rw[J5 lo];exact j9 s1
  ·cases ed
 ·cases ed
@[simp] noncomputable def zP(ks:List Bool)(ds:List D)(n:Nat):j7:=List.zipWith (fun k d=>if k=true then Sl.cl d else Sl.bo d) ks ds++List.replicate n .un
theorem JC.get{O:List Addr}{H:Hp}:∀{ks:List Bool} {ds:List D} {vs:List V} {i:Nat} {d:D},JC K O H ks ds vs->ds[i]?=some d->∃k v,ks[i]?=some k/\vs[i]?=some v/\AK K O H k d v
 | [],[],[],_,_,_,e=>by simp at e
 | k::_,d::_,v::_,0,_,h,e=>by simp at e;subst e;exact⟨k,v,rfl,rfl,h.1⟩
 | k::_,d::_,v::_,i+1,d',h,e=>by
  obtain⟨k',v',h1,h2,h3⟩:=JC.get (i:=i) h.2 (by simpa using e);exact⟨k',v',by simpa using h1,by simpa using h2,h3⟩
 | [],[],_::_,_,_,h,_=>h.elim
 | [],_::_,_,_,_,h,_=>h.elim
 | _::_,[],_,_,_,h,_=>h.elim
 | _::_,_::_,[],_,_,h,_=>h.elim
theorem JG{O:List Addr}{H:Hp}{ks:List Bool}{ds:List D}{vs:List V}{n i:Nat}{s:Sl}(h:JC K O H ks ds vs)(hs:s≠.un)(e:(zP ks ds n)[i]?=some s):∃k d v,vs[i]?=some v/\AK K O H k d v/\s=(if k=true then Sl.cl d else Sl.bo d):=by
 unfold zP at e;have hl:=h.len;by_cases hi:i < ds.length
 ·rw[List.getElem?_append_left (by rw[List.length_zipWith];omega),List.getElem?_zipWith]at e;have hd:ds[i]?=some ds[i]:=by simp[hi]
  obtain⟨k,v,h1,h2,h3⟩:=h.get hd;rw[h1,hd]at e;cases e;exact⟨k,_,v,h2,h3,rfl⟩
 ·rw[List.getElem?_append_right (by rw[List.length_zipWith];omega),List.getElem?_replicate]at e;split at e
  ·cases e;exact vDa rfl hs
  ·cases e
theorem wu{O:List Addr}{H:Hp}{ks:List Bool}{ds:List D}{vs:List V}{n:Nat}(h:JC K O H ks ds vs)(al:∀a∈O,H a≠none):Rel K H O (zP ks ds n) (vs.map some++List.replicate n none) H O:=by
 have hl:=h.len;have at':∀{i:Nat} {v:V},vs[i]?=some v->(vs.map some++List.replicate n none)[i]?=some (some v):=fun {i v} e=>by
  have:=(List.getElem?_eq_some_iff.mp e).1;rw[List.getElem?_append_left (by rw[List.length_map];exact this),List.getElem?_map,e];rfl
 refine⟨?_,fun a h=>h,fun a h=>.inl h,al,al,j1.refl _,?_,?_,?_,?_,?_⟩
 ·unfold zP;rw[List.length_append,List.length_append,List.length_map,List.length_replicate,List.length_replicate,List.length_zipWith];omega
 ·intro i d e;obtain⟨k,d',v,h1,h2,h3⟩:=JG h (by intro z;cases z) e;cases k with
  | true=>cases h3;exact⟨v,at' h1,h2⟩
  | false=>cases h3
 ·intro i d e;obtain⟨k,d',v,h1,h2,h3⟩:=JG h (by intro z;cases z) e;cases k with
  | true=>cases h3
  | false=>cases h3;exact⟨v,at' h1,h2⟩
 ·intro i q o e;obtain⟨k,d',v,h1,h2,h3⟩:=JG h (by intro z;cases z) e;cases k <;> cases h3
 ·intro i j q q' o o' l e;obtain⟨k,d',v,h1,h2,h3⟩:=JG h (by intro z;cases z) e;cases k <;> cases h3
 ·intro i q0 ls e;obtain⟨k,d',v,h1,h2,h3⟩:=JG h (by intro z;cases z) e;cases k <;> cases h3
@[simp] def yq(ks:List Bool)(n:Nat)(body:DS):List D->Option D:=fun ds=>(body (zP ks ds n)).bind fun r=>match r with
 | .rt d=>some d
 | .rf o=>some o.toD
 | .nx _=>some .non
 | _=>none
@[simp] def Zt(ks:List Bool)(n:Nat)(body:DS):List D->Option OD:=fun ds=>(body (zP ks ds n)).bind fun r=>match r with
 | .rf o=>some o
 | _=>none
@[simp] def K0(C:Addr)(ks:List Bool)(n:Nat)(body:DS):Addr->List D->Option OD:=fun p ds=>(body (.ow (some p) (.ins C [] [])::zP ks ds n)).bind fun r=>match r with
 | .nx ρ=>(match (ρ[0]?:Option Sl)with
  | some (Sl.ow q o)=>if q=some p then some o else none
  | _=>none)
 | _=>none
variable {P:Program} {w:World} {mg:Str->Option Value} {base:Heap} {x qual:Str} {f:Addr} {fd:FuncData} {N ps:List Str} {k n:Nat} {ks:List Bool} {body:DS}
theorem Cd(F:Fun K x qual st f fd)(S:FnScope N ps (defScope st))(hk:ks.length=ps.length)(hn:N.length - ps.length=n)
  (hb:∀(cdv:Value) (A:Around) (outer:List Env) (s:Shared) (H:Hp) (E:XK),Room k (A.deeper (envOfC qual (defScope st) s.heap.objs.size f cdv))->jy (Y1 JB P w K mg base N qual (defScope st) f cdv A outer s H E).nox (defBody st) (tS K body)):
  FnOk P w K mg base JB (k+1) f fd ps (V8 K ks (yq ks n body)):=by
 refine F.ok S (fun vs H Q E h=>?_) fun cdv A outer s H vs Q E hr h=>?_
 ·obtain⟨O,ds,d,_,ak,_⟩:=h;have:=ak.len;omega
 ·obtain⟨O,ds,d,al,ak,e,q⟩:=h;refine⟨_,hb cdv A outer s H E hr,?_⟩;obtain⟨r,e1,e2⟩:=j0 e;have hl:N.length - vs.length=n:=by have:=ak.len;omega
  unfold L2.start;rw[hl];refine⟨H,O,_,O,r,wu ak al,e1,?_⟩;cases r with
  | rt d'=>cases e2;exact fun v H' s r=>q v H' s r
  | rf o=>
   cases e2;exact fun l H' s hl ow=>q _ H' s ((ow.same (fun _ z=>z) (jP fun a h=>wMa _ h)).rep fun u z=>by rw[jq (fun y=>al l y hl)];exact z)
  | nx ρ=>cases e2;exact fun σ' H' O' R' _=>q _ H' R'.keep (by rw[j5])
  | bk ρ=>cases e2
  | ct ρ=>cases e2
theorem Ce(F:Fun K x qual st f fd)(S:FnScope N ps (defScope st))(hk:ks.length=ps.length)(hn:N.length - ps.length=n)
  (hb:∀(cdv:Value) (A:Around) (outer:List Env) (s:Shared) (H:Hp) (E:XK),Room k (A.deeper (envOfC qual (defScope st) s.heap.objs.size f cdv))->jy (Y1 JB P w K mg base N qual (defScope st) f cdv A outer s H E).nox (defBody st) (tS K body)):
  FnOk P w K mg base JB (k+1) f fd ps (gM K ks (Zt ks n body)):=by
 refine F.ok S (fun vs H Q E h=>?_) fun cdv A outer s H vs Q E hr h=>?_
 ·obtain⟨O,ds,d,_,ak,_⟩:=h;have:=ak.len;omega
 ·obtain⟨O,ds,d,al,ak,e,q⟩:=h;refine⟨_,hb cdv A outer s H E hr,?_⟩;obtain⟨r,e1,e2⟩:=j0 e;have hl:N.length - vs.length=n:=by have:=ak.len;omega
  unfold L2.start;rw[hl];refine⟨H,O,_,O,r,wu ak al,e1,?_⟩;cases r with
  | rt d'=>cases e2
  | rf o=>cases e2;exact q
  | nx ρ=>cases e2
  | bk ρ=>cases e2
  | ct ρ=>cases e2
theorem Cf{C:Addr}(F:Fun K x qual st f fd)(S:FnScope N ps (defScope st))(hk:ks.length+1=ps.length)(hn:N.length - ps.length=n)
  (hb:∀(cdv:Value) (A:Around) (outer:List Env) (s:Shared) (H:Hp) (E:XK),Room k (A.deeper (envOfC qual (defScope st) s.heap.objs.size f cdv))->jy (Y1 JB P w K mg base N qual (defScope st) f cdv A outer s H E).nox (defBody st) (tS K body)):
  FnOk P w K mg base JB (k+1) f fd ps (WR K C ks (K0 C ks n body)):=by
 refine F.ok S (fun vs H Q E h=>?_) fun cdv A outer s H vs Q E hr h=>?_
 ·obtain⟨O,ds,p,dx,vs',o,rfl,_,_,_,ak,_⟩:=h;have:=ak.len;rw[List.length_cons];omega
 ·obtain⟨O,ds,p,dx,vs',o,rfl,al,hp,hpO,ak,e,q⟩:=h;refine⟨_,hb cdv A outer s H E hr,?_⟩;obtain⟨r,e1,e2⟩:=j0 e;have hl:N.length - (V.ref p::vs').length=n:=by have:=ak.len;rw[List.length_cons];omega
  unfold L2.start;rw[hl];have al':∀a∈O,j4 H [p] a≠none:=fun a ha=>by
   rw[jq (by intro z;simp at z;exact hpO (z▸ha))];exact al a ha
  have R0:=wu (n:=n) ak al';have np:j4 H [p] p=none:=Yq wNa;have sH:j1 (j4 H [p]) H:=yx;have sd:j1 (j4 (j4 H [p]) O) (j4 H (p::O)):=fun b u z=>by
   obtain⟨z1,z2⟩:=jL z;obtain⟨z3,z4⟩:=jL z2;rw[jq (by intro y;rcases List.mem_cons.mp y with y | y;exact z3 (by rw[y];exact List.mem_cons_self);exact z1 y)];exact z4
  have R:Rel K (j4 H [p]) O (.ow (some p) (.ins C [] [])::zP ks ds n) (List.map some (V.ref p::vs')++List.replicate n none) H (p::O):=by
   refine⟨?_,fun a h=>wMa _ h,?_,al',?_,sH,?_,?_,?_,?_,?_⟩
   ·have:=R0.len;rw[List.length_cons,List.map_cons,List.cons_append,List.length_cons,this]
   ·intro a ha;rcases List.mem_cons.mp ha with rfl | ha
    ·exact .inr np
    ·exact .inl ha
   ·intro a ha;rcases List.mem_cons.mp ha with rfl | ha
    ·rw[hp];exact fun z=>nomatch z
    ·exact al a ha
   ·intro i d e;cases i with
    | zero=>cases e
    | succ i=>
     obtain⟨v,h1,h2⟩:=R0.cl i d e;exact⟨v,h1,h2.same sd⟩
   ·intro i d e;cases i with
    | zero=>cases e
    | succ i=>exact R0.bo i d e
   ·intro i q' o' e;cases i with
    | zero=>
     cases e;exact⟨p,(fun p' z=>vFa z),rfl,⟨dx,[],hp,rfl,j3.nil⟩,wNa,np⟩
    | succ i=>
     obtain⟨k',d',v,_,_,h3⟩:=JG ak (by intro z;cases z) e;cases k' <;> cases h3
   ·intro i j q1 q2 o1 o2 l e e';have z:∀(i:Nat) (q':Option Addr) (o':OD),(Sl.ow (some p) (.ins C [] [])::zP ks ds n)[i]?=some (.ow q' o')->i=0:=fun i q' o' e=>by
     cases i with
     | zero=>rfl
     | succ i=>
      obtain⟨k',d',v,_,_,h3⟩:=JG ak (by intro z;cases z) e;cases k' <;> cases h3
    intro _ _;rw[z i _ _ e,z j _ _ e']
   ·intro i q0 ls e;cases i with
    | zero=>cases e
    | succ i=>
     obtain⟨k',d',v,_,_,h3⟩:=JG ak (by intro z;cases z) e;cases k' <;> cases h3
  refine⟨j4 H [p],O,_,p::O,r,R,e1,?_⟩;cases r with
  | nx ρ=>
   intro σ' H' O' R' _;have e2:(match (ρ[0]?:Option Sl)with
    | some (Sl.ow q o)=>if q=some p then some o else none
    | _=>none)=some o:=e2
   split at e2
   ·rename_i qq o' h0;split at e2
    ·rename_i hq;cases e2;subst hq;obtain⟨l,hl2,_,ow,lo,_⟩:=R'.ow 0 _ _ h0;have el:=hl2 p rfl;subst el;refine q H' R'.keep (ow.same (fun _ z=>z) (jP fun a ha=>?_));rcases List.mem_cons.mp ha with rfl | ha
     ·exact lo
     ·exact R'.sub a ha
    ·cases e2
   ·cases e2
  | rt d'=>cases e2
  | rf o=>cases e2
  | bk ρ=>cases e2
  | ct ρ=>cases e2
end
section
variable {K:Fr} {H0 H H':Hp} {O0 O:List Addr} {ρ:j7} {σ:L2.St}
theorem YE{F:List Addr}(s:j1 H H')(hn:∀a∈F,H a=none):j1 (j4 H O) (j4 H' (F++O)):=fun b o h=>by
 obtain⟨h1,h2⟩:=jL h;rw[jq fun z=>?_]
 ·exact s _ _ h2
 ·rcases List.mem_append.mp z with z | z
  ·rw[hn b z]at h2;cases h2
  ·exact h1 z
theorem Jz.there(R:Rel K H0 O0 ρ σ H O){a:Addr}:Jz ρ σ a->H a≠none:=fun xx=>by
 obtain⟨j,q,o,e,z⟩:=xx;obtain⟨l,_,h1,h2,_⟩:=R.ow j q o e;rw[z]at h1;cases h1;exact h2.there
theorem Rel.lay{F:List Addr}(R:Rel K H0 O0 ρ σ H O)(s:j1 H H')(hn:∀a∈F,H a=none)(hA:∀a∈F,H' a≠none):Rel K H0 O0 ρ σ H' (F++O) where
 len:=R.len
 sub:=fun a h=>vJa _ (R.sub a h)
 fr:=fun a ha=>(List.mem_append.mp ha).elim (fun z=>.inr (R.keep.none (hn a z))) (R.fr a)
 al0:=R.al0
 al:=fun a ha=>(List.mem_append.mp ha).elim (hA a) fun z y=>R.al a z (s.none y)
 keep:=R.keep.trans s
 cl:=fun i d e=>by obtain⟨v,a,b⟩:=R.cl i d e;exact⟨v,a,b.same (YE s hn)⟩
 bo:=R.bo
 ow:=fun i q o e=>by obtain⟨l,z,a,b,d,f⟩:=R.ow i q o e;exact⟨l,z,a,b.same (s l) (YE s hn),vJa _ d,f⟩
 dist:=R.dist
 lo:=R.lo.up (fun _ _ _ e=>⟨e,rfl⟩) (fun _ _ z=>z) (fun a h _=>⟨vJa _ h,fun u z=>s a u z⟩) (YE s hn)
theorem Rel.poke{a:Addr}{u:HO}(R:Rel K H0 O0 ρ σ H O)(nl:∀(i:Nat) (q:Option Addr) (ls:List (List D)),ρ[i]?≠some (.lo q ls))(ha:a∈O)(h0:H0 a=none)(nf:¬Jz ρ σ a):Rel K H0 O0 ρ σ (upd H a u) O where
 len:=R.len
 sub:=R.sub
 fr:=R.fr
 al0:=R.al0
 al:=fun b hb=>by
  by_cases z:b=a
  ·rw[z,jx];exact fun z=>nomatch z
  ·rw[jc z];exact R.al b hb
 keep:=R.keep.upd h0 _
 cl:=fun i d e=>by rw[J5 ha];exact R.cl i d e
 bo:=R.bo
 ow:=fun i q o e=>by
  obtain⟨l,z,h1,h2,h3⟩:=R.ow i q o e;rw[J5 ha];exact⟨l,z,h1,h2.same (fun u y=>by rw[jc fun w=>nf ⟨i,q,o,e,by rw[<-w];exact h1⟩];exact y) (j1.refl _),h3⟩
 dist:=R.dist
 lo:=fun i q ls e=>vDa e (nl i q ls)
theorem Rel.loSet{i:Nat}{q:Option Addr}{l:Addr}{ps:List Addr}{ls:List (List D)}(R:Rel K H0 O0 ρ σ H O)(nl:∀(j:Nat) (q:Option Addr) (ls:List (List D)),j≠i->ρ[j]?≠some (.lo q ls))(pn:∀p,q=some p->l=p)(lat:Yx K H (j4 H O) l ps ls)(nd:(l::ps).Nodup)(fp:∀a∈l::ps,a∈O/\H0 a=none/\¬Jz ρ σ a):
  Rel K H0 O0 (ρ.set i (.lo q ls)) (σ.set i (some (.ref l))) H O where
 len:=by rw[List.length_set,List.length_set];exact R.len
 sub:=R.sub
 fr:=R.fr
 al0:=R.al0
 al:=R.al
 keep:=R.keep
 cl:=fun j d e=>by
  rcases jd e with⟨rfl,e',_⟩ | ⟨ne,e'⟩
  ·cases e'
  ·rw[jQ ne];exact R.cl j d e'
 bo:=fun j d e=>by
  rcases jd e with⟨rfl,e',_⟩ | ⟨ne,e'⟩
  ·cases e'
  ·rw[jQ ne];exact R.bo j d e'
 ow:=fun j q o e=>by
  rcases jd e with⟨rfl,e',_⟩ | ⟨ne,e'⟩
  ·cases e'
  ·rw[jQ ne];exact R.ow j q o e'
 dist:=fun j k q1 q2 o1 o2 a e1 e2 s1 s2=>by
  rcases jd e1 with⟨rfl,e',_⟩ | ⟨n1,e1'⟩
  ·cases e'
  ·rcases jd e2 with⟨rfl,e',_⟩ | ⟨n2,e2'⟩
   ·cases e'
   ·rw[jQ n1]at s1;rw[jQ n2]at s2;exact R.dist j k q1 q2 o1 o2 a e1' e2' s1 s2
 lo:=fun j q' ms e=>by
  rcases jd e with⟨rfl,e',hj⟩ | ⟨ne,e'⟩
  ·cases e';refine⟨l,ps,Yr (by rw[R.len];exact hj),lat,nd,fun a ha=>⟨(fp a ha).1,(fp a ha).2.1,fun z=>(fp a ha).2.2 ?_⟩,pn,fun k q' ms e2=>?_⟩
   ·exact vq (by intro _ _ z;cases z) R.len z
   ·rcases jd e2 with⟨rfl,_,_⟩ | ⟨ne,e'⟩
    ·rfl
    ·exact vDa e' (nl k q' ms ne)
  ·exact vDa e' (nl j q' ms ne)
noncomputable def fz:Sl->Sl
 | .lo _ ls=>.cl (.lst (ls.map D.lst))
 | s=>s
noncomputable def frz(ρ:j7):j7:=ρ.map fz
theorem Ys{j:Nat}{s:Sl}(e:(frz ρ)[j]?=some s):(ρ[j]?=some s/\∀q ls,s≠.lo q ls)∨∃q ls,ρ[j]?=some (.lo q ls)/\s=.cl (.lst (ls.map D.lst)):=by
 unfold frz at e;rw[List.getElem?_map]at e;cases h:ρ[j]? with
 | none=>rw[h]at e;cases e
 | some t=>
  rw[h]at e;have e:=vFa e;cases t with
  | lo q ls=>exact .inr ⟨q,ls,rfl,e.symm⟩
  | un=>exact .inl ⟨by rw[<-e];rfl,fun q ls z=>by rw[z]at e;cases e⟩
  | cl d=>exact .inl ⟨by rw[<-e];rfl,fun q ls z=>by rw[z]at e;cases e⟩
  | bo d=>exact .inl ⟨by rw[<-e];rfl,fun q ls z=>by rw[z]at e;cases e⟩
  | ow q o=>exact .inl ⟨by rw[<-e];rfl,fun q ls z=>by rw[z]at e;cases e⟩
theorem Jv.reps{Hd Hd':Hp}(sd:j1 Hd Hd'):∀{as:List Addr} {ls:List (List D)},(∀a∈as,Hd' a=H a)->Jv K Hd H as ls->j3 K Hd' (ls.map D.lst) (as.map V.ref)
 | [],[],_,_=>j3.nil
 | a::as,m::r,s,h=>by
  obtain⟨⟨vs,h1,h2⟩,h3⟩:=h;refine j3.cons ?_ (Jv.reps sd (fun b hb=>s b (wMa _ hb)) h3);rw[j5];exact⟨a,vs,rfl,by rw[s a List.mem_cons_self];exact h1,h2.same sd⟩
 | [],_::_,_,h=>h.elim
 | _::_,[],_,h=>h.elim
theorem Rel.frz(R:Rel K H0 O0 ρ σ H O):∃O',Rel K H0 O0 (frz ρ) σ H O'/\(∀a∈O,a∈O'∨∃vs,H a=some (.lst vs))/\∀a∈O',a∈O:=by
 obtain⟨fp,f1,f2⟩:∃fp:List Addr,(∀a∈fp,H0 a=none/\¬Jz ρ σ a/\∃vs,H a=some (.lst vs))/\∀(i:Nat) (q:Option Addr) (ls:List (List D)),ρ[i]?=some (.lo q ls)->∃l ps,σ[i]?=some (some (.ref l))/\Yx K H (j4 H O) l ps ls/\∀a∈l::ps,a∈fp:=by
  by_cases hl:∃(i:Nat) (q:Option Addr) (ls:List (List D)),ρ[i]?=some (.lo q ls)
  ·obtain⟨i,q,ls,hi⟩:=hl;obtain⟨l,ps,hs,a1,_,fp,_,un⟩:=R.lo i q ls hi;refine⟨l::ps,fun a ha=>⟨(fp a ha).2.1,(fp a ha).2.2,a1.at a ha⟩,fun j q' ms e=>?_⟩;have:=un j q' ms e;subst this;rw[hi]at e;cases e;exact⟨l,ps,hs,a1,fun a h=>h⟩
  ·exact⟨[],(fun a h=>by cases h),fun i q ls e=>vDa ⟨i,q,ls,e⟩ hl⟩
 have ss:j1 (j4 H O) (j4 H (O.filter fun a=>decide (a∉fp))):=jP fun a h=>(List.mem_filter.mp h).1;have out:∀a∈fp,j4 H (O.filter fun a=>decide (a∉fp)) a=H a:=fun a ha=>jq fun z=>by simpa[ha]using (List.mem_filter.mp z).2
 refine⟨O.filter fun a=>decide (a∉fp),⟨?_,fun a h=>List.mem_filter.mpr ⟨R.sub a h,vAa fun z=>R.al0 a h (f1 a z).1⟩,fun a h=>R.fr a (List.mem_filter.mp h).1,R.al0,fun a h=>R.al a (List.mem_filter.mp h).1,R.keep,?_,?_,?_,?_,?_⟩,fun a ha=>if h:a∈fp then .inr (f1 a h).2.2 else .inl (List.mem_filter.mpr ⟨ha,vAa h⟩),fun a h=>(List.mem_filter.mp h).1⟩
 ·unfold DS.frz;rw[List.length_map];exact R.len
 ·intro i d e;rcases Ys e with⟨e,_⟩ | ⟨_,ls,e9,z⟩
  ·obtain⟨v,a,b⟩:=R.cl i d e;exact⟨v,a,b.same ss⟩
  ·cases z;obtain⟨l,ps,hs,⟨h1,h2⟩,hin⟩:=f2 i _ ls e9;refine⟨_,hs,?_⟩;rw[j5];exact⟨l,_,rfl,by rw[out l (hin l List.mem_cons_self)];exact h1,h2.reps ss fun a ha=>out a (hin a (wMa _ ha))⟩
 ·intro i d e;rcases Ys e with⟨e,_⟩ | ⟨_,ls,e,z⟩
  ·exact R.bo i d e
  ·cases z
 ·intro i q o e;rcases Ys e with⟨e,_⟩ | ⟨_,ls,e,z⟩
  ·obtain⟨l,z,a,b,d,f⟩:=R.ow i q o e;exact⟨l,z,a,b.same (fun _ z=>z) ss,List.mem_filter.mpr ⟨d,vAa fun y=>(f1 l y).2.1 ⟨i,q,o,e,a⟩⟩,f⟩
  ·cases z
 ·intro i j q q' o o' l e e';rcases Ys e with⟨e,_⟩ | ⟨_,ls,e,z⟩
  ·rcases Ys e' with⟨e',_⟩ | ⟨_,ls,e',z⟩
   ·exact R.dist i j q q' o o' l e e'
   ·cases z
  ·cases z
 ·intro i q ls e;rcases Ys e with⟨_,z⟩ | ⟨_,_,_,z⟩
  ·exact vDa rfl (z q ls)
  ·cases z
end
mutual
@[simp] noncomputable def W_:D->Bool
 | .non=>true
 | .bl _=>true
 | .int _=>true
 | .str _=>true
 | .tup l=>VH l
 | _=>false
@[simp] noncomputable def VH:List D->Bool
 | []=>true
 | d::ds=>W_ d&&VH ds
end
mutual
theorem Uj{K:Fr}{H H':Hp}(k:vZ H H'):∀{d:D} {v:V},W_ d=true->j5 K H d v->j5 K H' d v
 | .non,_,_,h=>by rw[j5]at h⊢;exact h
 | .bl _,_,_,h=>by rw[j5]at h⊢;exact h
 | .int _,_,_,h=>by rw[j5]at h⊢;exact h
 | .str _,_,_,h=>by rw[j5]at h⊢;exact h
 | .tup l,_,n,h=>by
  rw[j5]at h⊢;obtain⟨a,xs,rfl,q,r⟩:=h;rw[W_]at n;exact⟨a,xs,rfl,k.sqT q,Zu k n r⟩
 | .lst _,_,n,_=>by simp at n
 | .ins _ _ _,_,n,_=>by simp at n
 | .scr _,_,n,_=>by simp at n
 | .dct _ _,_,n,_=>by simp at n
theorem Zu{K:Fr}{H H':Hp}(k:vZ H H'):∀{ds:List D} {vs:List V},VH ds=true->j3 K H ds vs->j3 K H' ds vs
 | [],_,_,h=>by rw[j3]at h⊢;exact h
 | d::ds,_,n,h=>by
  rw[j3]at h;obtain⟨v,r,rfl,a,b⟩:=h;rw[VH,Bool.and_eq_true]at n;exact j3.cons (Uj k n.1 a) (Zu k n.2 b)
end
section
variable {X:Cx} {K:Fr} {e:Expr} {de:DE}
theorem bP{dt:DT}(h:PT X e (tT K dt)):PT X e (tT K fun ρ=>dt (frz ρ)):=v_ h fun σ H Q xx=>by
 obtain⟨H0,O0,ρ,O,b,R,ed,q⟩:=xx;obtain⟨O',R',_⟩:=R.frz;exact⟨H0,O0,_,O',b,R',ed,q⟩
end
section
variable {K:Fr} {Hd H H':Hp}
theorem Jv.len:∀{as:List Addr} {ls:List (List D)},Jv K Hd H as ls->as.length=ls.length
 | [],[],_=>rfl
 | _::_,_::_,h=>congrArg Nat.succ (Jv.len h.2)
 | [],_::_,h=>h.elim
 | _::_,[],h=>h.elim
theorem Jv.get:∀{as:List Addr} {ls:List (List D)} {n:Nat} {m:List D},Jv K Hd H as ls->ls[n]?=some m->∃p vs,as[n]?=some p/\H p=some (.lst vs)/\j3 K Hd m vs
 | a::_,_::_,0,_,h,e=>by
  simp at e;subst e;obtain⟨vs,h1,h2⟩:=h.1;exact⟨a,vs,rfl,h1,h2⟩
 | _::as,_::r,n+1,m,h,e=>by
  obtain⟨p,vs,h1,h2⟩:=Jv.get (n:=n) h.2 (by simpa using e);exact⟨p,vs,by simpa using h1,h2⟩
 | [],[],_,_,_,e=>by simp at e
 | [],_::_,_,_,h,_=>h.elim
 | _::_,[],_,_,h,_=>h.elim
theorem Jv.set{p:Addr}{m:List D}(hp:∃vs,H' p=some (.lst vs)/\j3 K Hd m vs):∀{as:List Addr} {ls:List (List D)} {n:Nat},as.Nodup->as[n]?=some p->(∀a∈as,a≠p->∀u,H a=some u->H' a=some u)->Jv K Hd H as ls->Jv K Hd H' as (ls.set n m)
 | a::as,x::r,0,nd,e,s,h=>by
  simp at e;subst e;obtain⟨n1,n2⟩:=List.nodup_cons.mp nd;exact⟨hp,h.2.mono (j1.refl _) fun b hb=>s b (wMa _ hb) fun z=>n1 (z▸hb)⟩
 | a::as,x::r,n+1,nd,e,s,h=>by
  obtain⟨n1,n2⟩:=List.nodup_cons.mp nd;have e':as[n]?=some p:=by simpa using e
  obtain⟨vs,h1,h2⟩:=h.1;exact⟨⟨vs,s a wNa (fun z=>n1 (z▸wYa e')) _ h1,h2⟩,Jv.set hp n2 e' (fun b hb=>s b (wMa _ hb)) h.2⟩
 | [],_,_,_,e,_,_=>by simp at e
 | _::_,[],_,_,_,_,h=>h.elim
end
theorem vE{α:Type}{xs:List α}{i:Nat}{x:α}(h:xs[i]?=some x):xs.set i x=xs:=by
 obtain⟨hl,he⟩:=List.getElem?_eq_some_iff.mp h;rw[<-he];exact List.set_getElem_self hl
section
variable {X:Cx} {K:Fr} {de dj:DE} {st:Stmt} {i:Nat}
theorem zQ{ρ:j7}{q:Option Addr}{ls:List (List D)}{K:Fr}{H0 H:Hp}{O0 O:List Addr}{σ:L2.St}(R:Rel K H0 O0 ρ σ H O)(hi:ρ[i]?=some (.lo q ls)):∀(j:Nat) (q':Option Addr) (ms:List (List D)),(ρ.set i .un)[j]?≠some (.lo q' ms):=fun j q' ms e=>by
 rcases jd e with⟨_,e',_⟩ | ⟨ne,e'⟩
 ·cases e'
 ·obtain⟨_,_,_,_,_,_,_,un⟩:=R.lo i q ls hi;exact ne (un j q' ms e')
theorem zB{ρ:j7}{σ:L2.St}{a:Addr}{j:Nat}:Jz (ρ.set j .un) σ a->Jz ρ σ a:=fun xx=>by
 obtain⟨k,q,o,e,z⟩:=xx;rcases jd e with⟨_,e',_⟩ | ⟨_,e'⟩
 ·cases e'
 ·exact⟨k,q,o,e',z⟩
theorem Uk{ρ:j7}{q:Option Addr}{ls:List (List D)}:(ρ.set i .un).set i (.lo q ls)=ρ.set i (.lo q ls):=by rw[List.set_set]
end
section
variable {K:Fr} {H0 H H':Hp} {O0 O:List Addr} {ρ:j7} {σ:L2.St} {i:Nat} {q:Option Addr} {ls:List (List D)}
theorem Xv{ps:List Addr}{j:Int}{n k:Nat}{p:Addr}(h:ps.length=k)(e:Z2 k j=some n)(hp:ps[n]?=some p):atI (ps.map V.ref) j=some (.ref p):=by
 unfold atI;rw[List.length_map,h,e];show(ps.map V.ref)[n]?=_;rw[List.getElem?_map,hp];rfl
theorem Rel.inner{n:Nat}{m:List D}(R:Rel K H0 O0 ρ σ H O)(hi:ρ[i]?=some (.lo q ls))(hn:ls[n]?=some m):∃(l:Addr) (ps:List Addr) (p:Addr) (vs:List V),σ[i]?=some (some (.ref l))/\H l=some (.lst (ps.map V.ref))/\ps.length=ls.length/\ps[n]?=some p/\H p=some (.lst vs)/\j3 K (j4 H O) m vs/\∀(H2:Hp) (m':List D) (ws:List V),j1 H H2->j3 K (j4 H2 O) m' ws->Rel K H0 O0 (ρ.set i (.lo q (ls.set n m'))) σ (upd H2 p (.lst ws)) O/\j1 (j4 H O) (j4 (upd H2 p (.lst ws)) O):=by
 obtain⟨l,ps,hs,⟨hl,el⟩,nd,fp,pn,un⟩:=R.lo i q ls hi;obtain⟨p,vs,hp,hv,rp⟩:=el.get hn;have pm:=wYa hp;have ha:=(fp p (wMa _ pm))
 have nl:l≠p:=fun z=>(List.nodup_cons.mp nd).1 (z▸pm);refine⟨l,ps,p,vs,hs,hl,el.len,hp,hv,rp,fun H2 m' ws s12 rw'=>?_⟩;have R2:=R.grow s12;have R3:=((R2.forget i).poke (u:=.lst ws) (zQ R2 hi) ha.1 ha.2.1 fun z=>ha.2.2 (zB z)).loSet (i:=i) (l:=l) (ps:=ps) (ls:=ls.set n m') (fun j q ls _=>zQ R2 hi j q ls) pn
  ⟨by rw[jc nl];exact s12 _ _ hl,by
   rw[J5 ha.1];exact Jv.set ⟨_,jx,rw'⟩ (List.nodup_cons.mp nd).2 hp (fun a _ ne u z=>by rw[jc ne];exact z) (el.mono (j9 s12) fun a _ u z=>s12 a u z)⟩ nd fun a h=>⟨(fp a h).1,(fp a h).2.1,fun z=>(fp a h).2.2 (zB z)⟩
 rw[Uk,vE hs]at R3;exact⟨R3,by rw[J5 ha.1];exact j9 s12⟩
end
section
variable {X:Cx} {K:Fr} {de dj dh:DE} {df:DO} {st:Stmt} {i:Nat}
def ZK(i:Nat)(dj de:DE):DS:=fun ρ=>match ρ[i]? with
 | some (.lo q ls)=>(dj ρ).bind fun j=>(de ρ).bind fun d=>match j with
  | .int j=>(Z2 ls.length j).bind fun n=>(ls[n]?).bind fun m=>if m.length < sizeLine then some (.nx (ρ.set i (.lo q (ls.set n (m++[d])))))else none
  | _=>none
 | _=>none
theorem Xw(h:PS X st (uA (Wx K "list" ZH (gB (KT K) (yu i) (tR K dj)) (yb (tE K de) zJ)))):PS X st (tS K (ZK i dj de)):=jO h fun D σ H xx=>by
 obtain⟨H0,O0,ρ,O,r,R,ed,f⟩:=xx;unfold ZK at ed;split at ed
 ·rename_i q ls hi;obtain⟨j,e1,ed⟩:=j0 ed;obtain⟨d,e2,ed⟩:=j0 ed;cases j with
  | int j=>
   obtain⟨n,e3,ed⟩:=j0 ed;obtain⟨m,e4,ed⟩:=j0 ed;split at ed
   ·rename_i hz;cases ed;obtain⟨l,ps,p,vs,hs,hl,hlen,hp,hv,rp,fin⟩:=R.inner hi e4;refine⟨_,hs,H0,O0,ρ,O,_,R,e1,fun w H1 s1 r1=>?_⟩;refine⟨l,_,j,.ref p,rfl,r1.int,jj.of (s1 _ _ hl),Xv hlen e3 hp,.inl ⟨rfl,_,jj.of (s1 _ _ hv)⟩,H0,O0,ρ,O,d,R.grow s1,e2,fun v H2 s2 rv=>?_⟩;have s12:=s1.trans s2;obtain⟨R3,s4⟩:=fin H2 (m++[d]) _ s12 ((rp.same (j9 s12)).snoc rv);exact⟨p,vs,v,rfl,rfl,s12 _ _ hv,by rw[rp.len];exact hz,f _ _ O R3 s4⟩
   ·cases ed
  | _=>cases ed
 ·cases ed
end
noncomputable def bQ:Sl->Bool
 | .lo _ _=>false
 | _=>true
noncomputable def qc:List DO->j7->Option (List (List D))
 | [],_=>some []
 | f::r,ρ=>(f ρ).bind fun o=>match o with
  | .lst m=>(qc r ρ).bind fun ms=>some (m::ms)
  | _=>none
noncomputable def qd(K:Fr):List DO->TA
 | []=>zJ
 | f::r=>yb (tF K f) (qd K r)
inductive PFl (X:Cx) (K:Fr):List Expr->List DO->Prop
 | nil:PFl X K [] []
 | cons {e:Expr} {f:DO} {es:List Expr} {fs:List DO}:PE X e (tF K f)->starEach (e::es) X.env=(false,eval e X.env)::starEach es X.env->PFl X K es fs->PFl X K (e::es) (f::fs)
section
variable {X:Cx} {K:Fr} {st:Stmt} {i:Nat}
theorem PFl.pa{es:List Expr}{fs:List DO}(h:PFl X K es fs):PA X es (qd K fs):=by
 induction h with
 | nil=>exact J4
 | cons he hs _ ih=>exact jz he ih hs
theorem gO:∀{fs:List DO} {ρ:j7} {ms:List (List D)},qc fs ρ=some ms->ms.length=fs.length
 | [],_,_,e=>by cases e;rfl
 | f::r,ρ,ms,e=>by
  obtain⟨o,_,e⟩:=j0 e;cases o with
  | lst m=>
   obtain⟨ms',e2,e⟩:=j0 e;cases e;rw[List.length_cons,List.length_cons,gO e2]
  | _=>cases e
theorem K3{H0:Hp}{O0:List Addr}{ρ:j7}{σ:L2.St}:∀{fs:List DO} {ms:List (List D)} {H:Hp} {O:List Addr} {Q:List V->Hp->Prop},Rel K H0 O0 ρ σ H O->qc fs ρ=some ms->
  (∀ps H',j1 H H'->(∀a∈ps,H a=none)->ps.Nodup->Jv K (j4 H' (ps++O)) H' ps ms->Q (ps.map V.ref) H')->qd K fs σ H Q
 | [],ms,H,O,Q,R,e,q=>by
  cases e;exact q [] H (j1.refl _) (fun a h=>by cases h) List.nodup_nil trivial
 | f::fs,ms,H,O,Q,R,e,q=>by
  obtain⟨o,e1,e⟩:=j0 e;cases o with
  | lst m=>
   obtain⟨ms',e2,e⟩:=j0 e;cases e;refine⟨H0,O0,ρ,O,_,R,e1,fun a H1 s1 ha ow=>?_⟩;obtain⟨vs,hv,rp⟩:=ow;have hn:∀b∈[a],H b=none:=fun b h=>by rw[List.mem_singleton.mp h];exact ha
   have hA:∀b∈[a],H1 b≠none:=fun b h=>by rw[List.mem_singleton.mp h,hv];exact fun z=>nomatch z
   refine K3 (R.lay (F:=[a]) s1 hn hA) e2 fun ps H2 s2 hp nd el=>?_;have na:a∉ps:=fun z=>by have:=hp a z;rw[hv]at this;cases this
   have sm:j1 (j4 H2 (ps++([a]++O))) (j4 H2 (a::ps++O)):=jP fun b h=>by
    rcases List.mem_append.mp h with h | h
    ·rcases List.mem_cons.mp h with h | h
     ·exact vJa _ (by rw[h];exact wNa)
     ·exact vIa _ h
    ·exact vJa _ (vJa _ h)
   refine q (a::ps) H2 (s1.trans s2) (fun b h=>?_) (List.nodup_cons.mpr ⟨na,nd⟩) ⟨⟨vs,s2 _ _ hv,(rp.same (YE (O:=[a]++O) s2 hp)).same sm⟩,el.mono sm fun b _ u z=>z⟩;rcases List.mem_cons.mp h with rfl | h
   ·exact ha
   ·exact s1.none (hp b h)
  | _=>cases e
def uE(i:Nat)(fs:List DO):DS:=fun ρ=>(qc fs ρ).bind fun ms=>if (ρ.set i .un).all bQ=true/\fs.length<=1000 then some (.nx (ρ.set i (.lo none ms)))else none
theorem Xx{fs:List DO}(h:PS X st (y9 (xw (qd K fs)) (yH i))):PS X st (tS K (uE i fs)):=jO h fun D σ H xx=>by
 obtain⟨H0,O0,ρ,O,r,R,ed,f⟩:=xx;obtain⟨ms,e1,ed⟩:=j0 ed;split at ed
 ·rename_i nl;cases ed;refine K3 R e1 fun ps H1 s1 hp nd el=>?_;have z:(1000:Nat)<=sizeLine:=by decide
  have hl:=el.len;have hm:=gO e1;refine⟨by rw[List.length_map];omega,fun p hpn=>?_⟩;show D.nx _ _;have s2:=s1.trans (jp hpn (.lst (ps.map V.ref)));have hnp:p∉ps:=fun z=>by
   obtain⟨vs,hv⟩:=el.at p z;rw[hpn]at hv;cases hv
  have hn:∀a∈p::ps,H a=none:=fun a h=>by
   rcases List.mem_cons.mp h with rfl | h
   ·exact s1.none hpn
   ·exact hp a h
  have el2:Jv K (j4 (upd H1 p (.lst (ps.map V.ref))) (p::ps++O)) (upd H1 p (.lst (ps.map V.ref))) ps ms:=by
   refine el.mono (fun b u hb=>?_) fun a ha u z=>(jp hpn _) a u z;obtain⟨h1,h2⟩:=jL hb;rw[jq fun z=>?_]
   ·exact(jp hpn _) b u h2
   ·rcases List.mem_cons.mp z with rfl | z
    ·rw[hpn]at h2;cases h2
    ·exact h1 z
  have lat:Yx K (upd H1 p (.lst (ps.map V.ref))) (j4 (upd H1 p (.lst (ps.map V.ref))) (p::ps++O)) p ps ms:=⟨jx,el2⟩
  have R2:=(R.forget i).lay (F:=p::ps) s2 hn fun a ha=>by
   obtain⟨vs,hv⟩:=lat.at a ha;rw[hv];exact fun z=>nomatch z
  have R3:=R2.loSet (i:=i) (q:=none) (l:=p) (ps:=ps) (ls:=ms) (fun j q ms _ e=>by
   have:=List.all_eq_true.mp nl.1 _ (wYa e);cases this) (by intro _ z;cases z) lat (List.nodup_cons.mpr ⟨hnp,nd⟩) fun a ha=>⟨vIa _ ha,R.keep.none (hn a ha),fun z=>Jz.there R (zB z) (hn a ha)⟩
  rw[Uk]at R3;exact f _ _ _ R3 (YE s2 hn)
 ·cases ed
inductive Rm where
 | nx (ρ:j7) | rt (ρ:j7) (d:D)
abbrev DM:=j7->Option Rm
def GS(K:Fr)(H0:Hp)(O0:List Addr)(H:Hp)(O:List Addr)(E:Ends):Rm->Prop
 | .nx ρ=>∀σ' H' O',Rel K H0 O0 ρ σ' H' O'->j1 (j4 H O) (j4 H' O')->E.nx σ' H'
 | .rt ρ d=>∀σ' H' O' v,Rel K H0 O0 ρ σ' H' O'->j5 K (j4 H' O') d v->E.rt v H'
theorem GS.mono{H0 H H1:Hp}{O0 O O1:List Addr}{E:Ends}{r:Rm}(s:j1 (j4 H O) (j4 H1 O1))(h:GS K H0 O0 H O E r):GS K H0 O0 H1 O1 E r:=by
 cases r with
 | nx ρ=>exact fun σ' H' O' R t=>h σ' H' O' R (s.trans t)
 | rt ρ d=>exact h
def tM(K:Fr)(dm:DM):TS:=fun E σ H=>∃H0 O0 ρ O r,Rel K H0 O0 ρ σ H O/\dm ρ=some r/\GS K H0 O0 H O E r
@[simp] noncomputable def Zv(ds:DS)(m:DM)(ρ:j7):Option Rm:=(ds ρ).bind fun r=>match r with
 | .nx ρ1=>m ρ1
 | _=>none
@[simp] noncomputable def zR(de:DE)(ρ:j7):Option Rm:=(de ρ).bind fun d=>some (.rt ρ d)
@[simp] def ua(dt:DT)(de:DE)(m:DM)(ρ:j7):Option Rm:=(dt ρ).bind fun k=>if k=true then zR de ρ else m ρ
theorem bR{rest:List Stmt}{s1:DS}{m:DM}(h1:PS X st (tS K s1))(h2:jy X rest (tM K m)):jy X (st::rest) (tM K (Zv s1 m)):=YB (vm h1 h2) fun D σ H xx=>by
 obtain⟨H0,O0,ρ,O,r,R,ed,f⟩:=xx;obtain⟨r1,e1,e2⟩:=j0 ed;refine⟨H0,O0,ρ,O,r1,R,e1,?_⟩;cases r1 with
 | nx ρ1=>exact fun σ' H' O' R' t=>⟨H0,O0,ρ1,O',r,R',e2,f.mono t⟩
 | _=>cases e2
theorem Vd{e:Expr}{pos:Pos}{de:DE}(h:PE X e (tE K de)):jy X [.Return (some e) pos] (tM K (zR de)):=YB (Vw (vT h)) fun D σ H xx=>by
 obtain⟨H0,O0,ρ,O,r,R,ed,f⟩:=xx;obtain⟨d,e1,e2⟩:=j0 ed;cases e2;exact⟨H0,O0,ρ,O,d,R,e1,fun v H' s r=>f σ H' O v (R.grow s) r⟩
theorem Cg{c e:Expr}{pos p:Pos}{de:DE}{dt:DT}{rest:List Stmt}{m:DM}(hc:PT X c (tT K dt))(h:PE X e (tE K de))(h2:jy X rest (tM K m)):jy X (.If c [.Return (some e) p] [] pos::rest) (tM K (ua dt de m)):=YB (vm (Wk hc (Vd h) gA) h2) fun D σ H xx=>by
 obtain⟨H0,O0,ρ,O,r,R,ed,f⟩:=xx;obtain⟨k,e1,e2⟩:=j0 ed;refine⟨H0,O0,ρ,O,k,R,e1,fun H' s=>?_⟩;cases k with
 | true=>
  rw[if_pos rfl]at e2;refine yw ⟨H0,O0,ρ,O,r,R.grow s,e2,?_⟩;obtain⟨d,_,e3⟩:=j0 e2;cases e3;exact f
 | false=>rw[if_neg Bool.false_ne_true]at e2;exact yv ⟨H0,O0,ρ,O,r,R.grow s,e2,f.mono (j9 s)⟩
def Ul(K:Fr)(F:Addr->List (List D)->List D->Option (List (List D)×D)):Sp:=fun vs H Q _=>∃(O:List Addr) (l:Addr) (ps:List Addr) (ls:List (List D)) (d:D) (ds:List D) (v:V) (us:List V) (ms:List (List D)) (r:D),vs=v::.ref l::us/\Yx K H (j4 H (l::ps++O)) l ps ls/\(l::ps).Nodup/\(∀a∈O,H a≠none/\a∉l::ps)/\j3 K (j4 H (l::ps++O)) (d::ds) (v::us)/\F l ls (d::ds)=some (ms,r)/\
 ∀ps' H' u,j1 (j4 H (l::ps)) H'->(l::ps').Nodup->(∀a∈ps',a∈ps∨H a=none)->Yx K H' (j4 H' (l::ps'++O)) l ps' ms->j5 K (j4 H' (l::ps'++O)) r u->Q u H'
@[simp] noncomputable def wv(p:Addr)(ls:List (List D))(ds:List D)(n:Nat):j7:=match ds with
 | d::ds=>.cl d::.lo (some p) ls::(ds.map Sl.cl++List.replicate n .un)
 | []=>[]
@[simp] noncomputable def ww(p:Addr):Option Rm->Option (List (List D)×D)
 | some (.rt ρ d)=>(match (ρ[1]?:Option Sl)with
  | some (.lo q ms)=>if q=some p then some (ms,d)else none
  | _=>none)
 | _=>none
@[simp] def gP(m n:Nat)(body:DM)(p:Addr)(ls:List (List D))(ds:List D):Option (List (List D)×D):=if ds.length=m+1 then ww p (body (wv p ls ds n))else none
theorem Ch{H:Hp}{O:List Addr}{l:Addr}{ps:List Addr}{ls:List (List D)}{d:D}{ds:List D}{v:V}{us:List V}{n:Nat}(h1:Yx K H (j4 H (l::ps++O)) l ps ls)(nd:(l::ps).Nodup)(al:∀a∈O,H a≠none/\a∉l::ps)(rp:j3 K (j4 H (l::ps++O)) (d::ds) (v::us)):
  Rel K (j4 H (l::ps)) O (wv l ls (d::ds) n) ((v::.ref l::us).map some++List.replicate n none) H (l::ps++O):=by
 rw[j3]at rp;obtain⟨v',us',e,r0,r1⟩:=rp;cases e;have no:∀(j:Nat) (t:Sl),(.cl d::.un::(ds.map Sl.cl++List.replicate n .un):j7)[j]?=some t->(∃e,t=.cl e)∨t=.un:=fun j t e=>by
  have:=wYa e;simp at this;rcases this with rfl | rfl | ⟨e,_,rfl⟩ | ⟨_,rfl⟩
  ·exact .inl ⟨_,rfl⟩
  ·exact .inr rfl
  ·exact .inl ⟨_,rfl⟩
  ·exact .inr rfl
 have R:Rel K (j4 H (l::ps)) O (.cl d::.un::(ds.map Sl.cl++List.replicate n .un)) ((v::.ref l::us).map some++List.replicate n none) H (l::ps++O):=by
  refine⟨?_,fun a h=>vJa _ h,fun a h=>(List.mem_append.mp h).elim (fun z=>.inr (Yq z)) .inl,fun a h=>?_,fun a h=>?_,yx,fun j e hj=>?_,fun j e hj=>?_,fun j q o hj=>?_,fun j k q q' o o' a hj=>?_,fun j q ms hj=>?_⟩
  ·have:=r1.len;simp;omega
  ·rw[jq (al a h).2];exact(al a h).1
  ·rcases List.mem_append.mp h with h | h
   ·obtain⟨ws,hw⟩:=h1.at a h;rw[hw];exact fun z=>nomatch z
   ·exact(al a h).1
  ·match j,hj with
   | 0,hj=>cases hj;exact⟨v,rfl,r0⟩
   | 1,hj=>cases hj
   | j+2,hj=>
    have hj:(ds.map Sl.cl++List.replicate n .un)[j]?=some (.cl e):=hj;by_cases q:j < ds.length
    ·rw[List.getElem?_append_left (by rw[List.length_map];exact q),List.getElem?_map]at hj;obtain⟨e',e1,e2⟩:=Option.map_eq_some_iff.mp hj;cases e2;obtain⟨w,w1,w2⟩:=r1.get e1;refine⟨w,?_,w2⟩;show(us.map some++List.replicate n none)[j]?=_;rw[List.getElem?_append_left (by rw[List.length_map];exact(List.getElem?_eq_some_iff.mp w1).1),List.getElem?_map,w1];rfl
    ·rw[List.getElem?_append_right (by rw[List.length_map];omega)]at hj;have:=wYa hj;simp at this
  all_goals first
   | (rcases no j _ hj with⟨_,z⟩ | z <;> cases z)
 exact R.loSet (i:=1) (q:=some l) (l:=l) (ps:=ps) (ls:=ls) (fun j q ms _ e=>by rcases no j _ e with⟨_,z⟩ | z <;> cases z) (by intro _ z;cases z;rfl) h1 nd fun a h=>⟨vIa _ h,Yq h,fun⟨j,q,o,e,_⟩=>by rcases no j _ e with⟨_,z⟩ | z <;> cases z⟩
variable {P:Program} {w:World} {mg:Str->Option Value} {base:Heap} {x qual:Str} {f:Addr} {fd:FuncData} {N ps:List Str} {k n:Nat} {body:DM}
theorem Ci{m:Nat}(F:Fun K x qual st f fd)(S:FnScope N ps (defScope st))(hm:m+2=ps.length)(hn:N.length - ps.length=n)
  (hb:∀(cdv:Value) (A:Around) (outer:List Env) (s:Shared) (H:Hp) (E:XK),Room k (A.deeper (envOfC qual (defScope st) s.heap.objs.size f cdv))->jy (Y1 JB P w K mg base N qual (defScope st) f cdv A outer s H E).nox (defBody st) (tM K body)):
  FnOk P w K mg base JB (k+1) f fd ps (Ul K (gP m n body)):=by
 refine F.ok S (fun vs H Q E h=>?_) fun cdv A outer s H vs Q E hr h=>?_
 ·obtain⟨O,l,ps',ls,d,ds,v,us,ms,r,rfl,_,_,_,rp,e,_⟩:=h;have:=rp.len;unfold gP at e;split at e
  ·rename_i hl;simp at hl this⊢;omega
  ·cases e
 ·obtain⟨O,l,ps',ls,d,ds,v,us,ms,r,rfl,h1,nd,al,rp,e,q⟩:=h;have hlen:=rp.len;unfold gP at e;split at e
  case isFalse=>cases e
  rename_i hl;refine⟨_,hb cdv A outer s H E hr,?_⟩;have hl:N.length - (v::V.ref l::us).length=n:=by simp at hl hlen⊢;omega
  unfold L2.start;rw[hl];cases eb:body (wv l ls (d::ds) n)with
  | none=>rw[eb]at e;cases e
  | some rr=>
   rw[eb]at e;refine⟨_,O,_,_,rr,Ch h1 nd al rp,eb,?_⟩;cases rr with
   | nx ρ=>cases e
   | rt ρ d'=>
    dsimp only[ww]at e;split at e
    ·rename_i q' ms' he;split at e
     ·rename_i hq;cases e;intro σ' H' O' u R' ru;obtain⟨l',ps'',hs,lat,nd',fp,pn,_⟩:=R'.lo 1 _ _ he;have el:=pn l hq;subst el;have sub:∀a∈l'::ps''++O,a∈O':=fun a h=>(List.mem_append.mp h).elim (fun z=>(fp a z).1) (R'.sub a);refine q ps'' H' u R'.keep nd' (fun a ha=>?_) ⟨lat.1,lat.2.mono (jP sub) fun _ _ _ z=>z⟩ (ru.same (jP sub));have:=(fp a (wMa _ ha)).2.1;by_cases y:a∈l'::ps'
      ·rcases List.mem_cons.mp y with y | y
       ·exact vDa (y▸ha) (List.nodup_cons.mp nd').1
       ·exact .inl y
      ·rw[jq y]at this;exact .inr this
     ·cases e
    ·cases e
end
section
variable {K:Fr} {H0 H H':Hp} {O0 O O':List Addr} {ρ:j7} {σ:L2.St} {i:Nat} {q:Option Addr} {ls:List (List D)}
theorem Rel.move(R:Rel K H0 O0 ρ σ H O)(nl:∀(j:Nat) (q:Option Addr) (ms:List (List D)),ρ[j]?≠some (.lo q ms))(ss:j1 (j4 H O) (j4 H' O'))(kf:∀a,Jz ρ σ a->a∈O'/\∀u,H a=some u->H' a=some u)(keep:j1 H0 H')(sub:∀a∈O0,a∈O')(fr:∀a∈O',a∈O0∨H0 a=none)(al:∀a∈O',H' a≠none):Rel K H0 O0 ρ σ H' O' where
 len:=R.len
 sub:=sub
 fr:=fr
 al0:=R.al0
 al:=al
 keep:=keep
 cl:=fun i d e=>by obtain⟨v,a,b⟩:=R.cl i d e;exact⟨v,a,b.same ss⟩
 bo:=R.bo
 ow:=fun i q o e=>by
  obtain⟨l,z,a,b,d,f⟩:=R.ow i q o e;have:=kf l ⟨i,q,o,e,a⟩;exact⟨l,z,a,b.same this.2 ss,this.1,f⟩
 dist:=R.dist
 lo:=fun j q ms e=>vDa e (nl j q ms)
theorem Rel.swap(R:Rel K H0 O0 ρ σ H O)(hi:ρ[i]?=some (.lo q ls)):∃(l:Addr) (ps:List Addr) (O1:List Addr),σ[i]?=some (some (.ref l))/\Yx K H (j4 H (l::ps++O1)) l ps ls/\(l::ps).Nodup/\(∀a∈O1,H a≠none/\a∉l::ps)/\(∀a∈l::ps++O1,a∈O)/\
  ∀(H1 H':Hp) (ps':List Addr) (ms:List (List D)),j1 H H1->j1 (j4 H1 (l::ps)) H'->(l::ps').Nodup->(∀a∈ps',a∈ps∨H1 a=none)->Yx K H' (j4 H' (l::ps'++O1)) l ps' ms->Rel K H0 O0 (ρ.set i (.lo q ms)) σ H' (l::ps'++O1)/\j1 (j4 H O) (j4 H' (l::ps'++O1)):=by
 obtain⟨l,ps,hs,lat,nd,fp,pn,un⟩:=R.lo i q ls hi;have inO:∀a∈l::ps++O.filter (fun a=>decide (a∉l::ps)),a∈O:=fun a h=>(List.mem_append.mp h).elim (fun z=>(fp a z).1) fun z=>(List.mem_filter.mp z).1;refine⟨l,ps,O.filter fun a=>decide (a∉l::ps),hs,⟨lat.1,lat.2.mono (jP inO) fun _ _ _ z=>z⟩,nd,fun a h=>⟨R.al a (List.mem_filter.mp h).1,vCa (List.mem_filter.mp h).2⟩,inO,fun H1 H' ps' ms s1 s2 nd' hn0 at2=>?_⟩;have hn:∀a∈l::ps',a∈l::ps∨H1 a=none:=fun a h=>by
  rcases List.mem_cons.mp h with h | h
  ·exact .inl (by rw[h];exact wNa)
  ·exact(hn0 a h).imp (wMa _) id
 have kp:∀a u,a∉l::ps->H a=some u->H' a=some u:=fun a u na z=>s2 a u (by rw[jq na];exact s1 _ _ z);have nn:∀a∈l::ps',H0 a=none/\(a∈O∨H a=none):=fun a h=>(hn a h).elim (fun z=>⟨(fp a z).2.1,.inl (fp a z).1⟩) fun z=>⟨R.keep.none (s1.none z),.inr (s1.none z)⟩
 have ss:j1 (j4 H O) (j4 H' (l::ps'++O.filter fun a=>decide (a∉l::ps))):=fun b u h=>by
  obtain⟨b1,b2⟩:=jL h;rw[jq fun z=>?_]
  ·exact kp b u (fun z=>b1 (fp b z).1) b2
  ·rcases List.mem_append.mp z with z | z
   ·rcases(nn b z).2 with y | y
    ·exact b1 y
    ·rw[y]at b2;cases b2
   ·exact b1 (List.mem_filter.mp z).1
 have ft:∀a,Jz (ρ.set i .un) σ a->a∈O/\a∉l::ps:=fun a z=>by
  have z':=zB z;refine⟨?_,fun y=>(fp a y).2.2 z'⟩;obtain⟨j,q,o,e,y⟩:=z';obtain⟨l2,_,h1,_,h3,_⟩:=R.ow j q o e;rw[y]at h1;cases h1;exact h3
 have R2:=(R.forget i).move (H':=H') (O':=l::ps'++O.filter fun a=>decide (a∉l::ps)) (zQ R hi) ss (fun a z=>⟨vJa _ (List.mem_filter.mpr ⟨(ft a z).1,vAa (ft a z).2⟩),fun u y=>kp a u (ft a z).2 y⟩)
  (fun b u h=>kp b u (fun z=>by rw[(fp b z).2.1]at h;cases h) (R.keep _ _ h)) (fun a h=>vJa _ (List.mem_filter.mpr ⟨R.sub a h,vAa fun z=>R.al0 a h (fp a z).2.1⟩))
  (fun a h=>(List.mem_append.mp h).elim (fun z=>.inr (nn a z).1) fun z=>R.fr a (List.mem_filter.mp z).1) (fun a h=>by
   rcases List.mem_append.mp h with h | h
   ·obtain⟨ws,hw⟩:=at2.at a h;rw[hw];exact fun z=>nomatch z
   ·obtain⟨h1,h2⟩:=List.mem_filter.mp h;cases hu:H a with
    | none=>exact vDa hu (R.al a h1)
    | some u=>rw[kp a u (of_decide_eq_true h2) hu];exact fun z=>nomatch z)
 have R3:=R2.loSet (i:=i) (q:=q) (l:=l) (ps:=ps') (ls:=ms) (fun j q ls _=>zQ R hi j q ls) pn at2 nd' fun a h=>⟨vIa _ h,(nn a h).1,fun z=>by
  rcases hn a h with y | y
  ·exact(ft a z).2 y
  ·exact Jz.there R (zB z) (s1.none y)⟩
 rw[Uk,vE hs]at R3;exact⟨R3,ss⟩
end
section
variable {X:Cx} {K:Fr} {st:Stmt} {i j k:Nat} {x:Str} {ps:List Str} {p pos:Pos} {e0 e1 e2:Expr} {d0 d2:DE}
noncomputable def Zw(j i:Nat)(F:List (List D)->List D->Option (List (List D)×D))(d0 d2:DE):DS:=fun ρ=>match ρ[i]? with
 | some (.lo q ls)=>(d0 ρ).bind fun a=>(d2 ρ).bind fun b=>(F ls [a,b]).bind fun r=>some (.nx ((ρ.set i (.lo q r.1)).set j (.cl r.2)))
 | _=>none
def Bw(K:Fr)(i:Nat)(F:Addr->List (List D)->List D->Option (List (List D)×D))(d0 d2:DE):TE:=Gy (Ul K F) [] E0 (yb (tE K d0) (yb (yu i) (yb (tE K d2) zJ)))
theorem Qc{F:Addr->List (List D)->List D->Option (List (List D)×D)}{F0:List (List D)->List D->Option (List (List D)×D)}(hF:∀l ls ds r,F0 ls ds=some r->F l ls ds=some r)(h:PS X st (y9 (Bw K i F d0 d2) (yH j))):PS X st (tS K (Zw j i F0 d0 d2)):=jO h fun D σ H xx=>by
 obtain⟨H0,O0,ρ,O,r,R,ed,f⟩:=xx;unfold Zw at ed;split at ed
 ·rename_i q ls hi;obtain⟨a,q0,ed⟩:=j0 ed;obtain⟨b,q2,ed⟩:=j0 ed;obtain⟨⟨ms,rd⟩,q4,ed⟩:=j0 ed;cases ed;obtain⟨l,_,_,hs,_⟩:=R.swap hi;refine⟨H0,O0,ρ,O,a,R,q0,fun v0 H1 s1 r0=>⟨_,hs,H0,O0,ρ,O,b,R.grow s1,q2,fun v2 H2 s2 r2=>?_⟩⟩;have s12:=s1.trans s2;obtain⟨l',ps,O1,hs',lat,nd,al,sub,fin⟩:=(R.grow s12).swap hi;rw[hs]at hs';cases hs';have sd:j1 (j4 H2 O) (j4 H2 (l::ps++O1)):=jP sub;refine⟨O1,l,ps,ls,a,[b],v0,[v2],ms,rd,rfl,lat,nd,al,j3.cons ((r0.same (j9 s2)).same sd) (j3.cons (r2.same sd) j3.nil),hF _ _ _ _ q4,fun ps' H' u s4 nd' hn at2 ru=>?_⟩;obtain⟨R3,s5⟩:=fin H2 H' ps' ms (j1.refl _) s4 nd' hn at2;exact f _ _ _ (R3.set ru j) ((j9 s12).trans s5)
 ·cases ed
theorem Qd{F:Addr->List (List D)->List D->Option (List (List D)×D)}(G:FnI X.prog X.w X.K X.mg X.base k x ps (Ul X.K F))(hr:Room k X.A)(h0:PE X e0 (tE X.K d0))(h1:PE X e1 (yu i))(h2:PE X e2 (tE X.K d2))(n0:∀r:List Expr,starEach (e0::r) X.env=(false,eval e0 X.env)::starEach r X.env)(n1:∀r:List Expr,starEach (e1::r) X.env=(false,eval e1 X.env)::starEach r X.env)(n2:∀r:List Expr,starEach (e2::r) X.env=(false,eval e2 X.env)::starEach r X.env)
  (hg:Gl X x) (hdb:(x==("__debug__" : Str))=false):PE X (.Call (.Name x p) [e0,e1,e2] [] pos) (Bw X.K i F d0 d2):=
 (GE G hr (jz h0 (jz h1 (jz h2 J4 (n2 _)) (n1 _)) (n0 _)) hg hdb (n0 _) (by rw[n1,n2];rfl))
end
end DS
namespace L2
open PySem PySem.Spec PyProof.Rows PySem.Builtin PySem.Builtin.Str
variable {X:Cx}
theorem K4:jt X (compareOp .LtE) (fun x y H Q=>∃i j,x=.str i/\y=.str j/\Q (.bl (!(decide (j.cps.toList < i.cps.toList)))) H):=by
 intro pins s σ H x y v u Q I rx ry h;obtain⟨i,j,rfl,rfl,q⟩:=h;obtain⟨t,rfl⟩:=rx;obtain⟨t',rfl⟩:=ry;exact PySem.P.le_str (jm I q rfl)
theorem Um:ya X (.type "int") (fun xs H Q=>∃x n,xs=[.str x]/\PySem.intText? x=some n/\x.length<=640/\Q (.int n) H):=by
 intro pins s σ H xs us Q I r h;obtain⟨x,n,rfl,h1,h2,q⟩:=h;obtain⟨u,rfl,t,rfl⟩:=zI r;exact PySem.W.KIN.call_text h1 h2 ⟨.int n,H,I.tok _,⟨_,rfl⟩,q⟩
theorem Zx:∀{ts:List Str} {us:List Value},jb (ts.map V.str) us->∃l:List (Str×Tok),strValues l=us/\l.map (·.1)=ts
 | [],_,h=>by cases h;exact⟨[],rfl,rfl⟩
 | x::ts,_,h=>by
  cases h with
  | cons r t=>
   obtain⟨k,rfl⟩:=r;obtain⟨l,e1,e2⟩:=Zx t;exact⟨(x,k)::l,by rw[<-e1];rfl,by rw[<-e2];rfl⟩
theorem ub:∀(l:List (Str×Tok)),jb ((l.map (·.1)).map V.str) (strValues l)
 | []=>.nil
 | (x,t)::l=>.cons ⟨t,rfl⟩ (ub l)
def bS(K:PySem.W.Frag):V->List V->Hp->VK->Prop:=fun x vs H Q=>∃sep p ts,x=.str sep/\vs=[.ref p]/\jj K H p (ts.map V.str)/\JoinOk sep ts=true/\Q (.str (Txt.join sep ts)) H
theorem Qe:Wy X "str.join" (bS X.K):=by
 intro pins s σ H x vs v us Q I rx rv h;obtain⟨sep,p,ts,rfl,rfl,hq,hj,q⟩:=h;obtain⟨t,rfl⟩:=rx;obtain⟨u,rfl,ru⟩:=rv.one;cases ru;obtain⟨its,r',pl,hz⟩:=I.list hq;obtain⟨l,rfl,e⟩:=Zx r';exact SC.join pl.isList e hj fun t' k=>⟨.str _,H,I.tok _,⟨_,rfl⟩,q⟩
def Xy:V->List V->Hp->VK->Prop:=fun x vs H Q=>∃a b,x=.str a/\vs=[.str b]/\1<=b.length/\a.length < sizeLine/\∀p,H p=none->Q (.ref p) (upd H p (.lst ((Txt.split a b).map V.str)))
theorem wx:Wy X "str.split" Xy:=by
 intro pins s σ H x vs v us Q I rx rv h;obtain⟨a,b,rfl,rfl,hb,ha,q⟩:=h;obtain⟨t,rfl⟩:=rx;obtain⟨w',rfl,u,rfl⟩:=rv.one;have hw:=split_weight a b hb;have hy:(b.length==0)=false:=by rw[beq_eq_false_iff_ne];omega
 have fin:∀(l:List (Str×Tok)) (k:Nat),l.map (·.1)=Txt.split a b->EP X pins σ Q (.ref s.heap.objs.size) { s with toks:=k,heap:=s.heap.push { cls:=.type "list",data:=.seq (strValues l).toArray } }:=fun l k e=>by
  have r:=ub l;rw[e]at r;exact⟨.ref s.heap.objs.size,_,I.laid (t':=k) (fun b o e=>wIa _ e) (wPa _) (show J9 X.prog X.w _ _ _ (.lst _) from⟨by rw[List.length_map];omega,strValues l,_,r,wJa _ rfl⟩),rfl,q _ (I.hok.fresh (wPa _))⟩
 cases h1:(decide (a.length < b.length)||decide (strKind a < strKind b))
 ·cases hf:(occurrences a b 0 a.length (a.length+1)).isEmpty
  ·have es:Txt.split a b=partsBetween a (occurrences a b 0 a.length (a.length+1)) b.length:=(if_neg (ne_true_of_eq_false h1)).trans (if_neg (ne_true_of_eq_false hf));have hz2:(partsBetween a (occurrences a b 0 a.length (a.length+1)) b.length).length<=sizeLine:=by rw[<-es];omega
   refine call_meets F.slot_str_split (typeIs_str _ _ _) F.entry_str_split (F.args_str_split_2 _ _) (meets_str_split_sep a b t u h1 hy hf (by omega) hz2) ?_;show wants _ _ _ { s with toks:=_,heap:=s.heap.push { cls:=.type "list",data:=.seq (strsFrom s.toks (partsBetween a (occurrences a b 0 a.length (a.length+1)) b.length)).toArray } };rw[strsFrom_eq];exact fin (numbered s.toks _) _ ((numbered_texts _ _).trans es.symm)
  ·exact call_meets F.slot_str_split (typeIs_str _ _ _) F.entry_str_split (F.args_str_split_2 _ _) (meets_str_split_not_found a b t u h1 hy hf) (fin [(a,t)] _ ((if_neg (ne_true_of_eq_false h1)).trans (if_pos hf)).symm)
 ·exact call_meets F.slot_str_split (typeIs_str _ _ _) F.entry_str_split (F.args_str_split_2 _ _) (meets_str_split_cannot_occur a b t u h1) (fin [(a,t)] _ (if_pos h1).symm)
def bT:V->List V->Hp->VK->Prop:=fun x vs H Q=>∃a b,x=.str a/\vs=[.str b]/\1<=b.length/\a.length < sizeLine/\∀p,H p=none->Q (.ref p) (upd H p (.tup [.str (Txt.partition a b).1,.str (Txt.partition a b).2.1,.str (Txt.partition a b).2.2]))
theorem Qf:Wy X "str.partition" bT:=by
 intro pins s σ H x vs v us Q I rx rv h;obtain⟨a,b,rfl,rfl,hb,ha,q⟩:=h;obtain⟨t,rfl⟩:=rx;obtain⟨w',rfl,u,rfl⟩:=rv.one;have hy:(b.length==0)=false:=by rw[beq_eq_false_iff_ne];omega
 have fin:∀(k ta tb tc:Nat),EP X pins σ Q (.ref s.heap.objs.size) { s with toks:=k,heap:=s.heap.push { cls:=.type "tuple",data:=.seq [.str (Txt.partition a b).1 ta,.str (Txt.partition a b).2.1 tb,.str (Txt.partition a b).2.2 tc].toArray } }:=fun k ta tb tc=>
  ⟨.ref s.heap.objs.size,_,I.laid (t':=k) (fun b o e=>wIa _ e) (wPa _) (show J9 X.prog X.w _ _ _ (.tup _) from⟨by show 3<=sizeLine;decide,[.str (Txt.partition a b).1 ta,.str (Txt.partition a b).2.1 tb,.str (Txt.partition a b).2.2 tc],.cons (show jh (.str _) _ from⟨ta,rfl⟩) (.cons (show jh (.str _) _ from⟨tb,rfl⟩) (.cons (show jh (.str _) _ from⟨tc,rfl⟩) .nil)),IsTup.new _ _⟩),rfl,q _ (I.hok.fresh (wPa _))⟩
 refine call_meets F.slot_str_partition (typeIs_str _ _ _) F.entry_str_partition (F.args_str_partition_2 _ _) (meets_str_partition a b t u hy (by omega)) ?_;unfold Txt.partition at fin
 revert fin
 cases occurrences a b 0 a.length 1 with
 | nil=>intro fin;exact fin _ _ _ _
 | cons i r=>intro fin;exact fin _ _ _ _
end L2
namespace DS
open PySem PySem.Spec PyProof.Rows L2
@[simp] noncomputable def Yj(de:DE)(ρ:j7):Option D:=(de ρ).bind fun x=>match x with
 | .int i=>if i.natAbs.log2 < 1920 then some (.str (toString i))else none
 | .str y=>if y.length<=sizeLine then some (.str y)else none
 | _=>none
noncomputable def gQ:List DE->Str->DI
 | [],acc,_=>some [.str acc]
 | d::ds,acc,ρ=>(d ρ).bind fun x=>match x with
  | .str y=>if (acc++y).length<=sizeLine then gQ ds (acc++y) ρ else none
  | _=>none
def zS(ds:List DE):DE:=fun ρ=>(gQ ds Str.empty ρ).bind fun l=>match l with
 | [.str y]=>if y.length<=sizeLine then some (.str y)else none
 | _=>none
inductive PFs (X:Cx) (K:Fr):List Expr->List DE->Prop
 | nil:PFs X K [] []
 | cons {e:Expr} {d:DE} {es:List Expr} {ds:List DE}:PE X e (tE K d)->PFs X K es ds->PFs X K (e::es) (d::ds)
section
variable {X:Cx} {K:Fr} {e:Expr} {de:DE} {pos:Pos}
theorem Cj(h:PE X e (tE K de)):PE X (.FormattedValue e (-1) none pos) (tE K (Yj de)):=fun pins s σ H Q I xx=>by
 obtain⟨H0,O0,ρ,O,d,R,ed,q⟩:=xx;obtain⟨x,e1,ed⟩:=j0 ed;refine wpAny_FormattedValue_plain (jg (h pins s σ H (fun v H'=>j1 H H'/\j5 K (j4 H' O) x v) I ⟨H0,O0,ρ,O,x,R,e1,fun v H' s' r=>⟨s',r⟩⟩) fun v s1 yy=>?_)
 obtain⟨w,H1,I1,rv,ss,r⟩:=yy;cases x with
 | int i=>
  dsimp only at ed;split at ed
  ·rename_i hz;cases ed;rw[j5]at r;subst r;obtain⟨t,rfl⟩:=rv;exact wpAny_formatField_int hz ⟨.str _,H1,I1.tok _,⟨_,rfl⟩,q _ H1 ss (by rw[j5])⟩
  ·cases ed
 | str y=>
  dsimp only at ed;split at ed
  ·rename_i hz;cases ed;rw[j5]at r;subst r;obtain⟨t,rfl⟩:=rv;have fin:∀t' tk,EP X pins σ Q (.str y t') { s1 with toks:=tk }:=fun t' tk=>⟨.str y,H1,I1.tok _,⟨_,rfl⟩,q _ H1 ss (by rw[j5])⟩
   exact PyProof.Rows.formatField_str fin hz
  ·cases ed
 | _=>cases ed
theorem wy{es:List Expr}{ds:List DE}(h:PFs X K es ds):∀{acc:Str} {out:List D} {pins:List (Addr×Obj)} {s:Shared} {σ:L2.St} {H H0:Hp} {O0 O:List Addr} {ρ:j7} {Q:Str->Shared->Prop},Inv X pins σ H s->Rel K H0 O0 ρ σ H O->gQ ds acc ρ=some out->
  (∀s' H' y,j1 H H'->Inv X pins σ H' s'->out=[.str y]->Q y s')->Joins (model X.prog X.w) X.A X.xe (evalEach es X.env) acc Q s:=by
 induction h with
 | nil=>
  intro acc out pins s σ H H0 O0 O ρ Q I R ed q;exact q s H acc (j1.refl H) I (by cases ed;rfl)
 | @cons e d es ds he _ ih=>
  intro acc out pins s σ H H0 O0 O ρ Q I R ed q;obtain⟨x,e1,ed⟩:=j0 ed;cases x with
  | str y=>
   dsimp only at ed;split at ed
   ·rename_i hz;refine jg (he pins s σ H (fun v H'=>j1 H H'/\v=.str y) I ⟨H0,O0,ρ,O,_,R,e1,fun v H' s' r=>⟨s',by rw[j5]at r;exact r⟩⟩) fun v s1 yy=>?_;obtain⟨w,H1,I1,rv,ss,rfl⟩:=yy;obtain⟨t,rfl⟩:=rv;exact⟨y,t,rfl,hz,ih I1 (R.grow ss) ed fun s' H' z s2 I' ez=>q s' H' z (ss.trans s2) I' ez⟩
   ·cases ed
  | _=>cases ed
theorem Xz{v1 v2:Expr}{rest:List Expr}{ds:List DE}(h:PFs X K (v1::v2::rest) ds):PE X (.JoinedStr (v1::v2::rest) pos) (tE K (zS ds)):=fun pins s σ H Q I xx=>by
 obtain⟨H0,O0,ρ,O,d,R,ed,q⟩:=xx;obtain⟨l,e1,ed⟩:=j0 ed;refine wpAny_JoinedStr (wy h I R e1 fun s' H' y ss I' el=>?_);subst el;dsimp only at ed;split at ed
 ·rename_i hz;cases ed;exact⟨hz,.str y,H',I'.tok _,⟨_,rfl⟩,q _ H' ss (by rw[j5])⟩
 ·cases ed
def XA(x:Str):It:=⟨fun i _=>i < x.cps.size,fun i H v H'=>H'=H/\∃c,x.cps[i]?=some c/\v=.str ⟨#[c]⟩,fun i _=>x.cps.size<=i⟩
theorem Qg{x:Str}{i:Nat}(h:i < x.cps.size):x.cps[i]?=some x.cps[i]:=by simp[h]
theorem wz{P:Program}{w:World}{K:PySem.W.Frag}{tg:Expr}(it:Addr)(x:Str)(t:Tok)(ty:String)(hty:ty = "str_ascii_iterator" ∨ty = "str_iterator"):Turn P w K tg (XA x) [it] it (fun i h=>h.IsStrIter it ty x t i) where
 mem:=by simp
 obj:=fun i h st b hb=>by
  have e:b=it:=by simpa using hb
  subst e;obtain⟨o,e,c,d⟩:=st;exact⟨o,e,fun v z=>by rw[d]at z;cases z⟩
 keep:=fun i h h' st k=>by
  obtain⟨o,e,c⟩:=st;exact⟨o,k it (by simp) o e,c⟩
 item:=by
  intro X hP hw hK hc i pins s σ H E I hf st hg;subst hP hw hK;have hx:=Qg (show i < x.cps.size from hg);obtain⟨f0,f1,f2,f3,f4,f5⟩:=hf it (by simp);have fin:∀(h':Heap),h'.IsStrIter it ty x t (i+1)->Heap.SameBut it s.heap h'->∃u,some (Value.str ⟨#[x.cps[i]]⟩ s.toks)=some u/\wpAny (model X.prog X.w) X.A (letOwnedTupleGo tg (.ref it) u) (fun _ s2=>∃v H',Inv X pins σ H' s2/\jh v u/\(XA x).yld i H v H'/\s2.heap.IsStrIter it ty x t (i+1)/\∀b∈[it],H' b=none) E { s with heap:=h',toks:=s.toks+1 }:=fun h' st' sb=>by
   have I1:Inv X pins σ H { s with heap:=h',toks:=s.toks+1 }:=I.turned (t':=s.toks+1) (fun b o hb e=>(sb.2 b hb).trans e) f0 f1 f3 f4 f5;obtain⟨o,e,c,d⟩:=id st';exact⟨_,rfl,uB (s:={ s with heap:=h',toks:=s.toks+1 }) e c d (by rcases hty with rfl | rfl <;> decide) ⟨.str ⟨#[x.cps[i]]⟩,H,I1,⟨_,rfl⟩,⟨rfl,_,hx,rfl⟩,st',fun b hb=>(hf b hb).1⟩⟩
  rcases hty with rfl | rfl
  ·exact wpAny_pyNext_ascii_item st hx fin
  ·exact wpAny_pyNext_wide_item st hx fin
 done:=by
  intro X hP hw hK hc i pins s σ H E I hf st hg;subst hP hw hK;have hx:x.cps[i]?=none:=by simpa using (show x.cps.size<=i from hg)
  obtain⟨f0,f1,f2,f3,f4,f5⟩:=hf it (by simp);have fin:∀h',Heap.ExtBut it s.heap h'->(none:Option Value)=none/\Inv X pins σ H { s with heap:=h' }:=fun h' eb=>⟨rfl,I.turned (t':=s.toks) (fun b o hb e=>eb b o hb e) f0 f1 f3 f4 f5⟩
  rcases hty with rfl | rfl
  ·exact wpAny_pyNext_ascii_end (I.ok.hd hc) st hx fin
  ·exact wpAny_pyNext_wide_end (I.ok.hd hc) st hx fin
 self:=fun _ _ _ _ _ st h=>by
  rcases hty with rfl | rfl
  ·exact wpAny_pyIter_striter_ascii st h
  ·exact wpAny_pyIter_striter_wide st h
noncomputable def Uo(x:Str):List D:=x.cps.toList.map fun c=>D.str ⟨#[c]⟩
@[simp] def wA(de:DE)(ρ:j7):Option (List D):=(de ρ).bind fun d=>match d with
 | .str x=>some (Uo x)
 | _=>none
theorem XB{H0 H:Hp}{O0 O:List Addr}(x:Str):Uc K (XA x) H0 O0 H O (Uo x):=fun i H' O' _ _ _ _=>by
 have hl:(Uo x).length=x.cps.size:=by simp[Uo]
 refine⟨fun d hd=>?_,fun hi=>by show x.cps.size<=i;omega⟩;have hi:i < x.cps.size:=by have:=(List.getElem?_eq_some_iff.mp hd).1;omega
 refine⟨hi,fun v H'' yy=>?_⟩;obtain⟨rfl,c,hc,rfl⟩:=yy;unfold Uo at hd;rw[List.getElem?_map]at hd;have:x.cps.toList[i]?=some c:=by simpa using hc
 rw[this]at hd;cases hd;exact⟨j1.refl _,by rw[j5]⟩
theorem bU{tg:Expr}(h:PE X e (tP K de))(hK:X.K=K:=by rfl):PI X tg e (Yh K (wA de)):=fun pins s σ H R I xx=>by
 subst hK;obtain⟨H0,O0,ρ,O,items,Re,ed,q⟩:=xx;obtain⟨d,e1,ed⟩:=j0 ed;cases d with
 | str x=>
  cases ed;refine jg (h pins s σ H (fun v H'=>j1 H H'/\v=.str x) I ⟨H0,O0,ρ,O,_,Re,e1,fun v H' s' r=>⟨s',?_⟩⟩) fun v s1 yy=>?_
  ·have R1:=Re.grow s';exact(r.at R1.keep R1.in0 (j1.refl _)).str
  ·obtain⟨w,H1,I1,rv,ss,rfl⟩:=yy;obtain⟨t,rfl⟩:=rv;refine wpAny_pyIter_strU ?_;refine⟨s1.heap.objs.size,[s1.heap.objs.size],_,_,H1,rfl,I1.kept (t':=s1.toks) fun b o e=>wIa _ e,wz _ x t (strIterType x) (by unfold strIterType;split <;> simp),⟨_,wJa _ rfl,rfl,rfl⟩,fun b hb=>?_,q _ H1 ss (XB x)⟩;have e:b=s1.heap.objs.size:=by simpa using hb
   subst e;exact I1.fpOk (wPa _) (I1.hok.fresh (wPa _))
 | _=>cases ed
end
end DS
namespace L2
open PySem PySem.Spec PyProof.Rows
section
variable {prog:Program} {w:World} {A:Around} {E:Value->Shared->Prop} {s:Shared}
theorem GU{I:Addr}{fp wr:List Addr}{n:Nat}{P:Nat->Value->Prop}{T:Nat->Heap->Prop}(W:Walks prog w A I fp wr (n+1) P T):Walks prog w A I fp wr n (fun i=>P (i+1)) (fun i=>T (i+1)) where
 sub:=W.sub
 frame:=fun i h h'=>W.frame (i+1) h h'
 item:=fun i s Q E hi st hQ=>W.item (i+1) s Q E (by omega) st hQ
 done:=fun s Q E st hQ=>W.done s Q E st hQ
 self:=fun i s Q E st hQ=>W.self (i+1) s Q E st hQ
theorem gc{p:Addr}{x:Value}{its:List Value}{R:List Value->Shared->Prop}(hh:A.handled=none)(hp:s.heap.IsList p (x::its).toArray)(hz:its.length<=sizeLine)
  (hR:∀(h':Heap) (tk:Nat),(∀b o,s.heap.get? b=some o->h'.get? b=some o)->R [x,.ref h'.objs.size] { s with heap:=h'.push { cls:=.type "list",data:=.seq its.toArray },toks:=tk }):wpAny (model prog w) A (unpackItems (.ref p) 2 (some 1)) R E s:=by
 have ne:p≠s.heap.objs.size:=by obtain⟨o,ho,_⟩:=hp;exact wTa (wLa ho)
 unfold unpackItems;refine wAa ?_;unfold notIterableAtAll;refine wAa (wpAny_specialOf hp.typeIs slot_list_iter.lookup (wBa ?_));simp only[Bool.false_eq_true,if_false];refine wAa (wDa (wpAny_pyIter_list hp ?_));have it0:(s.heap.push { cls:=.type "list_iterator",data:=.fields #[.ref p,.int 0 0] }).IsListIter s.heap.objs.size p 0:=⟨_,wJa _ rfl,rfl,rfl⟩
 have hp0:=hp.push { cls:=.type "list_iterator",data:=.fields #[.ref p,.int 0 0] };show wpAny _ _ (holding [.ref s.heap.objs.size] (draw (.ref s.heap.objs.size) 1) >>= _) _ _ _;refine wAa (wDa ?_);show wpAny _ _ (pyNext (.ref s.heap.objs.size) >>= _) _ _ _;refine wAa (wpAny_pyNext_list_item it0 hp0 (x:=x) (by simp) fun h1 it1 sb1=>?_);refine wAa (wDa (wBa (wBa ?_)));rw[if_neg (by simp)];have hp1:h1.IsList p (x::its).toArray:=hp0.extBut sb1.extBut ne;have W0:=Walks.list (prog:=prog) (w:=w) (A:=A.in1) hh s.heap.objs.size p ne (x::its).toArray;have W1:Walks prog w A.in1 s.heap.objs.size [s.heap.objs.size,p] [s.heap.objs.size] (its.length+1) (fun i v=>(x::its).toArray[i]?=some v) (fun i h=>h.IsListIter s.heap.objs.size p i/\h.IsList p (x::its).toArray):=by
  have:=W0;simpa using this
 have W2:=GU W1;have lt1:∀b∈[s.heap.objs.size,p],b < h1.objs.size:=fun b hb=>by
  have e1:h1.objs.size=s.heap.objs.size+1:=sb1.1.trans (Heap.size_push ..);obtain⟨o,ho,_⟩:=hp;rw[e1];rcases List.mem_cons.mp hb with h | h
  ·rw[h];exact Nat.lt_succ_self _
  ·rw[List.mem_singleton.mp h];exact Nat.lt_succ_of_lt (wLa ho)
 refine wAa (wDa (wpAny_collect_iter (T := "list_iterator") (by simp) W2.toS (fun i s st=>by obtain⟨o,ho,hc,_⟩:=st.1;exact⟨o,ho,hc⟩) ⟨it1,hp1⟩ lt1 (by simp) (fun s' acc mv ac=>?_) hz));obtain⟨h',g',d',tk',os'⟩:=s';obtain⟨mh,mg,md,mo,mt⟩:=mv;dsimp only at mg md mo;subst mg md mo;have ea:acc.toList=its:=by
  apply List.ext_getElem?;intro j;by_cases hj:j < its.length
  ·have hs:j < acc.size:=by rw[ac.1];exact hj
   have h2:=ac.2 j acc[j] (by simp[hs]);have h3:acc.toList[j]?=some acc[j]:=by simp[hs]
   rw[h3,<-h2];simp
  ·rw[List.getElem?_eq_none (by simp[ac.1];omega),List.getElem?_eq_none (by omega)]
 rw[ea];have kp:∀b o,s.heap.get? b=some o->h'.get? b=some o:=fun b o e=>by
  have nb:b≠s.heap.objs.size:=wTa (wLa e);exact mh b o (by simpa using nb) (sb1.extBut b o nb (wIa _ e))
 rw[if_neg (by simp)];simp only[Nat.sub_self,Nat.sub_zero,List.take_length,List.drop_length,List.append_nil];refine wAa (vTa ?_ hz);exact wBa (hR h' tk' kp)
end
end L2
namespace L2
open PySem PySem.Spec PyProof.Rows
open AutoSeq1 (wpAny_loadPart')
theorem wB(a v:Value):checkTypeCall "enumerate" ⟨[a],[("start",v)]⟩=pure ():=by kernel_rfl
theorem wC(a v:Value):checkBuiltinCall "enumerate.__new__" ⟨[.type "enumerate",a],[("start",v)]⟩=pure ():=by kernel_rfl
theorem K5(l:Addr)(xs:Array Value)(c:Nat)(dx:Option Addr)(sl:Array (Option Value))(k:Tok):
  Meets (Builtin.«enumerate.__new__» ⟨[.type "enumerate",.ref l],[("start",.int 1 k)]⟩) (fun _ R s=>s.heap.get? l=some { cls:=.type "list",dict:=dx,data:=.seq xs c,slots:=sl }/\
   R (.ok (.ret (.ref (s.heap.push { cls:=.type "list_iterator",data:=.fields #[.ref l,.int 0 0] }).objs.size)))
    { s with heap:=(s.heap.push { cls:=.type "list_iterator",data:=.fields #[.ref l,.int 0 0] }).push { cls:=.type "enumerate",data:=.fields #[.none,.bool false,.ref s.heap.objs.size,rawInt 1,.none,.none] } }):=by
 refine .of_wp fun prog w A R s h=>?_;obtain⟨hp,g,d,tk,os⟩:=s;obtain⟨hl,h⟩:=h;have hsub:=sub_enumerate;have hL:Heap.IsList (Shared.heap ⟨hp,g,d,tk,os⟩) l xs:=⟨_,hl,rfl,c,rfl⟩
 wp_walk using wpAny_loadPart' hl
 refine wpAny_stack_any fun st=>wBa ?_;split
 ·rename_i c' _ _ _ _ _;cases (c'==Value.type "enumerate")
  ·wp_walk using wpAny_loadPart' hl,wpAny_pyIter_list hL
   exact⟨_,rfl,h⟩
  ·wp_walk using wpAny_loadPart' hl,wpAny_pyIter_list hL
   exact⟨_,rfl,h⟩
 ·wp_walk using wpAny_loadPart' hl,wpAny_pyIter_list hL
  exact⟨_,rfl,h⟩
end L2
namespace L2
open PySem PySem.Spec PyProof.Rows
section
variable {prog:Program} {w:World} {A:Around} {E:Value->Shared->Prop} {s:Shared}
theorem wD(a b v:Value):argsOk "object.__init__" ⟨[a,b],[("start",v)]⟩:=by
 unfold argsOk;rw[signature?_of (id := "object.__init__") (n:=['_','_','t','i','n','i','_','_']) (o:=['t','c','e','j','b','o']) (by kernel_rfl) PySem.F.owner_object];kernel_rfl
theorem wE{self a v:Value}:Meets (Builtin.«object.__init__» ⟨[self,a],[("start",v)]⟩) (fun _ R s=>s.TypeIs self "enumerate" /\R (.ok (.ret .none)) s):=by
 refine Meets.of_wp fun prog w A R s hs=>?_;obtain⟨hT,hq⟩:=hs;have hl:=PySem.F.called_enumerate.init.lookup;have hm:=PySem.F.called_enumerate.made
 repeat (any_goals (first | assumption | wp_step))
 exact⟨_,rfl,hq⟩
theorem GV{l:Addr}{xs:Array Value}{k:Tok}{Q:Value->Shared->Prop}(hL:s.heap.IsList l xs)
  (h:∀h',IsEnum h' (s.heap.objs.size+1) s.heap.objs.size 1 .none->h'.IsListIter s.heap.objs.size l 0->(∀b o,s.heap.get? b=some o->h'.get? b=some o)->Q (.ref (s.heap.objs.size+1)) { s with heap:=h' }):
  wpAny (model prog w) A (call (.type "enumerate") [.ref l] [("start",.int 1 k)]) Q E s:=by
 obtain⟨⟨c,dx,dt,sl⟩,hl,hc,n,hd⟩:=hL;have hc:c=.type "list" := hc;have hd:dt=.seq xs n:=hd;subst hc hd;have ft:=PySem.F.called_enumerate;obtain⟨c,tl,hmro⟩:=ft.mro;have hmade:=ft.made;have hsub:=ft.sub;refine wpAny_call (codeAny_of_tree ?_);show wpAny _ _ (callAny (.type "enumerate") _) _ _ _;refine wBa ⟨Code.quiet_builtin _ (by decide +kernel),codeAny_builtin PySem.F.entry_type_call ?_⟩;rw[Around.under_plain (weight_type_call_type "enumerate" [.ref l] [("start",.int 1 k)]) (units_type_call_type "enumerate" [.ref l] [("start",.int 1 k)])];have h1:=ft.notType;have h2:=ft.canCreate;have hct:=wB (.ref l) (.int 1 k)
 repeat (any_goals (first | assumption | wp_step))
 have hz:(s.heap.push { cls:=.type "list_iterator",data:=.fields #[.ref l,.int 0 0] }).objs.size=s.heap.objs.size+1:=Heap.size_push ..
 let G:Result->Shared->Prop:=fun r s'=>r=.ok (.ret (.ref (s.heap.objs.size+1)))/\s'={ s with heap:=(s.heap.push { cls:=.type "list_iterator",data:=.fields #[.ref l,.int 0 0] }).push { cls:=.type "enumerate",data:=.fields #[.none,.bool false,.ref s.heap.objs.size,rawInt 1,.none,.none] } }
 have kk:=K5 l xs n dx sl k prog w A.in1 G s ⟨hl,by rw[hz],rfl⟩;refine codeAny_mono (codeAny_call_builtin (R:=G) ft.plain PySem.F.entry_enumerate_new (wpAny_of_eq (wC (.ref l) (.int 1 k)) kk)) fun r s1 hr=>?_;obtain⟨rfl,rfl⟩:=hr;have e1:((s.heap.push { cls:=.type "list_iterator",data:=.fields #[.ref l,.int 0 0] }).push { cls:=.type "enumerate",data:=.fields #[.none,.bool false,.ref s.heap.objs.size,rawInt 1,.none,.none] }).get? (s.heap.objs.size+1)=some { cls:=.type "enumerate",data:=.fields #[.none,.bool false,.ref s.heap.objs.size,rawInt 1,.none,.none] }:=by rw[<-hz];exact wJa _ rfl
 have hT:Shared.TypeIs { s with heap:=(s.heap.push { cls:=.type "list_iterator",data:=.fields #[.ref l,.int 0 0] }).push { cls:=.type "enumerate",data:=.fields #[.none,.bool false,.ref s.heap.objs.size,rawInt 1,.none,.none] } } (.ref (s.heap.objs.size+1)) "enumerate" := ⟨_,e1,rfl⟩
 have fin:=h _ e1 ⟨_,wIa _ (wJa _ rfl),rfl,rfl⟩ fun b o e=>wIa _ (wIa _ e);generalize (s.heap.push { cls:=.type "list_iterator",data:=.fields #[.ref l,.int 0 0] }).push { cls:=.type "enumerate",data:=.fields #[.none,.bool false,.ref s.heap.objs.size,rawInt 1,.none,.none] }=h' at hT fin⊢;clear kk e1 hl;have hli:=ft.init.lookup;have hbi:=ft.init.bind (.ref (s.heap.objs.size+1))
 repeat (any_goals (first | assumption | wp_step))
 let G2:Result->Shared->Prop:=fun r s'=>r=.ok (.ret .none)/\s'={ s with heap:=h' }
 have k2:=wE (self:=.ref (s.heap.objs.size+1)) (a:=.ref l) (v:=.int 1 k) prog w A.in1 G2 { s with heap:=h' } ⟨hT,rfl,rfl⟩;refine codeAny_mono (codeAny_call_builtin (R:=G2) ft.init.plain PySem.F.entry_object_init (ft.init.check _ _ _ _ _ _ _ _ hT (wD _ _ _) k2)) fun r s2 hr=>?_;obtain⟨rfl,rfl⟩:=hr
 repeat (any_goals (first | assumption | wp_step))
end
theorem wF{prog:Program}{w:World}{A:Around}{it:Addr}{fp:List Addr}{n:Nat}{P:Nat->Value->Prop}{T:Nat->Heap->Prop}(D:Draws prog w A it fp n P T):Draws prog w A it fp (n+1) (fun j v=>∃i,j=i+1/\P i v) (fun j h=>∃i,j=i+1/\T i h) where
 live:=fun j h x=>by obtain⟨i,_,t⟩:=x;exact D.live i h t
 frame:=fun j h h' x k=>by obtain⟨i,e,t⟩:=x;exact⟨i,e,D.frame i h h' t k⟩
 item:=fun j s Q E hj x hQ=>by
  obtain⟨i,rfl,t⟩:=x;exact D.item i s Q E (by omega) t fun v h' tk p t' sb=>hQ v h' tk ⟨i,rfl,p⟩ ⟨i+1,rfl,t'⟩ sb
 done:=fun s Q E x hE=>by
  obtain⟨i,e,t⟩:=x;have:i=n:=by omega
  subst this;exact D.done s Q E t hE
def XC(K:PySem.W.Frag)(a:Addr):It:=
 ⟨fun i H=>∃xs x,jj K H a xs/\xs[i]?=some x,fun i H v H'=>∃p,H p=none/\v=.ref p/\∀xs x,jj K H a xs->xs[i]?=some x->H'=upd H p (.tup [.int ((i:Int)+1),x]),fun i H=>∃xs,jj K H a xs/\xs.length<=i⟩
theorem GW{P:Program}{w:World}{K:PySem.W.Frag}{es:List Expr}{x1:Nat}{tp:Pos}{a e it:Addr}(hei:e≠it)(hle:a≠e)(hli:a≠it):
  Turn P w K (.Tuple es x1 tp) (XC K a) [e,it] e (fun i h=>(∃old,IsEnum h e it ((i+1:Nat):Int) old)/\h.IsListIter it a i) where
 mem:=by simp
 obj:=fun i h st c hc=>by
  obtain⟨⟨old,s1⟩,s2⟩:=st;rcases List.mem_cons.mp hc with rfl | hc
  ·exact⟨_,s1,fun v z=>by cases z⟩
  ·rw[List.mem_singleton.mp hc];obtain⟨o,ho,_,d⟩:=s2;exact⟨o,ho,fun v z=>by rw[d]at z;cases z⟩
 keep:=fun i h h' st kk=>by
  obtain⟨⟨old,s1⟩,s2⟩:=st;exact⟨⟨old,kk e (by simp) _ s1⟩,s2.at fun o z=>kk it (by simp) o z⟩
 item:=by
  intro X hP hw hK hc i pins s σ H E I hf st hg;subst hP hw hK;obtain⟨⟨old,s1⟩,s2⟩:=st;obtain⟨xs,x,qa,ex⟩:=hg;obtain⟨ia,ra,pa,_⟩:=I.list qa;obtain⟨ux,eux,rx⟩:=ra.get ex;have D:=wF (Draws.list (prog:=X.prog) (w:=X.w) (A:=X.A.in1) (I.ok.hd hc) it a hli ia.toArray);have lt1:e < s.heap.objs.size:=wLa s1;have lt2:it < s.heap.objs.size:=by obtain⟨o,ho,_⟩:=s2;exact wLa ho
  refine wpAny_pyNext_enum_itemD D s1 ⟨i,rfl,s2,pa.isList⟩ (by have:=(List.getElem?_eq_some_iff.mp eux).1;simp;omega) hei (by simp[hei,hle.symm]) fun y h' tk hy b1 b2 b3 b4 bk=>?_;obtain⟨i',e',hy⟩:=hy;have e':i'=i:=by omega
  subst e';have ey:y=ux:=by
   have:ia[i']?=some y:=by simpa using hy
   rw[eux]at this;cases this;rfl
  subst ey;obtain⟨i2,e2,b2,_⟩:=b2;have e2:i2=i' + 1:=by omega
  subst e2;refine⟨_,rfl,wpAny_letOwnedTupleGo_enum b1 fun h2 c1 c2=>?_⟩;have kp:∀c o,c∉[e,it]->s.heap.get? c=some o->h2.get? c=some o:=fun c o hc z=>by
   simp only[List.mem_cons,List.not_mem_nil,or_false,not_or]at hc;exact c2.extBut c o hc.1 (bk c o hc.1 hc.2 z)
  have ht:IsTup h2 s.heap.objs.size ([.int ((i' + 1:Nat):Int) tk,y]:List Value).toArray:=⟨_,c2.extBut _ _ (Nat.ne_of_gt lt1) b3,rfl,_,rfl⟩
  have I2:=I.tupled (t':=tk+1) (h':=h2) rfl hf kp (vs:=[.int ((i' + 1:Nat):Int),x]) (us:=[.int ((i' + 1:Nat):Int) tk,y]) (.cons ⟨_,rfl⟩ (.cons rx .nil)) yV ht;refine⟨.ref s.heap.objs.size,_,I2,rfl,⟨s.heap.objs.size,I.hok.fresh (wPa _),rfl,fun xs' x' qa' ex'=>?_⟩,⟨⟨y,by simpa using c1⟩,b2.at fun o z=>c2.extBut _ o hei.symm z⟩,fun c hc=>?_⟩
  ·rw[I.list_inj qa' qa,ex]at ex';cases ex';rfl
  ·have q:=(hf c hc).1;rw[jc ?_]
   ·exact q
   ·intro z;rcases List.mem_cons.mp hc with rfl | hc
    ·rw[z]at lt1;exact wUa _ lt1
    ·rw[List.mem_singleton.mp hc]at z;rw[z]at lt2;exact wUa _ lt2
 done:=by
  intro X hP hw hK hc i pins s σ H E I hf st hg;subst hP hw hK;obtain⟨⟨old,s1⟩,s2⟩:=st;obtain⟨xs,qa,hend⟩:=hg;obtain⟨ia,ra,pa,_⟩:=I.list qa;have la:=ra.length;have D:Draws X.prog X.w X.A.in1 it [it,a] 0 (fun _ _=>False) (fun _ h=>h.IsListIter it a i/\h.IsList a ia.toArray):=
   ⟨fun _ _ t=>by obtain⟨o,ho,_⟩:=t.1;exact⟨o,ho⟩,fun _ h h' t k=>⟨t.1.at fun o z=>k it (by simp) o z,t.2.at fun o z=>k a (by simp) o z⟩,fun _ _ _ _ z=>vDa z (Nat.not_lt_zero _),fun s Q E t hE=>wpAny_nextOf_list_end (I.ok.hd hc) t.1 t.2 (by simp;omega) hE⟩
  refine wpAny_pyNext_enum_endD D s1 ⟨s2,pa.isList⟩ fun h' bk=>⟨rfl,?_⟩
  refine I.turnedL (t':=s.toks) (ch:=[e,it]) hf fun c o hc z=>?_;simp only[List.mem_cons,List.not_mem_nil,or_false,not_or]at hc;exact bk c o hc.2 z
 self:=fun _ _ _ _ _ st h=>by
  obtain⟨⟨old,s1⟩,s2⟩:=st;exact wpAny_pyIter_enum s1 h
def XD(K:PySem.W.Frag)(ta:TA):TI:=fun σ H R=>ta σ H fun vs H1=>∃a xs,vs=[.ref a]/\jj K H1 a xs/\R (XC K a) H1
theorem vF{M:Model}{A:Around}{E:Value->Shared->Prop}{s:Shared}{pos:Pos}{T:String}{args:List (Bool×Sem Value)}{kws:List (Option Str×Sem Value)}{Q:Value->Shared->Prop}(h1:args.any (·.1)=false)(h2:kws.any (·.1.isNone)=false)
  (h:wpAny M A (evalArgs (.type T) true args kws) (fun a s1=>wpAny M A (call (.type T) a.pos a.kw) Q E s1) E s):wpAny M A (callWith pos (.type T) [] args kws) Q E s:=by
 unfold callWith;refine wAa (wDa (jg h fun a s1 q=>wAa (vOa ?_)));simp only[h1,h2,Bool.or_false];refine wAa (wBa ?_);exact wAa (jg q fun r s2 hr=>wAa (wDa (wpAny_point (wBa hr))))
theorem wG{X:Cx}{es:List Expr}{x1:Nat}{tp:Pos}{e1:Expr}{ta:TA}{p pos kp cp:Pos}{kk:Nat}(hg:Gl X "enumerate")(hm:X.mg "enumerate" = none)(ha:PA X [e1] ta)(hs:starEach [e1] X.env=[(false,eval e1 X.env)]):
  PI X (.Tuple es x1 tp) (.Call (.Name "enumerate" p) [e1] [⟨some "start",.Constant (.int 1) kk cp,kp⟩] pos) (XD X.K ta):=by
 intro pins s σ H R I h;refine wpAny_Call_Name_kw (yT I hg hm u6 ?_ (by decide) (by decide));refine vF (by rw[hs];rfl) rfl ?_;have hA:=ha pos pins s σ H _ I h;rw[hs]at hA⊢;refine evalArgs_kwB rfl (jg hA fun us s1 xx=>?_);obtain⟨vs,H1,I1,r1,q1⟩:=xx;obtain⟨a,xs,rfl,qa,q⟩:=q1;cases r1 with
 | cons r rr=>
  cases rr;cases r;refine kws_cons (wpAny_Constant_int ?_);refine kws_nil ?_;obtain⟨ia,ra,pa,_⟩:=I1.list qa;have lt:a < s1.heap.objs.size:=by obtain⟨o,ho,_⟩:=pa.isList;exact wLa ho
  refine GV pa.isList fun h' b1 b2 bk=>?_;refine wpAny_pyIter_enum b1 ?_;have fr:∀m,jY X pins H1 (s1.heap.objs.size+m):=fun m=>I1.fpOk (vKa _ _) (I1.hok.fresh (vKa _ _));refine⟨_,_,_,_,H1,rfl,I1.kept (t':=s1.toks+1) bk,GW (a:=a) (e:=s1.heap.objs.size+1) (it:=s1.heap.objs.size) (Nat.ne_of_gt (Nat.lt_succ_self _)) (wTa (Nat.lt_succ_of_lt lt)) (wTa lt),⟨⟨_,b1⟩,b2⟩,fun c hc=>?_,q⟩;rcases List.mem_cons.mp hc with rfl | hc
  ·exact fr 1
  ·rw[List.mem_singleton.mp hc];exact fr 0
end L2
namespace DS
open PySem PySem.Spec PyProof.Rows L2
section
variable {X:Cx} {K:Fr} {a:Expr} {da:DE} {pos:Pos}
@[simp] def Ve(de:DE)(ρ:j7):Option (List D):=(de ρ).bind fun d=>(V6 d).bind fun l=>some (Jh 1 l)
theorem Qh{es:List Expr}{x1:Nat}{tp p kp cp:Pos}{kk:Nat}(hg:Gl X "enumerate")(hm:X.mg "enumerate" = none)(h:PE X a (tP K da))(hs:starEach [a] X.env=[(false,eval a X.env)])(hK:X.K=K):
  PI X (.Tuple es x1 tp) (.Call (.Name "enumerate" p) [a] [⟨some "start",.Constant (.int 1) kk cp,kp⟩] pos) (Yh K (Ve da)):=V4 (wG hg hm (jz h J4 (by rw[hs];rfl)) hs) fun σ H R xx=>by
 obtain⟨H0,O0,ρ,O,items,Re,ed,q⟩:=xx;subst hK;obtain⟨x,e1,ed⟩:=j0 ed;obtain⟨l,e3,ed⟩:=j0 ed;cases ed;refine⟨H0,O0,ρ,O,x,Re,e1,fun v H1 s1 r=>?_⟩;have R1:=Re.grow s1;unfold V6 at e3;split at e3
 ·cases e3;obtain⟨p,xs,rfl,h1,h2⟩:=(r.at R1.keep R1.in0 (j1.refl _)).lst;refine⟨p,xs,rfl,jj.of h1,q _ H1 s1 fun i H' O' t0 t1 t2 ta=>?_⟩;obtain⟨p',us,ea,g1,g2⟩:=(r.at t0 t1 t2).lst;cases ea;refine⟨fun d hd=>?_,fun hi=>⟨us,jj.of g1,by rw[g2.len,hi,Zp];exact wPa _⟩⟩;obtain⟨d',hd',rfl⟩:=Zq 1 l i d hd;obtain⟨u,hu,ru⟩:=g2.get hd';refine⟨⟨us,u,jj.of g1,hu⟩,fun x' H'' yy=>?_⟩;obtain⟨pp,hpp,rfl,yy⟩:=yy;rw[yy _ _ (jj.of g1) hu];exact⟨jp hpp _,wl (fun z=>ta pp z hpp) hpp (by rw[j5];congr 1;omega) ru⟩
 ·cases e3
end
end DS
namespace L2
open PySem PySem.Spec PyProof.Rows
section
variable {prog:Program} {w:World} {A:Around} {R:Result->Shared->Prop}
theorem K6{I p:Addr}{its:List Value}{bs:List Bool}(hh:A.handled=none)(hne:p≠I)(hlen:bs.length=its.length):∀(k i:Nat) (s:Shared),its.length - i=k->i<=its.length->s.heap.IsListIter I p i->s.heap.IsList p its.toArray->
  (∀(j:Nat) (v:Value),its[j]?=some v->∃l xs,v=.ref l/\l≠I/\s.heap.IsList l xs/\(xs.size:Int) < 2 ^ 63/\bs[j]?=some (!xs.isEmpty))->
  (∀(h':Heap) (tk:Nat),(∀b o,b≠I->s.heap.get? b=some o->h'.get? b=some o)->R (.ok (.ret (.bool ((bs.drop i).any id)))) { s with heap:=h',toks:=tk })->codeAny (model prog w) A (.builtin "any.loop" ⟨[.ref I],[]⟩) R s:=by
 intro k;induction k with
 | zero=>
  intro i s hk hi st hp hv hR;refine codeAny_builtin PySem.F.entry_any_loop ?_;rw[Around.under_plainId PySem.F.plain_any_loop _];show wpAny _ A.in1 (pyNext (.ref I) >>= _) _ _ s;refine wAa (wpAny_pyNext_list_end hh st hp (by simp;omega) fun h' eb=>?_);refine wAa (wpAny_rule (wBa ?_));have:=hR h' s.toks fun b o hb e=>eb b o hb e;rw[List.drop_of_length_le (by omega)]at this;exact this
 | succ k ih=>
  intro i s hk hi st hp hv hR;have lt:i < its.length:=by omega
  have eb:bs.drop i=bs[i]'(by omega)::bs.drop (i+1):=List.drop_eq_getElem_cons (by omega);obtain⟨l,xs,e1,e2,e3,e4,e5⟩:=hv i its[i] (by simp[lt]);have e6:bs[i]'(by omega)=!xs.isEmpty:=by
   have:bs[i]?=some (bs[i]'(by omega)):=by simp
   rw[this]at e5;exact vFa e5
  rw[eb,List.any_cons,e6]at hR;refine codeAny_builtin PySem.F.entry_any_loop ?_;rw[Around.under_plainId PySem.F.plain_any_loop _];show wpAny _ A.in1 (pyNext (.ref I) >>= _) _ _ s;refine wAa (wpAny_pyNext_list_item st hp (x:=.ref l) (by rw[<-e1];simp[lt]) fun h1 st1 sb=>?_);have kp:∀b o,b≠I->s.heap.get? b=some o->h1.get? b=some o:=fun b o hb e=>sb.extBut b o hb e;refine wAa (wDa (wpAny_truthy_list (e3.extBut sb.extBut e2) e4 ?_));refine wAa (wpAny_letGo ?_);cases hb:!xs.isEmpty with
  | true=>
   rw[hb]at hR;exact wAa (wpAny_rule (wBa (hR h1 _ kp)))
  | false=>
   rw[hb]at hR;simp only[Bool.false_eq_true,if_false];refine wBa ⟨plainId_quiet PySem.F.plain_any_loop _,ih (i+1) _ (by omega) lt st1 (hp.extBut sb.extBut hne) (fun j v hj=>?_) fun h2 tk k2=>?_⟩
   ·obtain⟨l,xs,f1,f2,f3,f4,f5⟩:=hv j v hj;exact⟨l,xs,f1,f2,f3.extBut sb.extBut f2,f4,f5⟩
   ·exact hR h2 tk fun b o hb e=>k2 b o hb (kp b o hb e)
end
variable {X:Cx}
def qe(K:PySem.W.Frag):List V->Hp->VK->Prop:=fun xs H Q=>∃(p:Addr) (ys:List V) (bs:List Bool),xs=[.ref p]/\jj K H p ys/\bs.length=ys.length/\(∀(j:Nat) (y:V),ys[j]?=some y->∃a zs,y=.ref a/\jj K H a zs/\bs[j]?=some (!zs.isEmpty))/\Q (.bl (bs.any id)) H
theorem K7(hc:X.calm=true):ya X (.builtin "any") (qe X.K):=by
 rintro pins s σ H _ us Q I r ⟨p,ys,bs,rfl,hq,hl,hy,q⟩;obtain⟨u,rfl,ru⟩:=zI r;cases ru;obtain⟨its,rv,pl,hz⟩:=I.list hq;have hlen:=rv.length;have ne:p≠s.heap.objs.size:=by
  obtain⟨o,ho,_⟩:=pl.isList;exact wTa (wLa ho)
 refine call_function_tree PySem.F.kind_any PySem.F.plain_any PySem.F.entry_any (PySem.F.args_any1 _) ?_;unfold Builtin.«any»;refine wAa (m:=oneArg "any" _) (wBa ?_);refine wAa (wpAny_pyIter_list pl.isList (wBa ⟨plainId_quiet PySem.F.plain_any_loop _,?_⟩));have n63:=yU;refine K6 (its:=its) (bs:=bs) (I.ok.hd hc) ne (by omega) its.length 0 _ rfl (Nat.zero_le _) ⟨_,wJa _ rfl,rfl,rfl⟩ (pl.isList.push _) (fun j v hj=>?_) fun h' tk k2=>?_
 ·have hj':j < ys.length:=by have:=(List.getElem?_eq_some_iff.mp hj).1;omega
  obtain⟨a,zs,e1,e2,e3⟩:=hy j ys[j] (by simp[hj']);obtain⟨v',hv',rr⟩:=rv.get (i:=j) (x:=ys[j]) (by simp[hj']);rw[hj]at hv';cases hv';rw[e1]at rr;cases rr;obtain⟨it2,rv2,pl2,hz2⟩:=I.list e2;have l2:=rv2.length;refine⟨a,it2.toArray,rfl,?_,pl2.isList.push _,by simp only[List.size_toArray];omega,?_⟩
  ·obtain⟨o,ho,_⟩:=pl2.isList;exact wTa (wLa ho)
  ·rw[e3];cases zs <;> cases it2 <;> simp at l2⊢
 ·have J:Inv X pins σ H { s with heap:=h',toks:=tk }:=I.kept fun b o e=>k2 b o (wTa (wLa e)) (wIa _ e);exact⟨.bl (bs.any id),H,J,by rw[List.drop_zero];rfl,q⟩
end L2
namespace DS
open PySem PySem.Spec PyProof.Rows L2
variable {X:Cx} {K:Fr}
noncomputable def GX:List D->Option (List Bool)
 | []=>some []
 | .lst m::r=>(GX r).bind fun bs=>some ((!m.isEmpty)::bs)
 | _=>none
theorem uc{H:Hp}:∀{l:List D} {bs:List Bool} {vs:List V},GX l=some bs->j3 K H l vs->bs.length=vs.length/\∀(j:Nat) (y:V),vs[j]?=some y->∃a zs,y=.ref a/\H a=some (.lst zs)/\bs[j]?=some (!zs.isEmpty)
 | [],bs,vs,e,r=>by
  cases e;rw[j3]at r;subst r;exact⟨rfl,fun j y h=>by simp at h⟩
 | x::l,bs,vs,e,r=>by
  cases x with
  | lst m=>
   obtain⟨bs',e1,e⟩:=j0 e;cases e;rw[j3]at r;obtain⟨v,r',rfl,q,r⟩:=r;obtain⟨h1,h2⟩:=uc e1 r;rw[j5]at q;obtain⟨a,zs,rfl,g1,g2⟩:=q;refine⟨by simp[h1],fun j y hj=>?_⟩;cases j with
   | zero=>
    simp at hj;subst hj;refine⟨a,zs,rfl,g1,?_⟩;have:=g2.len;cases zs <;> cases m <;> simp at this⊢
   | succ j=>exact h2 j y (by simpa using hj)
  | _=>cases e
@[simp] def Ym:List D->Option D
 | [.lst l]=>(GX l).bind fun bs=>some (.bl (bs.any id))
 | _=>none
theorem XE:Fn K (qe K) Ym:=by
 intro O H ks ds vs d Q h hn e q;unfold Ym at e;split at e
 ·obtain⟨bs,e1,e⟩:=j0 e;cases e;obtain⟨v,rfl,r⟩:=YA h;obtain⟨p,xs,rfl,h1,h2⟩:=r.lst;obtain⟨b1,b2⟩:=uc e1 h2;exact⟨p,xs,bs,rfl,jj.of h1,b1,fun j y hj=>by
   obtain⟨a,zs,f1,f2,f3⟩:=b2 j y hj;exact⟨a,zs,f1,jj.of (jL f2).2,f3⟩,q _ H (j1.refl H) (by rw[j5])⟩
 ·cases e
end DS
namespace L2
open PySem PySem.Spec PyProof.Rows
open AutoSeq1 (wpAny_loadPart')
noncomputable def v3(y:Str):List Str->Option Nat
 | []=>none
 | a::r=>if a=y then some 0 else(v3 y r).map (· + 1)
theorem Cl(p:Addr)(a0 a1 a2 a3 y:Str)(k0 k1 k2 k3 u:Tok)(c:Nat)(dx:Option Addr)(sl:Array (Option Value))(j:Nat)(hj:v3 y [a0,a1,a2,a3]=some j):Meets (Builtin.«tuple.index» ⟨[.ref p,.str y u],[]⟩) (fun A R s=>s.heap.get? p=some { cls:=.type "tuple",dict:=dx,data:=.seq #[.str a0 k0,.str a1 k1,.str a2 k2,.str a3 k3] c,slots:=sl }/\R (.ok (.ret (.int j s.toks))) { s with toks:=s.toks+1 }):=by
 refine .of_wp fun prog w A R s h=>?_;obtain⟨hp,g,d,tk,os⟩:=s;obtain⟨hl,h⟩:=h;unfold Builtin.«tuple.index»;simp only[Std.Legacy.Range.forIn_eq_forIn_range']
 wp_walk using wpAny_loadPart' hl
 have rr:List.range' [0:min #[Value.str a0 k0,Value.str a1 k1,Value.str a2 k2,Value.str a3 k3].size #[Value.str a0 k0,Value.str a1 k1,Value.str a2 k2,Value.str a3 k3].size].start [0:min #[Value.str a0 k0,Value.str a1 k1,Value.str a2 k2,Value.str a3 k3].size #[Value.str a0 k0,Value.str a1 k1,Value.str a2 k2,Value.str a3 k3].size].size [0:min #[Value.str a0 k0,Value.str a1 k1,Value.str a2 k2,Value.str a3 k3].size #[Value.str a0 k0,Value.str a1 k1,Value.str a2 k2,Value.str a3 k3].size].step=[0,1,2,3]:=by simp[Std.Legacy.Range.size];rfl
 rw[rr];simp only[List.forIn_cons];have hit:∀(i:Nat) (n:Nat),i=j->wpAny (model prog w) A.in1 (retInt (i:Int)) (fun r s1=>∃v,r=Fin.done (Flow.ret v)/\R (Except.ok (Flow.ret v)) s1) (fun e s'=>R (Except.error e) s') ⟨hp,g,d,tk,os⟩:=fun i n e=>by
  subst e;exact wAa (wpAny_mkInt (wBa ⟨_,rfl,h⟩))
 show wpAny _ _ ((eqBool (.str a0 k0) (.str y u) >>= _) >>= _) _ _ _;refine wAa (wAa (wpAny_eqBool_str ?_));by_cases q0:a0=y
 ·rw[if_pos (decide_eq_true q0)];refine wAa (wCa (hit 0 0 (by simp[v3,q0]at hj;exact hj)) (fun r s1 z=>wBa (wBa (wBa z))) fun _ _ z=>z)
 rw[if_neg (by simpa using q0)];refine wBa ?_;show wpAny _ _ ((eqBool (.str a1 k1) (.str y u) >>= _) >>= _) _ _ _;refine wAa (wAa (wpAny_eqBool_str ?_));by_cases q1:a1=y
 ·rw[if_pos (decide_eq_true q1)];refine wAa (wCa (hit 1 0 (by simp[v3,q0,q1]at hj;exact hj)) (fun r s1 z=>wBa (wBa (wBa z))) fun _ _ z=>z)
 rw[if_neg (by simpa using q1)];refine wBa ?_;show wpAny _ _ ((eqBool (.str a2 k2) (.str y u) >>= _) >>= _) _ _ _;refine wAa (wAa (wpAny_eqBool_str ?_));by_cases q2:a2=y
 ·rw[if_pos (decide_eq_true q2)];refine wAa (wCa (hit 2 0 (by simp[v3,q0,q1,q2]at hj;exact hj)) (fun r s1 z=>wBa (wBa (wBa z))) fun _ _ z=>z)
 rw[if_neg (by simpa using q2)];refine wBa ?_;show wpAny _ _ ((eqBool (.str a3 k3) (.str y u) >>= _) >>= _) _ _ _;refine wAa (wAa (wpAny_eqBool_str ?_));by_cases q3:a3=y
 ·rw[if_pos (decide_eq_true q3)];refine wAa (wCa (hit 3 0 (by simp[v3,q0,q1,q2,q3]at hj;exact hj)) (fun r s1 z=>wBa (wBa (wBa z))) fun _ _ z=>z)
 ·simp[v3,q0,q1,q2,q3]at hj
end L2
namespace L2
open PySem PySem.Spec PyProof.Rows
variable {X:Cx}
theorem wH:seqSlot? (.type "list") (dunderI "add")=pure (some (.builtin "list.__iadd__")):=PySem.seqSlot_of PySem.F.slot_list_iadd.lookup (by decide +kernel)
theorem wI:fillsInplaceSlot (.type "list") "add" (Operator.Add==.Add)=pure false:=by
 unfold fillsInplaceSlot;show(typeLookup (.type "list") (dunderI "add") >>= fun fi=>pure (fi.isSome&&!isSeqSlot fi))=pure false;rw[PySem.F.slot_list_iadd.lookup];rfl
theorem wJ:fillsNumberSlot (.type "list") "add" = pure false:=by
 unfold fillsNumberSlot
 kernel_rfl
def GY:R2:=fun x y H Q=>∃l b xs zs,x=.ref l/\y=.ref b/\H l=some (.lst xs)/\H b=some (.lst zs)/\xs.length+zs.length<=sizeLine/\Q (.ref l) (upd H l (.lst (xs++zs)))
theorem Qi:jt X (inplaceOp .Add) GY:=by
 intro pins s σ H x y v u Q I rx ry h;obtain⟨l,b,xs,zs,rfl,rfl,hH,hB,hz,q⟩:=h;cases rx;cases ry;obtain⟨z,its,n,r,hl,e⟩:=I.lstM hH;obtain⟨z2,its2,n2,r2,hl2,e2⟩:=I.lstM hB;have hsz:its.toArray.size+its2.toArray.size<=sizeLine:=by rw[List.size_toArray,List.size_toArray];omega
 have hlong:¬(!its.toArray.isEmpty&&Builtin.List.listTooLong (its.toArray.size+its2.toArray.size))=true:=by
  rw[KY hsz,Bool.and_false];exact vNa
 have ta:s.TypeIs (.ref l) "list" := ⟨_,e,rfl⟩
 have tb:s.TypeIs (.ref b) "list" := ⟨_,e2,rfl⟩
 unfold inplaceOp;refine wDa (wAa (wpAny_typeOf ta (wAa (wpAny_of_eq wI ?_))));show wpAny _ _ (if false=true then _ else _) _ _ s;rw[if_neg Bool.false_ne_true];refine wAa (wpAny_binaryOp1_none (nm := "add") ta tb wJ (wAa (wpAny_of_eq wH (wAa (wpAny_rule ?_)))));refine call_meets PySem.F.slot_list_iadd ta PySem.F.entry_list_iadd (PySem.F.args_list_iadd_2 _ _) (AutoSeq1.list___iadd___list_list_0 l its.toArray n b its2.toArray n2 hlong (by rw[List.size_toArray];omega) (by omega)) ⟨e,e2,?_⟩;refine⟨.ref l,_,I.lset (its':=its++its2) hH e (by simp) (r.append r2) ?_,rfl,q⟩;rw[List.length_append];omega
end L2
namespace DS
open PySem PySem.Spec PyProof.Rows L2
section
variable {X:Cx} {K:Fr} {a b e:Expr} {da db de:DE} {st:Stmt} {pos:Pos} {i j:Nat}
noncomputable def zT:List D->Option (List Str)
 | []=>some []
 | .str x::r=>(zT r).bind fun l=>some (x::l)
 | _=>none
theorem Up:∀{l:List D} {ts:List Str},zT l=some ts->l=ts.map D.str
 | [],_,e=>by cases e;rfl
 | x::l,ts,e=>by
  cases x with
  | str y=>
   obtain⟨r,e1,e⟩:=j0 e;cases e;rw[Up e1];rfl
  | _=>cases e
theorem yZ{H:Hp}:∀{ts:List Str} {vs:List V},j3 K H (ts.map D.str) vs↔vs=ts.map V.str
 | [],vs=>by rw[List.map_nil,j3];rfl
 | x::ts,vs=>by
  rw[List.map_cons,j3];constructor
  ·rintro⟨v,r,rfl,h1,h2⟩;rw[j5]at h1;rw[h1,yZ.mp h2];rfl
  ·rintro rfl;exact⟨.str x,_,rfl,by rw[j5],yZ.mpr rfl⟩
@[simp] def Vf:D->D->Option D
 | .str s,.lst l=>(zT l).bind fun ts=>if JoinOk s ts=true then some (.str (Txt.join s ts))else none
 | _,_=>none
noncomputable def y_:D->D->Option OD
 | .str x,.str y=>if 1<=y.length/\x.length < sizeLine then some (.lst ((Txt.split x y).map D.str))else none
 | _,_=>none
noncomputable def Vg:D->D->Option D
 | .str x,.str y=>if 1<=y.length/\x.length < sizeLine then some (.tup [.str (Txt.partition x y).1,.str (Txt.partition x y).2.1,.str (Txt.partition x y).2.2])else none
 | _,_=>none
theorem XF{ap:Pos}(ha:PE X a (tR K da))(hb:PE X b (tR K db))(hbase:attributeBase a "join" X.env (eval a X.env)=eval a X.env)(hl:(ap.endLine==pos.line)=true)(hs:∀r:List Expr,starEach (b::r) X.env=(false,eval b X.env)::starEach r X.env)(hK:X.K=K):PE X (.Call (.Attribute a "join" ap) [b] [] pos) (tE K (d2 Vf da db)):=by
 subst hK;refine jk (vW PySem.F.plainAttrs_str PySem.F.slot_str_join PySem.F.type_str_join Qe ha (jz hb J4 (hs _)) hbase (by rw[hs];rfl) hl (hs _) rfl) fun σ H Q xx=>?_;obtain⟨H0,O0,ρ,O,d,R,ed,q⟩:=xx;obtain⟨x,e1,ed⟩:=j0 ed;obtain⟨y,e2,ed⟩:=j0 ed;refine⟨H0,O0,ρ,O,x,R,e1,fun v H1 s1 r1=>?_⟩;cases x with
 | str s=>
  cases y with
  | lst l=>
   obtain⟨ts,e3,ed⟩:=j0 ed;split at ed
   ·rename_i hj;cases ed;have ev:=r1.str;subst ev;refine⟨rfl,H0,O0,ρ,O,_,R.grow s1,e2,fun v2 H2 s2 r2=>?_⟩;obtain⟨p,xs,rfl,h1,h2⟩:=r2.lst;rw[Up e3]at h2;rw[yZ.mp h2]at h1;exact⟨s,p,ts,rfl,rfl,jj.of h1,hj,q _ H2 (s1.trans s2) (by rw[j5])⟩
   ·cases ed
  | _=>cases ed
 | _=>cases ed
theorem Qj{ap:Pos}(ha:PE X a (tR K da))(hb:PE X b (tR K db))(hbase:attributeBase a "split" X.env (eval a X.env)=eval a X.env)(hl:(ap.endLine==pos.line)=true)(hs:∀r:List Expr,starEach (b::r) X.env=(false,eval b X.env)::starEach r X.env)(hK:X.K=K):PE X (.Call (.Attribute a "split" ap) [b] [] pos) (tF K (V2 y_ da db)):=by
 subst hK;refine jk (vW PySem.F.plainAttrs_str PySem.F.slot_str_split PySem.F.type_str_split wx ha (jz hb J4 (hs _)) hbase (by rw[hs];rfl) hl (hs _) rfl) fun σ H Q xx=>?_;obtain⟨H0,O0,ρ,O,d,R,ed,q⟩:=xx;obtain⟨x,e1,ed⟩:=j0 ed;obtain⟨y,e2,ed⟩:=j0 ed;refine⟨H0,O0,ρ,O,x,R,e1,fun v H1 s1 r1=>?_⟩;unfold y_ at ed;split at ed
 ·split at ed
  ·rename_i hz;cases ed;have ev:=r1.str;subst ev;refine⟨rfl,H0,O0,ρ,O,_,R.grow s1,e2,fun v2 H2 s2 r2=>?_⟩;have e2':=r2.str;subst e2';refine⟨_,_,rfl,rfl,hz.1,hz.2,fun p hp=>q p _ ((s1.trans s2).trans (jp hp _)) ((s1.trans s2).none hp) ?_⟩;exact⟨_,jx,yZ.mpr rfl⟩
  ·cases ed
 ·cases ed
theorem XH{ap:Pos}(ha:PE X a (tR K da))(hb:PE X b (tR K db))(hbase:attributeBase a "partition" X.env (eval a X.env)=eval a X.env)(hl:(ap.endLine==pos.line)=true)(hs:∀r:List Expr,starEach (b::r) X.env=(false,eval b X.env)::starEach r X.env)(hK:X.K=K):PE X (.Call (.Attribute a "partition" ap) [b] [] pos) (tE K (d2 Vg da db)):=by
 subst hK;refine jk (vW PySem.F.plainAttrs_str PySem.F.slot_str_partition PySem.F.type_str_partition Qf ha (jz hb J4 (hs _)) hbase (by rw[hs];rfl) hl (hs _) rfl) fun σ H Q xx=>?_;obtain⟨H0,O0,ρ,O,d,R,ed,q⟩:=xx;obtain⟨x,e1,ed⟩:=j0 ed;obtain⟨y,e2,ed⟩:=j0 ed;refine⟨H0,O0,ρ,O,x,R,e1,fun v H1 s1 r1=>?_⟩;unfold Vg at ed;split at ed
 ·split at ed
  ·rename_i hz;cases ed;have ev:=r1.str;subst ev;refine⟨rfl,H0,O0,ρ,O,_,R.grow s1,e2,fun v2 H2 s2 r2=>?_⟩;have e2':=r2.str;subst e2';refine⟨_,_,rfl,rfl,hz.1,hz.2,fun p hp=>q _ _ ((s1.trans s2).trans (jp hp _)) ?_⟩;exact Je ((R.grow (s1.trans s2)).new hp) hp (j3.cons (by rw[j5]) (j3.cons (by rw[j5]) (j3.cons (by rw[j5]) j3.nil)))
  ·cases ed
 ·cases ed
end
end DS
namespace L2
open PySem PySem.Spec PyProof.Rows
variable {X:Cx}
theorem Qk{bd:List Stmt}{h0:ExceptHandler}{tpos:Pos}{t:TS}(hbd:jy X.nox bd t):PS X (.Try bd [h0] [] [] tpos) t:=by
 intro pins s σ H D I h;refine wpAny_Try_except (wCa (hbd pins s σ H D (I.wish _) h) (fun fl s' hq=>?_) fun _ _ z=>False.elim z);have hq:=hq.unwish;cases fl with
 | next=>exact wpAny_execs_nil hq
 | brk=>exact hq
 | cont=>exact hq
 | ret v=>exact hq
def qf(t:Zc):TG:=fun v σ H Q=>∃a x xs,v=.ref a/\H a=some (.lst (x::xs))/\∀p,H p=none->t [x,.ref p] σ (upd H p (.lst xs)) Q
theorem Ql{e0 e1:Expr}{k:Nat}{t:Zc}{sp pos:Pos}(hc:X.calm=true)(h:Z1 X [e0,e1] t)(hn:(assignEach [e0,.Starred e1 sp] X.env).length=2)(hst:(assignEach [e0,.Starred e1 sp] X.env).findIdx? (·.1)=some 1)(hm:(assignEach [e0,.Starred e1 sp] X.env).map (·.2)=(assignEach [e0,e1] X.env).map (·.2)):PG X (.Tuple [e0,.Starred e1 sp] k pos) (qf t):=by
 intro pins s σ H v u Q I r hw;obtain⟨a,x,xs,rfl,hq,hw⟩:=hw;cases r;obtain⟨its,m,rv,ho,hz⟩:=I.lst hq;cases rv with
 | cons rx rt=>
  have hl:=rt.length;rw[assign_Tuple];refine wAa (vOa ?_);unfold unpack;rw[hn,hst,hm];simp at hz;refine wAa (wDa (gc (I.ok.hd hc) ⟨_,ho,rfl,m,rfl⟩ (by omega) fun h' tk kp=>?_));have I1:Inv X pins σ H { s with heap:=h',toks:=tk }:=I.kept kp;have fr:=I1.hok.fresh (wPa _);have I2:=I1.laid (h':=h'.push { cls:=.type "list",data:=.seq _ }) (t':=tk) (fun b o e=>wIa _ e) (wPa _) (show J9 X.prog X.w _ _ _ (.lst xs) from⟨by omega,_,_,rt,wJa _ rfl⟩);exact h pins _ σ _ [x,.ref h'.objs.size] _ Q I2 (.cons rx (.cons (show jh (.ref _) _ from rfl) .nil)) (hw _ fr)
end L2
namespace DS
open PySem PySem.Spec PyProof.Rows L2
section
variable {X:Cx} {K:Fr} {a b e:Expr} {da db de:DE} {st:Stmt} {pos:Pos} {i j:Nat}
@[simp] noncomputable def GZ(de:DE)(gs:V7)(ρ:j7):Option Rs:=(de ρ).bind fun d=>match d with
 | .lst (x::l)=>(gs [x,.lst l] ρ).bind fun ρ'=>some (.nx ρ')
 | _=>none
theorem XI{gs:V7}{kk:Nat}(h:PS X st (y9 (tE K de) (qf (gK K kk gs)))):PS X st (tS K (GZ de gs)):=jO h fun D σ H xx=>by
 obtain⟨H0,O0,ρ,O,r,R,ed,f⟩:=xx;obtain⟨d,e1,ed⟩:=j0 ed;cases d with
 | lst l=>
  cases l with
  | nil=>cases ed
  | cons x l=>
   obtain⟨ρ',e2,ed⟩:=j0 ed;cases ed;refine⟨H0,O0,ρ,O,_,R,e1,fun v H1 s1 r1=>?_⟩;rw[j5]at r1;obtain⟨a,xs,rfl,g1,g2⟩:=r1;rw[j3]at g2;obtain⟨v0,r',rfl,g3,g4⟩:=g2;refine⟨a,v0,r',rfl,(jL g1).2,fun p hp=>?_⟩;have s2:=jp hp (.lst r');have R2:=R.grow (s1.trans s2);have sd:=j9 (O:=O) s2;refine⟨H0,O0,ρ,O,_,ρ',R2,j3.cons (g3.same sd) (j3.cons ?_ j3.nil),e2,fun σ' R' _=>f σ' _ O R' (j9 (s1.trans s2))⟩;rw[j5];exact⟨p,r',rfl,by rw[jq ((R.grow s1).new hp)];exact jx,g4.same sd⟩
 | _=>cases ed
def GT(K:Fr)(mg:Str->Option Value)(x:Str)(l:List Str):Prop:=∃p o its n,mg x=some (.ref p)/\K.lookup p=some o/\o.cls=.type "tuple" /\o.dict=none/\o.data=.seq its n/\its.size<=sizeLine/\jb (l.map V.str) its.toList
theorem Cm{x:Str}{l:List Str}(g:GT K X.mg x l)(hg:Gl X x)(hd:(x==("__debug__" : Str))=false):PE X (.Name x pos) (tE K (dK (.tup (l.map D.str)))):=by
 obtain⟨p,o,its,n,h1,h2,h3,h4,h5,h6,h7⟩:=g;refine jk (Vu (v:=.ref p) hg h1 rfl hd) fun σ H Q xx=>?_;obtain⟨H0,O0,ρ,O,d,R,ed,q⟩:=xx;cases ed;refine q _ H (j1.refl H) ?_;rw[j5];exact⟨p,_,rfl,.inr ⟨o,its,n,h2,h3,h5,h6,h7⟩,yZ.mpr rfl⟩
@[simp] def wK(l:List Str):D->Option D
 | .str y=>(v3 y l).bind fun j=>some (.int (j:Int))
 | _=>none
def Cn(K:Fr)(l:List Str):V->List V->Hp->VK->Prop:=fun x vs H Q=>∃p y j,x=.ref p/\vs=[.str y]/\jX K H p (l.map V.str)/\v3 y l=some j/\Q (.int (j:Int)) H
theorem XJ{a0 a1 a2 a3:Str}:Bh X "tuple.index" (Cn X.K [a0,a1,a2,a3]):=by
 intro pins s σ H x vs v us Q I rx rv h;obtain⟨p,y,j,rfl,rfl,hq,hj,q⟩:=h;cases rx;obtain⟨w',rfl,u,rfl⟩:=rv.one;obtain⟨its,r',pl,hz⟩:=I.tuple hq;obtain⟨l,rfl,el⟩:=Zx (ts:=[a0,a1,a2,a3]) r';obtain⟨⟨c,dx,dt,sl⟩,ho,hc,n,hd⟩:=pl;have hc:c=.type "tuple" := hc;subst hc;rcases l with _ | ⟨⟨b0,k0⟩,_ | ⟨⟨b1,k1⟩,_ | ⟨⟨b2,k2⟩,_ | ⟨⟨b3,k3⟩,_ | ⟨_,_⟩⟩⟩⟩⟩ <;> simp at el
 obtain⟨rfl,rfl,rfl,rfl⟩:=el;have hd:dt=.seq #[.str b0 k0,.str b1 k1,.str b2 k2,.str b3 k3] n:=hd;subst hd;exact call_meets PySem.F.slot_tuple_index ⟨_,ho,rfl⟩ PySem.F.entry_tuple_index (PySem.F.args_tuple_index_2 _ _) (Cl p b0 b1 b2 b3 y k0 k1 k2 k3 u n dx sl j hj) ⟨ho,.int (j:Int),H,I.tok _,⟨_,rfl⟩,q⟩
theorem bV{x:Str}{l:List Str}{np ap:Pos}(h4:l.length=4)(g:GT K X.mg x l)(hg:Gl X x)(hd:(x==("__debug__" : Str))=false)(hb:PE X b (tR K db))(hbase:attributeBase (.Name x np) "index" X.env (eval (.Name x np) X.env)=eval (.Name x np) X.env)(hl:(ap.endLine==pos.line)=true)(hs:∀r:List Expr,starEach (b::r) X.env=(false,eval b X.env)::starEach r X.env)(hK:X.K=K):PE X (.Call (.Attribute (.Name x np) "index" ap) [b] [] pos) (tE K (d1 (wK l) db)):=by
 subst hK;obtain⟨p,o,its,n,h1,h2,h3,h5,h6,h7,h8⟩:=g;rcases l with _ | ⟨a0,_ | ⟨a1,_ | ⟨a2,_ | ⟨a3,_ | ⟨_,_⟩⟩⟩⟩⟩ <;> simp at h4
 refine jk (vW PySem.F.plainAttrs_tuple PySem.F.slot_tuple_index PySem.F.type_tuple_index (XJ (a0:=a0) (a1:=a1) (a2:=a2) (a3:=a3)) (Vu (v:=.ref p) hg h1 rfl hd) (jz hb J4 (hs _)) hbase (by rw[hs];rfl) hl (hs _) rfl) fun σ H Q xx=>?_;obtain⟨H0,O0,ρ,O,d,R,ed,q⟩:=xx;obtain⟨y,e2,ed⟩:=j0 ed;refine⟨.inr (.inl ⟨rfl,o,h2,h3,h5⟩),H0,O0,ρ,O,_,R,e2,fun v2 H2 s2 r2=>?_⟩;cases y with
 | str y=>
  obtain⟨j,e3,ed⟩:=j0 ed;cases ed;have e2':=r2.str;subst e2';exact⟨p,y,j,rfl,rfl,.inr ⟨o,its,n,h2,h3,h6,h7,h8⟩,e3,q _ H2 s2 (by rw[j5])⟩
 | _=>cases ed
@[simp] noncomputable def zd:List D->Option D
 | [.int i]=>if i.natAbs.log2 < 1920 then some (.str (toString i))else none
 | _=>none
theorem bW:Fn K (fun xs H Q=>∃i,xs=[.int i]/\i.natAbs.log2 < 1920/\Q (.str (toString i)) H) zd:=by
 intro O H ks ds vs d Q h hn e q;unfold zd at e;split at e
 ·split at e
  ·rename_i hz;cases e;obtain⟨v,rfl,r⟩:=YA h;exact⟨_,by rw[r.int],hz,q _ H (j1.refl H) (by rw[j5])⟩
  ·cases e
 ·cases e
noncomputable def Y_:List D->Option D
 | [.str x]=>if x.length<=640 then(PySem.intText? x).bind fun n=>some (.int n)else none
 | _=>none
theorem XM:Fn K (fun xs H Q=>∃x n,xs=[.str x]/\PySem.intText? x=some n/\x.length<=640/\Q (.int n) H) Y_:=by
 intro O H ks ds vs d Q h hn e q;unfold Y_ at e;split at e
 ·split at e
  ·rename_i hz;obtain⟨n,e1,e⟩:=j0 e;cases e;obtain⟨v,rfl,r⟩:=YA h;exact⟨_,n,by rw[r.str],e1,hz,q _ H (j1.refl H) (by rw[j5])⟩
  ·cases e
 ·cases e
@[simp] noncomputable def uF:List D->Option D
 | [.str x]=>if x.length<=sizeLine then some (.int x.length)else none
 | _=>none
theorem XO:Fn K (fun xs H Q=>∃z,xs=[.str z]/\z.length<=sizeLine/\Q (.int z.length) H) uF:=by
 intro O H ks ds vs d Q h hn e q;unfold uF at e;split at e
 ·split at e
  ·rename_i hz;cases e;obtain⟨v,rfl,r⟩:=YA h;exact⟨_,by rw[r.str],hz,q _ H (j1.refl H) (by rw[j5])⟩
  ·cases e
 ·cases e
noncomputable def Uq:D->D->Option D
 | .str x,.str y=>some (.bl (!(decide (y.cps.toList < x.cps.toList))))
 | _,_=>none
theorem bX:jM K (fun x y H Q=>∃i j,x=.str i/\y=.str j/\Q (.bl (!(decide (j.cps.toList < i.cps.toList)))) H) Uq:=by
 intro O H a b d x y Q ha hb hn e q;unfold Uq at e;split at e
 ·cases e;exact⟨_,_,ha.str,hb.str,q _ H (j1.refl H) (by rw[j5])⟩
 ·cases e
def G_:D->D->Option D
 | .str z,.int i=>if z.length<=sizeLine then(atI z.cps.toList i).bind fun c=>some (.str ⟨#[c]⟩)else none
 | _,_=>none
theorem bZ:jM K KU G_:=by
 intro O H a b d x y Q ha hb hn e q;unfold G_ at e;split at e
 ·split at e
  ·rename_i hz;obtain⟨c,e1,e⟩:=j0 e;cases e;exact⟨_,_,c,ha.str,hb.int,hz,e1,q _ H (j1.refl H) (by rw[j5])⟩
  ·cases e
 ·cases e
noncomputable def Ur(i:Nat)(de:DE):DS:=fun ρ=>match ρ[i]? with
 | some (.ow q (.lst ds))=>(de ρ).bind fun d=>match d with
  | .lst es=>if ds.length+es.length<=sizeLine then some (.nx (ρ.set i (.ow q (.lst (ds++es)))))else none
  | _=>none
 | _=>none
theorem Qm:Wm X .Add GY:=fun pins s σ H x y v u Q I rx ry q=>Qi pins s σ H x y v u Q I rx ry q
theorem b_(h:PS X st (KF i (tR K de) GY)):PS X st (tS K (Ur i de)):=jO h fun D σ H xx=>by
 obtain⟨H0,O0,ρ,O,r,R,ed,f⟩:=xx;unfold Ur at ed;split at ed
 ·rename_i q ds hi;obtain⟨d,e1,ed⟩:=j0 ed;cases d with
  | lst es=>
   dsimp only at ed;split at ed
   ·rename_i hz;cases ed;obtain⟨l,hq,h1,h2,h3,h4⟩:=R.ow i q _ hi;obtain⟨xs,hx,rx⟩:=h2;refine⟨_,h1,H0,O0,ρ,O,_,R,e1,fun v H1 s1 r1=>?_⟩;obtain⟨p,zs,rfl,g1,g2⟩:=r1.lst;refine⟨l,p,xs,zs,rfl,rfl,s1 _ _ hx,g1,by rw[rx.len,g2.len];exact hz,?_⟩;have R1:=R.grow s1;have R2:=R1.change (u:=.lst (xs++zs)) (ds':=.lst (ds++es)) hi hq h1 h3 h4 ⟨_,jx,(rx.same (j9 s1)).app g2⟩;have e9:σ.set i (some (.ref l))=σ:=vE h1;show D.nx (σ.set i (some (.ref l))) _;rw[e9];exact f _ _ O R2 (by rw[J5 h3];exact j9 s1)
   ·cases ed
  | _=>cases ed
 ·cases ed
theorem B0{h0:ExceptHandler}{p tpos:Pos}{m:DM}{bd:List Stmt}(h:jy X.nox bd (tM K m)):jy X [.Try bd [h0] [] [] tpos] (tM K m):=Vw (Qk h)
end
def wL:D->Bool
 | .ins _ _ l=>VH l
 | d=>W_ d
def zU(d:D):Option D:=if wL d=true then some d else none
section
variable {X:Cx} {K:Fr} {e:Expr} {de:DE}
theorem K8{H H':Hp}(k:∀b o,(∀xs,o≠HO.lst xs)->H b=some o->H' b=some o){d:D}{v:V}(h:wL d=true)(r:j5 K H d v):j5 K H' d v:=by
 have kt:vZ H H':=fun b o i h=>k b o (by rintro xs rfl;cases i) h;cases d with
 | ins C ns l=>
  rw[j5]at r⊢;obtain⟨a,dx,xs,rfl,q,n,r⟩:=r;exact⟨a,dx,xs,rfl,k _ _ (by rintro _ z;cases z) q,n,Zu kt h r⟩
 | _=>exact Uj kt h r
theorem K9(h:PE X e (tE K de)):PE X e (tE K fun ρ=>(de (frz ρ)).bind zU):=jk h fun σ H Q xx=>by
 obtain⟨H0,O0,ρ,O,d,R,ed,q⟩:=xx;obtain⟨d',e1,e2⟩:=j0 ed;obtain⟨O',R',f,_⟩:=R.frz;unfold zU at e2;split at e2
 ·rename_i ht;cases e2;refine⟨H0,O0,_,O',_,R',e1,fun v H' s r=>q v H' s (K8 (fun b o no hb=>?_) ht r)⟩;obtain⟨h1,h2⟩:=jL hb;rw[jq fun z=>?_]
  ·exact h2
  ·rcases f b z with z | ⟨vs,z⟩
   ·exact h1 z
   ·rw[s _ _ z]at h2;cases h2;exact no vs rfl
 ·cases e2
end
open Classical in
noncomputable def Us(F:Addr->List (List D)->List D->Option (List (List D)×D))(ls:List (List D))(ds:List D):Option (List (List D)×D):=if h:∃r,∀l,F l ls ds=some r then some (Classical.choose h)else none
theorem wM{F:Addr->List (List D)->List D->Option (List (List D)×D)}{ls:List (List D)}{ds:List D}{r:List (List D)×D}(l:Addr)(h:Us F ls ds=some r):F l ls ds=some r:=by
 unfold Us at h;split at h
 ·rename_i z;cases h;exact Classical.choose_spec z l
 ·cases h
theorem Qn{F:Addr->List (List D)->List D->Option (List (List D)×D)}{ls:List (List D)}{ds:List D}{r:List (List D)×D}(h:∀l,F l ls ds=some r):Us F ls ds=some r:=by
 unfold Us;have z:∃r,∀l,F l ls ds=some r:=⟨r,h⟩
 rw[dif_pos z];exact(Classical.choose_spec z 0).symm.trans (h 0)
theorem wN{K:Fr}{F:Addr->List (List D)->List D->Option (List (List D)×D)}{F0:List (List D)->List D->Option (List (List D)×D)}(hF:∀l ls ds r,F0 ls ds=some r->F l ls ds=some r){vs:List V}{H:Hp}{Q:VK}{E:XK}(h:Ul K (fun _=>F0) vs H Q E):Ul K F vs H Q E:=by
 obtain⟨O,l,ps,ls,d,ds,v,us,ms,r,a,b,c,e,f,g,q⟩:=h;exact⟨O,l,ps,ls,d,ds,v,us,ms,r,a,b,c,e,f,hF _ _ _ _ g,q⟩
end DS
namespace CP
open PySem PySem.Spec PyProof.Rows L2 DS
inductive GI where
 | con (i:Int)
 | fE (k:Nat) (ps:List Str) (ks:List Bool) (F:List D->Option D)
 | fF (k:Nat) (ps:List Str) (ks:List Bool) (F:List D->Option OD)
 | mk (k:Nat) (ps:List Str) (ks:List Bool) (F:Addr->List D->Option OD) (G:List D->Option OD)
 | kt (l:List Str)
 | fM (k:Nat) (ps:List Str) (F:List (List D)->List D->Option (List (List D)×D))
 | blt
structure Gm where
 N:List Str
 sc:Scope
 fn:Bool
 kF:Bool
 C:Addr
 gs:List (Str×GI)
 ms:List (Str×GI)
 fl:List Str
 hs:List ((Nat×Nat×Nat)×List Nat)
 sh:List (Nat×Nat)
 ow:List Nat
inductive Dn where
 | E (d:DE) | F (d:DO)
noncomputable def Dn.e:Dn->DE
 | .E d=>d
 | .F d=>dL d
noncomputable def VI(x:Str):List Str->Option Nat
 | []=>none
 | y::r=>if x=y then some 0 else(VI x r).map (· + 1)
noncomputable def kd(sc:Scope)(x:Str):Option NameKind:=sc.names.lookup x
noncomputable def k6(sc:Scope)(x:Str):Bool:=match kd sc x with
 | some .local=>true
 | some .cell=>true
 | some .free=>true
 | _=>false
noncomputable def k7(sc:Scope)(x:Str):Bool:=match kd sc x with
 | some .local=>true
 | some .cell=>true
 | _=>false
noncomputable def k8(sc:Scope)(x:Str):Bool:=match kd sc x with
 | some .local=>true
 | _=>false
noncomputable def gR(Γ:Gm)(x:Str):Bool:=(match kd Γ.sc x with
 | some .globalImplicit=>true
 | _=>false)&&!(x==("__debug__" : Str))
noncomputable def cG(c:Bool){α:Type}(o:Option α):Option α:=if c then o else none
def slot(Γ:Gm)(x:Str):Option Nat:=(VI x Γ.N).bind fun i=>if k6 Γ.sc x&&(!(x==("__debug__" : Str))&&!(x==("__classdict__" : Str)))then some i else none
def nm(Γ:Gm):Expr->Option Nat
 | .Name x _=>slot Γ x
 | _=>none
def gS(Γ:Gm)(x:Str):Option Nat:=(VI x Γ.N).bind fun i=>if k7 Γ.sc x&&(Γ.fn||k8 Γ.sc x)then some i else none
noncomputable def Jl:Expr->Bool
 | .Starred _ _=>false
 | _=>true
structure Rc where
 n:Gm->Expr->Option Dn
 t:Gm->Expr->Option DT
 g:Gm->Nat->Expr->Option DG
section
variable (r:Rc) (Γ:Gm)
noncomputable def cV(f:Nat->DE)(e:Expr):Option DE:=match nm Γ e with
 | some i=>some (f i)
 | none=>(r.n Γ e).map Dn.e
def cA:List Bool->List Expr->Option DA
 | [],[]=>some []
 | k::ks,e::es=>if Jl e then(cV r Γ (if k then dC else dV) e).bind fun d=>(cA ks es).bind fun l=>some ((k,d)::l)else none
 | _,_=>none
def XQ:Operator->Option (D->D->Option D)
 | .Add=>some jG
 | .Sub=>some U4
 | .Mult=>some yA
 | .Mod=>some Jb
 | .FloorDiv=>some GF
 | .Pow=>some wg
 | _=>none
def Ut:CmpOp->Option (D->D->Option D)
 | .Eq=>some u9
 | .NotEq=>some zA
 | .Lt=>some U5
 | .LtE=>some Jp
 | .Gt=>some xS
 | .GtE=>some Bn
 | .In=>some (k_ false)
 | .NotIn=>some (k_ true)
 | .Is=>some Y3
 | .IsNot=>some GG
noncomputable def cB(f:DE->DE->DE):List Expr->Option DE
 | []=>none
 | [a]=>cV r Γ dC a
 | a::b=>(cV r Γ dV a).bind fun d=>(cB f b).bind fun d'=>some (f d d')
noncomputable def cW(f:DT->DT->DT):List Expr->Option DT
 | []=>none
 | [a]=>r.t Γ a
 | a::b=>(r.t Γ a).bind fun d=>(cW f b).bind fun d'=>some (f d d')
def wO:Option Expr->Option Ua
 | none=>some fun _=>some none
 | some e=>(cV r Γ dV e).map fun d=>fun ρ=>(d ρ).bind yp
noncomputable def Zy(p:Pos):Option (List Nat):=Γ.hs.lookup (p.line,p.col,p.endCol)
noncomputable def Uu:Expr->Bool
 | .Call _ _ _ _=>false
 | _=>true
noncomputable def Uv:Expr->Bool
 | .Slice _ _ _ _=>false
 | _=>true
def wP(x:Str)(h:Bool):Option (List D->Option D):=if x = "len" then some (if h then uF else JO)else if x = "tuple" then some yY else if x = "all" then some zN else if x = "str" then some zd else if x = "int" then some Y_ else if x = "any" then some Ym else none
def wQ(x:Str)(h:Bool):Option (List D->Option OD):=if x = "list" then some JS else none
def gU(x:Str):Bool:=gR Γ x&&(match Γ.gs.lookup x with | some .blt=>true | _=>false)
noncomputable def wR(x:Str):Option String:=if x = "list" then some "list" else if x = "tuple" then some "tuple" else if x = "bool" then some "bool" else if x = "str" then some "str" else if x = "int" then some "int" else none
def XR(e:Expr):Option DI:=(cV r Γ dP e).map fun d=>match Zy Γ e.pos with
 | some (_::_)=>wA d
 | _=>yg d
def XS(tup:Bool)(x:Str)(as:List Expr):Option DI:=
 if gU Γ x then(match as with
  | [a]=>if x = "range" then cG (Jl a) ((cV r Γ dV a).map ZJ)
   else if x = "enumerate" then cG (Jl a&&tup) ((cV r Γ dP a).map WP)else none
  | [a,b]=>if x = "zip" then cG (Jl a&&Jl b&&tup) ((cV r Γ dP a).bind fun d=>(cV r Γ dP b).map fun d'=>VC d d')else none
  | _=>none)else none
noncomputable def ZL:Expr->Bool
 | .Tuple _ _ _=>true
 | _=>false
noncomputable def uG:Expr->Bool
 | .Set _ _ _=>false
 | _=>true
noncomputable def wS:Keyword->Bool
 | ⟨some k,.Constant (.int 1) _ _,_⟩=>k==("start" : Str)
 | _=>false
def XT(tg e f:Expr)(as:List Expr)(ks:List Keyword)(p:Pos):Option DI:=match f with
 | .Name x _=>(match ks with
  | []=>(match XS r Γ (ZL tg) x as with
   | some d=>some d
   | none=>XR r Γ e)
  | k::ks=>(match as,ks with
   | [a],[]=>cG (x==("enumerate" : Str)&&gU Γ x&&Jl a&&ZL tg&&wS k) ((cV r Γ dP a).map Ve)
   | _,_=>none))
 | _=>none
def cI(tg:Expr)(e:Expr):Option DI:=match e with
 | .Call f as ks p=>XT r Γ tg e f as ks p
 | _=>cG (uG e) (XR r Γ e)
noncomputable def XU(scope sc:Scope):Scope:={ scope with names:=scope.names.map fun(n,k)=>if k==.free&&sc.kind==.function&&sc.names.lookup n==some .cell then(n,.cell)else(n,k) }
noncomputable def Bx:Nat->Expr->List Str
 | 0,_=>[]
 | _+1,.Name x _=>[x]
 | n+1,.Tuple es _ _=>(es.map (Bx n)).flatten
 | _,_=>[]
noncomputable def Uw:List Str->Bool
 | []=>true
 | x::r=>!(r.contains x)&&Uw r
noncomputable def wT:List Nat->Bool
 | []=>true
 | x::r=>!(r.contains x)&&wT r
noncomputable def XV(scope:Scope)(p:Str×Nat):Bool:=(match Γ.N[p.2]? with
  | some y=>y==p.1
  | none=>false)&&(match kd Γ.sc p.1 with
  | some .cell=>true
  | some .free=>true
  | _=>false)&&(match kd scope p.1 with
  | some .free=>true
  | _=>false)
noncomputable def Bz(scope:Scope):Bool:=(match scope.kind with | .function=>true | _=>false)&&(scope.names.all fun y=>y.2 != .local||scope.names.lookup y.1==some .local)&&(scope.names.all fun y=>y.2 != .cell) &&
 (scope.names.all fun y=>y.2 != .free||Γ.sc.names.lookup y.1==some .cell||Γ.sc.names.lookup y.1==some .free)
def XW(p:Pos):List (Str×Nat):=((Zy Γ p).getD []).map fun j=>(Γ.N.getD j "",j)
def inner(own:List Str)(caps:List (Str×Nat))(scope:Scope):Gm:={ Γ with N:=own++caps.map (·.1),sc:=XU scope Γ.sc,fn:=false }
def XX(elt tg iter:Expr)(ifs:List Expr)(scope:Scope)(p:Pos):Option DO:=
 let own:=Bx 5 tg
 let caps:=XW Γ p
 let Δ:=inner Γ own caps scope
 cG (Bz Γ scope&&caps.all (XV Γ scope)&&Uw Δ.N&&wT (caps.map fun z:Str×Nat=>z.2)&&uG iter)
  ((cI r Γ tg iter).bind fun di=>(r.g Δ own.length tg).bind fun g=>(match ifs with
   | []=>some J2
   | [c]=>r.t Δ c
   | _=>none).bind fun dc=>(cV r Δ dC elt).bind fun de=>some (Yi own.length (caps.map fun z:Str×Nat=>z.2) di g dc de))
def wU(es:List Expr):Option Dn:=match es with
 | [a,t]=>(match t with
  | .Name t _=>cG (Jl a&&gU Γ t) ((wR t).bind fun T=>(cV r Γ dV a).map fun d=>.E (d1 (Y4 T) d))
  | .Tuple ts _ _=>(match ts with
   | [.Name t _,.Name u _]=>cG (Jl a&&gU Γ t&&gU Γ u&&t==("list" : Str)&&u==("tuple" : Str)) ((cV r Γ dV a).map fun d=>.E (d1 GR d))
   | _=>none)
  | _=>none)
 | _=>none
def qg(x:Str)(es:List Expr)(p:Pos):Option Dn:=cG (gR Γ x&&!es.isEmpty) (match Γ.gs.lookup x with
 | some (.fE _ _ ks F)=>(cA r Γ ks es).map fun l=>.E (je F l)
 | some (.fF _ _ ks F)=>(cA r Γ ks es).map fun l=>.F (J1 F l)
 | some (.mk _ _ ks _ G)=>(cA r Γ ks es).map fun l=>.F (V9 G l)
 | some .blt=>if x = "isinstance" then wU r Γ es
  else(cA r Γ (es.map fun _=>false) es).bind fun l=>(match wP x (Zy Γ p).isSome with
   | some f=>some (.E (je f l))
   | none=>(wQ x (Zy Γ p).isSome).map fun f=>.F (J1 f l))
 | _=>none)
noncomputable def XY:Const->Option Dn
 | .int i=>some (.E (dK (.int i)))
 | .bool i=>some (.E (dK (.bl i)))
 | .none=>some (.E (dK .non))
 | .str i=>some (.E (dK (.str i)))
 | _=>none
def XZ(op:UnaryOp)(a:Expr):Option Dn:=match op with
 | .USub=>(cV r Γ dV a).map fun d=>.E (xY d)
 | .Not=>(cV r Γ dV a).map fun d=>.E (WL d)
 | _=>none
def BA(a:Expr)(op:Operator)(b:Expr)(p:Pos):Option Dn:=(cV r Γ dV a).bind fun d=>(cV r Γ dV b).bind fun d'=>(match Zy Γ p with
  | some _=>(match op with
   | .Add=>some (.F (V2 U7 d d'))
   | _=>none)
  | none=>(XQ op).map fun f=>.E (d2 f d d'))
def Co:CmpOp->Option (D->D->Option D)
 | .LtE=>some Uq
 | _=>none
def ud(p:Pos)(o:CmpOp):Option (D->D->Option D):=if (Zy Γ p).isSome then Co o else Ut o
def BB(a:Expr)(os:List CmpOp)(bs:List Expr)(p:Pos):Option DE:=match os,bs with
 | [o],[b]=>cG (!behindInMarks o b) ((cV r Γ dV a).bind fun d=>(cV r Γ dV b).bind fun d'=>(ud Γ p o).map fun f=>d2 f d d')
 | [o,o'],[b,c]=>cG (!lastMarks [o,o'] [b,c]) ((cV r Γ dV a).bind fun d=>(cV r Γ dV b).bind fun d'=>(cV r Γ dV c).bind fun d''=>(ud Γ p o).bind fun f=>(ud Γ p o').map fun f'=>J6 f f' d d' d'')
 | [o,o',o''],[b,c,e]=>cG (!lastMarks [o,o',o''] [b,c,e]) ((cV r Γ dV a).bind fun d=>(cV r Γ dV b).bind fun d'=>(cV r Γ dV c).bind fun d''=>(cV r Γ dV e).bind fun d3=>
   (Ut o).bind fun f=>(Ut o').bind fun f'=>(Ut o'').map fun f''=>ZI f f' f'' d d' d'' d3)
 | _,_=>none
def X_(a b:Expr)(p:Pos):Option Dn:=match b with
 | .Slice lo hi st _=>(match st with
  | none=>(cV r Γ dV a).bind fun d=>(wO r Γ lo).bind fun x=>(wO r Γ hi).map fun y=>(match Zy Γ p with
   | some _=>.E (uC d x y)
   | none=>.F (ye d x y))
  | some _=>none)
 | b=>cG (Uv b) ((cV r Γ dV a).bind fun d=>(cV r Γ dV b).map fun d'=>.E (d2 (if (Zy Γ p).isSome then G_ else jw) d d'))
def qh(elt:Expr)(gs:List Comprehension)(scope:Scope)(p:Pos):Option DO:=match gs with
 | [⟨tg,iter,ifs,a⟩]=>cG (a==0) (XX r Γ elt tg iter ifs scope p)
 | _=>none
def a8(a b:Expr):Option Dn:=match a with
 | .Name x _=>cG (gR Γ x) (match Γ.gs.lookup x with
  | some (.kt l)=>cG (l.length==4) ((cV r Γ dV b).map fun d=>.E (d1 (wK l) d))
  | _=>none)
 | _=>none
def a9(m:Str)(d d':DE):Option Dn:=if m = "join" then some (.E (d2 Vf d d'))else if m = "split" then some (.F (V2 y_ d d'))else if m = "partition" then some (.E (d2 Vg d d'))else none
def ab(a:Expr)(m:Str)(ap:Pos)(es:List Expr)(p:Pos):Option Dn:=match a,es with
 | .Name x np,[]=>cG (ap.endLine==p.line) ((cV r Γ dV (.Name x np)).bind fun d=>match Γ.ms.lookup m with
  | some (.fE _ _ _ F)=>some (.E (d1 (GM Γ.C m F) d))
  | some (.fF _ _ _ F)=>some (.F (ZZ (jZ Γ.C m F) d))
  | _=>none)
 | a,[b]=>cG (Jl b&&ap.endLine==p.line) (if m = "index" then a8 r Γ a b else cG (Uu a) ((cV r Γ dV a).bind fun d=>(cV r Γ dV b).bind fun d'=>a9 m d d'))
 | _,_=>none
def BC(f:Expr)(es:List Expr)(ks:List Keyword)(p:Pos):Option Dn:=match ks with
 | []=>(match f with
  | .Name x _=>qg r Γ x es p
  | .Attribute a m ap=>ab r Γ a m ap es p
  | _=>none)
 | _::_=>none
def ad(e:Expr):Option DE:=match e with
 | .FormattedValue v c s _=>cG (c==-1&&s.isNone) ((cV r Γ dC v).map Yj)
 | e=>cV r Γ dC e
def ae:List Expr->Option (List DE)
 | []=>some []
 | e::es=>(ad r Γ e).bind fun d=>(ae es).map fun ds=>d::ds
def cN(e:Expr):Option Dn:=match e with
 | .Name x _=>cG (gR Γ x) (match Γ.gs.lookup x with
  | some (.con i)=>some (.E (dK (.int i)))
  | some (.kt l)=>some (.E (dK (.tup (l.map D.str))))
  | _=>none)
 | .Constant c _ _=>XY c
 | .UnaryOp op a _=>XZ r Γ op a
 | .BinOp a op b p=>BA r Γ a op b p
 | .Compare a os bs p=>(BB r Γ a os bs p).map .E
 | .BoolOp op vs _=>(match op with
  | .And=>(cB r Γ JR vs).map .E
  | .Or=>(cB r Γ GJ vs).map .E)
 | .IfExp c a b _=>(r.t Γ c).bind fun t=>(cV r Γ dC a).bind fun d=>(cV r Γ dC b).map fun d'=>.E (xZ t d d')
 | .Tuple es _ _=>cG (Nat.ble es.length 1000) ((cA r Γ (es.map fun _=>true) es).map fun l=>.E (Zo l))
 | .List es _=>cG (Nat.ble es.length 1000) ((cA r Γ (es.map fun _=>true) es).map fun l=>.F (Jc l))
 | .JoinedStr vs _=>cG (Nat.ble 2 vs.length) ((ae r Γ vs).map fun ds=>.E (zS ds))
 | .Attribute a f _=>cG (Uu a&&Γ.fl.contains f) ((cV r Γ dV a).map fun d=>.E (d1 (Jk Γ.C f) d))
 | .Subscript a b p=>X_ r Γ a b p
 | .ListComp elt gs scope p=>(qh r Γ elt gs scope p).map .F
 | .Call f es ks p=>BC r Γ f es ks p
 | _=>none
noncomputable def af:Expr->Bool
 | .UnaryOp .Not _ _=>false
 | .BoolOp _ _ _=>false
 | .IfExp _ _ _ _=>false
 | .Compare _ _ _ _=>false
 | _=>true
def BD(a:Expr)(os:List CmpOp)(bs:List Expr)(p:Pos):Option DT:=match os,bs with
 | [o],[b]=>cG (!behindInMarks o b) ((cV r Γ dV a).bind fun d=>(cV r Γ dV b).bind fun d'=>(ud Γ p o).map fun f=>Jf (d2 f d d'))
 | [o,o'],[b,c]=>cG (!lastMarks [o,o'] [b,c]) ((cV r Γ dV a).bind fun d=>(cV r Γ dV b).bind fun d'=>(cV r Γ dV c).bind fun d''=>(ud Γ p o).bind fun f=>(ud Γ p o').map fun f'=>Jf (J6 f f' d d' d''))
 | _,_=>none
def cT(e:Expr):Option DT:=match e with
 | .Compare a os bs p=>BD r Γ a os bs p
 | .UnaryOp op a p=>(match op with
  | .Not=>(r.t Γ a).map JD
  | op=>cG (af (.UnaryOp op a p)) ((cV r Γ dV (.UnaryOp op a p)).map JZ))
 | .BoolOp op vs _=>(match op with
  | .And=>cW r Γ GH vs
  | .Or=>cW r Γ Yy vs)
 | e=>cG (af e) ((cV r Γ dV e).map JZ)
def Ka(k:Nat):List Expr->Option V7
 | []=>some gZ
 | e::es=>cG (Jl e) ((r.g Γ k e).bind fun g=>(Ka k es).map fun gs=>gC g gs)
def ah(k:Nat):Expr->Option DG
 | .Name x _=>(gS Γ x).bind fun i=>cG (Nat.blt i k) (some (gN i))
 | .Tuple es _ _=>(Ka r Γ k es).map fun gs=>gT es.length gs
 | _=>none
end
def rc:Nat->Rc
 | 0=>⟨fun _ _=>none,fun _ _=>none,fun _ _ _=>none⟩
 | n+1=>⟨cN (rc n),cT (rc n),ah (rc n)⟩
noncomputable def wV:Stmt->Nat
 | .Return _ p=>p.line
 | .Assign _ _ p=>p.line
 | .AugAssign _ _ _ p=>p.line
 | .For _ _ _ _ p=>p.line
 | .While _ _ _ p=>p.line
 | .If _ _ _ p=>p.line
 | .Expr _ p=>p.line
 | _=>0
section
variable (r:Rc) (q:Gm->List Stmt->Option DS.DS) (Γ:Gm)
noncomputable def cF(e:Expr):Option DO:=match r.n Γ e with
 | some (.F d)=>some d
 | _=>none
noncomputable def vG:Expr->Bool
 | .ListComp _ _ _ _=>false
 | .SetComp _ _ _ _=>false
 | .DictComp _ _ _ _ _=>false
 | _=>true
def BE(scope:Scope)(x:Str)(np vp:Pos):Bool:=(match Γ.sc.kind with | .function=>true | _=>false)&&k8 Γ.sc x&&np.line==vp.line&&!(scope.names.any fun(n,k)=>n==x&&(k==.local||k==.cell))
def BF(x:Str)(np:Pos)(e:Expr):Option DS.DS:=(gS Γ x).bind fun i=>match e with
 | .ListComp elt gs scope p=>(qh r Γ elt gs scope p).bind fun d=>cG (BE Γ scope x np p) (some (if Γ.ow.contains i then yz i d else jJ i (dL d)))
 | e=>cG (vG e) (if Γ.ow.contains i then(cF r Γ e).map (yz i)else(cV r Γ dC e).map (jJ i))
noncomputable def Ux:List Expr->Option (Expr×Expr)
 | [.Name x p,.Starred (.Name y q) _]=>some (.Name x p,.Name y q)
 | _=>none
def ai(t e:Expr):Option DS.DS:=match t with
 | .Name x np=>BF r Γ x np e
 | .Attribute o f _=>(nm Γ o).bind fun i=>cG (vG e&&Γ.fl.contains f) ((cV r Γ dC e).map fun d=>YZ i Γ.C f d)
 | .Subscript o j p=>(nm Γ o).bind fun i=>cG (vG e&&Uv j) ((cV r Γ dV j).bind fun dx=>(cV r Γ dC e).map fun d=>GO i dx d)
 | .Tuple es n p=>cG (vG e&&!ZL e) (match Ux es with
  | some (e0,e1)=>(cV r Γ dC e).bind fun d=>(Ka r Γ Γ.N.length [e0,e1]).map fun g=>GZ d g
  | none=>(cV r Γ dC e).bind fun d=>(r.g Γ Γ.N.length (.Tuple es n p)).map fun g=>Zs d g)
 | _=>none
def aj(t:Expr)(op:Operator)(e:Expr):Option DS.DS:=match t with
 | .Name x _=>(gS Γ x).bind fun i=>(cV r Γ dV e).bind fun d=>(match op with
  | .Add=>some (if Γ.ow.contains i then Ur i d else wq i (fun i j=>i+j) d)
  | .Sub=>some (wq i (fun i j=>i - j) d)
  | _=>none)
 | _=>none
def BG(f:Expr)(es:List Expr)(ks:List Keyword)(p:Pos):Option DS.DS:=match f,es,ks with
 | .Attribute o m ap,[e],[]=>(nm Γ o).bind fun i=>cG (m==("append" : Str)&&Jl e&&ap.endLine==p.line) ((cV r Γ dC e).map fun d=>yJ i d)
 | _,_,_=>none
def BH(e:Expr):Option DS.DS:=match e with
 | .Call f es ks p=>(match BG r Γ f es ks p with
  | some d=>some d
  | none=>(cV r Γ dV (.Call f es ks p)).map GN)
 | e=>cG (vG e) ((cV r Γ dV e).map GN)
def cS(s:Stmt):Option DS.DS:=match s with
 | .Assign ts e _=>(match ts with
  | [t]=>ai r Γ t e
  | _=>none)
 | .AugAssign t op e _=>aj r Γ t op e
 | .Expr e _=>BH r Γ e
 | .Return o _=>(match o with
  | none=>some (jF (dK .non))
  | some e=>(match nm Γ e with
   | some i=>if Γ.ow.contains i then some (Va i)else some (jF (dC i))
   | none=>if Γ.kF then(cF r Γ e).map YX else(cV r Γ dC e).map jF))
 | .If c a b _=>(r.t Γ c).bind fun t=>(q Γ a).bind fun x=>(q Γ b).map fun y=>J3 t x y
 | .While c b o _=>(match o with
  | []=>(r.t Γ c).bind fun t=>(q Γ b).map fun x=>Z_ t x 20000
  | _::_=>none)
 | .For tg it b o _=>(match o with
  | []=>cG (uG it) ((cI r Γ tg it).bind fun di=>(r.g Γ Γ.N.length tg).bind fun g=>(q Γ b).map fun x=>yi di g x)
  | _::_=>none)
 | .Pass _=>some Jg
 | .Break _=>some Bu
 | .Continue _=>some Bv
 | _=>none
def gV(l:Nat):List (Nat×Nat)->DS.DS->DS.DS
 | [],d=>d
 | (m,i)::r,d=>if m=l then Zr i (gV l r d)else gV l r d
noncomputable def Cp:Stmt->Bool
 | .Raise _ _ _=>true
 | _=>false
def ao:List Expr->Option (List DO)
 | []=>some []
 | e::es=>cG (Jl e) ((cF r Γ e).bind fun f=>(ao es).map fun fs=>f::fs)
def BI(i:Nat)(g:Str)(e0 e1 e2:Expr):Option DS.DS:=match Γ.gs.lookup g with
 | some (.fM _ _ F)=>(nm Γ e1).bind fun j=>cG (gR Γ g&&Jl e0&&Jl e1&&Jl e2) ((cV r Γ dC e0).bind fun a=>(cV r Γ dC e2).map fun b=>Zw i j F a b)
 | _=>none
def aq(i:Nat)(e:Expr):Option DS.DS:=match e with
 | .List es _=>(ao r Γ es).map fun fs=>uE i fs
 | .Call (.Name g _) [e0,e1,e2] [] _=>BI r Γ i g e0 e1 e2
 | _=>none
def ar(e:Expr):Option DS.DS:=match e with
 | .Call (.Attribute (.Subscript a j _) m ap) [x] [] p=>(nm Γ a).bind fun i=>cG (m==("append" : Str)&&Uv j&&Jl x&&ap.endLine==p.line) ((cV r Γ dV j).bind fun dj=>(cV r Γ dC x).map fun de=>ZK i dj de)
 | _=>none
noncomputable def au:List Expr->Option Str
 | [.Name x _]=>some x
 | _=>none
def av(s:Stmt):Option DS.DS:=match s with
 | .Assign ts e _=>(au ts).bind fun x=>(gS Γ x).bind fun i=>aq r Γ i e
 | .Expr e _=>ar r Γ e
 | _=>none
def cX(s:Stmt):Option DS.DS:=if (Γ.hs.lookup (wV s,0,9)).isSome then av r Γ s else cS r q Γ s
def cM:List Stmt->Option DM
 | []=>none
 | s::t=>(match s with
  | .Return v p=>(match v,t with
   | some e,[]=>(cV r Γ dC e).map fun d=>if (Γ.hs.lookup (p.line,0,9)).isSome then zR fun ρ=>(d (frz ρ)).bind zU else zR d
   | _,_=>none)
  | .Try bd hs oe fb p=>(match bd,hs,oe,fb,t with
   | [.Return (some e) rp],[_],[],[],[]=>(cV r Γ dC e).map fun d=>if (Γ.hs.lookup (rp.line,0,9)).isSome then zR fun ρ=>(d (frz ρ)).bind zU else zR d
   | _,_,_,_,_=>none)
  | .If c a b p=>(match a,b with
   | [.Return (some e) _],[]=>(r.t Γ c).bind fun dt=>(cV r Γ dC e).bind fun d=>(cM t).map fun m=>ua (if (Γ.hs.lookup (p.line,0,9)).isSome then fun ρ=>dt (frz ρ)else dt) d m
   | _,_=>none)
  | s=>(cX r q Γ s).bind fun d=>(cM t).map fun m=>Zv d m)
def qi:List Stmt->Option DS.DS
 | []=>some Jg
 | s::t=>if Cp s then some YW else(cX r q Γ s).bind fun d=>(match t with
  | []=>some (gV (wV s) Γ.sh d)
  | t=>(qi t).map fun d'=>gV (wV s) Γ.sh (ja d d'))
end
def cQ(r:Rc):Nat->Gm->List Stmt->Option DS.DS
 | 0=>fun _ _=>none
 | n+1=>fun Γ=>qi r (cQ r n) Γ
section
variable (P:Program) (w:World) (K':Fr) (mg:Str->Option Value) (base:Heap) (C:Addr) (rm:Nat->Prop) (K:Fr) (x:Str)
def Uy:GI->Prop
 | .con i=>∃t,mg x=some (.int i t)
 | .fE k ps ks F=>FnI P w K' mg base k x ps (V8 K ks F)/\rm k
 | .fF k ps ks F=>FnI P w K' mg base k x ps (gM K ks F)/\rm k
 | .mk k ps ks F G=>MkI P w K' mg base k C x ps (WR K C ks F)/\(∀p ds o,G ds=some o->F p ds=some o)/\rm (k+1)
 | .kt l=>GT K mg x l/\K'=K
 | .fM k ps F=>FnI P w K' mg base k x ps (Ul K fun _=>F)/\rm k
 | .blt=>mg x=none
def gW:GI->Prop
 | .fE k ps _ F=>MtI P w K' mg base k C x ps (V8 K [false] F)/\rm k
 | .fF k ps _ F=>MtI P w K' mg base k C x ps (gM K [false] F)/\rm k
 | _=>True
end
structure OkX (K:Fr) (Γ:Gm) (X:Cx):Prop where
 n:X.N=Γ.N
 sc:X.env.scope=Γ.sc
 nd:Γ.N.Nodup
 calm:X.calm=true
 k:X.K=K
 room:Room 0 X.A
 fn:Γ.fn=true->∀x,X.fn x=true
 gs:∀x g,Γ.gs.lookup x=some g->Uy X.prog X.w X.K X.mg X.base Γ.C (fun k=>Room k X.A) K x g
 ms:∀x g,Γ.ms.lookup x=some g->gW X.prog X.w X.K X.mg X.base Γ.C (fun k=>Room k X.A) K x g
 cl:Cls K Γ.C
 fl:∀f,Γ.fl.contains f=true->JE K Γ.C f
def Z6(X:Cx)(K:Fr)(e:Expr):Dn->Prop
 | .E d=>PE X e (tE K d)
 | .F d=>PE X e (tF K d)
structure RcOk (r:Rc):Prop where
 n:∀{K:Fr} {Γ:Gm} {X:Cx} {e:Expr} {d:Dn},OkX K Γ X->r.n Γ e=some d->Z6 X K e d
 t:∀{K:Fr} {Γ:Gm} {X:Cx} {e:Expr} {d:DT},OkX K Γ X->r.t Γ e=some d->PT X e (tT K d)
 g:∀{K:Fr} {Γ:Gm} {X:Cx} {k:Nat} {e:Expr} {d:DG},OkX K Γ X->r.g Γ k e=some d->PG X e (tG K k d)
theorem j8{c:Bool}{α:Type}{o:Option α}{y:α}(h:cG c o=some y):c=true/\o=some y:=by
 cases c with
 | true=>exact⟨rfl,h⟩
 | false=>cases h
theorem j6{α β:Type}{o:Option α}{f:α->β}{y:β}(h:o.map f=some y):∃x,o=some x/\f x=y:=by
 cases o with
 | none=>cases h
 | some x=>exact⟨x,rfl,vFa h⟩
theorem jf{a b:Bool}(h:(a&&b)=true):a=true/\b=true:=by simpa using h
theorem yK{a:Bool}(h:(!a)=true):a=false:=by simpa using h
theorem vH{x:Str}:∀{l:List Str} {i:Nat},VI x l=some i->l[i]?=some x
 | [],_,h=>by cases h
 | y::r,i,h=>by
  unfold VI at h;split at h
  ·cases h;rename_i e;rw[e];rfl
  ·obtain⟨j,h1,h2⟩:=j6 h;rw[<-h2];simpa using vH h1
section
variable {r:Rc} {Γ:Gm} {X:Cx} {K:Fr} {x y:Str} {i:Nat} {e a b c tg:Expr} {es:List Expr} {pos:Pos} {d:DE}
theorem aw{sc:Scope}(h:k6 sc x=true):gz sc x:=by
 unfold k6 at h;split at h <;> first | cases h | skip
 ·exact .inl (by assumption)
 ·exact .inr (.inl (by assumption))
 ·exact .inr (.inr (by assumption))
theorem Kb{sc:Scope}(h:k7 sc x=true):ZT sc x:=by
 unfold k7 at h;split at h <;> first | cases h | skip
 ·exact .inl (by assumption)
 ·exact .inr (by assumption)
theorem Kc{sc:Scope}(h:k8 sc x=true):sc.names.lookup x=some .local:=by
 unfold k8 at h;split at h
 ·assumption
 ·cases h
theorem Vh(h:OkX K Γ X)(g:gR Γ x=true):Gl X x/\(x==("__debug__" : Str))=false:=by
 obtain⟨g1,g2⟩:=jf g;refine⟨?_,yK g2⟩;show X.env.scope.names.lookup x=_;rw[h.sc];split at g1
 ·assumption
 ·cases g1
theorem Zz(h:OkX K Γ X)(g:gU Γ x=true):Gl X x/\X.mg x=none:=by
 obtain⟨g1,g2⟩:=jf g;refine⟨(Vh h g1).1,?_⟩;split at g2
 ·exact h.gs x _ (by assumption)
 ·cases g2
theorem wW(e:slot Γ x=some i):VI x Γ.N=some i/\k6 Γ.sc x=true/\(x==("__debug__" : Str))=false/\(x==("__classdict__" : Str))=false:=by
 obtain⟨j,e1,e2⟩:=j0 e;split at e2
 ·cases e2;rename_i hh;obtain⟨h1,h2⟩:=jf hh;obtain⟨h2,h3⟩:=jf h2;exact⟨e1,h1,yK h2,yK h3⟩
 ·cases e2
theorem Jx(h:OkX K Γ X)(e:slot Γ x=some i):PE X (.Name x pos) (yu i):=by
 obtain⟨h1,h2,h3,h4⟩:=wW e;exact pv i (by rw[h.n];exact vH h1) (by rw[h.sc];exact aw h2) h3 h4
theorem JJ(h:nm Γ e=some i):∃x pos,e=.Name x pos/\slot Γ x=some i:=by
 unfold nm at h;split at h
 ·exact⟨_,_,rfl,h⟩
 ·cases h
theorem Vi(h:OkX K Γ X)(e:gS Γ x=some i):X.N.Nodup/\X.N[i]?=some x/\ZT X.env.scope x/\(X.fn x=true∨X.env.scope.names.lookup x=some .local):=by
 obtain⟨j,e1,e2⟩:=j0 e;split at e2
 ·cases e2;rename_i hh;obtain⟨h1,h2⟩:=jf hh;refine⟨by rw[h.n];exact h.nd,by rw[h.n];exact vH e1,by rw[h.sc];exact Kb h1,?_⟩;rw[Bool.or_eq_true]at h2;rcases h2 with h2 | h2
  ·exact .inl (h.fn h2 x)
  ·exact .inr (by rw[h.sc];exact Kc h2)
 ·cases e2
theorem jo{env:Env}(h:Jl e=true):starEach (e::es) env=(false,eval e env)::starEach es env:=by
 cases e <;> first | rfl | cases h
theorem YF{env:Env}:∀{es:List Expr},(∀e∈es,Jl e=true)->(backTo pos (starEach es env)).any (·.1)=false
 | [],_=>rfl
 | e::es,h=>by
  rw[jo (h e List.mem_cons_self)];show(false||(backTo pos (starEach es env)).any (·.1))=false;rw[YF fun x hx=>h x (List.mem_cons_of_mem _ hx)];rfl
theorem zx{env:Env}{f:Str}(h:Uu e=true):attributeBase e f env (eval e env)=eval e env:=by
 cases e <;> first | rfl | cases h
theorem zV(h:Uv b=true):Vz b:=by
 cases b <;> first | (intro _ _;rfl) | cases h
theorem gX{env:Env}{e:Expr}(h:uG e=true):∀x,foldedSetIterable e env x=pure x:=by
 cases e <;> first | (intro _;rfl) | cases h
theorem Y0{env:Env}{t:Option Expr}{l:Nat}(h:vG e=true):swapsWith e t l env=pure false:=by
 cases e <;> first | rfl | cases h
theorem Uz{f:Nat->DE}(h:cV r Γ f e=some d):(∃i,nm Γ e=some i/\d=f i)∨∃n,r.n Γ e=some n/\d=n.e:=by
 unfold cV at h;split at h
 ·exact .inl ⟨_,by assumption,(vFa h).symm⟩
 ·obtain⟨n,h1,h2⟩:=j6 h;exact .inr ⟨n,h1,h2.symm⟩
theorem wX{n:Dn}(h:Z6 X K e n):PE X e (tE K n.e):=by
 cases n with
 | E d=>exact h
 | F d=>exact cw h
variable (R:RcOk r) (h:OkX K Γ X)
include R h
theorem jS(q:cV r Γ dC e=some d):PE X e (tE K d):=by
 rcases Uz q with⟨i,q1,rfl⟩ | ⟨n,q1,rfl⟩
 ·obtain⟨x,p,rfl,q2⟩:=JJ q1;exact WH i (Jx h q2)
 ·exact wX (R.n h q1)
theorem ji(q:cV r Γ dV e=some d):PE X e (tR K d):=by
 rcases Uz q with⟨i,q1,rfl⟩ | ⟨n,q1,rfl⟩
 ·obtain⟨x,p,rfl,q2⟩:=JJ q1;exact AX i (Jx h q2)
 ·exact cv (wX (R.n h q1))
theorem ZM(q:cV r Γ dP e=some d):PE X e (tP K d):=by
 rcases Uz q with⟨i,q1,rfl⟩ | ⟨n,q1,rfl⟩
 ·obtain⟨x,p,rfl,q2⟩:=JJ q1;exact bG i (Jx h q2)
 ·exact C4 (wX (R.n h q1))
theorem zW:∀{ks:List Bool} {es:List Expr} {l:DA},cA r Γ ks es=some l->PA X es (yX K l)/\l.map (·.1)=ks/\(∀e∈es,Jl e=true)/\l.length=es.length
 | [],[],l,q=>by cases q;exact⟨bx,rfl,(fun _ h=>by cases h),rfl⟩
 | k::ks,e::es,l,q=>by
  unfold cA at q;split at q
  ·rename_i hs;obtain⟨d,q1,q⟩:=j0 q;obtain⟨l',q2,q⟩:=j0 q;cases q;obtain⟨a1,a2,a3,a4⟩:=zW q2;refine⟨?_,by simp[a2],fun z hz=>?_,by simp[a4]⟩
   ·cases k with
    | true=>exact C0 (jS R h q1) a1 (jo hs)
    | false=>exact C1 (ji R h q1) a1 (jo hs)
   ·rcases List.mem_cons.mp hz with rfl | hz
    ·exact hs
    ·exact a3 z hz
  ·cases q
 | [],_::_,_,q=>by cases q
 | _::_,[],_,q=>by cases q
omit R in
theorem ax{op:Operator}{f:D->D->Option D}(q:XQ op=some f):∃t,jt X (binaryOp op) t/\jM K t f:=by
 have:=h.k;subst this;cases op <;> cases q
 ·exact⟨_,Qb,bm⟩
 ·exact⟨_,xi,b8⟩
 ·exact⟨_,Qa,Xk⟩
 ·exact⟨_,xk,ba⟩
 ·exact⟨_,xl,be⟩
 ·exact⟨_,qD,bc⟩
omit R in
theorem Vj{op:CmpOp}{f:D->D->Option D}(q:Ut op=some f):∃t,jt X (compareOp op) t/\jM K t f:=by
 have:=h.k;subst this;cases op <;> cases q
 ·exact⟨_,Xp h.room,Ca⟩
 ·exact⟨_,Xq h.room,Cb⟩
 ·exact⟨_,AI,cD⟩
 ·exact⟨_,AJ,cH⟩
 ·exact⟨_,AL,cJ⟩
 ·exact⟨_,AM,cK⟩
 ·exact⟨_,xo,bf⟩
 ·exact⟨_,qE,xT⟩
 ·exact⟨_,kL,Xr⟩
 ·exact⟨_,uU,Xr⟩
omit R in
theorem zC{p:Pos}{op:CmpOp}{f:D->D->Option D}(q:ud Γ p op=some f):∃t,jt X (compareOp op) t/\jM K t f:=by
 unfold ud at q;split at q
 ·have:=h.k;subst this;cases op <;> cases q;exact⟨_,K4,bX⟩
 ·exact Vj h q
theorem Ke:∀{vs:List Expr} {d:DE},cB r Γ JR vs=some d->PE X (.BoolOp .And vs pos) (tE K d)
 | [],_,q=>by cases q
 | [a],_,q=>WM (jS R h q)
 | a::b::c,d,q=>by
  unfold cB at q;obtain⟨d1,q1,q⟩:=j0 q;obtain⟨d2,q2,q⟩:=j0 q;cases q;exact bt (ji R h q1) (Ke q2)
theorem qj:∀{vs:List Expr} {d:DE},cB r Γ GJ vs=some d->PE X (.BoolOp .Or vs pos) (tE K d)
 | [],_,q=>by cases q
 | [a],_,q=>WM (jS R h q)
 | a::b::c,d,q=>by
  unfold cB at q;obtain⟨d1,q1,q⟩:=j0 q;obtain⟨d2,q2,q⟩:=j0 q;cases q;exact c_ (ji R h q1) (qj q2)
theorem Kf:∀{vs:List Expr} {d:DT},cW r Γ GH vs=some d->PW X (.BoolOp .And vs pos) (tT K d)
 | [],_,q=>by cases q
 | [a],_,q=>xW (R.t h q)
 | a::b::c,d,q=>by
  unfold cW at q;obtain⟨d1,q1,q⟩:=j0 q;obtain⟨d2,q2,q⟩:=j0 q;cases q;exact br (R.t h q1) (Kf q2)
theorem qk:∀{vs:List Expr} {d:DT},cW r Γ Yy vs=some d->PW X (.BoolOp .Or vs pos) (tT K d)
 | [],_,q=>by cases q
 | [a],_,q=>bq (R.t h q)
 | a::b::c,d,q=>by
  unfold cW at q;obtain⟨d1,q1,q⟩:=j0 q;obtain⟨d2,q2,q⟩:=j0 q;cases q;exact cZ (R.t h q1) (qk q2)
theorem ZN{o:Option Expr}{p:Ua}(q:wO r Γ o=some p):PO X o (Ub K p):=by
 cases o with
 | none=>cases q;exact C2
 | some e=>
  obtain⟨d,q1,rfl⟩:=j6 q;exact C3 (ji R h q1)
theorem Kg{di:DI}(q:XR r Γ e=some di):PI X tg e (Yh K di):=by
 obtain⟨d,q1,rfl⟩:=j6 q;split
 ·exact bU (ZM R h q1) h.k
 ·exact bH (ZM R h q1) h.k
omit R h in
theorem vI(t:ZL e=true):∃es n p,e=.Tuple es n p:=by
 cases e <;> first | exact⟨_,_,_,rfl⟩ | cases t
theorem ay{di:DI}{es:List Expr}{np:Pos}(q:XS r Γ (ZL tg) x es=some di):PI X tg (.Call (.Name x np) es [] pos) (Yh K di):=by
 unfold XS at q;split at q
 ·rename_i hb;obtain⟨g1,g2⟩:=Zz h hb;split at q
  ·split at q
   ·rename_i ex;subst ex;obtain⟨s1,q⟩:=j8 q;obtain⟨d,q1,rfl⟩:=j6 q;exact X3 g1 g2 (ji R h q1) (jo s1)
   ·split at q
    ·rename_i ex;subst ex;obtain⟨s1,q⟩:=j8 q;obtain⟨u1,u2⟩:=jf s1;obtain⟨d,q1,rfl⟩:=j6 q;obtain⟨_,_,_,rfl⟩:=vI u2;exact X4 g1 g2 (ZM R h q1) (jo u1) h.k
    ·cases q
  ·split at q
   ·rename_i ex;subst ex;obtain⟨s1,q⟩:=j8 q;obtain⟨u1,u3⟩:=jf s1;obtain⟨u1,u2⟩:=jf u1;obtain⟨d,q1,q⟩:=j0 q;obtain⟨d',q2,rfl⟩:=j6 q;obtain⟨_,_,_,rfl⟩:=vI u3;exact bJ g1 g2 (ZM R h q1) (ZM R h q2) (by rw[jo u1,jo u2];rfl) (jo u2) h.k
   ·cases q
  ·cases q
 ·cases q
omit R h in
theorem Qo{k:Keyword}(z:wS k=true):∃kk cp kp,k=⟨some "start",.Constant (.int 1) kk cp,kp⟩:=by
 unfold wS at z;split at z
 ·have:=vLa z;subst this;exact⟨_,_,_,rfl⟩
 ·cases z
theorem az{di:DI}{f:Expr}{as:List Expr}{ks:List Keyword}{p:Pos}(q:XT r Γ tg (.Call f as ks p) f as ks p=some di):PI X tg (.Call f as ks p) (Yh K di):=by
 unfold XT at q;split at q
 ·split at q
  ·split at q
   ·cases q;exact ay R h (by assumption)
   ·exact Kg R h q
  ·split at q
   ·obtain⟨z,q⟩:=j8 q;obtain⟨z,z5⟩:=jf z;obtain⟨z,z4⟩:=jf z;obtain⟨z,z3⟩:=jf z;obtain⟨z1,z2⟩:=jf z;obtain⟨d,q1,rfl⟩:=j6 q;have e1:=vLa z1;subst e1;obtain⟨g1,g2⟩:=Zz h z2;obtain⟨_,_,_,rfl⟩:=vI z4;obtain⟨kk,cp,kp,rfl⟩:=Qo z5;exact Qh g1 g2 (ZM R h q1) (jo z3) h.k
   ·cases q
 ·cases q
theorem qo{di:DI}(q:cI r Γ tg e=some di):PI X tg e (Yh K di):=by
 unfold cI at q;split at q
 ·exact az R h q
 ·exact Kg R h (j8 q).2
end
theorem VJ:∀{l:List Str},Uw l=true->l.Nodup
 | [],_=>List.nodup_nil
 | x::r,h=>by
  obtain⟨h1,h2⟩:=jf h;refine List.nodup_cons.mpr ⟨fun z=>?_,VJ h2⟩;rw[List.contains_iff_mem.mpr z]at h1;cases h1
theorem gY:∀{l:List Nat},wT l=true->l.Nodup
 | [],_=>List.nodup_nil
 | x::r,h=>by
  obtain⟨h1,h2⟩:=jf h;refine List.nodup_cons.mpr ⟨fun z=>?_,gY h2⟩;rw[List.contains_iff_mem.mpr z]at h1;cases h1
structure LcP (X:Cx) (K:Fr) (elt tg iter:Expr) (ifs:List Expr) (scope:Scope) (own:List Str) (caps:List (Str×Nat)) (di:DI) (g:DG) (dc:DT) (de:DE):Prop where
 S:CScope X scope
 cp:Caps X scope caps
 i:PI X tg iter (Yh K di)
 g:∀s3 H3 ex',PG (X.comp (L2.cN own caps) scope s3 H3 ex') tg (tG K own.length g)
 t:∀s3 H3 ex',Y2 (X.comp (L2.cN own caps) scope s3 H3 ex') ifs (tT K dc)
 e:∀s3 H3 ex',PE (X.comp (L2.cN own caps) scope s3 H3 ex') elt (tE K de)
 nd:(caps.map (·.2)).Nodup
 fs:∀x,foldedSetIterable iter X.env x=pure x
section
variable {r:Rc} {Γ:Gm} {X:Cx} {K:Fr} {x y:Str} {i:Nat} {e a b c tg:Expr} {es:List Expr} {pos:Pos} {d:DE}
theorem vJ{own:List Str}{caps:List (Str×Nat)}{scope:Scope}(h:OkX K Γ X)(hn:Uw (inner Γ own caps scope).N=true){s3:Shared}{H3:Hp}{ex':List Addr}:OkX K (inner Γ own caps scope) (X.comp (L2.cN own caps) scope s3 H3 ex') where
 n:=rfl
 sc:=by
  show relabel scope X.env=XU scope Γ.sc;rw[<-h.sc];rfl
 nd:=VJ hn
 calm:=h.calm
 k:=h.k
 room:=h.room
 fn:=fun z=>by cases z
 gs:=h.gs
 ms:=h.ms
 cl:=h.cl
 fl:=h.fl
theorem B4{scope:Scope}(h:OkX K Γ X)(q:Bz Γ scope=true):CScope X scope:=by
 obtain⟨q,q4⟩:=jf q;obtain⟨q,q3⟩:=jf q;obtain⟨q1,q2⟩:=jf q;refine⟨?_,q2,q3,by rw[h.sc];exact q4⟩;split at q1
 ·assumption
 ·cases q1
theorem g_{scope:Scope}(h:OkX K Γ X):∀{caps:List (Str×Nat)},caps.all (XV Γ scope)=true->Caps X scope caps
 | [],_=>.nil
 | (y,j)::r,q=>by
  rw[List.all_cons]at q;obtain⟨q1,q2⟩:=jf q;obtain⟨q1,q5⟩:=jf q1;obtain⟨q3,q4⟩:=jf q1;refine .cons ?_ ?_ ?_ (g_ h q2)
  ·rw[h.n];dsimp only at q3;split at q3
   ·rename_i z hz;rw[hz,eq_of_beq q3]
   ·cases q3
  ·show X.env.scope.names.lookup y=_∨X.env.scope.names.lookup y=_;rw[h.sc];split at q4
   ·exact .inl (by assumption)
   ·exact .inr (by assumption)
   ·cases q4
  ·split at q5
   ·assumption
   ·cases q5
variable (R:RcOk r) (h:OkX K Γ X)
include R h
theorem aA{elt iter:Expr}{ifs:List Expr}{scope:Scope}{p:Pos}{d:DO}(q:XX r Γ elt tg iter ifs scope p=some d):
  ∃own caps di g dc de,d=Yi own.length (caps.map (·.2)) di g dc de/\LcP X K elt tg iter ifs scope own caps di g dc de:=by
 unfold XX at q;dsimp only at q;obtain⟨z,q⟩:=j8 q;obtain⟨z,z5⟩:=jf z;obtain⟨z,z4⟩:=jf z;obtain⟨z,z3⟩:=jf z;obtain⟨z1,z2⟩:=jf z;obtain⟨di,q1,q⟩:=j0 q;obtain⟨g,q2,q⟩:=j0 q;obtain⟨dc,q3,q⟩:=j0 q;obtain⟨de,q4,q⟩:=j0 q;refine⟨_,_,di,g,dc,de,(vFa q).symm,B4 h z1,g_ h z2,qo R h q1,fun _ _ _=>R.g (vJ h z3) q2,fun _ _ _=>?_,fun _ _ _=>jS R (vJ h z3) q4,gY z4,gX z5⟩;split at q3
 ·cases q3;exact C6
 ·exact C7 (R.t (vJ h z3) q3)
 ·cases q3
omit R in
theorem Qp{b:Bool}{l:DA}{f:List D->Option D}{np:Pos}(q:wP x b=some f)(g1:Gl X x)(g2:X.mg x=none)(ha:PA X (e::es) (yX K l))(he:starEach (e::es) X.env=(false,eval e X.env)::starEach es X.env)(hpl:(backTo pos (starEach es X.env)).any (·.1)=false):
  PE X (.Call (.Name x np) (e::es) [] pos) (tE K (je f l)):=by
 have:=h.k;subst this;unfold wP at q;split at q
 ·rename_i ex;subst ex;cases q;split
  ·exact jk (Yu uW g1 g2 PySem.boot_len ha (by decide) (by decide) he hpl) (Yz XO)
  ·exact jk (Yu uV g1 g2 PySem.boot_len ha (by decide) (by decide) he hpl) (Yz bD)
 split at q
 ·rename_i ex;subst ex;cases q;exact jk (YS ul g1 g2 PyProof.Rows.boot_tuple ha (by decide) (by decide) he hpl) (Yz Q0)
 split at q
 ·rename_i ex;subst ex;cases q;exact jk (Yu (wc h.calm) g1 g2 PyProof.Rows.boot_all ha (by decide) (by decide) he hpl) (Yz bE)
 split at q
 ·rename_i ex;subst ex;cases q;exact jk (YS uQ g1 g2 (by decide +kernel) ha (by decide) (by decide) he hpl) (Yz bW)
 split at q
 ·rename_i ex;subst ex;cases q;exact jk (YS Um g1 g2 (by decide +kernel) ha (by decide) (by decide) he hpl) (Yz XM)
 split at q
 ·rename_i ex;subst ex;cases q;exact jk (Yu (K7 h.calm) g1 g2 (by decide +kernel) ha (by decide) (by decide) he hpl) (Yz XE)
 ·cases q
omit R in
theorem Qq{l:DA}{b:Bool}{f:List D->Option OD}{np:Pos}(q:wQ x b=some f)(g1:Gl X x)(g2:X.mg x=none)(ha:PA X (e::es) (yX K l))(he:starEach (e::es) X.env=(false,eval e X.env)::starEach es X.env)(hpl:(backTo pos (starEach es X.env)).any (·.1)=false):
  PE X (.Call (.Name x np) (e::es) [] pos) (tF K (J1 f l)):=by
 have:=h.k;subst this;unfold wQ at q;split at q
 ·rename_i ex;subst ex;cases q;exact jk (YS uX g1 g2 PyProof.Rows.boot_list ha (by decide) (by decide) he hpl) (q_ x_)
 ·cases q
omit R h in
theorem Qr{t:Str}{T:String}(q:wR t=some T):bootBuiltins t=some (.type T)/\t≠ "__name__" /\(t==("__debug__" : Str))=false:=by
 unfold wR at q
 repeat (split at q;· rename_i ex;subst ex;cases q;exact⟨by first | exact PyProof.Rows.boot_list | exact PyProof.Rows.boot_tuple | exact PyProof.Rows.boot_bool | exact PyProof.Rows.boot_str | exact PyProof.Rows.boot_int,by decide,by decide⟩)
 cases q
theorem Qs{n:Dn}{np:Pos}(g1:Gl X "isinstance")(g2:X.mg "isinstance" = none)(q:wU r Γ es=some n):Z6 X K (.Call (.Name "isinstance" np) es [] pos) n:=by
 unfold wU at q;split at q
 ·split at q
  ·obtain⟨z,q⟩:=j8 q;obtain⟨z3,z4⟩:=jf z;obtain⟨T,q1,q⟩:=j0 q;obtain⟨d,q2,rfl⟩:=j6 q;obtain⟨b1,b2,b3⟩:=Qr q1;obtain⟨k1,k2⟩:=Zz h z4;exact bO (Yu wf g1 g2 PyProof.Rows.boot_isinstance (jz (ji R h q2) (jz (Vv (v:=.ty T) k1 k2 b1 rfl b2 b3) J4) (jo z3)) (by decide) (by decide) (jo z3)) h.k
  ·split at q
   ·obtain⟨z,q⟩:=j8 q;obtain⟨z,z7⟩:=jf z;obtain⟨z,z6⟩:=jf z;obtain⟨z,z5⟩:=jf z;obtain⟨z3,z4⟩:=jf z;obtain⟨d,q2,rfl⟩:=j6 q;have e1:=vLa z6;have e2:=vLa z7;subst e1 e2;obtain⟨k1,k2⟩:=Zz h z4;obtain⟨k3,k4⟩:=Zz h z5;exact Xs (qV g1 g2 k1 k2 k3 k4 (ji R h q2) (jo z3)) h.k
   ·cases q
  ·cases q
 ·cases q
theorem wY{n:Dn}{np:Pos}(q0:qg r Γ x es pos=some n):Z6 X K (.Call (.Name x np) es [] pos) n:=by
 obtain⟨z,q⟩:=j8 q0;clear q0;obtain⟨z1,z2⟩:=jf z;obtain⟨g1,g3⟩:=Vh h z1;cases es with
 | nil=>cases z2
 | cons e es=>
 split at q
 ·rename_i hl;obtain⟨l,q1,rfl⟩:=j6 q;obtain⟨a1,a2,a3,_⟩:=zW R h q1;obtain⟨G,hr⟩:=h.gs _ _ hl;exact X7 G hr a1 a2 g1 g3 (jo (a3 _ wNa)) (YF fun z hz=>a3 z (wMa _ hz))
 ·rename_i hl;obtain⟨l,q1,rfl⟩:=j6 q;obtain⟨a1,a2,a3,_⟩:=zW R h q1;obtain⟨G,hr⟩:=h.gs _ _ hl;exact X8 G hr a1 a2 g1 g3 (jo (a3 _ wNa)) (YF fun z hz=>a3 z (wMa _ hz))
 ·rename_i hl;obtain⟨l,q1,rfl⟩:=j6 q;obtain⟨a1,a2,a3,_⟩:=zW R h q1;obtain⟨G,hF,hr⟩:=h.gs _ _ hl;exact X9 G hF hr a1 a2 g1 g3 (jo (a3 _ wNa)) (YF fun z hz=>a3 z (wMa _ hz))
 ·rename_i hl;have g2:X.mg x=none:=h.gs _ _ hl;split at q
  ·rename_i ex;subst ex;exact Qs R h g1 g2 q
  ·obtain⟨l,q1,q⟩:=j0 q;obtain⟨a1,a2,a3,_⟩:=zW R h q1;have s1:=jo (es:=es) (env:=X.env) (a3 _ wNa);have s2:=YF (pos:=pos) (env:=X.env) fun z hz=>a3 z (wMa _ hz);split at q
   ·rename_i hb;cases q;exact Qp h hb g1 g2 a1 s1 s2
   ·obtain⟨f,q2,rfl⟩:=j6 q;exact Qq h q2 g1 g2 a1 s1 s2
 ·cases q
omit R h in
theorem YG:∀{l:DA} {es:List Expr},l.map (·.1)=(es.map fun _=>true)->(l.map (·.1)).all id=true:=fun {l es} q=>by
 rw[q];simp
omit R h in
theorem yB{env:Env}{m:Str}{ap p cp:Pos}(hl:(ap.endLine==cp.line)=true):eval (.Call (.Attribute (.Name x p) m ap) [] [] cp) env=(do
   let ov<-eval (.Name x p) env
   standAt ap.atName
   let (f,first)<-holding [ov] (getMethod ov m (do return (<-importBound (.Name x p) env).getD true))
   callWith cp f first (backTo cp (starEach [] env)) (backToKw cp (keywordEach [] env))):=by
 have e:methodCallPos true (.Name x p) env ap cp=pure cp:=by unfold methodCallPos;rw[hl];rfl
 have f:methodCallForm 0 (backTo cp (starEach [] env)) (backToKw cp (keywordEach [] env))=true:=rfl;show(do
  let ov<-eval (.Name x p) env
  standAt ap.atName
  methodCall (.Name x p) m ap cp env ov 0 (backTo cp (starEach [] env)) (backToKw cp (keywordEach [] env)))=_
 unfold methodCall;rw[f,e];rfl
omit R h in
theorem aB{c:Const}{k:Nat}{n:Dn}(q:XY c=some n):Z6 X K (.Constant c k pos) n:=by
 unfold XY at q;split at q <;> cases q
 ·exact AY
 ·exact cx
 ·exact AZ
 ·exact A_
theorem aD{op:UnaryOp}{n:Dn}(q:XZ r Γ op a=some n):Z6 X K (.UnaryOp op a pos) n:=by
 unfold XZ at q;split at q
 ·obtain⟨d,q1,rfl⟩:=j6 q;exact bv (ji R h q1)
 ·obtain⟨d,q1,rfl⟩:=j6 q;exact bu (ji R h q1)
 ·cases q
theorem aE{op:Operator}{n:Dn}(q:BA r Γ a op b pos=some n):Z6 X K (.BinOp a op b pos) n:=by
 obtain⟨d,q1,q⟩:=j0 q;obtain⟨d',q2,q⟩:=j0 q;split at q
 ·split at q
  ·cases q;exact cz xI bj (ji R h q1) (ji R h q2)
  ·cases q
 ·obtain⟨f,q3,rfl⟩:=j6 q;obtain⟨t,o1,o2⟩:=ax h q3;exact cy o1 o2 (ji R h q1) (ji R h q2)
theorem aF{os:List CmpOp}{bs:List Expr}{d:DE}(q:BB r Γ a os bs pos=some d):PE X (.Compare a os bs pos) (tE K d):=by
 rcases os with _ | ⟨o,_ | ⟨o',_ | ⟨o'',_ | ⟨_,_⟩⟩⟩⟩ <;> rcases bs with _ | ⟨b,_ | ⟨c,_ | ⟨e,_ | ⟨_,_⟩⟩⟩⟩ <;> try (cases q;done)
 ·obtain⟨z,q⟩:=j8 q;obtain⟨d,q1,q⟩:=j0 q;obtain⟨d',q2,q⟩:=j0 q;obtain⟨f,q3,rfl⟩:=j6 q;obtain⟨t,o1,o2⟩:=zC h q3;exact b7 o1 o2 (ji R h q1) (ji R h q2) (yK z)
 ·obtain⟨z,q⟩:=j8 q;obtain⟨d,q1,q⟩:=j0 q;obtain⟨d',q2,q⟩:=j0 q;obtain⟨d'',q3,q⟩:=j0 q;obtain⟨f,p1,q⟩:=j0 q;obtain⟨f',p2,rfl⟩:=j6 q;obtain⟨t,o1,o2⟩:=zC h p1;obtain⟨t',o1',o2'⟩:=zC h p2;exact qY o1 o1' o2 o2' (ji R h q1) (ji R h q2) (ji R h q3) (yK z)
 ·obtain⟨z,q⟩:=j8 q;obtain⟨d,q1,q⟩:=j0 q;obtain⟨d',q2,q⟩:=j0 q;obtain⟨d'',q3,q⟩:=j0 q;obtain⟨d3,q4,q⟩:=j0 q;obtain⟨f,p1,q⟩:=j0 q;obtain⟨f',p2,q⟩:=j0 q;obtain⟨f'',p3,rfl⟩:=j6 q;obtain⟨t,o1,o2⟩:=Vj h p1;obtain⟨t',o1',o2'⟩:=Vj h p2;obtain⟨t'',o1'',o2''⟩:=Vj h p3;exact wk o1 o1' o1'' o2 o2' o2'' (ji R h q1) (ji R h q2) (ji R h q3) (ji R h q4) (yK z)
theorem aG{n:Dn}(q:X_ r Γ a b pos=some n):Z6 X K (.Subscript a b pos) n:=by
 have hK:=h.k;unfold X_ at q;split at q
 ·split at q
  ·obtain⟨d,q1,q⟩:=j0 q;obtain⟨u,q2,q⟩:=j0 q;obtain⟨v,q3,rfl⟩:=j6 q;split
   ·exact bC (ji R h q1) (ZN R h q2) (ZN R h q3) hK
   ·exact bB (ji R h q1) (ZN R h q2) (ZN R h q3) hK
  ·cases q
 ·obtain⟨z,q⟩:=j8 q;obtain⟨d,q1,q⟩:=j0 q;obtain⟨d',q2,rfl⟩:=j6 q;subst hK;split
  ·exact xO kI bZ (ji R h q1) (ji R h q2) (zV z)
  ·exact xO xD cO (ji R h q1) (ji R h q2) (zV z)
theorem Kh{elt:Expr}{gs:List Comprehension}{scope:Scope}{d:DO}(q:qh r Γ elt gs scope pos=some d):
  ∃tg iter ifs own caps di g dc de,gs=[⟨tg,iter,ifs,0⟩]/\d=Yi own.length (caps.map (·.2)) di g dc de/\LcP X K elt tg iter ifs scope own caps di g dc de:=by
 unfold qh at q;split at q
 ·obtain⟨z,q⟩:=j8 q;have z0:=vLa z;subst z0;obtain⟨own,caps,di,g,dc,de,rfl,L⟩:=aA R h q;exact⟨_,_,_,own,caps,di,g,dc,de,rfl,rfl,L⟩
 ·cases q
theorem aH{b:Expr}{ap:Pos}{n:Dn}(q:a8 r Γ a b=some n)(hl:(ap.endLine==pos.line)=true)(hs:∀r:List Expr,starEach (b::r) X.env=(false,eval b X.env)::starEach r X.env):Z6 X K (.Call (.Attribute a "index" ap) [b] [] pos) n:=by
 unfold a8 at q;split at q
 ·obtain⟨z3,q9⟩:=j8 q;clear q;split at q9
  ·rename_i hl;obtain⟨z4,q8⟩:=j8 q9;obtain⟨d,q1,rfl⟩:=j6 q8;obtain⟨g1,g2⟩:=Vh h z3;obtain⟨gt,_⟩:=h.gs _ _ hl;exact bV (vLa z4) gt g1 g2 (ji R h q1) (zx rfl) (by assumption) hs h.k
  ·cases q9
 ·cases q
theorem aI{b:Expr}{m:Str}{ap:Pos}{n:Dn}{d d':DE}(ha:PE X a (tR K d))(hb:PE X b (tR K d'))(q:a9 m d d'=some n)(hbase:∀m,attributeBase a m X.env (eval a X.env)=eval a X.env)(hl:(ap.endLine==pos.line)=true)(hs:∀r:List Expr,starEach (b::r) X.env=(false,eval b X.env)::starEach r X.env):Z6 X K (.Call (.Attribute a m ap) [b] [] pos) n:=by
 unfold a9 at q;split at q
 ·rename_i em;subst em;cases q;exact XF ha hb (hbase _) hl hs h.k
 split at q
 ·rename_i em;subst em;cases q;exact Qj ha hb (hbase _) hl hs h.k
 split at q
 ·rename_i em;subst em;cases q;exact XH ha hb (hbase _) hl hs h.k
 ·cases q
theorem aJ{m:Str}{ap:Pos}{n:Dn}(q:ab r Γ a m ap es pos=some n):Z6 X K (.Call (.Attribute a m ap) es [] pos) n:=by
 unfold ab at q;split at q
 ·obtain⟨z,q⟩:=j8 q;obtain⟨d,q1,q⟩:=j0 q;split at q
  ·rename_i hl;cases q;obtain⟨M,hr⟩:=h.ms _ _ hl;exact Q2 (ji R h q1) h.cl M hr (yB z) h.k
  ·rename_i hl;cases q;obtain⟨M,hr⟩:=h.ms _ _ hl;exact Q3 (ji R h q1) h.cl M hr (yB z) h.k
  ·cases q
 ·obtain⟨z,q9⟩:=j8 q;clear q;obtain⟨z1,z2⟩:=jf z;by_cases em:m = "index"
  ·rw[if_pos em]at q9;subst em;exact aH R h q9 z2 fun _=>jo z1
  ·rw[if_neg em]at q9;obtain⟨z3,q8⟩:=j8 q9;obtain⟨d,q1,q7⟩:=j0 q8;obtain⟨d',q2,q6⟩:=j0 q7;exact aI R h (ji R h q1) (ji R h q2) q6 (fun _=>zx z3) z2 fun _=>jo z1
 ·cases q
theorem aK{d:DE}(q:ad r Γ e=some d):PE X e (tE K d):=by
 unfold ad at q;split at q
 ·obtain⟨z,q⟩:=j8 q;obtain⟨z1,z2⟩:=jf z;obtain⟨d',q1,rfl⟩:=j6 q;have e1:=vLa z1;have e2:=Option.isNone_iff_eq_none.mp z2;subst e1 e2;exact Cj (jS R h q1)
 ·exact jS R h q
theorem Ki:∀{es:List Expr} {ds:List DE},ae r Γ es=some ds->PFs X K es ds
 | [],_,q=>by cases q;exact .nil
 | e::es,ds,q=>by
  obtain⟨d,q1,q⟩:=j0 q;obtain⟨ds',q2,rfl⟩:=j6 q;exact .cons (aK R h q1) (Ki q2)
theorem B5{n:Dn}(q:cN r Γ e=some n):Z6 X K e n:=by
 have hK:=h.k;unfold cN at q;cases e with
 | Name x p=>
  obtain⟨z,q⟩:=j8 q;obtain⟨g1,g2⟩:=Vh h z;split at q
  ·rename_i hl;cases q;exact xN (CM (h.gs _ _ hl) g1 g2)
  ·rename_i hl;cases q;obtain⟨gt,_⟩:=h.gs _ _ hl;exact Cm gt g1 g2
  ·cases q
 | Constant c k p=>
  exact aB q
 | UnaryOp op a p=>
  exact aD R h q
 | BinOp a op b p=>
  exact aE R h q
 | Compare a os bs p=>
  obtain⟨d,q1,rfl⟩:=j6 q;exact aF R h q1
 | BoolOp op vs p=>
  dsimp only at q;cases op
  ·obtain⟨d,q1,rfl⟩:=j6 q;exact Ke R h q1
  ·obtain⟨d,q1,rfl⟩:=j6 q;exact qj R h q1
 | IfExp c a b p=>
  obtain⟨t,q1,q⟩:=j0 q;obtain⟨d,q2,q⟩:=j0 q;obtain⟨d',q3,rfl⟩:=j6 q;exact bw (R.t h q1) (jS R h q2) (jS R h q3)
 | Tuple es k p=>
  obtain⟨z,q⟩:=j8 q;obtain⟨l,q1,rfl⟩:=j6 q;obtain⟨a1,a2,_,a4⟩:=zW R h q1;exact bz a1 (YG a2) (by rw[a4];rw[Nat.ble_eq]at z⊢;exact wSa z (by decide))
 | List es p=>
  obtain⟨z,q⟩:=j8 q;obtain⟨l,q1,rfl⟩:=j6 q;obtain⟨a1,a2,_,a4⟩:=zW R h q1;exact bA a1 (YG a2) (by rw[a4];rw[Nat.ble_eq]at z⊢;exact wSa z (by decide))
 | JoinedStr vs p=>
  obtain⟨z,q⟩:=j8 q;obtain⟨ds,q1,rfl⟩:=j6 q;rcases vs with _ | ⟨v1,_ | ⟨v2,vs⟩⟩
  ·cases z
  ·cases z
  ·exact Xz (Ki R h q1)
 | Attribute a f p=>
  obtain⟨z,q⟩:=j8 q;obtain⟨z1,z2⟩:=jf z;obtain⟨d,q1,rfl⟩:=j6 q;exact bF (ji R h q1) h.cl (h.fl _ z2) (zx z1) hK
 | Subscript a b p=>
  exact aG R h q
 | ListComp elt gs sc p=>
  obtain⟨d,q1,rfl⟩:=j6 q;obtain⟨_,_,_,own,caps,di,g,dc,de,rfl,rfl,L⟩:=Kh R h q1;exact C8 own caps L.S L.cp h.calm L.i L.g L.t L.e L.nd L.fs
 | Call f es ks p=>
  dsimp only at q;unfold BC at q;split at q
  ·split at q
   ·exact wY R h q
   ·exact aJ R h q
   ·cases q
  ·cases q
 | _=>
  cases q
omit R h in
theorem qp{env:Env}(z:af e=true):∀whole,isTrue e env whole=(do let v<-whole;standAt e.pos;holding [v] (truthy v)):=by
 cases e <;> first | (intro _;rfl) | cases z | skip
 rename_i op _ _;cases op <;> first | (intro _;rfl) | cases z
theorem aL{os:List CmpOp}{bs:List Expr}{t:DT}(q:BD r Γ a os bs pos=some t):PT X (.Compare a os bs pos) (tT K t):=by
 rcases os with _ | ⟨o,_ | ⟨o',_ | ⟨_,_⟩⟩⟩ <;> rcases bs with _ | ⟨b,_ | ⟨c,_ | ⟨_,_⟩⟩⟩ <;> try (cases q;done)
 ·obtain⟨z,q⟩:=j8 q;obtain⟨d,q1,q⟩:=j0 q;obtain⟨d',q2,q⟩:=j0 q;obtain⟨f,q3,rfl⟩:=j6 q;obtain⟨t,o1,o2⟩:=zC h q3;exact bn o1 o2 (ji R h q1) (ji R h q2) (yK z)
 ·obtain⟨z,q⟩:=j8 q;obtain⟨d,q1,q⟩:=j0 q;obtain⟨d',q2,q⟩:=j0 q;obtain⟨d'',q3,q⟩:=j0 q;obtain⟨f,p1,q⟩:=j0 q;obtain⟨f',p2,rfl⟩:=j6 q;obtain⟨t,o1,o2⟩:=zC h p1;obtain⟨t',o1',o2'⟩:=zC h p2;exact qZ o1 o1' o2 o2' (ji R h q1) (ji R h q2) (ji R h q3) (yK z)
theorem B6{t:DT}(q:cT r Γ e=some t):PT X e (tT K t):=by
 unfold cT at q;split at q
 ·exact aL R h q
 ·split at q
  ·obtain⟨t,q1,rfl⟩:=j6 q;exact bp (R.t h q1)
  ·obtain⟨z,q⟩:=j8 q;obtain⟨d,q1,rfl⟩:=j6 q;exact WK (ji R h q1) h.k (qp z)
 ·split at q
  ·exact xX (Kf R h q)
  ·exact xX (qk R h q)
 ·obtain⟨z,q⟩:=j8 q;obtain⟨d,q1,rfl⟩:=j6 q;exact WK (ji R h q1) h.k (qp z)
omit R h in
theorem UA{env:Env}(z:Jl e=true):(assignEach (e::es) env)=(false,assign e env)::assignEach es env:=by
 cases e <;> first | rfl | cases z
theorem UB{k:Nat}:∀{es:List Expr} {gs:V7},Ka r Γ k es=some gs->Z1 X es (gK K k gs)/\(assignEach es X.env).length=es.length/\(assignEach es X.env).findIdx? (·.1)=none
 | [],_,q=>by cases q;exact⟨bK,rfl,rfl⟩
 | e::es,gs,q=>by
  unfold Ka at q;obtain⟨z,q⟩:=j8 q;obtain⟨g,q1,q⟩:=j0 q;obtain⟨gs',q2,rfl⟩:=j6 q;obtain⟨a1,a2,a3⟩:=UB q2;refine⟨X6 (R.g h q1) a1 (by rw[UA z];rfl),by rw[UA z];simp[a2],?_⟩;rw[UA z,List.findIdx?_cons,a3];rfl
theorem aM{k:Nat}{g:DG}(q:ah r Γ k e=some g):PG X e (tG K k g):=by
 unfold ah at q;cases e with
 | Name x p=>
  obtain⟨i,q1,q⟩:=j0 q;obtain⟨z,q⟩:=j8 q;cases q;obtain⟨s1,s2,s3,s4⟩:=Vi h q1;exact X5 (qB s1 s2 s3 s4) (Nat.blt_eq.mp z)
 | Tuple es k p=>
  obtain⟨gs,q1,rfl⟩:=j6 q;obtain⟨a1,a2,a3⟩:=UB R h q1;exact bL _ h.calm a1 a2 a3 h.k
 | _=>
  cases q
end
theorem ZO:∀n:Nat,RcOk (rc n)
 | 0=>⟨(fun _ q=>by cases q),(fun _ q=>by cases q),(fun _ q=>by cases q)⟩
 | n+1=>⟨fun h q=>B5 (ZO n) h q,fun h q=>B6 (ZO n) h q,fun h q=>aM (ZO n) h q⟩
section
variable {r:Rc} {Γ:Gm} {X:Cx} {K:Fr} {x y:Str} {i:Nat} {e a b c tg:Expr} {es:List Expr} {pos:Pos} {d:DE}
theorem qr{elt iter:Expr}{ifs:List Expr}{scope:Scope}{np p:Pos}{l:Nat}{aa:Int}(h:OkX K Γ X)(z:BE Γ scope x np p=true):swapsWith (.ListComp elt [⟨tg,iter,ifs,aa⟩] scope p) (some (.Name x np)) l X.env=pure true:=by
 obtain⟨z,z4⟩:=jf z;obtain⟨z,z3⟩:=jf z;obtain⟨z1,z2⟩:=jf z;have k1:Γ.sc.kind=.function:=by
  split at z1
  ·assumption
  ·cases z1
 have e1:X.env.blockKind=.function:=by
  unfold Env.blockKind;rw[h.sc,k1];rfl
 have e2:X.env.kindOf x=some .local:=by
  show X.env.scope.names.lookup x=_;rw[h.sc];exact Kc z2
 show(pure (X.env.blockKind==.function&&X.env.kindOf x==some .local&&np.line==p.line&&!(scope.names.any fun(n,k)=>n==x&&(k==.local||k==.cell))):Sem Bool)=pure true;rw[e1,e2,z3,z4];rfl
theorem aN{o j:Expr}{env:Env}(z:Uv j=true):∀v,assign (.Subscript o j pos) env v=(do
   let ov<-holding [v] (eval o env)
   let iv<-holding [v,ov] (eval j env)
   standAt pos
   holding [v,ov,iv] (setItem ov iv v)
   release [v,ov,iv] []):=by
 cases j <;> first | (intro _;rfl) | cases z
theorem UC{env:Env}{tg:Expr}{l:Nat}(h:vG e=true):swapsWithSole [tg] e l env=pure false:=by
 unfold swapsWithSole;exact Y0 h
theorem aO{o j e:Expr}{env:Env}{p:Pos}:swappedStores [.Subscript o j p] e env=pure none:=by
 cases e <;> rfl
theorem Kj{es:List Expr}{n:Nat}{e:Expr}{env:Env}{p:Pos}(z:(!ZL e)=true):swappedStores [.Tuple es n p] e env=pure none:=by
 cases e <;> first | rfl | cases z
variable (R:RcOk r) (h:OkX K Γ X)
include R h
theorem k9{d:DO}(q:cF r Γ e=some d):PE X e (tF K d):=by
 unfold cF at q;split at q
 ·rename_i hn;cases q;exact R.n h hn
 ·cases q
theorem aP{np:Pos}{d:DS.DS}(q0:BF r Γ x np e=some d):PS X (.Assign [.Name x np] e pos) (tS K d):=by
 obtain⟨i,s0,q0⟩:=j0 q0;obtain⟨s1,s2,s3,s4⟩:=Vi h s0;split at q0
 ·obtain⟨d0,q1,q0⟩:=j0 q0;obtain⟨z2,q0⟩:=j8 q0;cases q0;obtain⟨_,_,_,own,caps,di,g,dc,de,rfl,rfl,L⟩:=Kh R h q1;split
  ·exact Q7 own caps s1 s2 s3 L.S L.cp h.calm L.i L.g L.t L.e L.nd L.fs (qr h z2) s4
  ·exact Q8 own caps s1 s2 s3 L.S L.cp h.calm L.i L.g L.t L.e L.nd L.fs (qr h z2) s4
 ·obtain⟨z,q0⟩:=j8 q0;split at q0
  ·obtain⟨d0,q1,rfl⟩:=j6 q0;exact WT (vU s1 s2 s3 (k9 R h q1) (Y0 z) s4)
  ·obtain⟨d0,q1,rfl⟩:=j6 q0;exact WS (vU s1 s2 s3 (jS R h q1) (Y0 z) s4)
omit R h in
theorem Kk{es:List Expr}{e0 e1:Expr}(z:Ux es=some (e0,e1)):∃x px y py sp,e0=.Name x px/\e1=.Name y py/\es=[.Name x px,.Starred (.Name y py) sp]:=by
 unfold Ux at z;split at z
 ·cases z;exact⟨_,_,_,_,_,rfl,rfl,rfl⟩
 ·cases z
theorem aQ{t:Expr}{d:DS.DS}(q0:ai r Γ t e=some d):PS X (.Assign [t] e pos) (tS K d):=by
 unfold ai at q0;cases t with
 | Name x p=>
  exact aP R h q0
 | Attribute o f p=>
  obtain⟨i,s9,q9⟩:=j0 q0;clear q0;obtain⟨x,p,rfl,s0⟩:=JJ s9;obtain⟨z,q0⟩:=j8 q9;obtain⟨z1,z2⟩:=jf z;obtain⟨d0,q1,rfl⟩:=j6 q0;exact Xu (xu (Jx h s0) (jS R h q1) (Y0 z1)) h.cl (h.fl _ z2) h.k
 | Subscript o j p=>
  obtain⟨i,s9,q9⟩:=j0 q0;clear q0;obtain⟨x,p,rfl,s0⟩:=JJ s9;obtain⟨z,q0⟩:=j8 q9;obtain⟨z1,z2⟩:=jf z;have hK:=h.k;subst hK
  ·obtain⟨dx,q1,q0⟩:=j0 q0;obtain⟨d0,q2,rfl⟩:=j6 q0;exact Xg (uN (jS R h q2) (QY (Jx h s0) (ji R h q1) KW (aN z2)) (UC z1) aO)
 | Tuple es k p=>
  obtain⟨z,q0⟩:=j8 q0;obtain⟨z1,z2⟩:=jf z;split at q0
  ·rename_i e0 e1 hs;obtain⟨d0,q1,q0⟩:=j0 q0;obtain⟨g,q2,rfl⟩:=j6 q0;obtain⟨x,px,y,py,sp,rfl,rfl,rfl⟩:=Kk hs;have hK:=h.k;exact XI (uN (jS R h q1) (Ql h.calm (UB R h q2).1 rfl rfl rfl) (UC z1) (Kj z2))
  ·obtain⟨d0,q1,q0⟩:=j0 q0;obtain⟨g,q2,rfl⟩:=j6 q0;exact bM (uN (jS R h q1) (R.g h q2) (UC z1) (Kj z2))
 | _=>
  cases q0
theorem aR{t:Expr}{op:Operator}{d:DS.DS}(q0:aj r Γ t op e=some d):PS X (.AugAssign t op e pos) (tS K d):=by
 unfold aj at q0;cases t with
 | Name x p=>
  obtain⟨i,s0,q0⟩:=j0 q0;obtain⟨d0,q1,q0⟩:=j0 q0;obtain⟨s1,s2,s3,s4⟩:=Vi h s0;split at q0
  ·cases q0;split
   ·exact b_ (uO s1 s2 s3 (ji R h q1) Qm s4)
   ·exact WU (uO s1 s2 s3 (ji R h q1) Q_ s4)
  ·cases q0;exact WU (uO s1 s2 s3 (ji R h q1) x8 s4)
  ·cases q0
 | _=>
  cases q0
theorem aS{f:Expr}{es:List Expr}{ks:List Keyword}{p:Pos}{d:DS.DS}(q0:BG r Γ f es ks p=some d):PS X (.Expr (.Call f es ks p) pos) (tS K d):=by
 cases f <;> try (cases q0;done)
 rcases es with _ | ⟨e,_ | ⟨_,_⟩⟩ <;> rcases ks with _ | ⟨_,_⟩ <;> try (cases q0;done)
 ·obtain⟨i,s9,q9⟩:=j0 q0;clear q0;obtain⟨x,np,rfl,s0⟩:=JJ s9;obtain⟨z,q0⟩:=j8 q9;obtain⟨z,z3⟩:=jf z;obtain⟨z1,z2⟩:=jf z;obtain⟨d0,q1,rfl⟩:=j6 q0;have e1:=vLa z1;have hK:=h.k;subst e1 hK;exact wt (ZG (xL (Jx h s0) (jz (jS R h q1) J4 (jo z2)) rfl (by rw[jo z2];rfl) z3 (jo z2)))
theorem B7{q:Gm->List Stmt->Option DS.DS}{s:Stmt}{d:DS.DS}(Q:∀l d,q Γ l=some d->jy X l (tS K d))(hp:PassesOwn (model X.prog X.w) X.A X.env X.xe)(q0:cS r q Γ s=some d):PS X s (tS K d):=by
 unfold cS at q0;cases s with
 | Assign ts e p=>
  dsimp only at q0;split at q0
  ·exact aQ R h q0
  ·cases q0
 | AugAssign t op e p=>
  exact aR R h q0
 | Expr e p=>
  dsimp only at q0;unfold BH at q0;split at q0
  ·split at q0
   ·cases q0;exact aS R h (by assumption)
   ·obtain⟨d0,q1,rfl⟩:=j6 q0;exact kY (ZG (ji R h q1) (Y0 rfl))
  ·obtain⟨z,q0⟩:=j8 q0;obtain⟨d0,q1,rfl⟩:=j6 q0;exact kY (ZG (ji R h q1) (Y0 z))
 | Return o p=>
  dsimp only at q0;split at q0
  ·cases q0;exact Xj
  ·split at q0
   ·rename_i hn;obtain⟨x,p,rfl,hs⟩:=JJ hn;split at q0
    ·cases q0;exact Xi (Jx h hs)
    ·cases q0;exact WV (WH _ (Jx h hs))
   ·split at q0
    ·obtain⟨d0,q1,rfl⟩:=j6 q0;exact Xh (k9 R h q1)
    ·obtain⟨d0,q1,rfl⟩:=j6 q0;exact WV (jS R h q1)
 | If c a b p=>
  obtain⟨t,q1,q0⟩:=j0 q0;obtain⟨u,q2,q0⟩:=j0 q0;obtain⟨v,q3,rfl⟩:=j6 q0;exact C9 (R.t h q1) (Q _ _ q2) (Q _ _ q3)
 | While c b o p=>
  dsimp only at q0;split at q0
  ·obtain⟨t,q1,q0⟩:=j0 q0;obtain⟨u,q2,rfl⟩:=j6 q0;exact Q6 _ hp (R.t h q1) (Q _ _ q2)
  ·cases q0
 | For tg it b o p=>
  dsimp only at q0;split at q0
  ·obtain⟨z,q0⟩:=j8 q0;obtain⟨di,q1,q0⟩:=j0 q0;obtain⟨g,q2,q0⟩:=j0 q0;obtain⟨u,q3,rfl⟩:=j6 q0;exact bN hp h.calm (qo R h q1) (R.g h q2) (Q _ _ q3) (gX z)
  ·cases q0
 | Pass p=>
  cases q0;exact Xc
 | Break p=>
  cases q0;exact Q5
 | Continue p=>
  cases q0;exact Xd
 | _=>
  cases q0
theorem Kl:∀{es:List Expr} {fs:List DO},ao r Γ es=some fs->PFl X K es fs
 | [],_,q=>by cases q;exact .nil
 | e::es,fs,q=>by
  obtain⟨z,q⟩:=j8 q;obtain⟨f,q1,q⟩:=j0 q;obtain⟨fs',q2,rfl⟩:=j6 q;exact .cons (k9 R h q1) (jo z) (Kl q2)
omit R h in
theorem aU{l:List Expr}{x:Str}(q:au l=some x):∃p,l=[.Name x p]:=by
 unfold au at q;split at q
 ·cases q;exact⟨_,rfl⟩
 ·cases q
theorem aV{e:Expr}{p:Pos}{d:DS.DS}(q0:ar r Γ e=some d):PS X (.Expr e p) (tS K d):=by
 have hK:=h.k;subst hK;unfold ar at q0;split at q0
 ·obtain⟨i,e1,q⟩:=j0 q0;obtain⟨x',p',rfl,e2⟩:=JJ e1;obtain⟨z,q⟩:=j8 q;obtain⟨z,z5⟩:=jf z;obtain⟨z,z4⟩:=jf z;obtain⟨z1,z3⟩:=jf z;obtain⟨dj,q1,q⟩:=j0 q;obtain⟨de,q2,rfl⟩:=j6 q;have em:=vLa z1;subst em;exact Xw (ZG (xL (Wv gF (Jx h e2) (ji R h q1) (zV z3)) (jz (jS R h q2) J4 (jo z4)) rfl (by rw[jo z4];rfl) z5 (jo z4)))
 ·cases q0
theorem aW{e:Expr}{x:Str}{xp p:Pos}{i:Nat}{d:DS.DS}(s0:gS Γ x=some i)(q0:aq r Γ i e=some d):PS X (.Assign [.Name x xp] e p) (tS K d):=by
 have hK:=h.k;subst hK;obtain⟨s1,s2,s3,s4⟩:=Vi h s0;unfold aq at q0;split at q0
 ·obtain⟨fs,q1,rfl⟩:=j6 q0;exact Xx (vU s1 s2 s3 (kD (Kl R h q1).pa) (Y0 rfl) s4)
 ·unfold BI at q0;split at q0
  ·rename_i hl;obtain⟨j,n1,q0⟩:=j0 q0;obtain⟨z,q0⟩:=j8 q0;obtain⟨z,z4⟩:=jf z;obtain⟨z,z3⟩:=jf z;obtain⟨z1,z2⟩:=jf z;obtain⟨a,qa,q0⟩:=j0 q0;obtain⟨b,qb,rfl⟩:=j6 q0;obtain⟨x',p',rfl,e2⟩:=JJ n1;obtain⟨G,hr⟩:=h.gs _ _ hl;obtain⟨g1,g3⟩:=Vh h z1;exact Qc (fun _ _ _ _ z=>z) (vU s1 s2 s3 (Qd G hr (jS R h qa) (Jx h e2) (jS R h qb) (fun _=>jo z2) (fun _=>jo z3) (fun _=>jo z4) g1 g3) (Y0 rfl) s4)
  ·cases q0
 ·cases q0
theorem aX{s:Stmt}{d:DS.DS}(q0:av r Γ s=some d):PS X s (tS K d):=by
 unfold av at q0;split at q0
 ·obtain⟨x,e1,q1⟩:=j0 q0;obtain⟨i,s0,q2⟩:=j0 q1;obtain⟨p,rfl⟩:=aU e1;exact aW R h s0 q2
 ·exact aV R h q0
 ·cases q0
theorem qt{q:Gm->List Stmt->Option DS.DS}{s:Stmt}{d:DS.DS}(Q:∀l d,q Γ l=some d->jy X l (tS K d))(hp:PassesOwn (model X.prog X.w) X.A X.env X.xe)(q0:cX r q Γ s=some d):PS X s (tS K d):=by
 unfold cX at q0;split at q0
 ·exact aX R h q0
 ·exact B7 R h Q hp q0
theorem ka{q:Gm->List Stmt->Option DS.DS}(hx:X.nox=X)(Q:∀l d,q Γ l=some d->jy X l (tS K d))(hp:PassesOwn (model X.prog X.w) X.A X.env X.xe):∀{l:List Stmt} {m:DM},cM r q Γ l=some m->jy X l (tM K m)
 | [],_,q0=>by cases q0
 | s::t,m,q0=>by
  unfold cM at q0;split at q0
  ·split at q0
   ·obtain⟨d,q1,rfl⟩:=j6 q0;split
    ·exact Vd (K9 (jS R h q1))
    ·exact Vd (jS R h q1)
   ·cases q0
  ·split at q0
   ·obtain⟨d,q1,rfl⟩:=j6 q0;refine B0 (p:=⟨0,0,0,0⟩) ?_;rw[hx];split
    ·exact Vd (K9 (jS R h q1))
    ·exact Vd (jS R h q1)
   ·cases q0
  ·split at q0
   ·obtain⟨dt,q1,q0⟩:=j0 q0;obtain⟨d,q2,q0⟩:=j0 q0;obtain⟨m',q3,rfl⟩:=j6 q0;refine Cg ?_ (jS R h q2) (ka hx Q hp q3);split
    ·exact bP (R.t h q1)
    ·exact R.t h q1
   ·cases q0
  ·obtain⟨d,q1,q0⟩:=j0 q0;obtain⟨m',q2,rfl⟩:=j6 q0;exact bR (qt R h Q hp q1) (ka hx Q hp q2)
omit R h in
theorem Vk{l:Nat}{st:List Stmt}:∀{sh:List (Nat×Nat)} {d:DS.DS},jy X st (tS K d)->jy X st (tS K (gV l sh d))
 | [],_,h=>h
 | (m,i)::r,d,h=>by
  unfold gV;split
  ·exact wo i (Vk h)
  ·exact Vk h
theorem Km{q:Gm->List Stmt->Option DS.DS}(Q:∀l d,q Γ l=some d->jy X l (tS K d))(hp:PassesOwn (model X.prog X.w) X.A X.env X.xe):∀{l:List Stmt} {d:DS.DS},qi r q Γ l=some d->jy X l (tS K d)
 | [],_,q0=>by cases q0;exact Xa
 | s::t,d,q0=>by
  unfold qi at q0;split at q0
  ·cases q0;exact wn
  ·obtain⟨d1,q1,q0⟩:=j0 q0;have h1:=qt R h Q hp q1;split at q0
   ·cases q0;exact Vk (Xb h1)
   ·obtain⟨d2,q2,rfl⟩:=j6 q0;exact Vk (Q4 h1 (Km Q hp q2))
theorem kb(hp:PassesOwn (model X.prog X.w) X.A X.env X.xe):∀(n:Nat) {l:List Stmt} {d:DS.DS},cQ r n Γ l=some d->jy X l (tS K d)
 | 0,_,_,q=>by cases q
 | n+1,_,_,q=>Km R h (fun l d q=>kb hp n q) hp q
end
structure De where
 x:Str
 q:Str
 st:Stmt
 ps:List Str
 lo:List Str
 ks:List Bool
 b:DS.DS
 hs:List ((Nat×Nat×Nat)×List Nat)
 sh:List (Nat×Nat)
 ow:List Nat
structure Tb where
 C:Addr
 gs:List (Str×GI)
 ms:List (Str×GI)
 fl:List Str
def gm(T:Tb)(d:De)(kF:Bool):Gm:={ N:=d.ps++d.lo,sc:=defScope d.st,fn:=true,kF:=kF,C:=T.C,gs:=T.gs,ms:=T.ms,fl:=T.fl,hs:=d.hs,sh:=d.sh,ow:=d.ow }
def aY(N ps:List Str)(sc:Scope):Bool:=(match sc.kind with | .function=>true | _=>false)&&!sc.isCoroutine&&!sc.isGenerator&&Uw N&&ps.all (k7 sc)&&sc.names.all fun y=>match y.2 with | .free=>false | _=>true
theorem zX{ps lo:List Str}{sc:Scope}(h:aY (ps++lo) ps sc=true):FnScope (ps++lo) ps sc:=by
 obtain⟨h,h6⟩:=jf h;obtain⟨h,h5⟩:=jf h;obtain⟨h,h4⟩:=jf h;obtain⟨h,h3⟩:=jf h;obtain⟨h1,h2⟩:=jf h;refine⟨?_,yK h2,yK h3,VJ h4,by simp,fun x hx=>Kb (List.all_eq_true.mp h5 x hx),fun y hy e=>?_⟩
 ·split at h1
  ·assumption
  ·cases h1
 ·have:=List.all_eq_true.mp h6 y hy;rw[e]at this;cases this
def Bd(x q:Str)(st:Stmt)(ps:List Str):Prop:=∀(kV doc pm:Value) (an:Option Addr) (cdv ct:Value) (us:List Value),us.length=ps.length->bindArgs (PySem.W.fnOf x q (defArgs st) (defBody st) (defScope st) .none kV doc pm an cdv ct) ⟨us,[]⟩=pure (ps.zip us)
def v4(T:Tb)(d:De)(kF:Bool):Option DS.DS:=cG (aY (d.ps++d.lo) d.ps (defScope d.st)) (cQ (rc 30) 30 (gm T d kF) (defBody d.st))
def wZ(T:Tb)(d:De):Option DM:=cG (aY (d.ps++d.lo) d.ps (defScope d.st)) (cM (rc 30) (cQ (rc 30) 30) (gm T d false) (defBody d.st))
structure TOk (P:Program) (w:World) (K:Fr) (mg:Str->Option Value) (base:Heap) (n:Nat) (T:Tb):Prop where
 gs:∀p∈T.gs,Uy P w K mg base T.C (·<=n) K p.1 p.2
 ms:∀p∈T.ms,gW P w K mg base T.C (·<=n) K p.1 p.2
 cl:Cls K T.C
 fl:∀f∈T.fl,JE K T.C f
section
variable {P:Program} {w:World} {K:Fr} {mg:Str->Option Value} {base:Heap} {f C:Addr} {fd:FuncData} {n:Nat} {T:Tb} {d:De} {g:GI} {x:Str}
theorem Uy.mono{r r':Nat->Prop}(m:∀k,r k->r' k)(h:Uy P w K mg base C r K x g):Uy P w K mg base C r' K x g:=by
 cases g with
 | con i=>exact h
 | blt=>exact h
 | fE k ps ks F=>exact⟨h.1,m _ h.2⟩
 | fF k ps ks F=>exact⟨h.1,m _ h.2⟩
 | mk k ps ks F G=>exact⟨h.1,h.2.1,m _ h.2.2⟩
 | kt l=>exact h
 | fM k ps F=>exact⟨h.1,m _ h.2⟩
theorem gW.mono{r r':Nat->Prop}(m:∀k,r k->r' k)(h:gW P w K mg base C r K x g):gW P w K mg base C r' K x g:=by
 cases g with
 | con i=>exact h
 | blt=>exact h
 | fE k ps ks F=>exact⟨h.1,m _ h.2⟩
 | fF k ps ks F=>exact⟨h.1,m _ h.2⟩
 | mk k ps ks F G=>exact h
 | kt l=>exact h
 | fM k ps F=>exact h
theorem TOk.mono{m:Nat}(h:TOk P w K mg base n T)(l:n<=m):TOk P w K mg base m T:=
 ⟨fun p hp=>(h.gs p hp).mono fun _ z=>wSa z l,fun p hp=>(h.ms p hp).mono fun _ z=>wSa z l,h.cl,h.fl⟩
theorem vK{α:Type}{x:Str}{g:α}:∀{l:List (Str×α)},l.lookup x=some g->(x,g)∈l
 | [],h=>by cases h
 | (y,g')::r,h=>by
  rw[List.lookup_cons]at h;split at h
  ·rename_i e;cases h;rw[eq_of_beq e];exact wNa
  ·exact wMa _ (vK h)
theorem aZ{kF:Bool}{cdv:Value}{A:Around}{outer:List Env}{s:Shared}{H:Hp}{E:XK}(h:TOk P w K mg base n T)(S:FnScope (d.ps++d.lo) d.ps (defScope d.st))(hr:Room n (A.deeper (envOfC d.q (defScope d.st) s.heap.objs.size f cdv))):
  OkX K (gm T d kF) (Y1 JB P w K mg base (d.ps++d.lo) d.q (defScope d.st) f cdv A outer s H E).nox where
 n:=rfl
 sc:=rfl
 nd:=S.nd
 calm:=rfl
 k:=rfl
 room:=hr.mono (Nat.zero_le _)
 fn:=fun _ _=>rfl
 gs:=fun x g e=>(h.gs _ (vK e)).mono fun k z=>hr.mono z
 ms:=fun x g e=>(h.ms _ (vK e)).mono fun k z=>hr.mono z
 cl:=h.cl
 fl:=fun f e=>h.fl f (List.contains_iff_mem.mp e)
theorem VL{kF:Bool}{b:DS.DS}{cdv:Value}{A:Around}{outer:List Env}{s:Shared}{H:Hp}{E:XK}(h:TOk P w K mg base n T)(c:v4 T d kF=some b)(hr:Room n (A.deeper (envOfC d.q (defScope d.st) s.heap.objs.size f cdv))):
  jy (Y1 JB P w K mg base (d.ps++d.lo) d.q (defScope d.st) f cdv A outer s H E).nox (defBody d.st) (tS K b):=by
 obtain⟨c1,c2⟩:=j8 c;exact kb (ZO 30) (aZ h (zX c1) hr) PassesOwn.never 30 c2
theorem a_(h:TOk P w K mg base n T)(F:Fun K d.x d.q d.st f fd)(c:v4 T d false=some d.b)(hk:d.ks.length=d.ps.length):FnOk P w K mg base JB (n+1) f fd d.ps (V8 K d.ks (yq d.ks d.lo.length d.b)):=
 Cd F (zX (j8 c).1) hk (by simp) fun cdv A outer s H E hr=>VL h c hr
theorem BJ(h:TOk P w K mg base n T)(F:Fun K d.x d.q d.st f fd)(c:v4 T d true=some d.b)(hk:d.ks.length=d.ps.length):FnOk P w K mg base JB (n+1) f fd d.ps (gM K d.ks (Zt d.ks d.lo.length d.b)):=
 Ce F (zX (j8 c).1) hk (by simp) fun cdv A outer s H E hr=>VL h c hr
theorem CO(h:TOk P w K mg base n T)(F:Fun K d.x d.q d.st f fd)(c:v4 T d false=some d.b)(hk:d.ks.length+1=d.ps.length):FnOk P w K mg base JB (n+1) f fd d.ps (WR K C d.ks (K0 C d.ks d.lo.length d.b)):=
 Cf F (zX (j8 c).1) hk (by simp) fun cdv A outer s H E hr=>VL h c hr
theorem CQ{m:Nat}{dm:DM}(h:TOk P w K mg base n T)(F:Fun K d.x d.q d.st f fd)(c:wZ T d=some dm)(hm:m+2=d.ps.length):FnOk P w K mg base JB (n+1) f fd d.ps (Ul K (gP m d.lo.length dm)):=
 Ci F (zX (j8 c).1) hm (by simp) fun cdv A outer s H E hr=>ka (ZO 30) (aZ h (zX (j8 c).1) hr) rfl (fun _ _ q=>kb (ZO 30) (aZ h (zX (j8 c).1) hr) PassesOwn.never 30 q) PassesOwn.never (j8 c).2
def At(K:Fr)(x q:Str)(st:Stmt):Prop:=∃f fd,W.nsIn K mainGlobals x=some (some (.ref f))/\Fun K x q st f fd
def ue(K:Fr)(C:Addr)(x q:Str)(st:Stmt):Prop:=∃f fd,W.findIn K (.ref C) x=some (some (.ref f))/\W.isFn K (.ref f)=true/\Fun K x q st f fd
theorem ke{q:Str}{st:Stmt}(a:W.nsIn K mainGlobals x=some (some (.ref f)))(F:Fun K x q st f fd):At K x q st:=⟨f,fd,a,F⟩
theorem Kn{q:Str}{st:Stmt}(a:W.findIn K (.ref C) x=some (some (.ref f)))(i:W.isFn K (.ref f)=true)(F:Fun K x q st f fd):ue K C x q st:=⟨f,fd,a,i,F⟩
def G0(K:Fr)(x:Str):GI->Prop
 | .con i=>∃t,W.nsIn K mainGlobals x=some (some (.int i t))
 | .blt=>W.nsIn K mainGlobals x=some none
 | .kt l=>∃p o its n,W.nsIn K mainGlobals x=some (some (.ref p))/\K.lookup p=some o/\o.cls=.type "tuple" /\o.dict=none/\o.data=.seq its n/\its.size<=sizeLine/\jb (l.map V.str) its.toList
 | _=>False
theorem BK{α:Type}{p:α->Prop}:∀x∈([]:List α),p x:=fun _ h=>by cases h
theorem Jm{α:Type}{p:α->Prop}{a:α}{l:List α}(h:p a)(t:∀x∈l,p x):∀x∈a::l,p x:=fun x hx=>by
 rcases List.mem_cons.mp hx with rfl | hx
 ·exact h
 ·exact t x hx
theorem B8{rm:Nat->Prop}(XG:∀x v,W.nsIn K mainGlobals x=some (some v)->mg x=some v)(XN:∀x,W.nsIn K mainGlobals x=some none->mg x=none)(h:G0 K x g):Uy P w K mg base C rm K x g:=by
 cases g with
 | con i=>obtain⟨t,h⟩:=h;exact⟨t,XG _ _ h⟩
 | blt=>exact XN _ h
 | kt l=>obtain⟨p,o,its,n,h,r⟩:=h;exact⟨⟨p,o,its,n,XG _ _ h,r⟩,rfl⟩
 | _=>exact h.elim
theorem B9{l:List Str}{p:Addr}{its:Array Value}{m:Nat}{sl:Array (Option Value)}(a:W.nsIn K mainGlobals x=some (some (.ref p)))(b:K.lookup p=some ⟨.type "tuple",none,.seq its m,sl⟩)(c:its.size<=sizeLine)(v:jb (l.map V.str) its.toList):G0 K x (.kt l):=⟨p,_,its,m,a,b,rfl,rfl,rfl,c,v⟩
noncomputable def Tb.ag(T:Tb)(x:Str)(i:GI):Tb:={ T with gs:=(x,i)::T.gs }
noncomputable def Tb.am(T:Tb)(x:Str)(i:GI):Tb:={ T with ms:=(x,i)::T.ms }
theorem TOk.ag{m:Nat}(h:TOk P w K mg base n T)(l:n<=m)(q:Uy P w K mg base T.C (·<=m) K x g):TOk P w K mg base m (T.ag x g):=
 ⟨fun p hp=>by
  rcases List.mem_cons.mp hp with rfl | hp
  ·exact q
  ·exact(h.mono l).gs p hp,(h.mono l).ms,h.cl,h.fl⟩
theorem TOk.am{m:Nat}(h:TOk P w K mg base n T)(l:n<=m)(q:gW P w K mg base T.C (·<=m) K x g):TOk P w K mg base m (T.am x g):=
 ⟨(h.mono l).gs,fun p hp=>by
  rcases List.mem_cons.mp hp with rfl | hp
  ·exact q
  ·exact(h.mono l).ms p hp,h.cl,h.fl⟩
def De.E(d:De)(n:Nat):GI:=.fE (n+1) d.ps d.ks (yq d.ks d.lo.length d.b)
def De.F(d:De)(n:Nat):GI:=.fF (n+1) d.ps d.ks (Zt d.ks d.lo.length d.b)
structure Ck (T:Tb) (d:De) (kF:Bool):Prop where
 c:v4 T d kF=some d.b
 k:(d.ks.length==d.ps.length)=true
 b:Bd d.x d.q d.st d.ps
variable (XG:∀x v,W.nsIn K mainGlobals x=some (some v)->mg x=some v)
include XG
theorem TOk.E(h:TOk P w K mg base n T)(a:At K d.x d.q d.st)(c:Ck T d false):TOk P w K mg base (n+2) (T.ag d.x (d.E n)):=by
 obtain⟨f,fd,a1,F⟩:=a;exact h.ag (vKa _ _) ⟨⟨f,fd,a_ h F c.c (vLa c.k),F.binds c.b,F.kp,XG _ _ a1⟩,Nat.le_succ _⟩
theorem TOk.F(h:TOk P w K mg base n T)(a:At K d.x d.q d.st)(c:Ck T d true):TOk P w K mg base (n+2) (T.ag d.x (d.F n)):=by
 obtain⟨f,fd,a1,F⟩:=a;exact h.ag (vKa _ _) ⟨⟨f,fd,BJ h F c.c (vLa c.k),F.binds c.b,F.kp,XG _ _ a1⟩,Nat.le_succ _⟩
theorem TOk.M{m:Nat}{dm:DM}{F0:List (List D)->List D->Option (List (List D)×D)}(h:TOk P w K mg base n T)(a:At K d.x d.q d.st)(c:wZ T d=some dm)(hm:m+2=d.ps.length)(b:Bd d.x d.q d.st d.ps)(hF:∀l ls ds r,F0 ls ds=some r->gP m d.lo.length dm l ls ds=some r):TOk P w K mg base (n+2) (T.ag d.x (.fM (n+1) d.ps F0)):=by
 obtain⟨f,fd,a1,F⟩:=a;exact h.ag (vKa _ _) ⟨⟨f,fd,(CQ h F c hm).imp (fun _ _ _ _ z=>wN hF z),F.binds b,F.kp,XG _ _ a1⟩,Nat.le_succ _⟩
omit XG in
theorem TOk.mF(h:TOk P w K mg base n T)(a:ue K T.C d.x d.q d.st)(c:Ck T d true)(k:d.ks=[false]):TOk P w K mg base (n+2) (T.am d.x (d.F n)):=by
 obtain⟨f,fd,a1,a2,F⟩:=a;exact h.am (vKa _ _) ⟨⟨f,fd,k▸BJ h F c.c (vLa c.k),F.binds c.b,⟨a1,a2,F.kp⟩⟩,Nat.le_succ _⟩
theorem TOk.I{x:Str}{G:List D->Option OD}(h:TOk P w K mg base n T)(a:ue K T.C d.x d.q d.st)(hx:d.x = "__init__")(c:v4 T d false=some d.b)(k:(d.ks.length+1==d.ps.length)=true)(b:Bd d.x d.q d.st d.ps)(mk:W.makesIn K T.C=true)(kc:W.keepIn K (.ref T.C)=true)
  (aC:W.nsIn K mainGlobals x=some (some (.ref T.C))) (hG:∀p ds o,G ds=some o->K0 T.C d.ks d.lo.length d.b p ds=some o):TOk P w K mg base (n+2) (T.ag x (.mk (n+1) d.ps d.ks (K0 T.C d.ks d.lo.length d.b) G)):=by
 obtain⟨f,fd,a1,a2,F⟩:=a;refine h.ag (vKa _ _) ⟨⟨f,fd,CO h F c (vLa k),F.binds b,⟨mk,?_,a2,kc⟩,XG _ _ aC⟩,hG,wPa _⟩;rw[hx]at a1;exact a1
theorem TOk.R(h:TOk P w K mg base n T)(a:At K d.x d.q d.st)(F:Nat->List D->Option D)(B:(List D->Option D)->DS.DS)(m:Nat)(F0:∀ds,F 0 ds=none)(FS:∀m,F (m+1)=yq d.ks d.lo.length (B (F m)))
  (c:∀m,v4 (T.ag d.x (.fE (n+m) d.ps d.ks (F m))) d false=some (B (F m))) (k:(d.ks.length==d.ps.length)=true) (b:Bd d.x d.q d.st d.ps):TOk P w K mg base (n+m) (T.ag d.x (.fE (n+m) d.ps d.ks (F m))):=by
 obtain⟨f,fd,a1,Fu⟩:=a;have all:∀m,FnOk P w K mg base JB (n+m) f fd d.ps (V8 K d.ks (F m)):=by
  intro m;induction m with
  | zero=>
   have no:∀vs H Q E,¬V8 K d.ks (F 0) vs H Q E:=fun vs H Q E h=>by
    obtain⟨O,ds,d,_,_,h1,_⟩:=h;rw[F0]at h1;cases h1
   exact⟨fun vs H Q E h=>vDa h (no vs H Q E),fun A outer s H args us vs Q E _ _ _ _ h=>vDa h (no vs H Q E)⟩
  | succ m ih=>
   have h':TOk P w K mg base (n+m) (T.ag d.x (.fE (n+m) d.ps d.ks (F m))):=h.ag (vKa _ _) ⟨⟨f,fd,ih,Fu.binds b,Fu.kp,XG _ _ a1⟩,wPa _⟩;rw[FS];exact a_ (d:={ d with b:=B (F m) }) h' Fu (c m) (vLa k)
 exact h.ag (vKa _ _) ⟨⟨f,fd,all m,Fu.binds b,Fu.kp,XG _ _ a1⟩,wPa _⟩
end
end CP
namespace DS
open PySem L2
theorem YH{g:DG}{s:DS}{items:List D}(I:Nat->j7->Prop)(h:∀i d ρ,items[i]?=some d->I i ρ->∃ρ1 ρ2,g d ρ=some ρ1/\s ρ1=some (.nx ρ2)/\I (i+1) ρ2):∀{ρ:j7},I 0 ρ->∃ρ',jR g s items ρ=some (.nx ρ')/\I items.length ρ':=by
 induction items generalizing I with
 | nil=>intro ρ h0;exact⟨ρ,rfl,h0⟩
 | cons d ds ih=>
  intro ρ h0;obtain⟨ρ1,ρ2,e1,e2,i2⟩:=h 0 d ρ rfl h0;obtain⟨ρ',e3,i3⟩:=ih (fun i=>I (i+1)) (fun i d' ρ hd hi=>h (i+1) d' ρ (by simpa using hd) hi) i2;exact⟨ρ',by rw[jR,e1];show(s ρ1).bind _=_;rw[e2];exact e3,i3⟩
theorem Jq{α:Type}{g:DG}{dc:DT}{de:DE}{ρ:j7}(em:α->D)(f:α->D):∀{xs:List α},(∀x∈xs,∃ρ1,g (em x) ρ=some ρ1/\dc ρ1=some true/\de ρ1=some (f x))->yh g dc de (xs.map em) ρ=some (xs.map f)
 | [],_=>rfl
 | x::xs,h=>by
  obtain⟨ρ1,e1,e2,e3⟩:=h x wNa;have ih:=Jq em f (xs:=xs) fun y hy=>h y (wMa _ hy);simp[yh,e1,e2,e3,ih]
theorem Ko{dt:DT}{s:DS}(I:j7->Prop)(m:j7->Nat)(h:∀ρ,I ρ->dt ρ=some false∨(dt ρ=some true/\∃ρ2,s ρ=some (.nx ρ2)/\I ρ2/\m ρ2 < m ρ)):∀{n:Nat} {ρ:j7},I ρ->m ρ < n->∃ρ',Z_ dt s n ρ=some (.nx ρ')/\I ρ'/\dt ρ'=some false
 | 0,ρ,_,hn=>vDa hn (Nat.not_lt_zero _)
 | n+1,ρ,hi,hn=>by
  rcases h ρ hi with e | ⟨e,ρ2,e2,i2,hm⟩
  ·exact⟨ρ,by simp[Z_,e],hi,e⟩
  ·obtain⟨ρ',e3,i3,f3⟩:=Ko I m h (n:=n) i2 (by omega);exact⟨ρ',by simp[Z_,e,e2,e3],i3,f3⟩
noncomputable def t3(t:T3):D:=.tup [.int t.1,.int t.2.1,.int t.2.2]
structure Bk where
 size:Int
 kinds:List T3
 shuns:List T3
 bars:List T3
 dues:List T3
noncomputable def yt(b:Bk):D:=.tup [.int b.size,.lst (b.kinds.map t3),.lst (b.shuns.map t3),.lst (b.bars.map t3),.lst (b.dues.map t3)]
noncomputable def jV(C:Addr)(b:Bk):D:=.ins C ["size", "kind_rows", "shun_rows", "bar_rows", "due_rows"] [.int b.size,.tup (b.kinds.map t3),.tup (b.shuns.map t3),.tup (b.bars.map t3),.tup (b.dues.map t3)]
theorem Kp{α:Type}{xs:List α}{k:Int}{x:α}(h0:0<=k)(h:xs[k.toNat]?=some x):atI xs k=some x:=by
 have hk:=(List.getElem?_eq_some_iff.mp h).1;unfold atI Z2;rw[if_pos h0,if_pos (by omega)];exact h
theorem Qt{α β:Type}{f:α->β}{xs:List α}{k:Int}{d:α}(h0:0<=k)(h1:k < (xs.length:Int)):atI (xs.map f) k=some (f (xs.getD k.toNat d)):=by
 have hk:k.toNat < xs.length:=by omega
 refine Kp h0 ?_;rw[List.getElem?_map,List.getD_eq_getElem?_getD,List.getElem?_eq_getElem hk];rfl
theorem A0{n:Nat}{k:Int}(h0:0<=k)(h1:k < (n:Int)):Z2 n k=some k.toNat:=by unfold Z2;rw[if_pos h0,if_pos h1]
theorem jr{n:Nat}(h:n<=10000):n < sizeLine:=Nat.lt_of_le_of_lt h (by decide)
noncomputable def fK(t:T3):Bool:=decide (1<=t.1)&&(decide (t.1<=t.2.1)&&(decide (t.2.1<=4)&&(decide (0<=t.2.2)&&decide (t.2.2<=4))))
noncomputable def fS(m:Int)(t:T3):Bool:=decide (0<=t.1)&&(decide (t.1 < m)&&(decide (0<=t.2.1)&&(decide (t.2.1 < m)&&(decide (1<=t.2.2)&&decide (t.2.2<=2)))))
noncomputable def fB(m s:Int)(t:T3):Bool:=decide (0<=t.1)&&(decide (t.1 < m)&&(decide (1<=t.2.1)&&(decide (t.2.1<=t.2.2)&&decide (t.2.2<=s))))
noncomputable def fC(s k h b d:Int):Bool:=decide (1<=s)&&(decide (s<=30)&&(decide (1<=k)&&(decide (k<=4)&&(decide (h<=20)&&(decide (b<=12)&&decide (d<=3))))))
def fR(s:Int)(k h b d:List T3):Bool:=k.all fK&&(h.all (fS k.length)&&(b++d).all (fB k.length s))
def UD(b:Bk):Bool:=fC b.size b.kinds.length b.shuns.length b.bars.length b.dues.length&&fR b.size b.kinds b.shuns b.bars b.dues
noncomputable def ZA(C:Addr)(b:Bk):OD:=.ins C ["size", "kind_rows", "shun_rows", "bar_rows", "due_rows"] [.int b.size,.tup (b.kinds.map t3),.tup (b.shuns.map t3),.tup (b.bars.map t3),.tup (b.dues.map t3)]
noncomputable def A1:D->Option T3
 | .tup [.int x,.int y,.int z]=>some (x,y,z)
 | _=>none
def VM:List D->Option (List T3)
 | []=>some []
 | d::l=>(A1 d).bind fun t=>(VM l).bind fun ts=>some (t::ts)
theorem A2(t:T3):A1 (t3 t)=some t:=rfl
theorem UE:∀ts:List T3,VM (ts.map t3)=some ts
 | []=>rfl
 | t::ts=>by rw[List.map_cons,VM,A2,UE ts];rfl
theorem A3{d:D}{t:T3}(h:A1 d=some t):d=t3 t:=by
 cases d with
 | tup l=>
  rcases l with _ | ⟨a,_ | ⟨b,_ | ⟨c,_ | ⟨e,r⟩⟩⟩⟩ <;> try cases h
  all_goals (cases a <;> try cases h)
  all_goals (cases b <;> try cases h)
  all_goals (cases c <;> try cases h)
  rfl
 | _=>cases h
theorem G1:∀{l:List D} {ts:List T3},VM l=some ts->l=ts.map t3
 | [],_,h=>by cases h;rfl
 | d::l,ts,h=>by
  rw[VM]at h;obtain⟨t,e1,h⟩:=j0 h;obtain⟨r,e2,h⟩:=j0 h;cases h;rw[List.map_cons,<-A3 e1,<-G1 e2]
noncomputable def gI:D->Option Int
 | .int s=>some s
 | _=>none
def gL:D->Option (List T3)
 | .lst l=>VM l
 | _=>none
theorem Ba{d:D}{s:Int}(h:gI d=some s):d=.int s:=by
 cases d <;> cases h;rfl
theorem uH{d:D}{ts:List T3}(h:gL d=some ts):d=.lst (ts.map t3):=by
 cases d with
 | lst l=>rw[G1 h]
 | _=>cases h
def VN(C:Addr):List D->Option OD
 | [s,k,h,b,d]=>(gI s).bind fun s=>(gL k).bind fun k'=>(gL h).bind fun h'=>(gL b).bind fun b'=>(gL d).bind fun d'=>if UD ⟨s,k',h',b',d'⟩=true then some (ZA C ⟨s,k',h',b',d'⟩)else none
 | _=>none
theorem A4{C:Addr}{ds:List D}{o:OD}(h:VN C ds=some o):∃b:Bk,UD b=true/\ds=[.int b.size,.lst (b.kinds.map t3),.lst (b.shuns.map t3),.lst (b.bars.map t3),.lst (b.dues.map t3)]/\ZA C b=o:=by
 rcases ds with _ | ⟨s,_ | ⟨k,_ | ⟨hh,_ | ⟨b,_ | ⟨d,_ | ⟨e,r⟩⟩⟩⟩⟩⟩ <;> try cases h
 have h:((gI s).bind fun s=>(gL k).bind fun k'=>(gL hh).bind fun h'=>(gL b).bind fun b'=>(gL d).bind fun d'=>if UD ⟨s,k',h',b',d'⟩=true then some (ZA C ⟨s,k',h',b',d'⟩)else none)=some o:=h;obtain⟨s0,e0,h⟩:=j0 h;obtain⟨k',e1,h⟩:=j0 h;obtain⟨h',e2,h⟩:=j0 h;obtain⟨b',e3,h⟩:=j0 h;obtain⟨d',e4,h⟩:=j0 h;by_cases ok:UD ⟨s0,k',h',b',d'⟩=true
 ·rw[if_pos ok]at h;rw[Ba e0,uH e1,uH e2,uH e3,uH e4];exact⟨_,ok,rfl,vFa h⟩
 ·rw[if_neg ok]at h;cases h
@[simp] theorem CS(t:T3):jw (t3 t) (.int 0)=some (.int t.1):=rfl
@[simp] theorem CT(t:T3):jw (t3 t) (.int 1)=some (.int t.2.1):=rfl
@[simp] theorem CU(t:T3):jw (t3 t) (.int 2)=some (.int t.2.2):=rfl
@[simp] theorem CV(b:Bk):jw (yt b) (.int 0)=some (.int b.size):=rfl
@[simp] theorem CW(b:Bk):jw (yt b) (.int 1)=some (.lst (b.kinds.map t3)):=rfl
@[simp] theorem CY(b:Bk):jw (yt b) (.int 2)=some (.lst (b.shuns.map t3)):=rfl
@[simp] theorem CZ(b:Bk):jw (yt b) (.int 3)=some (.lst (b.bars.map t3)):=rfl
@[simp] theorem C_(b:Bk):jw (yt b) (.int 4)=some (.lst (b.dues.map t3)):=rfl
@[simp] theorem d4(t:T3):YU (t3 t)=false:=rfl
end DS
namespace M
open DS
@[simp high] theorem dZ(a:Sl)(l:j7):(a::l)[0]?=some a:=rfl
@[simp high] theorem d_(a x:Sl)(l:j7):List.set (a::l) 0 x=x::l:=rfl
@[simp high] theorem D0(a b:Sl)(l:j7):(a::b::l)[1]?=some b:=rfl
@[simp high] theorem D4(a b x:Sl)(l:j7):List.set (a::b::l) 1 x=a::x::l:=rfl
@[simp high] theorem D5(a b c:Sl)(l:j7):(a::b::c::l)[2]?=some c:=rfl
@[simp high] theorem D6(a b c x:Sl)(l:j7):List.set (a::b::c::l) 2 x=a::b::x::l:=rfl
@[simp high] theorem D7(a b c d:Sl)(l:j7):(a::b::c::d::l)[3]?=some d:=rfl
@[simp high] theorem D8(a b c d x:Sl)(l:j7):List.set (a::b::c::d::l) 3 x=a::b::c::x::l:=rfl
@[simp high] theorem D9(a b c d e:Sl)(l:j7):(a::b::c::d::e::l)[4]?=some e:=rfl
@[simp high] theorem Da(a b c d e x:Sl)(l:j7):List.set (a::b::c::d::e::l) 4 x=a::b::c::d::x::l:=rfl
@[simp high] theorem Db(a b c d e f:Sl)(l:j7):(a::b::c::d::e::f::l)[5]?=some f:=rfl
@[simp high] theorem Dc(a b c d e f x:Sl)(l:j7):List.set (a::b::c::d::e::f::l) 5 x=a::b::c::d::e::x::l:=rfl
@[simp high] theorem Df(a b c d e f g:Sl)(l:j7):(a::b::c::d::e::f::g::l)[6]?=some g:=rfl
@[simp high] theorem Dg(a b c d e f g x:Sl)(l:j7):List.set (a::b::c::d::e::f::g::l) 6 x=a::b::c::d::e::f::x::l:=rfl
@[simp high] theorem Dh(a b c d e f g h:Sl)(l:j7):(a::b::c::d::e::f::g::h::l)[7]?=some h:=rfl
@[simp high] theorem Di(a b c d e f g h x:Sl)(l:j7):List.set (a::b::c::d::e::f::g::h::l) 7 x=a::b::c::d::e::f::g::x::l:=rfl
@[simp high] theorem Dj(a b c d e f g h i:Sl)(l:j7):(a::b::c::d::e::f::g::h::i::l)[8]?=some i:=rfl
@[simp high] theorem Dk(a b c d e f g h i x:Sl)(l:j7):List.set (a::b::c::d::e::f::g::h::i::l) 8 x=a::b::c::d::e::f::g::h::x::l:=rfl
@[simp high] theorem Dl(a b c d e f g h i j:Sl)(l:j7):(a::b::c::d::e::f::g::h::i::j::l)[9]?=some j:=rfl
@[simp high] theorem Dm(a b c d e f g h i j x:Sl)(l:j7):List.set (a::b::c::d::e::f::g::h::i::j::l) 9 x=a::b::c::d::e::f::g::h::i::x::l:=rfl
@[simp high] theorem d8(a b c d e f g h i j k:Sl)(l:j7):(a::b::c::d::e::f::g::h::i::j::k::l)[10]?=some k:=rfl
@[simp high] theorem d9(a b c d e f g h i j k x:Sl)(l:j7):List.set (a::b::c::d::e::f::g::h::i::j::k::l) 10 x=a::b::c::d::e::f::g::h::i::j::x::l:=rfl
@[simp high] theorem dg(a b c d e f g h i j k m:Sl)(l:j7):(a::b::c::d::e::f::g::h::i::j::k::m::l)[11]?=some m:=rfl
@[simp high] theorem dk(a b c d e f g h i j k m x:Sl)(l:j7):List.set (a::b::c::d::e::f::g::h::i::j::k::m::l) 11 x=a::b::c::d::e::f::g::h::i::j::k::x::l:=rfl
@[simp high] theorem dl(a b c d e f g h i j k m n:Sl)(l:j7):(a::b::c::d::e::f::g::h::i::j::k::m::n::l)[12]?=some n:=rfl
@[simp high] theorem dn(a b c d e f g h i j k m n x:Sl)(l:j7):List.set (a::b::c::d::e::f::g::h::i::j::k::m::n::l) 12 x=a::b::c::d::e::f::g::h::i::j::k::m::x::l:=rfl
@[simp high] theorem dr(a b c d e f g h i j k m n o:Sl)(l:j7):(a::b::c::d::e::f::g::h::i::j::k::m::n::o::l)[13]?=some o:=rfl
@[simp high] theorem dv(a b c d e f g h i j k m n o x:Sl)(l:j7):List.set (a::b::c::d::e::f::g::h::i::j::k::m::n::o::l) 13 x=a::b::c::d::e::f::g::h::i::j::k::m::n::x::l:=rfl
@[simp high] theorem dw(a b c d e f g h i j k m n o p:Sl)(l:j7):(a::b::c::d::e::f::g::h::i::j::k::m::n::o::p::l)[14]?=some p:=rfl
@[simp high] theorem dz(a b c d e f g h i j k m n o p x:Sl)(l:j7):List.set (a::b::c::d::e::f::g::h::i::j::k::m::n::o::p::l) 14 x=a::b::c::d::e::f::g::h::i::j::k::m::n::o::x::l:=rfl
@[simp high] theorem dA(a b c d e f g h i j k m n o p q:Sl)(l:j7):(a::b::c::d::e::f::g::h::i::j::k::m::n::o::p::q::l)[15]?=some q:=rfl
@[simp high] theorem dB(a b c d e f g h i j k m n o p q x:Sl)(l:j7):List.set (a::b::c::d::e::f::g::h::i::j::k::m::n::o::p::q::l) 15 x=a::b::c::d::e::f::g::h::i::j::k::m::n::o::p::x::l:=rfl
@[simp high] theorem dE(a b c d e f g h i j k m n o p q r:Sl)(l:j7):(a::b::c::d::e::f::g::h::i::j::k::m::n::o::p::q::r::l)[16]?=some r:=rfl
@[simp high] theorem dF(a b c d e f g h i j k m n o p q r x:Sl)(l:j7):List.set (a::b::c::d::e::f::g::h::i::j::k::m::n::o::p::q::r::l) 16 x=a::b::c::d::e::f::g::h::i::j::k::m::n::o::p::q::x::l:=rfl
@[simp high] theorem dG(a b c d e f g h i j k m n o p q r s:Sl)(l:j7):(a::b::c::d::e::f::g::h::i::j::k::m::n::o::p::q::r::s::l)[17]?=some s:=rfl
@[simp high] theorem dH(a b c d e f g h i j k m n o p q r s x:Sl)(l:j7):List.set (a::b::c::d::e::f::g::h::i::j::k::m::n::o::p::q::r::s::l) 17 x=a::b::c::d::e::f::g::h::i::j::k::m::n::o::p::q::r::x::l:=rfl
@[simp high] theorem dI(a b c d e f g h i j k m n o p q r s t:Sl)(l:j7):(a::b::c::d::e::f::g::h::i::j::k::m::n::o::p::q::r::s::t::l)[18]?=some t:=rfl
@[simp high] theorem dJ(a b c d e f g h i j k m n o p q r s t x:Sl)(l:j7):List.set (a::b::c::d::e::f::g::h::i::j::k::m::n::o::p::q::r::s::t::l) 18 x=a::b::c::d::e::f::g::h::i::j::k::m::n::o::p::q::r::s::x::l:=rfl
@[simp high] theorem dM(a b c d e f g h i j k m n o p q r s t u:Sl)(l:j7):(a::b::c::d::e::f::g::h::i::j::k::m::n::o::p::q::r::s::t::u::l)[19]?=some u:=rfl
@[simp high] theorem dN(a b c d e f g h i j k m n o p q r s t u x:Sl)(l:j7):List.set (a::b::c::d::e::f::g::h::i::j::k::m::n::o::p::q::r::s::t::u::l) 19 x=a::b::c::d::e::f::g::h::i::j::k::m::n::o::p::q::r::s::t::x::l:=rfl
@[simp high] theorem dQ(a b c d e f g h i j k m n o p q r s t u v:Sl)(l:j7):(a::b::c::d::e::f::g::h::i::j::k::m::n::o::p::q::r::s::t::u::v::l)[20]?=some v:=rfl
@[simp high] theorem dR(a b c d e f g h i j k m n o p q r s t u v x:Sl)(l:j7):List.set (a::b::c::d::e::f::g::h::i::j::k::m::n::o::p::q::r::s::t::u::v::l) 20 x=a::b::c::d::e::f::g::h::i::j::k::m::n::o::p::q::r::s::t::u::x::l:=rfl
@[simp high] theorem dS(a b c d e f g h i j k m n o p q r s t u v w:Sl)(l:j7):(a::b::c::d::e::f::g::h::i::j::k::m::n::o::p::q::r::s::t::u::v::w::l)[21]?=some w:=rfl
@[simp high] theorem dU(a b c d e f g h i j k m n o p q r s t u v w x:Sl)(l:j7):List.set (a::b::c::d::e::f::g::h::i::j::k::m::n::o::p::q::r::s::t::u::v::w::l) 21 x=a::b::c::d::e::f::g::h::i::j::k::m::n::o::p::q::r::s::t::u::v::x::l:=rfl
@[elab_as_elim] theorem dW{α:Type}{motive:List α->Prop}(us:List α)(hl:us.length=0)(h:motive []):motive us:=by
 cases us with
 | nil=>exact h 
 | cons y us=>simp at hl
@[elab_as_elim] theorem yC{α:Type}{motive:List α->Prop}(us:List α)(hl:us.length=1)(h:∀x0,motive [x0]):motive us:=by
 cases us with
 | nil=>simp at hl
 | cons x0 us=>
  cases us with
  | nil=>exact h x0
  | cons y us=>simp at hl
@[elab_as_elim] theorem kg{α:Type}{motive:List α->Prop}(us:List α)(hl:us.length=2)(h:∀x0 x1,motive [x0,x1]):motive us:=by
 cases us with
 | nil=>simp at hl
 | cons x0 us=>
  cases us with
  | nil=>simp at hl
  | cons x1 us=>
   cases us with
   | nil=>exact h x0 x1
   | cons y us=>simp at hl
@[elab_as_elim] theorem A5{α:Type}{motive:List α->Prop}(us:List α)(hl:us.length=3)(h:∀x0 x1 x2,motive [x0,x1,x2]):motive us:=by
 cases us with
 | nil=>simp at hl
 | cons x0 us=>
  cases us with
  | nil=>simp at hl
  | cons x1 us=>
   cases us with
   | nil=>simp at hl
   | cons x2 us=>
    cases us with
    | nil=>exact h x0 x1 x2
    | cons y us=>simp at hl
@[elab_as_elim] theorem Cq{α:Type}{motive:List α->Prop}(us:List α)(hl:us.length=4)(h:∀x0 x1 x2 x3,motive [x0,x1,x2,x3]):motive us:=by
 cases us with
 | nil=>simp at hl
 | cons x0 us=>
  cases us with
  | nil=>simp at hl
  | cons x1 us=>
   cases us with
   | nil=>simp at hl
   | cons x2 us=>
    cases us with
    | nil=>simp at hl
    | cons x3 us=>
     cases us with
     | nil=>exact h x0 x1 x2 x3
     | cons y us=>simp at hl
@[elab_as_elim] theorem A6{α:Type}{motive:List α->Prop}(us:List α)(hl:us.length=5)(h:∀x0 x1 x2 x3 x4,motive [x0,x1,x2,x3,x4]):motive us:=by
 cases us with
 | nil=>simp at hl
 | cons x0 us=>
  cases us with
  | nil=>simp at hl
  | cons x1 us=>
   cases us with
   | nil=>simp at hl
   | cons x2 us=>
    cases us with
    | nil=>simp at hl
    | cons x3 us=>
     cases us with
     | nil=>simp at hl
     | cons x4 us=>
      cases us with
      | nil=>exact h x0 x1 x2 x3 x4
      | cons y us=>simp at hl
@[elab_as_elim] theorem Cr{α:Type}{motive:List α->Prop}(us:List α)(hl:us.length=6)(h:∀x0 x1 x2 x3 x4 x5,motive [x0,x1,x2,x3,x4,x5]):motive us:=by
 cases us with
 | nil=>simp at hl
 | cons x0 us=>
  cases us with
  | nil=>simp at hl
  | cons x1 us=>
   cases us with
   | nil=>simp at hl
   | cons x2 us=>
    cases us with
    | nil=>simp at hl
    | cons x3 us=>
     cases us with
     | nil=>simp at hl
     | cons x4 us=>
      cases us with
      | nil=>simp at hl
      | cons x5 us=>
       cases us with
       | nil=>exact h x0 x1 x2 x3 x4 x5
       | cons y us=>simp at hl
@[elab_as_elim] theorem dX{α:Type}{motive:List α->Prop}(us:List α)(hl:us.length=7)(h:∀x0 x1 x2 x3 x4 x5 x6,motive [x0,x1,x2,x3,x4,x5,x6]):motive us:=by
 cases us with
 | nil=>simp at hl
 | cons x0 us=>
  cases us with
  | nil=>simp at hl
  | cons x1 us=>
   cases us with
   | nil=>simp at hl
   | cons x2 us=>
    cases us with
    | nil=>simp at hl
    | cons x3 us=>
     cases us with
     | nil=>simp at hl
     | cons x4 us=>
      cases us with
      | nil=>simp at hl
      | cons x5 us=>
       cases us with
       | nil=>simp at hl
       | cons x6 us=>
        cases us with
        | nil=>exact h x0 x1 x2 x3 x4 x5 x6
        | cons y us=>simp at hl
end M
noncomputable section
namespace M
open PySem L2 DS
noncomputable def PT:List Str:=["kind", "shun", "bar", "due"]
noncomputable def J_:DS.DG:=(gN 6)
def J7(C:Addr):DS.DS:=(J3 (Jf (d2 xS (dV 5) (dK (.int 0)))) (ja (yJ 2 (d2 Jb (dV 5) (dK (.int 1009))))
 (jJ 5 (d2 GF (dV 5) (dK (.int 1009))))) Jg)
noncomputable def Jr:DS.DG:=(gN 4)
def Js(C:Addr):DS.DS:=(ja (jJ 3 (d2 Jb (d2 jG (d2 jG (d2 yA (dV 3) (dK (.int 48271))) (d2 Jb (dV 4) (dK (.int 1000003)))) (dK (.int 11))) (dK (.int 2147483647))))
 (ja (jJ 5 (d2 U4 (dV 4) (d2 wg (dK (.int 10)) (dK (.int 18)))))
 (ja (J3 (Jf (d2 U5 (dV 5) (dK (.int 0)))) (yJ 2 (d2 Jb (dV 4) (dK (.int 9973)))) Jg)
 (yi (ZJ (dK (.int 60))) J_ (J7 C)))))
def J8(C:Addr):DS.DT:=(Jf (d2 U5 (je JO [(false,(dV 2))]) (dV 1)))
def y0(C:Addr):DS.DS:=(ja (jJ 3 (d2 Jb (d2 jG (d2 jG (d2 jG (d2 yA (dV 3) (dV 3)) (d2 yA (dK (.int 69621)) (dV 3))) (d2 yA (dK (.int 7)) (je JO [(false,(dV 2))]))) (dK (.int 5))) (dK (.int 2147483629))))
 (yJ 2 (d2 Jb (d2 GF (dV 3) (dK (.int 1013))) (dK (.int 9973)))))
def yD(C:Addr):DS.DS:=(ja (yz 2 (Jc []))
 (ja (jJ 3 (dK (.int 29)))
 (ja (yi (yg (dL (ye (dV 0) (fun _=>some none) (fun ρ=>((dK (.int 63)) ρ).bind yp)))) Jr (Js C))
 (ja (Z_ (J8 C) (y0 C) 20000)
 (YX (ye (dV 2) (fun _=>some none) (fun ρ=>((dV 1) ρ).bind yp)))))))
def yE(C:Addr):List D->Option OD:=Zt [false,false] 5 (yD C)
noncomputable def YI:DS.DG:=(gN 5)
def y7(C:Addr):DS.DS:=(ja (jJ 6 (d2 jG (dK (.int 1)) (d2 Jb (d2 jw (dV 3) (d2 jG (d2 yA (dK (.int 3)) (dV 5)) (dK (.int 1)))) (dV 1))))
 (yJ 4 (Zo [(true,(d2 Jb (d2 jw (dV 3) (d2 yA (dK (.int 3)) (dV 5))) (dV 0))),(true,(dC 6)),(true,(d2 jG (dV 6) (d2 Jb (d2 jw (dV 3) (d2 jG (d2 yA (dK (.int 3)) (dV 5)) (dK (.int 2)))) (d2 jG (d2 U4 (dV 1) (dV 6)) (dK (.int 1))))))])))
def yF(C:Addr):DS.DS:=(ja (yz 4 (Jc []))
 (ja (yi (ZJ (dV 2)) YI (y7 C))
 (Va 4)))
def JK(C:Addr):List D->Option OD:=Zt [false,false,false,false] 3 (yF C)
noncomputable def Z7:DS.DG:=(gN 4)
def Y5(C:Addr):DS.DS:=(ja (jJ 5 (d2 jG (dK (.int 1)) (d2 Jb (d2 jw (dV 0) (d2 jG (dK (.int 2)) (dV 4))) (dK (.int 4)))))
 (yJ 3 (Zo [(true,(dC 5)),(true,(d2 jG (dV 5) (d2 Jb (d2 jw (dV 0) (d2 jG (dK (.int 6)) (dV 4))) (d2 U4 (dK (.int 5)) (dV 5))))),(true,(d2 Jb (d2 jw (dV 0) (d2 jG (dK (.int 10)) (dV 4))) (dK (.int 5))))])))
noncomputable def Z8:DS.DG:=(gN 4)
def Y6(C:Addr):DS.DS:=(yJ 6 (Zo [(true,(d2 Jb (d2 jw (dV 0) (d2 jG (dK (.int 20)) (d2 yA (dK (.int 3)) (dV 4)))) (dV 1))),(true,(d2 Jb (d2 jw (dV 0) (d2 jG (dK (.int 21)) (d2 yA (dK (.int 3)) (dV 4)))) (dV 1))),(true,(d2 jG (dK (.int 1)) (d2 Jb (d2 jw (dV 0) (d2 jG (dK (.int 22)) (d2 yA (dK (.int 3)) (dV 4)))) (dK (.int 2)))))]))
def ze(C:Addr):DS.DS:=(ja (jJ 1 (d2 jG (dK (.int 1)) (d2 Jb (d2 jw (dV 0) (dK (.int 0))) (dK (.int 4)))))
 (ja (jJ 2 (d2 jG (dK (.int 1)) (d2 Jb (d2 jw (dV 0) (dK (.int 1))) (dK (.int 30)))))
 (ja (yz 3 (Jc []))
 (ja (yi (ZJ (dV 1)) Z7 (Y5 C))
 (ja (yz 6 (Jc []))
 (ja (yi (ZJ (d2 Jb (d2 jw (dV 0) (dK (.int 14))) (dK (.int 21)))) Z8 (Y6 C))
 (ja (jJ 7 (dL (J1 (JK C) [(false,(dV 1)),(false,(dV 2)),(false,(d2 Jb (d2 jw (dV 0) (dK (.int 15))) (dK (.int 13)))),(false,(dL (ye (dV 0) (fun ρ=>((dK (.int 80)) ρ).bind yp) (fun _=>some none))))])))
 (Zr 3 (Zr 6 (jF (Zo [(true,(dC 2)),(true,(dC 3)),(true,(dC 6)),(true,(dC 7)),(true,(dL (J1 (JK C) [(false,(dV 1)),(false,(dV 2)),(false,(d2 Jb (d2 jw (dV 0) (dK (.int 16))) (dK (.int 4)))),(false,(dL (ye (dV 0) (fun ρ=>((dK (.int 116)) ρ).bind yp) (fun _=>some none))))])))])))))))))))
def zf(C:Addr):List D->Option D:=yq [false] 7 (ze C)
def Y7(C:Addr):DS.DS:=(YX (J1 JS [(false,(d1 (Jk C "kind_rows") (dV 0)))]))
def JT(C:Addr):List D->Option OD:=Zt [false] 0 (Y7 C)
def Y8(C:Addr):DS.DS:=(YX (J1 JS [(false,(d1 (Jk C "shun_rows") (dV 0)))]))
def JU(C:Addr):List D->Option OD:=Zt [false] 0 (Y8 C)
def YJ(C:Addr):DS.DS:=(YX (J1 JS [(false,(d1 (Jk C "bar_rows") (dV 0)))]))
def yj(C:Addr):List D->Option OD:=Zt [false] 0 (YJ C)
def YK(C:Addr):DS.DS:=(YX (J1 JS [(false,(d1 (Jk C "due_rows") (dV 0)))]))
def yk(C:Addr):List D->Option OD:=Zt [false] 0 (YK C)
def zY(C:Addr):DS.DS:=(jF (d2 Vf (dK (.str " ")) (dL (V2 U7 (dL (Jc [(true,(dC 0))])) (dL (Yi 1 [] (yg (dP 1)) (gN 0) J2 (je zd [(false,(dV 0))])))))))
def Yn(C:Addr):List D->Option D:=yq [true,false] 0 (zY C)
noncomputable def JL:DS.DG:=(gT 2 (gC (gN 3) (gC (gN 4) gZ)))
def JM(C:Addr):DS.DS:=(Ur 1 (dL (Yi 1 [3] (yg (dP 4)) (gN 0) J2 (je (Yn C) [(true,(dC 1)),(false,(dV 0))]))))
def YL(C:Addr):DS.DS:=(ja (yz 1 (Jc [(true,(zS [(dK (.str "size ")),(Yj (d1 (Jk C "size") (dV 0)))]))]))
 (ja (jJ 2 (Zo [(true,(dL (ZZ (jZ C "kinds" (JT C)) (dV 0)))),(true,(dL (ZZ (jZ C "shuns" (JU C)) (dV 0)))),(true,(dL (ZZ (jZ C "bars" (yj C)) (dV 0)))),(true,(dL (ZZ (jZ C "dues" (yk C)) (dV 0))))]))
 (ja (yi (VC (dK (.tup (PT.map D.str))) (dP 2)) JL (JM C))
 (jF (d2 Vf (dK (.str "\n")) (dV 1))))))
def JH(C:Addr):List D->Option D:=yq [false] 4 (YL C)
def Y9(C:Addr):DS.DS:=(ja (J3 (Yy (JD (Jf (J6 Jp Jp (dK (.int 1)) (dV 0) (dK (.int 30))))) (JD (Jf (J6 Jp Jp (dK (.int 1)) (je JO [(false,(dV 1))]) (dK (.int 4)))))) (jF (dK (.bl false))) Jg)
 (jF (JR (d2 Jp (je JO [(false,(dV 2))]) (dK (.int 20))) (JR (d2 Jp (je JO [(false,(dV 3))]) (dK (.int 12))) (d2 Jp (je JO [(false,(dV 4))]) (dK (.int 3)))))))
def Yb(C:Addr):List D->Option D:=yq [false,false,false,false,false] 0 (Y9 C)
def zg(C:Addr):DS.DS:=(ja (J3 (Jf (d2 zA (je JO [(false,(dV 0))]) (dK (.int 3)))) (jF (dK (.bl false))) Jg)
 (ja (Zs (dC 0) (gT 3 (gC (gN 1) (gC (gN 2) (gC (gN 3) gZ)))))
 (jF (JR (ZI Jp Jp Jp (dK (.int 1)) (dV 1) (dV 2) (dK (.int 4))) (J6 Jp Jp (dK (.int 0)) (dV 3) (dK (.int 4)))))))
def yL(C:Addr):List D->Option D:=yq [true] 3 (zg C)
def zh(C:Addr):DS.DS:=(ja (J3 (Jf (d2 zA (je JO [(false,(dV 0))]) (dK (.int 3)))) (jF (dK (.bl false))) Jg)
 (ja (Zs (dC 0) (gT 3 (gC (gN 2) (gC (gN 3) (gC (gN 4) gZ)))))
 (jF (JR (J6 Jp U5 (dK (.int 0)) (dV 2) (dV 1)) (JR (J6 Jp U5 (dK (.int 0)) (dV 3) (dV 1)) (J6 Jp Jp (dK (.int 1)) (dV 4) (dK (.int 2))))))))
def yM(C:Addr):List D->Option D:=yq [true,false] 3 (zh C)
def zi(C:Addr):DS.DS:=(ja (J3 (Jf (d2 zA (je JO [(false,(dV 0))]) (dK (.int 3)))) (jF (dK (.bl false))) Jg)
 (ja (Zs (dC 0) (gT 3 (gC (gN 3) (gC (gN 4) (gC (gN 5) gZ)))))
 (jF (JR (J6 Jp U5 (dK (.int 0)) (dV 3) (dV 1)) (ZI Jp Jp Jp (dK (.int 1)) (dV 4) (dV 5) (dV 2))))))
def yN(C:Addr):List D->Option D:=yq [true,false,false] 3 (zi C)
def zj(C:Addr):DS.DS:=(ja (jJ 5 (je JO [(false,(dV 1))]))
 (ja (J3 (JD (JZ (je zN [(false,(dL (Yi 1 [] (yg (dP 1)) (gN 0) J2 (je (yL C) [(true,(dC 0))]))))]))) (jF (dK (.bl false))) Jg)
 (ja (J3 (JD (JZ (je zN [(false,(dL (Yi 1 [5] (yg (dP 2)) (gN 0) J2 (je (yM C) [(true,(dC 0)),(false,(dV 1))]))))]))) (jF (dK (.bl false))) Jg)
 (jF (je zN [(false,(dL (Yi 1 [5,0] (yg (dL (V2 U7 (dV 3) (dV 4)))) (gN 0) J2 (je (yN C) [(true,(dC 0)),(false,(dV 1)),(false,(dV 2))]))))])))))
def zk(C:Addr):List D->Option D:=yq [false,false,false,false,false] 1 (zj C)
def Jt(C:Addr):DS.DS:=(ja (J3 (JD (JZ (je (Yb C) [(false,(dV 1)),(false,(dV 2)),(false,(dV 3)),(false,(dV 4)),(false,(dV 5))]))) YW Jg)
 (ja (J3 (JD (JZ (je (zk C) [(false,(dV 1)),(false,(dV 2)),(false,(dV 3)),(false,(dV 4)),(false,(dV 5))]))) YW Jg)
 (ja (YZ 0 C "size" (dC 1))
 (ja (YZ 0 C "kind_rows" (je yY [(false,(dV 2))]))
 (ja (YZ 0 C "shun_rows" (je yY [(false,(dV 3))]))
 (ja (YZ 0 C "bar_rows" (je yY [(false,(dV 4))]))
 (YZ 0 C "due_rows" (je yY [(false,(dV 5))]))))))))
def Ji(C:Addr):Addr->List D->Option OD:=K0 C [true,false,false,false,false] 0 (Jt C)
def jK(C:Addr):List D->Option OD:=DS.VN C
def zl(C:Addr):DS.DS:=(YX (V9 (jK C) [(true,(d2 jw (dV 0) (dK (.int 0)))),(false,(dL (J1 JS [(false,(d2 jw (dV 0) (dK (.int 1))))]))),(false,(dL (J1 JS [(false,(d2 jw (dV 0) (dK (.int 2))))]))),(false,(dL (J1 JS [(false,(d2 jw (dV 0) (dK (.int 3))))]))),(false,(dL (J1 JS [(false,(d2 jw (dV 0) (dK (.int 4))))])))]))
def yO(C:Addr):List D->Option OD:=Zt [false] 0 (zl C)
def yP(C:Addr)(rec:List D->Option D):DS.DS:=(ja (J3 (Jf (d2 Y3 (dV 1) (dK .non))) (jF (d2 Y3 (dV 0) (dK .non))) Jg)
 (ja (J3 (JZ (d1 GR (dV 1))) (ja (J3 (Yy (Jf (d2 zA (d1 (Y4 "list") (dV 0)) (d1 (Y4 "list") (dV 1)))) (Jf (d2 zA (d1 (Y4 "tuple") (dV 0)) (d1 (Y4 "tuple") (dV 1))))) (jF (dK (.bl false))) Jg)
 (jF (JR (d2 u9 (je JO [(false,(dV 0))]) (je JO [(false,(dV 1))])) (je zN [(false,(dL (Yi 2 [] (VC (dP 0) (dP 1)) (gT 2 (gC (gN 0) (gC (gN 1) gZ))) J2 (je rec [(false,(dV 0)),(false,(dV 1))]))))])))) Jg)
 (ja (J3 (Yy (Jf (d2 zA (d1 (Y4 "bool") (dV 0)) (d1 (Y4 "bool") (dV 1)))) (Jf (d2 zA (d1 (Y4 "str") (dV 0)) (d1 (Y4 "str") (dV 1))))) (jF (dK (.bl false))) Jg)
 (jF (JR (d2 u9 (d1 (Y4 "int") (dV 0)) (d1 (Y4 "int") (dV 1))) (d2 u9 (dV 0) (dV 1)))))))
def jH(C:Addr):Nat->List D->Option D
 | 0=>fun _=>none
 | n+1=>yq [false,false] 0 (yP C (jH C n))
noncomputable def JV:DS.DG:=(gT 3 (gC (gN 4) (gC (gN 5) (gC (gN 6) gZ))))
def JW(C:Addr):DS.DS:=(yJ 1 (zS [(Yj (dC 2)),(dK (.str " ")),(Yj (dC 4)),(dK (.str " ")),(Yj (dC 5)),(dK (.str " ")),(Yj (dC 6))]))
noncomputable def JX:DS.DG:=(gT 2 (gC (gN 2) (gC (gN 3) gZ)))
def JY(C:Addr):DS.DS:=(yi (yg (dP 3)) JV (JW C))
def yQ(C:Addr):DS.DS:=(ja (yz 1 (Jc [(true,(d2 jG (dK (.str "size ")) (je zd [(false,(d2 jw (dV 0) (dK (.int 0))))])))]))
 (ja (yi (VC (dL (Jc [(true,(dK (.str "kind"))),(true,(dK (.str "shun"))),(true,(dK (.str "bar"))),(true,(dK (.str "due")))])) (uC (dV 0) (fun ρ=>((dK (.int 1)) ρ).bind yp) (fun _=>some none))) JX (JY C))
 (Va 1)))
def zm(C:Addr):List D->Option OD:=Zt [false] 6 (yQ C)
def v5(C:Addr):DS.DS:=(ja (J3 (Yy (JD (Jf (J6 Jp Jp (dK (.int 1)) (je uF [(false,(dV 0))]) (dK (.int 4))))) (JD (JZ (je zN [(false,(dL (Yi 1 [] (wA (dP 0)) (gN 0) J2 (J6 Uq Uq (dK (.str "0")) (dV 0) (dK (.str "9"))))))])))) (jF (dK (.bl false))) Jg)
 (jF (GJ (d2 u9 (dV 0) (dK (.str "0"))) (d2 zA (d2 G_ (dV 0) (dK (.int 0))) (dK (.str "0"))))))
def JP(C:Addr):List D->Option D:=yq [false] 0 (v5 C)
def zn(C:Addr):DS.DS:=(ja (Zs (d2 Vg (dV 0) (dK (.str " "))) (gT 3 (gC (gN 1) (gC (gN 2) (gC (gN 3) gZ)))))
 (ja (J3 (Yy (Jf (d2 zA (dV 1) (dK (.str "size")))) (Yy (JD (JZ (je (JP C) [(false,(dV 3))]))) (JD (Jf (J6 Jp Jp (dK (.int 1)) (je Y_ [(false,(dV 3))]) (dK (.int 30))))))) (jF (dK .non)) Jg)
 (jF (je Y_ [(false,(dV 3))]))))
def yR(C:Addr):List D->Option D:=yq [false] 3 (zn C)
def zo(C:Addr):DS.DS:=(ja (GZ (dL (V2 y_ (dV 0) (dK (.str " ")))) (gC (gN 1) (gC (gN 2) gZ)))
 (ja (J3 (Yy (Jf (d2 (k_ true) (dV 1) (dK (.tup (PT.map D.str))))) (Yy (Jf (d2 zA (je JO [(false,(dV 2))]) (dK (.int 3)))) (JD (JZ (je zN [(false,(dL (Yi 1 [] (yg (dP 2)) (gN 0) J2 (je (JP C) [(false,(dV 0))]))))]))))) (jF (dK .non)) Jg)
 (jF (Zo [(true,(d1 (wK PT) (dV 1))),(true,(je yY [(false,(dL (Yi 1 [] (yg (dP 2)) (gN 0) J2 (je Y_ [(false,(dV 0))]))))]))]))))
def yS(C:Addr):List D->Option D:=yq [false] 2 (zo C)
def yl(C:Addr):DM:=(Zv (jJ 3 (je (yS C) [(false,(dV 2))]))
 (ua (Jf (d2 Y3 (dV 3) (dK .non))) (dK .non)
 (Zv (Zs (dC 3) (gT 2 (gC (gN 4) (gC (gN 5) gZ))))
 (ua (fun ρ=>(JZ (je Ym [(false,(dL (ye (dV 1) (fun ρ=>((d2 jG (dV 4) (dK (.int 1))) ρ).bind yp) (fun _=>some none))))])) (frz ρ)) (dK .non)
 (Zv (ZK 1 (dV 4) (dC 5))
 (zR fun ρ=>((dL (V9 (jK C) [(true,(dC 0)),(false,(d2 jw (dV 1) (dK (.int 0)))),(false,(d2 jw (dV 1) (dK (.int 1)))),(false,(d2 jw (dV 1) (dK (.int 2)))),(false,(d2 jw (dV 1) (dK (.int 3))))])) (frz ρ)).bind zU))))))
def Yo(C:Addr):List (List D)->List D->Option (List (List D)×D):=Us (gP 1 3 (yl C))
noncomputable def Jn:DS.DG:=(gT 2 (gC (gN 5) (gC (gN 6) gZ)))
def Jo(C:Addr):DS.DS:=(ja (Zw 4 3 (Yo C) (dC 2) (dC 6))
 (J3 (Jf (d2 Y3 (dV 4) (dK .non))) YW Jg))
def ym(C:Addr):DS.DS:=(ja (jJ 1 (dL (V2 y_ (dV 0) (dK (.str "\n")))))
 (ja (jJ 2 (je (yR C) [(false,(d2 jw (dV 1) (dK (.int 0))))]))
 (ja (J3 (Jf (d2 Y3 (dV 2) (dK .non))) YW Jg)
 (ja (uE 3 [(Jc []),(Jc []),(Jc []),(Jc [])])
 (ja (jJ 4 (dK .non))
 (ja (yi (Ve (dL (ye (dV 1) (fun ρ=>((dK (.int 1)) ρ).bind yp) (fun _=>some none)))) Jn (Jo C))
 (ja (J3 (Jf (d2 Y3 (dV 4) (dK .non))) YW Jg)
 (jF (dC 4)))))))))
def YM(C:Addr):List D->Option D:=yq [false] 6 (ym C)
def uI(C:Addr):DS.DS:=(ja (jJ 1 (dL (J1 (yE C) [(false,(dV 0)),(false,(dK (.int 130)))])))
 (ja (jJ 2 (je (zf C) [(false,(dV 1))]))
 (ja (jJ 3 (je (JH C) [(false,(dL (J1 (yO C) [(false,(dV 2))])))]))
 (ja (J3 (JD (JZ (je (jH C 6) [(false,(dV 3)),(false,(d2 Vf (dK (.str "\n")) (dL (J1 (zm C) [(false,(dV 2))]))))]))) (jF (dK (.bl false))) Jg)
 (ja (jJ 4 (je (YM C) [(false,(dV 3))]))
 (ja (jJ 5 (dL (Jc [(true,(d1 (Jk C "size") (dV 4))),(true,(dL (ZZ (jZ C "kinds" (JT C)) (dV 4)))),(true,(dL (ZZ (jZ C "shuns" (JU C)) (dV 4)))),(true,(dL (ZZ (jZ C "bars" (yj C)) (dV 4)))),(true,(dL (ZZ (jZ C "dues" (yk C)) (dV 4))))])))
 (jF (JR (je (jH C 6) [(false,(dV 5)),(false,(dL (J1 JS [(false,(dV 2))])))]) (d2 u9 (je (JH C) [(false,(dV 4))]) (dV 3))))))))))
def uJ(C:Addr):List D->Option D:=yq [false] 5 (uI C)
end M
namespace DS
open PySem PySem.Builtin PySem.Builtin.Str PySem.StrLaws
noncomputable def pos(c:Nat):Nat->List Nat->List Nat
 | _,[]=>[]
 | k,a::r=>if a=c then k::pos c (k+1) r else pos c (k+1) r
theorem ZP(x:Str)(c m:Nat):∀(l:List Nat) (k:Nat) (st:Array Nat×Nat),x.cps.toList.drop k=l->st.2<=k->k+l.length=x.length->
  (forIn (List.range' k (l.length+1)) st (occBody x ⟨#[c]⟩ x.length m)).run.fst.toList=st.1.toList++(pos c k l).take (m - st.1.size)
 | [],k,st,hd,hf,hl=>by
  have n:¬(k+(⟨#[c]⟩:Str).length<=x.length/\subAt x ⟨#[c]⟩ k=true):=fun h=>by
   have:=(subAt_one x c k).mp h;have:=(List.getElem?_eq_some_iff.mp this).1;simp[Str.length]at this hl;omega
  have e:List.range' k (([]:List Nat).length+1)=[k]:=rfl;rw[e,List.forIn_cons];unfold occBody;rw[if_neg fun h=>n ⟨h.1.2,h.2⟩];simp[pos]
 | a::r,k,st,hd,hf,hl=>by
  have ha:x.cps.toList[k]?=some a:=by
   have:=congrArg (fun l:List Nat=>l[0]?) hd;simpa using this
  have hd':x.cps.toList.drop (k+1)=r:=by
   have:=congrArg (List.drop 1) hd;rw[List.drop_drop]at this;simpa using this
  have hl':k+1+r.length=x.length:=by simp at hl;omega
  have e:List.range' k ((a::r).length+1)=k::List.range' (k+1) (r.length+1):=rfl;rw[e,List.forIn_cons];unfold occBody;by_cases hc:a=c
  ·subst hc;have h1:=(subAt_one x a k).mpr ha;by_cases hm:st.1.size < m
   ·rw[if_pos ⟨⟨⟨hm,hf⟩,h1.1⟩,h1.2⟩];have ih:=ZP x a m r (k+1) (st.1.push k,k+1) hd' (wPa _) hl';refine Eq.trans ih ?_;obtain⟨j,hj⟩:∃j,m - st.1.size=j+1:=⟨m - st.1.size - 1,by omega⟩
    have hj':m - (st.1.push k).size=j:=by simp;omega
    rw[hj,hj',pos,if_pos rfl];simp
   ·rw[if_neg fun h=>hm h.1.1.1];have ih:=ZP x a m r (k+1) st hd' (Nat.le_succ_of_le hf) hl';refine Eq.trans ih ?_;have hj:m - st.1.size=0:=by omega
    rw[hj];simp
  ·have h1:¬(k+(⟨#[c]⟩:Str).length<=x.length/\subAt x ⟨#[c]⟩ k=true):=fun h=>by
    have:=(subAt_one x c k).mp h;rw[ha]at this;exact hc (vFa this)
   rw[if_neg fun h=>h1 ⟨h.1.2,h.2⟩];have ih:=ZP x c m r (k+1) st hd' (Nat.le_succ_of_le hf) hl';refine Eq.trans ih ?_;rw[pos,if_neg hc]
theorem G8(x:Str)(c m:Nat):occurrences x ⟨#[c]⟩ 0 x.length m=(pos c 0 x.cps.toList).take m:=by
 rw[occ_eq];have:=ZP x c m x.cps.toList 0 (#[],0) rfl (wPa _) (by simp[Str.length]);have e:x.cps.toList.length+1=x.length+1 - 0:=by simp[Str.length]
 rw[e]at this;simpa using this
theorem Ga(c:Nat):∀(l:List Nat) (k:Nat),(pos c k l).length<=l.length
 | [],_=>wPa _
 | a::r,k=>by
  have:=Ga c r (k+1);rw[pos];split <;> simp <;> omega
theorem Gb(x:Str)(c:Nat):occurrences x ⟨#[c]⟩ 0 x.length (x.length+1)=pos c 0 x.cps.toList:=by
 rw[G8,List.take_of_length_le];have:=Ga c x.cps.toList 0;simp[Str.length]at this⊢;omega
noncomputable def j_(c:Nat):List Nat->List Nat->List (List Nat)
 | w,[]=>[w]
 | w,a::r=>if a=c then w::j_ c [] r else j_ c (w++[a]) r
theorem ZQ{x:Str}{p w r:List Nat}(h:x.cps.toList=p++w++r):strSub x p.length (p.length+w.length)=⟨w.toArray⟩:=by
 have e:x=⟨(p++w++r).toArray⟩:=by cases x;simp only at h;rw[<-h]
 subst e;unfold strSub;congr 1;simp[List.extract_eq_drop_take]
theorem vL(x:Str)(c:Nat):∀(l p w:List Nat),x.cps.toList=p++w++l->
  ((p.length::(pos c (p.length+w.length) l).map (· + 1)).zip (pos c (p.length+w.length) l++[x.length])).map (fun z=>strSub x z.1 z.2)=(j_ c w l).map fun w=>⟨w.toArray⟩
 | [],p,w,h=>by
  have hl:x.length=p.length+w.length:=by
   have:=congrArg List.length h;simpa[Str.length]using this
  simp[pos,j_];rw[hl];exact ZQ h
 | a::r,p,w,h=>by
  rw[pos,j_];by_cases hc:a=c
  ·rw[if_pos hc,if_pos hc];have ih:=vL x c r (p++w++[a]) [] (by simp[h]);have e1:(p++w++[a]).length=p.length+w.length+1:=by simp;omega
   rw[e1]at ih;simp only[List.map_cons,List.cons_append,List.zip_cons_cons];simp only[List.length_nil,Nat.add_zero]at ih;rw[ih];congr 1;exact ZQ (r:=a::r) h
  ·rw[if_neg hc,if_neg hc];have ih:=vL x c r p (w++[a]) (by simp[h]);have e1:(w++[a]).length=w.length+1:=by simp
   rw[e1]at ih;exact ih
theorem Kq(x:Str)(c:Nat)(hc:c < 256):Txt.split x ⟨#[c]⟩=(j_ c [] x.cps.toList).map fun w=>⟨w.toArray⟩:=by
 have key:=vL x c x.cps.toList [] [] rfl;simp only[List.length_nil,Nat.add_zero]at key;have no:∀(l w:List Nat) (k:Nat),pos c k l=[]->j_ c w l=[w++l]:=by
  intro l;induction l with
  | nil=>intro w k _;simp[j_]
  | cons a r ih=>
   intro w k h;rw[pos]at h;split at h
   ·cases h
   ·rename_i hn;rw[j_,if_neg hn,ih _ _ h];simp
 unfold Txt.split;split
 ·rename_i h;have hk:Str.strKind ⟨#[c]⟩=1:=by simp[Str.strKind,hc]
  have hp:∀y:Str,1<=Str.strKind y:=fun y=>by unfold Str.strKind;split <;> (try split) <;> decide
  have hz:x.length < 1:=by
   rcases Bool.or_eq_true_iff.mp h with h | h
   ·exact vCa h
   ·have:=vCa h;rw[hk]at this;have:=hp x;omega
  have hn:x.cps.toList=[]:=by
   apply List.eq_nil_of_length_eq_zero;simp[Str.length]at hz⊢;exact hz
  rw[hn];simp[j_];cases x;simp at hn;subst hn;rfl
 ·split
  ·rename_i h;rw[Gb]at h;rw[no _ _ _ (List.isEmpty_iff.mp h)];cases x;simp
  ·rw[Gb];exact key
theorem zp{c:Nat}:∀(v w l:List Nat),c∉v->j_ c w (v++l)=j_ c (w++v) l
 | [],w,l,_=>by simp
 | a::v,w,l,h=>by
  rw[List.cons_append,j_,if_neg (fun e=>h (by simp[e])),zp v _ l (fun e=>h (by simp[e]))];simp
noncomputable def z9(c:Nat):List (List Nat)->List Nat
 | []=>[]
 | [w]=>w
 | w::r=>w++c::z9 c r
theorem v6{c:Nat}:∀(ws:List (List Nat)) (w:List Nat),(∀v∈w::ws,c∉v)->j_ c [] (z9 c (w::ws))=w::ws
 | [],w,h=>by
  have:=zp (c:=c) w [] [] (h w (by simp));simpa[z9,j_]using this
 | v::ws,w,h=>by
  rw[z9,zp w [] _ (h w (by simp)),j_,if_pos rfl,v6 ws v fun u hu=>h u (by simp at hu⊢;exact .inr hu)]
  ·simp
  ·simp
theorem UF(c:Nat):∀ts:List Str,(Txt.join ⟨#[c]⟩ ts).cps.toList=z9 c (ts.map (·.cps.toList)):=by
 intro ts;show(glued ⟨#[c]⟩ ts).cps.toList=_;rw[StrLaws.glued_eq_join];induction ts with
 | nil=>rfl
 | cons t r ih=>
  cases r with
  | nil=>rfl
  | cons u r=>
   show((t.cps++#[c])++(Str.join ⟨#[c]⟩ (u::r)).cps).toList=_;rw[Array.toList_append,ih];simp[z9]
theorem Vl{c:Nat}(hc:c < 256)(t:Str)(ts:List Str)(h:∀v∈t::ts,c∉v.cps.toList):Txt.split (Txt.join ⟨#[c]⟩ (t::ts)) ⟨#[c]⟩=t::ts:=by
 rw[Kq _ _ hc,UF,List.map_cons,v6]
 ·simp;exact List.map_id'' (fun v=>by cases v;simp) ts
 ·intro v hv;rcases List.mem_cons.mp hv with rfl | hv
  ·exact h t (by simp)
  ·obtain⟨u,hu,rfl⟩:=List.mem_map.mp hv;exact h u (by simp[hu])
theorem UG{c:Nat}:∀(v l:List Nat) (k:Nat),c∉v->pos c k (v++l)=pos c (k+v.length) l
 | [],_,_,_=>rfl
 | a::v,l,k,h=>by
  rw[List.cons_append,pos,if_neg (fun e=>h (by simp[e])),UG v l _ (fun e=>h (by simp[e]))];simp only[List.length_cons];congr 1;omega
theorem w_{c:Nat}{x a b:Str}(hx:x.cps.toList=a.cps.toList++c::b.cps.toList)(h:c∉a.cps.toList):Txt.partition x ⟨#[c]⟩=(a,⟨#[c]⟩,b):=by
 have hp:occurrences x ⟨#[c]⟩ 0 x.length 1=[a.cps.toList.length]:=by
  rw[G8,hx,UG _ _ _ h,pos,if_pos rfl];simp
 have hl:x.length=(a.cps.toList++[c]).length+b.cps.toList.length:=by
  have:=congrArg List.length hx;simp[Str.length]at this⊢;omega
 unfold Txt.partition;rw[hp];have e1:=ZQ (x:=x) (p:=[]) (w:=a.cps.toList) (r:=c::b.cps.toList) (by simp[hx]);have e2:=ZQ (x:=x) (p:=a.cps.toList++[c]) (w:=b.cps.toList) (r:=[]) (by simp[hx]);rw[<-hl]at e2;simp only[List.length_nil,Nat.zero_add]at e1;simp only[List.length_append,List.length_cons,List.length_nil,Nat.zero_add]at e2;show(strSub x 0 a.cps.toList.length,_,strSub x (a.cps.toList.length+1) x.length)=_;rw[e1,e2]
end DS
namespace M
open PySem L2 DS
theorem UH(C:Addr)(t:T3):yL C [t3 t]=some (.bl (fK t)):=by
 obtain⟨x,y,z⟩:=t;unfold fK;simp only[yL,zg,t3];by_cases h1:1<=x
 ·by_cases h2:x<=y
  ·by_cases h3:y<=4
   ·by_cases h4:0<=z <;> simp[h1,h2,h3,h4]
   ·simp[h1,h2,h3]
  ·simp[h1,h2]
 ·simp[h1]
theorem UI(C:Addr)(t:T3)(m:Int):yM C [t3 t,.int m]=some (.bl (fS m t)):=by
 obtain⟨x,y,z⟩:=t;unfold fS;simp only[yM,zh,t3];by_cases h1:0<=x
 ·by_cases h2:x < m
  ·by_cases h3:0<=y
   ·by_cases h4:y < m
    ·by_cases h5:1<=z <;> simp[h1,h2,h3,h4,h5]
    ·simp[h1,h2,h3,h4]
   ·simp[h1,h2,h3]
  ·simp[h1,h2]
 ·simp[h1]
theorem UJ(C:Addr)(t:T3)(m s:Int):yN C [t3 t,.int m,.int s]=some (.bl (fB m s t)):=by
 obtain⟨x,y,z⟩:=t;unfold fB;simp only[yN,zi,t3];by_cases h1:0<=x
 ·by_cases h2:x < m
  ·by_cases h3:1<=y
   ·by_cases h4:y<=z <;> simp[h1,h2,h3,h4]
   ·simp[h1,h2,h3]
  ·simp[h1,h2]
 ·simp[h1]
theorem VO(C:Addr)(s:Int)(k h b d:List D):Yb C [.int s,.lst k,.lst h,.lst b,.lst d]=some (.bl (fC s k.length h.length b.length d.length)):=by
 unfold fC;simp only[Yb,Y9];by_cases h1:1<=s
 ·by_cases h2:s<=30
  ·by_cases h3:(1:Int)<=k.length
   ·by_cases h4:(k.length:Int)<=4
    ·by_cases h5:(h.length:Int)<=20
     ·by_cases h6:(b.length:Int)<=12 <;> simp[h1,h2,h3,h4,h5,h6]
     ·simp[h1,h2,h3,h4,h5]
    ·simp[h1,h2,h3,h4]
   ·simp[h1,h2,h3]
  ·simp[h1,h2]
 ·simp[h1]
theorem yG{α:Type}(f:α->Bool):∀l:List α,vt (l.map fun x=>D.bl (f x))=some (l.map f)
 | []=>rfl
 | x::l=>by simp[yG f l]
theorem Kr{α:Type}(f:α->Bool)(l m:List α):vt (l.map (fun x=>D.bl (f x))++m.map fun x=>D.bl (f x))=some (l.map f++m.map f):=by rw[<-List.map_append,yG,List.map_append]
theorem vM{α:Type}(f:α->Bool)(l:List α):((l.map f).all id)=l.all f:=by
 induction l with
 | nil=>rfl
 | cons t ts ih=>simp only[List.map_cons,List.all_cons,ih,id]
theorem UK(C:Addr)(s:Int)(k h b d:List T3)(hk:k.length<=100)(hh:h.length<=100)(hb:b.length<=100)(hd:d.length<=100):zk C [.int s,.lst (k.map t3),.lst (h.map t3),.lst (b.map t3),.lst (d.map t3)]=some (.bl (fR s k h b d)):=by
 have sz:∀n,n<=200->n<=sizeLine:=fun n hn=>wQa (jr (by omega));have c1:∀ρ:j7,yh (gN 0) J2 (je (yL C) [(true,dC 0)]) (k.map t3) (.un::ρ)=some (k.map fun t=>D.bl (fK t)):=fun ρ=>Jq t3 _ fun t _=>⟨_,rfl,rfl,by simp[UH]⟩
 have c2:∀ρ:j7,yh (gN 0) J2 (je (yM C) [(true,dC 0),(false,dV 1)]) (h.map t3) (.un::.cl (.int k.length)::ρ)=some (h.map fun t=>D.bl (fS k.length t)):=fun ρ=>Jq t3 _ fun t _=>⟨_,rfl,rfl,by simp[UI]⟩
 have c3:∀ρ:j7,yh (gN 0) J2 (je (yN C) [(true,dC 0),(false,dV 1),(false,dV 2)]) ((b++d).map t3) (.un::.cl (.int k.length)::.bo (.int s)::ρ)=some ((b++d).map fun t=>D.bl (fB k.length s t)):=fun ρ=>Jq t3 _ fun t _=>⟨_,rfl,rfl,by simp[UJ]⟩
 rw[List.map_append]at c3;unfold fR;have e3:b.length+d.length<=sizeLine:=sz _ (by omega);simp only[zk,zj];by_cases h1:k.all fK=true
 ·by_cases h2:h.all (fS k.length)=true
  ·simp[c1,c2,c3,yG,Kr,vM,List.all_append,sz _ (Nat.le_trans hk (by decide:100<=200)),sz _ (Nat.le_trans hh (by decide:100<=200)),e3,h1,h2]
  ·simp[c1,c2,yG,vM,sz _ (Nat.le_trans hk (by decide:100<=200)),sz _ (Nat.le_trans hh (by decide:100<=200)),h1,h2]
 ·simp[c1,yG,vM,sz _ (Nat.le_trans hk (by decide:100<=200)),h1]
structure OkB (b:Bk):Prop where
 s1:1<=b.size
 s2:b.size<=30
 k1:1<=b.kinds.length
 k2:b.kinds.length<=4
 h2:b.shuns.length<=20
 b2:b.bars.length<=12
 d2:b.dues.length<=3
 ks:∀t∈b.kinds,fK t=true
 hs:∀t∈b.shuns,fS b.kinds.length t=true
 bs:∀t∈b.bars,fB b.kinds.length b.size t=true
 ds:∀t∈b.dues,fB b.kinds.length b.size t=true
theorem VP{b:Bk}:UD b=true↔OkB b:=by
 unfold UD fC fR;simp only[Bool.and_eq_true,decide_eq_true_eq,List.all_eq_true,List.mem_append];constructor
 ·rintro⟨⟨a1,a2,a3,a4,a5,a6,a7⟩,b1,b2,b3⟩;exact⟨a1,a2,by omega,by omega,by omega,by omega,by omega,b1,b2,fun t h=>b3 t (.inl h),fun t h=>b3 t (.inr h)⟩
 ·intro h;exact⟨⟨h.s1,h.s2,by have:=h.k1;omega,by have:=h.k2;omega,by have:=h.h2;omega,by have:=h.b2;omega,by have:=h.d2;omega⟩,h.ks,h.hs,fun t ht=>ht.elim (h.bs t) (h.ds t)⟩
theorem Qu(C p:Addr)(b:Bk)(h:OkB b):Ji C p [.int b.size,.lst (b.kinds.map t3),.lst (b.shuns.map t3),.lst (b.bars.map t3),.lst (b.dues.map t3)]=some (ZA C b):=by
 have hb:=VP.mpr h;unfold UD at hb;rw[Bool.and_eq_true]at hb;have e1:=VO C b.size (b.kinds.map t3) (b.shuns.map t3) (b.bars.map t3) (b.dues.map t3);simp only[List.length_map]at e1;rw[hb.1]at e1;have e2:=UK C b.size b.kinds b.shuns b.bars b.dues (by have:=h.k2;omega) (by have:=h.h2;omega) (by have:=h.b2;omega) (by have:=h.d2;omega);rw[hb.2]at e2;have n1:("size" : Str)≠ "kind_rows" := by decide
 have n2:("size" : Str)≠ "shun_rows" := by decide
 have n3:("size" : Str)≠ "bar_rows" := by decide
 have n4:("size" : Str)≠ "due_rows" := by decide
 have n5:("kind_rows" : Str)≠ "shun_rows" := by decide
 have n6:("kind_rows" : Str)≠ "bar_rows" := by decide
 have n7:("kind_rows" : Str)≠ "due_rows" := by decide
 have n8:("shun_rows" : Str)≠ "bar_rows" := by decide
 have n9:("shun_rows" : Str)≠ "due_rows" := by decide
 have n0:("bar_rows" : Str)≠ "due_rows" := by decide
 simp only[Ji,Jt,ZA];simp[e1,e2,n1,n2,n3,n4,n5,n6,n7,n8,n9,n0]
theorem ZS(C p:Addr)(ds:List D)(o:OD)(h:jK C ds=some o):Ji C p ds=some o:=by
 obtain⟨b,ok,rfl,rfl⟩:=A4 h;exact Qu C p b (VP.mp ok)
theorem Gc(C:Addr)(b:Bk)(h:OkB b):jK C [.int b.size,.lst (b.kinds.map t3),.lst (b.shuns.map t3),.lst (b.bars.map t3),.lst (b.dues.map t3)]=some (ZA C b):=by
 unfold jK VN;simp[gI,gL,UE,VP.mpr h]
theorem Qw(C:Addr)(b:Bk)(h:OkB b):yO C [yt b]=some (ZA C b):=by
 have e:=Gc C b h;simp only[yO,zl];simp[e]
theorem W3(C:Addr)(b:Bk):(ZA C b).toD=jV C b:=rfl
@[simp] theorem Cs(C:Addr)(b:Bk):Jk C "size" (jV C b)=some (.int b.size):=by unfold Jk jV;simp[List.lookup]
@[simp] theorem BL(C:Addr)(b:Bk):Jk C "kind_rows" (jV C b)=some (.tup (b.kinds.map t3)):=by
 have n1:(("kind_rows" : Str) == "size")=false:=by decide
 unfold Jk jV;simp[List.lookup,n1]
@[simp] theorem BM(C:Addr)(b:Bk):Jk C "shun_rows" (jV C b)=some (.tup (b.shuns.map t3)):=by
 have n1:(("shun_rows" : Str) == "size")=false:=by decide
 have n2:(("shun_rows" : Str) == "kind_rows")=false:=by decide
 unfold Jk jV;simp[List.lookup,n1,n2]
@[simp] theorem Ct(C:Addr)(b:Bk):Jk C "bar_rows" (jV C b)=some (.tup (b.bars.map t3)):=by
 have n1:(("bar_rows" : Str) == "size")=false:=by decide
 have n2:(("bar_rows" : Str) == "kind_rows")=false:=by decide
 have n3:(("bar_rows" : Str) == "shun_rows")=false:=by decide
 unfold Jk jV;simp[List.lookup,n1,n2,n3]
@[simp] theorem Cu(C:Addr)(b:Bk):Jk C "due_rows" (jV C b)=some (.tup (b.dues.map t3)):=by
 have n1:(("due_rows" : Str) == "size")=false:=by decide
 have n2:(("due_rows" : Str) == "kind_rows")=false:=by decide
 have n3:(("due_rows" : Str) == "shun_rows")=false:=by decide
 have n4:(("due_rows" : Str) == "bar_rows")=false:=by decide
 unfold Jk jV;simp[List.lookup,n1,n2,n3,n4]
def d6(b:Bk)(row:List Int):Prop:=(∀n∈row,0<=n/\n < (b.kinds.length:Int))/\(row.length:Int)<=b.size
theorem J0{a b:Int}(h:0 < b):0<=a % b/\a % b < b:=⟨Int.emod_nonneg _ (by omega),Int.emod_lt_of_pos _ h⟩
theorem UL{α β:Type}(f:α->β)(xs:List α)(lo hi:Option Int):Jd (xs.map f) lo hi=(Jd xs lo hi).map f:=by
 unfold Jd;rw[List.length_map,List.map_take,List.map_drop]
theorem UM{α:Type}(xs:List α)(lo hi:Option Int):(Jd xs lo hi).length<=xs.length:=by
 unfold Jd;rw[List.length_take,List.length_drop];omega
theorem UN{α:Type}(xs:List α)(n:Nat):Jd xs (some (n:Int)) none=xs.drop n:=by
 unfold Jd;have e:HT.sIx xs.length xs.length none=xs.length:=rfl;rw[HT.sIx_nat,e];by_cases h:n<=xs.length
 ·rw[Nat.min_eq_left h,List.take_of_length_le (by rw[List.length_drop];omega)]
 ·rw[Nat.min_eq_right (by omega),List.drop_of_length_le (by omega),List.drop_of_length_le (by omega)];simp
theorem A7{α:Type}(xs:List α)(n:Nat):Jd xs none (some (n:Int))=xs.take n:=by
 unfold Jd;have e:HT.sIx xs.length 0 none=0:=rfl;rw[HT.sIx_nat,e,List.drop_zero,Nat.sub_zero];by_cases h:n<=xs.length
 ·rw[Nat.min_eq_left h]
 ·rw[Nat.min_eq_right (by omega),List.take_of_length_le (by omega),List.take_of_length_le (by omega)]
theorem zZ{i j:Int}(h1:-(2 ^ 64) < i)(h2:i < 2 ^ 64):VB i j=true:=by
 have e:(2:Int) ^ 64=18446744073709551616:=by decide
 rw[e]at h1 h2;unfold VB;rw[Bool.or_eq_true,Nat.blt_eq];exact .inl (by omega)
theorem kh(C:Addr)(ns:List Int)(m:Int)(h63:ns.length<=63)(m0:0<=m)(m1:m<=1000):∃ms:List Int,yE C [.scr ns,.int m]=some (.lst (ms.map .int))/\(ms.length:Int)=m:=by
 have inner:∀(v x seed:Int) (ms:List Int) (x6:Sl) (c:Nat),ms.length<=c->c<=5000->∃(ms':List Int) (v':Int) (x6':Sl),jR J_ (J7 C) (JA 0 60) [.bo (.scr ns),.bo (.int m),.ow none (.lst (ms.map .int)),.cl (.int seed),.cl (.int x),.cl (.int v),x6]=some (.nx [.bo (.scr ns),.bo (.int m),.ow none (.lst (ms'.map .int)),.cl (.int seed),.cl (.int x),.cl (.int v'),x6'])/\ms'.length<=c+60:=by
  intro v x seed ms x6 c hc hc2;have L:=YH (g:=J_) (s:=J7 C) (items:=JA 0 60) (fun i ρ=>∃(ms':List Int) (v':Int) (x6':Sl),ρ=[.bo (.scr ns),.bo (.int m),.ow none (.lst (ms'.map .int)),.cl (.int seed),.cl (.int x),.cl (.int v'),x6']/\ms'.length<=c+i) ?_ ⟨ms,v,x6,rfl,hc⟩
  ·obtain⟨ρ',L1,ms',v',x6',rfl,hl⟩:=L;exact⟨ms',v',x6',L1,hl⟩
  ·rintro i d ρ hi ⟨ms',v',x6',rfl,hl⟩;have hi60:i < 60:=by have:=(List.getElem?_eq_some_iff.mp hi).1;simpa[JA]using this
   have hz:ms'.length < sizeLine:=jr (by omega);by_cases h0:0 < v'
   ·refine⟨_,[.bo (.scr ns),.bo (.int m),.ow none (.lst ((ms'++[v' % 1009]).map .int)),.cl (.int seed),.cl (.int x),.cl (.int (v' / 1009)),.cl d],rfl,?_,ms'++[v' % 1009],v' / 1009,.cl d,rfl,by simp;omega⟩;simp[J7,h0,hz]
   ·refine⟨_,[.bo (.scr ns),.bo (.int m),.ow none (.lst (ms'.map .int)),.cl (.int seed),.cl (.int x),.cl (.int v'),.cl d],rfl,?_,ms',v',.cl d,rfl,by omega⟩;simp[J7,h0]
 have L:=YH (g:=Jr) (s:=Js C) (items:=(Jd ns none (some 63)).map D.int) (fun i ρ=>∃(ms:List Int) (seed:Int) (x4 x5 x6:Sl),ρ=[.bo (.scr ns),.bo (.int m),.ow none (.lst (ms.map .int)),.cl (.int seed),x4,x5,x6]/\0<=seed/\seed < 2147483648/\ms.length<=i * 61) ?_ ⟨[],29,.un,.un,.un,rfl,by decide,by decide,by simp⟩
 ·obtain⟨ρ',L1,ms,seed,x4,x5,x6,rfl,s0,s1,hl⟩:=L;have hc:=UM ns none (some 63);rw[List.length_map]at hl;have hl:ms.length<=4000:=by omega
  obtain⟨ρ2,W1,⟨ms2,seed2,rfl,t0,t1,hl2⟩,W2⟩:=Ko (dt:=J8 C) (s:=y0 C) (fun ρ=>∃(ms:List Int) (seed:Int),ρ=[.bo (.scr ns),.bo (.int m),.ow none (.lst (ms.map .int)),.cl (.int seed),x4,x5,x6]/\0<=seed/\seed < 2147483648/\ms.length<=4000) (fun ρ=>match ρ with | [_,_,.ow _ (.lst l),_,_,_,_]=>6000 - l.length | _=>0) (fun ρ=>by
    rintro⟨ms,seed,rfl,s0,s1,hl⟩;by_cases h:(ms.length:Int) < m
    ·right;refine⟨by simp[J8,h],?_⟩;have b1:=J0 (a:=seed * seed+69621 * seed+7 * (ms.length:Int)+5) (b:=2147483629) (by decide);have hz:ms.length < sizeLine:=jr (by omega);refine⟨[.bo (.scr ns),.bo (.int m),.ow none (.lst ((ms++[(seed * seed+69621 * seed+7 * (ms.length:Int)+5) % 2147483629 / 1013 % 9973]).map .int)),.cl (.int ((seed * seed+69621 * seed+7 * (ms.length:Int)+5) % 2147483629)),x4,x5,x6],?_,⟨_,_,rfl,b1.1,by omega,by simp;omega⟩,by simp;omega⟩;simp[y0,zZ (i:=seed) (j:=seed) (by omega) (by omega),zZ (i:=69621) (j:=seed) (by decide) (by decide),zZ (i:=7) (j:=(ms.length:Int)) (by decide) (by decide),hz]
    ·left;simp[J8,h]) (n:=20000) ⟨ms,seed,rfl,s0,s1,hl⟩ (by simp;omega)
  have hm:m<=(ms2.length:Int):=by
   simp[J8]at W2;omega
  refine⟨ms2.take m.toNat,?_,by rw[List.length_take];omega⟩;simp only[yE,yD];have em:m=((m.toNat:Nat):Int):=by omega
  have ec:Jd (ms2.map D.int) none (some m)=(ms2.take m.toNat).map D.int:=by
   have z:=A7 ms2 m.toNat
   rw[<-em]at z;rw[UL,z]
  rw[List.map_nil]at L1;have s60:Jw 60=true:=by decide
  simp[UL,L1,W1]at ec⊢;simp[ec]
 ·rintro i d ρ hi ⟨ms,seed,x4,x5,x6,rfl,s0,s1,hl⟩;have hlt:i < 63:=by
   have h1:=(List.getElem?_eq_some_iff.mp hi).1;have h2:=UM ns none (some 63);rw[List.length_map]at h1;omega
  obtain⟨x,rfl⟩:∃x,d=D.int x:=by
   rw[List.getElem?_map]at hi;cases q:(Jd ns none (some 63))[i]? with
   | none=>rw[q]at hi;cases hi
   | some z=>rw[q]at hi;exact⟨z,(vFa hi).symm⟩
  have b1:=J0 (a:=seed * 48271+x % 1000003+11) (b:=2147483647) (by decide);have s60:Jw 60=true:=by decide
  have hz:ms.length < sizeLine:=jr (by omega);by_cases h0:x - 10 ^ 18 < 0
  ·obtain⟨ms',v',x6',e,hl'⟩:=inner (x - 10 ^ 18) x ((seed * 48271+x % 1000003+11) % 2147483647) (ms++[x % 9973]) x6 (i * 61+1) (by simp;omega) (by omega);refine⟨_,[.bo (.scr ns),.bo (.int m),.ow none (.lst (ms'.map .int)),.cl (.int ((seed * 48271+x % 1000003+11) % 2147483647)),.cl (.int x),.cl (.int v'),x6'],rfl,?_,ms',_,_,_,_,rfl,b1.1,by omega,by omega⟩;rw[List.map_append]at e;simp only[Js,Jr];simp at e h0;simp[zZ (i:=seed) (j:=48271) (by omega) (by omega),h0,hz,e,s60]
  ·obtain⟨ms',v',x6',e,hl'⟩:=inner (x - 10 ^ 18) x ((seed * 48271+x % 1000003+11) % 2147483647) ms x6 (i * 61+1) (by omega) (by omega);refine⟨_,[.bo (.scr ns),.bo (.int m),.ow none (.lst (ms'.map .int)),.cl (.int ((seed * 48271+x % 1000003+11) % 2147483647)),.cl (.int x),.cl (.int v'),x6'],rfl,?_,ms',_,_,_,_,rfl,b1.1,by omega,by omega⟩;simp only[Js,Jr];simp at e h0;have h0':¬(x - 1000000000000000000 < 0):=by omega
   simp[zZ (i:=seed) (j:=48271) (by omega) (by omega),h0',hz,e,s60]
theorem Vm{ds:List Int}{k:Int}(h0:0<=k)(h1:k < (ds.length:Int)):∃v:Int,atI (ds.map D.int) k=some (.int v):=⟨_,Qt (d:=0) h0 h1⟩
theorem vN{α:Type}{p:α->Prop}{ts:List α}{t:α}(h:∀x∈ts,p x)(ht:p t):∀x∈ts++[t],p x:=fun x hx=>by
 rcases List.mem_append.mp hx with z | z
 ·exact h x z
 ·have e:x=t:=by simpa using z
  rw[e];exact ht
theorem VQ{lo:Int}{n i:Nat}{d:D}(h:(JA lo n)[i]?=some d):i < n/\d=.int (lo+i):=by
 unfold JA at h;rw[List.getElem?_map]at h;cases q:(List.range n)[i]? with
 | none=>rw[q]at h;cases h
 | some j=>
  rw[q]at h;obtain⟨h1,h2⟩:=List.getElem?_eq_some_iff.mp q;rw[List.getElem_range]at h2;rw[List.length_range]at h1;exact⟨h1,by rw[<-Option.some.inj h,h2]⟩
theorem Vn(C:Addr)(m s n:Int)(ds:List Int)(m1:1<=m)(s1:1<=s)(s2:s<=1000)(n0:0<=n)(n1:n<=20)(hn:3 * n<=(ds.length:Int)):∃ts:List T3,JK C [.int m,.int s,.int n,.lst (ds.map .int)]=some (.lst (ts.map t3))/\(ts.length:Int)=n/\∀t∈ts,fB m s t=true:=by
 have L:=YH (g:=YI) (s:=y7 C) (items:=JA 0 n.toNat) (fun i ρ=>∃(ts:List T3) (x y:Sl),ρ=[.bo (.int m),.bo (.int s),.bo (.int n),.bo (.lst (ds.map .int)),.ow none (.lst (ts.map t3)),x,y]/\ts.length=i/\∀t∈ts,fB m s t=true) ?_ ⟨[],.un,.un,rfl,rfl,fun _ h=>by cases h⟩
 ·obtain⟨ρ',L1,ts,x,y,rfl,hl,ht⟩:=L;have hr:(JA 0 n.toNat).length=n.toNat:=by simp[JA]
  rw[hr]at hl;refine⟨ts,?_,by omega,ht⟩;simp only[JK,yF];rw[List.map_nil]at L1;have e1:Jw n=true:=zO (by omega) (by omega);simp[e1,L1]
 ·rintro i d ρ hi ⟨ts,x,y,rfl,hl,ht⟩;obtain⟨hi1,rfl⟩:=VQ hi;have c3:VB 3 (0+(i:Int))=true:=zZ (by decide) (by decide);obtain⟨v1,a1⟩:=Vm (ds:=ds) (k:=3 * (0+(i:Int))+1) (by omega) (by omega);obtain⟨v0,a0⟩:=Vm (ds:=ds) (k:=3 * (0+(i:Int))) (by omega) (by omega);obtain⟨v2,a2⟩:=Vm (ds:=ds) (k:=3 * (0+(i:Int))+2) (by omega) (by omega);have f1:=J0 (a:=v1) (b:=s) (by omega);have f3:=J0 (a:=v2) (b:=s - (1+v1 % s)+1) (by omega);have f0:=J0 (a:=v0) (b:=m) (by omega);have hz:ts.length < sizeLine:=jr (by omega);have q1:0 < s:=by omega
  have q2:0 < m:=by omega
  have q3:0 < s - (1+v1 % s)+1:=by omega
  refine⟨_,[.bo (.int m),.bo (.int s),.bo (.int n),.bo (.lst (ds.map .int)),.ow none (.lst ((ts++[(v0 % m,1+v1 % s,1+v1 % s+v2 % (s - (1+v1 % s)+1))]).map t3)),.cl (.int (0+(i:Int))),.cl (.int (1+v1 % s))],rfl,?_,_,_,_,rfl,by simp[hl],vN ht ?_⟩
  ·simp only[y7];simp at a0 a1 a2 c3;simp[c3,a0,a1,a2,q1,q2,q3,hz,t3]
  ·unfold fB;simp only[Bool.and_eq_true,decide_eq_true_eq];omega
mutual
noncomputable def Z9:D->Prop
 | .tup l=>l.length<=sizeLine/\zq l
 | .lst l=>l.length<=sizeLine/\zq l
 | .ins _ _ _=>False
 | .scr _=>False
 | .dct _ _=>False
 | _=>True
noncomputable def zq:List D->Prop
 | []=>True
 | d::ds=>Z9 d/\zq ds
end
theorem vO:∀{l:List D} {d:D},zq l->d∈l->Z9 d
 | e::l,d,h,hd=>by
  rw[zq]at h;rcases List.mem_cons.mp hd with rfl | hd
  ·exact h.1
  ·exact vO h.2 hd
theorem UO(l:List D):List.zipWith (fun p q=>D.tup [p,q]) l l=l.map fun x=>D.tup [x,x]:=by
 induction l with
 | nil=>rfl
 | cons x l ih=>rw[List.zipWith_cons_cons,List.map_cons,ih]
theorem YG{α:Type}(l:List α):vt (l.map fun _=>D.bl true)=some (l.map fun _=>true):=yG (fun _=>true) l
theorem Gd(C:Addr)(d:D):∀n:Nat,Z9 d->dep d < n->jH C n [d,d]=some (.bl true):=by
 induction d using D.ind with
 | h d i1 i2=>
  intro n hp hn;cases n with
  | zero=>omega
  | succ n=>
   have seq:∀l:List D,(∀x∈l,jH C n [x,x]=some (.bl true))->yh (gT 2 (gC (gN 0) (gC (gN 1) gZ))) J2 (je (jH C n) [(false,dV 0),(false,dV 1)]) (l.map fun x=>D.tup [x,x]) [.un,.un]=some (l.map fun _=>D.bl true):=fun l h=>Jq (fun x=>D.tup [x,x]) _ fun x hx=>⟨_,rfl,rfl,by simp[h x hx]⟩
   have al:∀l:List D,((l.map fun _=>true).all id)=true:=fun l=>by simp
   simp only[jH,yP];cases d with
   | non=>simp
   | bl b=>simp[vY,zL]
   | int i=>simp[vY,zL]
   | str s=>simp[vY,zL]
   | tup l=>
    rw[Z9]at hp;rw[dep]at hn;have q:=seq l fun x hx=>i1 l rfl x hx n (vO hp.2 hx) (by have:=vB hx;omega);simp[vY,zL,UO,q,hp.1,YG]
   | lst l=>
    rw[Z9]at hp;rw[dep]at hn;have q:=seq l fun x hx=>i2 l rfl x hx n (vO hp.2 hx) (by have:=vB hx;omega);simp[vY,zL,UO,q,hp.1,YG]
   | ins C' ns ds=>exact vDa hp (by rw[Z9];exact id)
   | scr ns=>exact vDa hp (by rw[Z9];exact id)
   | dct ks vs=>exact vDa hp (by rw[Z9];exact id)
end M
noncomputable section
namespace M
open PySem L2 DS
noncomputable def nt(i:Int):Str:=toString i
noncomputable def kT:Option D->Bool
 | some (.bl true)=>true
 | _=>false
theorem A8{o:Option D}(h:kT o=true):o=some (.bl true):=by
 unfold kT at h;split at h
 ·rfl
 ·cases h
noncomputable def W4(i:Nat):Option Int->Bool
 | some (.ofNat j)=>Nat.beq i j
 | _=>false
def ki(C:Addr)(n:Nat):Bool:=kT (JP C [.str (nt n)])&&(W4 n (PySem.intText? (nt n))&&(Nat.ble (nt n).cps.toList.length 2&&(nt n).cps.toList.all fun c=>Nat.ble 48 c))
theorem Qx(C:Addr):(List.range 31).all (ki C)=true:=by kernel_rfl
end M
noncomputable section
namespace M
open PySem L2 DS
def JI(i:Int):Prop:=0<=i/\i<=30
theorem Ks(C:Addr){i:Int}(h:JI i):ki C i.toNat=true/\((i.toNat:Nat):Int)=i:=by
 refine⟨List.all_eq_true.mp (Qx C) _ (List.mem_range.mpr ?_),?_⟩ <;> (have:=h.1;have:=h.2;omega)
theorem Qy{n:Nat}{o:Option Int}(h:W4 n o=true):o=some (n:Int):=by
 unfold W4 at h;split at h
 ·rw[Nat.eq_of_beq_eq_true h];rfl
 ·cases h
theorem Kt(C:Addr){i:Int}(h:JI i):JP C [.str (nt i)]=some (.bl true):=by
 obtain⟨h1,h2⟩:=Ks C h;unfold ki at h1;rw[h2]at h1;exact A8 (Bool.and_eq_true_iff.mp h1).1
theorem jN{i:Int}(h:JI i):PySem.intText? (nt i)=some i/\(nt i).length<=2/\∀c∈(nt i).cps.toList,48<=c:=by
 obtain⟨h1,h2⟩:=Ks 0 h;unfold ki at h1;rw[h2]at h1;obtain⟨_,h1⟩:=Bool.and_eq_true_iff.mp h1;obtain⟨a,h1⟩:=Bool.and_eq_true_iff.mp h1;obtain⟨b,c⟩:=Bool.and_eq_true_iff.mp h1;refine⟨by rw[Qy a,h2],?_,fun x hx=>Nat.le_of_ble_eq_true (List.all_eq_true.mp c x hx)⟩;have:=Nat.le_of_ble_eq_true b;simpa[Str.length]using this
theorem VR{i:Int}(h:JI i):i.natAbs.log2 < 1920:=by
 have h1:i.natAbs < 2 ^ 5:=by have:=h.1;have:=h.2;omega
 have:i.natAbs.log2<=5:=by
  by_cases h0:i.natAbs=0
  ·rw[h0];decide
  ·exact wQa ((Nat.log2_lt h0).mpr h1)
 omega
theorem Ge{i:Int}(h:JI i):Y_ [.str (nt i)]=some (.int i):=by
 obtain⟨a,b,_⟩:=jN h;show(if (nt i).length<=640 then(PySem.intText? (nt i)).bind fun n=>some (D.int n)else none)=_;rw[if_pos (by omega),a];rfl
theorem zD{i:Int}(h:JI i):zd [.int i]=some (.str (nt i)):=by
 show(if i.natAbs.log2 < 1920 then some (D.str (nt i))else none)=_;rw[if_pos (VR h)]
theorem ZR:(" " : Str)=⟨#[32]⟩:=by kernel_rfl
theorem kj:("\n" : Str)=⟨#[10]⟩:=by kernel_rfl
def JQ(t:T3):Prop:=JI t.1/\JI t.2.1/\JI t.2.2
noncomputable def ju(w:Str)(t:T3):Str:=Txt.join " " [w,nt t.1,nt t.2.1,nt t.2.2]
theorem Gf{sep:Str}{ys:List Str}{m:Nat}(hs:sep.length=1)(h:∀y∈ys,y.length<=m)(hm:m<=1000)(hl:ys.length<=1000):JoinOk sep ys=true:=by
 refine PyProof.Rows.joinOk_of ?_;have:(ys.map (·.length)).sum<=ys.length * m:=by
  clear hl;induction ys with
  | nil=>simp
  | cons y r ih=>
   have h1:=h y (by simp);have h2:=ih fun z hz=>h z (by simp[hz]);simp only[List.map_cons,List.sum_cons,List.length_cons,Nat.succ_mul];omega
 have h3:ys.length * m<=1000 * 1000:=Nat.mul_le_mul hl hm;rw[hs];omega
theorem zE{w:Str}{t:T3}(hw:w.length<=4)(h:JQ t):(ju w t).length<=13:=by
 obtain⟨_,a,_⟩:=jN h.1;obtain⟨_,b,_⟩:=jN h.2.1;obtain⟨_,c,_⟩:=jN h.2.2;unfold ju;show(Builtin.Str.glued _ _).length<=_;rw[StrLaws.glued_eq_join,PyProof.Rows.len_join_cons,ZR];simp[Str.length]at *;omega
theorem gd(C:Addr)(w:Str)(t:T3)(hw:w.length<=4)(h:JQ t):Yn C [.str w,t3 t]=some (.str (ju w t)):=by
 obtain⟨_,a,_⟩:=jN h.1;obtain⟨_,b,_⟩:=jN h.2.1;obtain⟨_,c,_⟩:=jN h.2.2;have e1:=zD h.1;have e2:=zD h.2.1;have e3:=zD h.2.2;have j:JoinOk " " [w,nt t.1,nt t.2.1,nt t.2.2]=true:=Gf (m:=4) (by rw[ZR];rfl) (by simp;omega) (by omega) (by simp);have cm:=Jq (g:=gN 0) (dc:=J2) (de:=je zd [(false,dV 0)]) (ρ:=[.un]) D.int (fun i=>.str (nt i)) (xs:=[t.1,t.2.1,t.2.2]) (by
  intro x hx;have hn:JI x:=by simp at hx;rcases hx with rfl | rfl | rfl <;> simp_all [JQ]
  exact⟨_,rfl,rfl,zD hn⟩)
 simp only[Yn,zY];simp[t3,ju,zT,j]at cm⊢;have s3:3<=sizeLine:=by decide
 have s4:1+3<=sizeLine:=by decide
 simp[cm,s3,s4,zT,j]
noncomputable def jU(n:Int):Str := "size " ++ nt n
def jv(b:Bk):List Str:=jU b.size::(b.kinds.map (ju "kind")++(b.shuns.map (ju "shun")++(b.bars.map (ju "bar")++b.dues.map (ju "due"))))
def jD(b:Bk):Str:=Txt.join "\n" (jv b)
theorem A9(C:Addr)(w:Str)(ts:List T3)(hw:w.length<=4)(hl:ts.length<=100)(h:∀t∈ts,JQ t)(x0 x2:Sl)(rs:List Str)(hr:rs.length<=1000):
  JM C [x0,.ow none (.lst (rs.map D.str)),x2,.cl (.str w),.cl (.lst (ts.map t3))]=some (.nx [x0,.ow none (.lst ((rs++ts.map (ju w)).map D.str)),x2,.cl (.str w),.cl (.lst (ts.map t3))]):=by
 have cm:=Jq (g:=gN 0) (dc:=J2) (de:=je (Yn C) [(true,dC 1),(false,dV 0)]) (ρ:=[.un,.cl (.str w)]) t3 (fun t=>.str (ju w t)) (xs:=ts) (by
  intro t ht;refine⟨_,rfl,rfl,?_⟩;have:=gd C w t hw (h t ht);simp[this])
 have s1:ts.length<=sizeLine:=wQa (jr (by omega));have s2:rs.length+ts.length<=sizeLine:=wQa (jr (by omega));simp only[JM,Ur];simp[cm,s1,s2]
end M
noncomputable section
namespace M
open PySem L2 DS
theorem OkB.tk{b:Bk}(h:OkB b):∀t∈b.kinds,JQ t:=fun t ht=>by
 have:=h.ks t ht;unfold fK at this;simp only[Bool.and_eq_true,decide_eq_true_eq]at this;unfold JQ JI;omega
theorem OkB.th{b:Bk}(h:OkB b):∀t∈b.shuns,JQ t:=fun t ht=>by
 have:=h.hs t ht;have:=h.k2;unfold fS at *;simp only[Bool.and_eq_true,decide_eq_true_eq]at *;unfold JQ JI;omega
theorem OkB.tb{b:Bk}(h:OkB b):∀t∈b.bars,JQ t:=fun t ht=>by
 have:=h.bs t ht;have:=h.k2;have:=h.s2;unfold fB at *;simp only[Bool.and_eq_true,decide_eq_true_eq]at *;unfold JQ JI;omega
theorem OkB.td{b:Bk}(h:OkB b):∀t∈b.dues,JQ t:=fun t ht=>by
 have:=h.ds t ht;have:=h.k2;have:=h.s2;unfold fB at *;simp only[Bool.and_eq_true,decide_eq_true_eq]at *;unfold JQ JI;omega
theorem OkB.sz{b:Bk}(h:OkB b):JI b.size:=⟨by have:=h.s1;omega,h.s2⟩
theorem yB{C:Addr}{b:Bk}{m:Str}{F:List D->Option OD}{l:List T3}(hm:m∉(["size", "kind_rows", "shun_rows", "bar_rows", "due_rows"]:List Str))(h:F [jV C b]=some (.lst (l.map t3))):jZ C m F (jV C b)=some (.lst (l.map t3)):=by
 unfold jZ jV at *;simp only[hm,not_false_eq_true,and_self,if_true];exact h
@[simp] theorem Bb(C:Addr)(b:Bk):jZ C "kinds" (JT C) (jV C b)=some (.lst (b.kinds.map t3)):=yB (by decide) (by simp only[JT,Y7];simp)
@[simp] theorem Bc(C:Addr)(b:Bk):jZ C "shuns" (JU C) (jV C b)=some (.lst (b.shuns.map t3)):=yB (by decide) (by simp only[JU,Y8];simp)
@[simp] theorem BN(C:Addr)(b:Bk):jZ C "bars" (yj C) (jV C b)=some (.lst (b.bars.map t3)):=yB (by decide) (by simp only[yj,YJ];simp)
@[simp] theorem BO(C:Addr)(b:Bk):jZ C "dues" (yk C) (jV C b)=some (.lst (b.dues.map t3)):=yB (by decide) (by simp only[yk,YK];simp)
theorem ZB{n:Int}(h:JI n):(jU n).length<=7:=by
 have e:("size " : Str).length=5:=by kernel_rfl
 unfold jU;rw[Str.length_append,e];have:=(jN h).2.1;omega
theorem Vo{b:Bk}(h:OkB b):∀r∈jv b,r.length<=13:=by
 have w0:("kind" : Str).length<=4:=by decide
 have w1:("shun" : Str).length<=4:=by decide
 have w2:("bar" : Str).length<=4:=by decide
 have w3:("due" : Str).length<=4:=by decide
 intro r hr;unfold jv at hr;simp only[List.mem_cons,List.mem_append,List.mem_map]at hr;rcases hr with rfl | ⟨t,ht,rfl⟩ | ⟨t,ht,rfl⟩ | ⟨t,ht,rfl⟩ | ⟨t,ht,rfl⟩
 ·have:=ZB h.sz;omega
 ·exact zE w0 (h.tk t ht)
 ·exact zE w1 (h.th t ht)
 ·exact zE w2 (h.tb t ht)
 ·exact zE w3 (h.td t ht)
theorem uf{b:Bk}(h:OkB b):(jv b).length<=40:=by
 have:=h.k2;have:=h.h2;have:=h.b2;have:=h.d2;unfold jv;simp;omega
theorem ug{b:Bk}(h:OkB b):JoinOk "\n" (jv b)=true:=Gf (m:=13) (by rw[kj];rfl) (Vo h) (by omega) (by have:=uf h;omega)
theorem vP:∀l:List Str,zT (l.map D.str)=some l
 | []=>rfl
 | x::l=>by rw[List.map_cons,zT,vP l];rfl
theorem W5{n:Int}(h:JI n)(d:DE)(ρ:j7)(e:d ρ=some (.int n)):zS [dK (.str "size "),Yj d] ρ=some (.str (jU n)):=by
 have l1:=VR h;have l2:=ZB h;have e0:Str.empty++("size " : Str) = "size " := by kernel_rfl
 have l0:("size " : Str).length<=sizeLine:=by decide
 have l3:(jU n).length<=sizeLine:=wQa (jr (by omega));have l4:("size " ++ Str.ofString n.repr).length<=sizeLine:=l3;simp[zS,gQ,e,l1,e0,l0,l4];rfl
def ZC(ps:List (Str×List T3)):List Str:=ps.flatMap fun p=>p.2.map (ju p.1)
def W6(p:Str×List T3):Prop:=p.1.length<=4/\p.2.length<=20/\∀t∈p.2,JQ t
noncomputable def uh(p:Str×List T3):D:=.tup [.str p.1,.lst (p.2.map t3)]
theorem UP(C:Addr)(x0 x2:Sl):∀(ps:List (Str×List T3)) (rs:List Str) (x3 x4:Sl),(∀p∈ps,W6 p)->rs.length+20 * ps.length<=1000->
  ∃y3 y4,jR JL (JM C) (ps.map uh) [x0,.ow none (.lst (rs.map D.str)),x2,x3,x4]=some (.nx [x0,.ow none (.lst ((rs++ZC ps).map D.str)),x2,y3,y4])
 | [],rs,x3,x4,_,_=>⟨x3,x4,by simp[jR,ZC]⟩
 | p::ps,rs,x3,x4,hg,hl=>by
  obtain⟨g1,g2,g3⟩:=hg p (by simp);simp only[List.length_cons]at hl;have e:=A9 C p.1 p.2 g1 (by omega) g3 x0 x2 rs (by omega);obtain⟨y3,y4,ih⟩:=UP C x0 x2 ps (rs++p.2.map (ju p.1)) (.cl (.str p.1)) (.cl (.lst (p.2.map t3))) (fun q hq=>hg q (by simp[hq])) (by simp;omega);refine⟨y3,y4,?_⟩;have t1:JL (uh p) [x0,.ow none (.lst (rs.map D.str)),x2,x3,x4]=some [x0,.ow none (.lst (rs.map D.str)),x2,.cl (.str p.1),.cl (.lst (p.2.map t3))]:=by
   simp[JL,uh]
  rw[List.map_cons,jR,t1,Option.bind_some,e,Option.bind_some];refine Eq.trans ih ?_;simp[ZC]
noncomputable def zr(b:Bk):List (Str×List T3):=[("kind",b.kinds),("shun",b.shuns),("bar",b.bars),("due",b.dues)]
theorem Gg{b:Bk}(h:OkB b):∀p∈zr b,W6 p:=by
 have:=h.k2;have:=h.h2;have:=h.b2;have:=h.d2;intro p hp;simp[zr]at hp;rcases hp with rfl | rfl | rfl | rfl
 ·exact⟨show("kind" : Str).length<=4 by decide,by simp;omega,h.tk⟩
 ·exact⟨show("shun" : Str).length<=4 by decide,by simp;omega,h.th⟩
 ·exact⟨show("bar" : Str).length<=4 by decide,by simp;omega,h.tb⟩
 ·exact⟨show("due" : Str).length<=4 by decide,by simp;omega,h.td⟩
theorem Gh(b:Bk):[jU b.size]++ZC (zr b)=jv b:=by simp[ZC,zr,jv]
theorem ut(C:Addr)(b:Bk)(h:OkB b):JH C [jV C b]=some (.str (jD b)):=by
 have es:=W5 h.sz (d1 (Jk C "size") (dV 0)) [.bo (jV C b),.un,.un,.un,.un] (by simp);obtain⟨y3,y4,el⟩:=UP C (.bo (jV C b)) (.cl (.tup [.lst (b.kinds.map t3),.lst (b.shuns.map t3),.lst (b.bars.map t3),.lst (b.dues.map t3)])) (zr b) [jU b.size] .un .un (Gg h) (by simp[zr]);rw[Gh]at el;have j:=ug h;have sm:=vP (jv b);simp only[zr,List.map_cons,List.map_nil,uh]at el;simp only[JH,YL];simp[es,PT,el,sm,j,jD]
end M
noncomputable section
namespace M
open PySem L2 DS
theorem Gi(ρ:j7):∀(ds:List DE) (ys:List Str) (acc:Str),ds.map (· ρ)=ys.map (fun y=>some (D.str y))->acc.length+(ys.map (·.length)).sum<=sizeLine->gQ ds acc ρ=some [.str (ys.foldl (· ++ ·) acc)]
 | [],[],acc,_,_=>rfl
 | [],_::_,_,h,_=>by cases h
 | _::_,[],_,h,_=>by cases h
 | d::ds,y::ys,acc,h,hl=>by
  simp only[List.map_cons,List.cons.injEq]at h;simp only[List.map_cons,List.sum_cons]at hl;have e:=Gi ρ ds ys (acc++y) h.2 (by rw[Str.length_append];omega);have l:(acc++y).length<=sizeLine:=by rw[Str.length_append];omega
  rw[gQ,h.1];simp[l,e]
theorem UQ:∀(ys:List Str) (acc:Str),(ys.foldl (· ++ ·) acc).length=acc.length+(ys.map (·.length)).sum
 | [],_=>by simp
 | y::ys,acc=>by
  rw[List.foldl_cons,UQ ys,Str.length_append];simp;omega
theorem W7{ρ:j7}{ds:List DE}{ys:List Str}(h:ds.map (· ρ)=ys.map (fun y=>some (D.str y)))(hl:(ys.map (·.length)).sum<=sizeLine):zS ds ρ=some (.str (ys.foldl (· ++ ·) Str.empty)):=by
 have e0:Str.empty.length=0:=rfl;have l:(ys.foldl (· ++ ·) Str.empty).length<=sizeLine:=by rw[UQ,e0];omega
 unfold zS;rw[Gi ρ ds ys Str.empty h (by rw[e0];omega)];simp[l]
theorem UR{d:DE}{ρ:j7}{i:Int}(h:JI i)(e:d ρ=some (.int i)):Yj d ρ=some (.str (nt i)):=by
 have l:=VR h;unfold Yj;rw[e];simp only[Option.bind_some];rw[if_pos l];rfl
theorem Aa{d:DE}{ρ:j7}{w:Str}(h:w.length<=100)(e:d ρ=some (.str w)):Yj d ρ=some (.str w):=by
 have l:w.length<=sizeLine:=wQa (jr (by omega));unfold Yj;rw[e];simp only[Option.bind_some];rw[if_pos l]
theorem W8(w:Str)(t:T3):[w, " ",nt t.1, " ",nt t.2.1, " ",nt t.2.2].foldl (· ++ ·) Str.empty=ju w t:=by
 have e:Str.empty++w=w:=by
  show(⟨#[]++w.cps⟩:Str)=w;rw[Array.empty_append]
 simp only[List.foldl_cons,List.foldl_nil,e];rfl
theorem Qz{w:Str}{t:T3}(hw:w.length<=4)(h:JQ t)(x0 x1 x3:Sl):zS [Yj (dC 2),dK (.str " "),Yj (dC 4),dK (.str " "),Yj (dC 5),dK (.str " "),Yj (dC 6)] [x0,x1,.cl (.str w),x3,.cl (.int t.1),.cl (.int t.2.1),.cl (.int t.2.2)]=some (.str (ju w t)):=by
 obtain⟨_,a,_⟩:=jN h.1;obtain⟨_,b,_⟩:=jN h.2.1;obtain⟨_,c,_⟩:=jN h.2.2;have e1:(" " : Str).length=1:=by rw[ZR];rfl
 rw[<-W8];refine W7 ?_ ?_
 ·have f1:=Aa (d:=dC 2) (ρ:=[x0,x1,.cl (.str w),x3,.cl (.int t.1),.cl (.int t.2.1),.cl (.int t.2.2)]) (w:=w) (by omega) (by simp);have f2:=UR (d:=dC 4) (ρ:=[x0,x1,.cl (.str w),x3,.cl (.int t.1),.cl (.int t.2.1),.cl (.int t.2.2)]) h.1 (by simp);have f3:=UR (d:=dC 5) (ρ:=[x0,x1,.cl (.str w),x3,.cl (.int t.1),.cl (.int t.2.1),.cl (.int t.2.2)]) h.2.1 (by simp);have f4:=UR (d:=dC 6) (ρ:=[x0,x1,.cl (.str w),x3,.cl (.int t.1),.cl (.int t.2.1),.cl (.int t.2.2)]) h.2.2 (by simp);simp only[List.map_cons,List.map_nil,f1,f2,f3,f4];rfl
 ·have s:(100:Nat)<=sizeLine:=by decide
  simp only[List.map_cons,List.map_nil,List.sum_cons,List.sum_nil,e1];omega
theorem Gj(C:Addr)(x0 x3:Sl)(w:Str)(hw:w.length<=4):∀(ts:List T3) (rs:List Str) (x4 x5 x6:Sl),(∀t∈ts,JQ t)->rs.length+ts.length<=1000->
  ∃y4 y5 y6,jR JV (JW C) (ts.map t3) [x0,.ow none (.lst (rs.map D.str)),.cl (.str w),x3,x4,x5,x6]=some (.nx [x0,.ow none (.lst ((rs++ts.map (ju w)).map D.str)),.cl (.str w),x3,y4,y5,y6])
 | [],rs,x4,x5,x6,_,_=>⟨x4,x5,x6,by simp[jR]⟩
 | t::ts,rs,x4,x5,x6,ht,hl=>by
  simp only[List.length_cons]at hl;have e:=Qz hw (ht t (by simp)) x0 (.ow none (.lst (rs.map D.str))) x3;have hz:rs.length < sizeLine:=jr (by omega);have b1:JW C [x0,.ow none (.lst (rs.map D.str)),.cl (.str w),x3,.cl (.int t.1),.cl (.int t.2.1),.cl (.int t.2.2)]=some (.nx [x0,.ow none (.lst ((rs++[ju w t]).map D.str)),.cl (.str w),x3,.cl (.int t.1),.cl (.int t.2.1),.cl (.int t.2.2)]):=by
   simp only[JW];simp[e,hz]
  obtain⟨y4,y5,y6,ih⟩:=Gj C x0 x3 w hw ts (rs++[ju w t]) (.cl (.int t.1)) (.cl (.int t.2.1)) (.cl (.int t.2.2)) (fun q hq=>ht q (by simp[hq])) (by simp;omega);refine⟨y4,y5,y6,?_⟩;have t1:JV (t3 t) [x0,.ow none (.lst (rs.map D.str)),.cl (.str w),x3,x4,x5,x6]=some [x0,.ow none (.lst (rs.map D.str)),.cl (.str w),x3,.cl (.int t.1),.cl (.int t.2.1),.cl (.int t.2.2)]:=by
   simp[JV,t3]
  rw[List.map_cons,jR,t1,Option.bind_some,b1,Option.bind_some];refine Eq.trans ih ?_;simp
theorem US(C:Addr)(x0:Sl):∀(ps:List (Str×List T3)) (rs:List Str) (x2 x3 x4 x5 x6:Sl),(∀p∈ps,W6 p)->rs.length+20 * ps.length<=1000->
  ∃y2 y3 y4 y5 y6,jR JX (JY C) (ps.map uh) [x0,.ow none (.lst (rs.map D.str)),x2,x3,x4,x5,x6]=some (.nx [x0,.ow none (.lst ((rs++ZC ps).map D.str)),y2,y3,y4,y5,y6])
 | [],rs,x2,x3,x4,x5,x6,_,_=>⟨x2,x3,x4,x5,x6,by simp[jR,ZC]⟩
 | p::ps,rs,x2,x3,x4,x5,x6,hg,hl=>by
  obtain⟨g1,g2,g3⟩:=hg p (by simp);simp only[List.length_cons]at hl;obtain⟨z4,z5,z6,e⟩:=Gj C x0 (.cl (.lst (p.2.map t3))) p.1 g1 p.2 rs x4 x5 x6 g3 (by omega);have b1:JY C [x0,.ow none (.lst (rs.map D.str)),.cl (.str p.1),.cl (.lst (p.2.map t3)),x4,x5,x6]=some (.nx [x0,.ow none (.lst ((rs++p.2.map (ju p.1)).map D.str)),.cl (.str p.1),.cl (.lst (p.2.map t3)),z4,z5,z6]):=by
   simp only[JY,yi];refine Eq.trans ?_ e;simp
  obtain⟨y2,y3,y4,y5,y6,ih⟩:=US C x0 ps (rs++p.2.map (ju p.1)) (.cl (.str p.1)) (.cl (.lst (p.2.map t3))) z4 z5 z6 (fun q hq=>hg q (by simp[hq])) (by simp;omega);refine⟨y2,y3,y4,y5,y6,?_⟩;have t1:JX (uh p) [x0,.ow none (.lst (rs.map D.str)),x2,x3,x4,x5,x6]=some [x0,.ow none (.lst (rs.map D.str)),.cl (.str p.1),.cl (.lst (p.2.map t3)),x4,x5,x6]:=by
   simp[JX,uh]
  rw[List.map_cons,jR,t1,Option.bind_some,b1,Option.bind_some];refine Eq.trans ih ?_;simp[ZC]
theorem QA{de:DE}{ρ:j7}{d:D}(h:de ρ=some d):yz 1 (Jc [(true,de)]) ρ=some (.nx (ρ.set 1 (.ow none (.lst [d])))):=by
 simp[h]
theorem ge(C:Addr)(b:Bk)(h:OkB b):zm C [yt b]=some (.lst ((jv b).map D.str)):=by
 have es:=zD h.sz;have e5:("size " : Str).length=5:=by kernel_rfl
 have l0:("size " : Str).length+(nt b.size).length<=sizeLine:=by
  have:=(jN h.sz).2.1;exact wQa (jr (by omega))
 obtain⟨y2,y3,y4,y5,y6,el⟩:=US C (.bo (yt b)) (zr b) [jU b.size] .un .un .un .un .un (Gg h) (by simp[zr]);rw[Gh]at el;simp only[zr,List.map_cons,List.map_nil,uh]at el;have cu:Jd [D.int b.size,.lst (b.kinds.map t3),.lst (b.shuns.map t3),.lst (b.bars.map t3),.lst (b.dues.map t3)] (some 1) none=[.lst (b.kinds.map t3),.lst (b.shuns.map t3),.lst (b.bars.map t3),.lst (b.dues.map t3)]:=UN _ 1;have fs:jG (.str "size ") (.str (nt b.size))=some (.str (jU b.size)):=by
  show(if ("size " : Str).length+(nt b.size).length<=sizeLine then some (D.str ("size " ++ nt b.size))else none)=_;rw[if_pos l0];rfl
 have f0:(d2 jG (dK (.str "size ")) (je zd [(false,(d2 jw (dV 0) (dK (.int 0))))])) [.bo (yt b),.un,.un,.un,.un,.un,.un]=some (.str (jU b.size)):=by
  show((zd [.int b.size]).bind fun y=>jG (.str "size ") y)=_;rw[es];exact fs
 have lz:(5:Nat)<=sizeLine:=by decide
 have l4:(4:Nat)<=sizeLine:=by decide
 have go:yQ C [.bo (yt b),.un,.un,.un,.un,.un,.un]=some (.rf (.lst ((jv b).map D.str))):=by
  unfold yQ;have o1:yz 1 (Jc [(true,(d2 jG (dK (.str "size ")) (je zd [(false,(d2 jw (dV 0) (dK (.int 0))))])))]) [.bo (yt b),.un,.un,.un,.un,.un,.un]=some (.nx [.bo (yt b),.ow none (.lst [.str (jU b.size)]),.un,.un,.un,.un,.un]):=by
   exact QA f0
  have z1:VC (dL (Jc [(true,(dK (.str "kind"))),(true,(dK (.str "shun"))),(true,(dK (.str "bar"))),(true,(dK (.str "due")))])) (uC (dV 0) (fun ρ=>((dK (.int 1)) ρ).bind yp) (fun _=>some none)) [.bo (yt b),.ow none (.lst [.str (jU b.size)]),.un,.un,.un,.un,.un]=some [.tup [.str "kind",.lst (b.kinds.map t3)],.tup [.str "shun",.lst (b.shuns.map t3)],.tup [.str "bar",.lst (b.bars.map t3)],.tup [.str "due",.lst (b.dues.map t3)]]:=by
   have ct:GK (yt b) (some 1) none=some (.tup [.lst (b.kinds.map t3),.lst (b.shuns.map t3),.lst (b.bars.map t3),.lst (b.dues.map t3)]):=rfl;simp[ct,yp]
  rw[ja,o1,Option.bind_some];show(ja _ _) _=_;rw[ja,yi,z1,Option.bind_some,el,Option.bind_some];simp
 simp only[zm];simp[go]
end M
noncomputable section
namespace M
open PySem L2 DS
theorem YN{i:Int}(h:JI i){c:Nat}(hc:c < 48):c∉(nt i).cps.toList:=fun hx=>by
 have:=(jN h).2.2 c hx;omega
theorem UT(n:Int):(jU n).cps.toList=("size" : Str).cps.toList++32::(nt n).cps.toList:=by
 have e:("size " : Str).cps.toList=("size" : Str).cps.toList++[32]:=by kernel_rfl
 unfold jU;show(("size " : Str).cps++(nt n).cps).toList=_;rw[Array.toList_append,e];simp
theorem Ku{n:Int}(h:JI n):Vg (.str (jU n)) (.str " ")=some (.tup [.str "size",.str " ",.str (nt n)]):=by
 have e:=w_ (c:=32) (x:=jU n) (a := "size") (b:=nt n) (UT n) (by decide);rw[<-ZR]at e;have l:=ZB h;have l1:1<=(" " : Str).length/\(jU n).length < sizeLine:=⟨by decide,jr (by omega)⟩
 show(if _ then _ else _)=_;rw[if_pos l1,e]
theorem UU(C:Addr){n:Int}(h:JI n)(h1:1<=n):yR C [.str (jU n)]=some (.int n):=by
 have e:=Ku h;have a:=Kt C h;have i:=Ge h;have h2:=h.2;simp only[yR,zn];simp[e,a,i,h1,h2]
noncomputable def wd:Nat->Str
 | 0 => "kind"
 | 1 => "shun"
 | 2 => "bar"
 | _ => "due"
theorem qu{p:Nat}(h:p < 4):(wd p).length<=4/\32∉(wd p).cps.toList/\10∉(wd p).cps.toList/\kK (.str (wd p)) (PT.map V.str)=true/\v3 (wd p) PT=some p:=by
 have:p=0∨p=1∨p=2∨p=3:=by omega
 rcases this with rfl | rfl | rfl | rfl
 ·exact⟨by decide,by decide,by decide,by kernel_rfl,by kernel_rfl⟩
 ·exact⟨by decide,by decide,by decide,by kernel_rfl,by kernel_rfl⟩
 ·exact⟨by decide,by decide,by decide,by kernel_rfl,by kernel_rfl⟩
 ·exact⟨by decide,by decide,by decide,by kernel_rfl,by kernel_rfl⟩
theorem Be:Uh (PT.map D.str)=some (PT.map V.str):=by simp[PT]
theorem Kv{w:Str}{t:T3}(hw:w.length<=4)(hn:32∉w.cps.toList)(h:JQ t):y_ (.str (ju w t)) (.str " ")=some (.lst [.str w,.str (nt t.1),.str (nt t.2.1),.str (nt t.2.2)]):=by
 have l:=zE hw h;have l1:1<=(" " : Str).length/\(ju w t).length < sizeLine:=⟨by decide,jr (by omega)⟩
 have e:Txt.split (ju w t) " " = [w,nt t.1,nt t.2.1,nt t.2.2]:=by
  unfold ju;rw[ZR];refine Vl (by decide) w _ fun v hv=>?_;simp only[List.mem_cons,List.not_mem_nil,or_false]at hv;rcases hv with rfl | rfl | rfl | rfl
  ·exact hn
  ·exact YN h.1 (by decide)
  ·exact YN h.2.1 (by decide)
  ·exact YN h.2.2 (by decide)
 show(if _ then _ else _)=_;rw[if_pos l1,e];rfl
theorem UV(C:Addr){p:Nat}(hp:p < 4){t:T3}(h:JQ t):yS C [.str (ju (wd p) t)]=some (.tup [.int (p:Int),t3 t]):=by
 obtain⟨w1,w2,_,w3,w4⟩:=qu hp;have e:=Kv w1 w2 h;have mem:∀x∈[t.1,t.2.1,t.2.2],JI x:=fun x hx=>by
  simp only[List.mem_cons,List.not_mem_nil,or_false]at hx;rcases hx with rfl | rfl | rfl
  ·exact h.1
  ·exact h.2.1
  ·exact h.2.2
 have c1:=Jq (g:=gN 0) (dc:=J2) (de:=je (JP C) [(false,dV 0)]) (ρ:=[.un]) (fun i=>D.str (nt i)) (fun _=>.bl true) (xs:=[t.1,t.2.1,t.2.2]) (fun x hx=>⟨_,rfl,rfl,by have:=Kt C (mem x hx);simp[this]⟩);have c2:=Jq (g:=gN 0) (dc:=J2) (de:=je Y_ [(false,dV 0)]) (ρ:=[.un]) (fun i=>D.str (nt i)) D.int (xs:=[t.1,t.2.1,t.2.2]) (fun x hx=>⟨_,rfl,rfl,by have:=Ge (mem x hx);simp[this]⟩);have s3:3<=sizeLine:=by decide
 simp only[List.map_cons,List.map_nil]at c1 c2;simp only[yS,zo];simp[e,Be,w3,w4,c1,c2,s3,vt,t3]
end M
noncomputable section
namespace M
open PySem L2 DS
noncomputable def jT(b:Bk):List (List D):=[b.kinds.map t3,b.shuns.map t3,b.bars.map t3,b.dues.map t3]
noncomputable def jI(b:Bk):Nat->T3->Bk
 | 0,t=>{ b with kinds:=b.kinds++[t] }
 | 1,t=>{ b with shuns:=b.shuns++[t] }
 | 2,t=>{ b with bars:=b.bars++[t] }
 | _,t=>{ b with dues:=b.dues++[t] }
def kl(b:Bk):Nat->Prop
 | 0=>b.shuns=[]/\b.bars=[]/\b.dues=[]
 | 1=>b.bars=[]/\b.dues=[]
 | 2=>b.dues=[]
 | _=>True
theorem Gk:∀l:List T3,VH (l.map t3)=true
 | []=>rfl
 | t::l=>by rw[List.map_cons];simp[t3,Gk l]
theorem W9(C:Addr)(b:Bk):zU (jV C b)=some (jV C b):=by
 unfold zU;rw[if_pos];simp[jV,wL,Gk]
theorem Kw{b:Bk}{p:Nat}(hp:p < 4)(h:kl b p):(yd (.lst ((jT b).map D.lst)) (some ((p:Int)+1)) none).bind (fun o=>Ym [o.toD])=some (.bl false):=by
 have:p=0∨p=1∨p=2∨p=3:=by omega
 obtain⟨s,k,hh,bb,d⟩:=b;rcases this with rfl | rfl | rfl | rfl
 ·obtain⟨h1,h2,h3⟩:=h;simp only at h1 h2 h3;subst h1 h2 h3;rfl
 ·obtain⟨h2,h3⟩:=h;simp only at h2 h3;subst h2 h3;rfl
 ·have h3:d=[]:=h;subst h3;rfl
 ·rfl
theorem Ab{b:Bk}{p:Nat}(hp:p < 4)(t:T3):∃m,(jT b)[p]?=some m/\(jT b).set p (m++[t3 t])=jT (jI b p t)/\∃l:List T3,m=l.map t3/\(l=b.kinds∨l=b.shuns∨l=b.bars∨l=b.dues):=by
 have:p=0∨p=1∨p=2∨p=3:=by omega
 rcases this with rfl | rfl | rfl | rfl
 ·exact⟨_,rfl,by simp[jT,jI],_,rfl,.inl rfl⟩
 ·exact⟨_,rfl,by simp[jT,jI],_,rfl,.inr (.inl rfl)⟩
 ·exact⟨_,rfl,by simp[jT,jI],_,rfl,.inr (.inr (.inl rfl))⟩
 ·exact⟨_,rfl,by simp[jT,jI],_,rfl,.inr (.inr (.inr rfl))⟩
theorem UW(b:Bk)(p:Nat)(t:T3):(jI b p t).size=b.size:=by
 unfold jI;split <;> rfl
structure Small (b:Bk):Prop where
 k:b.kinds.length<=100
 h:b.shuns.length<=100
 b':b.bars.length<=100
 d:b.dues.length<=100
theorem gf(C:Addr){b:Bk}{p:Nat}(hp:p < 4){t:T3}(ht:JQ t)(hl:kl b p)(sm:Small b)(ok:OkB (jI b p t)):Yo C (jT b) [.int b.size,.str (ju (wd p) t)]=some (jT (jI b p t),jV C (jI b p t)):=by
 refine Qn fun l=>?_;have rp:=UV C hp ht;obtain⟨m,m1,m2,l3,rfl,m4⟩:=Ab (b:=b) hp t;have ml:(l3.map t3).length < sizeLine:=by
  have:=sm.k;have:=sm.h;have:=sm.b';have:=sm.d;rw[List.length_map];rcases m4 with rfl | rfl | rfl | rfl <;> exact jr (by omega)
 have mk:=Gc C (jI b p t) ok;have an:=Kw hp hl;have ix:Z2 (jT b).length (p:Int)=some p:=by
  have:(jT b).length=4:=rfl;rw[this,A0 (by omega) (by omega)];simp
 have sr:=W9 C (jI b p t);have e1:jJ 3 (je (yS C) [(false,dV 2)]) [.cl (.int b.size),.lo (some l) (jT b),.cl (.str (ju (wd p) t)),.un,.un,.un]=some (.nx [.cl (.int b.size),.lo (some l) (jT b),.cl (.str (ju (wd p) t)),.cl (.tup [.int (p:Int),t3 t]),.un,.un]):=by
  simp[rp]
 have e2:Zs (dC 3) (gT 2 (gC (gN 4) (gC (gN 5) gZ))) [.cl (.int b.size),.lo (some l) (jT b),.cl (.str (ju (wd p) t)),.cl (.tup [.int (p:Int),t3 t]),.un,.un]=some (.nx [.cl (.int b.size),.lo (some l) (jT b),.cl (.str (ju (wd p) t)),.cl (.tup [.int (p:Int),t3 t]),.cl (.int (p:Int)),.cl (t3 t)]):=by
  simp
 have e3:(JZ (je Ym [(false,(dL (ye (dV 1) (fun ρ=>((d2 jG (dV 4) (dK (.int 1))) ρ).bind yp) (fun _=>some none))))])) (frz [.cl (.int b.size),.lo (some l) (jT b),.cl (.str (ju (wd p) t)),.cl (.tup [.int (p:Int),t3 t]),.cl (.int (p:Int)),.cl (t3 t)])=some false:=by
  have r:(JZ (je Ym [(false,(dL (ye (dV 1) (fun ρ=>((d2 jG (dV 4) (dK (.int 1))) ρ).bind yp) (fun _=>some none))))])) (frz [.cl (.int b.size),.lo (some l) (jT b),.cl (.str (ju (wd p) t)),.cl (.tup [.int (p:Int),t3 t]),.cl (.int (p:Int)),.cl (t3 t)])=((yd (.lst ((jT b).map D.lst)) (some ((p:Int)+1)) none).bind (fun o=>Ym [o.toD])).bind zM:=by
   cases hc:yd (.lst ((jT b).map D.lst)) (some ((p:Int)+1)) none <;> simp[frz,fz,yp,hc,-Ym]
  rw[r,an];rfl
 have e4:ZK 1 (dV 4) (dC 5) [.cl (.int b.size),.lo (some l) (jT b),.cl (.str (ju (wd p) t)),.cl (.tup [.int (p:Int),t3 t]),.cl (.int (p:Int)),.cl (t3 t)]=some (.nx [.cl (.int b.size),.lo (some l) (jT (jI b p t)),.cl (.str (ju (wd p) t)),.cl (.tup [.int (p:Int),t3 t]),.cl (.int (p:Int)),.cl (t3 t)]):=by
  rw[List.length_map]at ml;simp[ZK,ix,m1,m2,ml]
 have e5:((dL (V9 (jK C) [(true,(dC 0)),(false,(d2 jw (dV 1) (dK (.int 0)))),(false,(d2 jw (dV 1) (dK (.int 1)))),(false,(d2 jw (dV 1) (dK (.int 2)))),(false,(d2 jw (dV 1) (dK (.int 3))))])) (frz [.cl (.int b.size),.lo (some l) (jT (jI b p t)),.cl (.str (ju (wd p) t)),.cl (.tup [.int (p:Int),t3 t]),.cl (.int (p:Int)),.cl (t3 t)]))=some (jV C (jI b p t)):=by
  rw[<-W3];rw[UW]at mk;have i0:jw (.lst ((jT (jI b p t)).map D.lst)) (.int 0)=some (.lst ((jI b p t).kinds.map t3)):=rfl;have i1:jw (.lst ((jT (jI b p t)).map D.lst)) (.int 1)=some (.lst ((jI b p t).shuns.map t3)):=rfl;have i2:jw (.lst ((jT (jI b p t)).map D.lst)) (.int 2)=some (.lst ((jI b p t).bars.map t3)):=rfl;have i3:jw (.lst ((jT (jI b p t)).map D.lst)) (.int 3)=some (.lst ((jI b p t).dues.map t3)):=rfl;simp only[List.map_cons,List.map_nil,frz,fz];simp[i0,i1,i2,i3,mk,OD.toD]
 have n0:DS.YU (.tup [.int (p:Int),t3 t])=false:=rfl;have body:yl C [.cl (.int b.size),.lo (some l) (jT b),.cl (.str (ju (wd p) t)),.un,.un,.un]=some (.rt [.cl (.int b.size),.lo (some l) (jT (jI b p t)),.cl (.str (ju (wd p) t)),.cl (.tup [.int (p:Int),t3 t]),.cl (.int (p:Int)),.cl (t3 t)] (jV C (jI b p t))):=by
  unfold yl;rw[Zv,e1,Option.bind_some];show ua _ _ _ _=_;rw[ua];have t1:Jf (d2 Y3 (dV 3) (dK .non)) [.cl (.int b.size),.lo (some l) (jT b),.cl (.str (ju (wd p) t)),.cl (.tup [.int (p:Int),t3 t]),.un,.un]=some false:=by simp[n0]
  rw[t1,Option.bind_some,if_neg (by decide),Zv,e2,Option.bind_some];show ua _ _ _ _=_;rw[ua,e3,Option.bind_some,if_neg (by decide),Zv,e4,Option.bind_some];show zR _ _=_;rw[zR,e5];simp[sr]
 show(if _ then _ else _)=_;rw[if_pos (show [D.int b.size,D.str (ju (wd p) t)].length=1+1 from rfl)];show ww l (yl C [.cl (.int b.size),.lo (some l) (jT b),.cl (.str (ju (wd p) t)),.un,.un,.un])=_;rw[body];simp
end M
noncomputable section
namespace M
open PySem L2 DS
def yn:Bk->List (Nat×T3)->Prop
 | _,[]=>True
 | b,q::r=>(q.1 < 4/\JQ q.2/\kl b q.1/\Small b/\OkB (jI b q.1 q.2))/\yn (jI b q.1 q.2) r
def jE(b:Bk):List (Nat×T3)->Bk
 | []=>b
 | q::r=>jE (jI b q.1 q.2) r
theorem Yp:∀(xs ys:List (Nat×T3)) (b:Bk),jE b (xs++ys)=jE (jE b xs) ys
 | [],_,_=>rfl
 | q::xs,ys,b=>Yp xs ys (jI b q.1 q.2)
theorem za:∀{xs ys:List (Nat×T3)} {b:Bk},yn b xs->yn (jE b xs) ys->yn b (xs++ys)
 | [],_,_,_,h=>h
 | _::_,_,_,h,k=>⟨h.1,za h.2 k⟩
def y8(q:Nat×T3):Str:=ju (wd q.1) q.2
theorem ui(C:Addr)(x0 x1:Sl):∀(qs:List (Nat×T3)) (b:Bk) (k:Nat) (x4 x5 x6:Sl),yn b qs->
  ∃z4 y5 y6,jR Jn (Jo C) (Jh k (qs.map fun q=>D.str (y8 q))) [x0,x1,.cl (.int b.size),.lo none (jT b),x4,x5,x6]=some (.nx [x0,x1,.cl (.int b.size),.lo none (jT (jE b qs)),z4,y5,y6])/\(qs≠[]->z4=.cl (jV C (jE b qs)))
 | [],b,k,x4,x5,x6,_=>⟨x4,x5,x6,by simp[Jh,jR,jE],fun h=>vDa rfl h⟩
 | q::qs,b,k,x4,x5,x6,h=>by
  obtain⟨⟨h1,h2,h3,h4,h5⟩,h6⟩:=h;have e:=gf C h1 h2 h3 h4 h5;have b1:Jo C [x0,x1,.cl (.int b.size),.lo none (jT b),x4,.cl (.int (k:Int)),.cl (.str (y8 q))]=some (.nx [x0,x1,.cl (.int b.size),.lo none (jT (jI b q.1 q.2)),.cl (jV C (jI b q.1 q.2)),.cl (.int (k:Int)),.cl (.str (y8 q))]):=by
   have n0:DS.YU (jV C (jI b q.1 q.2))=false:=rfl;simp only[Jo,y8];simp[Zw,e,n0]
  have t1:Jn (.tup [.int (k:Int),.str (y8 q)]) [x0,x1,.cl (.int b.size),.lo none (jT b),x4,x5,x6]=some [x0,x1,.cl (.int b.size),.lo none (jT b),x4,.cl (.int (k:Int)),.cl (.str (y8 q))]:=by
   simp[Jn]
  obtain⟨z4,y5,y6,ih,hz⟩:=ui C x0 x1 qs (jI b q.1 q.2) (k+1) (.cl (jV C (jI b q.1 q.2))) (.cl (.int (k:Int))) (.cl (.str (y8 q))) h6;rw[UW]at ih;cases qs with
  | nil=>
   refine⟨.cl (jV C (jI b q.1 q.2)),.cl (.int (k:Int)),.cl (.str (y8 q)),?_,fun _=>rfl⟩;rw[List.map_cons,Jh,jR,t1,Option.bind_some,b1,Option.bind_some];simp[Jh,jR,jE]
  | cons q' qs=>
   refine⟨z4,y5,y6,?_,fun _=>hz (by simp)⟩;rw[List.map_cons,Jh,jR,t1,Option.bind_some,b1,Option.bind_some];exact ih
noncomputable def yo(b:Bk):List (Nat×T3):=b.kinds.map (fun t=>(0,t))++(b.shuns.map (fun t=>(1,t))++(b.bars.map (fun t=>(2,t))++b.dues.map (fun t=>(3,t))))
theorem Wa:∀(ts:List T3) (s:Int) (k h b d:List T3),jE ⟨s,k,h,b,d⟩ (ts.map fun t=>(0,t))=⟨s,k++ts,h,b,d⟩
 | [],_,_,_,_,_=>by simp[jE]
 | t::ts,s,k,h,b,d=>by
  have:=Wa ts s (k++[t]) h b d;simpa[jE,jI]using this
theorem Wb:∀(ts:List T3) (s:Int) (k h b d:List T3),jE ⟨s,k,h,b,d⟩ (ts.map fun t=>(1,t))=⟨s,k,h++ts,b,d⟩
 | [],_,_,_,_,_=>by simp[jE]
 | t::ts,s,k,h,b,d=>by
  have:=Wb ts s k (h++[t]) b d;simpa[jE,jI]using this
theorem Wc:∀(ts:List T3) (s:Int) (k h b d:List T3),jE ⟨s,k,h,b,d⟩ (ts.map fun t=>(2,t))=⟨s,k,h,b++ts,d⟩
 | [],_,_,_,_,_=>by simp[jE]
 | t::ts,s,k,h,b,d=>by
  have:=Wc ts s k h (b++[t]) d;simpa[jE,jI]using this
theorem Ad:∀(ts:List T3) (s:Int) (k h b d:List T3),jE ⟨s,k,h,b,d⟩ (ts.map fun t=>(3,t))=⟨s,k,h,b,d++ts⟩
 | [],_,_,_,_,_=>by simp[jE]
 | t::ts,s,k,h,b,d=>by
  have:=Ad ts s k h b (d++[t]);simpa[jE,jI]using this
theorem BP{b:Bk}(ok:OkB b):∀(ts pre:List T3),pre++ts=b.kinds->yn ⟨b.size,pre,[],[],[]⟩ (ts.map fun t=>(0,t))
 | [],_,_=>trivial
 | t::ts,pre,e=>by
  have l:=ok.k2;have hk:=ok.ks;have ht:=ok.tk t (by rw[<-e];simp);rw[<-e]at l hk;simp at l;refine⟨⟨by simp,ht,⟨rfl,rfl,rfl⟩,⟨by simp;omega,by simp,by simp,by simp⟩,?_⟩,?_⟩
  ·refine⟨ok.s1,ok.s2,?_,?_,?_,?_,?_,?_,?_,?_,?_⟩ <;> simp only[jI]
   ·simp
   ·simp;omega
   ·simp
   ·simp
   ·simp
   ·intro u hu;exact hk u (by simp at hu⊢;rcases hu with hu | hu <;> simp[hu])
   ·intro u hu;cases hu
   ·intro u hu;cases hu
   ·intro u hu;cases hu
  ·exact BP ok ts (pre++[t]) (by simp[e])
theorem BQ{b:Bk}(ok:OkB b):∀(ts pre:List T3),pre++ts=b.shuns->yn ⟨b.size,b.kinds,pre,[],[]⟩ (ts.map fun t=>(1,t))
 | [],_,_=>trivial
 | t::ts,pre,e=>by
  have l:=ok.h2;have hk:=ok.hs;have ht:=ok.th t (by rw[<-e];simp);have k2:=ok.k2;rw[<-e]at l hk;simp at l;refine⟨⟨by simp,ht,⟨rfl,rfl⟩,⟨by simp;omega,by simp;omega,by simp,by simp⟩,?_⟩,?_⟩
  ·refine⟨ok.s1,ok.s2,ok.k1,ok.k2,?_,?_,?_,ok.ks,?_,?_,?_⟩ <;> simp only[jI]
   ·simp;omega
   ·simp
   ·simp
   ·intro u hu;exact hk u (by simp at hu⊢;rcases hu with hu | hu <;> simp[hu])
   ·intro u hu;cases hu
   ·intro u hu;cases hu
  ·exact BQ ok ts (pre++[t]) (by simp[e])
theorem BR{b:Bk}(ok:OkB b):∀(ts pre:List T3),pre++ts=b.bars->yn ⟨b.size,b.kinds,b.shuns,pre,[]⟩ (ts.map fun t=>(2,t))
 | [],_,_=>trivial
 | t::ts,pre,e=>by
  have l:=ok.b2;have hk:=ok.bs;have ht:=ok.tb t (by rw[<-e];simp);have k2:=ok.k2;have h2:=ok.h2;rw[<-e]at l hk;simp at l;refine⟨⟨by simp,ht,rfl,⟨by simp;omega,by simp;omega,by simp;omega,by simp⟩,?_⟩,?_⟩
  ·refine⟨ok.s1,ok.s2,ok.k1,ok.k2,ok.h2,?_,?_,ok.ks,ok.hs,?_,?_⟩ <;> simp only[jI]
   ·simp;omega
   ·simp
   ·intro u hu;exact hk u (by simp at hu⊢;rcases hu with hu | hu <;> simp[hu])
   ·intro u hu;cases hu
  ·exact BR ok ts (pre++[t]) (by simp[e])
theorem BS{b:Bk}(ok:OkB b):∀(ts pre:List T3),pre++ts=b.dues->yn ⟨b.size,b.kinds,b.shuns,b.bars,pre⟩ (ts.map fun t=>(3,t))
 | [],_,_=>trivial
 | t::ts,pre,e=>by
  have l:=ok.d2;have hk:=ok.ds;have ht:=ok.td t (by rw[<-e];simp);have k2:=ok.k2;have h2:=ok.h2;have b2:=ok.b2;rw[<-e]at l hk;simp at l;refine⟨⟨by simp,ht,trivial,⟨by simp;omega,by simp;omega,by simp;omega,by simp;omega⟩,?_⟩,?_⟩
  ·refine⟨ok.s1,ok.s2,ok.k1,ok.k2,ok.h2,ok.b2,?_,ok.ks,ok.hs,ok.bs,?_⟩ <;> simp only[jI]
   ·simp;omega
   ·intro u hu;exact hk u (by simp at hu⊢;rcases hu with hu | hu <;> simp[hu])
  ·exact BS ok ts (pre++[t]) (by simp[e])
theorem Ae(b:Bk):jE ⟨b.size,[],[],[],[]⟩ (yo b)=b:=by
 unfold yo;rw[Yp,Wa,Yp,Wb,Yp,Wc,Ad];rfl
theorem UX{b:Bk}(ok:OkB b):yn ⟨b.size,[],[],[],[]⟩ (yo b):=by
 unfold yo;refine za (BP ok b.kinds [] rfl) ?_;rw[Wa];refine za (BQ ok b.shuns [] rfl) ?_;rw[Wb];refine za (BR ok b.bars [] rfl) ?_;rw[Wc];exact BS ok b.dues [] rfl
theorem Yt(b:Bk):jv b=jU b.size::(yo b).map y8:=by
 unfold jv yo;simp[y8,wd,Function.comp_def]
end M
noncomputable section
namespace M
open PySem L2 DS
theorem uj{c x:Nat}:∀{ws:List (List Nat)},x∈z9 c ws->x=c∨∃w∈ws,x∈w
 | [],h=>by cases h
 | [w],h=>.inr ⟨w,by simp,h⟩
 | w::v::r,h=>by
  rw[z9]at h
  ·rcases List.mem_append.mp h with h | h
   ·exact .inr ⟨w,by simp,h⟩
   ·rcases List.mem_cons.mp h with h | h
    ·exact .inl h
    ·rcases uj h with h | ⟨u,hu,h⟩
     ·exact .inl h
     ·exact .inr ⟨u,by simp at hu⊢;exact .inr hu,h⟩
  ·simp
theorem Af{w:Str}{t:T3}(hn:10∉w.cps.toList)(h:JQ t):10∉(ju w t).cps.toList:=fun hx=>by
 unfold ju at hx;rw[ZR,UF]at hx;rcases uj hx with hx | ⟨u,hu,hx⟩
 ·cases hx
 ·simp only[List.map_cons,List.map_nil,List.mem_cons,List.not_mem_nil,or_false]at hu;rcases hu with rfl | rfl | rfl | rfl
  ·exact hn hx
  ·exact YN h.1 (by decide) hx
  ·exact YN h.2.1 (by decide) hx
  ·exact YN h.2.2 (by decide) hx
theorem QB{n:Int}(h:JI n):10∉(jU n).cps.toList:=fun hx=>by
 rw[UT]at hx;rcases List.mem_append.mp hx with hx | hx
 ·revert hx
  decide
 ·rcases List.mem_cons.mp hx with hx | hx
  ·cases hx
  ·exact YN h (by decide) hx
theorem UY:∀{qs:List (Nat×T3)} {b:Bk},yn b qs->∀q∈qs,q.1 < 4/\JQ q.2
 | q::qs,b,h,p,hp=>by
  rcases List.mem_cons.mp hp with rfl | hp
  ·exact⟨h.1.1,h.1.2.1⟩
  ·exact UY h.2 p hp
theorem Kx{m:Nat}:∀{ys:List Str},(∀y∈ys,y.length<=m)->(ys.map (·.length)).sum<=ys.length * m
 | [],_=>by simp
 | y::r,h=>by
  have h1:=h y (by simp);have h2:=Kx (ys:=r) fun z hz=>h z (by simp[hz]);simp only[List.map_cons,List.sum_cons,List.length_cons,Nat.succ_mul];omega
theorem Wd{b:Bk}(ok:OkB b):(jD b).length < sizeLine:=by
 have h:=PyProof.Rows.len_join_cons ("\n" : Str) (jU b.size) ((yo b).map y8);unfold jD;show(Builtin.Str.glued _ _).length < _;rw[StrLaws.glued_eq_join,Yt,h,<-Yt];have e1:("\n" : Str).length=1:=by rw[kj];rfl
 have hm:=uf ok;have hs:=Vo ok;have:=Kx hs;have l2:((yo b).map y8).length<=40:=by
  rw[Yt]at hm;simp only[List.length_cons]at hm;omega
 rw[e1];refine jr ?_;omega
theorem km{b:Bk}(ok:OkB b):y_ (.str (jD b)) (.str "\n")=some (.lst ((jv b).map D.str)):=by
 have l1:1<=("\n" : Str).length/\(jD b).length < sizeLine:=⟨by decide,Wd ok⟩
 have e:Txt.split (jD b) "\n" = jv b:=by
  unfold jD;rw[kj,Yt];refine Vl (by decide) _ _ fun v hv=>?_;rcases List.mem_cons.mp hv with rfl | hv
  ·exact QB ok.sz
  ·obtain⟨q,hq,rfl⟩:=List.mem_map.mp hv;obtain⟨h1,h2⟩:=UY (UX ok) q hq;exact Af (qu h1).2.2.1 h2
 show(if _ then _ else _)=_;rw[if_pos l1,e]
theorem uu(C:Addr)(b:Bk)(ok:OkB b):YM C [.str (jD b)]=some (jV C b):=by
 have sp:=km ok;have rs:=UU C ok.sz ok.s1;obtain⟨z4,y5,y6,el,hz⟩:=ui C (.bo (.str (jD b))) (.cl (.lst ((jv b).map D.str))) (yo b) ⟨b.size,[],[],[],[]⟩ 1 (.cl .non) .un .un (UX ok);have ne:yo b≠[]:=by
  have:=ok.k1;unfold yo;intro h;have:=congrArg List.length h;simp at this;have h1:b.kinds.length=0:=by simp[this]
  omega
 have hz:=hz ne;subst hz;rw[Ae]at el;have i0:jw (.lst ((jv b).map D.str)) (.int 0)=some (.str (jU b.size)):=by
  rw[Yt];exact Kp (by decide) rfl
 have cu:yd (.lst ((jv b).map D.str)) (some 1) none=some (.lst ((yo b).map fun q=>D.str (y8 q))):=by
  show some (OD.lst (Jd ((jv b).map D.str) (some 1) none))=_;rw[show(some (1:Int))=some ((1:Nat):Int) from rfl,UN,Yt];simp[Function.comp_def]
 have s1:jJ 1 (dL (V2 y_ (dV 0) (dK (.str "\n")))) [.bo (.str (jD b)),.un,.un,.un,.un,.un,.un]=some (.nx [.bo (.str (jD b)),.cl (.lst ((jv b).map D.str)),.un,.un,.un,.un,.un]):=by
  simp[sp,OD.toD]
 have s2:jJ 2 (je (yR C) [(false,(d2 jw (dV 1) (dK (.int 0))))]) [.bo (.str (jD b)),.cl (.lst ((jv b).map D.str)),.un,.un,.un,.un,.un]=some (.nx [.bo (.str (jD b)),.cl (.lst ((jv b).map D.str)),.cl (.int b.size),.un,.un,.un,.un]):=by
  simp only[jJ,je,Yl,d2,dV,dK];simp[i0,rs]
 have s3:uE 3 [(Jc []),(Jc []),(Jc []),(Jc [])] [.bo (.str (jD b)),.cl (.lst ((jv b).map D.str)),.cl (.int b.size),.un,.un,.un,.un]=some (.nx [.bo (.str (jD b)),.cl (.lst ((jv b).map D.str)),.cl (.int b.size),.lo none [[],[],[],[]],.un,.un,.un]):=rfl;have s4:Ve (dL (ye (dV 1) (fun ρ=>((dK (.int 1)) ρ).bind yp) (fun _=>some none))) [.bo (.str (jD b)),.cl (.lst ((jv b).map D.str)),.cl (.int b.size),.lo none [[],[],[],[]],.cl .non,.un,.un]=some (Jh 1 ((yo b).map fun q=>D.str (y8 q))):=by
  simp[yp,cu,OD.toD]
 have el':jR Jn (Jo C) (Jh 1 ((yo b).map fun q=>D.str (y8 q))) [.bo (.str (jD b)),.cl (.lst ((jv b).map D.str)),.cl (.int b.size),.lo none [[],[],[],[]],.cl .non,.un,.un]=some (.nx [.bo (.str (jD b)),.cl (.lst ((jv b).map D.str)),.cl (.int b.size),.lo none (jT b),.cl (jV C b),y5,y6]):=el;have n0:DS.YU (jV C b)=false:=rfl;have go:ym C [.bo (.str (jD b)),.un,.un,.un,.un,.un,.un]=some (.rt (jV C b)):=by
  unfold ym;rw[ja,s1,Option.bind_some];show ja _ _ _=_;rw[ja,s2,Option.bind_some];show ja _ _ _=_;rw[ja];have t1:J3 (Jf (d2 Y3 (dV 2) (dK .non))) YW Jg [.bo (.str (jD b)),.cl (.lst ((jv b).map D.str)),.cl (.int b.size),.un,.un,.un,.un]=some (.nx [.bo (.str (jD b)),.cl (.lst ((jv b).map D.str)),.cl (.int b.size),.un,.un,.un,.un]):=rfl;rw[t1,Option.bind_some];show ja _ _ _=_;rw[ja,s3,Option.bind_some];show ja _ _ _=_;rw[ja];have t2:jJ 4 (dK .non) [.bo (.str (jD b)),.cl (.lst ((jv b).map D.str)),.cl (.int b.size),.lo none [[],[],[],[]],.un,.un,.un]=some (.nx [.bo (.str (jD b)),.cl (.lst ((jv b).map D.str)),.cl (.int b.size),.lo none [[],[],[],[]],.cl .non,.un,.un]):=rfl;rw[t2,Option.bind_some];show ja _ _ _=_;rw[ja,yi,s4,Option.bind_some,el',Option.bind_some];simp[n0]
 simp only[YM];simp[go]
end M
noncomputable section
namespace M
open PySem L2 DS
theorem QC(C:Addr)(ds:List Int)(hn:ds.length=130):∃b:Bk,zf C [.lst (ds.map .int)]=some (yt b)/\OkB b:=by
 have at0:∀k:Int,0<=k->k < 130->∃v:Int,atI (ds.map D.int) k=some (.int v):=fun k h0 h1=>Vm h0 (by omega);obtain⟨u0,a0⟩:=at0 0 (by decide) (by decide);obtain⟨u1,a1⟩:=at0 1 (by decide) (by decide);obtain⟨u14,a14⟩:=at0 14 (by decide) (by decide);obtain⟨u15,a15⟩:=at0 15 (by decide) (by decide);obtain⟨u16,a16⟩:=at0 16 (by decide) (by decide);have g0:=J0 (a:=u0) (b:=4) (by decide);have g1:=J0 (a:=u1) (b:=30) (by decide);have g14:=J0 (a:=u14) (b:=21) (by decide);have g15:=J0 (a:=u15) (b:=13) (by decide);have g16:=J0 (a:=u16) (b:=4) (by decide);generalize hm:1+u0 % 4=m;generalize hs':1+u1 % 30=sz;generalize hh':u14 % 21=nh;generalize hb':u15 % 13=nb;generalize hd':u16 % 4=nd;rw[hh']at g14;rw[hb']at g15;rw[hd']at g16;have K1:=YH (g:=Z7) (s:=Y5 C) (items:=JA 0 m.toNat) (fun i ρ=>∃(ts:List T3) (x4 x5:Sl),ρ=[.bo (.lst (ds.map .int)),.cl (.int m),.cl (.int sz),.ow none (.lst (ts.map t3)),x4,x5,.un,.un]/\ts.length=i/\∀t∈ts,fK t=true) ?_ ⟨[],.un,.un,rfl,rfl,fun _ h=>by cases h⟩
 rotate_left
 ·rintro i d ρ hi ⟨ts,x4,x5,rfl,hl,ht⟩;obtain⟨hi1,rfl⟩:=VQ hi;obtain⟨w2,b2⟩:=at0 (2+(0+(i:Int))) (by omega) (by omega);obtain⟨w6,b6⟩:=at0 (6+(0+(i:Int))) (by omega) (by omega);obtain⟨w10,b10⟩:=at0 (10+(0+(i:Int))) (by omega) (by omega);have e2:=J0 (a:=w2) (b:=4) (by decide);have q5:0 < 5 - (1+w2 % 4):=by omega
  have q5':1+w2 % 4 < 5:=by omega
  have e6:=J0 (a:=w6) (b:=5 - (1+w2 % 4)) q5;have e10:=J0 (a:=w10) (b:=5) (by decide);have hz:ts.length < sizeLine:=jr (by omega);refine⟨_,[.bo (.lst (ds.map .int)),.cl (.int m),.cl (.int sz),.ow none (.lst ((ts++[(1+w2 % 4,1+w2 % 4+w6 % (5 - (1+w2 % 4)),w10 % 5)]).map t3)),.cl (.int (0+(i:Int))),.cl (.int (1+w2 % 4)),.un,.un],rfl,?_,_,_,_,rfl,by simp[hl],vN ht ?_⟩
  ·simp only[Y5];simp at b2 b6 b10;simp[b2,b6,b10,q5,q5',hz,t3]
  ·unfold fK;simp only[Bool.and_eq_true,decide_eq_true_eq];omega
 obtain⟨ρk,K2,ks,x4,x5,rfl,lk,hk⟩:=K1;have hrk:(JA 0 m.toNat).length=m.toNat:=by simp[JA]
 rw[hrk]at lk;have S1:=YH (g:=Z8) (s:=Y6 C) (items:=JA 0 nh.toNat) (fun i ρ=>∃(ts:List T3) (x4:Sl),ρ=[.bo (.lst (ds.map .int)),.cl (.int m),.cl (.int sz),.ow none (.lst (ks.map t3)),x4,x5,.ow none (.lst (ts.map t3)),.un]/\ts.length=i/\∀t∈ts,fS m t=true) ?_ ⟨[],x4,rfl,rfl,fun _ h=>by cases h⟩
 rotate_left
 ·rintro i d ρ hi ⟨ts,x4,rfl,hl,ht⟩;obtain⟨hi1,rfl⟩:=VQ hi;obtain⟨w0,b0⟩:=at0 (20+3 * (0+(i:Int))) (by omega) (by omega);obtain⟨w1,b1⟩:=at0 (21+3 * (0+(i:Int))) (by omega) (by omega);obtain⟨w2,b2⟩:=at0 (22+3 * (0+(i:Int))) (by omega) (by omega);have qm:0 < m:=by omega
  have e0:=J0 (a:=w0) (b:=m) qm;have e1:=J0 (a:=w1) (b:=m) qm;have e2:=J0 (a:=w2) (b:=2) (by decide);have hz:ts.length < sizeLine:=jr (by omega);have c3:VB 3 (0+(i:Int))=true:=zZ (by decide) (by decide);refine⟨_,[.bo (.lst (ds.map .int)),.cl (.int m),.cl (.int sz),.ow none (.lst (ks.map t3)),.cl (.int (0+(i:Int))),x5,.ow none (.lst ((ts++[(w0 % m,w1 % m,1+w2 % 2)]).map t3)),.un],rfl,?_,_,_,rfl,by simp[hl],vN ht ?_⟩
  ·simp only[Y6];simp at b0 b1 b2 c3;simp[c3,b0,b1,b2,qm,hz,t3]
  ·unfold fS;simp only[Bool.and_eq_true,decide_eq_true_eq];omega
 obtain⟨ρh,S2,hs,x4',rfl,lh,hh⟩:=S1;have hrh:(JA 0 nh.toNat).length=nh.toNat:=by simp[JA]
 rw[hrh]at lh;have cut:∀n:Nat,n<=116->∃es:List Int,130 - n=es.length/\yd (.lst (ds.map D.int)) (some (n:Int)) none=some (.lst (es.map D.int)):=fun n h=>by
  refine⟨ds.drop n,by rw[List.length_drop];omega,?_⟩;show some (OD.lst (Jd (ds.map D.int) (some (n:Int)) none))=_;rw[UN,List.map_drop]
 obtain⟨e8,l8,c80⟩:=cut 80 (by decide);obtain⟨e9,l9,c116⟩:=cut 116 (by decide);have c80:yd (.lst (ds.map D.int)) (some 80) none=some (.lst (e8.map D.int)):=c80;have c116:yd (.lst (ds.map D.int)) (some 116) none=some (.lst (e9.map D.int)):=c116;obtain⟨bs,B1,B2,B3⟩:=Vn C m sz nb e8 (by omega) (by omega) (by omega) (by omega) (by omega) (by omega);obtain⟨dd,D1,D2,D3⟩:=Vn C m sz nd e9 (by omega) (by omega) (by omega) (by omega) (by omega) (by omega);have ek:(ks.length:Int)=m:=by omega
 refine⟨⟨sz,ks,hs,bs,dd⟩,?_,?_⟩
 ·have s1:Jw m=true:=zO (by omega) (by omega);have s2:Jw nh=true:=zO (by omega) (by omega);rw[List.map_nil]at K2 S2;simp only[zf,ze];simp[a0,a1,a14,a15,a16,hm,hs',hh',hb',hd',s1,s2,K2,S2,yp,c80,c116,B1,D1,yt]
 ·refine⟨by show 1<=sz;omega,by show sz<=30;omega,by show 1<=ks.length;omega,by show ks.length<=4;omega,by show hs.length<=20;omega,by show bs.length<=12;omega,by show dd.length<=3;omega,hk,?_,?_,?_⟩
  ·show∀t∈hs,fS (ks.length:Int) t=true;rw[ek];exact hh
  ·show∀t∈bs,fB (ks.length:Int) _ t=true;rw[ek];exact B3
  ·show∀t∈dd,fB (ks.length:Int) _ t=true;rw[ek];exact D3
theorem qv:∀l:List T3,zq (l.map t3)
 | []=>by rw[List.map_nil,zq];trivial
 | t::l=>by
  rw[List.map_cons,zq];refine⟨?_,qv l⟩;have:(3:Nat)<=sizeLine:=by decide
  simp[t3,Z9,zq,this]
theorem Vp(l:List T3):YD (l.map t3)<=1:=by
 induction l with
 | nil=>simp[YD]
 | cons t l ih=>simp[YD,dep,t3];omega
theorem We(C:Addr)(ns:List Int)(h:ns.length<=63):uJ C [.scr ns]=some (.bl true):=by
 obtain⟨ms,e1,hm⟩:=kh C ns 130 h (by decide) (by decide);obtain⟨b,e2,ok⟩:=QC C ms (by omega);have e3:=Qw C b ok;have e4:=ut C b ok;have e3':yO C [yt b]=some (.ins C ["size", "kind_rows", "shun_rows", "bar_rows", "due_rows"] [.int b.size,.tup (b.kinds.map t3),.tup (b.shuns.map t3),.tup (b.bars.map t3),.tup (b.dues.map t3)]):=e3;have e4':JH C [.ins C ["size", "kind_rows", "shun_rows", "bar_rows", "due_rows"] [.int b.size,.tup (b.kinds.map t3),.tup (b.shuns.map t3),.tup (b.bars.map t3),.tup (b.dues.map t3)]]=some (.str (jD b)):=e4;have e5:=ge C b ok;have e6:=uu C b ok;have j:=ug ok;have sm:=vP (jv b);have s1:=Gd C (.str (jD b)) 6 (by simp[Z9]) (by simp[dep]);have bk:=ok.k2;have bh:=ok.h2;have bb:=ok.b2;have bd:=ok.d2;have p5:Z9 (.lst [.int b.size,.lst (b.kinds.map t3),.lst (b.shuns.map t3),.lst (b.bars.map t3),.lst (b.dues.map t3)]):=by
  have:(5:Nat)<=sizeLine:=by decide
  have l1:b.kinds.length<=sizeLine:=wQa (jr (by omega));have l2:b.shuns.length<=sizeLine:=wQa (jr (by omega));have l3:b.bars.length<=sizeLine:=wQa (jr (by omega));have l4:b.dues.length<=sizeLine:=wQa (jr (by omega));simp[Z9,zq,qv,this,l1,l2,l3,l4]
 have d5:dep (.lst [.int b.size,.lst (b.kinds.map t3),.lst (b.shuns.map t3),.lst (b.bars.map t3),.lst (b.dues.map t3)]) < 6:=by
  have:=Vp b.kinds;have:=Vp b.shuns;have:=Vp b.bars;have:=Vp b.dues;simp[dep,YD];omega
 have s2:=Gd C _ 6 p5 d5;simp only[uJ,uI];simp[e1,e2,e3',e4',e4,e5,e6,sm,j,s1,s2,<-jD.eq_1];simp[yt,s2]
end M
noncomputable section
namespace M
open PySem L2 DS CP
noncomputable def top(i:Nat):Stmt:=PySem.Challenge.pw_moonseat_k39_rule_books_written.main.body.getD i (.Pass ⟨0,0,0,0⟩)
noncomputable def T0(C:Addr):Tb:=⟨C,[("MOST_SIZE",.con 30),("MOST_KINDS",.con 4),("MOST_SHUNS",.con 20),("MOST_BARS",.con 12),("MOST_DUES",.con 3),("MOST_RUN",.con 4),("MOST_REST",.con 4),("MOST_FAR",.con 2),("MOST_FIGURES",.con 4),("PARTS",.kt PT),("all",.blt),("any",.blt),("bool",.blt),("enumerate",.blt),("int",.blt),("isinstance",.blt),("len",.blt),("list",.blt),("range",.blt),("str",.blt),("tuple",.blt),("zip",.blt)],[],["size", "kind_rows", "shun_rows", "bar_rows", "due_rows"]⟩
def zF(C:Addr):De:=⟨"_law_numbers", "_law_numbers",(top 30),["_law_script", "_law_many"],["_law_row", "_law_seed", "_law_cell", "_law_rest", "_law_k"],[false,false],(yD C),[],[],[2]⟩
theorem VS(C:Addr):Ck (T0 C) (zF C) true:=⟨by kernel_rfl,rfl,fun _ _ _ _ _ _ us hl=>kg us hl fun _ _=>rfl⟩
def T1(C:Addr):Tb:=(T0 C).ag "_law_numbers" ((zF C).F 0)
def zG(C:Addr):De:=⟨"_law_windows", "_law_windows",(top 32),["_law_many", "_law_size", "_law_count", "_law_d"],["_law_rows_here", "_law_k", "_law_first"],[false,false,false,false],(yF C),[],[],[4]⟩
theorem VT(C:Addr):Ck (T1 C) (zG C) true:=⟨by kernel_rfl,rfl,fun _ _ _ _ _ _ us hl=>Cq us hl fun _ _ _ _=>rfl⟩
def T2(C:Addr):Tb:=(T1 C).ag "_law_windows" ((zG C).F 2)
def v7(C:Addr):De:=⟨"_law_wide", "_law_wide",(top 34),["_law_d"],["_law_many", "_law_size", "_law_kinds", "_law_k", "_law_least", "_law_shuns", "_law_bars"],[false],(ze C),[],[(169,3),(169,6)],[3,6]⟩
theorem gg(C:Addr):Ck (T2 C) (v7 C) false:=⟨by kernel_rfl,rfl,fun _ _ _ _ _ _ us hl=>yC us hl fun _=>rfl⟩
def T3(C:Addr):Tb:=(T2 C).ag "_law_wide" ((v7 C).E 4)
def Yc(C:Addr):De:=⟨"kinds", "Rules.kinds",(inClass (top 18) 1),["self"],[],[false],(Y7 C),[],[],[]⟩
theorem uv(C:Addr):Ck (T3 C) (Yc C) true:=⟨by kernel_rfl,rfl,fun _ _ _ _ _ _ us hl=>yC us hl fun _=>rfl⟩
def T4(C:Addr):Tb:=(T3 C).am "kinds" ((Yc C).F 6)
def Yd(C:Addr):De:=⟨"shuns", "Rules.shuns",(inClass (top 18) 2),["self"],[],[false],(Y8 C),[],[],[]⟩
theorem uw(C:Addr):Ck (T4 C) (Yd C) true:=⟨by kernel_rfl,rfl,fun _ _ _ _ _ _ us hl=>yC us hl fun _=>rfl⟩
def T5(C:Addr):Tb:=(T4 C).am "shuns" ((Yd C).F 8)
def YO(C:Addr):De:=⟨"bars", "Rules.bars",(inClass (top 18) 3),["self"],[],[false],(YJ C),[],[],[]⟩
theorem UZ(C:Addr):Ck (T5 C) (YO C) true:=⟨by kernel_rfl,rfl,fun _ _ _ _ _ _ us hl=>yC us hl fun _=>rfl⟩
def T6(C:Addr):Tb:=(T5 C).am "bars" ((YO C).F 10)
def YQ(C:Addr):De:=⟨"dues", "Rules.dues",(inClass (top 18) 4),["self"],[],[false],(YK C),[],[],[]⟩
theorem U_(C:Addr):Ck (T6 C) (YQ C) true:=⟨by kernel_rfl,rfl,fun _ _ _ _ _ _ us hl=>yC us hl fun _=>rfl⟩
def T7(C:Addr):Tb:=(T6 C).am "dues" ((YQ C).F 12)
def Vq(C:Addr):De:=⟨"row_text", "row_text",(top 22),["word", "things"],[],[true,false],(zY C),[((76,20,61),[])],[],[]⟩
theorem kn(C:Addr):Ck (T7 C) (Vq C) false:=⟨by kernel_rfl,rfl,fun _ _ _ _ _ _ us hl=>kg us hl fun _ _=>rfl⟩
def T8(C:Addr):Tb:=(T7 C).ag "row_text" ((Vq C).E 14)
def ZD(C:Addr):De:=⟨"rules_text", "rules_text",(top 23),["rules"],["rows", "lists", "word", "triples"],[false],(YL C),[((81,16,62),[3])],[],[1]⟩
theorem g6(C:Addr):Ck (T8 C) (ZD C) false:=⟨by kernel_rfl,rfl,fun _ _ _ _ _ _ us hl=>yC us hl fun _=>rfl⟩
def T9(C:Addr):Tb:=(T8 C).ag "rules_text" ((ZD C).E 16)
def Za(C:Addr):De:=⟨"fits_counts", "fits_counts",(top 16),["size", "kinds", "shuns", "bars", "dues"],[],[false,false,false,false,false],(Y9 C),[],[],[]⟩
theorem uz(C:Addr):Ck (T9 C) (Za C) false:=⟨by kernel_rfl,rfl,fun _ _ _ _ _ _ us hl=>A6 us hl fun _ _ _ _ _=>rfl⟩
def Ag(C:Addr):Tb:=(T9 C).ag "fits_counts" ((Za C).E 18)
def v8(C:Addr):De:=⟨"fits_kind", "fits_kind",(top 13),["row"],["least", "most", "rest"],[true],(zg C),[],[],[]⟩
theorem gh(C:Addr):Ck (Ag C) (v8 C) false:=⟨by kernel_rfl,rfl,fun _ _ _ _ _ _ us hl=>yC us hl fun _=>rfl⟩
def Ah(C:Addr):Tb:=(Ag C).ag "fits_kind" ((v8 C).E 20)
def vc(C:Addr):De:=⟨"fits_shun", "fits_shun",(top 14),["row", "many"],["one", "other", "far"],[true,false],(zh C),[],[],[]⟩
theorem gi(C:Addr):Ck (Ah C) (vc C) false:=⟨by kernel_rfl,rfl,fun _ _ _ _ _ _ us hl=>kg us hl fun _ _=>rfl⟩
def Ai(C:Addr):Tb:=(Ah C).ag "fits_shun" ((vc C).E 22)
def vd(C:Addr):De:=⟨"fits_span", "fits_span",(top 15),["row", "many", "size"],["kind", "first", "last"],[true,false,false],(zi C),[],[],[]⟩
theorem gj(C:Addr):Ck (Ai C) (vd C) false:=⟨by kernel_rfl,rfl,fun _ _ _ _ _ _ us hl=>A5 us hl fun _ _ _=>rfl⟩
def Aj(C:Addr):Tb:=(Ai C).ag "fits_span" ((vd C).E 24)
def ve(C:Addr):De:=⟨"fits_rows", "fits_rows",(top 17),["size", "kinds", "shuns", "bars", "dues"],["many"],[false,false,false,false,false],(zj C),[((42,15,54),[5]),((44,54,65),[]),((44,15,66),[5,0])],[],[]⟩
theorem gk(C:Addr):Ck (Aj C) (ve C) false:=⟨by kernel_rfl,rfl,fun _ _ _ _ _ _ us hl=>A6 us hl fun _ _ _ _ _=>rfl⟩
def Ak(C:Addr):Tb:=(Aj C).ag "fits_rows" ((ve C).E 26)
def Ju(C:Addr):De:=⟨"__init__", "Rules.__init__",(inClass (top 18) 0),["self", "size", "kinds", "shuns", "bars", "dues"],[],[true,false,false,false,false],(Jt C),[],[],[0]⟩
theorem vQ(C:Addr):v4 (Ak C) (Ju C) false=some (Jt C):=by kernel_rfl
theorem vR(C:Addr):Bd "__init__" "Rules.__init__" (inClass (top 18) 0) ["self", "size", "kinds", "shuns", "bars", "dues"]:=fun _ _ _ _ _ _ us hl=>Cr us hl fun _ _ _ _ _ _=>rfl
def Al(C:Addr):Tb:=(Ak C).ag "Rules" (.mk 29 (Ju C).ps (Ju C).ks (Ji C) (jK C))
def vf(C:Addr):De:=⟨"_law_made", "_law_made",(top 33),["_law_book"],[],[false],(zl C),[],[],[]⟩
theorem gl(C:Addr):Ck (Al C) (vf C) true:=⟨by kernel_rfl,rfl,fun _ _ _ _ _ _ us hl=>yC us hl fun _=>rfl⟩
def Am(C:Addr):Tb:=(Al C).ag "_law_made" ((vf C).F 30)
def gn(C:Addr):De:=⟨"_law_same", "_law_same",(top 31),["_law_found", "_law_due"],[],[false,false],Jg,[],[],[]⟩
theorem gp(C:Addr)(m:Nat):v4 ((Am C).ag "_law_same" (.fE (32+m) ["_law_found", "_law_due"] [false,false] (jH C m))) (gn C) false=some (yP C (jH C m)):=by kernel_rfl
theorem gq(C:Addr):Bd "_law_same" "_law_same" (top 31) ["_law_found", "_law_due"]:=fun _ _ _ _ _ _ us hl=>kg us hl fun _ _=>rfl
def An(C:Addr):Tb:=(Am C).ag "_law_same" (.fE (32+6) ["_law_found", "_law_due"] [false,false] (jH C 6))
def vg(C:Addr):De:=⟨"_law_rows", "_law_rows",(top 35),["_law_book"],["_law_rows_here", "_law_word", "_law_triples", "_law_one", "_law_two", "_law_three"],[false],(yQ C),[((172,71,84),[])],[],[1]⟩
theorem gr(C:Addr):Ck (An C) (vg C) true:=⟨by kernel_rfl,rfl,fun _ _ _ _ _ _ us hl=>yC us hl fun _=>rfl⟩
def Ao(C:Addr):Tb:=(An C).ag "_law_rows" ((vg C).F 38)
def vh(C:Addr):De:=⟨"is_number", "is_number",(top 24),["text"],[],[false],(v5 C),[((84,85,89),[9]),((84,54,72),[]),((84,16,25),[]),((86,26,33),[])],[],[]⟩
theorem gu(C:Addr):Ck (Ao C) (vh C) false:=⟨by kernel_rfl,rfl,fun _ _ _ _ _ _ us hl=>yC us hl fun _=>rfl⟩
def Ap(C:Addr):Tb:=(Ao C).ag "is_number" ((vh C).E 40)
def vi(C:Addr):De:=⟨"read_size", "read_size",(top 25),["row"],["word", "blank", "number"],[false],(zn C),[],[],[]⟩
theorem gw(C:Addr):Ck (Ap C) (vi C) false:=⟨by kernel_rfl,rfl,fun _ _ _ _ _ _ us hl=>yC us hl fun _=>rfl⟩
def Aq(C:Addr):Tb:=(Ap C).ag "read_size" ((vi C).E 42)
def vj(C:Addr):De:=⟨"read_part", "read_part",(top 26),["row"],["word", "numbers"],[false],(zo C),[],[],[]⟩
theorem gx(C:Addr):Ck (Aq C) (vj C) false:=⟨by kernel_rfl,rfl,fun _ _ _ _ _ _ us hl=>yC us hl fun _=>rfl⟩
def Ar(C:Addr):Tb:=(Aq C).ag "read_part" ((vj C).E 44)
def z_(C:Addr):De:=⟨"with_row", "with_row",(top 27),["size", "lists", "row"],["part", "at", "triple"],[true,false,false],Jg,[((102,0,9),[]),((104,0,9),[]),((106,0,9),[])],[],[]⟩
theorem ko(C:Addr):wZ (Ar C) (z_ C)=some (yl C):=by kernel_rfl
theorem kq(C:Addr):Bd "with_row" "with_row" (top 27) ["size", "lists", "row"]:=fun _ _ _ _ _ _ us hl=>A5 us hl fun _ _ _=>rfl
def As(C:Addr):Tb:=(Ar C).ag "with_row" (.fM 47 (z_ C).ps (Yo C))
def ZE(C:Addr):De:=⟨"read_rules", "read_rules",(top 28),["text"],["rows", "size", "lists", "rules", "at", "row"],[false],(ym C),[((114,0,9),[]),((117,0,9),[])],[],[]⟩
theorem ga(C:Addr):Ck (As C) (ZE C) false:=⟨by kernel_rfl,rfl,fun _ _ _ _ _ _ us hl=>yC us hl fun _=>rfl⟩
def BU(C:Addr):Tb:=(As C).ag "read_rules" ((ZE C).E 48)
def qw(C:Addr):De:=⟨"law", "law",(top 36),["_law_script"],["_law_numbers_here", "_law_book", "_law_text", "_law_found", "_law_told"],[false],(uI C),[],[],[]⟩
theorem Bf(C:Addr):v4 (BU C) (qw C) false=some (uI C):=by kernel_rfl
end M
set_option maxHeartbeats 0
noncomputable def PySem.W.Fast.tw14043205227663931898:PySem.Program:=PySem.Challenge.pw_moonseat_k39_rule_books_written
theorem PySem.W.Fast.te14043205227663931898:PySem.Challenge.pw_moonseat_k39_rule_books_written=PySem.W.Fast.tw14043205227663931898:=rfl
namespace Hd
noncomputable section
open PySem PySem.W PyProof.Rows L2 M
noncomputable abbrev pw:=PySem.Challenge.pw_moonseat_k39_rule_books_written
theorem prm:((fun(_:Params->Obj)=>true) boot_o_0)=true:=by first | k_qdec | rfl
noncomputable def de(P:Params)(x:Str)(t:Nat)(v:Value):DictEntry:=⟨PyData.keyHash P x,.str x t,v⟩
noncomputable def f3(a b:Int)(r:Nat)(l:List Value):List Value:=.int a 0::.int b 0::.ref r::l
noncomputable def fC(n q:Str)(a b c:Nat)(l x1 x2 x3 x4:Int)(r1:Nat)(z:Bool)(k:Int)(r2:Nat)(m:Int)(e:Nat):Data:=.fields #[.str n a,.str q b,.str "/claim/cut.py" c,.int l 0,.int x1 0,.int x2 0,.int x3 0,.int x4 0,.ref r1,.bool z,.int k 0,.ref r2,.none,.none,.none,.none,.int m 0,.int l 0,.str "/claim/cut.py" e]
noncomputable def oU(l:List Value):Obj:=⟨.type "tuple",none,.seq (List.toArray l) 0,#[]⟩
def oF(n q:Str)(s:Stmt)(m:Str)(t cd:Nat):Obj:=⟨.type "function",none,.func (fnOf n q (defArgs s) (defBody s) (defScope s) .none .none .none (.str m t) none (.ref cd) .none),#[]⟩
def oT(n q:Str)(s:Stmt):Obj:=⟨.none,none,.func { name:=n,qualname:=q,params:=defArgs s,body:=.stmts (defBody s),scope:=defScope s,globals:=0,closure:=[],defaults:=.none,kwdefaults:=.none,doc:=.none,pyModule:=.none,annotations:=none,code:=.none,closureTuple:=.none,builtins:=0 },#[]⟩
noncomputable def oS(t:Nat):List Str->List Value
 | []=>[]
 | x::l=>.str x t::oS (t+1) l
def oV(t:Nat)(l:List Str):Obj:=oU (oS t l)
noncomputable def oC(n q:Str)(a:Nat)(l x1:Int)(r:Nat)(l':List Value)(m:Nat):Obj:=⟨.type "code",none,.fields (List.toArray (.str n a::.str q (a+1)::.str "/claim/cut.py" (a+2)::.int l 0::.int x1 0::.int 0 0::.int 0 0::.int 3 0::.ref r::.bool true::.int 181 0::.ref (r+1)::.none::List.append l' [.int m 0,.int l 0,.str "/claim/cut.py" (m+1)])),#[]⟩
def oc(n:Str)(a:Nat)(l x1:Int)(r m:Nat):Obj:=oC n n a l x1 r [.ref (r+2),.ref (r+3),.ref (r+4)] m
def od(n:Str)(a:Nat)(l x1:Int)(r m:Nat):Obj:=oC n n a l x1 r [.none,.none,.ref (r+2)] m
noncomputable def oG(n:Str)(s:Stmt)(c:Nat):Obj:=oF n n s "law_moonseat_k39_rule_books_written" 456 c
noncomputable def oH(n:Str)(s:Stmt):Obj:=oT n n s
noncomputable def nz:Nat->List Obj->List (Nat×Obj)
 | _,[]=>[]
 | n,o::l=>(n,o)::nz (n+1) l
noncomputable def ins2:BT->Nat->Obj->BT
 | .nil,_,o=>.node o .nil .nil
 | .node v l r,i,o=>match Nat.beq i 0 with
  | true=>.node o l r
  | false=>match Nat.beq (i % 2) 1 with
   | true=>.node v (ins2 l (i / 2) o) r
   | false=>.node v l (ins2 r (i / 2 - 1) o)
def putAll(t:BT)(l:List (Nat×Obj)):BT:=l.foldl (fun t q=>ins2 t q.1 q.2) t
noncomputable def env:Env:={ scope:=pw.main.scope,locals:=mainNs,globals:=mainNs,cells:=[],code:=.ref 13,frame:=some 14 }
noncomputable def bd:List Stmt:=behindTheImports pw
def cE:Code:=.body bd env
def o0:Obj:=oU []
noncomputable def o1:Obj:=⟨.none,none,(.fields #[]),#[]⟩
def o2:Obj:=⟨.type "code",none,(fC "<module>" "<module>" 182 183 184 1 0 0 0 0 11 false 181 12 185 186),#[]⟩
noncomputable def o3:Obj:=⟨.type "frame",none,.plain,#[some (.ref 13),some (.ref 3),some (.ref 3),none,some (.str "__main__" 164),none,some (.ref 0)]⟩
noncomputable def c4(P:Params):List Obj:=[boot_o_0 P,boot_o_1 P,boot_o_2 P,boot_o_3 P,boot_o_4 P,boot_o_5 P,boot_o_6 P,boot_o_7 P]
def c5(P:Params):List Obj:=[boot_o_8 P,boot_o_9 P,boot_o_10 P,o0,o1,o2,o3]
noncomputable def c6(P:Params):List (Nat×Obj):=nz 0 [boot_o_0 P,boot_o_1 P,boot_o_2 P,boot_o_3 P,boot_o_4 P,boot_o_5 P,boot_o_6 P,boot_o_7 P]
def c7(P:Params):List (Nat×Obj):=nz 8 [boot_o_8 P,boot_o_9 P,boot_o_10 P,o0,o1,o2,o3]
def c8(P:Params):List DictEntry:=[de P "__name__" 165 (.str "moonseat.rules" 248),de P "__doc__" 166 .none,de P "__package__" 167 .none,de P "__loader__" 168 (.builtin "__main__.__loader__#opaque"),de P "__spec__" 169 .none,de P "__annotations__" 170 (.ref 6),de P "__builtins__" 171 (.ref 4),de P "__file__" 173 (.str "/claim/cut.py" 172)]
def c9(P:Params):List DictEntry:=[de P "__cached__" 174 .none,de P "VerseError" 206 (.ref 24),de P "BadRules" 222 (.ref 37),de P "BadRow" 247 (.ref 56),de P "MOST_SIZE" 251 (.int 30 250),de P "MOST_KINDS" 253 (.int 4 252),de P "MOST_SHUNS" 255 (.int 20 254),de P "MOST_BARS" 257 (.int 12 256)]
def c10(P:Params):List DictEntry:=[de P "MOST_DUES" 259 (.int 3 258),de P "MOST_RUN" 261 (.int 4 260),de P "MOST_REST" 263 (.int 4 262),de P "MOST_FAR" 265 (.int 2 264),de P "fits_kind" 275 (.ref 65),de P "fits_shun" 286 (.ref 72),de P "fits_span" 298 (.ref 79),de P "fits_counts" 309 (.ref 86)]
def c11(P:Params):List DictEntry:=[de P "fits_rows" 315 (.ref 91)]
def o12(P:Params):Obj:=⟨.type "dict",none,(.dict (List.toArray (List.append (c8 P) (List.append (c9 P) (List.append (c10 P) (c11 P))))) 25),#[]⟩
noncomputable def c13:List Value:=f3 2 0 20 (f3 4 0 33 (f3 6 0 45 (f3 19 0 64 (f3 24 0 71 (f3 29 0 78 (f3 34 0 85 (f3 38 0 90 ([]))))))))
def o14:Obj:=⟨.none,none,(.fields (List.toArray (c13))),#[]⟩
def o15:Obj:=oU [.type "ValueError"]
noncomputable def o16:Obj:=⟨.type "builtin_function_or_method",none,(.fields #[.builtin "type.__prepare__",.type "type"]),#[]⟩
def o17(P:Params):Obj:=⟨.type "dict",none,(.dict (List.toArray [de P "__module__" 196 (.str "moonseat.errors" 187),de P "__qualname__" 198 (.str "VerseError" 197),de P "__firstlineno__" 200 (.int 2 199),de P "__static_attributes__" 201 (.ref 22)]) 4),#[]⟩
def o18:Obj:=⟨.type "code",none,(fC "VerseError" "VerseError" 191 192 193 2 0 0 0 0 18 false 181 19 194 195),#[]⟩
noncomputable def o19:Obj:=⟨.type "frame",none,.plain,#[some (.ref 20),some (.ref 3),some (.ref 17),none,some (.str "moonseat.errors" 187),none,some (.ref 0)]⟩
def o20(P:Params):Obj:=⟨.type "dict",none,(.dict (List.toArray [de P "__module__" 196 (.str "moonseat.errors" 187),de P "__firstlineno__" 200 (.int 2 199),de P "__static_attributes__" 201 (.ref 22),de P "__weakref__" 203 (.ref 25),de P "__doc__" 204 .none]) 3),#[]⟩
noncomputable def o21:Obj:=⟨.type "type",none,(.cls { name := "VerseError",bases:=[.type "ValueError"],mro:=[.ref 24,.type "ValueError",.type "Exception",.type "BaseException",.type "object"],ns:=23,qualname := "VerseError",hasDict:=true,slotNames:=[],subclasses:=[.ref 37,.ref 56],abstract:=false,collection:=none,hasDel:=false }),#[some (.ref 15),none,some (.str "VerseError" 189),some (.str "VerseError" 197),some (.builtin "ValueError.__new__"),some (.bool true)]⟩
noncomputable def o22:Obj:=⟨.type "getset_descriptor",none,(.fields #[.str "__weakref__" 202,.ref 24,.builtin "ExceptionGroup.__weakref__",.none]),#[]⟩
noncomputable def o23:Obj:=⟨.type "super",none,(.fields #[.ref 24,.ref 24,.ref 24]),#[]⟩
noncomputable def o24:Obj:=⟨.type "builtin_function_or_method",none,(.fields #[.builtin "object.__init_subclass__",.ref 24]),#[]⟩
def o25:Obj:=oU [.ref 24]
def o26(P:Params):Obj:=⟨.type "dict",none,(.dict (List.toArray [de P "__module__" 214 (.str "moonseat.errors" 187),de P "__qualname__" 216 (.str "BadRules" 215),de P "__firstlineno__" 218 (.int 4 217),de P "__static_attributes__" 219 (.ref 35)]) 4),#[]⟩
def o27:Obj:=⟨.type "code",none,(fC "BadRules" "BadRules" 209 210 211 4 0 0 0 0 31 false 181 32 212 213),#[]⟩
noncomputable def o28:Obj:=⟨.type "frame",none,.plain,#[some (.ref 33),some (.ref 3),some (.ref 30),none,some (.str "moonseat.errors" 187),none,some (.ref 0)]⟩
def o29(P:Params):Obj:=⟨.type "dict",none,(.dict (List.toArray [de P "__module__" 214 (.str "moonseat.errors" 187),de P "__firstlineno__" 218 (.int 4 217),de P "__static_attributes__" 219 (.ref 35),de P "__doc__" 220 .none]) 2),#[]⟩
noncomputable def o30:Obj:=⟨.type "type",none,(.cls { name := "BadRules",bases:=[.ref 24],mro:=[.ref 37,.ref 24,.type "ValueError",.type "Exception",.type "BaseException",.type "object"],ns:=36,qualname := "BadRules",hasDict:=true,slotNames:=[],subclasses:=[],abstract:=false,collection:=none,hasDel:=false }),#[some (.ref 28),none,some (.str "BadRules" 207),some (.str "BadRules" 215),some (.builtin "ValueError.__new__"),some (.bool true)]⟩
noncomputable def o31:Obj:=⟨.type "super",none,(.fields #[.ref 37,.ref 37,.ref 37]),#[]⟩
noncomputable def o32:Obj:=⟨.type "builtin_function_or_method",none,(.fields #[.builtin "object.__init_subclass__",.ref 37]),#[]⟩
def o33(P:Params):Obj:=⟨.type "dict",none,(.dict (List.toArray [de P "__module__" 230 (.str "moonseat.errors" 187),de P "__qualname__" 232 (.str "BadRow" 231),de P "__firstlineno__" 234 (.int 6 233),de P "__init__" 242 (.ref 53),de P "__static_attributes__" 244 (.ref 54)]) 5),#[]⟩
noncomputable def o34:Obj:=⟨.none,none,(.fields #[.int 8 0,.int 4 0,.ref 52]),#[]⟩
def o35:Obj:=⟨.type "code",none,(fC "BadRow" "BadRow" 225 226 227 6 0 0 0 0 43 false 181 44 228 229),#[]⟩
noncomputable def o36:Obj:=⟨.type "frame",none,.plain,#[some (.ref 45),some (.ref 3),some (.ref 42),none,some (.str "moonseat.errors" 187),none,some (.ref 0)]⟩
def o37:Obj:=oV 238 ["self", "at"]
def o38:Obj:=oT "__init__" "BadRow.__init__" (inClass (top 3) 0)
def o39:Obj:=oC "__init__" "BadRow.__init__" 235 8 2 47 [.ref 49,.ref 50,.ref 51] 240
def o40:Obj:=oF "__init__" "BadRow.__init__" (inClass (top 3) 0) "moonseat.errors" 187 52
def o41:Obj:=oV 243 ["at"]
def o42(P:Params):Obj:=⟨.type "dict",none,(.dict (List.toArray [de P "__module__" 230 (.str "moonseat.errors" 187),de P "__firstlineno__" 234 (.int 6 233),de P "__init__" 242 (.ref 53),de P "__static_attributes__" 244 (.ref 54),de P "__doc__" 245 .none]) 2),#[]⟩
noncomputable def o43:Obj:=⟨.type "type",none,(.cls { name := "BadRow",bases:=[.ref 24],mro:=[.ref 56,.ref 24,.type "ValueError",.type "Exception",.type "BaseException",.type "object"],ns:=55,qualname := "BadRow",hasDict:=true,slotNames:=[],subclasses:=[],abstract:=false,collection:=none,hasDel:=false }),#[some (.ref 40),none,some (.str "BadRow" 223),some (.str "BadRow" 231),some (.builtin "ValueError.__new__"),some (.bool true)]⟩
noncomputable def o44:Obj:=⟨.type "super",none,(.fields #[.ref 56,.ref 56,.ref 56]),#[]⟩
noncomputable def o45:Obj:=⟨.type "builtin_function_or_method",none,(.fields #[.builtin "object.__init_subclass__",.ref 56]),#[]⟩
def o46:Obj:=oV 269 ["row", "least", "most", "rest"]
def o47:Obj:=oH "fits_kind" (top 13)
def o48:Obj:=oc "fits_kind" 266 19 1 59 273
def o49:Obj:=oF "fits_kind" "fits_kind" (top 13) "moonseat.rules" 248 64
def o50:Obj:=oV 279 ["row", "many", "one", "other", "far"]
def o51:Obj:=oH "fits_shun" (top 14)
def o52:Obj:=oc "fits_shun" 276 24 2 66 284
def o53:Obj:=oF "fits_shun" "fits_shun" (top 14) "moonseat.rules" 248 71
def o54:Obj:=oV 290 ["row", "many", "size", "kind", "first", "last"]
def o55:Obj:=oH "fits_span" (top 15)
def o56:Obj:=oc "fits_span" 287 29 3 73 296
def o57:Obj:=oF "fits_span" "fits_span" (top 15) "moonseat.rules" 248 78
def o58:Obj:=oV 302 ["size", "kinds", "shuns", "bars", "dues"]
def o59:Obj:=oH "fits_counts" (top 16)
def o60:Obj:=oc "fits_counts" 299 34 5 80 307
def o61:Obj:=oF "fits_counts" "fits_counts" (top 16) "moonseat.rules" 248 85
def o62:Obj:=oH "fits_rows" (top 17)
def o63:Obj:=od "fits_rows" 310 38 5 87 313
def o64:Obj:=oF "fits_rows" "fits_rows" (top 17) "moonseat.rules" 248 90
def c65(P:Params):List (Nat×Obj):=List.append [(3,o12 P),(12,o14)] (nz 15 [o15,o16,o17 P,o0,o1,o18])
def c66(P:Params):List (Nat×Obj):=nz 21 [o19,o0,o20 P,o21,o22,o23,o24,o25]
def c67(P:Params):List (Nat×Obj):=nz 29 [o16,o26 P,o0,o1,o27,o28,o0,o29 P]
def c68(P:Params):List (Nat×Obj):=nz 37 [o30,o31,o32,o25,o16,o33 P,o0,o34]
def c69:List (Nat×Obj):=nz 45 [o35,o36,o0,o1,o37,o0,o38,o39]
def c70(P:Params):List (Nat×Obj):=nz 53 [o40,o41,o42 P,o43,o44,o45,o0,o1]
def c71:List (Nat×Obj):=nz 61 [o46,o0,o47,o48,o49,o0,o1,o50]
def c72:List (Nat×Obj):=nz 69 [o0,o51,o52,o53,o0,o1,o54,o0]
def c73:List (Nat×Obj):=nz 77 [o55,o56,o57,o0,o1,o58,o0,o59]
def c74:List (Nat×Obj):=nz 85 [o60,o61,o0,o1,o62,o63,o64]
def c75(P:Params):List DictEntry:=[de P "__name__" 165 (.str "law_moonseat_k39_rule_books_written" 456),de P "__doc__" 166 .none,de P "__package__" 167 .none,de P "__loader__" 168 (.builtin "__main__.__loader__#opaque"),de P "__spec__" 169 .none,de P "__annotations__" 170 (.ref 6),de P "__builtins__" 171 (.ref 4),de P "__file__" 173 (.str "/claim/cut.py" 172)]
def c76(P:Params):List DictEntry:=[de P "fits_rows" 315 (.ref 91),de P "Rules" 387 (.ref 143),de P "MOST_FIGURES" 391 (.int 4 390),de P "PARTS" 396 (.ref 148),de P "row_text" 402 (.ref 153),de P "rules_text" 408 (.ref 158),de P "is_number" 414 (.ref 163),de P "read_size" 424 (.ref 170)]
def c77(P:Params):List DictEntry:=[de P "read_part" 430 (.ref 175),de P "with_row" 442 (.ref 182),de P "read_rules" 455 (.ref 189),de P "_law_numbers" 470 (.ref 196),de P "_law_same" 476 (.ref 201),de P "_law_windows" 489 (.ref 208),de P "_law_made" 496 (.ref 215),de P "_law_wide" 510 (.ref 222)]
def c78(P:Params):List DictEntry:=[de P "_law_rows" 523 (.ref 229),de P "law" 535 (.ref 236)]
def o79(P:Params):Obj:=⟨.type "dict",none,(.dict (List.toArray (List.append (c75 P) (List.append (c9 P) (List.append (c10 P) (List.append (c76 P) (List.append (c77 P) (c78 P))))))) 42),#[]⟩
noncomputable def c80:List Value:=f3 45 0 97 (f3 75 0 152 (f3 77 0 157 (f3 83 0 162 (f3 87 0 169 (f3 92 0 174 (f3 97 0 181 (f3 109 0 188 ([]))))))))
noncomputable def c81:List Value:=f3 124 0 195 (f3 140 0 200 (f3 150 0 207 (f3 156 0 214 (f3 158 0 221 (f3 170 0 228 (f3 176 0 235 ([])))))))
def o82:Obj:=⟨.none,none,(.fields (List.toArray (List.append (c13) (List.append (c80) (c81))))),#[]⟩
def c83(P:Params):List DictEntry:=[de P "__module__" 323 (.str "moonseat.rules" 248),de P "__qualname__" 325 (.str "Rules" 324),de P "__firstlineno__" 327 (.int 45 326),de P "__init__" 339 (.ref 105),de P "kinds" 346 (.ref 112),de P "shuns" 353 (.ref 119),de P "bars" 360 (.ref 126),de P "dues" 367 (.ref 133)]
def c84(P:Params):List DictEntry:=[de P "many" 374 (.ref 140),de P "__static_attributes__" 380 (.ref 141)]
def o85(P:Params):Obj:=⟨.type "dict",none,(.dict (List.toArray (List.append (c83 P) (c84 P))) 10),#[]⟩
noncomputable def c86:List Value:=f3 47 4 104 (f3 58 4 111 (f3 61 4 118 (f3 64 4 125 (f3 67 4 132 (f3 70 4 139 ([]))))))
def o87:Obj:=⟨.none,none,(.fields (List.toArray (c86))),#[]⟩
def o88:Obj:=⟨.type "code",none,(fC "Rules" "Rules" 318 319 320 45 0 0 0 0 95 false 181 96 321 322),#[]⟩
noncomputable def o89:Obj:=⟨.type "frame",none,.plain,#[some (.ref 97),some (.ref 3),some (.ref 94),none,some (.str "moonseat.rules" 248),none,some (.ref 0)]⟩
def o90:Obj:=oV 331 ["self", "size", "kinds", "shuns", "bars", "dues"]
def o91:Obj:=oT "__init__" "Rules.__init__" (inClass (top 18) 0)
def o92:Obj:=oC "__init__" "Rules.__init__" 328 47 6 99 [.ref 101,.ref 102,.ref 103] 337
def o93:Obj:=oF "__init__" "Rules.__init__" (inClass (top 18) 0) "moonseat.rules" 248 104
def o94:Obj:=oV 343 ["self"]
def o95:Obj:=oT "kinds" "Rules.kinds" (inClass (top 18) 1)
def o96:Obj:=oC "kinds" "Rules.kinds" 340 58 1 106 [.ref 108,.ref 109,.ref 110] 344
def o97:Obj:=oF "kinds" "Rules.kinds" (inClass (top 18) 1) "moonseat.rules" 248 111
def o98:Obj:=oV 350 ["self"]
def o99:Obj:=oT "shuns" "Rules.shuns" (inClass (top 18) 2)
def o100:Obj:=oC "shuns" "Rules.shuns" 347 61 1 113 [.ref 115,.ref 116,.ref 117] 351
def o101:Obj:=oF "shuns" "Rules.shuns" (inClass (top 18) 2) "moonseat.rules" 248 118
def o102:Obj:=oV 357 ["self"]
def o103:Obj:=oT "bars" "Rules.bars" (inClass (top 18) 3)
def o104:Obj:=oC "bars" "Rules.bars" 354 64 1 120 [.ref 122,.ref 123,.ref 124] 358
def o105:Obj:=oF "bars" "Rules.bars" (inClass (top 18) 3) "moonseat.rules" 248 125
def o106:Obj:=oV 364 ["self"]
def o107:Obj:=oT "dues" "Rules.dues" (inClass (top 18) 4)
def o108:Obj:=oC "dues" "Rules.dues" 361 67 1 127 [.ref 129,.ref 130,.ref 131] 365
def o109:Obj:=oF "dues" "Rules.dues" (inClass (top 18) 4) "moonseat.rules" 248 132
def o110:Obj:=oV 371 ["self"]
def o111:Obj:=oT "many" "Rules.many" (inClass (top 18) 5)
def o112:Obj:=oC "many" "Rules.many" 368 70 1 134 [.ref 136,.ref 137,.ref 138] 372
def o113:Obj:=oF "many" "Rules.many" (inClass (top 18) 5) "moonseat.rules" 248 139
def o114:Obj:=oV 375 ["bar_rows", "due_rows", "kind_rows", "shun_rows", "size"]
def c115(P:Params):List DictEntry:=[de P "__module__" 323 (.str "moonseat.rules" 248),de P "__firstlineno__" 327 (.int 45 326),de P "__init__" 339 (.ref 105),de P "kinds" 346 (.ref 112),de P "shuns" 353 (.ref 119),de P "bars" 360 (.ref 126),de P "dues" 367 (.ref 133),de P "many" 374 (.ref 140)]
def c116(P:Params):List DictEntry:=[de P "__static_attributes__" 380 (.ref 141),de P "__dict__" 382 (.ref 144),de P "__weakref__" 384 (.ref 145),de P "__doc__" 385 .none]
def o117(P:Params):Obj:=⟨.type "dict",none,(.dict (List.toArray (List.append (c115 P) (c116 P))) 4),#[]⟩
noncomputable def o118:Obj:=⟨.type "type",none,(.cls { name := "Rules",bases:=[.type "object"],mro:=[.ref 143,.type "object"],ns:=142,qualname := "Rules",hasDict:=true,slotNames:=[],subclasses:=[],abstract:=false,collection:=none,hasDel:=false }),#[none,none,some (.str "Rules" 316),some (.str "Rules" 324),some (.builtin "object.__new__"),some (.bool true)]⟩
noncomputable def o119:Obj:=⟨.type "getset_descriptor",none,(.fields #[.str "__dict__" 381,.ref 143,.builtin "function.__dict__",.builtin "function.__dict__#set"]),#[]⟩
noncomputable def o120:Obj:=⟨.type "getset_descriptor",none,(.fields #[.str "__weakref__" 383,.ref 143,.builtin "ExceptionGroup.__weakref__",.none]),#[]⟩
noncomputable def o121:Obj:=⟨.type "super",none,(.fields #[.ref 143,.ref 143,.ref 143]),#[]⟩
noncomputable def o122:Obj:=⟨.type "builtin_function_or_method",none,(.fields #[.builtin "object.__init_subclass__",.ref 143]),#[]⟩
def o123:Obj:=oV 392 ["kind", "shun", "bar", "due"]
def o124:Obj:=oH "row_text" (top 22)
def o125:Obj:=od "row_text" 397 75 2 149 400
def o126:Obj:=oF "row_text" "row_text" (top 22) "moonseat.notes" 388 152
def o127:Obj:=oH "rules_text" (top 23)
def o128:Obj:=od "rules_text" 403 77 1 154 406
def o129:Obj:=oF "rules_text" "rules_text" (top 23) "moonseat.notes" 388 157
def o130:Obj:=oH "is_number" (top 24)
def o131:Obj:=od "is_number" 409 83 1 159 412
def o132:Obj:=oF "is_number" "is_number" (top 24) "moonseat.notes" 388 162
def o133:Obj:=oV 418 ["row", "word", "blank", "number"]
def o134:Obj:=oH "read_size" (top 25)
def o135:Obj:=oc "read_size" 415 87 1 164 422
def o136:Obj:=oF "read_size" "read_size" (top 25) "moonseat.notes" 388 169
def o137:Obj:=oH "read_part" (top 26)
def o138:Obj:=od "read_part" 425 92 1 171 428
def o139:Obj:=oF "read_part" "read_part" (top 26) "moonseat.notes" 388 174
def o140:Obj:=oV 434 ["size", "lists", "row", "part", "at", "triple"]
def o141:Obj:=oH "with_row" (top 27)
def o142:Obj:=oc "with_row" 431 97 3 176 440
def o143:Obj:=oF "with_row" "with_row" (top 27) "moonseat.notes" 388 181
def o144:Obj:=oV 446 ["text", "rows", "size", "lists", "rules", "at", "row"]
def o145:Obj:=oH "read_rules" (top 28)
def o146:Obj:=oc "read_rules" 443 109 1 183 453
def o147:Obj:=oF "read_rules" "read_rules" (top 28) "moonseat.notes" 388 188
def o148:Obj:=oV 461 ["_law_script", "_law_many", "_law_row", "_law_seed", "_law_cell", "_law_rest", "_law_k"]
def o149:Obj:=oH "_law_numbers" (top 30)
def o150:Obj:=oc "_law_numbers" 458 124 2 190 468
def o151:Obj:=oG "_law_numbers" (top 30) 195
def o152:Obj:=oH "_law_same" (top 31)
def o153:Obj:=od "_law_same" 471 140 2 197 474
def o154:Obj:=oG "_law_same" (top 31) 200
def o155:Obj:=oV 480 ["_law_many", "_law_size", "_law_count", "_law_d", "_law_rows_here", "_law_k", "_law_first"]
def o156:Obj:=oH "_law_windows" (top 32)
def o157:Obj:=oc "_law_windows" 477 150 4 202 487
def o158:Obj:=oG "_law_windows" (top 32) 207
def o159:Obj:=oV 493 ["_law_book"]
def o160:Obj:=oH "_law_made" (top 33)
def o161:Obj:=oc "_law_made" 490 156 1 209 494
def o162:Obj:=oG "_law_made" (top 33) 214
def o163:Obj:=oV 500 ["_law_d", "_law_many", "_law_size", "_law_kinds", "_law_k", "_law_least", "_law_shuns", "_law_bars"]
def o164:Obj:=oH "_law_wide" (top 34)
def o165:Obj:=oc "_law_wide" 497 158 1 216 508
def o166:Obj:=oG "_law_wide" (top 34) 221
def o167:Obj:=oV 514 ["_law_book", "_law_rows_here", "_law_word", "_law_triples", "_law_one", "_law_two", "_law_three"]
def o168:Obj:=oH "_law_rows" (top 35)
def o169:Obj:=oc "_law_rows" 511 170 1 223 521
def o170:Obj:=oG "_law_rows" (top 35) 228
def o171:Obj:=oV 527 ["_law_script", "_law_numbers_here", "_law_book", "_law_text", "_law_found", "_law_told"]
def o172:Obj:=oH "law" (top 36)
def o173:Obj:=oc "law" 524 176 1 230 533
def o174:Obj:=oG "law" (top 36) 235
def c175(P:Params):List (Nat×Obj):=List.append [(3,o79 P),(12,o82)] (nz 92 [o0,o16,o85 P,o0,o87,o88])
def c176:List (Nat×Obj):=nz 98 [o89,o0,o1,o90,o0,o91,o92,o93]
def c177:List (Nat×Obj):=nz 106 [o0,o1,o94,o0,o95,o96,o97,o0]
def c178:List (Nat×Obj):=nz 114 [o1,o98,o0,o99,o100,o101,o0,o1]
def c179:List (Nat×Obj):=nz 122 [o102,o0,o103,o104,o105,o0,o1,o106]
def c180:List (Nat×Obj):=nz 130 [o0,o107,o108,o109,o0,o1,o110,o0]
def c181(P:Params):List (Nat×Obj):=nz 138 [o111,o112,o113,o114,o117 P,o118,o119,o120]
def c182:List (Nat×Obj):=nz 146 [o121,o122,o123,o0,o1,o124,o125,o126]
def c183:List (Nat×Obj):=nz 154 [o0,o1,o127,o128,o129,o0,o1,o130]
def c184:List (Nat×Obj):=nz 162 [o131,o132,o0,o1,o133,o0,o134,o135]
def c185:List (Nat×Obj):=nz 170 [o136,o0,o1,o137,o138,o139,o0,o1]
def c186:List (Nat×Obj):=nz 178 [o140,o0,o141,o142,o143,o0,o1,o144]
def c187:List (Nat×Obj):=nz 186 [o0,o145,o146,o147,o0,o1,o148,o0]
def c188:List (Nat×Obj):=nz 194 [o149,o150,o151,o0,o1,o152,o153,o154]
def c189:List (Nat×Obj):=nz 202 [o0,o1,o155,o0,o156,o157,o158,o0]
def c190:List (Nat×Obj):=nz 210 [o1,o159,o0,o160,o161,o162,o0,o1]
def c191:List (Nat×Obj):=nz 218 [o163,o0,o164,o165,o166,o0,o1,o167]
def c192:List (Nat×Obj):=nz 226 [o0,o168,o169,o170,o0,o1,o171,o0]
def c193:List (Nat×Obj):=nz 234 [o172,o173,o174]
def c194(P:Params):List Obj:=[boot_o_0 P,boot_o_1 P,boot_o_2 P,o79 P,boot_o_4 P,boot_o_5 P,boot_o_6 P,boot_o_7 P]
def c195(P:Params):List Obj:=[boot_o_8 P,boot_o_9 P,boot_o_10 P,o0,o82,o2,o3,o15]
def c196(P:Params):List Obj:=[o16,o17 P,o0,o1,o18,o19,o0,o20 P]
def c197(P:Params):List Obj:=[o21,o22,o23,o24,o25,o16,o26 P,o0]
def c198(P:Params):List Obj:=[o1,o27,o28,o0,o29 P,o30,o31,o32]
def c199(P:Params):List Obj:=[o25,o16,o33 P,o0,o34,o35,o36,o0]
def c200(P:Params):List Obj:=[o1,o37,o0,o38,o39,o40,o41,o42 P]
def c201:List Obj:=[o43,o44,o45,o0,o1,o46,o0,o47]
def c202:List Obj:=[o48,o49,o0,o1,o50,o0,o51,o52]
def c203:List Obj:=[o53,o0,o1,o54,o0,o55,o56,o57]
def c204:List Obj:=[o0,o1,o58,o0,o59,o60,o61,o0]
def c205(P:Params):List Obj:=[o1,o62,o63,o64,o0,o16,o85 P,o0]
def c206:List Obj:=[o87,o88,o89,o0,o1,o90,o0,o91]
def c207:List Obj:=[o92,o93,o0,o1,o94,o0,o95,o96]
def c208:List Obj:=[o97,o0,o1,o98,o0,o99,o100,o101]
def c209:List Obj:=[o0,o1,o102,o0,o103,o104,o105,o0]
def c210:List Obj:=[o1,o106,o0,o107,o108,o109,o0,o1]
def c211(P:Params):List Obj:=[o110,o0,o111,o112,o113,o114,o117 P,o118]
def c212:List Obj:=[o119,o120,o121,o122,o123,o0,o1,o124]
def c213:List Obj:=[o125,o126,o0,o1,o127,o128,o129,o0]
def c214:List Obj:=[o1,o130,o131,o132,o0,o1,o133,o0]
def c215:List Obj:=[o134,o135,o136,o0,o1,o137,o138,o139]
def c216:List Obj:=[o0,o1,o140,o0,o141,o142,o143,o0]
def c217:List Obj:=[o1,o144,o0,o145,o146,o147,o0,o1]
def c218:List Obj:=[o148,o0,o149,o150,o151,o0,o1,o152]
def c219:List Obj:=[o153,o154,o0,o1,o155,o0,o156,o157]
def c220:List Obj:=[o158,o0,o1,o159,o0,o160,o161,o162]
def c221:List Obj:=[o0,o1,o163,o0,o164,o165,o166,o0]
def c222:List Obj:=[o1,o167,o0,o168,o169,o170,o0,o1]
def c223:List Obj:=[o171,o0,o172,o173,o174]
noncomputable def o224:Obj:=⟨.none,none,(.dict (List.toArray []) 0),#[]⟩
def hA(P:Params):Heap:=⟨⟨(List.append (c4 P) (c5 P))⟩,{}⟩
def t0(P:Params):BT:=putAll .nil (List.append (c6 P) (c7 P))
def t1(P:Params):BT:=putAll (t0 P) (List.append (c65 P) (List.append (c66 P) (List.append (c67 P) (List.append (c68 P) (List.append (c69) (List.append (c70 P) (List.append (c71) (List.append (c72) (List.append (c73) (c74))))))))))
def t2(P:Params):BT:=putAll (t1 P) (List.append (c175 P) (List.append (c176) (List.append (c177) (List.append (c178) (List.append (c179) (List.append (c180) (List.append (c181 P) (List.append (c182) (List.append (c183) (List.append (c184) (List.append (c185) (List.append (c186) (List.append (c187) (List.append (c188) (List.append (c189) (List.append (c190) (List.append (c191) (List.append (c192) (c193)))))))))))))))))))
def sts0:List Stmt:=[top 0,top 1,top 2,top 3,top 4,top 5,top 6,top 7,top 8,top 9,top 10,top 11,top 12,top 13,top 14,top 15,top 16,top 17]
def sts1:List Stmt:=[top 18,top 19,top 20,top 21,top 22,top 23,top 24,top 25,top 26,top 27,top 28,top 29,top 30,top 31,top 32,top 33,top 34,top 35,top 36]
def hF(P:Params):Heap:=⟨⟨(List.append (c194 P) (List.append (c195 P) (List.append (c196 P) (List.append (c197 P) (List.append (c198 P) (List.append (c199 P) (List.append (c200 P) (List.append (c201) (List.append (c202) (List.append (c203) (List.append (c204) (List.append (c205 P) (List.append (c206) (List.append (c207) (List.append (c208) (List.append (c209) (List.append (c210) (List.append (c211 P) (List.append (c212) (List.append (c213) (List.append (c214) (List.append (c215) (List.append (c216) (List.append (c217) (List.append (c218) (List.append (c219) (List.append (c220) (List.append (c221) (List.append (c222) (c223))))))))))))))))))))))))))))))⟩,{}⟩
def K(P:Params):Frag:=((nat_lit 2,o224)::(nat_lit 3,o79 P)::(nat_lit 15,o15)::(nat_lit 22,o0)::(nat_lit 23,o20 P)::(nat_lit 24,o21)::(nat_lit 25,o22)::(nat_lit 28,o25)::(nat_lit 35,o0)::(nat_lit 36,o29 P)::(nat_lit 37,o30)::(nat_lit 40,o25)::(nat_lit 47,o0)::(nat_lit 49,o37)::(nat_lit 50,o0)::(nat_lit 52,o39)::(nat_lit 53,o40)::(nat_lit 54,o41)::(nat_lit 55,o42 P)::(nat_lit 56,o43)::(nat_lit 59,o0)::(nat_lit 61,o46)::(nat_lit 62,o0)::(nat_lit 64,o48)::(nat_lit 65,o49)::(nat_lit 66,o0)::(nat_lit 68,o50)::(nat_lit 69,o0)::(nat_lit 71,o52)::(nat_lit 72,o53)::(nat_lit 73,o0)::(nat_lit 75,o54)::(nat_lit 76,o0)::(nat_lit 78,o56)::(nat_lit 79,o57)::(nat_lit 80,o0)::(nat_lit 82,o58)::(nat_lit 83,o0)::(nat_lit 85,o60)::(nat_lit 86,o61)::(nat_lit 87,o0)::(nat_lit 90,o63)::(nat_lit 91,o64)::(nat_lit 99,o0)::(nat_lit 101,o90)::(nat_lit 102,o0)::(nat_lit 104,o92)::(nat_lit 105,o93)::(nat_lit 106,o0)::(nat_lit 108,o94)::(nat_lit 109,o0)::(nat_lit 111,o96)::(nat_lit 112,o97)::(nat_lit 113,o0)::(nat_lit 115,o98)::(nat_lit 116,o0)::(nat_lit 118,o100)::(nat_lit 119,o101)::(nat_lit 120,o0)::(nat_lit 122,o102)::(nat_lit 123,o0)::(nat_lit 125,o104)::(nat_lit 126,o105)::(nat_lit 127,o0)::(nat_lit 129,o106)::(nat_lit 130,o0)::(nat_lit 132,o108)::(nat_lit 133,o109)::(nat_lit 134,o0)::(nat_lit 136,o110)::(nat_lit 137,o0)::(nat_lit 139,o112)::(nat_lit 140,o113)::(nat_lit 141,o114)::(nat_lit 142,o117 P)::(nat_lit 143,o118)::(nat_lit 144,o119)::(nat_lit 145,o120)::(nat_lit 148,o123)::(nat_lit 149,o0)::(nat_lit 152,o125)::(nat_lit 153,o126)::(nat_lit 154,o0)::(nat_lit 157,o128)::(nat_lit 158,o129)::(nat_lit 159,o0)::(nat_lit 162,o131)::(nat_lit 163,o132)::(nat_lit 164,o0)::(nat_lit 166,o133)::(nat_lit 167,o0)::(nat_lit 169,o135)::(nat_lit 170,o136)::(nat_lit 171,o0)::(nat_lit 174,o138)::(nat_lit 175,o139)::(nat_lit 176,o0)::(nat_lit 178,o140)::(nat_lit 179,o0)::(nat_lit 181,o142)::(nat_lit 182,o143)::(nat_lit 183,o0)::(nat_lit 185,o144)::(nat_lit 186,o0)::(nat_lit 188,o146)::(nat_lit 189,o147)::(nat_lit 190,o0)::(nat_lit 192,o148)::(nat_lit 193,o0)::(nat_lit 195,o150)::(nat_lit 196,o151)::(nat_lit 197,o0)::(nat_lit 200,o153)::(nat_lit 201,o154)::(nat_lit 202,o0)::(nat_lit 204,o155)::(nat_lit 205,o0)::(nat_lit 207,o157)::(nat_lit 208,o158)::(nat_lit 209,o0)::(nat_lit 211,o159)::(nat_lit 212,o0)::(nat_lit 214,o161)::(nat_lit 215,o162)::(nat_lit 216,o0)::(nat_lit 218,o163)::(nat_lit 219,o0)::(nat_lit 221,o165)::(nat_lit 222,o166)::(nat_lit 223,o0)::(nat_lit 225,o167)::(nat_lit 226,o0)::(nat_lit 228,o169)::(nat_lit 229,o170)::(nat_lit 230,o0)::(nat_lit 232,o171)::(nat_lit 233,o0)::(nat_lit 235,o173)::(nat_lit 236,o174)::[])
noncomputable def kA:List Addr:=(2::3::15::22::23::24::25::28::35::36::37::40::47::49::50::52::53::54::55::56::59::61::62::64::65::66::68::69::71::72::73::75::76::78::79::80::82::83::85::86::87::90::91::99::101::102::104::105::106::108::109::111::112::113::115::116::118::119::120::122::123::125::126::127::129::130::132::133::134::136::137::139::140::141::142::143::144::145::148::149::152::153::154::157::158::159::162::163::164::166::167::169::170::171::174::175::176::178::179::181::182::183::185::186::188::189::190::192::193::195::196::197::200::201::202::204::205::207::208::209::211::212::214::215::216::218::219::221::222::223::225::226::228::229::230::232::233::235::236::[])
theorem kOk:∀P,kA=(K P).map (·.1):=fun _=>by kernel_rfl
def q:Program:={ pw with main:={ pw.main with body:=(top 1::top 2::top 3::top 5::top 6::top 7::top 8::top 9::top 10::top 11::top 12::top 13::top 14::top 15::top 16::top 17::top 18::top 20::top 21::top 22::top 23::top 24::top 25::top 26::top 27::top 28::top 30::top 31::top 32::top 33::top 34::top 35::top 36::[]) } }
noncomputable abbrev Xt:Shared->Bool:=fun s=>xlAt q [] s&&recOk (RowW.records (OpenRow.toRowW (OpenLaw.row PySem.Challenge.rw_moonseat_k39_rule_books_written))) s
noncomputable def G2(p:Program)(w:World)(m:Nat)(an:Option Value)(n:Nat)(s:Shared)(t:Thread):=segRun treeTable p w m an 1 n s t
lay_quick G2
theorem g2{p:Program}{w:World}{m:Nat}{an:Option Value}{n:Nat}{s:Shared}{t:Thread}{r}(e:PySem.W.Fast.tw10880070632800087129 p w m an n s t=r):segRun treeTable p w m an 1 n s t=r:=by rw[<-PySem.W.Fast.te10880070632800087129]at e;exact e
noncomputable def G3(p:Program)(w:World)(m:Nat)(an:Option Value)(n:Nat)(s:SharedT)(t:Thread):=segRunT treeTable p w m an 1 n s t
lay_quick G3
theorem g3{p:Program}{w:World}{m:Nat}{an:Option Value}{n:Nat}{s:SharedT}{t:Thread}{r}(e:PySem.W.Fast.tw4145583888436359099 p w m an n s t=r):segRunT treeTable p w m an 1 n s t=r:=by rw[<-PySem.W.Fast.te4145583888436359099]at e;exact e
noncomputable def G4(p:Program)(w:World)(m:Nat)(an:Option Value)(n:Nat)(s:Shared)(t:Thread):=topRun treeTable p w m an n s t
lay_quick G4
theorem g4{p:Program}{w:World}{m:Nat}{an:Option Value}{n:Nat}{s:Shared}{t:Thread}{r}(e:PySem.W.Fast.tw6531939937263253831 p w m an n s t=r):topRun treeTable p w m an n s t=r:=by rw[<-PySem.W.Fast.te6531939937263253831]at e;exact e
noncomputable def G7(p:Program)(g h:Heap)(s:Shared):=(staticsOk (importedModules p.main.body) g h&&namesBound p h&&gensDone s&&laidKept g h)
lay_quick G7
theorem g7{p:Program}{g h:Heap}{s:Shared}{r}(e:PySem.W.Fast.tw9566738594451217396 p g h s=r):(staticsOk (importedModules p.main.body) g h&&namesBound p h&&gensDone s&&laidKept g h)=r:=by rw[<-PySem.W.Fast.te9566738594451217396]at e;exact e
noncomputable def G9(h:Heap):=(h.isNs mainGlobals&&(Array.mk []:Array GenState).size==0,h.objs.size,h.nsMap mainGlobals "__annotations__")
lay_quick G9
theorem g9{h:Heap}{r}(e:PySem.W.Fast.tw14578262778655688011 h=r):(h.isNs mainGlobals&&(Array.mk []:Array GenState).size==0,h.objs.size,h.nsMap mainGlobals "__annotations__")=r:=by rw[<-PySem.W.Fast.te14578262778655688011]at e;exact e
noncomputable def G5(q:Program)(R:WRecords)(md:List Str)(s:Shared):=(openSeen q [] md (fun s=>xlAt q [] s&&recOk R s) true s)
noncomputable def G6(q:Program):=openGood q []
lay_quick G5 G6
theorem g5{q:Program}{R:WRecords}{md:List Str}{s:Shared}{α:Type}(f:_->α)(e:f (PySem.W.Fast.tw5989712690265804088 q R md s)=f (PySem.W.Fast.tw12956129408465502666 q)):f (openSeen q [] md (fun s=>xlAt q [] s&&recOk R s) true s)=f (openGood q []):=by rw[<-PySem.W.Fast.te5989712690265804088,<-PySem.W.Fast.te12956129408465502666]at e;exact e
noncomputable def Lpre(w:World)(os:OsState):=topGo treeTable pw w 11 (some (.ref 6)) 12 (⟨boot_heap w.params,Array.mk [],boot_drawn,boot_toks,os⟩:Shared) (topStub pw)
def Rpre(w:World)(os:OsState):=some ((⟨hA w.params,Array.mk [],{},187,os⟩:Shared),(⟨denote treeTable cE,cE,(⟨0,0,0,0⟩:Pos),[topFrame (⟨0,0,0,0⟩:Pos)]⟩:Thread))
lay_quick Lpre Rpre
theorem Qpre:Lpre=Rpre:=PySem.W.Fast.te10476676399240795362.trans ((by kernel_rfl:PySem.W.Fast.tw10476676399240795362=PySem.W.Fast.tw9996742816549557572).trans PySem.W.Fast.te9996742816549557572.symm)
theorem Ppre(w:World)(os:OsState):topGo treeTable pw w 11 (some (.ref 6)) 12 (⟨boot_heap w.params,Array.mk [],boot_drawn,boot_toks,os⟩:Shared) (topStub pw)=some ((⟨hA w.params,Array.mk [],{},187,os⟩:Shared),(⟨denote treeTable cE,cE,(⟨0,0,0,0⟩:Pos),[topFrame (⟨0,0,0,0⟩:Pos)]⟩:Thread)):=congrFun (congrFun Qpre w) os
theorem Pblk(w:World)(os:OsState):segRun treeTable pw w 11 (some (.ref 6)) 1 1 (⟨hA w.params,Array.mk [],{},187,os⟩:Shared) (blockOf bd env cE (⟨0,0,0,0⟩:Pos) [topFrame (⟨0,0,0,0⟩:Pos)])=some (Flow.next,SharedT.abs (⟨t0 w.params,15,{},Array.mk [],{},187,os⟩:SharedT),cE,(⟨0,0,0,0⟩:Pos)):=g2 (by kernel_rfl)
theorem P0(w:World)(os:OsState):segRunT treeTable pw w 11 (some (.ref 6)) 1 893 (⟨t0 w.params,15,{},Array.mk [],{},187,os⟩:SharedT) (piecesOf sts0 env cE (⟨0,0,0,0⟩:Pos) [topFrame (⟨0,0,0,0⟩:Pos)])=some (Flow.next,(⟨t1 w.params,92,{},Array.mk [],{},316,os⟩:SharedT),cE,(⟨38,0,44,67⟩:Pos)):=g3 (by kernel_rfl)
theorem P1(w:World)(os:OsState):segRunT treeTable pw w 11 (some (.ref 6)) 1 862 (⟨t1 w.params,92,{},Array.mk [],{},316,os⟩:SharedT) (piecesOf sts1 env cE (⟨38,0,44,67⟩:Pos) [topFrame (⟨0,0,0,0⟩:Pos)])=some (Flow.next,(⟨t2 w.params,237,{},Array.mk [],{},536,os⟩:SharedT),cE,(⟨176,0,184,88⟩:Pos)):=g3 (by kernel_rfl)
theorem Pfin(w:World)(os:OsState):topRun treeTable pw w 11 (some (.ref 6)) 2 (SharedT.abs (⟨t2 w.params,237,{},Array.mk [],{},536,os⟩:SharedT)) (⟨doneF .next,cE,(⟨176,0,184,88⟩:Pos),[topFrame (⟨0,0,0,0⟩:Pos)]⟩:Thread)=some (⟨hF w.params,Array.mk [],{},536,os⟩:Shared):=g4 (by kernel_rfl)
theorem Pc0(w:World)(os:OsState):(openSeen q [] (importedModules pw.main.body) Xt true (⟨hF w.params,Array.mk [],{},536,os⟩:Shared)).1=(openGood q []).1:=g5 (·.1) (by kernel_rfl)
theorem Pc1(w:World)(os:OsState):(openSeen q [] (importedModules pw.main.body) Xt true (⟨hF w.params,Array.mk [],{},536,os⟩:Shared)).2.1=(openGood q []).2.1:=g5 (·.2.1) (by kernel_rfl)
theorem Pc2(w:World)(os:OsState):(openSeen q [] (importedModules pw.main.body) Xt true (⟨hF w.params,Array.mk [],{},536,os⟩:Shared)).2.2.1=(openGood q []).2.2.1:=g5 (·.2.2.1) (by kernel_rfl)
theorem Pc3(w:World)(os:OsState):(openSeen q [] (importedModules pw.main.body) Xt true (⟨hF w.params,Array.mk [],{},536,os⟩:Shared)).2.2.2.1=(openGood q []).2.2.2.1:=g5 (·.2.2.2.1) (by kernel_rfl)
theorem Pc4(w:World)(os:OsState):(openSeen q [] (importedModules pw.main.body) Xt true (⟨hF w.params,Array.mk [],{},536,os⟩:Shared)).2.2.2.2.1=(openGood q []).2.2.2.2.1:=g5 (·.2.2.2.2.1) (by kernel_rfl)
theorem Pc5(w:World)(os:OsState):(openSeen q [] (importedModules pw.main.body) Xt true (⟨hF w.params,Array.mk [],{},536,os⟩:Shared)).2.2.2.2.2.1=(openGood q []).2.2.2.2.2.1:=g5 (·.2.2.2.2.2.1) (by kernel_rfl)
theorem Pc6(w:World)(os:OsState):(openSeen q [] (importedModules pw.main.body) Xt true (⟨hF w.params,Array.mk [],{},536,os⟩:Shared)).2.2.2.2.2.2.1=(openGood q []).2.2.2.2.2.2.1:=g5 (·.2.2.2.2.2.2.1) (by kernel_rfl)
theorem Pc7(w:World)(os:OsState):(openSeen q [] (importedModules pw.main.body) Xt true (⟨hF w.params,Array.mk [],{},536,os⟩:Shared)).2.2.2.2.2.2.2.1=(openGood q []).2.2.2.2.2.2.2.1:=g5 (·.2.2.2.2.2.2.2.1) (by kernel_rfl)
theorem Pc8(w:World)(os:OsState):(openSeen q [] (importedModules pw.main.body) Xt true (⟨hF w.params,Array.mk [],{},536,os⟩:Shared)).2.2.2.2.2.2.2.2=(openGood q []).2.2.2.2.2.2.2.2:=g5 (·.2.2.2.2.2.2.2.2) (by kernel_rfl)
theorem Pa(w:World)(os:OsState):(staticsOk (importedModules pw.main.body) (boot_heap w.params) (hF w.params)&&namesBound pw (hF w.params)&&gensDone (⟨hF w.params,Array.mk [],{},536,os⟩:Shared)&&laidKept (boot_heap w.params) (hF w.params))=true:=g7 (by kernel_rfl)
theorem Py(w:World)(os:OsState):kA.map ((⟨hF w.params,Array.mk [],{},536,os⟩:Shared)).heap.get?=(K w.params).map fun p=>some p.2:=by kernel_rfl
theorem Pz(w:World):((boot_heap w.params).isNs mainGlobals&&(Array.mk []:Array GenState).size==0,(boot_heap w.params).objs.size,(boot_heap w.params).nsMap mainGlobals "__annotations__")=(true,11,(some (.ref 6))):=g9 (by kernel_rfl)
theorem run(w:World)(os:OsState):topRun treeTable pw w 11 (some (.ref 6)) (12+(1+(893+(862+2)))) (⟨boot_heap w.params,Array.mk [],boot_drawn,boot_toks,os⟩:Shared) (topStub pw)=some (⟨hF w.params,Array.mk [],{},536,os⟩:Shared):=
 go_top (Ppre w os) (piece_block (Pblk w os) (piece_app (l:=sts0) (segRun_of (P0 w os)) (piece_app (l:=sts1) (segRun_of (P1 w os)) (piece_nil (Pfin w os)))))
theorem opn:opening pw=plainProg pw.main.scope.names:=by kernel_rfl
theorem fen(s:Shared):fenceModules? pw s=some s:=by kernel_rfl
theorem left:LeftO pw q [] Xt (Hook.obs (kHook K kA kOk)) (Hook.val (kHook K kA kOk)) 3632:=
 LeftO.of_pieces (H₀:=boot_heap) (H₁:=hF) (boot_open opn (by decide) fen) Pz run (by decide) fun w=>funext fun os=>Prod.ext (Pa w os) (Prod.ext (Prod.ext (Pc0 w os) (Prod.ext (Pc1 w os) (Prod.ext (Pc2 w os) (Prod.ext (Pc3 w os) (Prod.ext (Pc4 w os) (Prod.ext (Pc5 w os) (Prod.ext (Pc6 w os) (Prod.ext (Pc7 w os) (Pc8 w os))))))))) (Py w os))
end
end Hd
namespace M
open PySem L2 DS CP
def Vr(K:W.Frag):Sp:=fun vs H Q _=>∃(a:Addr) (ns:List Int),vs=[.ref a]/\jj K H a (ns.map V.int)/\ns.length<=63/\∀H',Q (.bl true) H'
theorem QD{K:W.Frag}{C:Addr}(vs:List V)(H:Hp)(Q:VK)(E:XK)(h:Vr K vs H Q E):V8 K [false] (uJ C) vs H Q E:=by
 obtain⟨a,ns,rfl,hS,hl,q⟩:=h;have e:j4 H []=H:=by funext b;rfl
 exact⟨[],[.scr ns],.bl true,(fun a h=>by cases h),⟨.inl (by rw[e];show DS.j5 K H (.scr ns) _;rw[DS.j5];exact⟨a,rfl,hS⟩),trivial⟩,We C ns hl,fun v H' _ r=>by rw[DS.j5]at r;rw[r];exact q H'⟩
theorem Au{l:W.OpenLaw}{w:World}{K:W.Frag}{h:Heap}{mg:Str->Option Value}{fa C:Addr}(X:K.In h)(G:h.Ns mainGlobals mg)(hfa:mg "law" = some (.ref fa))
 (aC:W.nsIn K mainGlobals "Rules" = some (some (.ref C)))
 (pg:W.plainGet K C Str.empty=true)
 (hd:W.hasDictIn K C=true)
 (po:W.plainOver K C=true)
 (sa:W.findIn K (.ref C) "__setattr__" = some (some (.builtin "object.__setattr__")))
 (mk:W.makesIn K C=true)
 (kc:W.keepIn K (.ref C)=true)
 (h__law_numbers:At K "_law_numbers" "_law_numbers" (top 30))
 (h__law_windows:At K "_law_windows" "_law_windows" (top 32))
 (h__law_wide:At K "_law_wide" "_law_wide" (top 34))
 (h_Rules_kinds:ue K C "kinds" "Rules.kinds" (inClass (top 18) 1))
 (h_Rules_shuns:ue K C "shuns" "Rules.shuns" (inClass (top 18) 2))
 (h_Rules_bars:ue K C "bars" "Rules.bars" (inClass (top 18) 3))
 (h_Rules_dues:ue K C "dues" "Rules.dues" (inClass (top 18) 4))
 (h_row_text:At K "row_text" "row_text" (top 22))
 (h_rules_text:At K "rules_text" "rules_text" (top 23))
 (h_fits_counts:At K "fits_counts" "fits_counts" (top 16))
 (h_fits_kind:At K "fits_kind" "fits_kind" (top 13))
 (h_fits_shun:At K "fits_shun" "fits_shun" (top 14))
 (h_fits_span:At K "fits_span" "fits_span" (top 15))
 (h_fits_rows:At K "fits_rows" "fits_rows" (top 17))
 (h_Rules___init__:ue K C "__init__" "Rules.__init__" (inClass (top 18) 0))
 (h__law_made:At K "_law_made" "_law_made" (top 33))
 (h__law_same:At K "_law_same" "_law_same" (top 31))
 (h__law_rows:At K "_law_rows" "_law_rows" (top 35))
 (h_is_number:At K "is_number" "is_number" (top 24))
 (h_read_size:At K "read_size" "read_size" (top 25))
 (h_read_part:At K "read_part" "read_part" (top 26))
 (h_with_row:At K "with_row" "with_row" (top 27))
 (h_read_rules:At K "read_rules" "read_rules" (top 28))
 (h_law:At K "law" "law" (top 36))
 (hF:∀f∈(T0 C).fl,JE K C f)
 (hG:∀p∈(T0 C).gs,G0 K p.1 p.2):
  ∃fd:FuncData,(∀(s:Shared) (v:Value),BindsTo s fd ⟨[v],[]⟩ [("_law_script",v)])/\∀base:Heap,K.In base->base.Ns mainGlobals mg->FnOk l.prog w K mg base JB 51 fa fd ["_law_script"] (Vr K):=by
 have XG:∀x v,W.nsIn K mainGlobals x=some (some v)->mg x=some v:=fun x v a=>W.mg_of X G a;obtain⟨f_law,uJ,a_law,F_law⟩:=h_law;have e:=hfa.symm.trans (XG _ _ a_law);cases e;obtain⟨_,_,kV,dc,pm,an,cd,ct,_,rfl,_,_⟩:=F_law.ex;refine⟨W.fnOf "law" "law" (defArgs (top 36)) (defBody (top 36)) (defScope (top 36)) .none kV dc pm an cd ct,fun s v=>.of_eq rfl,fun base _ _=>?_⟩;have h:TOk l.prog w K mg base 0 (T0 C):=⟨fun p hp=>B8 XG (fun x a=>W.mg_none_of X G a) (hG p hp),(fun _ h=>by cases h),⟨pg,hd,po,sa⟩,hF⟩
 have h:TOk l.prog w K mg base 2 (T1 C):=TOk.F XG h h__law_numbers (VS C);have h:TOk l.prog w K mg base 4 (T2 C):=TOk.F XG h h__law_windows (VT C);have h:TOk l.prog w K mg base 6 (T3 C):=TOk.E XG h h__law_wide (gg C);have h:TOk l.prog w K mg base 8 (T4 C):=TOk.mF (d:=Yc C) h h_Rules_kinds (uv C) rfl;have h:TOk l.prog w K mg base 10 (T5 C):=TOk.mF (d:=Yd C) h h_Rules_shuns (uw C) rfl;have h:TOk l.prog w K mg base 12 (T6 C):=TOk.mF (d:=YO C) h h_Rules_bars (UZ C) rfl;have h:TOk l.prog w K mg base 14 (T7 C):=TOk.mF (d:=YQ C) h h_Rules_dues (U_ C) rfl;have h:TOk l.prog w K mg base 16 (T8 C):=TOk.E XG h h_row_text (kn C);have h:TOk l.prog w K mg base 18 (T9 C):=TOk.E XG h h_rules_text (g6 C);have h:TOk l.prog w K mg base 20 (Ag C):=TOk.E XG h h_fits_counts (uz C);have h:TOk l.prog w K mg base 22 (Ah C):=TOk.E XG h h_fits_kind (gh C);have h:TOk l.prog w K mg base 24 (Ai C):=TOk.E XG h h_fits_shun (gi C);have h:TOk l.prog w K mg base 26 (Aj C):=TOk.E XG h h_fits_span (gj C);have h:TOk l.prog w K mg base 28 (Ak C):=TOk.E XG h h_fits_rows (gk C);have h:TOk l.prog w K mg base 30 (Al C):=TOk.I XG (d:=Ju C) h h_Rules___init__ rfl (vQ C) rfl (vR C) mk kc aC (ZS C);have h:TOk l.prog w K mg base 32 (Am C):=TOk.F XG h h__law_made (gl C);have h:TOk l.prog w K mg base 38 (An C):=TOk.R XG h h__law_same (jH C) (yP C) 6 (fun _=>rfl) (fun _=>rfl) (gp C) rfl (gq C);have h:TOk l.prog w K mg base 40 (Ao C):=TOk.F XG h h__law_rows (gr C);have h:TOk l.prog w K mg base 42 (Ap C):=TOk.E XG h h_is_number (gu C);have h:TOk l.prog w K mg base 44 (Aq C):=TOk.E XG h h_read_size (gw C);have h:TOk l.prog w K mg base 46 (Ar C):=TOk.E XG h h_read_part (gx C);have h:TOk l.prog w K mg base 48 (As C):=TOk.M XG (m:=1) (d:=z_ C) (F0:=Yo C) h h_with_row (ko C) rfl (kq C) fun l _ _ _ z=>wM l z;have h:TOk l.prog w K mg base 50 (BU C):=TOk.E XG h h_read_rules (ga C);exact(a_ (d:=qw C) h F_law (Bf C) rfl).imp QD
theorem Cv{l:W.OpenLaw}{q:Program}{loose:List Str}{XP:(Str->Option Value)->Heap->Prop}{YP:World->Heap->Prop}{d:DefRec}{K:Params->W.Frag}(hn:l.most=some 63)(hdf:d.params.defaults=[])
  (hY:∀(w:World) (h:Heap),YP w h->(K w.params).In h)
  (F:∀(w:World) (mg:Str->Option Value) (fa:Addr) (h:Heap),(K w.params).In h->h.Ns mainGlobals mg->mg d.name=some (.ref fa)->
   ∃fd:FuncData,(∀(s:Shared) (u:Value),BindsTo s fd ⟨[u],[]⟩ [("_law_script",u)])/\∀base:Heap,(K w.params).In base->base.Ns mainGlobals mg->FnOk l.prog w (K w.params) mg base JB 51 fa fd ["_law_script"] (Vr (K w.params))):
  W.WalkO q loose XP YP l.row.toRowW d [] (fun f vs=>PySem.call f vs):=
 L2.qQ (n:=63) (k:=51) (x := "_law_script") (CX:=fun _=>JB) (sp:=fun w=>Vr (K w.params)) hn (by decide) hdf ⟨rfl,by decide,by decide⟩ hY F (fun _ _ a ns hl _ hS=>⟨a,ns,rfl,hS,hl,fun _=>rfl⟩) fun _ _ _ _ _ z=>z
end M
open PySem PySem.W PyProof.Rows
set_option maxRecDepth 100000 in
set_option maxHeartbeats 0 in
theorem PySem.Challenge.cw_moonseat_k39_rule_books_written_holds : PySem.Challenge.rw_moonseat_k39_rule_books_written.Holds := by
 w_on;o_law
 refine holds_open (q:=Hd.q) (loose:=[]) (Xt:=Hd.Xt) (XP:=XL Hd.q []) (Yf:=Hook.obs (kHook Hd.K Hd.kA Hd.kOk)) (Ya:=Hook.val (kHook Hd.K Hd.kA Hd.kOk)) (YP:=Hook.says (kHook Hd.K Hd.kA Hd.kOk)) (N:=3632) Hd.left (Hook.of _) (Hook.keeps _) (fun s e=>xl_of s (Bool.and_eq_true_iff.mp e).1) XL.keeps (by rfl) (by rfl) (by rfl) (fun s e=>recFacts_of (Bool.and_eq_true_iff.mp e).2) (by rfl) (by assumption) (by decide +kernel) ⟨rfl,rfl,rfl,rfl,rfl,by decide +kernel⟩ ?hw ?hc
 case hw=>w_witness2
 k_fill
 refine M.Cv (l:=PySem.Challenge.rw_moonseat_k39_rule_books_written) rfl rfl (fun w h Y=>kIn_of Y) ?F
 case F=>
  intro w mg fa h KX G hmg;refine' M.Au KX G hmg ?_ ?_ ?_ ?_ ?_ ?_ ?_ ?_ ?_ ?_ ?_ ?_ ?_ ?_ ?_ ?_ ?_ ?_ ?_ ?_ ?_ ?_ ?_ ?_ ?_ ?_ ?_ ?_ ?_ ?_ ?_ ?_ ?_
  rotate_left 1
  iterate 7 (next=>k_is)
  iterate 3 (next=>exact CP.ke (by k_is) (L2.Zi (by k_is) (by k_is) (by k_is)))
  iterate 4 (next=>exact CP.Kn (by k_is) (by k_is) (L2.Zi (by k_is) (by k_is) (by k_is)))
  iterate 7 (next=>exact CP.ke (by k_is) (L2.Zi (by k_is) (by k_is) (by k_is)))
  iterate 1 (next=>exact CP.Kn (by k_is) (by k_is) (L2.Zi (by k_is) (by k_is) (by k_is)))
  iterate 9 (next=>exact CP.ke (by k_is) (L2.Zi (by k_is) (by k_is) (by k_is)))
  iterate 1 (next=>exact CP.Jm (show W.findIn _ _ _=_ by k_is) (CP.Jm (show W.findIn _ _ _=_ by k_is) (CP.Jm (show W.findIn _ _ _=_ by k_is) (CP.Jm (show W.findIn _ _ _=_ by k_is) (CP.Jm (show W.findIn _ _ _=_ by k_is) (CP.BK))))))
  iterate 1 (next=>exact CP.Jm ⟨_,by k_is⟩ (CP.Jm ⟨_,by k_is⟩ (CP.Jm ⟨_,by k_is⟩ (CP.Jm ⟨_,by k_is⟩ (CP.Jm ⟨_,by k_is⟩ (CP.Jm ⟨_,by k_is⟩ (CP.Jm ⟨_,by k_is⟩ (CP.Jm ⟨_,by k_is⟩ (CP.Jm ⟨_,by k_is⟩ (CP.Jm (CP.B9 (by k_is) (by k_is) (by decide) (.cons ⟨_,rfl⟩ (.cons ⟨_,rfl⟩ (.cons ⟨_,rfl⟩ (.cons ⟨_,rfl⟩ .nil))))) (CP.Jm (show W.nsIn _ _ _=_ by k_is) (CP.Jm (show W.nsIn _ _ _=_ by k_is) (CP.Jm (show W.nsIn _ _ _=_ by k_is) (CP.Jm (show W.nsIn _ _ _=_ by k_is) (CP.Jm (show W.nsIn _ _ _=_ by k_is) (CP.Jm (show W.nsIn _ _ _=_ by k_is) (CP.Jm (show W.nsIn _ _ _=_ by k_is) (CP.Jm (show W.nsIn _ _ _=_ by k_is) (CP.Jm (show W.nsIn _ _ _=_ by k_is) (CP.Jm (show W.nsIn _ _ _=_ by k_is) (CP.Jm (show W.nsIn _ _ _=_ by k_is) (CP.Jm (show W.nsIn _ _ _=_ by k_is) (CP.BK)))))))))))))))))))))))
