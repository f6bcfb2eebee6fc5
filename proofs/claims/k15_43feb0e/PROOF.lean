import PyProof.Rows.All
import Wide.All
import OpenK.AllK
import Wide.FinOn
import Lean
import PyProof.EqAt
import PyProof.EqKinds
import PyProof.TupleCall
import PyProof.NeKinds
import PyProof.IsiTupleOf
import PyProof.IsiPairs
import PyProof.IsiHeapPairs
import PyProof.ConsumeWalk
import PyProof.EnumFor
import PyProof.EnumMake
import PyProof.AutoSeq1
import PyProof.FactsAll.list_3
import PyProof.AutoListH
import PyProof.MinMaxWalk
import PyProof.FactsAll.list_2
import PyProof.ListRange
import KE.KRevIter
import PyProof.SumWalkG
import PySem.Challenge.RW_moonseat_k15_tables_judged
section
open PySem PySem.Spec PyProof.Rows
def wAa:=@wpAny_bind
def wBa:=@wpAny_pure
def wCa:=@wpAny_mono
def wDa:=@wpAny_holding
def wIa:=@Heap.get?_push_of_some
def wJa:=@Heap.get?_push_size
def wKa:=@Heap.get?_update_other
def wLa:=@Heap.lt_size
def wMa:=@List.mem_cons_of_mem
def wNa:=@List.mem_cons_self
def wPa:=@Nat.le_refl
def wQa:=@Nat.le_of_lt
def wRa:=@Nat.lt_of_le_of_lt
def wSa:=@Nat.le_trans
def wTa:=@Nat.ne_of_lt
def wUa:=@Nat.lt_irrefl
def wYa:=@List.mem_of_getElem?
def vAa:=@decide_eq_true
def vBa:=@decide_eq_false
def vCa:=@of_decide_eq_true
def vDa:=@absurd
def vFa:=@Option.some.inj
def vIa:=@List.mem_append_left
def vJa:=@List.mem_append_right
def vKa:=@Nat.le_add_right
def vLa:=@eq_of_beq
def vMa:=@Nat.le_succ
def vNa:=@Bool.false_ne_true
def vOa:=@wpAny_standAt
def vTa:=@wpAny_newObj_type
def vUa:=@Heap.get?_update_self
def vVa:=@List.mem_of_mem_take
end
noncomputable section
set_option Elab.async false
set_option linter.all false
set_option maxRecDepth 100000
set_option maxHeartbeats 1000000
namespace L2
open PySem PySem.Spec PyProof.Rows
inductive KD where
 | i (n:Int) | s (x:Str) | t (l:List KD)
noncomputable instance:DecidableEq KD:=fun _ _=>Classical.propDecidable _
mutual
noncomputable def jE(h:Heap):KD->Value->Prop
 | .i n,v=>(∃t,v=.int n t)∨∃b:Bool,v=.bool b/\n=(if b then 1 else 0)
 | .s x,v=>∃t,v=.str x t
 | .t l,v=>∃a its,v=.ref a/\h.IsTuple a its/\jW h l its.toList
noncomputable def jW(h:Heap):List KD->List Value->Prop
 | [],vs=>vs=[]
 | k::ks,vs=>∃v r,vs=v::r/\jE h k v/\jW h ks r
end
mutual
noncomputable def KD.dep:KD->Nat
 | .i _=>0
 | .s _=>0
 | .t l=>Yk l+1
noncomputable def Yk:List KD->Nat
 | []=>0
 | k::ks=>max k.dep (Yk ks)
end
mutual
noncomputable def KD.drw:KD->Nat
 | .i _=>1
 | .s _=>1
 | .t l=>gj l+1
noncomputable def gj:List KD->Nat
 | []=>0
 | k::ks=>k.drw+gj ks
end
mutual
noncomputable def uX(w:World):KD->Int
 | .i n=>hashInt n
 | .s x=>hashStr w x
 | .t l=>reduceHash (Builtin.Tuple.tupleHashOf (u5 w l))
noncomputable def u5(w:World):List KD->List Int
 | []=>[]
 | k::ks=>uX w k::u5 w ks
end
mutual
theorem jE.inj{h:Heap}:∀{x y:KD} {v:Value},jE h x v->jE h y v->x=y
 | .i n,.i m,v,p,q=>by
  rw[jE]at p;rw[jE]at q;rcases p with⟨t,rfl⟩ | ⟨b,rfl,rfl⟩
  ·rcases q with⟨t,e⟩ | ⟨b,e,_⟩ <;> cases e
   rfl
  ·rcases q with⟨t,e⟩ | ⟨b,e,rfl⟩ <;> cases e
   rfl
 | .s n,.s m,v,p,q=>by
  rw[jE]at p;rw[jE]at q;obtain⟨t,rfl⟩:=p;obtain⟨t,e⟩:=q;cases e;rfl
 | .t n,.t m,v,p,q=>by
  rw[jE]at p;rw[jE]at q;obtain⟨a,its,rfl,o1,p⟩:=p;obtain⟨a',its',e,o2,q⟩:=q;cases e;obtain⟨o,g,_,_,d⟩:=o1;obtain⟨o',g',_,_,d'⟩:=o2;rw[g]at g';cases g';rw[d]at d';cases d';rw[jW.inj p q]
 | .i n,.s m,v,p,q=>by
  rw[jE]at p;rw[jE]at q;obtain⟨t,rfl⟩:=q;rcases p with⟨t,e⟩ | ⟨b,e,_⟩ <;> cases e
 | .i n,.t m,v,p,q=>by
  rw[jE]at p;rw[jE]at q;obtain⟨_,_,rfl,_⟩:=q;rcases p with⟨t,e⟩ | ⟨b,e,_⟩ <;> cases e
 | .s n,.i m,v,p,q=>by
  rw[jE]at p;rw[jE]at q;obtain⟨t,rfl⟩:=p;rcases q with⟨t,e⟩ | ⟨b,e,_⟩ <;> cases e
 | .s n,.t m,v,p,q=>by
  rw[jE]at p;rw[jE]at q;obtain⟨t,rfl⟩:=p;obtain⟨_,_,e,_⟩:=q;cases e
 | .t n,.i m,v,p,q=>by
  rw[jE]at p;rw[jE]at q;obtain⟨_,_,rfl,_⟩:=p;rcases q with⟨t,e⟩ | ⟨b,e,_⟩ <;> cases e
 | .t n,.s m,v,p,q=>by
  rw[jE]at p;rw[jE]at q;obtain⟨_,_,rfl,_⟩:=p;obtain⟨t,e⟩:=q;cases e
theorem jW.inj{h:Heap}:∀{x y:List KD} {v:List Value},jW h x v->jW h y v->x=y
 | [],[],_,_,_=>rfl
 | [],_::_,_,p,q=>by
  rw[jW]at p;rw[jW]at q;subst p;obtain⟨_,_,e,_⟩:=q;cases e
 | _::_,[],_,p,q=>by
  rw[jW]at p;rw[jW]at q;subst q;obtain⟨_,_,e,_⟩:=p;cases e
 | x::xs,y::ys,_,p,q=>by
  rw[jW]at p;rw[jW]at q;obtain⟨v,r,rfl,p1,p2⟩:=p;obtain⟨v',r',e,q1,q2⟩:=q;cases e;rw[jE.inj p1 q1,jW.inj p2 q2]
end
mutual
theorem jE.keep{h h':Heap}(m:∀a its,h.IsTuple a its->h'.IsTuple a its):∀{k:KD} {v:Value},jE h k v->jE h' k v
 | .i _,_,p=>by rw[jE]at p⊢;exact p
 | .s _,_,p=>by rw[jE]at p⊢;exact p
 | .t l,_,p=>by
  rw[jE]at p⊢;obtain⟨a,its,rfl,o,p⟩:=p;exact⟨a,its,rfl,m a its o,jW.keep m p⟩
theorem jW.keep{h h':Heap}(m:∀a its,h.IsTuple a its->h'.IsTuple a its):∀{k:List KD} {v:List Value},jW h k v->jW h' k v
 | [],_,p=>by rw[jW]at p⊢;exact p
 | k::ks,_,p=>by
  rw[jW]at p⊢;obtain⟨v,r,rfl,p1,p2⟩:=p;exact⟨v,r,rfl,jE.keep m p1,jW.keep m p2⟩
end
section
variable {prog:Program} {w:World} {E:Value->Shared->Prop}
theorem Qu{A:Around}{s:Shared}{b:Bool}{Q:Int->Shared->Prop}(hu:A.units < cLine)(h:Q (hashInt (if b then 1 else 0)) { s with toks:=s.toks+1 }):wpAny (model prog w) A (pyHash (.bool b)) Q E s:=by
 refine PySem.W.pyHash_slot (v:=.bool b) (T := "bool") rfl F.slot_bool_hash entry_int_hash (args_int_hash _) (beq_builtin_none _) (.inr hu) ?_;cases b
 ·exact(show wpAny _ _ (do ret (<-mkInt 0)) _ _ s from wAa (wpAny_mkInt (wBa ⟨_,_,rfl,by
    have e:reduceHash 0=hashInt 0:=by decide
    rw[e];exact h⟩)))
 ·exact(show wpAny _ _ (do ret (<-mkInt 1)) _ _ s from wAa (wpAny_mkInt (wBa ⟨_,_,rfl,by
    have e:reduceHash 1=hashInt 1:=by decide
    rw[e];exact h⟩)))
mutual
theorem WJ:∀(k:KD) (v:Value) (A:Around) (s:Shared) (Q:Int->Shared->Prop),jE s.heap k v->A.units+k.dep < cLine->Q (uX w k) { s with toks:=s.toks+k.drw }->wpAny (model prog w) A (pyHash v) Q E s
 | .i n,v,A,s,Q,p,hu,h=>by
  rw[jE]at p;rw[uX,KD.drw]at h;rcases p with⟨t,rfl⟩ | ⟨b,rfl,rfl⟩
  ·exact wpAny_pyHash_int h
  ·exact Qu (by rw[KD.dep]at hu;exact hu) h
 | .s x,v,A,s,Q,p,hu,h=>by
  rw[jE]at p;rw[uX,KD.drw]at h;obtain⟨t,rfl⟩:=p;exact wpAny_pyHash_str h
 | .t l,v,A,s,Q,p,hu,h=>by
  rw[jE]at p;rw[uX,KD.drw]at h;rw[KD.dep]at hu;obtain⟨a,its,rfl,o,p⟩:=p;obtain⟨ob,g,c,n,dt⟩:=o;refine PySem.W.pyHash_slot (v:=.ref a) (T := "tuple") ⟨_,g,c⟩ F.slot_tuple_hash F.entry_tuple_hash (F.args_tuple_hash_1 _) (beq_builtin_none _) (.inr (by omega)) ?_;refine(show wpAny _ _ (Builtin.Tuple.tupleItemsOf (.ref a) >>= _) _ _ s from wAa (wpAny_tupleItemsOf g dt (wAa ?_)));rw[<-Array.forIn_toList];refine Kt l its.toList A.in1 s #[] _ p (by rw[Around.in1_units];omega) fun b' hb=>?_;show wpAny _ _ (retInt (Builtin.Tuple.tupleHashOf b'.toList)) _ _ _;rw[hb];exact wAa (wpAny_mkInt (wBa ⟨_,_,rfl,by simpa[Nat.add_assoc]using h⟩))
theorem Kt:∀(ks:List KD) (vs:List Value) (A:Around) (s:Shared) (b:Array Int) (Q:Array Int->Shared->Prop),jW s.heap ks vs->A.units+Yk ks < cLine->(∀b':Array Int,b'.toList=b.toList++u5 w ks->Q b' { s with toks:=s.toks+gj ks })->
  wpAny (model prog w) A (forIn vs b fun x r=>do let h<-pyHash x;pure (ForInStep.yield (r.push h))) Q E s
 | [],vs,A,s,b,Q,p,hu,h=>by
  rw[jW]at p;subst p;rw[List.forIn_nil];exact wBa (by simpa[gj,u5]using h b)
 | k::ks,vs,A,s,b,Q,p,hu,h=>by
  rw[jW]at p;rw[Yk]at hu;obtain⟨v,r,rfl,p1,p2⟩:=p;rw[List.forIn_cons];refine wAa (wAa (WJ k v A s _ p1 (by omega) (wBa ?_)));refine Kt ks r A _ _ Q p2 (by omega) fun b' hb=>?_;have:=h b' (by rw[hb,u5];simp);rw[gj]at this;simpa[Nat.add_assoc]using this
end
end
section
open SeqAt
variable {s:Shared}
theorem vT{α:Type}[DecidableEq α]{a b:α}{c:Bool}(h:c=true↔a=b):decide (a=b)=c:=by
 cases c with
 | true=>exact vAa (h.mp rfl)
 | false=>exact vBa fun z=>by have:=h.mpr z;cases this
theorem jW.len{h:Heap}:∀{ks:List KD} {vs:List Value},jW h ks vs->vs.length=ks.length
 | [],_,p=>by rw[jW]at p;subst p;rfl
 | k::ks,_,p=>by
  rw[jW]at p;obtain⟨v,r,rfl,_,p2⟩:=p;simp[p2.len]
theorem jW.get{h:Heap}:∀{ks:List KD} {vs:List Value} {j:Nat} {v:Value},jW h ks vs->vs[j]?=some v->∃k,ks[j]?=some k/\jE h k v
 | [],_,_,_,p,e=>by rw[jW]at p;subst p;simp at e
 | k::ks,_,j,v',p,e=>by
  rw[jW]at p;obtain⟨v,r,rfl,p1,p2⟩:=p;cases j with
  | zero=>cases e;exact⟨k,rfl,p1⟩
  | succ j=>exact p2.get (j:=j) e
theorem ka:∀{ks:List KD} {k:KD},k∈ks->k.dep<=Yk ks
 | [],_,h=>by cases h
 | x::xs,k,h=>by
  rw[Yk];rcases List.mem_cons.mp h with rfl | h
  ·omega
  ·have:=ka h;omega
theorem A0:∀(n:Nat) (x y:KD) (u v:Value) (A:Around),x.dep<=n->jE s.heap x u->jE s.heap y v->A.units+n < cLine->EqAt A s u v (decide (x=y))
 | n,.i a,.i b,u,v,A,hn,p,q,hu=>by
  rw[jE]at p;rw[jE]at q;rcases p with⟨t,rfl⟩ | ⟨c,rfl,rfl⟩
  ·rcases q with⟨t',rfl⟩ | ⟨c',rfl,rfl⟩
   ·rw[vT (c:=(a==b)) (by simp)];exact .int_int a t b t'
   ·rw[vT (c:=(a==if c' then 1 else 0)) (by simp)];exact .int_bool a t c'
  ·rcases q with⟨t',rfl⟩ | ⟨c',rfl,rfl⟩
   ·rw[vT (c:=((if c then 1 else 0)==b)) (by simp)];exact .bool_int c b t'
   ·rw[vT (c:=(c==c')) (by cases c <;> cases c' <;> simp)];exact .bool_bool c c'
 | n,.s a,.s b,u,v,A,hn,p,q,hu=>by
  rw[jE]at p;rw[jE]at q;obtain⟨t,rfl⟩:=p;obtain⟨t',rfl⟩:=q;rw[vT (c:=(a==b)) (by simp)];exact .str_str a t b t'
 | n,.i a,.s b,u,v,A,hn,p,q,hu=>by
  rw[jE]at p;rw[jE]at q;obtain⟨t',rfl⟩:=q;rw[decide_eq_false (by intro z;cases z)];rcases p with⟨t,rfl⟩ | ⟨c,rfl,rfl⟩
  ·exact .int_str a t b t'
  ·exact .bool_str c b t'
 | n,.s a,.i b,u,v,A,hn,p,q,hu=>by
  rw[jE]at p;rw[jE]at q;obtain⟨t',rfl⟩:=p;rw[decide_eq_false (by intro z;cases z)];rcases q with⟨t,rfl⟩ | ⟨c,rfl,rfl⟩
  ·exact .str_int a t' b t
  ·exact .str_bool a t' c
 | n,.i a,.t b,u,v,A,hn,p,q,hu=>by
  rw[jE]at p;rw[jE]at q;obtain⟨e,its,rfl,o,_⟩:=q;rw[decide_eq_false (by intro z;cases z)];rcases p with⟨t,rfl⟩ | ⟨c,rfl,rfl⟩
  ·exact .int_tuple a t o (by omega)
  ·exact .bool_tuple c o (by omega)
 | n,.t a,.i b,u,v,A,hn,p,q,hu=>by
  rw[jE]at p;rw[jE]at q;obtain⟨e,its,rfl,o,_⟩:=p;rw[decide_eq_false (by intro z;cases z)];rcases q with⟨t,rfl⟩ | ⟨c,rfl,rfl⟩
  ·exact .tuple_int b t o (by omega)
  ·exact .tuple_bool c o (by omega)
 | n,.s a,.t b,u,v,A,hn,p,q,hu=>by
  rw[jE]at p;rw[jE]at q;obtain⟨e,its,rfl,o,_⟩:=q;obtain⟨t,rfl⟩:=p;rw[decide_eq_false (by intro z;cases z)];exact .str_tuple a t o (by omega)
 | n,.t a,.s b,u,v,A,hn,p,q,hu=>by
  rw[jE]at p;rw[jE]at q;obtain⟨e,its,rfl,o,_⟩:=p;obtain⟨t,rfl⟩:=q;rw[decide_eq_false (by intro z;cases z)];exact .tuple_str b t o (by omega)
 | 0,.t a,.t b,u,v,A,hn,p,q,hu=>by rw[KD.dep]at hn;omega
 | n+1,.t a,.t b,u,v,A,hn,p,q,hu=>by
  rw[KD.dep]at hn;rw[jE]at p;rw[jE]at q;obtain⟨l,its,rfl,o,p⟩:=p;obtain⟨l',its',rfl,o',q⟩:=q;by_cases hl:l=l'
  ·subst hl;obtain⟨z,g,_,_,d⟩:=o;obtain⟨z',g',_,_,d'⟩:=o';rw[g]at g';cases g';rw[d]at d';cases d';rw[jW.inj p q,decide_eq_true rfl];exact .same _
  ·have l1:=p.len;have l2:=q.len;have ev:=RcAt.tuples (A:=A) (e:=fun j=>decide (a[j]?=b[j]?)) o o' (by omega) fun j h1 h2=>by
    have g1:its.toList[j]?=some its[j]:=by simp[h1]
    have g2:its'.toList[j]?=some its'[j]:=by simp[h2]
    obtain⟨k1,e1,r1⟩:=p.get g1;obtain⟨k2,e2,r2⟩:=q.get g2;have:=A0 n k1 k2 _ _ A.in1 (wSa (ka (wYa e1)) (by omega)) r1 r2 (by rw[Around.in1_units];omega);rw[e1,e2];have ee:decide (some k1=some k2)=decide (k1=k2):=by
     by_cases z:k1=k2
     ·rw[decide_eq_true z,decide_eq_true (by rw[z])]
     ·rw[decide_eq_false z,decide_eq_false (fun y=>z (Option.some.inj y))]
    rw[ee];exact this
   refine .of_refs hl ?_;rw[vT (c:=((List.range (min its.size its'.size)).all (fun j=>decide (a[j]?=b[j]?))&&its.size==its'.size))]
   ·exact ev
   ·rw[Bool.and_eq_true,beq_iff_eq,List.all_eq_true];have z1:its.size=a.length:=by rw[<-l1];simp
    have z2:its'.size=b.length:=by rw[<-l2];simp
    rw[z1,z2];constructor
    ·rintro⟨h1,h2⟩;congr 1;refine List.ext_getElem? fun j=>?_;by_cases hj:j < a.length
     ·exact vCa (h1 j (by simp;omega))
     ·rw[List.getElem?_eq_none (by omega),List.getElem?_eq_none (by omega)]
    ·intro h;cases h;exact⟨fun j _=>by simp,rfl⟩
end
section
variable {prog:Program} {w:World} {E:Value->Shared->Prop} {s:Shared}
theorem Ku:∀(n:Nat) (k:KD) (v:Value) (A:Around) (Q:Bool->Shared->Prop),k.dep<=n->jE s.heap k v->Q true s->wpAny (model prog w) A (eqIsQuiet n v) Q E s
 | n,.i _,v,A,Q,_,p,h=>by
  rw[jE]at p;rcases p with⟨t,rfl⟩ | ⟨b,rfl,_⟩
  ·rw[eqIsQuiet_byValue n (v:=.int _ t) rfl];exact wBa h
  ·rw[eqIsQuiet_byValue n (v:=.bool b) rfl];exact wBa h
 | n,.s x,v,A,Q,_,p,h=>by
  rw[jE]at p;obtain⟨t,rfl⟩:=p;rw[eqIsQuiet_byValue n (v:=.str x t) rfl];exact wBa h
 | 0,.t l,v,A,Q,hn,p,h=>by rw[KD.dep]at hn;omega
 | n+1,.t l,v,A,Q,hn,p,h=>by
  rw[KD.dep]at hn;rw[jE]at p;obtain⟨a,its,rfl,o,p⟩:=p;obtain⟨ob,g,c,m,dt⟩:=o;have ty:s.TypeIs (.ref a) "tuple" := ⟨ob,g,c⟩
  unfold eqIsQuiet;refine wAa (wpAny_specialOf ty F.slot_tuple_eq.lookup ?_);refine(show wpAny _ _ (isInstance (.ref a) (.type "tuple") >>= _) _ _ s from wAa (wpAny_isInstance ty isSubtype_tuple_tuple ?_));rw[if_neg (by decide)];refine wAa (wpAny_seqItems g dt (wAa ?_));rw[Option.getD_some,<-Array.forIn_toList];have ql:∀(rest:List Value),(∃ks,jW s.heap ks rest/\Yk ks<=n)->wpAny (model prog w) A (forIn rest ((none:Option Bool),PUnit.unit) fun y r=>do
    if (!(<-eqIsQuiet n y))=true then pure (ForInStep.done (some false,PUnit.unit))else do pure PUnit.unit;pure (ForInStep.yield (none,PUnit.unit))) (fun r s'=>r=(none,PUnit.unit)/\s'=s) E s:=by
   intro rest;induction rest with
   | nil=>intro _;rw[List.forIn_nil];exact wBa ⟨rfl,rfl⟩
   | cons y rest ih=>
    rintro⟨ks,hk,hd⟩;cases ks with
    | nil=>rw[jW]at hk;cases hk
    | cons k ks=>
     rw[jW]at hk;obtain⟨_,_,e,k1,k2⟩:=hk;cases e;rw[Yk]at hd;rw[List.forIn_cons];refine wAa (wAa (Ku n k y A _ (by omega) k1 ?_));rw[if_neg (by decide)];exact wBa (ih ⟨ks,k2,by omega⟩)
  refine wCa (ql its.toList ⟨l,p,by omega⟩) ?_ fun _ _ x=>x;rintro r s' ⟨rfl,rfl⟩;exact wBa h
end
def yJ(prog:Program)(w:World):HeapKind prog w KD where
 is:=fun h k a=>jE h k (.ref a)/\k.dep<=8
 hash:=uX w
 draws:=KD.drw
 room:=fun A=>A.units+8 < cLine
 inj:=fun p q=>p.1.inj q.1
 keeps:=fun p ho hd hs=>by
  refine⟨p.1.keep fun b its t=>?_,p.2⟩;obtain⟨ob,g,c,m,dt⟩:=t;refine⟨ob,(hs.2 b ?_).trans g,c,m,dt⟩;rintro rfl;rw[ho]at g;cases g;rw[hd]at dt;cases dt
 pyHash:=fun hu p h=>WJ _ _ _ _ _ p.1 (by have:=p.2;omega) h
 eqBool:=fun hu p q h=>A0 8 _ _ _ _ _ p.2 p.1 q.1 hu _ _ _ _ h
 quiet:=fun p h=>Ku 8 _ _ _ _ p.2 p.1 h
noncomputable abbrev Zc:=Sum Int Str
noncomputable def A1:Zc->Value->Bool
 | .inl k,v=>Value.isInt k v
 | .inr x,v=>Value.isStrOf x v
noncomputable def hV(w:World):Zc->Int
 | .inl k=>hashInt k
 | .inr x=>hashStr w x
theorem Jz:∀{k:Zc} {v:Value},A1 k v=true->(∃i t,k=Sum.inl i/\v=Value.int i t)∨(∃x t,k=Sum.inr x/\v=Value.str x t)
 | .inl i,v,h=>by
  obtain⟨t,e⟩:=Value.isInt_shape (k:=i) (v:=v) h;exact .inl ⟨i,t,rfl,e⟩
 | .inr x,v,h=>by
  obtain⟨t,e⟩:=Value.isStrOf_shape (x:=x) (v:=v) h;exact .inr ⟨x,t,rfl,e⟩
theorem BH(a b:Int):decide ((Sum.inl a:Zc)=Sum.inl b)=(a==b):=by
 by_cases e:a=b
 ·subst e;simp
 ·have h:¬(Sum.inl a:Zc)=Sum.inl b:=fun q=>e (Sum.inl.inj q);rw[decide_eq_false h];exact(beq_eq_false_iff_ne.mpr e).symm
theorem BI(a b:Str):decide ((Sum.inr a:Zc)=Sum.inr b)=decide (a=b):=by
 by_cases e:a=b
 ·subst e;simp
 ·have h:¬(Sum.inr a:Zc)=Sum.inr b:=fun q=>e (Sum.inr.inj q);rw[decide_eq_false h,decide_eq_false e]
theorem BJ(a:Int)(b:Str):decide ((Sum.inl a:Zc)=Sum.inr b)=false:=vBa (fun q=>nomatch q)
theorem BK(a:Str)(b:Int):decide ((Sum.inr a:Zc)=Sum.inl b)=false:=vBa (fun q=>nomatch q)
def Gp(prog:Program)(w:World):PySem.KeyKind prog w Zc where
 is:=A1
 hash:=hV w
 inj:=fun v a b ha hb=>by
  rcases Jz ha with⟨i,t,rfl,rfl⟩ | ⟨x,t,rfl,rfl⟩
  ·rcases Jz hb with⟨j,u,rfl,e⟩ | ⟨y,u,rfl,e⟩
   ·injection e with e1 _;rw[e1]
   ·exact nomatch e
  ·rcases Jz hb with⟨j,u,rfl,e⟩ | ⟨y,u,rfl,e⟩
   ·exact nomatch e
   ·injection e with e1 _;rw[e1]
 byValue:=fun k v h=>by
  rcases Jz h with⟨i,t,rfl,rfl⟩ | ⟨x,t,rfl,rfl⟩ <;> rfl
 pyHash:=fun hv h=>by
  rcases Jz hv with⟨i,t,rfl,rfl⟩ | ⟨x,t,rfl,rfl⟩
  ·exact wpAny_pyHash_int h
  ·exact wpAny_pyHash_str h
 eqBool:=fun hu hv h=>by
  rcases Jz hu with⟨i,t,rfl,rfl⟩ | ⟨x,t,rfl,rfl⟩
  ·rcases Jz hv with⟨j,u,rfl,rfl⟩ | ⟨y,u,rfl,rfl⟩
   ·rw[BH]at h;exact wpAny_eqBool_int h
   ·rw[BJ]at h;exact SeqAt.EqAt.int_str i t y u _ _ _ _ h
  ·rcases Jz hv with⟨j,u,rfl,rfl⟩ | ⟨y,u,rfl,rfl⟩
   ·rw[BK]at h;exact SeqAt.EqAt.str_int x t j u _ _ _ _ h
   ·rw[BI]at h;exact wpAny_eqBool_str h
 «strs»:=fun k x t v h=>by
  rcases Jz h with⟨i,u,rfl,e⟩ | ⟨y,u,rfl,e⟩
  ·exact nomatch e
  ·injection e with e1 _;subst e1;cases v <;> rfl
inductive V where
 | non | bl (b:Bool) | int (i:Int) | str (x:Str) | byt (b:Array UInt8) | flt (b:UInt64) | ref (a:Addr) | ty (n:String)
 deriving DecidableEq
def jt:V->Value->Prop
 | .non,u=>u=Value.none
 | .bl b,u=>u=Value.bool b
 | .int i,u=>∃t,u=Value.int i t
 | .str x,u=>∃t,u=Value.str x t
 | .byt b,u=>∃t,u=Value.bytes b t
 | .flt b,u=>∃t,u=Value.float b t
 | .ref a,u=>u=Value.ref a
 | .ty n,u=>u=Value.type n
abbrev jh:List V->List Value->Prop:=Paired jt
theorem jh.length{xs:List V}{us:List Value}(r:jh xs us):xs.length=us.length:=Paired.length r
theorem jh.get:∀{xs:List V} {us:List Value} {i:Nat} {x:V},jh xs us->xs[i]?=some x->∃u,us[i]?=some u/\jt x u
 | _,_,_,_,.nil,e=>by simp at e
 | _,_,0,_,.cons r _,e=>by simp at e;subst e;exact⟨_,rfl,r⟩
 | _,_,i+1,x,.cons _ t,e=>by
  obtain⟨u,h1,h2⟩:=jh.get (i:=i) (x:=x) t (by simpa using e);exact⟨u,by simpa using h1,h2⟩
theorem jh.set{x:V}{u:Value}(r:jt x u):∀{xs:List V} {us:List Value} (i:Nat),jh xs us->jh (xs.set i x) (us.set i u)
 | _,_,_,.nil=>.nil
 | _,_,0,.cons _ t=>.cons r t
 | _,_,i+1,.cons q t=>.cons q (jh.set r i t)
theorem jh.append:∀{xs ys:List V} {us ws:List Value},jh xs us->jh ys ws->jh (xs++ys) (us++ws)
 | _,_,_,_,.nil,s=>s
 | _,_,_,_,.cons r t,s=>.cons r (jh.append t s)
theorem jh.take:∀{xs:List V} {us:List Value} (n:Nat),jh xs us->jh (xs.take n) (us.take n)
 | _,_,0,_=>.nil
 | _,_,_+1,.nil=>.nil
 | _,_,n+1,.cons r t=>.cons r (jh.take n t)
theorem jh.drop:∀{xs:List V} {us:List Value} (n:Nat),jh xs us->jh (xs.drop n) (us.drop n)
 | _,_,0,r=>r
 | _,_,_+1,.nil=>.nil
 | _,_,n+1,.cons _ t=>jh.drop n t
def vm:Option V->Option Value->Prop
 | some v,some u=>jt v u
 | none,none=>True
 | _,_=>False
def KV{κ:Type}:List (κ×V)->List (κ×Value)->Prop:=Paired fun(p:κ×V) (q:κ×Value)=>p.1=q.1/\jt p.2 q.2
noncomputable def kV:Zc->V
 | .inl i=>.int i
 | .inr x=>.str x
inductive HO where
 | lst (xs:List V)
 | tup (xs:List V)
 | dK (kvs:List (Zc×V)) | dT (kvs:List (List Zc×V))
 | dD (kvs:List (KD×Addr×V)) (ep:Nat)
 | set (S:Int->Bool) (n:Nat)
 | ins (C dx:Addr) (fs:List (Str×V))
 | own (x:Addr)
 | xd (fs:List (Str×V))
 | met (f x:Addr)
 | rng (lo hi:Int)
 | frz (o:Obj) (u:HO)
 | tbl (ps:Array Value)
 | ext (φ:Heap->Prop)
noncomputable abbrev Hp:=Addr->Option HO
noncomputable def upd(H:Hp)(a:Addr)(o:HO):Hp:=fun b=>if b=a then some o else H b
theorem jH{H:Hp}{a:Addr}{o:HO}:upd H a o a=some o:=by unfold upd;rw[if_pos rfl]
theorem jo{H:Hp}{a b:Addr}{o:HO}(h:b≠a):upd H a o b=H b:=by unfold upd;rw[if_neg h]
theorem jx{H:Hp}{a b:Addr}{o:HO}(h:H a=some o)(h':H b=none):a≠b:=by
 intro e;subst e;rw[h]at h';cases h'
section
variable (P:Program) (w:World)
def ya(H:Hp)(h:Heap)(a:Addr):HO->Prop
 | .lst xs=>xs.length<=sizeLine/\∃(its:List Value) (n:Nat),jh xs its/\h.get? a=some { cls:=.type "list",data:=.seq its.toArray n }
 | .tup xs=>xs.length<=sizeLine/\∃its:List Value,jh xs its/\IsTup h a its.toArray
 | .dK kvs=>kvs.length<=sizeLine/\(a==sysModules)=false/\∃vs,KV kvs vs/\h.DictOf (Gp P w) a vs
 | .dT kvs=>kvs.length<=sizeLine/\(a==sysModules)=false/\∃xs:List (List Zc×Addr×Value),
   Paired (fun(p:List Zc×V) (q:List Zc×Addr×Value)=>p.1=q.1/\H q.2.1=some (.tup (p.1.map kV))/\jt p.2 q.2.2) kvs xs/\
   ∃o es ep,h.get? a=some o/\o.ExactDict/\o.data=.dict es ep/\es.toList=xs.map (entryOfKey (tupleKind (Gp P w)))/\(xs.map (·.1)).Nodup
 | .dD kvs ep=>kvs.length<=sizeLine/\(a==sysModules)=false/\(kvs.map (·.1)).Nodup/\∃xs:List (KD×Addr×Value),
   Paired (fun(p:KD×Addr×V) (q:KD×Addr×Value)=>p.1=q.1/\p.2.1=q.2.1/\jt p.2.2 q.2.2) kvs xs/\
   ∃o es,h.get? a=some o/\o.ExactDict/\o.data=.dict es ep/\es.toList=xs.map (entryOfKey (yJ P w))
 | .set S n=>h.SetOf (intKind P w) a S n
 | .ins C dx fs=>H dx=some (.own a)/\fs.length<=1000/\dx≠a/\h.get? a=some (PySem.W.instObj C dx)/\
   ∃mA,h.Ns1 dx mA/\(∀f,vm (fs.lookup f) (mA f))/\PySem.Within mA (fs.map (·.1))
 | .own _=>∃o,h.get? a=some o
 | .xd fs=>∃mA,h.Ns1 a mA/\∀f,vm (fs.lookup f) (mA f)
 | .rng lo hi=>∃t u v,h.get? a=some { cls:=.type "range",data:=.fields #[.int lo t,.int hi u,.int 1 v] }
 | .frz o u=>h.get? a=some o/\ya H h a u
 | .tbl ps=>h.get? a=some { cls:=.none,data:=.fields ps }
 | .met f x=>h.get? a=some (PySem.W.methodObj (.ref f) (.ref x))
 | .ext φ=>φ h/\(∃o,h.get? a=some o)/\∀h1 h2:Heap,φ h1->(∀o,h1.get? a=some o->h2.get? a=some o)->φ h2
def ym(H:Hp)(h:Heap):Prop:=∀a o,H a=some o->ya P w H h a o
end
section
variable {P:Program} {w:World} {H H':Hp} {h h':Heap} {a:Addr} {o:HO}
theorem ya.lt(x:ya P w H h a o):a < h.objs.size:=by
 cases o with
 | lst xs=>obtain⟨_,_,_,_,e⟩:=x;exact wLa e
 | tup xs=>obtain⟨_,_,_,p⟩:=x;exact p.lt
 | dK kvs=>obtain⟨_,_,_,_,o,_,_,e,_⟩:=x;exact wLa e
 | dT kvs=>obtain⟨_,_,_,_,o,_,_,e,_⟩:=x;exact wLa e
 | dD kvs ep=>obtain⟨_,_,_,_,_,o,_,e,_⟩:=x;exact wLa e
 | set S n=>obtain⟨o,_,_,_,e,_⟩:=x;exact wLa e
 | ins C dx fs=>obtain⟨_,_,_,e,_⟩:=x;exact wLa e
 | own y=>obtain⟨_,e⟩:=x;exact wLa e
 | xd fs=>obtain⟨_,⟨_,_,_,e,_⟩,_⟩:=x;exact wLa e
 | rng lo hi=>obtain⟨_,_,_,e⟩:=x;exact wLa e
 | frz ob u=>obtain⟨e,_⟩:=x;exact wLa e
 | tbl ps=>exact wLa (show h.get? a=some _ from x)
 | met f y=>exact wLa (show h.get? a=some _ from x)
 | ext φ=>obtain⟨_,⟨_,e⟩,_⟩:=x;exact wLa e
theorem Paired.mapP{α β:Type}{F G:α->β->Prop}:∀{l₁:List α} {l₂:List β},Paired F l₁ l₂->(∀a b,F a b->G a b)->Paired G l₁ l₂
 | _,_,.nil,_=>.nil
 | _,_,.cons r t,f=>.cons (f _ _ r) (Paired.mapP t f)
theorem ya.stay(x:ya P w H h a o)(k:∀b u,(b=a∨H b=some (.own a))->h.get? b=some u->h'.get? b=some u)
  (ho:∀b,H b=some (.own a)->H' b=some (.own a)) (ht:∀b xs,H b=some (.tup xs)->H' b=some (.tup xs)):ya P w H' h' a o:=by
 induction o with
 | lst xs=>obtain⟨z,its,n,r,e⟩:=x;exact⟨z,its,n,r,k _ _ (.inl rfl) e⟩
 | tup xs=>obtain⟨z,its,r,ob,e,c⟩:=x;exact⟨z,its,r,ob,k _ _ (.inl rfl) e,c⟩
 | dK kvs=>obtain⟨z,y,vs,r,ob,es,ep,e,c⟩:=x;exact⟨z,y,vs,r,ob,es,ep,k _ _ (.inl rfl) e,c⟩
 | dT kvs=>
  obtain⟨z,y,xs,r,ob,es,ep,e,c⟩:=x;exact⟨z,y,xs,Paired.mapP r fun p q z=>⟨z.1,ht _ _ z.2.1,z.2.2⟩,ob,es,ep,k _ _ (.inl rfl) e,c⟩
 | dD kvs ep=>obtain⟨z,y,nd,xs,r,ob,es,e,c⟩:=x;exact⟨z,y,nd,xs,r,ob,es,k _ _ (.inl rfl) e,c⟩
 | set S n=>obtain⟨ob,es,ep,t,e,c⟩:=x;exact⟨ob,es,ep,t,k _ _ (.inl rfl) e,c⟩
 | ins C dx fs=>
  obtain⟨d,z,ne,e,mA,⟨od,es,ep,e2,c⟩,r⟩:=x;exact⟨ho _ d,z,ne,k _ _ (.inl rfl) e,mA,⟨od,es,ep,k _ _ (.inr d) e2,c⟩,r⟩
 | own y=>obtain⟨ob,e⟩:=x;exact⟨ob,k _ _ (.inl rfl) e⟩
 | xd fs=>obtain⟨mA,⟨od,es,ep,e,c⟩,r⟩:=x;exact⟨mA,⟨od,es,ep,k _ _ (.inl rfl) e,c⟩,r⟩
 | rng lo hi=>obtain⟨t,u,v,e⟩:=x;exact⟨t,u,v,k _ _ (.inl rfl) e⟩
 | frz ob u ih=>obtain⟨e,q⟩:=x;exact⟨k _ _ (.inl rfl) e,ih q⟩
 | tbl ps=>
  have e:h.get? a=some { cls:=.none,data:=.fields ps }:=x;show h'.get? a=some { cls:=.none,data:=.fields ps };exact k a _ (.inl rfl) e
 | met f y=>
  have e:h.get? a=some (PySem.W.methodObj (.ref f) (.ref y)):=x;show h'.get? a=some (PySem.W.methodObj (.ref f) (.ref y));exact k a _ (.inl rfl) e
 | ext φ=>obtain⟨p,⟨o,e⟩,st⟩:=x;exact⟨st _ _ p fun o q=>k _ _ (.inl rfl) q,⟨o,k _ _ (.inl rfl) e⟩,st⟩
theorem ym.lt(x:ym P w H h)(e:H a=some o):a < h.objs.size:=(x a o e).lt
theorem ym.fresh(x:ym P w H h)(e:h.objs.size<=a):H a=none:=by
 cases q:H a with
 | none=>rfl
 | some u=>exact vDa (Nat.lt_of_lt_of_le (x.lt q) e) (wUa _)
theorem ym.kept(x:ym P w H h)(k:∀b u,h.get? b=some u->h'.get? b=some u):ym P w H h':=fun a o e=>
 (x a o e).stay (fun b u _ q=>k b u q) (fun _ q=>q) fun _ _ q=>q
theorem ym.laid(x:ym P w H h)(k:∀b u,h.get? b=some u->h'.get? b=some u)(hp:h.objs.size<=a)(new:ya P w (upd H a o) h' a o):ym P w (upd H a o) h':=fun b u e=>by
 have hn:=x.fresh hp;by_cases hb:b=a
 ·subst hb;rw[jH]at e;cases e;exact new
 ·rw[jo hb]at e;exact(x b u e).stay (fun c v _ q=>k c v q) (fun c q=>by rw[jo (jx q hn)];exact q) fun c xs q=>by rw[jo (jx q hn)];exact q
end
def Rd(H:Hp)(a:Addr)(u:HO):Prop:=H a=some u∨∃o,H a=some (.frz o u)
theorem Rd.ok{P:Program}{w:World}{H:Hp}{h:Heap}{a:Addr}{u:HO}(r:Rd H a u)(x:ym P w H h):ya P w H h a u:=by
 rcases r with r | ⟨o,r⟩
 ·exact x a u r
 ·obtain⟨_,q⟩:=x a _ r;exact q
def A2:Option HO->Prop
 | some (.lst _)=>True
 | some (.dK _)=>True
 | some (.dT _)=>True
 | some (.dD _ _)=>True
 | some (.set _ _)=>True
 | some (.ins _ _ _)=>True
 | some (.ext _)=>True
 | _=>False
section
variable {P:Program} {w:World} {H:Hp} {h h':Heap} {x e:Addr} {o':HO}
theorem ym.write(ok:ym P w H h)(mu:A2 (H x))(he:e=x∨H e=some (.own x))(k:∀b u,b≠e->h.get? b=some u->h'.get? b=some u)(heo:∃u,h'.get? e=some u)
  (new:ya P w (upd H x o') h' x o'):ym P w (upd H x o') h':=fun b u q=>by
 have nown:∀c y,H c=some (.own y)->c≠x:=fun c y r z=>by subst z;rw[r]at mu;exact mu
 have ntup:∀c xs,H c=some (.tup xs)->c≠x:=fun c xs r z=>by subst z;rw[r]at mu;exact mu
 by_cases hb:b=x
 ·subst hb;rw[jH]at q;cases q;exact new
 ·rw[jo hb]at q;by_cases hbe:b=e
  ·have q':H b=some (.own x):=by
    rcases he with z | z
    ·exact vDa (hbe.trans z) hb
    ·rw[hbe];exact z
   rw[q]at q';cases q';obtain⟨v,hv⟩:=heo;exact⟨v,by rw[hbe];exact hv⟩
  ·refine(ok b u q).stay (fun c v hc r=>k c v ?_ r) (fun c r=>by rw[jo (nown c b r)];exact r) fun c xs r=>by rw[jo (ntup c xs r)];exact r
   rcases hc with rfl | hc
   ·exact hbe
   ·rintro rfl;rcases he with z | z
    ·exact nown c b hc z
    ·rw[hc]at z;cases z;exact hb rfl
end
structure Un (fs ex:List Addr) (H H':Hp) (h h':Heap):Prop where
 keep:∀b o,h.get? b=some o->H b=none->b∉fs->b∉ex->h'.get? b=some o
 slot:∀b o,h.get? b=some o->H b=none->b∈fs->b∉ex->∃sl,h'.get? b=some { o with slots:=sl }
 free:∀b o,h.get? b=some o->H b=none->b∉ex->H' b=none
 there:∀b o,h.get? b=some o->b∉ex->∃o',h'.get? b=some o'
 tups:∀b xs,H b=some (.tup xs)->H' b=some (.tup xs)
 frzs:∀b o u,H b=some (.frz o u)->H' b=some (.frz o u)
 tbls:∀b ps,H b=some (.tbl ps)->∃more,H' b=some (.tbl (ps++more))
section
variable {fs fs' ex ex':List Addr} {H H1 H2:Hp} {h h1 h2 h':Heap} {a x e:Addr} {o:HO}
theorem Un.any(u:Un fs ex H H1 h h1){b:Addr}{ob:Obj}(q:h.get? b=some ob)(n:H b=none)(hx:b∉ex):∃sl,h1.get? b=some { ob with slots:=sl }:=by
 by_cases hb:b∈fs
 ·exact u.slot b ob q n hb hx
 ·exact⟨ob.slots,u.keep b ob q n hb hx⟩
theorem Un.kept(k:∀b u,h.get? b=some u->h'.get? b=some u):Un fs ex H H h h':=
 ⟨fun b ob q _ _ _=>k b ob q,fun b ob q _ _ _=>⟨ob.slots,k b ob q⟩,fun _ _ _ n _=>n,fun b ob q _=>⟨ob,k b ob q⟩,fun _ _ q=>q,fun _ _ _ q=>q,fun _ ps q=>⟨#[],by rw[q];simp⟩⟩
theorem Un.refl:Un fs ex H H h h:=Un.kept fun _ _ q=>q
theorem Un.laid(k:∀b u,h.get? b=some u->h'.get? b=some u)(hp:h.objs.size<=a)(hn:H a=none):Un fs ex H (upd H a o) h h' where
 keep:=fun b u q _ _ _=>k b u q
 slot:=fun b u q _ _ _=>⟨u.slots,k b u q⟩
 free:=fun b u q n _=>by rw[jo (Nat.ne_of_lt (Nat.lt_of_lt_of_le (Heap.lt_size q) hp))];exact n
 there:=fun b u q _=>⟨u,k b u q⟩
 tups:=fun b xs q=>by rw[jo (jx q hn)];exact q
 frzs:=fun b u xs q=>by rw[jo (jx q hn)];exact q
 tbls:=fun b ps q=>⟨#[],by rw[jo (jx q hn),q];simp⟩
theorem Un.write(mu:A2 (H x))(he:e=x∨H e=some (.own x))(k:∀b u,b≠e->h.get? b=some u->h'.get? b=some u)(heo:∃u,h'.get? e=some u):Un fs ex H (upd H x o) h h':=by
 have hx:∀b,H b=none->b≠x:=fun b n z=>by subst z;rw[n]at mu;exact mu
 have hb:∀b,H b=none->b≠e:=fun b n z=>by
  subst z;rcases he with r | r
  ·exact hx b n r
  ·rw[n]at r;cases r
 have hm:∀b u,H b=some u->¬A2 (some u)->b≠x:=fun b u q nm z=>by subst z;rw[q]at mu;exact nm mu
 refine⟨fun b u q n _ _=>k b u (hb b n) q,fun b u q n _ _=>⟨u.slots,k b u (hb b n) q⟩,fun b u q n _=>by rw[jo (hx b n)];exact n,fun b u q _=>?_,
  fun b xs q=>by rw[jo (hm b _ q fun z=>z)];exact q,fun b u xs q=>by rw[jo (hm b _ q fun z=>z)];exact q,fun b ps q=>⟨#[],by rw[jo (hm b _ q fun z=>z),q];simp⟩⟩
 by_cases hbe:b=e
 ·subst hbe;exact heo
 ·exact⟨u,k b u hbe q⟩
end
noncomputable def A3(h:Heap)(H:Hp):List Addr:=(List.range h.objs.size).filter fun a=>(H a).isSome
def Ve(h:Heap)(H:Hp):Heap:=PySem.W.hideAll h (A3 h H)
theorem Qw(h:Heap)(H:Hp):(Ve h H).objs.size=h.objs.size:=PySem.W.hideAll_size _ _
theorem Xj{h:Heap}{H:Hp}{b:Addr}{o:Obj}(e:h.get? b=some o)(n:H b=none):(Ve h H).get? b=some o:=
 PySem.W.hideAll_get _ e fun hm=>by
  have q:(H b).isSome=true:=(List.mem_filter.mp hm).2;rw[n]at q;simp at q
theorem bh{h:Heap}{H:Hp}{b:Addr}{o:Obj}(e:(Ve h H).get? b=some o):h.get? b=some o/\H b=none:=by
 have e':h.get? b=some o:=PySem.W.of_hideAll (A3 h H) e;refine⟨e',?_⟩;cases q:H b with
 | none=>rfl
 | some x=>
  have hm:b∈A3 h H:=List.mem_filter.mpr ⟨List.mem_range.mpr (wLa e'),by simp[q]⟩;have z:(Ve h H).get? b=none:=PySem.W.hideAll_none (A3 h H) hm;rw[z]at e;cases e
structure Mod (K:PySem.W.Frag) (mg:Str->Option Value) (base:Heap):Prop where
 kin:K.In base
 glob:base.Ns mainGlobals mg
 blt:∃mb,base.Ns builtinsNs mb/\∀x:Str,x≠ "__name__" ->mb x=bootBuiltins x
 nolimit:base.NoLimit
structure Cx where
 prog:Program
 w:World
 K:PySem.W.Frag
 mg:Str->Option Value
 base:Heap
 A:Around
 N:List Str
 s₀:Shared
 H₀:Hp
 env:Env
 outer:List Env
 stack:List Env
 ex:List Addr
 fn:Str->Bool
 calm:Bool
 pn:List (Addr×Obj)
 xe:Value->Shared->Prop
noncomputable def vU(l:List Env):List Addr:=l.filterMap (·.frame)
abbrev Cx.fs(X:Cx):List Addr:=vU X.outer
def WK(sc:Scope)(x:Str):Prop:=sc.names.lookup x=some .local∨sc.names.lookup x=some .cell∨sc.names.lookup x=some .free
def Ud(sc:Scope)(x:Str):Prop:=sc.names.lookup x=some .local∨sc.names.lookup x=some .cell
def hW(env:Env)(h:Heap)(m:Str->Option Value)(x:Str)(u:Value):Prop:=
 (env.kindOf x=some .local/\m x=some u)∨((env.kindOf x=some .cell∨env.kindOf x=some .free)/\∃c,env.cells.lookup x=some c/\h.IsCell c (some u))
structure Cx.Ok (X:Cx):Prop where
 mod:Mod X.K X.mg X.base
 kind:X.env.scope.kind=.function
 glob:X.env.globals=mainGlobals
 blt:X.env.builtins=builtinsNs
 above:X.s₀.heap.objs.size<=X.env.locals
 inj:∀x y c,X.env.cells.lookup x=some c->X.env.cells.lookup y=some c->x=y
 has:∀x,(X.env.kindOf x=some .cell∨X.env.kindOf x=some .free)->∃c,X.env.cells.lookup x=some c
 cab:∀x c,X.fn x=true->X.env.cells.lookup x=some c->X.s₀.heap.objs.size<=c
 hd:X.calm=true->X.A.handled=none
 frames:X.A.frames=some X.stack
 stk:X.stack=X.outer∨(X.stack=X.env::X.outer/\X.env.frame=some X.env.locals)
 exf:∀b∈X.ex,b≠X.env.locals/\∀x c,X.env.cells.lookup x=some c->c≠b
 bs:∀b o,X.base.get? b=some o->X.s₀.heap.get? b=some o/\X.H₀ b=none
 bsz:X.base.objs.size<=X.s₀.heap.objs.size
 noex:∀b o,X.base.get? b=some o->b∉X.ex
 exfs:∀b∈X.ex,b∉X.fs
 funs:X.s₀.heap.FunFrames X.base X.outer
 frf:∀b∈X.fs,X.H₀ b=none
structure Inv (X:Cx) (pins:List (Addr×Obj)) (σ:List (Option V)) (H:Hp) (s:Shared):Prop where
 ok:X.Ok
 os:s.os=X.s₀.os
 bare:AllBare s.gens
 base:Un X.fs X.ex X.H₀ H X.s₀.heap s.heap
 loc:∃m,s.heap.Ns X.env.locals m/\∀(i:Nat) (x:Str) (v:V),X.N[i]?=some x->σ[i]?=some (some v)->WK X.env.scope x->∃u,jt v u/\hW X.env s.heap m x u
 cell:∀x c,X.env.cells.lookup x=some c->∃v,s.heap.IsCell c v
 free:H X.env.locals=none
 freeC:∀x c,X.env.cells.lookup x=some c->H c=none
 pin:∀p∈X.pn++pins,s.heap.get? p.1=some p.2/\H p.1=none/\p.1≠X.env.locals/\p.1∉X.fs/\∀v,p.2.data≠.cell v
 hok:ym X.prog X.w H s.heap
 len:σ.length=X.N.length
section
variable {X:Cx} {pins:List (Addr×Obj)} {σ:List (Option V)} {H H':Hp} {s:Shared} {h':Heap}
theorem Cx.Ok.nofr(ok:X.Ok){b:Addr}{o:Obj}(e:X.base.get? b=some o):b∉X.fs:=fun hb=>by
 have:=(ok.funs.mem hb).1;rw[e]at this;cases this
theorem Inv.bs(I:Inv X pins σ H s):∀b o,X.base.get? b=some o->s.heap.get? b=some o/\H b=none:=fun b o e=>
 ⟨I.base.keep b o (I.ok.bs b o e).1 (I.ok.bs b o e).2 (I.ok.nofr e) (I.ok.noex b o e),I.base.free b o (I.ok.bs b o e).1 (I.ok.bs b o e).2 (I.ok.noex b o e)⟩
theorem Inv.bk(I:Inv X pins σ H s):∀b o,X.base.get? b=some o->s.heap.get? b=some o:=fun b o e=>(I.bs b o e).1
theorem Inv.mod(I:Inv X pins σ H s):Mod X.K X.mg X.base:=I.ok.mod
theorem Inv.kIn(I:Inv X pins σ H s):X.K.In s.heap:=I.ok.mod.kin.keeps I.bk
theorem Inv.lt(I:Inv X pins σ H s):X.env.locals < s.heap.objs.size:=let ⟨_,hn,_⟩:=I.loc;hn.lt
theorem Inv.sz(I:Inv X pins σ H s):X.s₀.heap.objs.size<=s.heap.objs.size:=wSa I.ok.above (wQa I.lt)
theorem Inv.nofs(I:Inv X pins σ H s){a:Addr}(h:s.heap.objs.size<=a):a∉X.fs:=fun hb=>by
 obtain⟨_,o,ho,_⟩:=I.ok.funs.mem hb;exact vDa (Nat.lt_of_lt_of_le (wLa ho) (wSa I.sz h)) (wUa _)
theorem Inv.cne(I:Inv X pins σ H s):∀x c,X.env.cells.lookup x=some c->c≠X.env.locals:=fun x c e z=>by
 obtain⟨v,o,ho,hd⟩:=I.cell x c e;obtain⟨m,⟨o',es,ep,ho',hd',_⟩,_⟩:=I.loc;rw[z,ho']at ho;cases ho;rw[hd']at hd;cases hd
theorem Inv.funs(I:Inv X pins σ H s):s.heap.FunFrames X.base X.outer:=by
 have all:∀(l:List Env),(∀b∈vU l,b∈X.fs)->X.s₀.heap.FunFrames X.base l->s.heap.FunFrames X.base l:=by
  intro l;induction l with
  | nil=>intro _ _;trivial
  | cons env r ih=>
   intro hs hl;obtain⟨hk,⟨L,o,hf,hn,ho,hd⟩,hr⟩:=hl;have hL:L∈X.fs:=hs L (by unfold vU;rw[List.filterMap_cons,hf];exact wNa);obtain⟨sl,e⟩:=I.base.slot L o ho (I.ok.frf L hL) hL fun z=>I.ok.exfs L z hL;exact⟨hk,⟨L,_,hf,hn,e,hd⟩,ih (fun b hb=>hs b (by unfold vU;rw[List.filterMap_cons,hf];exact wMa _ hb)) hr⟩
 exact all X.outer (fun _ hb=>hb) I.ok.funs
theorem Inv.stack(I:Inv X pins σ H s):s.heap.FunFrames X.base X.stack:=by
 rcases I.ok.stk with e | ⟨e,hf⟩
 ·rw[e];exact I.funs
 ·rw[e];obtain⟨m,hn,_⟩:=I.loc;refine .cons (by rw[I.ok.kind];decide) hf hn ?_ I.funs;exact Heap.get?_none_of_le (wSa I.ok.bsz I.ok.above)
theorem Inv.stkSub(I:Inv X pins σ H s):∀b∈vU X.stack,b∈X.env.locals::X.fs:=fun b hb=>by
 rcases I.ok.stk with e | ⟨e,hf⟩
 ·rw[e]at hb;exact wMa _ hb
 ·rw[e]at hb;unfold vU at hb;rw[List.filterMap_cons,hf]at hb;exact hb
theorem Inv.stkFree(I:Inv X pins σ H s):∀b∈vU X.stack,H b=none:=fun b hb=>by
 rcases List.mem_cons.mp (I.stkSub b hb)with e | hb
 ·rw[e];exact I.free
 ·obtain⟨_,o,ho,_⟩:=I.ok.funs.mem hb;exact I.base.free b o ho (I.ok.frf b hb) fun z=>I.ok.exfs b z hb
theorem Inv.step{g':Array GenState}{t':Nat}{d':Drawn}{ch:List Addr}(I:Inv X pins σ H s)
  (hch:∀b∈ch,(b∈X.ex∨X.s₀.heap.objs.size<=b)/\b≠X.env.locals/\(∀x c,X.env.cells.lookup x=some c->c≠b)/\∀p∈X.pn++pins,p.1≠b)
  (keep:∀b o,b≠X.env.locals->b∉X.fs->b∉ch->s.heap.get? b=some o->H b=none->h'.get? b=some o)
  (slot:∀b o,b≠X.env.locals->b∈X.fs->b∉ch->s.heap.get? b=some o->H b=none->∃sl,h'.get? b=some { o with slots:=sl }) (free:∀b o,b∉ch->s.heap.get? b=some o->H b=none->H' b=none)
  (there:∀b o,b∉ch->s.heap.get? b=some o->∃o',h'.get? b=some o')
  (tups:∀b xs,H b=some (.tup xs)->H' b=some (.tup xs)) (frzs:∀b o u,H b=some (.frz o u)->H' b=some (.frz o u)) (tbls:∀b ps,H b=some (.tbl ps)->∃more,H' b=some (.tbl (ps++more)))
  (ns:∀m,s.heap.Ns X.env.locals m->h'.Ns X.env.locals m) (hok:ym X.prog X.w H' h') (hg:AllBare g'):
  Inv X pins σ H' { s with heap:=h',gens:=g',drawn:=d',toks:=t' }:=by
 have neL:∀b o,X.s₀.heap.get? b=some o->b≠X.env.locals:=fun b o e=>wTa (Nat.lt_of_lt_of_le (wLa e) I.ok.above);have neC:∀b o,X.s₀.heap.get? b=some o->b∉X.ex->b∉ch:=fun b o e hx hb=>by
  rcases(hch b hb).1 with z | z
  ·exact hx z
  ·exact vDa (Nat.lt_of_lt_of_le (wLa e) z) (wUa _)
 have cellK:∀x c,X.env.cells.lookup x=some c->∀v,s.heap.IsCell c v->h'.IsCell c v:=fun x c e v xx=>by
  obtain⟨o,ho,hd⟩:=xx;have nch:c∉ch:=fun z=>(hch c z).2.2.1 x c e rfl;by_cases hc:c∈X.fs
  ·obtain⟨sl,q⟩:=slot c o (I.cne x c e) hc nch ho (I.freeC x c e);exact⟨_,q,hd⟩
  ·exact⟨o,keep c o (I.cne x c e) hc nch ho (I.freeC x c e),hd⟩
 refine⟨I.ok,I.os,hg,⟨fun b o e n hb hx=>?_,fun b o e n hb hx=>?_,fun b o e n hx=>?_,fun b o e hx=>?_,fun b xs e=>tups b xs (I.base.tups b xs e),fun b o xs e=>frzs b o xs (I.base.frzs b o xs e),fun b ps e=>?_⟩,?_,fun x c e=>?_,?_,fun x c e=>?_,fun p hp=>?_,hok,I.len⟩
 ·exact keep b o (neL b o e) hb (neC b o e hx) (I.base.keep b o e n hb hx) (I.base.free b o e n hx)
 ·obtain⟨sl,e1⟩:=I.base.slot b o e n hb hx;obtain⟨sl',e2⟩:=slot b _ (neL b o e) hb (neC b o e hx) e1 (I.base.free b o e n hx);exact⟨sl',e2⟩
 ·obtain⟨o',e1⟩:=I.base.there b o e hx;exact free b o' (neC b o e hx) e1 (I.base.free b o e n hx)
 ·obtain⟨o',e1⟩:=I.base.there b o e hx;exact there b o' (neC b o e hx) e1
 ·obtain⟨m1,e1⟩:=I.base.tbls b ps e;obtain⟨m2,e2⟩:=tbls b _ e1;exact⟨m1++m2,by rw[e2,Array.append_assoc]⟩
 ·obtain⟨m,hn,hl⟩:=I.loc;refine⟨m,ns m hn,fun i x v e1 e2 e3=>?_⟩;obtain⟨u,r,l⟩:=hl i x v e1 e2 e3;refine⟨u,r,?_⟩;rcases l with l | ⟨k,c,e,z⟩
  ·exact .inl l
  ·exact .inr ⟨k,c,e,cellK x c e _ z⟩
 ·obtain⟨v,z⟩:=I.cell x c e;exact⟨v,cellK x c e v z⟩
 ·obtain⟨m,⟨o,_,_,ho,_⟩,_⟩:=I.loc;exact free _ o (fun z=>(hch _ z).2.1 rfl) ho I.free
 ·obtain⟨v,o,ho,hd⟩:=I.cell x c e;exact free c o (fun z=>(hch c z).2.2.1 x c e rfl) ho (I.freeC x c e)
 ·obtain⟨e,n,ne,nf,d⟩:=I.pin p hp;have nch:p.1∉ch:=fun z=>(hch p.1 z).2.2.2 p hp rfl;exact⟨keep p.1 p.2 ne nf nch e n,free p.1 p.2 nch e n,ne,nf,d⟩
theorem Inv.un{t':Nat}(I:Inv X pins σ H s)(u:Un X.fs [] H H' s.heap h')(hok:ym X.prog X.w H' h'):Inv X pins σ H' { s with heap:=h',toks:=t' }:=by
 obtain⟨m,⟨o,es,ep,ho,r⟩,_⟩:=id I.loc;obtain⟨sl,hL⟩:=u.any ho I.free (by simp);exact I.step (g':=s.gens) (d':=s.drawn) (ch:=[]) (fun _ z=>nomatch z) (fun b o _ hb _ e n=>u.keep b o e n hb (by simp)) (fun b o _ hb _ e n=>u.slot b o e n hb (by simp)) (fun b o _ e n=>u.free b o e n (by simp)) (fun b o _ e=>u.there b o e (by simp)) u.tups u.frzs u.tbls (fun m' hm=>by
  obtain⟨o',es',ep',ho',r'⟩:=hm;rw[ho]at ho';cases ho';exact⟨_,es',ep',hL,r'⟩) hok I.bare
theorem Inv.call{g':Array GenState}{t':Nat}{d':Drawn}{ch:List Addr}(I:Inv X pins σ H s)(u:Un (vU X.stack) ch H H' s.heap h')(hok:ym X.prog X.w H' h')(hg:AllBare g')
  (hch:∀b∈ch,(b∈X.ex∨X.s₀.heap.objs.size<=b)/\b≠X.env.locals/\(∀x c,X.env.cells.lookup x=some c->c≠b)/\∀p∈X.pn++pins,p.1≠b):
  Inv X pins σ H' { s with heap:=h',gens:=g',drawn:=d',toks:=t' }:=by
 obtain⟨m,⟨o,es,ep,ho,r⟩,_⟩:=id I.loc;obtain⟨sl,hL⟩:=u.any ho I.free fun z=>(hch _ z).2.1 rfl;exact I.step (ch:=ch) hch (fun b o hL hb hc e n=>u.keep b o e n (fun z=>(List.mem_cons.mp (I.stkSub b z)).elim hL hb) hc) (fun b o _ _ hc e n=>u.any e n hc) (fun b o hc e n=>u.free b o e n hc) (fun b o hc e=>u.there b o e hc) u.tups u.frzs u.tbls (fun m' hm=>by
  obtain⟨o',es',ep',ho',r'⟩:=hm;rw[ho]at ho';cases ho';exact⟨_,es',ep',hL,r'⟩) hok hg
theorem Inv.turned{t':Nat}{it:Addr}(I:Inv X pins σ H s)(k:∀b o,b≠it->s.heap.get? b=some o->h'.get? b=some o)(hn:H it=none)(hL:it≠X.env.locals)
  (h1:it∈X.ex∨X.s₀.heap.objs.size<=it) (h2:∀x c,X.env.cells.lookup x=some c->c≠it) (h3:∀p∈X.pn++pins,p.1≠it):Inv X pins σ H { s with heap:=h',toks:=t' }:=by
 have nit:∀b u,H b=some u->b≠it:=fun b u e z=>by rw[z,hn]at e;cases e
 refine I.step (g':=s.gens) (d':=s.drawn) (ch:=[it]) (fun b hb=>?_) (fun b o _ _ hc e _=>k b o (fun z=>hc (by simp[z])) e) (fun b o _ _ hc e _=>⟨o.slots,k b o (fun z=>hc (by simp[z])) e⟩) (fun _ _ _ _ n=>n)
  (fun b o hc e=>⟨o,k b o (fun z=>hc (by simp[z])) e⟩) (fun _ _ e=>e) (fun _ _ _ e=>e) (fun b ps e=>⟨#[],by rw[e];simp⟩) (fun m hm=>?_) (fun b u e=>?_) I.bare
 ·have e:b=it:=by simpa using hb
  subst e;exact⟨h1,hL,h2,h3⟩
 ·obtain⟨o,es,ep,ho,r⟩:=hm;exact⟨o,es,ep,k _ o (Ne.symm hL) ho,r⟩
 ·refine(I.hok b u e).stay (fun c v hc q=>k c v ?_ q) (fun _ q=>q) fun _ _ q=>q;rcases hc with z | z
  ·rw[z];exact nit b u e
  ·exact nit c _ z
theorem Inv.tok(I:Inv X pins σ H s)(t:Nat):Inv X pins σ H { s with toks:=t }:=I.un (h':=s.heap) (t':=t) Un.refl I.hok
theorem Inv.kept{t':Nat}(I:Inv X pins σ H s)(k:∀b u,s.heap.get? b=some u->h'.get? b=some u):Inv X pins σ H { s with heap:=h',toks:=t' }:=I.un (Un.kept k) (I.hok.kept k)
theorem Inv.laid{a:Addr}{o:HO}{t':Nat}(I:Inv X pins σ H s)(k:∀b u,s.heap.get? b=some u->h'.get? b=some u)(hp:s.heap.objs.size<=a)(new:ya X.prog X.w (upd H a o) h' a o):
  Inv X pins σ (upd H a o) { s with heap:=h',toks:=t' }:=I.un (Un.laid k hp (I.hok.fresh hp)) (I.hok.laid k hp new)
theorem Inv.write{x e:Addr}{o:HO}{t':Nat}(I:Inv X pins σ H s)(mu:A2 (H x))(he:e=x∨H e=some (.own x))(k:∀b u,b≠e->s.heap.get? b=some u->h'.get? b=some u)(heo:∃u,h'.get? e=some u)
  (new:ya X.prog X.w (upd H x o) h' x o):Inv X pins σ (upd H x o) { s with heap:=h',toks:=t' }:=I.un (Un.write mu he k heo) (I.hok.write mu he k heo new)
theorem Inv.weak{σ':List (Option V)}(I:Inv X pins σ H s)(hl:σ'.length=σ.length)(w:∀(i:Nat) v,σ'[i]?=some (some v)->σ[i]?=some (some v)):Inv X pins σ' H s:=
 ⟨I.ok,I.os,I.bare,I.base,let ⟨m,hn,hl'⟩:=I.loc;⟨m,hn,fun i x v e1 e2 e3=>hl' i x v e1 (w i v e2) e3⟩,I.cell,I.free,I.freeC,I.pin,I.hok,hl.trans I.len⟩
theorem Inv.pins_of{pins':List (Addr×Obj)}(I:Inv X pins σ H s)(h:∀p∈pins',s.heap.get? p.1=some p.2/\H p.1=none/\p.1≠X.env.locals/\p.1∉X.fs/\∀v,p.2.data≠.cell v):Inv X pins' σ H s:=
 ⟨I.ok,I.os,I.bare,I.base,I.loc,I.cell,I.free,I.freeC,fun p hp=>(List.mem_append.mp hp).elim (fun z=>I.pin p (vIa _ z)) (h p),I.hok,I.len⟩
theorem Kv{N:List Str}(hN:N.Nodup){i j:Nat}{x:Str}(a:N[i]?=some x)(b:N[j]?=some x):i=j:=by
 obtain⟨h1,e1⟩:=List.getElem?_eq_some_iff.mp a;obtain⟨h2,e2⟩:=List.getElem?_eq_some_iff.mp b;exact(List.getElem_inj hN).mp (e1.trans e2.symm)
theorem kb{M:Model}{A:Around}{E:Value->Shared->Prop}{i:Nat}{x:Str}{v:V}{u:Value}{Q:Unit->Shared->Prop}(I:Inv X pins σ H s)(hN:X.N.Nodup)(hi:X.N[i]?=some x)(hx:Ud X.env.scope x)(r:jt v u)
  (h:∀s',Inv X pins (σ.set i (some v)) H s'->(∃a,Heap.SameBut a s.heap s'.heap/\(a=X.env.locals∨X.env.cells.lookup x=some a))->Q () s') (hf:X.fn x=true∨X.env.scope.names.lookup x=some .local:=by first | exact .inl rfl | exact .inr rfl | assumption):wpAny M A (storeName X.env x u) Q E s:=by
 obtain⟨m,hn,hl⟩:=id I.loc;have hcls:(X.env.scope.kind==.class||(X.env.scope.kind==.module&&X.env.locals != X.env.globals))=false:=by rw[I.ok.kind];rfl
 have hiσ:i < σ.length:=by rw[I.len];exact(List.getElem?_eq_some_iff.mp hi).1
 have cne:=I.cne;have tracked:∀{a:Addr} {h':Heap},(∃o,s.heap.get? a=some o/\H a=none)->Heap.SameBut a s.heap h'->ym X.prog X.w H h':=fun {a h'} ha hs b ob e=>by
  obtain⟨_,_,hfree⟩:=ha;refine(I.hok b ob e).stay (fun c w' hc q=>(hs.2 c ?_).trans q) (fun _ q=>q) fun _ _ q=>q;rintro rfl;rcases hc with rfl | hc
  ·rw[hfree]at e;cases e
  ·rw[hfree]at hc;cases hc
 rcases hx with hk | hk
 ·refine wpAny_storeName_local hk hn (fun h' hn' hs=>?_) hcls;obtain⟨oL,_,_,hoL,_⟩:=id hn;refine h _ ⟨I.ok,I.os,I.bare,⟨fun b o e n hb hx=>?_,fun b o e n hb hx=>?_,I.base.free,fun b o e hx=>?_,I.base.tups,I.base.frzs,I.base.tbls⟩,⟨_,hn',fun j y v' e1 e2 e3=>?_⟩,fun y c e=>?_,I.free,I.freeC,fun p hp=>?_,tracked ⟨oL,hoL,I.free⟩ hs,by simpa using I.len⟩ ⟨_,hs,.inl rfl⟩
  ·exact(hs.2 b (wTa (Nat.lt_of_lt_of_le (wLa e) I.ok.above))).trans (I.base.keep b o e n hb hx)
  ·obtain⟨sl,e1⟩:=I.base.slot b o e n hb hx;exact⟨sl,(hs.2 b (wTa (Nat.lt_of_lt_of_le (wLa e) I.ok.above))).trans e1⟩
  ·obtain⟨o',e1⟩:=I.base.there b o e hx;exact⟨o',(hs.2 b (wTa (Nat.lt_of_lt_of_le (wLa e) I.ok.above))).trans e1⟩
  ·by_cases hj:j=i
   ·subst hj;rw[hi]at e1;cases e1;rw[List.getElem?_set_self hiσ]at e2;cases e2;exact⟨u,r,.inl ⟨hk,by simp⟩⟩
   ·rw[List.getElem?_set_ne (Ne.symm hj)]at e2;obtain⟨u',r',q⟩:=hl j y v' e1 e2 e3;refine⟨u',r',?_⟩;rcases q with⟨k,e⟩ | ⟨k,c,e,z⟩
    ·refine .inl ⟨k,?_⟩;have:y≠x:=fun e=>hj (Kv hN e1 (e▸hi));simp[this,e]
    ·exact .inr ⟨k,c,e,z.sameBut hs (cne y c e)⟩
  ·obtain⟨w',z⟩:=I.cell y c e;exact⟨w',z.sameBut hs (cne y c e)⟩
  ·obtain⟨e,n,ne,nf,d⟩:=I.pin p hp;exact⟨(hs.2 p.1 ne).trans e,n,ne,nf,d⟩
 ·have hfn:X.fn x=true:=by
   rcases hf with z | z
   ·exact z
   ·rw[z]at hk;cases hk
  obtain⟨c,hc⟩:=I.ok.has x (.inl hk);obtain⟨w',z⟩:=I.cell x c hc;refine wpAny_storeName_cell I.ok.kind hk hc z (fun h' hc' hs=>?_);obtain⟨oc,hoc,hocd⟩:=id z;refine h { s with heap:=h' } ⟨I.ok,I.os,I.bare,⟨fun b o e n hb hx=>?_,fun b o e n hb hx=>?_,I.base.free,fun b o e hx=>?_,I.base.tups,I.base.frzs,I.base.tbls⟩,⟨m,hn.sameBut hs (Ne.symm (cne x c hc)),fun j y v' e1 e2 e3=>?_⟩,fun y c' e=>?_,I.free,I.freeC,fun p hp=>?_,tracked ⟨oc,hoc,I.freeC x c hc⟩ hs,by simpa using I.len⟩ ⟨c,hs,.inr hc⟩
  ·exact(hs.2 b (wTa (Nat.lt_of_lt_of_le (wLa e) (I.ok.cab x c hfn hc)))).trans (I.base.keep b o e n hb hx)
  ·obtain⟨sl,e1⟩:=I.base.slot b o e n hb hx;exact⟨sl,(hs.2 b (wTa (Nat.lt_of_lt_of_le (wLa e) (I.ok.cab x c hfn hc)))).trans e1⟩
  ·obtain⟨o',e1⟩:=I.base.there b o e hx;exact⟨o',(hs.2 b (wTa (Nat.lt_of_lt_of_le (wLa e) (I.ok.cab x c hfn hc)))).trans e1⟩
  ·by_cases hj:j=i
   ·subst hj;rw[hi]at e1;cases e1;rw[List.getElem?_set_self hiσ]at e2;cases e2;exact⟨u,r,.inr ⟨.inl hk,c,hc,hc'⟩⟩
   ·rw[List.getElem?_set_ne (Ne.symm hj)]at e2;obtain⟨u',r',q⟩:=hl j y v' e1 e2 e3;refine⟨u',r',?_⟩;rcases q with q | ⟨k,c',e,z'⟩
    ·exact .inl q
    ·refine .inr ⟨k,c',e,z'.sameBut hs ?_⟩;rintro rfl;exact hj (Kv hN e1 (I.ok.inj _ _ _ e hc▸hi))
  ·by_cases hcc:c'=c
   ·subst hcc;exact⟨_,hc'⟩
   ·obtain⟨w2,z2⟩:=I.cell y c' e;exact⟨w2,z2.sameBut hs hcc⟩
  ·obtain⟨e,n,ne,nf,d⟩:=I.pin p hp;refine⟨(hs.2 p.1 ?_).trans e,n,ne,nf,d⟩;intro q;rw[q,hoc]at e;have q':oc=p.2:=vFa e;exact d w' (by rw[<-q'];exact hocd)
theorem UC{M:Model}{A:Around}{E:Value->Shared->Prop}{i:Nat}{x:Str}{v:V}{u:Value}{Q:Unit->Shared->Prop}(I:Inv X pins σ H s)(hN:X.N.Nodup)(hi:X.N[i]?=some x)(hx:Ud X.env.scope x)(r:jt v u)
  (h:∀s',Inv X pins (σ.set i (some v)) H s'->Q () s') (hf:X.fn x=true∨X.env.scope.names.lookup x=some .local:=by first | exact .inl rfl | exact .inr rfl | assumption):wpAny M A (storeName X.env x u) Q E s:=
 kb I hN hi hx r (fun s' I' _=>h s' I') hf
theorem Inv.call'{s':Shared}{ch:List Addr}(I:Inv X pins σ H s)(ho:s'.os=s.os)(u:Un (vU X.stack) ch H H' s.heap s'.heap)(hok:ym X.prog X.w H' s'.heap)(hg:AllBare s'.gens)
  (hch:∀b∈ch,(b∈X.ex∨X.s₀.heap.objs.size<=b)/\b≠X.env.locals/\(∀x c,X.env.cells.lookup x=some c->c≠b)/\∀p∈X.pn++pins,p.1≠b):Inv X pins σ H' s':=by
 obtain⟨h',g',d',t',o'⟩:=s';have e:o'=s.os:=ho;subst e;exact I.call (g':=g') (t':=t') (d':=d') u hok hg hch
end
noncomputable abbrev XK:=Value->Option Addr->Hp->Prop
noncomputable abbrev St:=List (Option V)
noncomputable abbrev VK:=V->Hp->Prop
noncomputable abbrev TE:=St->Hp->VK->Prop
noncomputable abbrev TT:=St->Hp->(Bool->Hp->Prop)->Prop
noncomputable abbrev TA:=St->Hp->(List V->Hp->Prop)->Prop
structure Ends where
 nx:St->Hp->Prop
 rt:VK
 bk:St->Hp->Prop:=fun _ _=>False
 ct:St->Hp->Prop:=fun _ _=>False
noncomputable abbrev TS:=Ends->St->Hp->Prop
def EP(X:Cx)(pins:List (Addr×Obj))(σ:St)(Q:VK)(u:Value)(s':Shared):Prop:=∃v H',Inv X pins σ H' s'/\jt v u/\Q v H'
def TP(X:Cx)(pins:List (Addr×Obj))(σ:St)(Q:Bool->Hp->Prop)(b:Bool)(s':Shared):Prop:=∃H',Inv X pins σ H' s'/\Q b H'
def AP(X:Cx)(pins:List (Addr×Obj))(σ:St)(Q:List V->Hp->Prop)(us:List Value)(s':Shared):Prop:=∃vs H',Inv X pins σ H' s'/\jh vs us/\Q vs H'
def SP(X:Cx)(pins:List (Addr×Obj))(D:Ends)(f:Flow)(s':Shared):Prop:=
 match f with
 | .next=>∃σ' H',Inv X pins σ' H' s'/\D.nx σ' H'
 | .brk=>∃σ' H',Inv X pins σ' H' s'/\D.bk σ' H'
 | .cont=>∃σ' H',Inv X pins σ' H' s'/\D.ct σ' H'
 | .ret u=>∃v σ' H',Inv X pins σ' H' s'/\jt v u/\D.rt v H'
def PE(X:Cx)(e:Expr)(t:TE):Prop:=
 ∀(pins:List (Addr×Obj)) (s:Shared) (σ:St) (H:Hp) (Q:VK),Inv X pins σ H s->t σ H Q->wpAny (model X.prog X.w) X.A (eval e X.env) (EP X pins σ Q) X.xe s
def PT(X:Cx)(e:Expr)(t:TT):Prop:=
 ∀(pins:List (Addr×Obj)) (s:Shared) (σ:St) (H:Hp) (Q:Bool->Hp->Prop),Inv X pins σ H s->t σ H Q->wpAny (model X.prog X.w) X.A (isTrue e X.env (eval e X.env)) (TP X pins σ Q) X.xe s
def PW(X:Cx)(e:Expr)(t:TT):Prop:=
 ∀(whole:Sem Value) (pins:List (Addr×Obj)) (s:Shared) (σ:St) (H:Hp) (Q:Bool->Hp->Prop),Inv X pins σ H s->t σ H Q->wpAny (model X.prog X.w) X.A (isTrue e X.env whole) (TP X pins σ Q) X.xe s
theorem PW.pt{X:Cx}{e:Expr}{t:TT}(h:PW X e t):PT X e t:=h _
def PA(X:Cx)(es:List Expr)(t:TA):Prop:=
 ∀(pos:Pos) (pins:List (Addr×Obj)) (s:Shared) (σ:St) (H:Hp) (Q:List V->Hp->Prop),Inv X pins σ H s->t σ H Q->wpAny (model X.prog X.w) X.A (spliced (backTo pos (starEach es X.env))) (AP X pins σ Q) X.xe s
def PS(X:Cx)(st:Stmt)(t:TS):Prop:=
 ∀(pins:List (Addr×Obj)) (s:Shared) (σ:St) (H:Hp) (D:Ends),Inv X pins σ H s->t D σ H->wpAny (model X.prog X.w) X.A (exec st X.env) (SP X pins D) X.xe s
def Jc(X:Cx)(st:List Stmt)(t:TS):Prop:=
 ∀(pins:List (Addr×Obj)) (s:Shared) (σ:St) (H:Hp) (D:Ends),Inv X pins σ H s->t D σ H->wpAny (model X.prog X.w) X.A (execs st X.env) (SP X pins D) X.xe s
theorem jv{α:Type}{t:Sem α}{Q Q':α->Shared->Prop}{M:Model}{A:Around}{E:Value->Shared->Prop}{s:Shared}(h:wpAny M A t Q E s)(hQ:∀a s,Q a s->Q' a s):wpAny M A t Q' E s:=wCa h hQ fun _ _ x=>x
section
variable {X:Cx}
def ye(i:Nat):TE:=fun σ H Q=>∃v,σ[i]?=some (some v)/\Q v H
def tC(v:V):TE:=fun _ H Q=>Q v H
theorem BL{i:Nat}{x:Str}{pos:Pos}(hN:X.N[i]?=some x)(hv:WK X.env.scope x)(hd:(x==("__debug__" : Str))=false:=by decide)(hcd:(x==("__classdict__" : Str))=false:=by decide):PE X (.Name x pos) (ye i):=by
 intro pins s σ H Q I h;obtain⟨v,e,h⟩:=h;obtain⟨m,hn,hl⟩:=I.loc;obtain⟨u,r,l⟩:=hl i x v hN e hv;have fin:EP X pins σ Q u s:=⟨v,H,I,r,h⟩
 rcases l with⟨hk,hm⟩ | ⟨hk,c,hc,hcell⟩
 ·exact wpAny_Name (wpAny_loadName_local I.ok.kind hk hn hm fin) hd
 ·rcases hk with hk | hk
  ·exact wpAny_Name (wpAny_loadName_cell I.ok.kind hk hc hcell fin) hd
  ·exact wpAny_Name (wpAny_loadName_free I.ok.kind hk hc hcell fin hcd) hd
theorem BM{i j pos}:PE X (.Constant (.int i) j pos) (tC (.int i)):=fun _ _ _ H _ I h=>wpAny_Constant_int ⟨.int i,H,I.tok _,⟨_,rfl⟩,h⟩
theorem Ei{b j pos}:PE X (.Constant (.bool b) j pos) (tC (.bl b)):=fun _ _ _ H _ I h=>Constant_bool ⟨.bl b,H,I,rfl,h⟩
theorem BN{j pos}:PE X (.Constant .none j pos) (tC .non):=fun _ _ _ H _ I h=>Constant_none ⟨.non,H,I,rfl,h⟩
theorem BO{x j pos}:PE X (.Constant (.str x) j pos) (tC (.str x)):=fun _ _ _ H _ I h=>Calls.Constant_str ⟨.str x,H,I.tok _,⟨_,rfl⟩,h⟩
def Gl(X:Cx)(x:Str):Prop:=X.env.kindOf x=some .globalImplicit
theorem Gq{E:Value->Shared->Prop}{pins:List (Addr×Obj)}{s:Shared}{σ:St}{H:Hp}{x:Str}{u:Value}{pos:Pos}{Q:Value->Shared->Prop}(I:Inv X pins σ H s)(hg:Gl X x)(hm:X.mg x=some u)(h:Q u s)
  (hd:(x==("__debug__" : Str))=false:=by decide):wpAny (model X.prog X.w) X.A (eval (.Name x pos) X.env) Q E s:=
 Calls.Name_function_global I.ok.kind hg (Calls.loadGlobal_global (by rw[I.ok.glob];exact I.mod.glob.keeps I.bk) hm h) hd
theorem Zv{E:Value->Shared->Prop}{pins:List (Addr×Obj)}{s:Shared}{σ:St}{H:Hp}{x:Str}{u:Value}{pos:Pos}{Q:Value->Shared->Prop}(I:Inv X pins σ H s)(hg:Gl X x)(hm:X.mg x=none)(hv:bootBuiltins x=some u)(h:Q u s)
  (hn:x≠ "__name__" := by decide) (hd:(x==("__debug__" : Str))=false:=by decide):wpAny (model X.prog X.w) X.A (eval (.Name x pos) X.env) Q E s:=by
 obtain⟨mb,h1,h2⟩:=I.mod.blt;exact Calls.Name_function_global I.ok.kind hg (Calls.loadGlobal_builtin (by rw[I.ok.glob];exact I.mod.glob.keeps I.bk) hm (by rw[I.ok.blt];exact h1.keeps I.bk) ((h2 x hn).trans hv) h) hd
theorem bi{x:Str}{v:V}{u:Value}{pos:Pos}(hg:Gl X x)(hm:X.mg x=some u)(r:jt v u)(hd:(x==("__debug__" : Str))=false:=by decide):PE X (.Name x pos) (tC v):=
 fun _ _ _ H _ I h=>Gq I hg hm ⟨v,H,I,r,h⟩ hd
theorem Gr{x:Str}{v:V}{u:Value}{pos:Pos}(hg:Gl X x)(hm:X.mg x=none)(hv:bootBuiltins x=some u)(r:jt v u)(hn:x≠ "__name__" := by decide)(hd:(x==("__debug__" : Str))=false:=by decide):PE X (.Name x pos) (tC v):=
 fun _ _ _ H _ I h=>Zv I hg hm hv ⟨v,H,I,r,h⟩ hn hd
variable {a b:Expr} {ta tb:TE} {pos:Pos}
variable {tA tB':TT} {rest:List Expr}
def hX(t u:TT):TT:=fun σ H Q=>t σ H fun c H1=>if c=true then u σ H1 Q else Q false H1
def iR(t u:TT):TT:=fun σ H Q=>t σ H fun c H1=>if c=true then Q true H1 else u σ H1 Q
def h_(t:TT):TT:=fun σ H Q=>t σ H fun c H1=>Q (!c) H1
theorem bj(ha:PT X a tA):PW X (.BoolOp .And [a] pos) tA:=by
 intro wh pins s σ H Q I h;refine isTrue_and (jv (ha pins s σ H Q I h) fun c s1 e=>?_);cases c with
 | true=>exact isTrue_and_nil e
 | false=>exact e
theorem BP(ha:PT X a tA):PW X (.BoolOp .Or [a] pos) tA:=by
 intro wh pins s σ H Q I h;refine isTrue_or (jv (ha pins s σ H Q I h) fun c s1 e=>?_);cases c with
 | false=>exact isTrue_or_nil e
 | true=>exact e
theorem BQ(ha:PT X a tA)(hb:PW X (.BoolOp .And (b::rest) pos) tB'):PW X (.BoolOp .And (a::b::rest) pos) (hX tA tB'):=by
 intro wh pins s σ H Q I h;refine isTrue_and (jv (ha pins s σ H _ I h) fun c s1 xx=>?_);obtain⟨H1,I1,q1⟩:=xx;cases c with
 | true=>exact hb wh pins s1 σ H1 Q I1 q1
 | false=>exact⟨H1,I1,q1⟩
theorem Ej(ha:PT X a tA)(hb:PW X (.BoolOp .Or (b::rest) pos) tB'):PW X (.BoolOp .Or (a::b::rest) pos) (iR tA tB'):=by
 intro wh pins s σ H Q I h;refine isTrue_or (jv (ha pins s σ H _ I h) fun c s1 xx=>?_);obtain⟨H1,I1,q1⟩:=xx;cases c with
 | true=>exact⟨H1,I1,q1⟩
 | false=>exact hb wh pins s1 σ H1 Q I1 q1
theorem BR(ha:PT X a tA):PT X (.UnaryOp .Not a pos) (h_ tA):=by
 intro pins s σ H Q I h;exact isTrue_not (ha pins s σ H (fun c H1=>Q (!c) H1) I h)
def Ek(ta tb:TE):TE:=fun σ H Q=>ta σ H fun x H1=>∃c,x=.bl c/\if c=true then tb σ H1 Q else Q (.bl false) H1
def Ha(ta tb:TE):TE:=fun σ H Q=>ta σ H fun x H1=>∃c,x=.bl c/\if c=true then Q (.bl true) H1 else tb σ H1 Q
def El(ta:TE):TE:=fun σ H Q=>ta σ H fun x H1=>∃c,x=.bl c/\Q (.bl (!c)) H1
theorem BS{op}{t:TE}(h:PE X a t):PE X (.BoolOp op [a] pos) t:=fun pins s σ H Q I hw=>BoolOp_one (h pins s σ H Q I hw)
theorem BU(ha:PE X a ta)(hb:PE X (.BoolOp .And (b::rest) pos) tb):PE X (.BoolOp .And (a::b::rest) pos) (Ek ta tb):=by
 intro pins s σ H Q I h;refine BoolOp_and (jv (ha pins s σ H _ I h) fun v s1 xx=>?_);obtain⟨x,H1,I1,r1,q1⟩:=xx;obtain⟨c,rfl,q1⟩:=q1;cases r1;refine wpAny_truthy_bool ?_;cases c with
 | true=>exact hb pins s1 σ H1 Q I1 q1
 | false=>exact⟨.bl false,H1,I1,rfl,q1⟩
theorem Em(ha:PE X a ta)(hb:PE X (.BoolOp .Or (b::rest) pos) tb):PE X (.BoolOp .Or (a::b::rest) pos) (Ha ta tb):=by
 intro pins s σ H Q I h;refine BoolOp_or (jv (ha pins s σ H _ I h) fun v s1 xx=>?_);obtain⟨x,H1,I1,r1,q1⟩:=xx;obtain⟨c,rfl,q1⟩:=q1;cases r1;refine wpAny_truthy_bool ?_;cases c with
 | false=>exact hb pins s1 σ H1 Q I1 q1
 | true=>exact⟨.bl true,H1,I1,rfl,q1⟩
theorem BV(ha:PE X a ta):PE X (.UnaryOp .Not a pos) (El ta):=by
 intro pins s σ H Q I h;refine UnaryOp_ (jv (ha pins s σ H _ I h) fun v s1 xx=>?_);obtain⟨x,H1,I1,r1,q1⟩:=xx;obtain⟨c,rfl,q1⟩:=q1;cases r1;exact not_of (wpAny_truthy_bool ⟨.bl (!c),H1,I1,rfl,q1⟩)
def iS(t:TT)(ta tb:TE):TE:=fun σ H Q=>t σ H fun c H1=>if c=true then ta σ H1 Q else tb σ H1 Q
theorem Xk{c:Expr}(hc:PT X c tA)(ha:PE X a ta)(hb:PE X b tb):PE X (.IfExp c a b pos) (iS tA ta tb):=by
 intro pins s σ H Q I h;refine wpAny_IfExp (jv (hc pins s σ H _ I h) fun d s1 xx=>?_);obtain⟨H1,I1,q1⟩:=xx;cases d with
 | true=>exact ha pins s1 σ H1 Q I1 q1
 | false=>exact hb pins s1 σ H1 Q I1 q1
end
def jC(K:PySem.W.Frag)(H:Hp)(a:Addr)(xs:List V):Prop:=
 Rd H a (.lst xs)∨
  ∃(o:Obj) (its:Array Value) (n:Nat),K.lookup a=some o/\o.cls=.type "list" /\o.dict=none/\o.data=.seq its n/\its.size<=sizeLine/\jh xs its.toList
def Ji(K:PySem.W.Frag)(H:Hp)(a:Addr)(xs:List V):Prop:=
 Rd H a (.tup xs)∨
  ∃(o:Obj) (its:Array Value) (n:Nat),K.lookup a=some o/\o.cls=.type "tuple" /\o.data=.seq its n/\its.size<=sizeLine/\jh xs its.toList
noncomputable def Hb:Value->Option V
 | .none=>some .non
 | .bool b=>some (.bl b)
 | .int i _=>some (.int i)
 | .str x _=>some (.str x)
 | .bytes b _=>some (.byt b)
 | .float b _=>some (.flt b)
 | .ref a=>some (.ref a)
 | .type n=>some (.ty n)
 | _=>none
theorem jt.abs{x:V}{u:Value}(r:jt x u):Hb u=some x:=by
 cases x with
 | non=>cases r;rfl
 | bl _=>cases r;rfl
 | int _=>obtain⟨t,rfl⟩:=r;rfl
 | str _=>obtain⟨t,rfl⟩:=r;rfl
 | byt _=>obtain⟨t,rfl⟩:=r;rfl
 | flt _=>obtain⟨t,rfl⟩:=r;rfl
 | ref _=>cases r;rfl
 | ty _=>cases r;rfl
theorem jt.inj{x y:V}{u:Value}(r:jt x u)(q:jt y u):x=y:=vFa (r.abs.symm.trans q.abs)
theorem jh.inj:∀{xs ys:List V} {us:List Value},jh xs us->jh ys us->xs=ys
 | _,_,_,.nil,.nil=>rfl
 | _,_,_,.cons r t,.cons r' t'=>by rw[r.inj r',jh.inj t t']
section
variable {X:Cx} {pins:List (Addr×Obj)} {σ:St} {H:Hp} {s:Shared} {a:Addr} {xs ys:List V}
theorem jC.of{K:PySem.W.Frag}(h:H a=some (.lst xs)):jC K H a xs:=.inl (.inl h)
theorem Ji.of{K:PySem.W.Frag}(h:H a=some (.tup xs)):Ji K H a xs:=.inl (.inl h)
theorem Inv.list(I:Inv X pins σ H s)(h:jC X.K H a xs):∃its:List Value,jh xs its/\PlainL s.heap a its.toArray/\xs.length<=sizeLine:=by
 rcases h with h | ⟨o,its,n,hk,hc,hd,hs,hz,r⟩
 ·obtain⟨z,its,n,r,e⟩:=h.ok I.hok;exact⟨its,r,⟨_,n,e,rfl,rfl,rfl⟩,z⟩
 ·refine⟨its.toList,r,⟨o,n,I.kIn a o hk,hc,hd,by simpa using hs⟩,?_⟩;have e:=r.length;simp only[Array.length_toList]at e;omega
theorem Inv.tuple(I:Inv X pins σ H s)(h:Ji X.K H a xs):∃its:List Value,jh xs its/\IsTup s.heap a its.toArray/\xs.length<=sizeLine:=by
 rcases h with h | ⟨o,its,n,hk,hc,hs,hz,r⟩
 ·obtain⟨z,its,r,p⟩:=h.ok I.hok;exact⟨its,r,p,z⟩
 ·refine⟨its.toList,r,⟨o,I.kIn a o hk,hc,n,by simpa using hs⟩,?_⟩;have e:=r.length;simp only[Array.length_toList]at e;omega
theorem Inv.list_inj(I:Inv X pins σ H s)(h:jC X.K H a xs)(h':jC X.K H a ys):xs=ys:=by
 obtain⟨its,r,⟨o,n,e,_,_,d⟩,_⟩:=I.list h;obtain⟨its',r',⟨o',n',e',_,_,d'⟩,_⟩:=I.list h';rw[e]at e';cases e';rw[d]at d';injection d' with d1 _;have:its=its':=by simpa using congrArg Array.toList d1
 subst this;exact r.inj r'
theorem Inv.tuple_inj(I:Inv X pins σ H s)(h:Ji X.K H a xs)(h':Ji X.K H a ys):xs=ys:=by
 obtain⟨its,r,⟨o,e,_,n,d⟩,_⟩:=I.tuple h;obtain⟨its',r',⟨o',e',_,n',d'⟩,_⟩:=I.tuple h';rw[e]at e';cases e';rw[d]at d';injection d' with d1 _;have:its=its':=by simpa using congrArg Array.toList d1
 subst this;exact r.inj r'
end
noncomputable abbrev Cx.wish(X:Cx)(E:Value->Shared->Prop):Cx:={ X with xe:=E }
abbrev Cx.nox(X:Cx):Cx:=X.wish fun _ _=>False
theorem Cx.Ok.wish{X:Cx}(ok:X.Ok)(E:Value->Shared->Prop):(X.wish E).Ok:=
 ⟨ok.mod,ok.kind,ok.glob,ok.blt,ok.above,ok.inj,ok.has,ok.cab,ok.hd,ok.frames,ok.stk,ok.exf,ok.bs,ok.bsz,ok.noex,ok.exfs,ok.funs,ok.frf⟩
theorem Cx.Ok.unwish{X:Cx}{E:Value->Shared->Prop}(ok:(X.wish E).Ok):X.Ok:=
 ⟨ok.mod,ok.kind,ok.glob,ok.blt,ok.above,ok.inj,ok.has,ok.cab,ok.hd,ok.frames,ok.stk,ok.exf,ok.bs,ok.bsz,ok.noex,ok.exfs,ok.funs,ok.frf⟩
section
variable {X:Cx} {pins:List (Addr×Obj)} {σ:St} {H:Hp} {s:Shared} {E:Value->Shared->Prop}
theorem Inv.wish(I:Inv X pins σ H s)(E:Value->Shared->Prop):Inv (X.wish E) pins σ H s:=⟨I.ok.wish E,I.os,I.bare,I.base,I.loc,I.cell,I.free,I.freeC,I.pin,I.hok,I.len⟩
theorem Inv.unwish(I:Inv (X.wish E) pins σ H s):Inv X pins σ H s:=⟨I.ok.unwish,I.os,I.bare,I.base,I.loc,I.cell,I.free,I.freeC,I.pin,I.hok,I.len⟩
theorem SP.unwish{D:Ends}{f:Flow}{s':Shared}(h:SP (X.wish E) pins D f s'):SP X pins D f s':=by
 cases f with
 | next=>obtain⟨σ',H',I,q⟩:=h;exact⟨σ',H',I.unwish,q⟩
 | brk=>obtain⟨σ',H',I,q⟩:=h;exact⟨σ',H',I.unwish,q⟩
 | cont=>obtain⟨σ',H',I,q⟩:=h;exact⟨σ',H',I.unwish,q⟩
 | ret u=>obtain⟨v,σ',H',I,r,q⟩:=h;exact⟨v,σ',H',I.unwish,r,q⟩
theorem Jc.nox{st:List Stmt}{t:TS}(h:Jc X.nox st t):Jc X st t:=fun pins s σ H D I hw=>
 wCa (h pins s σ H D (I.wish _) hw) (fun _ _ q=>q.unwish) fun _ _ z=>False.elim z
end
section
variable {X:Cx} {st:Stmt} {rest:List Stmt} {t u:TS} {e:Expr} {te:TE} {pos:Pos}
def A4:TS:=fun D σ H=>D.nx σ H
def Hc(t u:TS):TS:=fun D σ H=>t { D with nx:=u D } σ H
theorem bm:Jc X [] A4:=fun _ _ σ H _ I h=>wpAny_execs_nil ⟨σ,H,I,h⟩
theorem Kw(h1:PS X st t)(h2:Jc X rest u):Jc X (st::rest) (Hc t u):=by
 intro pins s σ H D I h;refine wpAny_execs_cons (jv (h1 pins s σ H { D with nx:=u D } I h) fun f s1 q=>?_);cases f with
 | next=>
  obtain⟨σ',H',I',q⟩:=q;exact h2 pins s1 σ' H' D I' q
 | ret v=>exact q
 | brk=>exact q
 | cont=>exact q
theorem WL(h1:PS X st t):Jc X [st] t:=by
 intro pins s σ H D I h;refine wpAny_execs_cons (jv (h1 pins s σ H D I h) fun f s1 q=>?_);cases f with
 | next=>exact wpAny_execs_nil q
 | ret v=>exact q
 | brk=>exact q
 | cont=>exact q
def BW:TS:=fun D σ H=>D.bk σ H
def En:TS:=fun D σ H=>D.ct σ H
theorem bn:PS X (.Pass pos) A4:=fun _ _ σ H _ I h=>wpAny_Pass ⟨σ,H,I,h⟩
theorem Xl:PS X (.Break pos) BW:=fun _ _ σ H _ I h=>wpAny_Break ⟨σ,H,I,h⟩
theorem Wt:PS X (.Continue pos) En:=fun _ _ σ H _ I h=>wpAny_Continue ⟨σ,H,I,h⟩
theorem Inv.quiet{pins:List (Addr×Obj)}{σ:St}{H:Hp}{s:Shared}(I:Inv X pins σ H s):interactive X.env=false:=by simp[interactive,I.ok.kind]
def Vf(te:TE):TS:=fun D σ H=>te σ H fun _ H1=>D.nx σ H1
theorem zk(he:PE X e te)(hs:swapsWith e none pos.line X.env=pure false:=by rfl):PS X (.Expr e pos) (Vf te):=by
 intro pins s σ H D I h;exact wpAny_Expr_any (jv (he pins s σ H _ I h) fun v s1 ⟨x,H1,I1,r1,q1⟩=>⟨σ,H1,I1,q1⟩) I.quiet hs
def He(te:TE):TS:=fun D σ H=>te σ H D.rt
theorem gk(he:PE X e te):PS X (.Return (some e) pos) (He te):=by
 intro pins s σ H D I h;exact wpAny_Return_some (jv (he pins s σ H _ I h) fun v s1 ⟨x,H1,I1,r1,q1⟩=>⟨x,σ,H1,I1,r1,q1⟩)
def Eo:TS:=fun D _ H=>D.rt .non H
theorem bq:PS X (.Return none pos) Eo:=fun _ _ σ H _ I h=>wpAny_Return_none ⟨.non,σ,H,I,rfl,h⟩
def Hf(c:TT)(t u:TS):TS:=fun D σ H=>c σ H fun b H1=>if b=true then t D σ H1 else u D σ H1
theorem Ep{c:Expr}{a b:List Stmt}{tc:TT}(hc:PT X c tc)(ha:Jc X a t)(hb:Jc X b u):PS X (.If c a b pos) (Hf tc t u):=by
 intro pins s σ H D I h;refine wpAny_If (jv (hc pins s σ H _ I h) fun d s1 xx=>?_);obtain⟨H1,I1,q1⟩:=xx;cases d with
 | true=>exact ha pins s1 σ H1 D I1 q1
 | false=>exact hb pins s1 σ H1 D I1 q1
def BX:TS:=fun _ _ _=>False
theorem Qx{sts:List Stmt}:Jc X sts BX:=fun _ _ _ _ _ _ h=>h.elim
end
noncomputable abbrev TG:=V->St->Hp->(St->Hp->Prop)->Prop
noncomputable abbrev gl:=List V->St->Hp->(St->Hp->Prop)->Prop
def PG(X:Cx)(target:Expr)(t:TG):Prop:=
 ∀(pins:List (Addr×Obj)) (s:Shared) (σ:St) (H:Hp) (v:V) (u:Value) (Q:St->Hp->Prop),Inv X pins σ H s->jt v u->t v σ H Q->
  wpAny (model X.prog X.w) X.A (assign target X.env u) (fun _ s'=>∃σ' H',Inv X pins σ' H' s'/\Q σ' H') X.xe s
def u6(X:Cx)(ts:List Expr)(t:gl):Prop:=
 ∀(pins:List (Addr×Obj)) (s:Shared) (σ:St) (H:Hp) (vs:List V) (us:List Value) (Q:St->Hp->Prop),Inv X pins σ H s->jh vs us->t vs σ H Q->
  wpAny (model X.prog X.w) X.A (assignInOrder ((assignEach ts X.env).map (·.2)) us) (fun _ s'=>∃σ' H',Inv X pins σ' H' s'/\Q σ' H') X.xe s
noncomputable abbrev Xm:=V->V->V->Hp->(Hp->Prop)->Prop
def Xn(X:Cx)(t:Xm):Prop:=
 ∀(pins:List (Addr×Obj)) (s:Shared) (σ:St) (H:Hp) (o i v:V) (ov iv u:Value) (Q:Hp->Prop),Inv X pins σ H s->jt o ov->jt i iv->jt v u->t o i v H Q->
  wpAny (model X.prog X.w) X.A (setItem ov iv u) (fun _ s'=>∃H',Inv X pins σ H' s'/\Q H') X.xe s
noncomputable abbrev A5:=V->V->Hp->VK->Prop
def BZ(X:Cx)(op:Operator)(t:A5):Prop:=
 ∀(pins:List (Addr×Obj)) (s:Shared) (σ:St) (H:Hp) (x y:V) (v u:Value) (Q:VK),Inv X pins σ H s->jt x v->jt y u->t x y H Q->
  wpAny (model X.prog X.w) X.A (inplaceOp op v u) (EP X pins σ Q) X.xe s
section
variable {X:Cx} {pos:Pos}
def YR(i:Nat):TG:=fun v σ H Q=>Q (σ.set i (some v)) H
theorem br{i:Nat}{x:Str}(hN:X.N.Nodup)(hi:X.N[i]?=some x)(hx:Ud X.env.scope x)(hf:X.fn x=true∨X.env.scope.names.lookup x=some .local:=by first | exact .inl rfl | exact .inr rfl | assumption):PG X (.Name x pos) (YR i):=by
 intro pins s σ H v u Q I r h;exact wpAny_assign_Name (UC I hN hi hx r (fun s' I'=>⟨_,H,I',h⟩) hf)
def Hg:gl:=fun vs σ H Q=>vs=[]/\Q σ H
def Er(t:TG)(u:gl):gl:=fun vs σ H Q=>∃v r,vs=v::r/\t v σ H fun σ' H'=>u r σ' H' Q
theorem bt:u6 X [] Hg:=by
 intro pins s σ H vs us Q I r h;obtain⟨e,h⟩:=h;subst e;cases r;exact assignInOrder_nil ⟨σ,H,I,h⟩
theorem Xo{e:Expr}{es:List Expr}{t:TG}{u:gl}(h1:PG X e t)(h2:u6 X es u)
  (hs:(assignEach (e::es) X.env).map (·.2)=assign e X.env::(assignEach es X.env).map (·.2):=by rfl):u6 X (e::es) (Er t u):=by
 intro pins s σ H vs us Q I r h;obtain⟨v,vr,e1,h⟩:=h;subst e1;cases r with
 | cons r rr=>
  rw[hs];refine assignInOrder_cons (jv (h1 pins s σ H _ _ _ I r h) fun _ s1 xx=>?_);obtain⟨σ1,H1,I1,q1⟩:=xx;exact h2 pins s1 σ1 H1 _ _ Q I1 rr q1
def Hh(K:PySem.W.Frag)(n:Nat)(t:gl):TG:=fun v σ H Q=>∃a xs,v=.ref a/\Ji K H a xs/\xs.length=n/\t xs σ H Q
theorem B_{es:List Expr}{k:Nat}{t:gl}{n:Nat}(hc:X.calm=true)(h:u6 X es t)
  (hn:(assignEach es X.env).length=n:=by rfl) (hst:(assignEach es X.env).findIdx? (·.1)=none:=by rfl):PG X (.Tuple es k pos) (Hh X.K n t):=by
 intro pins s σ H v u Q I r hw;obtain⟨a,xs,e1,hq,hl,hw⟩:=hw;subst e1;cases r;obtain⟨its,rv,ht,hz⟩:=I.tuple hq;refine assign_Tuple_tuple (I.ok.hd hc) ht (by simp[hn,<-hl,rv.length]) hst fun h' hx=>?_;have I1:Inv X pins σ H { s with heap:=h' }:=I.kept (t':=s.toks) fun b o e=>hx b o (wTa (wLa e)) e;exact h pins _ σ H xs _ Q I1 (by simpa using rv) hw
def Kx(to ti:TE)(t:Xm):TG:=fun v σ H Q=>to σ H fun o H1=>ti σ H1 fun i H2=>t o i v H2 fun H3=>Q σ H3
theorem gn{o i:Expr}{to ti:TE}{t:Xm}(ho:PE X o to)(hi:PE X i ti)(hs:Xn X t)
  (ha:∀v,assign (.Subscript o i pos) X.env v=(do
   let ov<-holding [v] (eval o X.env)
   let iv<-holding [v,ov] (eval i X.env)
   standAt pos
   holding [v,ov,iv] (setItem ov iv v)
   release [v,ov,iv] []):=by intro _;rfl):PG X (.Subscript o i pos) (Kx to ti t):=by
 intro pins s σ H v u Q I r h;rw[ha];refine wAa (wDa (jv (ho pins s σ H _ I h) fun ov s1 xx=>?_));obtain⟨x,H1,I1,r1,q1⟩:=xx;refine wAa (wDa (jv (hi pins s1 σ H1 _ I1 q1) fun iv s2 xx=>?_));obtain⟨y,H2,I2,r2,q2⟩:=xx;refine wAa (vOa (wAa (wDa (jv (hs pins s2 σ H2 x y v ov iv u _ I2 r1 r2 r q2) fun _ s3 xx=>?_))));obtain⟨H3,I3,q3⟩:=xx;exact wpAny_release ⟨σ,H3,I3,q3⟩
def Y3(te:TE)(g:TG):TS:=fun D σ H=>te σ H fun x H1=>g x σ H1 D.nx
theorem u7{tg e:Expr}{te:TE}{g:TG}(he:PE X e te)(hg:PG X tg g)(hs:swapsWithSole [tg] e pos.line X.env=pure false:=by rfl)(hw:swappedStores [tg] e X.env=pure none:=by rfl)
  (h1:(assignEach [tg] X.env).map (·.2)=[assign tg X.env]:=by rfl):PS X (.Assign [tg] e pos) (Y3 te g):=by
 intro pins s σ H D I h;refine wpAny_Assign_stores (jv (he pins s σ H _ I h) fun v s1 xx=>?_) hs hw;obtain⟨x,H1,I1,r1,q1⟩:=xx;rw[h1];exact jv (hg pins s1 σ H1 x v _ I1 r1 q1) fun _ s2 q=>q
theorem Zw{i:Nat}{x:Str}{e:Expr}{te:TE}{pos':Pos}(hN:X.N.Nodup)(hi:X.N[i]?=some x)(hx:Ud X.env.scope x)(he:PE X e te)(hs:swapsWith e (some (.Name x pos')) pos.line X.env=pure false:=by rfl)(hf:X.fn x=true∨X.env.scope.names.lookup x=some .local:=by first | exact .inl rfl | exact .inr rfl | assumption):
  PS X (.Assign [.Name x pos'] e pos) (Y3 te (YR i)):=by
 intro pins s σ H D I h;refine wpAny_Assign_Name (jv (he pins s σ H _ I h) fun v s1 xx=>?_) hs;obtain⟨y,H1,I1,r1,q1⟩:=xx;exact UC I1 hN hi hx r1 (fun s2 I2=>⟨_,H1,I2,q1⟩) hf
def ca(i:Nat)(te:TE)(ti:A5):TS:=fun D σ H=>∃x,σ[i]?=some (some x)/\te σ H fun y H1=>ti x y H1 fun z H2=>D.nx (σ.set i (some z)) H2
theorem Qy{i:Nat}{x:Str}{e:Expr}{te:TE}{op:Operator}{ti:A5}{pos':Pos}(hN:X.N.Nodup)(hi:X.N[i]?=some x)(hx:Ud X.env.scope x)(he:PE X e te)(ho:BZ X op ti)(hf:X.fn x=true∨X.env.scope.names.lookup x=some .local:=by first | exact .inl rfl | exact .inr rfl | assumption):
  PS X (.AugAssign (.Name x pos') op e pos) (ca i te ti):=by
 intro pins s σ H D I h;obtain⟨v,e1,h⟩:=h;obtain⟨m,hn,hl⟩:=I.loc;have vis:WK X.env.scope x:=by rcases hx with k | k;exact .inl k;exact .inr (.inl k)
 obtain⟨u,r,l⟩:=hl i x v hi e1 vis;refine wpAny_AugAssign_Name ?_;have go:wpAny (model X.prog X.w) X.A (eval e X.env) (fun w s₂=>wpAny (model X.prog X.w) X.A (inplaceOp op u w) (fun r s₃=>wpAny (model X.prog X.w) X.A (storeName X.env x r) (fun _=>SP X pins D .next) X.xe s₃) X.xe s₂) X.xe s:=by
  refine jv (he pins s σ H _ I h) fun w s1 xx=>?_;obtain⟨y,H1,I1,r1,q1⟩:=xx;refine jv (ho pins s1 σ H1 v y u w _ I1 r r1 q1) fun z s2 xx=>?_;obtain⟨zv,H2,I2,r2,q2⟩:=xx;exact UC I2 hN hi hx r2 (fun s3 I3=>⟨_,H2,I3,q2⟩) hf
 rcases l with⟨hk,hm⟩ | ⟨hk,c,hc,hcell⟩
 ·exact wpAny_loadName_local I.ok.kind hk hn hm go
 ·rcases hk with hk | hk
  ·exact wpAny_loadName_cell I.ok.kind hk hc hcell go
  ·rcases hx with k | k
   ·have:X.env.scope.names.lookup x=some .free:=hk;rw[k]at this;cases this
   ·have:X.env.scope.names.lookup x=some .free:=hk;rw[k]at this;cases this
noncomputable def cb(f:Int->Int->Int):A5:=fun x y H Q=>∃i j,x=.int i/\y=.int j/\Q (.int (f i j)) H
theorem ce:BZ X .Add (cb fun i j=>i+j):=by
 intro pins s σ H x y v u Q I r1 r2 h;obtain⟨i,j,e1,e2,q⟩:=h;subst e1;subst e2;obtain⟨t,rfl⟩:=r1;obtain⟨t',rfl⟩:=r2;exact iadd_int ⟨.int _,H,I.tok _,⟨_,rfl⟩,q⟩
theorem cf:BZ X .Sub (cb fun i j=>i - j):=by
 intro pins s σ H x y v u Q I r1 r2 h;obtain⟨i,j,e1,e2,q⟩:=h;subst e1;subst e2;obtain⟨t,rfl⟩:=r1;obtain⟨t',rfl⟩:=r2;exact isub_int ⟨.int _,H,I.tok _,⟨_,rfl⟩,q⟩
end
section
variable {X:Cx} {pos:Pos}
def cg(c:TT)(tb:TS):TS:=fun D σ H=>∃W:Nat->St->Hp->Prop,(∃m,W m σ H)/\∀m σ H,W m σ H->
 c σ H fun b H1=>if b=true then∃N:St->Hp->Prop,(∀σ' H',N σ' H'->∃m',m' < m/\W m' σ' H')/\tb { D with nx:=N,ct:=N,bk:=D.nx } σ H1 else D.nx σ H1
theorem Xp{c:Expr}{body:List Stmt}{tc:TT}{tb:TS}(hp:PassesOwn (model X.prog X.w) X.A X.env X.xe)(hc:PT X c tc)(hb:Jc X body tb):PS X (.While c body [] pos) (cg tc tb):=by
 intro pins s σ H D I h;obtain⟨W,⟨m0,w0⟩,turn⟩:=h;refine wpAny_While (codeAny_whileLoop (fun n s'=>∃σ' H',Inv X pins σ' H' s'/\W n σ' H') ?_ m0 ⟨σ,H,I,w0⟩);rintro n s1 ⟨σ1,H1,I1,w1⟩;refine wpAny_passesOwn hp (jv (hc pins s1 σ1 H1 _ I1 (turn n σ1 H1 w1)) fun b s2 xx=>?_);obtain⟨H2,I2,q2⟩:=xx;cases b with
 | true=>
  obtain⟨N,hN,q2⟩:=q2;rw[if_pos rfl];refine wpAny_passesOwn hp (jv (hb pins s2 σ1 H2 _ I2 q2) fun f s3 q3=>?_);cases f with
  | next=>
   obtain⟨σ3,H3,I3,n3⟩:=q3;obtain⟨m',hm,w3⟩:=hN σ3 H3 n3;exact⟨m',hm,σ3,H3,I3,w3⟩
  | cont=>
   obtain⟨σ3,H3,I3,n3⟩:=q3;obtain⟨m',hm,w3⟩:=hN σ3 H3 n3;exact⟨m',hm,σ3,H3,I3,w3⟩
  | brk=>exact q3
  | ret v=>exact q3
 | false=>
  rw[if_neg Bool.false_ne_true];exact wpAny_execs_nil ⟨σ1,H2,I2,q2⟩
end
structure It where
 go:Nat->Hp->Prop
 yld:Nat->Hp->V->Hp->Prop
 stop:Nat->Hp->Prop
def Jj(X:Cx)(pins:List (Addr×Obj))(H:Hp)(b:Addr):Prop:=
 H b=none/\b≠X.env.locals/\b∉X.fs/\(b∈X.ex∨X.s₀.heap.objs.size<=b)/\(∀x c,X.env.cells.lookup x=some c->c≠b)/\∀p∈X.pn++pins,p.1≠b
theorem Inv.fpOk{X:Cx}{pins:List (Addr×Obj)}{σ:St}{H H':Hp}{s:Shared}{b:Addr}(I:Inv X pins σ H s)(hb:s.heap.objs.size<=b)(hn:H' b=none):Jj X pins H' b:=by
 refine⟨hn,Nat.ne_of_gt (Nat.lt_of_lt_of_le I.lt hb),I.nofs hb,.inr (wSa I.sz hb),fun x c e z=>?_,fun p hp z=>?_⟩
 ·obtain⟨v,q⟩:=I.cell x c e;exact vDa (Nat.lt_of_lt_of_le q.lt (by rw[z];exact hb)) (wUa _)
 ·exact vDa (Nat.lt_of_lt_of_le (wLa (I.pin p hp).1) (by rw[z];exact hb)) (wUa _)
structure Turn (P:Program) (w:World) (K:PySem.W.Frag) (tg:Expr) (J:It) (fp:List Addr) (it:Addr) (tn:Nat->Heap->Prop):Prop where
 mem:it∈fp
 obj:∀i h,tn i h->∀b∈fp,∃o,h.get? b=some o/\∀v,o.data≠.cell v
 keep:∀i h h',tn i h->(∀b∈fp,∀o,h.get? b=some o->h'.get? b=some o)->tn i h'
 item:∀(X:Cx),X.prog=P->X.w=w->X.K=K->X.calm=true->∀(i:Nat) (pins:List (Addr×Obj)) (s:Shared) (σ:St) (H:Hp) (E:Value->Shared->Prop),Inv X pins σ H s->(∀b∈fp,Jj X pins H b)->tn i s.heap->J.go i H->
  wpAny (model P w) X.A (pyNext (.ref it)) (fun r s1=>∃u,r=some u/\
   wpAny (model P w) X.A (letOwnedTupleGo tg (.ref it) u) (fun _ s2=>∃x H',Inv X pins σ H' s2/\jt x u/\J.yld i H x H'/\tn (i+1) s2.heap/\∀b∈fp,H' b=none) E s1) E s
 done:∀(X:Cx),X.prog=P->X.w=w->X.K=K->X.calm=true->∀(i:Nat) (pins:List (Addr×Obj)) (s:Shared) (σ:St) (H:Hp) (E:Value->Shared->Prop),Inv X pins σ H s->(∀b∈fp,Jj X pins H b)->tn i s.heap->J.stop i H->
  wpAny (model P w) X.A (pyNext (.ref it)) (fun r s1=>r=none/\Inv X pins σ H s1) E s
 self:∀(A:Around) (i:Nat) (s:Shared) (Q:Value->Shared->Prop) (E:Value->Shared->Prop),tn i s.heap->Q (.ref it) s->wpAny (model P w) A (pyIter (.ref it)) Q E s
noncomputable abbrev TI:=St->Hp->(It->Hp->Prop)->Prop
def Ft(X:Cx)(pins:List (Addr×Obj))(σ:St)(tg:Expr)(R:It->Hp->Prop)(itv:Value)(s2:Shared):Prop:=
 ∃(it:Addr) (fp:List Addr) (tn:Nat->Heap->Prop) (J:It) (H':Hp),itv=.ref it/\Inv X pins σ H' s2/\Turn X.prog X.w X.K tg J fp it tn/\tn 0 s2.heap/\(∀b∈fp,Jj X pins H' b)/\R J H'
def PI(X:Cx)(tg iter:Expr)(wi:TI):Prop:=
 ∀(pins:List (Addr×Obj)) (s:Shared) (σ:St) (H:Hp) (R:It->Hp->Prop),Inv X pins σ H s->wi σ H R->
  wpAny (model X.prog X.w) X.A (eval iter X.env) (fun v s1=>wpAny (model X.prog X.w) X.A (pyIter v) (Ft X pins σ tg R) X.xe s1) X.xe s
theorem qJ{M:Model}{A:Around}{E:Value->Shared->Prop}{s:Shared}{tg:Expr}{it:Addr}{u:Value}{o:Obj}{n:String}{vs:Array Value}{Q:Unit->Shared->Prop}(ho:s.heap.get? it=some o)(hc:o.cls=.type n)(hd:o.data=.fields vs)
  (hn:["enumerate", "zip", "dict_itemiterator", "dict_reverseitemiterator", "odict_iterator", "itertools.zip_longest", "itertools.pairwise"].contains n=false) (hQ:Q () s):wpAny M A (letOwnedTupleGo tg (.ref it) u) Q E s:=by
 unfold letOwnedTupleGo;cases tg <;> first
  | exact wBa hQ
  | (cases u <;> first
    | exact wBa hQ
    | (refine wAa (wpAny_load ho ?_)
       rw[hc,hd];show wpAny M A (if (["enumerate", "zip", "dict_itemiterator", "dict_reverseitemiterator", "odict_iterator", "itertools.zip_longest", "itertools.pairwise"].contains n&&vs[0]?==some (rawInt _))=true then _ else _) Q E s;rw[if_neg (by intro h;rw[hn,Bool.false_and]at h;cases h)];exact wBa hQ))
def ci(K:PySem.W.Frag)(a:Addr):It:=
 ⟨fun i H=>∃xs x,jC K H a xs/\xs[i]?=some x,fun i H x H'=>H'=H/\∀xs,jC K H a xs->xs[i]?=some x,fun i H=>∃xs,jC K H a xs/\xs.length<=i⟩
def cj(K:PySem.W.Frag)(a:Addr):It:=
 ⟨fun i H=>∃xs x,Ji K H a xs/\xs[i]?=some x,fun i H x H'=>H'=H/\∀xs,Ji K H a xs->xs[i]?=some x,fun i H=>∃xs,Ji K H a xs/\xs.length<=i⟩
def A6(lo:Int)(n:Nat):It:=⟨fun i _=>i < n,fun i H x H'=>H'=H/\x=.int (lo+i),fun i _=>n<=i⟩
theorem Qz{P:Program}{w:World}{K:PySem.W.Frag}{tg:Expr}(a it:Addr):Turn P w K tg (ci K a) [it] it (fun i h=>h.IsListIter it a i) where
 mem:=by simp
 obj:=fun i h st b hb=>by
  have e:b=it:=by simpa using hb
  subst e;obtain⟨o,e,c,d⟩:=st;exact⟨o,e,fun v z=>by rw[d]at z;cases z⟩
 keep:=fun i h h' st k=>st.at fun o e=>k it (by simp) o e
 item:=by
  intro X hP hw hK hc i pins s σ H E I hf st hg;subst hP hw hK;obtain⟨xs,x,hq,hx⟩:=hg;obtain⟨its,rv,p,hz⟩:=I.list hq;obtain⟨u,hu,ru⟩:=rv.get hx;obtain⟨f0,f1,f2,f3,f4,f5⟩:=hf it (by simp);refine wpAny_pyNext_list_item st p.isList (x:=u) (by simpa using hu) fun h' st' sb=>?_;have I1:Inv X pins σ H { s with heap:=h' }:=I.turned (t':=s.toks) (fun b o hb e=>(sb.2 b hb).trans e) f0 f1 f3 f4 f5;obtain⟨o,e,c,d⟩:=id st';exact⟨u,rfl,qJ (s:={ s with heap:=h' }) e c d (by decide) ⟨x,H,I1,ru,⟨rfl,fun ys hy=>by rw[I.list_inj hy hq];exact hx⟩,st',fun b hb=>(hf b hb).1⟩⟩
 done:=by
  intro X hP hw hK hc i pins s σ H E I hf st hg;subst hP hw hK;obtain⟨xs,hq,hx⟩:=hg;obtain⟨its,rv,p,hz⟩:=I.list hq;obtain⟨f0,f1,f2,f3,f4,f5⟩:=hf it (by simp);have hl:=rv.length;exact wpAny_pyNext_list_end (I.ok.hd hc) st p.isList (by simp;omega) fun h' eb=>⟨rfl,I.turned (t':=s.toks) (fun b o hb e=>eb b o hb e) f0 f1 f3 f4 f5⟩
 self:=fun _ _ _ _ _ st h=>wpAny_pyIter_listiter st h
theorem qK{P:Program}{w:World}{K:PySem.W.Frag}{tg:Expr}(a it:Addr):Turn P w K tg (cj K a) [it] it (fun i h=>h.IsTupleIter it a i) where
 mem:=by simp
 obj:=fun i h st b hb=>by
  have e:b=it:=by simpa using hb
  subst e;obtain⟨o,e,c,d⟩:=st;exact⟨o,e,fun v z=>by rw[d]at z;cases z⟩
 keep:=fun i h h' st k=>st.at fun o e=>k it (by simp) o e
 item:=by
  intro X hP hw hK hc i pins s σ H E I hf st hg;subst hP hw hK;obtain⟨xs,x,hq,hx⟩:=hg;obtain⟨its,rv,p,hz⟩:=I.tuple hq;obtain⟨u,hu,ru⟩:=rv.get hx;obtain⟨f0,f1,f2,f3,f4,f5⟩:=hf it (by simp);refine wpAny_pyNext_tuple_item st (show s.heap.IsTuple a its.toArray from p) (x:=u) (by simpa using hu) fun h' st' sb=>?_;have I1:Inv X pins σ H { s with heap:=h' }:=I.turned (t':=s.toks) (fun b o hb e=>(sb.2 b hb).trans e) f0 f1 f3 f4 f5;obtain⟨o,e,c,d⟩:=id st';exact⟨u,rfl,qJ (s:={ s with heap:=h' }) e c d (by decide) ⟨x,H,I1,ru,⟨rfl,fun ys hy=>by rw[I.tuple_inj hy hq];exact hx⟩,st',fun b hb=>(hf b hb).1⟩⟩
 done:=by
  intro X hP hw hK hc i pins s σ H E I hf st hg;subst hP hw hK;obtain⟨xs,hq,hx⟩:=hg;obtain⟨its,rv,p,hz⟩:=I.tuple hq;obtain⟨f0,f1,f2,f3,f4,f5⟩:=hf it (by simp);have hl:=rv.length;exact wpAny_pyNext_tuple_end (I.ok.hd hc) st (show s.heap.IsTuple a its.toArray from p) (by simp;omega) fun h' eb=>⟨rfl,I.turned (t':=s.toks) (fun b o hb e=>eb b o hb e) f0 f1 f3 f4 f5⟩
 self:=fun _ _ _ _ _ st h=>wpAny_pyIter_tupleiter st h
theorem qL{P:Program}{w:World}{K:PySem.W.Frag}{tg:Expr}(it:Addr)(lo:Int)(n:Nat):Turn P w K tg (A6 lo n) [it] it (fun i h=>IsRangeIter h it (lo+(i:Nat) * 1) ((n:Int) - (i:Nat)) 1) where
 mem:=by simp
 obj:=fun i h st b hb=>by
  have e:b=it:=by simpa using hb
  subst e;exact⟨_,st,fun v z=>by
   have z':Data.fields _=Data.cell v:=z;cases z'⟩
 keep:=fun i h h' st k=>k it (by simp) _ st
 item:=by
  intro X hP hw hK hc i pins s σ H E I hf st hg;subst hP hw hK;obtain⟨f0,f1,f2,f3,f4,f5⟩:=hf it (by simp);have W:=Walks.range (prog:=X.prog) (w:=X.w) (I.ok.hd hc) it lo 1 n;refine W.item i s _ _ hg st fun v h' tk hv st' kk=>?_;obtain⟨t,rfl⟩:=hv;have I1:Inv X pins σ H { s with heap:=h',toks:=tk }:=I.turned (fun b o hb e=>kk b o (by simpa using hb) e) f0 f1 f3 f4 f5;refine⟨_,rfl,qJ (s:={ s with heap:=h',toks:=tk }) (n := "range_iterator") st' rfl rfl (by decide) ⟨.int (lo+i),H,I1,⟨t,?_⟩,⟨rfl,rfl⟩,st',fun b hb=>(hf b hb).1⟩⟩;rw[Int.mul_one]
 done:=by
  intro X hP hw hK hc i pins s σ H E I hf st hg;subst hP hw hK;obtain⟨f0,f1,f2,f3,f4,f5⟩:=hf it (by simp);exact wpAny_pyNext_range_end (I.ok.hd hc) st (by have:n<=i:=hg;omega) fun h' eb=>⟨rfl,I.turned (t':=s.toks) (fun b o hb e=>eb b o hb e) f0 f1 f3 f4 f5⟩
 self:=fun _ _ _ _ _ st h=>wpAny_pyIter_rangeiter st h
section
variable {X:Cx} {tg:Expr}
theorem Xq{pins:List (Addr×Obj)}{σ:St}{H:Hp}{s:Shared}{R:It->Hp->Prop}{E:Value->Shared->Prop}{lo hi:Int}{t u v:Tok}{tk:Nat}(I:Inv X pins σ H s)(h1:-(2 ^ 62)<=lo)(h2:lo < 2 ^ 62)(h3:-(2 ^ 62)<=hi)(h4:hi < 2 ^ 62)
  (q:R (A6 lo (hi - lo).toNat) H):wpAny (model X.prog X.w) X.A (pyIter (.ref s.heap.objs.size)) (Ft X pins σ tg R) E { s with heap:=s.heap.push { cls:=.type "range",data:=.fields #[.int lo t,.int hi u,.int 1 v] },toks:=tk }:=by
 refine wpAny_pyIter_range (IsRange.new ..) (small_one h1 h2 h3 h4) ?_;have I1:Inv X pins σ H { s with heap:=s.heap.push { cls:=.type "range",data:=.fields #[.int lo t,.int hi u,.int 1 v] },toks:=tk }:=I.kept fun b o e=>wIa _ e;refine⟨(s.heap.push { cls:=.type "range",data:=.fields #[.int lo t,.int hi u,.int 1 v] }).objs.size,[(s.heap.push { cls:=.type "range",data:=.fields #[.int lo t,.int hi u,.int 1 v] }).objs.size],_,_,H,rfl,
  I1.kept (t':=tk) fun b o e=>wIa _ e,qL _ lo (hi - lo).toNat,?_,fun b hb=>?_,q⟩
 ·have e1:lo+((0:Nat):Int) * 1=lo:=by simp
  have e2:(((hi - lo).toNat:Nat):Int) - ((0:Nat):Int)=Builtin.Range.rangeSize lo hi 1:=by rw[rangeSize_one];split <;> omega
  show IsRangeIter _ _ (lo+((0:Nat):Int) * 1) ((((hi - lo).toNat:Nat):Int) - ((0:Nat):Int)) 1;rw[e1,e2];exact wJa _ rfl
 ·have e:b=(s.heap.push { cls:=.type "range",data:=.fields #[.int lo t,.int hi u,.int 1 v] }).objs.size:=by simpa using hb
  subst e;exact I1.fpOk (wPa _) (I1.hok.fresh (wPa _))
def Es(ta:TA):TI:=fun σ H R=>ta σ H fun vs H1=>∃j:Int,vs=[.int j]/\-(2 ^ 62)<=j/\j < 2 ^ 62/\R (A6 0 j.toNat) H1
theorem QA{a:Expr}{ta:TA}{p pos:Pos}(hg:Gl X "range")(hm:X.mg "range" = none)(ha:PA X [a] ta)(hs:starEach [a] X.env=[(false,eval a X.env)]:=by rfl):PI X tg (.Call (.Name "range" p) [a] [] pos) (Es ta):=by
 intro pins s σ H R I h;refine Call_ (Zv I hg hm boot_range (PyProof.Rows.callWith_type1 (jv (ha pos pins s σ H _ I h) fun us s1 xx=>?_) hs rfl));obtain⟨vs,H1,I1,r1,q1⟩:=xx;obtain⟨j,e,q1,q2,q⟩:=q1;subst e;cases r1 with
 | cons r rr=>
  cases rr;obtain⟨t,rfl⟩:=r;exact call_range_1 (Xq I1 (by omega) (by omega) q1 q2 (by simpa using q))
def Hi(wi:TI)(g:TG)(tb:TS):TS:=fun D σ H=>wi σ H fun J H1=>∃W:Nat->Nat->St->Hp->Prop,(∃m,W 0 m σ H1)/\∀i m σ H,W i m σ H->
 (J.stop i H/\D.nx σ H)∨(J.go i H/\∃N:St->Hp->Prop,(∀σ' H',N σ' H'->∃m',m' < m/\W (i+1) m' σ' H')/\∀x H',J.yld i H x H'->g x σ H' fun σ2 H2=>tb { D with nx:=N,ct:=N,bk:=D.nx } σ2 H2)
noncomputable def u8(fp:List Addr)(h:Heap):List (Addr×Obj):=fp.filterMap fun b=>(h.get? b).map fun o=>(b,o)
theorem Yl{fp:List Addr}{h:Heap}{b:Addr}{o:Obj}(hb:b∈fp)(e:h.get? b=some o):(b,o)∈u8 fp h:=List.mem_filterMap.mpr ⟨b,hb,by rw[e];rfl⟩
theorem QB{fp:List Addr}{h:Heap}{p:Addr×Obj}(hp:p∈u8 fp h):p.1∈fp/\h.get? p.1=some p.2:=by
 obtain⟨b,hb,e⟩:=List.mem_filterMap.mp hp;cases q:h.get? b with
 | none=>rw[q]at e;cases e
 | some o=>
  rw[q]at e;have e':(b,o)=p:=vFa e;subst e';exact⟨hb,q⟩
theorem Inv.pinned{pins:List (Addr×Obj)}{σ:St}{H:Hp}{s:Shared}{fp:List Addr}(I:Inv X pins σ H s)(hf:∀b∈fp,Jj X pins H b)(ho:∀b∈fp,∃o,s.heap.get? b=some o/\∀v,o.data≠.cell v):Inv X (pins++u8 fp s.heap) σ H s:=
 I.pins_of fun p hp=>(List.mem_append.mp hp).elim (fun z=>I.pin p (vJa _ z)) fun z=>by
  obtain⟨hb,e⟩:=QB z;obtain⟨f0,f1,f2,_⟩:=hf p.1 hb;obtain⟨o,e',d⟩:=ho p.1 hb;rw[e]at e';cases e';exact⟨e,f0,f1,f2,d⟩
theorem Inv.unpinned{pins pl:List (Addr×Obj)}{σ:St}{H:Hp}{s:Shared}(I:Inv X (pins++pl) σ H s):Inv X pins σ H s:=I.pins_of fun p hp=>I.pin p (vJa _ (vIa _ hp))
theorem ck{iter:Expr}{body:List Stmt}{wi:TI}{g:TG}{tb:TS}{pos:Pos}(hp:PassesOwn (model X.prog X.w) X.A X.env X.xe)(hc:X.calm=true)(hi:PI X tg iter wi)(hg:PG X tg g)(hb:Jc X body tb)
  (hs:∀x,foldedSetIterable iter X.env x=pure x:=by intro _;rfl):PS X (.For tg iter body [] pos) (Hi wi g tb):=by
 intro pins s σ H D I h;refine wpAny_For (jv (hi pins s σ H _ I h) fun v s1 h1=>jv h1 fun itv s2 h2=>?_) hs;obtain⟨it,fp,tn,J,H2,e,I2,T,st2,f2,W,⟨m0,w0⟩,turn⟩:=h2;subst e;have stat:∀{H':Hp},(∀b∈fp,H' b=none)->∀b∈fp,Jj X pins H' b:=fun hn b hb=>⟨hn b hb,(f2 b hb).2⟩
 refine codeAny_forLoop_any (fun n s'=>∃i σ' H',Inv X pins σ' H' s'/\tn i s'.heap/\(∀b∈fp,H' b=none)/\W i n σ' H') ?_ m0 ⟨0,σ,H2,I2,st2,fun b hb=>(f2 b hb).1,w0⟩;rintro n s3 ⟨i,σ3,H3,I3,st3,fr3,w3⟩;rcases turn i n σ3 H3 w3 with⟨stop,qn⟩ | ⟨go,N,hN,step⟩
 ·refine wpAny_passesOwn hp (jv (T.done X rfl rfl rfl hc i pins s3 σ3 H3 X.xe I3 (stat fr3) st3 stop) fun r s4 xx=>?_);obtain⟨hr,I4⟩:=xx;subst hr;exact wpAny_execs_nil ⟨σ3,H3,I4,qn⟩
 ·refine wpAny_passesOwn hp (jv (T.item X rfl rfl rfl hc i pins s3 σ3 H3 X.xe I3 (stat fr3) st3 go) fun r s4 xx=>?_);obtain⟨u,hr,h4⟩:=xx;subst hr;refine wpAny_passesOwn hp (jv h4 fun _ s5 xx=>?_);obtain⟨x,H5,I5,r5,y5,st5,fr5⟩:=xx;have I5':=I5.pinned (stat fr5) (T.obj _ _ st5);refine wpAny_passesOwn hp (jv (hg _ s5 σ3 H5 x u _ I5' r5 (step x H5 y5)) fun _ s6 xx=>?_);obtain⟨σ6,H6,I6,q6⟩:=xx;refine wpAny_passesOwn hp (jv (hb _ s6 σ6 H6 _ I6 q6) fun f s7 q7=>?_);have again:∀{σ7:St} {H7:Hp},Inv X (pins++u8 fp s5.heap) σ7 H7 s7->N σ7 H7->∃m,m < n/\∃i σ' H',Inv X pins σ' H' s7/\tn i s7.heap/\(∀b∈fp,H' b=none)/\W i m σ' H':=fun {σ7 H7} I7 n7=>by
   obtain⟨m',hm,w7⟩:=hN σ7 H7 n7;refine⟨m',hm,i+1,σ7,H7,I7.unpinned,T.keep _ _ _ st5 fun b hb o e=>(I7.pin (b,o) (vJa _ (vJa _ (Yl hb e)))).1,fun b hb=>?_,w7⟩;obtain⟨o,e,d⟩:=T.obj _ _ st5 b hb;exact(I7.pin (b,o) (vJa _ (vJa _ (Yl hb e)))).2.1
  cases f with
  | next=>obtain⟨σ7,H7,I7,n7⟩:=q7;exact again I7 n7
  | cont=>obtain⟨σ7,H7,I7,n7⟩:=q7;exact again I7 n7
  | brk=>obtain⟨σ7,H7,I7,q7⟩:=q7;exact⟨σ7,H7,I7.unpinned,q7⟩
  | ret v=>obtain⟨x7,σ7,H7,I7,r7,q7⟩:=q7;exact⟨x7,σ7,H7,I7.unpinned,r7,q7⟩
end
noncomputable abbrev R2:=V->V->Hp->VK->Prop
def jF(X:Cx)(f:Value->Value->Sem Value)(r:R2):Prop:=
 ∀(pins:List (Addr×Obj)) (s:Shared) (σ:St) (H:Hp) (x y:V) (v u:Value) (Q:VK),Inv X pins σ H s->jt x v->jt y u->r x y H Q->
  wpAny (model X.prog X.w) X.A (f v u) (EP X pins σ Q) X.xe s
def cm(X:Cx)(f:Value->Sem Value)(r:V->Hp->VK->Prop):Prop:=
 ∀(pins:List (Addr×Obj)) (s:Shared) (σ:St) (H:Hp) (x:V) (v:Value) (Q:VK),Inv X pins σ H s->jt x v->r x H Q->
  wpAny (model X.prog X.w) X.A (f v) (EP X pins σ Q) X.xe s
def zB(X:Cx)(f:Value)(r:List V->Hp->VK->Prop):Prop:=
 ∀(pins:List (Addr×Obj)) (s:Shared) (σ:St) (H:Hp) (xs:List V) (us:List Value) (Q:VK),Inv X pins σ H s->jh xs us->r xs H Q->
  wpAny (model X.prog X.w) X.A (call f us) (EP X pins σ Q) X.xe s
def Hj(X:Cx)(r:V->Hp->(Bool->Hp->Prop)->Prop):Prop:=
 ∀(pins:List (Addr×Obj)) (s:Shared) (σ:St) (H:Hp) (x:V) (v:Value) (Q:Bool->Hp->Prop),Inv X pins σ H s->jt x v->r x H Q->
  wpAny (model X.prog X.w) X.A (truthy v) (TP X pins σ Q) X.xe s
def gq(r:R2)(ta tb:TE):TE:=fun σ H Q=>ta σ H fun x H1=>tb σ H1 fun y H2=>r x y H2 Q
def iT(r:V->Hp->VK->Prop)(ta:TE):TE:=fun σ H Q=>ta σ H fun x H1=>r x H1 Q
def rI(C:Int->Int->Prop)(g:Int->Int->V):R2:=fun x y H Q=>∃i j,x=.int i/\y=.int j/\C i j/\Q (g i j) H
def Zd(g:Int->Int->V):R2:=fun x y H Q=>∃i j,x=.int i/\y=.int j/\Q (g i j) H
def rU(g:Int->V):V->Hp->VK->Prop:=fun x H Q=>∃i,x=.int i/\Q (g i) H
section
variable {X:Cx} {a b c:Expr} {ta tb tc:TE} {pos:Pos}
theorem Xr(ha:PE X a ta)(hb:PE X b tb){pins:List (Addr×Obj)}{s:Shared}{σ:St}{H:Hp}{R:V->V->Hp->Prop}(I:Inv X pins σ H s)
  (h:ta σ H fun x H1=>tb σ H1 fun y H2=>R x y H2) {Q:Value->Shared->Prop} {f:Value->Value->Sem Value}
  (hf:∀v u s2 x y H2,Inv X pins σ H2 s2->jt x v->jt y u->R x y H2->wpAny (model X.prog X.w) X.A (f v u) Q X.xe s2):
  wpAny (model X.prog X.w) X.A (eval a X.env) (fun v s₁=>wpAny (model X.prog X.w) X.A (eval b X.env) (fun u s₂=>wpAny (model X.prog X.w) X.A (f v u) Q X.xe s₂) X.xe s₁) X.xe s:=by
 refine jv (ha pins s σ H _ I h) fun v s1 xx=>?_;obtain⟨x,H1,I1,r1,q1⟩:=xx;refine jv (hb pins s1 σ H1 _ I1 q1) fun u s2 xx=>?_;obtain⟨y,H2,I2,r2,q2⟩:=xx;exact hf v u s2 x y H2 I2 r1 r2 q2
theorem qM{op:Operator}{r:R2}(ho:jF X (binaryOp op) r)(ha:PE X a ta)(hb:PE X b tb):PE X (.BinOp a op b pos) (gq r ta tb):=by
 intro pins s σ H Q I h;exact wpAny_BinOp (Xr ha hb I h fun v u s2 x y H2 I2 rx ry q=>ho pins s2 σ H2 x y v u Q I2 rx ry q)
theorem Et{op:UnaryOp}{r:V->Hp->VK->Prop}(ho:cm X (unaryOp op) r)(ha:PE X a ta):PE X (.UnaryOp op a pos) (iT r ta):=by
 intro pins s σ H Q I h;exact UnaryOp_ (jv (ha pins s σ H _ I h) fun v s1 ⟨x,H1,I1,r1,q1⟩=>ho pins s1 σ H1 x v Q I1 r1 q1)
theorem A7{f:Value->Value->Sem Value}{C:Int->Int->Prop}{g:Int->Int->Int}
  (rule:∀(i j:Int) (t u:Tok) (s:Shared) (Q:Value->Shared->Prop) (E:Value->Shared->Prop),C i j->Q (.int (g i j) s.toks) { s with toks:=s.toks+1 }->wpAny (model X.prog X.w) X.A (f (.int i t) (.int j u)) Q E s):
  jF X f (rI C fun i j=>.int (g i j)):=by
 intro pins s σ H x y v u Q I rx ry h;obtain⟨i,j,rfl,rfl,hc,q⟩:=h;obtain⟨t,rfl⟩:=rx;obtain⟨t',rfl⟩:=ry;exact rule i j t t' s _ _ hc ⟨.int (g i j),H,I.tok _,⟨_,rfl⟩,q⟩
theorem cn{f:Value->Value->Sem Value}{g:Int->Int->Int}
  (rule:∀(i j:Int) (t u:Tok) (s:Shared) (Q:Value->Shared->Prop) (E:Value->Shared->Prop),Q (.int (g i j) s.toks) { s with toks:=s.toks+1 }->wpAny (model X.prog X.w) X.A (f (.int i t) (.int j u)) Q E s):
  jF X f (Zd fun i j=>.int (g i j)):=by
 intro pins s σ H x y v u Q I rx ry h;obtain⟨i,j,rfl,rfl,q⟩:=h;obtain⟨t,rfl⟩:=rx;obtain⟨t',rfl⟩:=ry;exact rule i j t t' s _ _ ⟨.int (g i j),H,I.tok _,⟨_,rfl⟩,q⟩
theorem qN{f:Value->Value->Sem Value}{g:Int->Int->Bool}
  (rule:∀(i j:Int) (t u:Tok) (s:Shared) (Q:Value->Shared->Prop) (E:Value->Shared->Prop),Q (.bool (g i j)) s->wpAny (model X.prog X.w) X.A (f (.int i t) (.int j u)) Q E s):
  jF X f (Zd fun i j=>.bl (g i j)):=by
 intro pins s σ H x y v u Q I rx ry h;obtain⟨i,j,rfl,rfl,q⟩:=h;obtain⟨t,rfl⟩:=rx;obtain⟨t',rfl⟩:=ry;exact rule i j t t' s _ _ ⟨.bl (g i j),H,I,rfl,q⟩
def Xs(i j:Int):Prop:=0 < j/\j < 1073741824
def Xu(i j:Int):Prop:=0<=j/\j<=1000000/\i.natAbs < 2 ^ 64
def UD(i j:Int):Prop:=(-(2 ^ 64) < i/\i < 2 ^ 64)∨(-(2 ^ 64) < j/\j < 2 ^ 64)
theorem UD.ok{i j:Int}(h:UD i j):IntMulOk i j:=by
 rcases h with⟨h1,h2⟩ | ⟨h1,h2⟩
 ·exact .of_left (intBits_le_64 h1 h2)
 ·exact .of_right (intBits_le_64 h1 h2)
theorem cq:jF X (binaryOp .Add) (Zd fun i j=>.int (i+j)):=cn fun _ _ _ _ _ _ _ q=>add_int q
theorem cr:jF X (binaryOp .Sub) (Zd fun i j=>.int (i - j)):=cn fun _ _ _ _ _ _ _ q=>sub_int q
theorem cu:jF X (binaryOp .Mult) (rI UD fun i j=>.int (i * j)):=A7 fun _ _ _ _ _ _ _ hc q=>mul_int q hc.ok
theorem bu:jF X (binaryOp .FloorDiv) (rI Xs fun i j=>.int (i / j)):=A7 fun i j _ _ _ _ _ hc q=>by
 have h1:(0:Int) < j:=hc.1;have h2:j < 1073741824:=hc.2;exact floordiv_int (by omega) (by rw[Int.fdiv_eq_ediv_of_nonneg i (by omega)];exact q) (.inl (PyProof.noPylong_small (by omega)))
theorem cv:jF X (binaryOp .Mod) (rI (fun _ j=>0 < j) fun i j=>.int (i % j)):=A7 fun i j _ _ _ _ _ hc q=>by
 have h1:(0:Int) < j:=hc;exact mod_int' (by omega) (by rw[Int.fmod_eq_emod_of_nonneg i (by omega)];exact q)
theorem cw:jF X (binaryOp .Pow) (rI Xu fun i j=>.int (i ^ j.toNat)):=A7 fun _ _ _ _ _ _ _ hc q=>pow_int_small hc.1 hc.2.1 hc.2.2 q
theorem iU{f:Value->Sem Value}{g:Int->Int}
  (rule:∀(i:Int) (t:Tok) (s:Shared) (Q:Value->Shared->Prop) (E:Value->Shared->Prop),Q (.int (g i) s.toks) { s with toks:=s.toks+1 }->wpAny (model X.prog X.w) X.A (f (.int i t)) Q E s):
  cm X f (rU fun i=>.int (g i)):=by
 intro pins s σ H x v Q I rx h;obtain⟨i,rfl,q⟩:=h;obtain⟨t,rfl⟩:=rx;exact rule i t s _ _ ⟨.int (g i),H,I.tok _,⟨_,rfl⟩,q⟩
theorem cx:cm X (unaryOp .USub) (rU fun i=>.int (-i)):=iU fun _ _ _ _ _ q=>neg_int q
end
noncomputable def Ys:V->V->Bool
 | .non,.non=>true | .non,.int _=>true | .int _,.non=>true | .non,.bl _=>true | .bl _,.non=>true | .non,.str _=>true | .str _,.non=>true
 | .int _,.int _=>true | .bl _,.bl _=>true | .str _,.str _=>true | .byt _,.byt _=>true
 | .int _,.str _=>true | .str _,.int _=>true | .bl _,.str _=>true | .str _,.bl _=>true
 | _,_=>false
def A8:R2:=fun x y H Q=>Ys x y=true/\Q (.bl (decide (x=y))) H
def A9:R2:=fun x y H Q=>Ys x y=true/\Q (.bl (!decide (x=y))) H
theorem vV{i j:Int}:decide (V.int i=V.int j)=(i==j):=by
 rw[Bool.eq_iff_iff];simp
theorem u9{i j:Bool}:decide (V.bl i=V.bl j)=(i==j):=by
 rw[Bool.eq_iff_iff];simp
theorem vW{i j:Str}:decide (V.str i=V.str j)=(i==j):=by
 rw[Bool.eq_iff_iff];simp
theorem WM{i j:Array UInt8}:decide (V.byt i=V.byt j)=(i.toList==j.toList):=by
 rw[Bool.eq_iff_iff];cases i;cases j;simp
section
variable {X:Cx} {a b c:Expr} {ta tb tc:TE} {pos:Pos}
theorem jD{pins:List (Addr×Obj)}{σ:St}{H:Hp}{s:Shared}{Q:VK}{k k':Bool}(I:Inv X pins σ H s)(q:Q (.bl k) H)(e:k=k'):EP X pins σ Q (.bool k') s:=by
 subst e;exact⟨.bl k,H,I,rfl,q⟩
theorem Eu:jF X (compareOp .Eq) A8:=by
 intro pins s σ H x y v u Q I rx ry h;obtain⟨hs,q⟩:=h;cases x with
 | non=>
  cases rx;cases y with
  | non=>cases ry;exact PySem.EqNone.eq_none_none (jD I q (by simp))
  | bl j=>cases ry;exact PySem.EqNone.eq_none_bool (jD I q (by simp))
  | int j=>obtain⟨t',rfl⟩:=ry;exact PySem.EqNone.eq_none_int (jD I q (by simp))
  | str j=>obtain⟨t',rfl⟩:=ry;exact PySem.EqNone.eq_none_str (jD I q (by simp))
  | _=>exact vDa (show false=true from hs) vNa
 | bl i=>
  cases rx;cases y with
  | non=>cases ry;exact PySem.EqNone.eq_bool_none (jD I q (by simp))
  | bl j=>cases ry;exact eq_bool (jD I q u9)
  | str j=>obtain⟨t',rfl⟩:=ry;exact PySem.EqMixed.eq_bool_str (jD I q (by simp))
  | _=>exact vDa (show false=true from hs) vNa
 | int i=>
  obtain⟨t,rfl⟩:=rx;cases y with
  | non=>cases ry;exact PySem.EqNone.eq_int_none (jD I q (by simp))
  | int j=>obtain⟨t',rfl⟩:=ry;exact eq_int (jD I q vV)
  | str j=>obtain⟨t',rfl⟩:=ry;exact PySem.EqMixed.eq_int_str (jD I q (by simp))
  | _=>exact vDa (show false=true from hs) vNa
 | str i=>
  obtain⟨t,rfl⟩:=rx;cases y with
  | non=>cases ry;exact PySem.EqNone.eq_str_none (jD I q (by simp))
  | bl j=>cases ry;exact PySem.EqMixed.eq_str_bool (jD I q (by simp))
  | int j=>obtain⟨t',rfl⟩:=ry;exact PySem.EqMixed.eq_str_int (jD I q (by simp))
  | str j=>obtain⟨t',rfl⟩:=ry;exact eq_str (jD I q vW)
  | _=>exact vDa (show false=true from hs) vNa
 | byt i=>
  obtain⟨t,rfl⟩:=rx;cases y with
  | byt j=>obtain⟨t',rfl⟩:=ry;exact PySem.W.eq_bytes (jD I q WM)
  | _=>exact vDa (show false=true from hs) vNa
 | _=>cases y <;> exact vDa (show false=true from hs) vNa
theorem Ev:jF X (compareOp .NotEq) A9:=by
 intro pins s σ H x y v u Q I rx ry h;obtain⟨hs,q⟩:=h;cases x with
 | non=>
  cases rx;cases y with
  | non=>cases ry;exact PySem.EqNone.ne_none_none (jD I q (by simp))
  | bl j=>cases ry;exact PySem.EqNone.ne_none_bool (jD I q (by simp))
  | int j=>obtain⟨t',rfl⟩:=ry;exact PySem.EqNone.ne_none_int (jD I q (by simp))
  | str j=>obtain⟨t',rfl⟩:=ry;exact PySem.EqNone.ne_none_str (jD I q (by simp))
  | _=>exact vDa (show false=true from hs) vNa
 | bl i=>
  cases rx;cases y with
  | non=>cases ry;exact PySem.EqNone.ne_bool_none (jD I q (by simp))
  | bl j=>cases ry;exact ne_bool (jD I q (congrArg not u9))
  | str j=>obtain⟨t',rfl⟩:=ry;exact PySem.EqMixed.ne_bool_str (jD I q (by simp))
  | _=>exact vDa (show false=true from hs) vNa
 | int i=>
  obtain⟨t,rfl⟩:=rx;cases y with
  | non=>cases ry;exact PySem.EqNone.ne_int_none (jD I q (by simp))
  | int j=>obtain⟨t',rfl⟩:=ry;exact ne_int (jD I q (congrArg not vV))
  | str j=>obtain⟨t',rfl⟩:=ry;exact PySem.EqMixed.ne_int_str (jD I q (by simp))
  | _=>exact vDa (show false=true from hs) vNa
 | str i=>
  obtain⟨t,rfl⟩:=rx;cases y with
  | non=>cases ry;exact PySem.EqNone.ne_str_none (jD I q (by simp))
  | bl j=>cases ry;exact PySem.EqMixed.ne_str_bool (jD I q (by simp))
  | int j=>obtain⟨t',rfl⟩:=ry;exact PySem.EqMixed.ne_str_int (jD I q (by simp))
  | str j=>obtain⟨t',rfl⟩:=ry;exact ne_str (jD I q (congrArg not vW))
  | _=>exact vDa (show false=true from hs) vNa
 | byt i=>
  obtain⟨t,rfl⟩:=rx;cases y with
  | byt j=>obtain⟨t',rfl⟩:=ry;exact PySem.W.ne_bytes (jD I q (congrArg not WM))
  | _=>exact vDa (show false=true from hs) vNa
 | _=>cases y <;> exact vDa (show false=true from hs) vNa
theorem Ew:jF X (compareOp .Lt) (Zd fun i j=>.bl (decide (i < j))):=qN fun _ _ _ _ _ _ _ q=>lt_int q
theorem Ex:jF X (compareOp .LtE) (Zd fun i j=>.bl (decide (i<=j))):=qN fun _ _ _ _ _ _ _ q=>le_int q
theorem Ey:jF X (compareOp .Gt) (Zd fun i j=>.bl (decide (j < i))):=qN fun _ _ _ _ _ _ _ q=>gt_int q
theorem Ez:jF X (compareOp .GtE) (Zd fun i j=>.bl (decide (j<=i))):=qN fun _ _ _ _ _ _ _ q=>ge_int q
theorem cy:jF X (compareOp .Is) (fun x y H Q=>y=.non/\Q (.bl (decide (x=.non))) H):=by
 intro pins s σ H x y v u Q I rx ry h;obtain⟨rfl,q⟩:=h;cases ry;refine is_none_gen (jD I q ?_);cases x <;> first
  | (cases rx;rfl)
  | (obtain⟨t,rfl⟩:=rx;rfl)
theorem bv:jF X (compareOp .IsNot) (fun x y H Q=>y=.non/\Q (.bl (!decide (x=.non))) H):=by
 intro pins s σ H x y v u Q I rx ry h;obtain⟨rfl,q⟩:=h;cases ry;refine isnot_none_gen (jD I q ?_);cases x <;> first
  | (cases rx;rfl)
  | (obtain⟨t,rfl⟩:=rx;rfl)
theorem jF.or{f:Value->Value->Sem Value}{r r':R2}(h:jF X f r)(h':jF X f r'):jF X f (fun x y H Q=>r x y H Q∨r' x y H Q):=by
 intro pins s σ H x y v u Q I rx ry q;rcases q with q | q
 ·exact h pins s σ H x y v u Q I rx ry q
 ·exact h' pins s σ H x y v u Q I rx ry q
theorem bw{op:CmpOp}{r:R2}(ho:jF X (compareOp op) r)(ha:PE X a ta)(hb:PE X b tb)(hm:behindInMarks op b=false):PE X (.Compare a [op] [b] pos) (gq r ta tb):=by
 intro pins s σ H Q I h;exact wpAny_Compare1 (Xr ha hb I h fun v u s2 x y H2 I2 rx ry q=>ho pins s2 σ H2 x y v u Q I2 rx ry q) hm
def Aa(t:TE):TT:=fun σ H Q=>t σ H fun x H'=>∃k,x=.bl k/\Q k H'
theorem bx{op:CmpOp}{r:R2}(ho:jF X (compareOp op) r)(ha:PE X a ta)(hb:PE X b tb)(hm:behindInMarks op b=false):PT X (.Compare a [op] [b] pos) (Aa (gq r ta tb)):=by
 intro pins s σ H Q I h;refine wpAny_isTrue_Compare1 (jv (ha pins s σ H _ I h) fun v s1 ⟨x,H1,I1,r1,q1⟩=>jv (hb pins s1 σ H1 _ I1 q1) fun u s2 ⟨y,H2,I2,r2,q2⟩=>
  jv (ho pins s2 σ H2 x y v u _ I2 r1 r2 q2) fun c s3 ⟨z,H3,I3,r3,k,e,q3⟩=>?_) hm
 subst e;cases r3;exact wpAny_truthy_bool ⟨H3,I3,q3⟩
def Ky(r r':R2)(ta tb tc:TE):TE:=fun σ H Q=>ta σ H fun x H1=>tb σ H1 fun y H2=>r x y H2 fun z H3=>∃k,z=.bl k/\
 (if k=true then tc σ H3 fun w' H4=>r' y w' H4 Q else Q (.bl false) H3)
theorem Xv{op op':CmpOp}{r r':R2}(ho:jF X (compareOp op) r)(ho':jF X (compareOp op') r')(ha:PE X a ta)(hb:PE X b tb)(hc:PE X c tc)
  (hm:lastMarks [op,op'] [b,c]=false:=by with_unfolding_all rfl):PE X (.Compare a [op,op'] [b,c] pos) (Ky r r' ta tb tc):=by
 intro pins s σ H Q I h;refine Compare_chain (jv (ha pins s σ H _ I h) fun v s1 ⟨x,H1,I1,r1,q1⟩=>chain_link (jv (hb pins s1 σ H1 _ I1 q1) fun u s2 ⟨y,H2,I2,r2,q2⟩=>
  jv (ho pins s2 σ H2 x y v u _ I2 r1 r2 q2) fun d s3 ⟨z,H3,I3,r3,k,e,q3⟩=>?_)) hm
 subst e;cases r3;refine wpAny_truthy_bool ?_;cases k with
 | false=>exact ite_ff ⟨.bl false,H3,I3,rfl,q3⟩
 | true=>exact ite_tt (chain_last (jv (hc pins s3 σ H3 _ I3 q3) fun w' s4 ⟨z',H4,I4,r4,q4⟩=>ho' pins s4 σ H4 y z' u w' Q I4 r2 r4 q4))
theorem Xw{op op':CmpOp}{r r':R2}(ho:jF X (compareOp op) r)(ho':jF X (compareOp op') r')(ha:PE X a ta)(hb:PE X b tb)(hc:PE X c tc)
  (hm:lastMarks [op,op'] [b,c]=false:=by with_unfolding_all rfl):PT X (.Compare a [op,op'] [b,c] pos) (Aa (Ky r r' ta tb tc)):=by
 intro pins s σ H Q I h;refine isTrue_chain (jv (ha pins s σ H _ I h) fun v s1 ⟨x,H1,I1,r1,q1⟩=>test_link (jv (hb pins s1 σ H1 _ I1 q1) fun u s2 ⟨y,H2,I2,r2,q2⟩=>
  jv (ho pins s2 σ H2 x y v u _ I2 r1 r2 q2) fun d s3 ⟨z,H3,I3,r3,k,e,q3⟩=>?_)) hm
 subst e;cases r3;refine wpAny_truthy_bool ?_;cases k with
 | false=>
  obtain⟨k',e',q'⟩:=q3;cases e';exact ite_ff ⟨H3,I3,q'⟩
 | true=>
  refine ite_tt (test_last (jv (hc pins s3 σ H3 _ I3 q3) fun w' s4 ⟨z',H4,I4,r4,q4⟩=>jv (ho' pins s4 σ H4 y z' u w' _ I4 r2 r4 q4) fun d' s5 xx=>?_));obtain⟨z2,H5,I5,r5,k2,e2,q5⟩:=xx;subst e2;cases r5;exact wpAny_truthy_bool ⟨H5,I5,q5⟩
def Xx(K:PySem.W.Frag)(x:V)(H:Hp)(k:Bool):Prop:=
 match x with
 | .non=>k=false
 | .bl b=>k=b
 | .int i=>k=(i != 0)
 | .str y=>y.length<=sizeLine/\k=((y.length:Int) != 0)
 | .byt y=>y.size<=sizeLine/\k=((y.size:Int) != 0)
 | .ref p=>(∃xs,jC K H p xs/\k=!xs.isEmpty)∨(∃xs,Ji K H p xs/\k=!xs.isEmpty)∨∃kvs,H p=some (.dK kvs)/\k=!kvs.isEmpty
 | _=>False
theorem qO{κ:Type}{kvs:List (κ×V)}{vs:List (κ×Value)}(r:KV kvs vs):(!vs.isEmpty)=!kvs.isEmpty:=by
 cases r <;> rfl
theorem gr{xs:List V}{its:List Value}(r:jh xs its):(!its.toArray.isEmpty)=!xs.isEmpty:=by
 cases r <;> simp
theorem vX:(sizeLine:Nat) < 2 ^ 63:=by rw[sizeLine_eq];decide
theorem cz:Hj X (fun x H Q=>∃k,Xx X.K x H k/\Q k H):=by
 intro pins s σ H x v Q I rx h;obtain⟨k,e,q⟩:=h;have hl:=vX;have hs:sizeLine=16777216:=sizeLine_eq;cases x with
 | non=>
  cases rx;have e':k=false:=e;subst e';exact truthy_none ⟨H,I,q⟩
 | bl b=>
  cases rx;have e':k=b:=e;subst e';exact wpAny_truthy_bool ⟨H,I,q⟩
 | int i=>
  obtain⟨t,rfl⟩:=rx;have e':k=(i != 0):=e;subst e';exact PySem.P.truthy_int ⟨H,I,q⟩
 | str y=>
  obtain⟨t,rfl⟩:=rx;obtain⟨hy,e'⟩:y.length<=sizeLine/\k=((y.length:Int) != 0):=e;subst e';exact PySem.P.truthy_str (by omega) ⟨H,I.tok _,q⟩
 | byt y=>
  obtain⟨t,rfl⟩:=rx;obtain⟨hy,e'⟩:y.size<=sizeLine/\k=((y.size:Int) != 0):=e;subst e';exact PySem.W.truthy_bytes (by omega) ⟨H,I.tok _,q⟩
 | ref p=>
  cases rx;have e':(∃xs,jC X.K H p xs/\k=!xs.isEmpty)∨(∃xs,Ji X.K H p xs/\k=!xs.isEmpty)∨∃kvs,H p=some (.dK kvs)/\k=!kvs.isEmpty:=e;rcases e' with⟨xs,hx,e'⟩ | ⟨xs,hx,e'⟩ | ⟨kvs,hx,e'⟩
  ·subst e';obtain⟨its,r,pl,hz⟩:=I.list hx;have hlen:=r.length;exact wpAny_truthy_list pl.isList (by simp only[List.size_toArray];omega) ⟨H,I.tok _,by rw[gr r];exact q⟩
  ·subst e';obtain⟨its,r,pl,hz⟩:=I.tuple hx;have hlen:=r.length;exact truthy_tuple pl (by simp only[List.size_toArray];omega) ⟨H,I.tok _,by rw[gr r];exact q⟩
  ·subst e';obtain⟨hz,hS,vs,r,m⟩:kvs.length<=sizeLine/\(p==sysModules)=false/\∃vs,KV kvs vs/\s.heap.DictOf (Gp X.prog X.w) p vs:=I.hok p _ hx;have hlen:kvs.length=vs.length:=Paired.length r;exact wpAny_truthy_dict hS m (by omega) ⟨H,I.tok _,by rw[qO r];exact q⟩
 | _=>exact(show False from e).elim
theorem Xy(ha:PE X a ta)(he:∀whole,isTrue a X.env whole=(do let v<-whole;standAt a.pos;holding [v] (truthy v))):
  PT X a (fun σ H Q=>ta σ H fun x H'=>∃k,Xx X.K x H' k/\Q k H'):=by
 intro pins s σ H Q I h;exact isTrue_plain (jv (ha pins s σ H _ I h) fun v s1 ⟨x,H1,I1,r1,q1⟩=>cz pins s1 σ H1 x v Q I1 r1 q1) (he _)
theorem qP:jF X (binaryOp .Add) (fun x y H Q=>∃i j,x=.str i/\y=.str j/\i.length+j.length<=sizeLine/\Q (.str (i++j)) H):=by
 intro pins s σ H x y v u Q I rx ry h;obtain⟨i,j,rfl,rfl,hz,q⟩:=h;obtain⟨t,rfl⟩:=rx;obtain⟨t',rfl⟩:=ry;exact add_str (fun t' tk=>⟨.str (i++j),H,I.tok _,⟨_,rfl⟩,q⟩) hz
theorem qQ{x:V}{us:List Value}(r:jh [x] us):∃u,us=[u]/\jt x u:=by
 cases r with
 | cons r1 r2=>cases r2;exact⟨_,rfl,r1⟩
theorem Ab{x y:V}{us:List Value}(r:jh [x,y] us):∃u w',us=[u,w']/\jt x u/\jt y w':=by
 cases r with
 | cons r1 r2=>
  cases r2 with
  | cons r3 r4=>cases r4;exact⟨_,_,rfl,r1,r3⟩
theorem QC(hc:X.calm=true):zB X (.builtin "max") (fun xs H Q=>∃i j,xs=[.int i,.int j]/\Q (.int (if j > i then j else i)) H):=by
 intro pins s σ H xs us Q I r h;obtain⟨i,j,rfl,q⟩:=h;obtain⟨u,w',rfl,⟨t,rfl⟩,⟨t',rfl⟩⟩:=Ab r;refine max_two_ints (I.ok.hd hc) fun h' tk k=>⟨_,H,I.kept k,?_,q⟩
 by_cases hj:j > i
 ·rw[if_pos hj,if_pos hj];exact⟨_,rfl⟩
 ·rw[if_neg hj,if_neg hj];exact⟨_,rfl⟩
theorem QD(hc:X.calm=true):zB X (.builtin "min") (fun xs H Q=>∃i j,xs=[.int i,.int j]/\Q (.int (if j < i then j else i)) H):=by
 intro pins s σ H xs us Q I r h;obtain⟨i,j,rfl,q⟩:=h;obtain⟨u,w',rfl,⟨t,rfl⟩,⟨t',rfl⟩⟩:=Ab r;refine min_two_ints (I.ok.hd hc) fun h' tk k=>⟨_,H,I.kept k,?_,q⟩
 by_cases hj:j < i
 ·rw[if_pos hj,if_pos hj];exact⟨_,rfl⟩
 ·rw[if_neg hj,if_neg hj];exact⟨_,rfl⟩
end
structure ObjM (h:Heap) (x dx C:Addr) (mA:Str->Option Value):Prop where
 obj:h.get? x=some (PySem.W.instObj C dx)
 ns:h.Ns1 dx mA
 ne:dx≠x
theorem QE{h:Heap}{dx:Addr}{mA:Str->Option Value}(n:h.Ns1 dx mA):∃od,h.get? dx=some od/\∀name,PySem.W.lookIn name od=some (mA name):=by
 obtain⟨o,es,ep,ho,hd,hk,_,hm⟩:=n;refine⟨o,ho,fun name=>?_⟩;have e:=hm name;unfold nsFind findBy at e;rw[<-Array.find?_toList]at e;unfold PySem.W.lookIn;rw[hd];dsimp only;split
 ·rename_i y q;rw[q]at e;exact congrArg some e
 ·rename_i q;rw[q]at e;have a:es.toList.any (·.refKey)=false:=by
   rw[List.any_eq_false];intro y hy;obtain⟨z,t,hkey⟩:=hk y (Array.mem_toList_iff.mp hy);simp[DictEntry.refKey,hkey]
  have a':¬es.toList.any (·.refKey)=true:=by rw[a];exact vNa
  rw[if_neg a'];exact congrArg some e
theorem ObjM.look{h:Heap}{x dx C:Addr}{mA:Str->Option Value}(I:ObjM h x dx C mA):∃od,PySem.W.InstAt h x (PySem.W.instObj C dx) C (some od)/\∀name,PySem.W.lookIn name od=some (mA name):=
 let ⟨od,ho,hl⟩:=QE I.ns
 ⟨od,⟨I.obj,rfl,rfl,ho⟩,hl⟩
section
variable {prog:Program} {w:World} {A:Around} {E:Value->Shared->Prop} {s:Shared} {K:PySem.W.Frag} {x dx C f:Addr} {mA:Str->Option Value} {name:Str} {v:Value}
theorem bz{expr:Bool}{Q:Value->Shared->Prop}(X:K.In s.heap)(I:ObjM s.heap x dx C mA)(hg:PySem.W.plainGet K C name=true)(hh:PySem.W.hasDictIn K C=true)
  (ha:PySem.W.findIn K (.ref C) name=some none) (hv:mA name=some v) (hv':PySem.W.handedIn v=true) (h:Q v { s with toks:=s.toks+1 }):
  wpAny (model prog w) A (getAttr (.ref x) name expr) Q E s:=by
 obtain⟨od,J,hl⟩:=I.look;exact PySem.W.get_value X J (PySem.W.plainGet_of hg).1 (PySem.W.findObj_own hh ha rfl (by rw[hl,hv])) hv' h
theorem Xz{pl:Sem Bool}{Q:Value×List Value->Shared->Prop}(X:K.In s.heap)(I:ObjM s.heap x dx C mA)(hg:PySem.W.plainGet K C name=true)
  (hf:PySem.W.findIn K (.ref C) name=some (some (.ref f))) (ht:PySem.W.isFn K (.ref f)=true) (hv:mA name=none) (h:Q (.ref f,[.ref x]) s):
  wpAny (model prog w) A (getMethod (.ref x) name pl) Q E s:=by
 obtain⟨od,J,hl⟩:=I.look;exact PySem.W.method_fn X J (PySem.W.plainGet_of hg).1 (PySem.W.plainGet_of hg).2 hf (beq_iff_eq.mp ht) (by show(PySem.W.lookIn name od).map (·.isSome)=some false;rw[hl,hv];rfl) h
theorem bA{ns:List Str}{Q:Unit->Shared->Prop}(X:K.In s.heap)(I:ObjM s.heap x dx C mA)
  (hs:PySem.W.findIn K (.ref C) "__setattr__" = some (some (.builtin "object.__setattr__"))) (hp:PySem.W.plainOver K C=true) (ht:PySem.W.takerIn K C name=some none) (hh:PySem.W.hasDictIn K C=true)
  (hw:PySem.Within mA ns) (hsz:ns.length<=sizeLine)
  (h:∀h',ObjM h' x dx C (fun y=>if y=name then some v else mA y)->Heap.SameBut dx s.heap h'->Q () { s with heap:=h',toks:=s.toks+2 }):
  wpAny (model prog w) A (setAttr (.ref x) name v) Q E s:=by
 obtain⟨od,J,hl⟩:=I.look;refine PySem.W.set_plain X J hs (PySem.W.osa_open (s:={ s with toks:=s.toks+1 }) (r:=none) X J hp ht fun b=>?_);obtain⟨cd,hc,hd'⟩:=PySem.W.any_some hh;have hx:s.heap.get? x=some ⟨.ref C,some dx,.plain,#[]⟩:=I.obj;refine wAa (wBa (wAa (wAa (wpAny_loadPart hx (wAa (PySem.W.Looks.here (s:={ s with toks:=s.toks+1 }) (PySem.W.looks_clsIn X hc) ?_))))));rw[hd'];refine wBa (a:=some dx) (wAa (wBa (wAa ?_)));refine wpAny_nsSet1 (s:={ s with toks:=s.toks+1 }) I.ns fun h' hn2 hs2=>?_;obtain⟨oD,esD,epD,hoD,hdD,hcD⟩:=hn2.count (PySem.Within.cons name v hw);refine wAa (wpAny_lookBehind hoD (by rw[hdD];exact pastItsLine_dict (wSa hcD (by rw[List.length_cons];omega))) ?_);exact wBa (h _ ⟨(hs2.2 _ (Ne.symm I.ne)).trans I.obj,hn2,I.ne⟩ hs2)
theorem XA{R:Result->Shared->Prop}{vs:List Value}{kw:List (Str×Value)}(X:K.In s.heap)(hm:PySem.W.makesIn K C=true)
  (hi:PySem.W.findIn K (.ref C) "__init__" = some (some (.ref f))) (hf:PySem.W.typeIn K (.ref f)=some (.type "function"))
  (h:codeAny (model prog w) (A.under (.builtin "type.__call__" ⟨.ref C::vs,kw⟩)) (.call (.ref f) ⟨.ref (s.heap.objs.size+1)::vs,kw⟩) (PySem.W.InitBack (s.heap.objs.size+1) R)
   { s with heap:=(s.heap.push PySem.W.emptyDict).push (PySem.W.instObj C s.heap.objs.size) }):
  codeAny (model prog w) A (.call (.ref C) ⟨vs,kw⟩) R s:=by
 obtain⟨hh,g,d,t,os⟩:=s;exact PySem.W.make_core (PySem.W.makes_of X hm) (PySem.W.looks_findIn X hi) (fun self=>PySem.W.bind_fn X self hf) (.inl rfl) h
end
noncomputable def yS(f:Str)(v:V):List (Str×V)->List (Str×V)
 | []=>[(f,v)]
 | (g,x)::r=>if g=f then(g,v)::r else(g,x)::yS f v r
theorem Ue(f g:Str)(v:V):∀fs:List (Str×V),(yS f v fs).lookup g=if g=f then some v else fs.lookup g
 | []=>by
  show List.lookup g [(f,v)]=_;by_cases h:g=f
  ·have hb:(g==f)=true:=beq_iff_eq.mpr h;simp only[List.lookup,hb,if_pos h]
  ·have hb:(g==f)=false:=beq_eq_false_iff_ne.mpr h;simp only[List.lookup,hb,if_neg h]
 | (k,x)::r=>by
  have ih:=Ue f g v r;rw[show yS f v ((k,x)::r)=(if k=f then(k,v)::r else(k,x)::yS f v r) from rfl];by_cases hk:k=f
  ·rw[if_pos hk];by_cases h:g=k
   ·have hb:(g==k)=true:=beq_iff_eq.mpr h;simp only[List.lookup,hb,if_pos (h.trans hk)]
   ·have hb:(g==k)=false:=beq_eq_false_iff_ne.mpr h;simp only[List.lookup,hb,if_neg (fun e:g=f=>h (e.trans hk.symm))]
  ·rw[if_neg hk];by_cases h:g=k
   ·have hb:(g==k)=true:=beq_iff_eq.mpr h;simp only[List.lookup,hb,if_neg (fun e:g=f=>hk (h.symm.trans e))]
   ·have hb:(g==k)=false:=beq_eq_false_iff_ne.mpr h;simp only[List.lookup,hb];exact ih
theorem ua(f:Str)(v:V):∀fs:List (Str×V),f∈(yS f v fs).map (·.1)/\∀g,g∈fs.map (·.1)->g∈(yS f v fs).map (·.1)
 | []=>⟨by simp[yS],fun g h=>by simp at h⟩
 | (k,x)::r=>by
  obtain⟨i1,i2⟩:=ua f v r;rw[show yS f v ((k,x)::r)=(if k=f then(k,v)::r else(k,x)::yS f v r) from rfl];by_cases hk:k=f
  ·rw[if_pos hk];subst hk;exact⟨by simp,fun g h=>by simpa using h⟩
  ·rw[if_neg hk];refine⟨?_,fun g h=>?_⟩
   ·rw[List.map_cons];exact wMa _ i1
   ·rw[List.map_cons]at h⊢;rcases List.mem_cons.mp h with e | e
    ·exact List.mem_cons.mpr (.inl e)
    ·exact wMa _ (i2 g e)
theorem Uf(f:Str)(v:V):∀fs:List (Str×V),(yS f v fs).length<=fs.length+1
 | []=>by simp[yS]
 | (k,x)::r=>by
  have ih:=Uf f v r;rw[show yS f v ((k,x)::r)=(if k=f then(k,v)::r else(k,x)::yS f v r) from rfl];by_cases hk:k=f
  ·rw[if_pos hk,List.length_cons,List.length_cons];omega
  ·rw[if_neg hk,List.length_cons,List.length_cons];omega
theorem vm.some_of{v:V}{o:Option Value}(r:vm (some v) o):∃u,o=some u/\jt v u:=by
 cases o with
 | none=>exact(show False from r).elim
 | some u=>exact⟨u,rfl,r⟩
theorem vm.none_of{o:Option Value}(r:vm none o):o=none:=by
 cases o with
 | none=>rfl
 | some u=>exact(show False from r).elim
theorem QF{v:V}{u:Value}(r:jt v u):PySem.W.handedIn u=true:=by
 cases v with
 | non=>cases (show u=Value.none from r);rfl
 | bl b=>cases (show u=Value.bool b from r);rfl
 | int i=>obtain⟨t,e⟩:=(show∃t,u=Value.int i t from r);cases e;rfl
 | str x=>obtain⟨t,e⟩:=(show∃t,u=Value.str x t from r);cases e;rfl
 | byt b=>obtain⟨t,e⟩:=(show∃t,u=Value.bytes b t from r);cases e;rfl
 | flt b=>obtain⟨t,e⟩:=(show∃t,u=Value.float b t from r);cases e;rfl
 | ref a=>cases (show u=Value.ref a from r);rfl
 | ty n=>cases (show u=Value.type n from r);rfl
section
variable {P:Program} {w:World} {H H':Hp} {h h':Heap} {a C dx:Addr} {fs fs':List (Str×V)}
theorem Gs(hok:ym P w H h)(e:H a=some (.ins C dx fs)):∃mA,ObjM h a dx C mA/\(∀f,vm (fs.lookup f) (mA f))/\PySem.Within mA (fs.map (·.1))/\fs.length<=1000/\H dx=some (.own a):=by
 obtain⟨d,z,ne,ob,mA,n,r,q⟩:=(show ya P w H h a (.ins C dx fs) from hok a _ e)
 exact⟨mA,⟨ob,n,ne⟩,r,q,z,d⟩
end
structure Cls (K:PySem.W.Frag) (C:Addr):Prop where
 pg:PySem.W.plainGet K C Str.empty=true
 hd:PySem.W.hasDictIn K C=true
 po:PySem.W.plainOver K C=true
 sa:PySem.W.findIn K (.ref C) "__setattr__" = some (some (.builtin "object.__setattr__"))
theorem Cls.get{K:PySem.W.Frag}{C:Addr}(c:Cls K C)(f:Str):PySem.W.plainGet K C f=true:=c.pg
def Y4(K:PySem.W.Frag)(C:Addr)(f:Str):Prop:=PySem.W.findIn K (.ref C) f=some none
theorem Y4.taker{K:PySem.W.Frag}{C:Addr}{f:Str}(n:Y4 K C f):PySem.W.takerIn K C f=some none:=by
 unfold PySem.W.takerIn;rw[show PySem.W.findIn K (.ref C) f=some none from n];rfl
structure Meth (K:PySem.W.Frag) (C:Addr) (m:Str) (f:Addr):Prop where
 at_:PySem.W.findIn K (.ref C) m=some (some (.ref f))
 fn:PySem.W.isFn K (.ref f)=true
 kp:PySem.W.keepIn K (.ref f)=true
section
variable {X:Cx} {pins:List (Addr×Obj)} {σ:St} {H:Hp} {s:Shared} {a C dx:Addr} {fs:List (Str×V)} {f:Str} {v:V} {A:Around} {E:Value->Shared->Prop}
theorem qR{b:Bool}{Q:Value->Shared->Prop}(I:Inv X pins σ H s)(e:H a=some (.ins C dx fs))(c:Cls X.K C)(n:Y4 X.K C f)(l:fs.lookup f=some v)
  (h:∀u s',Inv X pins σ H s'->jt v u->Q u s'):wpAny (model X.prog X.w) A (getAttr (.ref a) f b) Q E s:=by
 obtain⟨mA,O,r,_,_,_⟩:=Gs I.hok e;obtain⟨u,hu,ru⟩:=vm.some_of (v:=v) (o:=mA f) (by rw[<-l];exact r f);exact bz I.kIn O (c.get f) c.hd n hu (QF ru) (h u _ (I.tok _) ru)
theorem qS{m:Str}{g:Addr}{pl:Sem Bool}{Q:Value×List Value->Shared->Prop}(I:Inv X pins σ H s)(e:H a=some (.ins C dx fs))(c:Cls X.K C)(k:Meth X.K C m g)(l:fs.lookup m=none)
  (h:Q (.ref g,[.ref a]) s):wpAny (model X.prog X.w) A (getMethod (.ref a) m pl) Q E s:=by
 obtain⟨mA,O,r,_,_,_⟩:=Gs I.hok e;have hn:mA m=none:=vm.none_of (by rw[<-l];exact r m);exact Xz I.kIn O (c.get m) k.at_ k.fn hn h
theorem qT{y:V}{u:Value}{Q:Unit->Shared->Prop}(I:Inv X pins σ H s)(e:H a=some (.ins C dx fs))(c:Cls X.K C)(n:Y4 X.K C f)(hl:fs.length < 1000)(ry:jt y u)
  (h:∀s',Inv X pins σ (upd H a (.ins C dx (yS f y fs))) s'->Q () s'):wpAny (model X.prog X.w) A (setAttr (.ref a) f u) Q E s:=by
 obtain⟨mA,O,r,wi,_,ho⟩:=Gs I.hok e;have hz:(fs.map (·.1)).length<=sizeLine:=by rw[List.length_map,sizeLine_eq];omega
 refine bA I.kIn O c.sa c.po n.taker c.hd wi hz fun h' O' sb=>h _ ?_;have hd:∃o,h'.get? dx=some o:=let ⟨o,_,_,e',_⟩:=O'.ns;⟨o,e'⟩
 refine I.write (x:=a) (e:=dx) (by rw[e];exact True.intro) (.inr ho) (fun b q hb z=>(sb.2 b hb).trans z) hd ?_;refine⟨by rw[jo O.ne];exact ho,?_,O.ne,O'.obj,_,O'.ns,fun g=>?_,fun g hg=>?_⟩
 ·have:=Uf f y fs;omega
 ·show vm ((yS f y fs).lookup g) (if g=f then some u else mA g);rw[Ue];by_cases q:g=f
  ·rw[if_pos q,if_pos q];exact ry
  ·rw[if_neg q,if_neg q];exact r g
 ·by_cases q:g=f
  ·rw[q];exact(ua f y fs).1
  ·refine(ua f y fs).2 g (wi g fun z=>hg ?_);show(if g=f then some u else mA g)=none;rw[if_neg q];exact z
theorem Inv.made(I:Inv X pins σ H s):Inv X pins σ (upd (upd H s.heap.objs.size (.own (s.heap.objs.size+1))) (s.heap.objs.size+1) (.ins C s.heap.objs.size []))
  { s with heap:=(s.heap.push PySem.W.emptyDict).push (PySem.W.instObj C s.heap.objs.size) }:=by
 have e1:(s.heap.push PySem.W.emptyDict).get? s.heap.objs.size=some PySem.W.emptyDict:=wJa s.heap rfl;have e2:((s.heap.push PySem.W.emptyDict).push (PySem.W.instObj C s.heap.objs.size)).get? (s.heap.objs.size+1)=some (PySem.W.instObj C s.heap.objs.size):=by
  have:=wJa (s.heap.push PySem.W.emptyDict) (o:=PySem.W.instObj C s.heap.objs.size) rfl;rwa [Heap.size_push]at this
 have e3:(s.heap.push PySem.W.emptyDict).Ns s.heap.objs.size (fun _=>none):=⟨PySem.W.emptyDict,#[],_,e1,rfl,(fun e he=>vDa he (by simp)),fun _=>rfl⟩
 have I1:=I.laid (a:=s.heap.objs.size) (o:=.own (s.heap.objs.size+1)) (h':=s.heap.push PySem.W.emptyDict) (t':=s.toks) (fun b u q=>wIa _ q) (wPa _) ⟨_,e1⟩;refine I1.laid (a:=s.heap.objs.size+1) (o:=.ins C s.heap.objs.size []) (t':=s.toks) (fun b u q=>wIa _ q) (Nat.le_of_eq (Heap.size_push _ _)) ?_;have ne:s.heap.objs.size≠s.heap.objs.size+1:=wTa (Nat.lt_succ_self _);refine⟨by rw[jo ne,jH],Nat.zero_le _,ne,e2,fun _=>none,(Heap.Ns1.of_empty e3).at fun o q=>wIa _ q,fun _=>True.intro,fun y hy=>vDa rfl hy⟩
theorem Gu{prog:Program}{w:World}{env:Env}{e:Expr}{f:Str}{pos:Pos}{s:Shared}{Q:Value->Shared->Prop}(hb:attributeBase e f env (eval e env)=eval e env)
  (h:wpAny (model prog w) A (eval e env) (fun o s₁=>wpAny (model prog w) A (getAttr o f true) Q E s₁) E s):wpAny (model prog w) A (eval (.Attribute e f pos) env) Q E s:=
 Attribute_any_ h (by rw[arm_eval_Attribute,hb])
end
def Hk(K:PySem.W.Frag)(ta:TE)(f:Str):TE:=fun σ H Q=>ta σ H fun x H1=>∃a C dx fs v,x=.ref a/\H1 a=some (.ins C dx fs)/\Cls K C/\Y4 K C f/\fs.lookup f=some v/\Q v H1
def cD(K:PySem.W.Frag)(ta tv:TE)(f:Str):TS:=fun D σ H=>tv σ H fun y H1=>ta σ H1 fun x H2=>∃a C dx fs,x=.ref a/\H2 a=some (.ins C dx fs)/\Cls K C/\Y4 K C f/\fs.length < 1000/\
 D.nx σ (upd H2 a (.ins C dx (yS f y fs)))
section
variable {X:Cx} {o e value:Expr} {f:Str} {pos pos' tpos:Pos} {ta tv:TE}
theorem cH(he:PE X e ta)(hb:attributeBase e f X.env (eval e X.env)=eval e X.env):PE X (.Attribute e f pos) (Hk X.K ta f):=by
 intro pins s σ H Q I h;refine Gu hb (jv (he pins s σ H _ I h) fun u s1 xx=>?_);obtain⟨x,H1,I1,rx,a,C,dx,fs,v,ex,ea,c,n,l,q⟩:=xx;subst ex;obtain rfl:u=Value.ref a:=rx;exact qR I1 ea c n l fun u' s2 I2 ru=>⟨v,H1,I2,ru,q⟩
theorem cJ(ha:PE X o ta)(hv:PE X value tv)(hs:swapsWith value (some (.Attribute o f pos')) pos.line X.env=pure false):PS X (.Assign [.Attribute o f pos'] value pos) (cD X.K ta tv f):=by
 intro pins s σ H D I h;refine plainObj_wpAny_Assign_Attribute (jv (hv pins s σ H _ I h) fun u s1 ⟨y,H1,I1,ry,q⟩=>jv (ha pins s1 σ H1 _ I1 q) fun ov s2 xx=>?_) hs;obtain⟨x,H2,I2,rx,a,C,dx,fs,ex,ea,c,n,l,q2⟩:=xx;subst ex;obtain rfl:ov=Value.ref a:=rx;exact qT I2 ea c n l ry fun s3 I3=>⟨σ,_,I3,q2⟩
end
structure Room (k:Nat) (A:Around):Prop where
 hd:A.handled=none
 dp:A.depth+3 * k+5 < recursionLimit
 un:A.units+16 * k+200 < cLine
theorem Room.mono{j k:Nat}{A:Around}(r:Room k A)(h:j<=k):Room j A:=⟨r.hd,by have:=r.dp;omega,by have:=r.un;omega⟩
theorem Room.deeper{k:Nat}{A:Around}(r:Room (k+1) A)(env:Env):Room k (A.deeper env):=
 ⟨r.hd,by have:=r.dp;show A.depth+1+3 * k+5 < _;omega,by have:=r.un;show A.units+3+16 * k+200 < _;omega⟩
theorem qU{A:Around}{C:Addr}{us:List Value}{kw:List (Str×Value)}:(A.under (.builtin "type.__call__" ⟨.ref C::us,kw⟩)).depth=A.depth+1:=by
 first | rfl | simp[Around.under,Code.weight,Code.isCreation,Code.isGuard,Code.isCaller,Code.frames,Code.isFrame,guardIds]
theorem qV{A:Around}{C:Addr}{us:List Value}{kw:List (Str×Value)}:(A.under (.builtin "type.__call__" ⟨.ref C::us,kw⟩)).units=A.units+1:=by
 first | rfl | simp[Around.under,Code.cUnits,Code.frames,Code.isFrame]
theorem Room.make{k:Nat}{A:Around}(r:Room (k+1) A)(C:Addr)(us:List Value)(kw:List (Str×Value)):Room k (A.under (.builtin "type.__call__" ⟨.ref C::us,kw⟩)):=
 ⟨r.hd,by have:=r.dp;rw[qU];omega,by have:=r.un;rw[qV];omega⟩
theorem Room.depth{k:Nat}{A:Around}(r:Room k A):A.depth < recursionLimit:=by have:=r.dp;omega
theorem Room.units{k:Nat}{A:Around}(r:Room k A):A.units+64 < cLine:=by have:=r.un;omega
def zW:TA:=fun _ H Q=>Q [] H
def yb(ta:TE)(tr:TA):TA:=fun σ H Q=>ta σ H fun x H1=>tr σ H1 fun xs H2=>Q (x::xs) H2
section
variable {X:Cx} {e:Expr} {es:List Expr} {te:TE} {t:TA} {pos:Pos}
theorem yn:PA X [] zW:=fun _ _ _ _ H Q I h=>Calls.spliced_nil ⟨[],H,I,.nil,h⟩
theorem j_(ha:PE X e te)(hr:PA X es t)(hs:starEach (e::es) X.env=(false,eval e X.env)::starEach es X.env:=by rfl):PA X (e::es) (yb te t):=by
 intro pos pins s σ H Q I h;rw[hs];show wpAny _ _ (spliced ((false,eval e X.env)::backTo pos (starEach es X.env))) _ _ s;refine Calls.spliced_cons (jv (ha pins s σ H _ I h) fun u s1 xx=>?_);obtain⟨x,H1,I1,r1,q1⟩:=xx;exact jv (hr pos pins s1 σ H1 _ I1 q1) fun us s2 ⟨xs,H2,I2,r2,q2⟩=>⟨x::xs,H2,I2,.cons r1 r2,q2⟩
def Hl(t:TA):TE:=fun σ H Q=>t σ H fun xs H1=>xs.length<=sizeLine/\∀p,H1 p=none->Q (.ref p) (upd H1 p (.tup xs))
def cK(t:TA):TE:=fun σ H Q=>t σ H fun xs H1=>xs.length<=sizeLine/\∀p,H1 p=none->Q (.ref p) (upd H1 p (.lst xs))
theorem cL{x1}(h:PA X es t):PE X (.Tuple es x1 pos) (Hl t):=by
 intro pins s σ H Q I hq;refine wpAny_Tuple_spliced (jv (h pos pins s σ H _ I hq) fun us s1 ⟨xs,H1,I1,r,z,q⟩=>⟨by rw[<-r.length];exact z,?_⟩);have hf:H1 s1.heap.objs.size=none:=I1.hok.fresh (wPa _);refine⟨.ref s1.heap.objs.size,upd H1 s1.heap.objs.size (.tup xs),I1.laid (t':=s1.toks) (fun b u e=>wIa _ e) (wPa _) ?_,rfl,q _ hf⟩;exact⟨z,us,r,⟨_,wJa _ rfl,rfl,_,rfl⟩⟩
theorem QG(h:PA X es t):PE X (.List es pos) (cK t):=by
 intro pins s σ H Q I hq;refine wpAny_List_spliced (jv (h pos pins s σ H _ I hq) fun us s1 ⟨xs,H1,I1,r,z,q⟩=>⟨by rw[<-r.length];exact z,?_⟩);have hf:H1 s1.heap.objs.size=none:=I1.hok.fresh (wPa _);refine⟨.ref s1.heap.objs.size,upd H1 s1.heap.objs.size (.lst xs),I1.laid (t':=s1.toks) (fun b u e=>wIa _ e) (wPa _) ?_,rfl,q _ hf⟩;exact⟨z,us,0,r,wJa _ rfl⟩
end
noncomputable abbrev Sp:=List V->Hp->VK->XK->Prop
noncomputable abbrev ub:=List Env->Hp->Shared->XK->Value->Shared->Prop
structure Env0 (P:Program) (w:World) (K:PySem.W.Frag) (mg:Str->Option Value) (base:Heap) (A:Around) (outer:List Env) (s:Shared) (H:Hp):Prop where
 frames:A.frames=some outer
 mod:Mod K mg base
 bs:∀b o,base.get? b=some o->s.heap.get? b=some o/\H b=none
 bsz:base.objs.size<=s.heap.objs.size
 funs:s.heap.FunFrames base outer
 frf:∀b∈vU outer,H b=none
 hok:ym P w H s.heap
 bare:AllBare s.gens
def CE(outer:List Env)(P:Program)(w:World)(H:Hp)(s:Shared)(Q:VK)(u:Value)(s':Shared):Prop:=
 ∃v H',s'.os=s.os/\AllBare s'.gens/\Un (vU outer) [] H H' s.heap s'.heap/\ym P w H' s'.heap/\jt v u/\Q v H'
def CR(CX:ub)(outer:List Env)(P:Program)(w:World)(H:Hp)(s:Shared)(Q:VK)(E:XK)(r:Result)(s':Shared):Prop:=
 match r with
 | .ok (.ret u)=>CE outer P w H s Q u s'
 | .ok _=>False
 | .error e=>CX outer H s E e s'
structure FnOk (P:Program) (w:World) (K:PySem.W.Frag) (mg:Str->Option Value) (base:Heap) (CX:ub) (k:Nat) (f:Addr) (fd:FuncData) (ps:List Str) (sp:Sp):Prop where
 len:∀vs H Q E,sp vs H Q E->vs.length=ps.length
 run:∀(A:Around) (outer:List Env) (s:Shared) (H:Hp) (args:Args) (us:List Value) (vs:List V) (Q:VK) (E:XK),Room k A->Env0 P w K mg base A outer s H->BindsTo s fd args (ps.zip us)->jh vs us->sp vs H Q E->
  codeAny (model P w) A (.call (.ref f) args) (CR CX outer P w H s Q E) s
theorem FnOk.imp{P:Program}{w:World}{K:PySem.W.Frag}{mg:Str->Option Value}{base:Heap}{CX:ub}{k:Nat}{f:Addr}{fd:FuncData}{ps:List Str}{sp sp':Sp}(F:FnOk P w K mg base CX k f fd ps sp)
  (h:∀vs H Q E,sp' vs H Q E->sp vs H Q E):FnOk P w K mg base CX k f fd ps sp':=
 ⟨fun vs H Q E q=>F.len vs H Q E (h _ _ _ _ q),fun A outer s H args us vs Q E hr he hb hv hs=>F.run A outer s H args us vs Q E hr he hb hv (h _ _ _ _ hs)⟩
theorem Env0.make{P:Program}{w:World}{K:PySem.W.Frag}{mg:Str->Option Value}{base:Heap}{A:Around}{outer:List Env}{s:Shared}{H:Hp}(e:Env0 P w K mg base A outer s H)(C:Addr)(us:List Value)(kw:List (Str×Value)):
  Env0 P w K mg base (A.under (.builtin "type.__call__" ⟨.ref C::us,kw⟩)) outer s H:=⟨by first | exact e.frames | (simpa[Around.under,Code.envs,Code.isFrame,pushEnvs]using e.frames),e.mod,e.bs,e.bsz,e.funs,e.frf,e.hok,e.bare⟩
section
variable {X:Cx} {pins:List (Addr×Obj)} {σ:St} {H:Hp} {s s':Shared}
theorem Inv.env0(I:Inv X pins σ H s):Env0 X.prog X.w X.K X.mg X.base X.A X.stack s H:=
 ⟨I.ok.frames,I.ok.mod,I.bs,wSa I.ok.bsz I.sz,I.stack,I.stkFree,I.hok,I.bare⟩
theorem Inv.after{Q:VK}{u:Value}(I:Inv X pins σ H s)(h:CE X.stack X.prog X.w H s Q u s'):EP X pins σ Q u s':=by
 obtain⟨v,H',os,bare,un,hok,r,q⟩:=h;obtain⟨hh,g,d,t,os'⟩:=s';obtain rfl:os'=s.os:=os;exact⟨v,H',I.call (h':=hh) (g':=g) (d':=d) (t':=t) (ch:=[]) un hok bare (fun b z=>vDa z (by simp)),r,q⟩
end
def qW(sp:Sp)(dvs:List V)(E:XK)(t:TA):TE:=fun σ H Q=>t σ H fun vs H1=>sp (vs++dvs) H1 Q E
def Ad(C:Addr)(m:Str)(sp:Sp)(dvs:List V)(E:XK)(ta:TE)(t:TA):TE:=fun σ H Q=>ta σ H fun x H1=>∃a dx fs,x=.ref a/\H1 a=some (.ins C dx fs)/\fs.lookup m=none/\
 t σ H1 fun vs H2=>sp (x::(vs++dvs)) H2 Q E
def Ae(C:Addr)(sp:Sp)(dvs:List V)(E:XK)(t:TA):TE:=fun σ H Q=>t σ H fun vs H1=>∀x dx,H1 x=none->H1 dx=none->dx≠x->
 sp (.ref x::(vs++dvs)) (upd (upd H1 dx (.own x)) x (.ins C dx [])) (fun v H2=>v=.non/\Q (.ref x) H2) E
def YS(K:PySem.W.Frag)(fd:FuncData)(ps:List Str)(ds:List Value):Prop:=
 ∀(s:Shared) (us:List Value),K.In s.heap->(us++ds).length=ps.length->BindsTo s fd ⟨us,[]⟩ (ps.zip (us++ds))
theorem YS.all{K:PySem.W.Frag}{fd:FuncData}{ps:List Str}(h:∀us:List Value,us.length=ps.length->bindArgs fd ⟨us,[]⟩=pure (ps.zip us)):YS K fd ps []:=fun s us _ hl=>by
 rw[List.append_nil]at hl⊢;exact .of_eq (h us hl)
def vY(CX:ub)(X:Cx)(E:XK):Prop:=∀(pins:List (Addr×Obj)) (σ:St) (H:Hp) (s:Shared) (e:Value) (s':Shared),Inv X pins σ H s->CX X.stack H s E e s'->X.xe e s'
section
variable {X:Cx} {CX:ub} {k:Nat} {f C:Addr} {fd:FuncData} {ps:List Str} {sp:Sp} {dvs:List V} {ds:List Value} {E:XK} {x m:Str} {p pos apos:Pos} {e o:Expr} {es:List Expr} {ta:TE} {t:TA}
theorem QH{pins:List (Addr×Obj)}{σ:St}{H:Hp}{s:Shared}{Q:VK}{us:List Value}{vs:List V}(F:FnOk X.prog X.w X.K X.mg X.base CX k f fd ps sp)(hr:Room k X.A)(hb:YS X.K fd ps ds)(hd:jh dvs ds)(hx:vY CX X E)
  (I:Inv X pins σ H s) (r:jh vs us) (h:sp (vs++dvs) H Q E):wpAny (model X.prog X.w) X.A (call (.ref f) us) (EP X pins σ Q) X.xe s:=by
 have r2:jh (vs++dvs) (us++ds):=r.append hd;have hl:(us++ds).length=ps.length:=by rw[<-r2.length];exact F.len _ _ _ _ h
 refine wpAny_call (codeAny_mono (F.run X.A X.stack s H ⟨us,[]⟩ (us++ds) (vs++dvs) Q E hr I.env0 (hb s us I.kIn hl) r2 h) fun r s' hq=>?_);cases r with
 | error e=>exact hx pins σ H s e s' I hq
 | ok fl=>
  cases fl with
  | ret u=>exact I.after hq
  | next=>exact False.elim hq
  | brk=>exact False.elim hq
  | cont=>exact False.elim hq
theorem bB(F:FnOk X.prog X.w X.K X.mg X.base CX k f fd ps sp)(hr:Room k X.A)(hg:Gl X x)(hm:X.mg x=some (.ref f))(hk:PySem.W.keepIn X.K (.ref f)=true)(hb:YS X.K fd ps ds)(hd:jh dvs ds)(hx:vY CX X E)
  (ha:PA X (e::es) t) (hdb:(x==("__debug__" : Str))=false:=by decide) (he:starEach (e::es) X.env=(false,eval e X.env)::starEach es X.env:=by rfl) (hpl:(backTo pos (starEach es X.env)).any (·.1)=false:=by rfl):
  PE X (.Call (.Name x p) (e::es) [] pos) (qW sp dvs E t):=by
 intro pins s σ H Q I h;refine wpAny_Call_Name_kw (Gq I hg hm ?_ hdb);refine PySem.W.callWith_K (h₀:=X.base) I.ok.mod.kin hk (jv (ha pos pins s σ H _ I h) fun us s1 ⟨vs,H1,I1,r,q⟩=>⟨I1.kIn,?_⟩) he hpl;exact QH F hr hb hd hx I1 r q
theorem XB{pl:Sem Bool}(he:PE X o ta)(c:Cls X.K C)(hm:Meth X.K C m f)(F:FnOk X.prog X.w X.K X.mg X.base CX k f fd ps sp)(hr:Room k X.A)(hb:YS X.K fd ps ds)(hd:jh dvs ds)(hx:vY CX X E)
  (ht:eval (.Call (.Attribute o m apos) [] [] pos) X.env=(do
   let ov<-eval o X.env
   standAt apos.atName
   let (f,first)<-holding [ov] (getMethod ov m pl)
   callWith pos f first (backTo pos (starEach [] X.env)) (backToKw pos (keywordEach [] X.env))):=by rfl):
  PE X (.Call (.Attribute o m apos) [] [] pos) (Ad C m sp dvs E ta zW):=by
 intro pins s σ H Q I h;refine PySem.W.methodCall_KW (pl:=pl) (jv (he pins s σ H _ I h) fun u s1 xx=>?_) ht;obtain⟨x,H1,I1,rx,a,dx,fs,ex,ea,l,q⟩:=xx;subst ex;obtain rfl:u=Value.ref a:=rx;refine qS I1 ea c hm l ?_;exact PySem.W.callWith_K0 (first:=[.ref a]) I1.kIn hm.kp (QH (us:=[.ref a]) (vs:=[.ref a]) F hr hb hd hx I1 (.cons rfl .nil) q)
structure Mk (K:PySem.W.Frag) (C f:Addr):Prop where
 makes:PySem.W.makesIn K C=true
 init:PySem.W.findIn K (.ref C) "__init__" = some (some (.ref f))
 fn:PySem.W.isFn K (.ref f)=true
 kp:PySem.W.keepIn K (.ref C)=true
theorem XC{pins:List (Addr×Obj)}{σ:St}{H:Hp}{s:Shared}{Q:VK}{us:List Value}{vs:List V}(M:Mk X.K C f)(F:FnOk X.prog X.w X.K X.mg X.base CX k f fd ps sp)(hr:Room (k+1) X.A)(hb:YS X.K fd ps ds)(hd:jh dvs ds)
  (hx:vY CX X E) (I:Inv X pins σ H s) (r:jh vs us)
  (h:∀x dx,H x=none->H dx=none->dx≠x->sp (.ref x::(vs++dvs)) (upd (upd H dx (.own x)) x (.ins C dx [])) (fun v H2=>v=.non/\Q (.ref x) H2) E):
  wpAny (model X.prog X.w) X.A (call (.ref C) us) (EP X pins σ Q) X.xe s:=by
 have hq:=h (s.heap.objs.size+1) s.heap.objs.size (I.hok.fresh (vMa _)) (I.hok.fresh (wPa _)) (wTa (Nat.lt_succ_self _));have I2:=Inv.made (C:=C) I;have r2:jh (V.ref (s.heap.objs.size+1)::(vs++dvs)) (Value.ref (s.heap.objs.size+1)::(us++ds)):=.cons rfl (r.append hd);have hl:(Value.ref (s.heap.objs.size+1)::us++ds).length=ps.length:=by
  have e:=r2.length;rw[F.len _ _ _ _ hq]at e;exact e.symm
 refine wpAny_call (XA (f:=f) I.kIn M.makes M.init (beq_iff_eq.mp M.fn) (codeAny_mono (F.run _ X.stack _ _ ⟨Value.ref (s.heap.objs.size+1)::us,[]⟩ (Value.ref (s.heap.objs.size+1)::(us++ds)) _ _ E (hr.make C us [])
  (I2.env0.make C us []) (hb _ (Value.ref (s.heap.objs.size+1)::us) I2.kIn hl) r2 hq) fun r s' hq'=>?_))
 cases r with
 | error e=>exact hx pins σ _ _ e s' I2 hq'
 | ok fl=>
  cases fl with
  | ret u=>
   obtain⟨v,H',I3,rv,ev,q3⟩:=I2.after hq';subst ev;exact⟨rv,⟨V.ref (s.heap.objs.size+1),H',I3,rfl,q3⟩⟩
  | next=>exact False.elim hq'
  | brk=>exact False.elim hq'
  | cont=>exact False.elim hq'
theorem bC(M:Mk X.K C f)(F:FnOk X.prog X.w X.K X.mg X.base CX k f fd ps sp)(hr:Room (k+1) X.A)(hg:Gl X x)(hm:X.mg x=some (.ref C))(hb:YS X.K fd ps ds)(hd:jh dvs ds)(hx:vY CX X E)
  (ha:PA X (e::es) t) (hdb:(x==("__debug__" : Str))=false:=by decide) (he:starEach (e::es) X.env=(false,eval e X.env)::starEach es X.env:=by rfl) (hpl:(backTo pos (starEach es X.env)).any (·.1)=false:=by rfl):
  PE X (.Call (.Name x p) (e::es) [] pos) (Ae C sp dvs E t):=by
 intro pins s σ H Q I h;refine wpAny_Call_Name_kw (Gq I hg hm ?_ hdb);refine PySem.W.callWith_K (h₀:=X.base) I.ok.mod.kin M.kp (jv (ha pos pins s σ H _ I h) fun us s1 ⟨vs,H1,I1,r,q⟩=>⟨I1.kIn,?_⟩) he hpl;exact XC M F hr hb hd hx I1 r q
end
structure FnScope (N P:List Str) (sc:Scope):Prop where
 kind:sc.kind=.function
 co:sc.isCoroutine=false
 gen:sc.isGenerator=false
 nd:N.Nodup
 pre:N.take P.length=P
 par:∀x∈P,sc.names.lookup x=some .local∨sc.names.lookup x=some .cell
 nofree:∀y∈sc.names,y.2≠.free
theorem ke{kindOf:Str->Option NameKind}{x:Str}:∀{binds:List (Str×Value)} {m:Str->Option Value},(∀v,(x,v)∉binds)->bindL kindOf binds m x=m x
 | [],_,_=>rfl
 | (n,v)::r,m,h=>by
  unfold bindL;rw[ke fun w hw=>h w (List.mem_cons_of_mem _ hw)];split
  ·have:x≠n:=by rintro rfl;exact h v wNa
   simp[this]
  ·rfl
theorem kg{kindOf:Str->Option NameKind}{x:Str}:∀{binds:List (Str×Value)} {m:Str->Option Value},(∀v,(x,v)∉binds)->bindC kindOf binds m x=m x
 | [],_,_=>rfl
 | (n,v)::r,m,h=>by
  unfold bindC;rw[kg fun w hw=>h w (List.mem_cons_of_mem _ hw)];split
  ·rfl
  ·have:x≠n:=by rintro rfl;exact h v wNa
   simp[this]
theorem kh{kindOf:Str->Option NameKind}{x:Str}{v:Value}:∀{P:List Str} {vs:List Value} {i:Nat} {m:Str->Option Value},P.Nodup->P[i]?=some x->vs[i]?=some v->kindOf x=some .local->
  bindL kindOf (P.zip vs) m x=some v
 | [],_,_,_,_,h,_,_=>by simp at h
 | _::_,[],_,_,_,_,h,_=>by simp at h
 | p::P,w::vs,0,m,nd,h1,h2,hk=>by
  simp at h1 h2;subst h1;subst h2;show bindL kindOf ((p,w)::P.zip vs) m p=_;unfold bindL;rw[ke fun v hv=>(List.nodup_cons.mp nd).1 (List.of_mem_zip hv).1,if_pos hk];simp
 | p::P,w::vs,i+1,m,nd,h1,h2,hk=>by
  show bindL kindOf ((p,w)::P.zip vs) m x=_;unfold bindL;exact kh (i:=i) (List.nodup_cons.mp nd).2 (by simpa using h1) (by simpa using h2) hk
theorem ki{kindOf:Str->Option NameKind}{x:Str}{v:Value}:∀{P:List Str} {vs:List Value} {i:Nat} {m:Str->Option Value},P.Nodup->P[i]?=some x->vs[i]?=some v->kindOf x≠some .local->
  bindC kindOf (P.zip vs) m x=some v
 | [],_,_,_,_,h,_,_=>by simp at h
 | _::_,[],_,_,_,_,h,_=>by simp at h
 | p::P,w::vs,0,m,nd,h1,h2,hk=>by
  simp at h1 h2;subst h1;subst h2;show bindC kindOf ((p,w)::P.zip vs) m p=_;unfold bindC;rw[kg fun v hv=>(List.nodup_cons.mp nd).1 (List.of_mem_zip hv).1,if_neg hk];simp
 | p::P,w::vs,i+1,m,nd,h1,h2,hk=>by
  show bindC kindOf ((p,w)::P.zip vs) m x=_;unfold bindC;exact ki (i:=i) (List.nodup_cons.mp nd).2 (by simpa using h1) (by simpa using h2) hk
noncomputable def YC(N:List Str)(vs:List V):St:=vs.map some++List.replicate (N.length - vs.length) none
noncomputable def zX(CX:ub)(P:Program)(w:World)(K:PySem.W.Frag)(mg:Str->Option Value)(base:Heap)(N:List Str)(qual:Str)(scope:Scope)(f:Addr)(cd:Value)(A:Around)(outer:List Env)(s:Shared)(H:Hp)(E:XK):Cx where
 prog:=P
 w:=w
 K:=K
 mg:=mg
 base:=base
 A:=A.deeper (envOfC qual scope s.heap.objs.size f cd)
 N:=N
 s₀:=s
 H₀:=H
 env:=envOfC qual scope s.heap.objs.size f cd
 outer:=outer
 stack:=envOfC qual scope s.heap.objs.size f cd::outer
 ex:=[]
 calm:=true
 fn:=fun _=>true
 pn:=[]
 xe:=fun e s'=>wpAny (model P w) (A.deeper (envOfC qual scope s.heap.objs.size f cd)) (leaving (envOfC qual scope s.heap.objs.size f cd) e) (fun _ s''=>CX outer H s E e s'') (fun e' s''=>CX outer H s E e' s'') s'
theorem Kz{sc:Scope}{n:Nat}{x:Str}(h:sc.names.lookup x=some .cell):∃c,(cellsFrom n sc.names []).lookup x=some c:=by
 have q:=PySem.W.cellsFrom_some sc.names n [] (.inl h);exact Option.isSome_iff_exists.mp q
theorem QI{CX:ub}{P:Program}{w:World}{K:PySem.W.Frag}{mg:Str->Option Value}{base:Heap}{N ps:List Str}{qual:Str}{scope:Scope}{f:Addr}{cd:Value}{A:Around}{outer:List Env}{s s1:Shared}{H:Hp}{E:XK}{us:List Value}{vs:List V}
  (S:FnScope N ps scope) (hd:A.handled=none) (e0:Env0 P w K mg base A outer s H) (hl:vs.length=ps.length) (r:jh vs us)
  (x:InCallC s s.heap.objs.size (bindL (envOfC qual scope s.heap.objs.size f cd).kindOf (ps.zip us) fun _=>none) (cellsFrom (s.heap.objs.size+1) scope.names []) (bindC (envOfC qual scope s.heap.objs.size f cd).kindOf (ps.zip us) fun _=>none) s1):
  Inv (zX CX P w K mg base N qual scope f cd A outer s H E) [] (YC N vs) H s1:=by
 have hpl:ps.length<=N.length:=by have:=congrArg List.length S.pre;rw[List.length_take]at this;omega
 obtain⟨h1,tk,rfl,hk⟩:=x.done;have noA:∀b:Addr,b∉(zX CX P w K mg base N qual scope f cd A outer s H E).ex:=fun b z=>vDa (show b∈([]:List Addr) from z) (by simp);refine⟨⟨e0.mod,S.kind,rfl,rfl,wPa _,fun y z c h1 h2=>?_,fun y hy=>?_,fun y c _ h=>?_,fun _=>hd,Around.frames_deeper e0.frames,.inr ⟨rfl,rfl⟩,fun b z=>vDa z (noA b),e0.bs,e0.bsz,fun b _ _=>noA b,fun b z=>vDa z (noA b),e0.funs,e0.frf⟩,
  rfl,e0.bare,Un.kept hk,⟨_,x.toInCall.ns,fun i y v h1 h2 h3=>?_⟩,fun y c h=>⟨_,x.cell y c h⟩,e0.hok.fresh (wPa _),fun y c h=>?_,fun p hp=>vDa (show p∈([]:List (Addr×Obj)) from hp) (by simp),e0.hok.kept hk,?_⟩
 ·exact name_of_addr x.apart (PySem.mem_of_lookup h1) (PySem.mem_of_lookup h2)
 ·have hy:scope.names.lookup y=some .cell∨scope.names.lookup y=some .free:=hy;rcases hy with hy | hy
  ·exact Kz hy
  ·exact vDa rfl (S.nofree _ (PySem.mem_of_lookup hy))
 ·exact wQa (x.above y c (PySem.mem_of_lookup h))
 ·have hi:i < vs.length:=by
   unfold YC at h2;by_cases hi:i < vs.length
   ·exact hi
   ·rw[List.getElem?_append_right (by simpa using hi)]at h2;rw[List.getElem?_replicate]at h2;split at h2 <;> cases h2
  have ha:vs[i]?=some v:=by
   unfold YC at h2;rw[List.getElem?_append_left (by simpa using hi),List.getElem?_map]at h2;cases e:vs[i]? with
   | none=>rw[e]at h2;cases h2
   | some a=>rw[e]at h2;cases h2;rfl
  obtain⟨u,hu,rv⟩:=r.get ha;have hp:ps[i]?=some y:=by
   rw[<-S.pre,List.getElem?_take_of_lt (by omega)];exact h1
  have ndP:ps.Nodup:=by rw[<-S.pre];exact S.nd.sublist (List.take_sublist _ _)
  refine⟨u,rv,?_⟩;rcases S.par y (wYa hp)with k | k
  ·exact .inl ⟨k,kh ndP hp hu k⟩
  ·obtain⟨c,e⟩:=Kz (n:=s.heap.objs.size+1) k;refine .inr ⟨.inl k,c,e,?_⟩;have q:=x.cell y c e;rw[ki ndP hp hu (by show scope.names.lookup y≠_;rw[k];decide)]at q;exact q
 ·exact e0.hok.fresh (wQa (x.above y c (PySem.mem_of_lookup h)))
 ·unfold YC;show _=N.length;rw[List.length_append,List.length_map,List.length_replicate];omega
theorem EA{CX:ub}{P:Program}{w:World}{K:PySem.W.Frag}{mg:Str->Option Value}{base:Heap}{k:Nat}{f:Addr}{name qual:Str}{params:Arguments}{body:List Stmt}{scope:Scope}{dV kV doc pm cdv ct oc:Value}{an od:Option Addr}
  {osl:Array (Option Value)} {N ps:List Str} {sp:Sp} (lk:K.lookup f=some ⟨oc,od,.func (PySem.W.fnOf name qual params body scope dV kV doc pm an cdv ct),osl⟩) (hcd:PySem.W.codeIn K cdv qual=true) (S:FnScope N ps scope)
  (len:∀vs H Q E,sp vs H Q E->vs.length=ps.length)
  (hbody:∀(A:Around) (outer:List Env) (s:Shared) (H:Hp) (vs:List V) (Q:VK) (E:XK),Room k (A.deeper (envOfC qual scope s.heap.objs.size f cdv))->sp vs H Q E->
   ∃t,Jc (zX CX P w K mg base N qual scope f cdv A outer s H E) body t/\t { nx:=fun _ H'=>Q .non H',rt:=Q } (YC N vs) H):
  FnOk P w K mg base CX (k+1) f (PySem.W.fnOf name qual params body scope dV kV doc pm an cdv ct) ps sp:=by
 refine⟨len,fun A outer s H args us vs Q E hr e0 hb r hsp=>?_⟩;have hl:=len _ _ _ _ hsp;have KX:K.In s.heap:=e0.mod.kin.keeps fun b o e=>(e0.bs b o e).1;have lim:s.heap.NoLimit:=e0.mod.nolimit.keeps fun b o e=>(e0.bs b o e).1;have hkind:∀y∈ps.zip us,scope.names.lookup y.1=some .local∨(scope.names.lookup y.1=some .cell/\((cellsFrom (s.heap.objs.size+1) scope.names []).lookup y.1).isSome=true):=fun⟨n,v⟩ hy=>by
  rcases S.par n (List.of_mem_zip hy).1 with q | q
  ·exact .inl q
  ·exact .inr ⟨q,PySem.W.cellsFrom_some _ _ _ (.inl q)⟩
 refine codeAny_call_function hr.depth (KX _ _ lk) rfl S.co S.gen rfl (PySem.W.codeRec_of KX hcd) (hb _ _ _ _ ?_);refine wpAny_newFunctionEnv_cells S.kind hkind fun env he s1 x=>?_;subst he;refine⟨lim.keeps x.toInCall.keep,codeAny_func ?_⟩;obtain⟨t,ht,hq⟩:=hbody A outer s H vs Q E (hr.deeper _) hsp;have I:Inv (zX CX P w K mg base N qual scope f cdv A outer s H E) [] (YC N vs) H s1:=QI S hr.hd e0 hl r x;refine wCa (ht [] s1 (YC N vs) H _ I hq) (fun fl s' hs=>?_) fun e s' hs=>hs;have fin:∀{σ':St} {H':Hp} {v:V} {u:Value},Inv (zX CX P w K mg base N qual scope f cdv A outer s H E) [] σ' H' s'->jt v u->Q v H'->CE outer P w H s Q u s':=
  fun {σ' H' v u} J rv q=>⟨v,H',J.os,J.bare,J.base,J.hok,rv,q⟩
 cases fl with
 | ret u=>
  obtain⟨v,σ',H',J,rv,q⟩:=hs;exact fin J rv q
 | next=>
  obtain⟨σ',H',J,q⟩:=hs;exact fin (v:=V.non) (u:=Value.none) J rfl q
 | brk=>
  obtain⟨_,_,_,q⟩:=hs;exact False.elim q
 | cont=>
  obtain⟨_,_,_,q⟩:=hs;exact False.elim q
section
variable {X:Cx} {x:Str} {p pos:Pos} {e:Expr} {es:List Expr} {t:TA} {id T:String} {r:List V->Hp->VK->Prop}
def QJ(r:List V->Hp->VK->Prop)(t:TA):TE:=fun σ H Q=>t σ H fun vs H1=>r vs H1 Q
theorem Zx(hc:zB X (.builtin id) r)(hg:Gl X x)(hm:X.mg x=none)(hv:bootBuiltins x=some (.builtin id))(ha:PA X (e::es) t)(hn:x≠ "__name__" := by decide)(hdb:(x==("__debug__" : Str))=false:=by decide)
  (he:starEach (e::es) X.env=(false,eval e X.env)::starEach es X.env:=by rfl) (hpl:(backTo pos (starEach es X.env)).any (·.1)=false:=by rfl):PE X (.Call (.Name x p) (e::es) [] pos) (QJ r t):=by
 intro pins s σ H Q I h;refine wpAny_Call_Name_kw (Zv I hg hm hv ?_ hn hdb);exact PyProof.Rows.callWith_builtin1 (jv (ha pos pins s σ H _ I h) fun us s1 ⟨vs,H1,I1,r1,q1⟩=>hc pins s1 σ H1 vs us Q I1 r1 q1) he hpl
theorem uc(hc:zB X (.type T) r)(hg:Gl X x)(hm:X.mg x=none)(hv:bootBuiltins x=some (.type T))(ha:PA X (e::es) t)(hn:x≠ "__name__" := by decide)(hdb:(x==("__debug__" : Str))=false:=by decide)
  (he:starEach (e::es) X.env=(false,eval e X.env)::starEach es X.env:=by rfl) (hpl:(backTo pos (starEach es X.env)).any (·.1)=false:=by rfl):PE X (.Call (.Name x p) (e::es) [] pos) (QJ r t):=by
 intro pins s σ H Q I h;refine wpAny_Call_Name_kw (Zv I hg hm hv ?_ hn hdb);exact PyProof.Rows.callWith_type1 (jv (ha pos pins s σ H _ I h) fun us s1 ⟨vs,H1,I1,r1,q1⟩=>hc pins s1 σ H1 vs us Q I1 r1 q1) he hpl
end
end L2
namespace HT
open PySem PyProof.Rows
section
open PySem.SeqAt
open PySem.AutoSeq1 (wpAny_loadPart')
open PySem.MeetsSeq PySem.MeetsSeq2 PySem.MeetsSeq3
end
section
variable {prog:Program} {w:World} {A:Around} {E:Value->Shared->Prop} {s:Shared}
theorem cat_tup{t b:Addr}{vs ws:List Value}{Q:Value->Shared->Prop}(ht:IsTup s.heap t vs.toArray)(hb:IsTup s.heap b ws.toArray)(hv:vs≠[])
  (h1:ws=[]->Q (.ref t) s) (h2:ws≠[]->Q (.ref s.heap.objs.size) { s with heap:=s.heap.push { cls:=.type "tuple",data:=.seq (vs++ws).toArray } })
  (hsz:vs.length+ws.length<=sizeLine):wpAny (model prog w) A (binaryOp .Add (.ref t) (.ref b)) Q E s:=by
 obtain⟨⟨cls,dd,data,sl⟩,ho,hc,n,hd⟩:=id ht;obtain⟨⟨cls2,dd2,data2,sl2⟩,ho2,hc2,n2,hd2⟩:=id hb;simp only at hc hd hc2 hd2;subst hc hd hc2 hd2;have e:vs.toArray++ws.toArray=(vs++ws).toArray:=by simp
 by_cases hw:ws=[]
 ·exact concat_meets ⟨_,ho,rfl⟩ ⟨_,ho2,rfl⟩ noFill_tuple_add seq_tuple_add PySem.F.slot_tuple_add PySem.F.entry_tuple_add (PySem.F.args_tuple_add_2 _ _)
   (tuple_addW1 t b vs.toArray ws.toArray n n2 dd dd2 sl sl2 (by simpa using hv) (by simp[hw])) ⟨ho,ho2,h1 hw⟩
 ·refine concat_meets ⟨_,ho,rfl⟩ ⟨_,ho2,rfl⟩ noFill_tuple_add seq_tuple_add PySem.F.slot_tuple_add PySem.F.entry_tuple_add (PySem.F.args_tuple_add_2 _ _)
   (tuple_addW2 t b vs.toArray ws.toArray n n2 dd dd2 sl sl2 (by simpa using hv) (by simpa using hw) (by rw[List.size_toArray,List.size_toArray];exact hsz)) ⟨ho,ho2,?_⟩
  rw[e];exact h2 hw
noncomputable def sIx(n d:Nat):Option Int->Nat
 | none=>d
 | some v=>if v < 0 then(v+(n:Int)).toNat else min v.toNat n
theorem sIx_nat(n d k:Nat):sIx n d (some (k:Int))=min k n:=by
 show(if (k:Int) < 0 then((k:Int)+(n:Int)).toNat else min (k:Int).toNat n)=min k n;rw[if_neg (by omega),Int.toNat_natCast]
theorem sIx_le(n d:Nat)(hd:d<=n)(o:Option Int):sIx n d o<=n:=by
 cases o with
 | none=>exact hd
 | some v=>
  show(if v < 0 then(v+(n:Int)).toNat else min v.toNat n)<=n;by_cases hv:v < 0
  ·rw[if_pos hv];omega
  ·rw[if_neg hv];exact Nat.min_le_right _ _
theorem clip_eq(v:Int)(n d:Nat):(if v < 0 then max (v+(n:Int)) 0 else min v (n:Int))=((sIx n d (some v):Nat):Int):=by
 show(if v < 0 then max (v+(n:Int)) 0 else min v (n:Int))=(((if v < 0 then(v+(n:Int)).toNat else min v.toNat n):Nat):Int)
 by_cases hv:v < 0
 ·simp only[if_pos hv];omega
 ·simp only[if_neg hv];omega
theorem adjust_gen(lo hi:Option Int)(n:Nat):Builtin.Slice.sliceAdjust lo hi 1 (n:Int)=(((sIx n 0 lo:Nat):Int),((sIx n n hi:Nat):Int)):=by
 have h1:¬((1:Int) < 0):=by omega
 unfold Builtin.Slice.sliceAdjust;simp only[h1,if_false];refine Prod.ext ?_ ?_
 ·cases lo with
  | none=>rfl
  | some v=>exact clip_eq v n 0
 ·cases hi with
  | none=>rfl
  | some v=>exact clip_eq v n n
theorem places_gen(i j:Nat):Builtin.Slice.slicePlaces (i:Int) (j:Int) 1=j - i:=by
 unfold Builtin.Slice.slicePlaces;have h1:(1:Int) > 0:=by omega
 simp only[h1,if_true,Int.ediv_one];split <;> omega
theorem slicePart_{v:Value}{o:Option Int}{Q:Option Int->Shared->Prop}(p:IsPart v o)(h:Q o s):wpAny (model prog w) A (Builtin.Slice.slicePartIndex v) Q E s:=by
 cases p with
 | none=>exact slicePart_none h
 | int i t=>exact slicePart_int h
theorem sliceApplied_gen{sl:Addr}{vl vu:Value}{lo hi:Option Int}{n:Nat}{Q:Int×Int×Nat->Shared->Prop}(hs:s.heap.IsSliceOf sl vl vu .none)(pl:IsPart vl lo)(pu:IsPart vu hi)
  (h:Q (((sIx n 0 lo:Nat):Int),1,sIx n n hi - sIx n 0 lo) s):wpAny (model prog w) A (Builtin.Slice.sliceApplied (.ref sl) (pure (n:Int))) Q E s:=by
 obtain⟨os,hos,hcs,hds⟩:=id hs;unfold Builtin.Slice.sliceApplied Builtin.Slice.sliceFields;refine wAa (wAa (wpAny_field hos hds (x:=vl) rfl (wAa (wpAny_field hos hds (x:=vu) rfl (wAa (wpAny_field hos hds (x:=.none) rfl (wBa ?_)))))));refine wAa (slicePart_none ?_);show wpAny _ _ (if ((1:Int)==0)=true then _ else _) _ _ s;rw[if_neg (by decide)];refine wAa (slicePart_ pl (wAa (slicePart_ pu (wAa (wBa ?_)))));show wpAny _ _ (match Builtin.Slice.sliceAdjust lo hi 1 (n:Int)with | (lo,hi)=>pure (lo,(1:Int),Builtin.Slice.slicePlaces lo hi 1)) _ _ s;rw[adjust_gen lo hi n];show wpAny _ _ (pure (((sIx n 0 lo:Nat):Int),(1:Int),Builtin.Slice.slicePlaces ((sIx n 0 lo:Nat):Int) ((sIx n n hi:Nat):Int) 1)) _ _ s;rw[places_gen];exact wBa h
theorem pick_gen(xs:Array Value)(i k:Nat):((List.range k).filterMap fun(m:Nat)=>xs[((i:Int)+(m:Int) * 1).toNat]?).toArray=((xs.toList.drop i).take k).toArray:=by
 have e:(fun(m:Nat)=>xs[((i:Int)+(m:Int) * 1).toNat]?)=fun m=>xs[i+m]?:=by
  funext m;have:((i:Int)+(m:Int) * 1).toNat=i+m:=by omega
  rw[this]
 rw[e];have:=pick_run xs i k;rw[List.filterMap_map]at this;have e2:((fun x=>xs[x]?)∘fun x=>i+x)=fun m=>xs[i+m]?:=rfl;rw[e2]at this;rw[this]
theorem getItem_tuple_cut{t sl:Addr}{items:Array Value}{vl vu:Value}{lo hi:Option Int}{Q:Value->Shared->Prop}(ht:IsTup s.heap t items)(hs:s.heap.IsSliceOf sl vl vu .none)(pl:IsPart vl lo)(pu:IsPart vu hi)
  (hw:¬(sIx items.size 0 lo=0/\sIx items.size items.size hi=items.size))
  (h:Q (.ref s.heap.objs.size) { s with heap:=s.heap.push { cls:=.type "tuple",data:=.seq ((items.toList.drop (sIx items.size 0 lo)).take (sIx items.size items.size hi - sIx items.size 0 lo)).toArray } })
  (hsz:items.size<=sizeLine):wpAny (model prog w) A (getItem (.ref t) (.ref sl)) Q E s:=by
 have htake:sizeOk (.seq ((items.toList.drop (sIx items.size 0 lo)).take (sIx items.size items.size hi - sIx items.size 0 lo)).toArray):=by
  show((items.toList.drop (sIx items.size 0 lo)).take (sIx items.size items.size hi - sIx items.size 0 lo)).toArray.size<=sizeLine;rw[List.size_toArray,List.length_take,List.length_drop,Array.length_toList];omega
 have hj:sIx items.size items.size hi<=items.size:=sIx_le _ _ (wPa _) hi;obtain⟨os,hos,hcs,hds⟩:=id hs;have hTs:s.TypeIs (.ref sl) "slice" := ⟨os,hos,hcs⟩
 unfold getItem
 try with_reducible refine wDa ?_
 first | refine wAa (wBa ?_) | skip
 refine wAa (wpAny_sequenceKey ht.typeIs (by decide) ?_);refine wAa (wpAny_callSpecial?_slot (name:=Str.ofString "__getitem__") ht.typeIs PyProof.Rows.slot_tuple_getitem
  (wpAny_call_entry PyProof.Rows.slot_tuple_getitem ht.typeIs entry_tuple_getitem ?_ (args_tuple_getitem _ _)))
 show wpAny _ _ (Builtin.Tuple.tupleItemsOf (.ref t) >>= _) _ _ s;refine wAa (tupleItemsOf_ ht ?_);refine wAa (wpAny_typeOf hTs ?_);rw[if_pos (by decide)];refine wAa (sliceApplied_gen hs pl pu ?_);have hno:¬((((sIx items.size 0 lo:Nat):Int)==0&&(1:Int)==1&&(sIx items.size items.size hi - sIx items.size 0 lo)==items.size)=true):=by
  intro q;rw[Bool.and_eq_true,Bool.and_eq_true]at q;have q1:((sIx items.size 0 lo:Nat):Int)=0:=vLa q.1.1;have q2:sIx items.size items.size hi - sIx items.size 0 lo=items.size:=vLa q.2;exact hw ⟨by omega,by omega⟩
 show wpAny _ _ (if (((sIx items.size 0 lo:Nat):Int)==0&&(1:Int)==1&&(sIx items.size items.size hi - sIx items.size 0 lo)==items.size)=true then _ else _) _ _ s;rw[if_neg hno,pick_gen]
 first
  | exact wAa (m:=Builtin.Tuple.tupleExact _) (vTa (wBa ⟨_,rfl,wBa h⟩) htake)
  | exact wAa (m:=Builtin.Tuple.tupleExact _) (vTa (wAa (wBa (wBa ⟨_,rfl,wBa h⟩))) htake)
  | exact wAa (wAa (m:=Builtin.Tuple.tupleExact _) (vTa (wBa (wBa ⟨_,rfl,wBa h⟩)) htake))
  | exact wAa (wAa (m:=Builtin.Tuple.tupleExact _) (vTa (wBa ⟨_,rfl,wBa h⟩) htake))
end
end HT
namespace L2
open PySem PySem.Spec PyProof.Rows
noncomputable abbrev TO:=St->Hp->(Option Int->Hp->Prop)->Prop
def PO(X:Cx)(e:Option Expr)(t:TO):Prop:=
 ∀(pins:List (Addr×Obj)) (s:Shared) (σ:St) (H:Hp) (Q:Option Int->Hp->Prop),Inv X pins σ H s->t σ H Q->
  wpAny (model X.prog X.w) X.A (evalPart e X.env) (fun u s'=>∃o H',Inv X pins σ H' s'/\IsPart u o/\Q o H') X.xe s
noncomputable def WN:TO:=fun _ H Q=>Q none H
noncomputable def EB(t:TE):TO:=fun σ H Q=>t σ H fun x H1=>∃i,x=.int i/\Q (some i) H1
section
variable {X:Cx} {e:Expr} {te:TE} {lo hi:Option Expr} {tl th:TO} {pos p2:Pos}
theorem WO:PO X none WN:=by
 intro pins s σ H Q I h;rw[evalPart_none];exact wBa ⟨none,H,I,.none,h⟩
theorem bD(h:PE X e te):PO X (some e) (EB te):=by
 intro pins s σ H Q I hw;rw[evalPart_some];refine jv (h pins s σ H _ I hw) fun u s1 xx=>?_;obtain⟨x,H1,I1,r1,q1⟩:=xx;obtain⟨i,rfl,q⟩:=q1;obtain⟨t,rfl⟩:=r1;exact⟨some i,H1,I1,.int i t,q⟩
def cM(X:Cx)(r:V->Option Int->Option Int->Hp->VK->Prop):Prop:=
 ∀(pins:List (Addr×Obj)) (s:Shared) (σ:St) (H:Hp) (x:V) (v vl vu:Value) (lo hi:Option Int) (sl:Addr) (Q:VK),Inv X pins σ H s->jt x v->s.heap.IsSliceOf sl vl vu .none->IsPart vl lo->IsPart vu hi->r x lo hi H Q->
  ∃T id,typeLookup (.type T) "__getitem__" = pure (some (.builtin id))/\s.TypeIs v T/\wpAny (model X.prog X.w) X.A (getItem v (.ref sl)) (EP X pins σ Q) X.xe s
def Fu(r:V->Option Int->Option Int->Hp->VK->Prop)(te:TE)(tl th:TO):TE:=fun σ H Q=>te σ H fun x H1=>tl σ H1 fun l H2=>th σ H2 fun u H3=>r x l u H3 Q
theorem UE{r:V->Option Int->Option Int->Hp->VK->Prop}(hr:cM X r)(he:PE X e te)(hl:PO X lo tl)(hu:PO X hi th):PE X (.Subscript e (.Slice lo hi none p2) pos) (Fu r te tl th):=by
 intro pins s σ H Q I h;refine Subscript_ (jv (he pins s σ H _ I h) fun v s1 xx=>?_);obtain⟨x,H1,I1,r1,q1⟩:=xx;refine wpAny_Slice (jv (hl pins s1 σ H1 _ I1 q1) fun vl s2 ⟨l,H2,I2,pl,q2⟩=>jv (hu pins s2 σ H2 _ I2 q2) fun vu s3 xx=>?_);obtain⟨u,H3,I3,pu,q3⟩:=xx;rw[evalPart_none];refine wBa ?_;have I4:Inv X pins σ H3 { s3 with heap:=s3.heap.push { cls:=.type "slice",data:=.fields #[vl,vu,.none] } }:=I3.kept (t':=s3.toks) fun b ob q=>wIa _ q;obtain⟨T,id,hT,ht,hg⟩:=hr pins { s3 with heap:=s3.heap.push { cls:=.type "slice",data:=.fields #[vl,vu,.none] } } σ H3 x v vl vu l u s3.heap.objs.size Q I4 r1 (Heap.IsSliceOf.new ..) pl pu q3;show wpAny (model X.prog X.w) X.A (subscriptTail e (.Slice lo hi none p2) v (.ref s3.heap.objs.size)) (EP X pins σ Q) X.xe { s3 with heap:=s3.heap.push { cls:=.type "slice",data:=.fields #[vl,vu,.none] } };exact tail_any (ops:=[.ref s3.heap.objs.size,v]) ht hT hg (by with_unfolding_all rfl)
def Vg(xs:List V)(lo hi:Option Int):List V:=(xs.drop (HT.sIx xs.length 0 lo)).take (HT.sIx xs.length xs.length hi - HT.sIx xs.length 0 lo)
theorem Ug(xs:List V)(lo hi:Option Int):(Vg xs lo hi).length<=xs.length:=by
 unfold Vg;rw[List.length_take,List.length_drop];omega
def Hm(K:PySem.W.Frag):V->Option Int->Option Int->Hp->VK->Prop:=fun x lo hi H Q=>∃a xs,x=.ref a/\Ji K H a xs/\
 ¬(HT.sIx xs.length 0 lo=0/\HT.sIx xs.length xs.length hi=xs.length)/\∀p,H p=none->Q (.ref p) (upd H p (.tup (Vg xs lo hi)))
theorem cO:cM X (Hm X.K):=by
 intro pins s σ H x v vl vu lo hi sl Q I rx hs pl pu h;obtain⟨a,xs,rfl,hx,hw,q⟩:=h;cases rx;obtain⟨its,r,ht,hz⟩:=I.tuple hx;have hlen:its.toArray.size=xs.length:=by rw[List.size_toArray];exact r.length.symm
 refine⟨"tuple",_,PyProof.Rows.slot_tuple_getitem.lookup,ht.typeIs,?_⟩;refine HT.getItem_tuple_cut ht hs pl pu (by rw[hlen];exact hw) ?_ (by rw[hlen];exact hz);rw[hlen];refine⟨.ref s.heap.objs.size,_,I.laid (t':=s.toks) (o:=.tup (Vg xs lo hi)) (fun b ob q=>wIa _ q) (wPa _) ?_,rfl,q _ (I.hok.fresh (wPa _))⟩;exact⟨wSa (Ug xs lo hi) hz,_,(r.drop (HT.sIx xs.length 0 lo)).take (HT.sIx xs.length xs.length hi - HT.sIx xs.length 0 lo),IsTup.new _ _⟩
def qX(K:PySem.W.Frag):R2:=fun x y H Q=>∃a b xs ys,x=.ref a/\y=.ref b/\Ji K H a xs/\Ji K H b ys/\xs≠[]/\xs.length+ys.length<=sizeLine/\
 (ys=[]->Q (.ref a) H)/\(ys≠[]->∀p,H p=none->Q (.ref p) (upd H p (.tup (xs++ys))))
theorem jh.nil_iff{xs:List V}{us:List Value}(r:jh xs us):us=[]↔xs=[]:=by
 cases r with
 | nil=>simp
 | cons _ _=>simp
theorem bE:jF X (binaryOp .Add) (qX X.K):=by
 intro pins s σ H x y v u Q I rx ry h;obtain⟨a,b,xs,ys,rfl,rfl,ha,hb,hx,hz,q1,q2⟩:=h;cases rx;cases ry;obtain⟨its,r1,p1,_⟩:=I.tuple ha;obtain⟨its2,r2,p2,_⟩:=I.tuple hb;refine HT.cat_tup p1 p2 (fun z=>hx (r1.nil_iff.mp z)) (fun z=>⟨.ref a,H,I,rfl,q1 (r2.nil_iff.mp z)⟩) (fun z=>?_) (by rw[<-r1.length,<-r2.length];exact hz);refine⟨.ref s.heap.objs.size,_,I.laid (t':=s.toks) (o:=.tup (xs++ys)) (fun b ob q=>wIa _ q) (wPa _) ?_,rfl,q2 (fun w=>z (r2.nil_iff.mpr w)) _ (I.hok.fresh (wPa _))⟩;exact⟨by rw[List.length_append];exact hz,_,r1.append r2,IsTup.new _ _⟩
end
noncomputable def yt(n:Nat)(i:Int):Option Nat:=if 0<=i then(if i < n then some i.toNat else none)else if -(n:Int)<=i then some (i+n).toNat else none
def atI{α:Type}(xs:List α)(i:Int):Option α:=(yt xs.length i).bind fun j=>xs[j]?
theorem WP{n:Nat}{i:Int}{j:Nat}(h:yt n i=some j):seqIndex? i n=some j/\j < n/\-(n:Int)<=i/\i < n:=by
 unfold yt at h;by_cases h0:0<=i
 ·rw[if_pos h0]at h;by_cases h1:i < n
  ·rw[if_pos h1]at h;have e:i.toNat=j:=vFa h;exact⟨by rw[seqIndex_of h0 h1,e],by omega,by omega,h1⟩
  ·rw[if_neg h1]at h;cases h
 ·rw[if_neg h0]at h;by_cases h1:-(n:Int)<=i
  ·rw[if_pos h1]at h;have e:(i+n).toNat=j:=vFa h;exact⟨by rw[seqIndex_neg (by omega) h1,e],by omega,h1,by omega⟩
  ·rw[if_neg h1]at h;cases h
theorem Gv{α:Type}{xs:List α}{i:Int}{v:α}(h:atI xs i=some v):∃j,seqIndex? i xs.length=some j/\xs[j]?=some v/\j < xs.length/\-(xs.length:Int)<=i/\i < xs.length:=by
 unfold atI at h;cases e:yt xs.length i with
 | none=>rw[e]at h;cases h
 | some j=>
  rw[e]at h;obtain⟨h1,h2,h3,h4⟩:=WP e;exact⟨j,h1,h,h2,h3,h4⟩
def Gw(b:Expr):Prop:=∀o i,subscripted b false o i=operate [o,i] (getItem o i)
def Uh(X:Cx)(r:R2):Prop:=
 ∀(value slice:Expr) (pins:List (Addr×Obj)) (s:Shared) (σ:St) (H:Hp) (x y:V) (v u:Value) (Q:VK),Inv X pins σ H s->jt x v->jt y u->r x y H Q->
  subscripted slice false v u=operate [v,u] (getItem v u)->wpAny (model X.prog X.w) X.A (subscriptTail value slice v u) (EP X pins σ Q) X.xe s
def iV(X:Cx)(id:String)(r:V->List V->Hp->VK->Prop):Prop:=
 ∀(pins:List (Addr×Obj)) (s:Shared) (σ:St) (H:Hp) (x:V) (xs:List V) (v:Value) (us:List Value) (Q:VK),Inv X pins σ H s->jt x v->jh xs us->r x xs H Q->
  wpAny (model X.prog X.w) X.A (call (.builtin id) (v::us)) (EP X pins σ Q) X.xe s
section
variable {X:Cx} {a b:Expr} {ta tb:TE} {pos:Pos}
theorem Uh.or{r r':R2}(h:Uh X r)(h':Uh X r'):Uh X (fun x y H Q=>r x y H Q∨r' x y H Q):=by
 intro value slice pins s σ H x y v u Q I rx ry q hs;rcases q with q | q
 ·exact h value slice pins s σ H x y v u Q I rx ry q hs
 ·exact h' value slice pins s σ H x y v u Q I rx ry q hs
theorem Ke{r:R2}(hr:Uh X r)(ha:PE X a ta)(hb:PE X b tb)(hs:Gw b):PE X (.Subscript a b pos) (gq r ta tb):=by
 intro pins s σ H Q I h;exact Subscript_ (Xr ha hb I h fun v u s2 x y H2 I2 rx ry q=>hr a b pins s2 σ H2 x y v u Q I2 rx ry q (hs _ _))
def KA(K:PySem.W.Frag):R2:=fun x y H Q=>∃p xs i v,x=.ref p/\y=.int i/\jC K H p xs/\atI xs i=some v/\Q v H
def cP(K:PySem.W.Frag):R2:=fun x y H Q=>∃p xs i v,x=.ref p/\y=.int i/\Ji K H p xs/\atI xs i=some v/\Q v H
def cR:R2:=fun x y H Q=>∃z i c,x=.str z/\y=.int i/\z.length<=sizeLine/\atI z.cps.toList i=some c/\Q (.str ⟨#[c]⟩) H
theorem uY:Uh X (KA X.K):=by
 intro value slice pins s σ H x y v u Q I rx ry h hs;obtain⟨p,xs,i,z,rfl,rfl,hq,he,q⟩:=h;cases rx;obtain⟨t,rfl⟩:=ry;obtain⟨its,r,pl,hz⟩:=I.list hq;obtain⟨j,h1,h2,h3,h4,h5⟩:=Gv he;obtain⟨w,ew,rw'⟩:=r.get h2;have hl:=r.length;have hn:=vX;have fin:EP X pins σ Q w s:=⟨z,H,I,rw',q⟩
 by_cases h0:0<=i
 ·have hj:i.toNat=j:=by
   rw[seqIndex_of h0 h5]at h1;exact vFa h1
  exact item_listR pl.isList h0 (by omega) (by rw[hj];simpa using ew) fin hs
 ·have hj:(i+(its.toArray.size:Int)).toNat=j:=by
   rw[seqIndex_neg (by omega) h4]at h1;rw[List.size_toArray,<-hl];exact vFa h1
  exact subscriptTail_builtinR (x:=w) pl.isList.typeIs slot_list_getitem.lookup
   (wpAny_getItem_list_neg (Q:=fun r s'=>r=w/\EP X pins σ Q r s') pl.isList (by omega) (by rw[List.size_toArray] <;> omega) (by omega) (by rw[hj];simpa using ew) ⟨rfl,fin⟩) hs
theorem cU:Uh X (cP X.K):=by
 intro value slice pins s σ H x y v u Q I rx ry h hs;obtain⟨p,xs,i,z,rfl,rfl,hq,he,q⟩:=h;cases rx;obtain⟨t,rfl⟩:=ry;obtain⟨its,r,pl,hz⟩:=I.tuple hq;obtain⟨j,h1,h2,h3,h4,h5⟩:=Gv he;obtain⟨w,ew,rw'⟩:=r.get h2;have hl:=r.length;have hn:=vX;have fin:EP X pins σ Q w s:=⟨z,H,I,rw',q⟩
 exact subscriptTail_builtinR (x:=w) pl.typeIs slot_tuple_getitem.lookup
  (getItem_tuple (j:=j) (Q:=fun r s'=>r=w/\EP X pins σ Q r s') pl (by omega) (by omega) (by rw[List.size_toArray,<-hl];exact h1) (by simpa using ew) ⟨rfl,fin⟩) hs
theorem cY:Uh X cR:=by
 intro value slice pins s σ H x y v u Q I rx ry h hs;obtain⟨z,i,c,rfl,rfl,hz,he,q⟩:=h;obtain⟨t,rfl⟩:=rx;obtain⟨t',rfl⟩:=ry;obtain⟨j,h1,h2,h3,h4,h5⟩:=Gv he;have hl:z.cps.toList.length=z.length:=by simp[Str.length]
 rw[hl]at h1 h4 h5;have hn:=vX;exact tail_any (typeIs_str s z t) slot_str_getitem.lookup (getItem_str (c:=c) (by
  have e1:decide (i < -(2 ^ 63:Int))=false:=vBa (by omega);have e2:decide (i>=2 ^ 63)=false:=vBa (by omega);rw[e1,e2,Bool.or_false]) (by rw[h1];simpa using h2) ⟨.str ⟨#[c]⟩,H,I.tok _,⟨_,rfl⟩,q⟩) hs
def Fv(K:PySem.W.Frag):R2:=fun x y H Q=>KA K x y H Q∨cP K x y H Q∨cR x y H Q
theorem cZ:Uh X (Fv X.K):=uY.or (cU.or cY)
theorem qY(its:List Value)(n j:Nat)(u:Value):Obj.mapSeq (·.setIfInBounds j u) { cls:=.type "list",data:=.seq its.toArray n }={ cls:=.type "list",data:=.seq (its.set j u).toArray n }:=by
 simp[Obj.mapSeq]
theorem Inv.lst{pins:List (Addr×Obj)}{σ:St}{H:Hp}{s:Shared}{p:Addr}{xs:List V}(I:Inv X pins σ H s)(h:H p=some (.lst xs)):
  ∃(its:List Value) (n:Nat),jh xs its/\s.heap.get? p=some { cls:=.type "list",data:=.seq its.toArray n }/\xs.length<=sizeLine:=by
 obtain⟨z,its,n,r,e⟩:=I.hok p _ h;exact⟨its,n,r,e,z⟩
theorem Inv.lstUpd{pins:List (Addr×Obj)}{σ:St}{H:Hp}{s:Shared}{p:Addr}{xs ys:List V}{its its':List Value}{n n':Nat}{f:Obj->Obj}(I:Inv X pins σ H s)(h:H p=some (.lst xs))
  (ho:s.heap.get? p=some { cls:=.type "list",data:=.seq its.toArray n }) (hf:f { cls:=.type "list",data:=.seq its.toArray n }={ cls:=.type "list",data:=.seq its'.toArray n' }) (r:jh ys its') (hz:ys.length<=sizeLine) (t:Nat):
  Inv X pins σ (upd H p (.lst ys)) { s with heap:=s.heap.update p f,toks:=t }:=by
 have e:(s.heap.update p f).get? p=some { cls:=.type "list",data:=.seq its'.toArray n' }:=by
  rw[Heap.get?_update_self f ho (by rw[hf] <;> rfl),hf]
 refine I.write (x:=p) (e:=p) (by rw[h];trivial) (.inl rfl) (fun b u hb q=>(wKa _ _ (Ne.symm hb)).trans q) ⟨_,e⟩ ?_;exact⟨hz,its',n',r,e⟩
def Kf:V->V->V->Hp->(Hp->Prop)->Prop:=fun o i v H Q=>∃p xs k j,o=.ref p/\i=.int k/\H p=some (.lst xs)/\yt xs.length k=some j/\Q (upd H p (.lst (xs.set j v)))
theorem UF:Xn X Kf:=by
 intro pins s σ H o i v ov iv u Q I ro ri rv h;obtain⟨p,xs,k,j,rfl,rfl,hp,hj,q⟩:=h;cases ro;obtain⟨t,rfl⟩:=ri;obtain⟨its,n,r,ho,hz⟩:=I.lst hp;obtain⟨h1,h2,h3,h4⟩:=WP hj;have hl:=r.length;have hn:=vX;have I':Inv X pins σ (upd H p (.lst (xs.set j v))) { s with heap:=s.heap.update p (Obj.mapSeq (·.setIfInBounds j u)) }:=
  I.lstUpd hp ho (qY its n j u) (r.set rv j) (by rw[List.length_set];exact hz) s.toks
 by_cases h0:0<=k
 ·have hk:k.toNat=j:=by
   rw[seqIndex_of h0 h4]at h1;exact vFa h1
  exact PySem.W.ki_setAt ho h0 (by omega) (by rw[List.size_toArray,<-hl];exact h4) (by rw[hk];exact⟨_,I',q⟩)
 ·have hk:(k+(its.toArray.size:Int)).toNat=j:=by
   rw[seqIndex_neg (by omega) h3]at h1;rw[List.size_toArray,<-hl];exact vFa h1
  exact PySem.W.ki_setBack ho (by omega) (by rw[List.size_toArray,<-hl];exact h3) (by omega) (by rw[hk];exact⟨_,I',q⟩)
theorem KB(lo hi:Option Int)(n:Nat):(sliceBounds lo hi none n).1=((HT.sIx n 0 lo:Nat):Int)/\(sliceBounds lo hi none n).2.1=((HT.sIx n n hi:Nat):Int)/\(sliceBounds lo hi none n).2.2=1:=by
 refine⟨?_,?_,rfl⟩
 ·cases lo with
  | none=>simp[sliceBounds,HT.sIx]
  | some i=>
   simp only[sliceBounds,HT.sIx,Option.getD_none,show(1:Int) > 0 by decide,if_true];by_cases h:i < 0
   ·simp only[h,if_true] <;> omega
   ·simp only[h,if_false] <;> omega
 ·cases hi with
  | none=>simp[sliceBounds,HT.sIx]
  | some i=>
   simp only[sliceBounds,HT.sIx,Option.getD_none,show(1:Int) > 0 by decide,if_true];by_cases h:i < 0
   ·simp only[h,if_true] <;> omega
   ·simp only[h,if_false] <;> omega
theorem kZ(its:List Value)(lo hi:Option Int):slicePick its.toArray lo hi none=((its.drop (HT.sIx its.length 0 lo)).take (HT.sIx its.length its.length hi - HT.sIx its.length 0 lo)).toArray:=by
 obtain⟨h1,h2,h3⟩:=KB lo hi its.toArray.size;unfold slicePick;rw[h1,h2,h3];simp only[sliceRange_one,pick_run,List.size_toArray] <;> rfl
def c_(K:PySem.W.Frag):V->Option Int->Option Int->Hp->VK->Prop:=fun x lo hi H Q=>∃a xs,x=.ref a/\jC K H a xs/\∀p,H p=none->Q (.ref p) (upd H p (.lst (Vg xs lo hi)))
theorem WQ:cM X (c_ X.K):=by
 intro pins s σ H x v vl vu lo hi sl Q I rx hs pl pu h;obtain⟨a,xs,rfl,hx,q⟩:=h;cases rx;obtain⟨its,r,ht,hz⟩:=I.list hx;have hlen:=r.length;refine⟨"list",_,slot_list_getitem.lookup,ht.isList.typeIs,?_⟩;refine wpAny_getItem_list_slice ht.isList hs pl pu .none (by simp) ?_ (by rw[List.size_toArray] <;> omega);rw[kZ,<-hlen];refine⟨.ref s.heap.objs.size,_,I.laid (t':=s.toks) (o:=.lst (Vg xs lo hi)) (fun b ob q=>wIa _ q) (wPa _) ?_,rfl,q _ (I.hok.fresh (wPa _))⟩;exact⟨wSa (Ug xs lo hi) hz,_,0,(r.drop (HT.sIx xs.length 0 lo)).take (HT.sIx xs.length xs.length hi - HT.sIx xs.length 0 lo),wJa _ rfl⟩
noncomputable def zC:V->Bool
 | .non=>true
 | .bl _=>true
 | .int _=>true
 | .str _=>true
 | _=>false
noncomputable def kj:V->V->Bool
 | .non,.non=>true
 | .bl a,.bl b=>a==b
 | .bl a,.int b=>(if a then 1 else 0)==b
 | .int a,.bl b=>a==(if b then 1 else 0)
 | .int a,.int b=>a==b
 | .str a,.str b=>a==b
 | _,_=>false
theorem C0{A:Around}{s:Shared}{y x:V}{u v:Value}(ry:jt y u)(rx:jt x v)(fy:zC y=true)(fx:zC x=true):SeqAt.EqAt A s u v (kj y x):=by
 cases y with
 | non=>
  cases ry;cases x with
  | non=>cases rx;exact SeqAt.EqAt.same _
  | bl b=>cases rx;exact SeqAt.EqAt.none_bool b
  | int b=>obtain⟨t,rfl⟩:=rx;exact SeqAt.EqAt.none_int b t
  | str b=>obtain⟨t,rfl⟩:=rx;exact SeqAt.EqAt.none_str b t
  | _=>exact vDa (show false=true from fx) vNa
 | bl a=>
  cases ry;cases x with
  | non=>cases rx;exact SeqAt.EqAt.bool_none a
  | bl b=>cases rx;exact SeqAt.EqAt.bool_bool a b
  | int b=>obtain⟨t,rfl⟩:=rx;exact SeqAt.EqAt.bool_int a b t
  | str b=>obtain⟨t,rfl⟩:=rx;exact SeqAt.EqAt.bool_str a b t
  | _=>exact vDa (show false=true from fx) vNa
 | int a=>
  obtain⟨t',rfl⟩:=ry;cases x with
  | non=>cases rx;exact SeqAt.EqAt.int_none a t'
  | bl b=>cases rx;exact SeqAt.EqAt.int_bool a t' b
  | int b=>obtain⟨t,rfl⟩:=rx;exact SeqAt.EqAt.int_int a t' b t
  | str b=>obtain⟨t,rfl⟩:=rx;exact SeqAt.EqAt.int_str a t' b t
  | _=>exact vDa (show false=true from fx) vNa
 | str a=>
  obtain⟨t',rfl⟩:=ry;cases x with
  | non=>cases rx;exact SeqAt.EqAt.str_none a t'
  | bl b=>cases rx;exact SeqAt.EqAt.str_bool a t' b
  | int b=>obtain⟨t,rfl⟩:=rx;exact SeqAt.EqAt.str_int a t' b t
  | str b=>obtain⟨t,rfl⟩:=rx;exact SeqAt.EqAt.str_str a t' b t
  | _=>exact vDa (show false=true from fx) vNa
 | _=>exact vDa (show false=true from fy) vNa
def Zy(x:V)(u:Value):Bool:=match u with
 | .none=>kj .non x
 | .bool b=>kj (.bl b) x
 | .int i _=>kj (.int i) x
 | .str z _=>kj (.str z) x
 | _=>false
theorem QK{x y:V}{u:Value}(r:jt y u)(f:zC y=true):Zy x u=kj y x:=by
 cases y with
 | non=>cases r;rfl
 | bl b=>cases r;rfl
 | int i=>obtain⟨t,rfl⟩:=r;rfl
 | str z=>obtain⟨t,rfl⟩:=r;rfl
 | _=>exact vDa (show false=true from f) vNa
theorem vZ{x:V}:∀{xs:List V} {us:List Value},jh xs us->xs.all zC=true->us.any (Zy x)=xs.any fun y=>kj y x
 | _,_,.nil,_=>rfl
 | y::xs,u::us,.cons r t,f=>by
  rw[List.all_cons,Bool.and_eq_true]at f;rw[List.any_cons,List.any_cons,QK r f.1,vZ t f.2]
theorem Zz{A:Around}{s:Shared}{x:V}{v:Value}(rx:jt x v)(fx:zC x=true):∀{xs:List V} {us:List Value},jh xs us->xs.all zC=true->∀u∈us,SeqAt.EqAt A s u v (Zy x u)
 | _,_,.nil,_=>fun u hu=>by cases hu
 | y::xs,u::us,.cons r t,f=>fun u' hu=>by
  rw[List.all_cons,Bool.and_eq_true]at f;rcases List.mem_cons.mp hu with rfl | hu
  ·rw[QK r f.1];exact C0 r rx f.1 fx
  ·exact Zz rx fx t f.2 u' hu
def Af(x:V)(xs:List V):Bool:=xs.any fun y=>kj y x
def C1(K:PySem.W.Frag)(neg:Bool):R2:=fun x y H Q=>∃p xs,y=.ref p/\(jC K H p xs∨Ji K H p xs)/\zC x=true/\xs.all zC=true/\Q (.bl (if neg then !Af x xs else Af x xs)) H
theorem QL:jF X (compareOp .In) (C1 X.K false):=by
 intro pins s σ H x y v u Q I rx ry h;obtain⟨p,xs,rfl,hq,fx,fs,q⟩:=h;cases ry;rcases hq with hq | hq
 ·obtain⟨its,r,pl,hz⟩:=I.list hq;refine SeqAt.in_listAt (Zy x) pl.isList (fun w hw=>Zz rx fx r fs w (by simpa using hw)) ⟨.bl _,H,I,rfl,?_⟩;rw[show its.toArray.any (Zy x)=its.any (Zy x) by simp,vZ r fs];exact q
 ·obtain⟨its,r,pl,hz⟩:=I.tuple hq;refine SeqAt.in_tupleAt (Zy x) pl (fun w hw=>Zz rx fx r fs w (by simpa using hw)) ⟨.bl _,H,I,rfl,?_⟩;rw[show its.toArray.any (Zy x)=its.any (Zy x) by simp,vZ r fs];exact q
theorem KC:jF X (compareOp .NotIn) (C1 X.K true):=by
 intro pins s σ H x y v u Q I rx ry h;obtain⟨p,xs,rfl,hq,fx,fs,q⟩:=h;cases ry;rcases hq with hq | hq
 ·obtain⟨its,r,pl,hz⟩:=I.list hq;refine SeqAt.notIn_listAt (Zy x) pl.isList (fun w hw=>Zz rx fx r fs w (by simpa using hw)) ⟨.bl _,H,I,rfl,?_⟩;rw[show its.toArray.any (Zy x)=its.any (Zy x) by simp,vZ r fs];exact q
 ·obtain⟨its,r,pl,hz⟩:=I.tuple hq;refine SeqAt.notIn_tupleAt (Zy x) pl (fun w hw=>Zz rx fx r fs w (by simpa using hw)) ⟨.bl _,H,I,rfl,?_⟩;rw[show its.toArray.any (Zy x)=its.any (Zy x) by simp,vZ r fs];exact q
theorem KF:zB X (.builtin "len") (fun xs H Q=>∃p ys,xs=[.ref p]/\(jC X.K H p ys∨Ji X.K H p ys)/\Q (.int ys.length) H):=by
 intro pins s σ H xs us Q I r h;obtain⟨p,ys,rfl,hq,q⟩:=h;obtain⟨u,rfl,rx⟩:=qQ r;cases rx;have hn:=vX;rcases hq with hq | hq
 ·obtain⟨its,r',pl,hz⟩:=I.list hq;have hlen:=r'.length;exact Calls.call_len_list pl.isList (by simp only[List.size_toArray] <;> omega) ⟨.int ys.length,H,I.tok _,⟨s.toks+1,by rw[List.size_toArray,hlen]⟩,q⟩
 ·obtain⟨its,r',pl,hz⟩:=I.tuple hq;have hlen:=r'.length;exact len_tuple pl (by simp only[List.size_toArray] <;> omega) ⟨.int ys.length,H,I.tok _,⟨s.toks+1,by rw[List.size_toArray,hlen]⟩,q⟩
theorem KG:zB X (.type "list") (fun xs H Q=>∃p ys,xs=[.ref p]/\(jC X.K H p ys∨Ji X.K H p ys)/\∀l,H l=none->Q (.ref l) (upd H l (.lst ys))):=by
 intro pins s σ H xs us Q I r h;obtain⟨p,ys,rfl,hq,q⟩:=h;obtain⟨u,rfl,rx⟩:=qQ r;cases rx;have fin:∀(its:List Value),jh ys its->ys.length<=sizeLine->∀(h':Heap) (c':Nat),(∀b o',s.heap.get? b=some o'->h'.get? b=some o')->
   h'.get? s.heap.objs.size=some { cls:=.type "list",dict:=none,data:=.seq its.toArray c',slots:=#[] }->EP X pins σ Q (.ref s.heap.objs.size) { s with heap:=h' }:=fun its r' hz h' c' kp e=>
  ⟨.ref s.heap.objs.size,_,I.laid (t':=s.toks) kp (wPa _) (show ya X.prog X.w _ h' _ (.lst ys) from⟨hz,its,c',r',e⟩),rfl,q _ (I.hok.fresh (wPa _))⟩
 rcases hq with hq | hq
 ·obtain⟨its,r',pl,hz⟩:=I.list hq;have hlen:=r'.length;obtain⟨o,ho,hc,n,hd⟩:=pl.isList;exact call_list_seq p (.inl rfl) ho hc hd (fun h' c' kp e=>fin its r' hz h' c' kp e) (by simp only[List.size_toArray] <;> omega)
 ·obtain⟨its,r',pl,hz⟩:=I.tuple hq;have hlen:=r'.length;obtain⟨o,ho,hc,n,hd⟩:=pl;exact call_list_seq p (.inr rfl) ho hc hd (fun h' c' kp e=>fin its r' hz h' c' kp e) (by simp only[List.size_toArray] <;> omega)
theorem k_:zB X (.type "tuple") (fun xs H Q=>∃p ys,xs=[.ref p]/\((jC X.K H p ys/\∀l,H l=none->Q (.ref l) (upd H l (.tup ys)))∨(Ji X.K H p ys/\Q (.ref p) H))):=by
 intro pins s σ H xs us Q I r h;obtain⟨p,ys,rfl,h⟩:=h;obtain⟨u,rfl,rx⟩:=qQ r;cases rx;rcases h with⟨hq,q⟩ | ⟨hq,q⟩
 ·obtain⟨its,r',pl,hz⟩:=I.list hq;have hlen:=r'.length;refine call_tuple_list pl.isList (fun h' kp=>?_) (by simp only[List.size_toArray] <;> omega);have I1:Inv X pins σ H { s with heap:=h' }:=I.kept (t':=s.toks) kp;have I2:Inv X pins σ (upd H h'.objs.size (.tup ys)) { s with heap:=h'.push { cls:=.type "tuple",data:=.seq its.toArray } }:=
   I1.laid (t':=s.toks) (fun b o e=>wIa _ e) (wPa _) (show ya X.prog X.w _ _ _ (.tup ys) from⟨hz,its,r',IsTup.new _ _⟩)
  exact⟨.ref h'.objs.size,_,I2,rfl,q _ (I1.hok.fresh (wPa _))⟩
 ·obtain⟨its,r',pl,hz⟩:=I.tuple hq;exact call_tuple_same pl ⟨.ref p,H,I,rfl,q⟩
def Fw(K:PySem.W.Frag)(T:String)(x:V)(H:Hp):Prop:=match x with
 | .str _=>T = "str"
 | .int _=>T = "int"
 | .ref p=>(T = "list" /\∃xs,jC K H p xs)∨(T = "tuple" /\∃o,K.lookup p=some o/\o.cls=.type "tuple" /\o.dict=none)∨
   (T = "dict" /\((∃kvs,H p=some (.dK kvs))∨∃kvs,H p=some (.dT kvs)))∨(T = "set" /\∃S n,H p=some (.set S n))
 | _=>False
theorem C2{pins:List (Addr×Obj)}{σ:St}{H:Hp}{s:Shared}{T:String}{x:V}{v:Value}(I:Inv X pins σ H s)(r:jt x v)(ty:Fw X.K T x H):
  s.TypeIs v T/\∀a,v=.ref a->∃ob,s.heap.get? a=some ob/\ob.dict=none:=by
 cases x with
 | str z=>
  obtain⟨t,rfl⟩:=r;cases (show T = "str" from ty);exact⟨typeIs_str s z t,fun _ e=>nomatch e⟩
 | int i=>
  obtain⟨t,rfl⟩:=r;cases (show T = "int" from ty);exact⟨typeIs_int s i t,fun _ e=>nomatch e⟩
 | ref p=>
  cases r;rcases ty with⟨rfl,xs,hq⟩ | ⟨rfl,o,hk,hc,hd⟩ | ⟨rfl,hk⟩ | ⟨rfl,S,n,hk⟩
  ·obtain⟨its,_,pl,_⟩:=I.list hq;refine⟨pl.isList.typeIs,fun a e=>?_⟩;cases e;obtain⟨o,n,e,c,hd,_⟩:=pl;exact⟨o,e,hd⟩
  ·refine⟨⟨o,I.kIn p o hk,hc⟩,fun a e=>?_⟩;cases e;exact⟨o,I.kIn _ o hk,hd⟩
  ·have z:∃o,s.heap.get? p=some o/\o.ExactDict:=by
    rcases hk with⟨kvs,hk⟩ | ⟨kvs,hk⟩
    ·obtain⟨_,_,_,_,o,_,_,e,ex,_⟩:=I.hok p _ hk;exact⟨o,e,ex⟩
    ·obtain⟨_,_,_,_,o,_,_,e,ex,_⟩:=I.hok p _ hk;exact⟨o,e,ex⟩
   obtain⟨o,e,ex⟩:=z;refine⟨⟨o,e,ex.1⟩,fun a e2=>?_⟩;cases e2;exact⟨o,e,ex.2.1⟩
  ·obtain⟨o,_,_,_,e,ex,_⟩:=I.hok p _ hk;refine⟨⟨o,e,ex.1⟩,fun a e2=>?_⟩;cases e2;exact⟨o,e,ex.2.1⟩
 | _=>exact False.elim ty
def kl(K:PySem.W.Frag)(T:String)(r:V->List V->Hp->VK->Prop)(to:TE)(t:TA):TE:=fun σ H Q=>to σ H fun x H1=>Fw K T x H1/\t σ H1 fun xs H2=>r x xs H2 Q
variable {o e:Expr} {es:List Expr} {to:TE} {t:TA} {name:Str} {apos cpos:Pos} {T id:String} {r:V->List V->Hp->VK->Prop}
theorem qZ(pa:PlainAttrs T)(slot:Slot T name id)(hty:typeOf (.builtin id)=pure (.type "method_descriptor"))(hm:iV X id r)(ho:PE X o to)(ha:PA X (e::es) t)
  (hbase:attributeBase o name X.env (eval o X.env)=eval o X.env:=by rfl)
  (hfew:((backTo cpos (starEach (e::es) X.env)).all (fun x=>!x.1)&&(backToKw cpos (keywordEach [] X.env)).all (fun x=>x.1.isSome)
   && decide ((e::es).length+([]:List Keyword).length+(if ([]:List Keyword).isEmpty then 0 else 1) < 30))=true:=by rfl)
  (hline:(apos.endLine==cpos.line)=true:=by rfl) (hs:starEach (e::es) X.env=(false,eval e X.env)::starEach es X.env:=by rfl) (hplain:(backTo cpos (starEach es X.env)).any (·.1)=false:=by rfl):
  PE X (.Call (.Attribute o name apos) (e::es) [] cpos) (kl X.K T r to t):=by
 intro pins s σ H Q I h;refine wpAny_Call_method_late hbase hfew hline rfl (jv (ho pins s σ H _ I h) fun v s1 xx=>?_);obtain⟨x,H1,I1,r1,ty,q1⟩:=xx;obtain⟨h1,h2⟩:=C2 I1 r1 ty;refine⟨T,id,pa,slot,hty,h1,h2,?_⟩;have hA:=ha cpos pins s1 σ H1 _ I1 q1;rw[hs]at hA⊢;refine Calls.callWith_builtin (by show(false||(backTo cpos (starEach es X.env)).any (·.1))=false;rw[hplain] <;> rfl) (Calls.evalArgs_plain ?_)
 exact jv hA fun us s2 ⟨vs,H2,I2,r2,q2⟩=>hm pins s2 σ H2 x vs v us Q I2 r1 r2 q2
end
def C3(X:Cx)(id:String)(r:V->List V->Hp->VK->Prop):Prop:=
 ∀(pins:List (Addr×Obj)) (s:Shared) (σ:St) (H:Hp) (x:V) (xs:List V) (v:Value) (us:List Value) (Q:VK),Inv X pins σ H s->jt x v->jh xs us->r x xs H Q->
  wpAny (model X.prog X.w) X.A (call (.builtin id) (v::us)) (EP X pins σ Q) X.xe s
theorem jh.one:∀{x:V} {us:List Value},jh [x] us->∃u,us=[u]/\jt x u
 | _,_,.cons r .nil=>⟨_,rfl,r⟩
theorem jh.eraseIdx:∀{xs:List V} {us:List Value} (i:Nat),jh xs us->jh (xs.eraseIdx i) (us.eraseIdx i)
 | _,_,_,.nil=>.nil
 | _,_,0,.cons _ t=>t
 | _,_,i+1,.cons r t=>.cons r (jh.eraseIdx i t)
theorem jh.rep{xs:List V}{us:List Value}(h:jh xs us):∀k:Nat,jh (List.replicate k xs).flatten (List.replicate k us).flatten
 | 0=>.nil
 | k+1=>by
  rw[List.replicate_succ,List.replicate_succ,List.flatten_cons,List.flatten_cons];exact jh.append h (jh.rep h k)
theorem km{α:Type}:∀(l:List α) (i:Nat),(l.eraseIdx i).length<=l.length
 | [],_=>wPa _
 | _::_,0=>vMa _
 | _::r,i+1=>Nat.succ_le_succ (km r i)
theorem kn(its:List Value):∀(k:Nat) (acc:List Value),
  List.foldl (fun x1 x2=>x1++x2) acc.toArray (List.replicate k its.toArray)=(acc++(List.replicate k its).flatten).toArray
 | 0,acc=>by simp
 | k+1,acc=>by
  have e:acc.toArray++its.toArray=(acc++its).toArray:=by simp
  have e2:(acc++its)++(List.replicate k its).flatten=acc++(List.replicate (k+1) its).flatten:=by
   rw[List.replicate_succ,List.flatten_cons,List.append_assoc]
  rw[<-e2,<-kn its k (acc++its),<-e,List.replicate_succ,List.foldl_cons]
section
variable {X:Cx} {pins:List (Addr×Obj)} {σ:St} {H:Hp} {s:Shared} {l b:Addr} {xs ys zs:List V}
theorem Inv.lset{its its':List Value}{n:Nat}{f:Array Value->Array Value}{t':Nat}(I:Inv X pins σ H s)(hH:H l=some (.lst xs))
  (e:s.heap.get? l=some { cls:=.type "list",data:=.seq its.toArray n }) (hf:f its.toArray=its'.toArray) (hv:jh ys its') (hz:ys.length<=sizeLine):
  Inv X pins σ (upd H l (.lst ys)) { s with heap:=s.heap.update l (Obj.mapSeq f),toks:=t' }:=by
 have q:=PySem.IsL.update e f;rw[hf]at q;refine I.write (x:=l) (e:=l) (by rw[hH];exact trivial) (.inl rfl) (fun b' u hb hu=>(wKa s.heap (Obj.mapSeq f) (Ne.symm hb)).trans hu) ⟨_,q⟩ ?_;exact⟨hz,its',_,hv,q⟩
theorem Inv.lnew{its:List Value}{t':Nat}(I:Inv X pins σ H s)(hv:jh ys its)(hz:ys.length<=sizeLine):
  Inv X pins σ (upd H s.heap.objs.size (.lst ys)) { s with heap:=s.heap.push { cls:=.type "list",data:=.seq its.toArray },toks:=t' }:=
 I.laid (fun _ _ q=>wIa _ q) (wPa _) ⟨hz,its,0,hv,wJa _ rfl⟩
theorem Inv.fresh(I:Inv X pins σ H s):H s.heap.objs.size=none:=I.hok.fresh (wPa _)
theorem Inv.lstM(I:Inv X pins σ H s)(hH:H l=some (.lst xs)):xs.length<=sizeLine/\∃(its:List Value) (n:Nat),jh xs its/\xs.length=its.length/\s.heap.get? l=some { cls:=.type "list",data:=.seq its.toArray n }:=by
 obtain⟨z,its,n,r,e⟩:=I.hok l _ hH;exact⟨z,its,n,r,r.length,e⟩
theorem XD{n:Nat}(h:n<=sizeLine):Builtin.List.listTooLong n=false:=by
 unfold Builtin.List.listTooLong;exact vBa (by omega)
end
section
variable {X:Cx}
def uZ:V->List V->Hp->VK->Prop:=fun x vs H Q=>∃l xs y,x=.ref l/\vs=[y]/\H l=some (.lst xs)/\xs.length < sizeLine/\Q .non (upd H l (.lst (xs++[y])))
theorem QM:C3 X "list.append" uZ:=by
 intro pins s σ H x vs v us Q I rx rv h;obtain⟨l,xs,y,rfl,rfl,hH,hz,q⟩:=h;cases rx;obtain⟨u,rfl,ru⟩:=rv.one;obtain⟨z,its,n,r,hl,e⟩:=I.lstM hH;refine call_meets F.slot_list_append ⟨_,e,rfl⟩ F.entry_list_append (F.args_list_append_2 _ _) (PySem.list_append l its.toArray n u (by rw[List.size_toArray];omega)) ⟨e,?_⟩;refine⟨.non,_,I.lset (its':=its++[u]) hH e (by simp) (r.append (.cons ru .nil)) ?_,rfl,q⟩;rw[List.length_append,List.length_singleton];omega
def QN:V->List V->Hp->VK->Prop:=fun x vs H Q=>∃l xs i k y,x=.ref l/\vs=[.int i]/\H l=some (.lst xs)/\-(2 ^ 63)<=i/\i < 2 ^ 63/\seqIndex? i xs.length=some k/\xs[k]?=some y/\Q y (upd H l (.lst (xs.eraseIdx k)))
theorem XE:C3 X "list.pop" QN:=by
 intro pins s σ H x vs v us Q I rx rv h;obtain⟨l,xs,i,k,y,rfl,rfl,hH,h1,h2,hk,hy,q⟩:=h;cases rx;obtain⟨u,rfl,ru⟩:=rv.one;obtain⟨t,rfl⟩:=ru;obtain⟨z,its,n,r,hl,e⟩:=I.lstM hH;obtain⟨w,hw,rw'⟩:=r.get hy;refine call_meets F.slot_list_pop ⟨_,e,rfl⟩ F.entry_list_pop (F.args_list_pop_2 _ _)
  (MeetsSeq.list_pop_at l its.toArray n i t k w (fitsIndex_both h1 h2) (by rw[List.size_toArray,<-hl];exact hk) (by rw[<-Array.getElem?_toList];exact hw) (by rw[List.size_toArray];omega)) ⟨e,?_⟩
 refine⟨y,_,I.lset (its':=its.eraseIdx k) hH e ?_ (r.eraseIdx k) ?_,rw',q⟩
 ·show its.toArray.eraseIdxIfInBounds k=(its.eraseIdx k).toArray;rw[List.eraseIdxIfInBounds_toArray]
 ·have:=km xs k;omega
def XF:R2:=fun x y H Q=>∃l b xs zs,x=.ref l/\y=.ref b/\H l=some (.lst xs)/\H b=some (.lst zs)/\xs.length+zs.length<=sizeLine/\∀p,H p=none->Q (.ref p) (upd H p (.lst (xs++zs)))
theorem QO:jF X (binaryOp .Add) XF:=by
 intro pins s σ H x y v u Q I rx ry h;obtain⟨l,b,xs,zs,rfl,rfl,hH,hB,hz,q⟩:=h;cases rx;cases ry;obtain⟨z,its,n,r,hl,e⟩:=I.lstM hH;obtain⟨z2,its2,n2,r2,hl2,e2⟩:=I.lstM hB;refine PySem.P.add_list e e2 ?_ (by rw[List.size_toArray,List.size_toArray];omega);have ea:its.toArray++its2.toArray=(its++its2).toArray:=by simp
 rw[ea];exact⟨.ref _,_,I.lnew (t':=s.toks) (r.append r2) (by rw[List.length_append];omega),rfl,q _ I.fresh⟩
def C4:R2:=fun x y H Q=>∃l k xs,x=.ref l/\y=.int k/\H l=some (.lst xs)/\-(2 ^ 63)<=k/\k < 2 ^ 63/\xs.length * k.toNat<=sizeLine/\
 ∀p,H p=none->Q (.ref p) (upd H p (.lst (List.replicate k.toNat xs).flatten))
theorem bF{α:Type}(xs:List α)(k:Nat):(List.replicate k xs).flatten.length=k * xs.length:=by
 induction k with
 | zero=>simp
 | succ k ih=>rw[List.replicate_succ,List.flatten_cons,List.length_append,ih,Nat.succ_mul,Nat.add_comm]
theorem C5:jF X (binaryOp .Mult) C4:=by
 intro pins s σ H x y v u Q I rx ry h;obtain⟨l,k,xs,rfl,rfl,hH,h1,h2,hz,q⟩:=h;cases rx;obtain⟨t,rfl⟩:=ry;obtain⟨z,its,n,r,hl,e⟩:=I.lstM hH;have hlen:its.toArray.size * k.toNat<=sizeLine:=by rw[List.size_toArray,<-hl];exact hz
 have hcap:¬its.toArray.size * k.toNat > (2 ^ 63 - 1) / 8:=by
  have:(sizeLine:Nat)<=(2 ^ 63 - 1) / 8:=by decide
  omega
 have hfit:¬(!Builtin.List.listFitsIndex k)=true:=by
  rw[fitsIndex_both h1 h2];exact vNa
 have hlong:¬Builtin.List.listTooLong (its.toArray.size * k.toNat)=true:=by
  rw[XD hlen];exact vNa
 have hnew:List.foldl (fun x1 x2=>x1++x2) #[] (List.replicate (if its.toArray.isEmpty=true then 0 else k.toNat) its.toArray)=(List.replicate k.toNat its).flatten.toArray:=by
  have f0:∀m:Nat,List.foldl (fun x1 x2=>x1++x2) #[] (List.replicate m its.toArray)=(List.replicate m its).flatten.toArray:=fun m=>by
   have:=kn its m [];rw[List.nil_append]at this;exact this
  rw[f0];cases its with
  | nil=>simp
  | cons a r'=>rw[if_neg (by simp)]
 refine wpAny_binaryOp_repeat_ref (T := "list") (U := "int") (by decide) ⟨_,e,rfl⟩ (fun s'=>typeIs_int s' k t) noFill_list_mul F.fills_int_mul F.slot_int_rmul repeat_list F.slot_int_index.lookup
  (call_meets F.slot_int_rmul (typeIs_int s k t) F.entry_int_rmul (F.args_int_rmul_2 _ _) (int___rmul___int_list k t l its.toArray n)
   ⟨e,rfl,⟨_,e,rfl⟩,call_meets F.slot_list_mul ⟨_,e,rfl⟩ F.entry_list_mul (F.args_list_mul_2 _ _) (AutoListH.list___mul___list_int_3 l its.toArray n k t hfit hcap hlong) ⟨e,?_⟩⟩)
 rw[hnew];exact⟨.ref _,_,I.lnew (t':=s.toks) (r.rep k.toNat) (by rw[bF,Nat.mul_comm];exact hz),rfl,q _ I.fresh⟩
end
end L2
namespace Att
open PySem PySem.W PySem.Calls PyProof.Rows
theorem ints_of_wellAll{P:Params}{h:Heap}:∀(ns:List Int) (vs:List Value),WellAll P h vs (ns.map WData.int)->IntsAre vs ns:=by
 intro ns;induction ns with
 | nil=>
  intro vs w;rw[List.map_nil]at w;cases w;exact .nil
 | cons n ns ih=>
  intro vs w;rw[List.map_cons]at w;cases w with
  | cons a b=>
   cases a;exact .cons _ _ (ih _ b)
theorem script_of{l:OpenLaw}{n:Nat}(hn:l.most=some n){P:Params}{h:Heap}{args:List WData}{vals:List Value}
  (hpre:l.row.toRowW.claim.pre args=true) (hwl:WellAll P h vals args):
  ∃a vs ns,vals=[Value.ref a]/\args=[WData.list (ns.map WData.int)]/\h.get? a=some { cls:=.type "list",data:=.seq vs.toArray }/\IntsAre vs ns/\ns.length<=n:=by
 have hsh:WShape.hasAll [] args [.list .int]=true:=(pre_splitW hpre).1;have hc:l.pre.holds [] { args:=args }=true:=(pre_splitW hpre).2;obtain⟨d,r,rfl,h1,h2⟩:=hasAllW_cons hsh;obtain rfl:=hasAllW_nil h2;obtain⟨xs,rfl,h3⟩:=hasW_list h1;obtain⟨ns,rfl⟩:=items_int h3;have hlen:ns.length<=n:=by
  unfold OpenLaw.pre at hc;have h4:(WTm.not (.lt (.lit (.int (n:Int))) (.len (.arg 0)))).holds [] { args:=[.list (ns.map .int)] }=true:=by
   have h4:=(holds_andW hc).1;rw[hn]at h4;exact h4
  have h5:=condW_of h4 (w_not (w_lt w_lit (w_len_list (w_arg rfl))));rw[List.length_map]at h5;refine Nat.le_of_not_lt fun q=>?_;have q':(n:Int) < ((ns.length:Nat):Int):=by omega
  first
   | (rw[decide_eq_true q']at h5;exact vDa h5 (by decide))
   | (simp at h5;omega)
 cases hwl with
 | cons w1 w2=>
  cases w2;cases w1 with
  | list ho hall=>exact⟨_,_,ns,rfl,rfl,ho,ints_of_wellAll ns _ hall,hlen⟩
theorem post_true(l:OpenLaw)(args:List WData):l.row.toRowW.claim.post args (.bool true) args=true:=
 postW_of (r:=l.row.toRowW) (X:=(true==true))
  (show WShape.has [] (.bool true) .bool=true by first | rfl | decide | simp[WShape.has,WShape.arms,WShape.armsAll])
  (show(WTm.eq .res (.lit (.bool true))).value [] { args:=args,res:=some (.bool true),after:=args }=some (.bool (true==true)) from w_eq_bool (w_res rfl) w_lit) rfl
theorem attach_call{l:OpenLaw}{n:Nat}{q:Program}{loose:List Str}{XP:(Str->Option Value)->Heap->Prop}{YP:World->Heap->Prop}{d:DefRec}
  (hn:l.most=some n) (hdf:d.params.defaults=[])
  (call:∀(w:World) (s₀ s₁:Shared) (mg mb:Str->Option Value) (fa:Addr) (o:Obj) (pm cd doc:Value) (a:Addr) (vs:List Value) (ns:List Int),
   Ground q loose [] XP w s₀ mg mb s₁.heap->YP w s₁.heap->
   s₁.heap.get? fa=some o->o.data=.func (docDef d.name d.params d.body d.scope pm cd doc)->s₁.heap.CodeRec cd d.name->mg d.name=some (.ref fa)->
   s₁.heap.get? a=some { cls:=.type "list",data:=.seq vs.toArray }->IntsAre vs ns->ns.length<=n->s₁.gens=#[]->
   codeAny (model l.prog w) callerA (.call (.ref fa) ⟨[.ref a],[]⟩) (fun r s'=>r=.ok (.ret (.bool true))/\OldK s₁.heap s'.heap/\s'.os=s₁.os/\AllBare s'.gens) s₁):
  WalkO q loose XP YP l.row.toRowW d [] (fun f vs=>PySem.call f vs):=by
 intro w s₀ s₁ mg mb G Y fa o pm cd doc dV kV ho hd hcd hD hmg hg args vals as hpre hlay hrd hwl hlo;obtain rfl:dV=.none:=Dflts.none hD hdf;obtain rfl:kV=.none:=Dflts.noKw hD;obtain⟨a,vs,ns,rfl,rfl,hobj,hints,hlen⟩:=script_of hn hpre hwl;refine enter_call (codeAny_mono (call w s₀ s₁ mg mb fa o pm cd doc a vs ns G Y ho (fd_plain hd) hcd hmg hobj hints hlen hg) fun r s' hq=>?_);obtain⟨rfl,h2,h3,h4⟩:=hq;exact⟨.inl ⟨.bool true,.bool true,[],rfl,fun _=>rfl,.bool true,post_true l _,fun _=>⟨List.Pairwise.nil,fun _ hm=>(nomatch hm)⟩⟩,h2,h3,h4⟩
end Att
namespace L2
open PySem PySem.Spec PyProof.Rows
theorem ko:∀{vs:List Value} {ns:List Int},IntsAre vs ns->jh (ns.map V.int) vs
 | _,_,.nil=>.nil
 | _,_,.cons n t h=>.cons ⟨t,rfl⟩ (ko h)
def XH(H:Hp):Prop:=∀b,H b=none∨∃o xs,H b=some (.frz o (.lst xs))
theorem XI{P:Program}{w:World}{K:PySem.W.Frag}{mg mb:Str->Option Value}{CX:ub}{k:Nat}{fa a:Addr}{fd:FuncData}{x:Str}{sp:Sp}{s₁:Shared}{vs:List Value}{ns:List Int}
  (KX:K.In s₁.heap) (hns:s₁.heap.Ns mainGlobals mg) (hb:s₁.heap.Ns builtinsNs mb) (hbb:∀x:Str,x≠ "__name__" ->mb x=bootBuiltins x) (hlim:s₁.heap.NoLimit) (hg:s₁.gens=#[])
  (ha:s₁.heap.get? a=some { cls:=.type "list",data:=.seq vs.toArray }) (hi:IntsAre vs ns) (hl:ns.length<=sizeLine) (hr:Room k callerA)
  (F:∀base:Heap,K.In base->base.Ns mainGlobals mg->FnOk P w K mg base CX k fa fd [x] sp) (hbind:∀(s:Shared) (u:Value),BindsTo s fd ⟨[u],[]⟩ [(x,u)])
  (hsp:∀H:Hp,XH H->jC K H a (ns.map V.int)->sp [.ref a] H (fun v _=>v=.bl true) fun _ _ _=>False)
  (hCX:∀H e s',CX [] H s₁ (fun _ _ _=>False) e s'->False):
  codeAny (model P w) callerA (.call (.ref fa) ⟨[.ref a],[]⟩) (fun r s'=>r=.ok (.ret (.bool true))/\OldK s₁.heap s'.heap/\s'.os=s₁.os/\AllBare s'.gens) s₁:=by
 have rv:=ko hi;have lenV:=hi.length;have core:∀H:Hp,XH H->jC K H a (ns.map V.int)->ym P w H s₁.heap->(∀b,H b≠none->b=a)->(H a≠none->K.lookup a=none)->
   codeAny (model P w) callerA (.call (.ref fa) ⟨[.ref a],[]⟩) (fun r s'=>r=.ok (.ret (.bool true))/\OldK s₁.heap s'.heap/\s'.os=s₁.os/\AllBare s'.gens) s₁:=by
  intro H hO hS hok hA hK;have base_of:∀{b:Addr} {o:Obj},s₁.heap.get? b=some o->H b=none->(Ve s₁.heap H).get? b=some o:=fun e n=>Xj e n;have noA:∀{b:Addr} {o:Obj} {es:Array DictEntry} {ep:Nat},s₁.heap.get? b=some o->o.data=.dict es ep->H b=none:=fun {b o es ep} e d=>by
   cases q:H b with
   | none=>rfl
   | some u=>
    have e':b=a:=hA b (by rw[q];simp);subst e';rw[ha]at e;cases e;have d':Data.seq vs.toArray _=Data.dict es ep:=d;cases d'
  have nsK:∀{b:Addr} {m:Str->Option Value},s₁.heap.Ns b m->(Ve s₁.heap H).Ns b m:=fun {b m} ⟨o,es,ep,e,d,r⟩=>⟨o,es,ep,base_of e (noA e d),d,r⟩
  have hKb:K.In (Ve s₁.heap H):=fun b o e=>base_of (KX b o e) (by
   cases q:H b with
   | none=>rfl
   | some u=>
    have e':b=a:=hA b (by rw[q];simp);subst e';rw[hK (by rw[q];simp)]at e;cases e)
  have hM:Mod K mg (Ve s₁.heap H):=⟨hKb,nsK hns,⟨mb,nsK hb,hbb⟩,let ⟨mc,h1,h2⟩:=hlim;⟨mc,nsK h1,h2⟩⟩
  have e0:Env0 P w K mg (Ve s₁.heap H) callerA [] s₁ H:=⟨rfl,hM,fun b o e=>bh e,Nat.le_of_eq (Qw _ _),trivial,fun b hb=>vDa (show b∈([]:List Addr) from hb) (by simp),hok,.of_eq hg⟩
  refine codeAny_mono ((F _ hKb (nsK hns)).run callerA [] s₁ H ⟨[.ref a],[]⟩ [.ref a] [.ref a] _ _ hr e0 (hbind s₁ (.ref a)) (.cons rfl .nil) (hsp H hO hS)) fun r s' h=>?_;cases r with
  | error e=>exact(hCX H e s' h).elim
  | ok fl=>
   cases fl with
   | next=>exact False.elim h
   | brk=>exact False.elim h
   | cont=>exact False.elim h
   | ret u=>
    obtain⟨v,H',os,bare,un,hok',r',q⟩:=h;have q':v=.bl true:=q;subst q';obtain rfl:u=Value.bool true:=r';refine⟨rfl,OldK.of_keep fun b o e=>?_,os,bare⟩;cases q:H b with
    | none=>exact un.keep b o e q (by intro z;exact vDa (show b∈([]:List Addr) from z) (by simp)) (by simp)
    | some u=>
     rcases hO b with z | ⟨ob,xs,z⟩
     ·rw[q]at z;cases z
     ·have z2:=un.frzs b ob _ z;obtain⟨e1,_⟩:=hok b _ z;obtain⟨e2,_⟩:=hok' b _ z2;rw[e]at e1;cases e1;exact e2
 cases hk:K.lookup a with
 | some o=>
  have e:=KX a o hk;rw[ha]at e;cases e;refine core (fun _=>none) (fun _=>.inl rfl) (.inr ⟨_,vs.toArray,_,hk,rfl,rfl,rfl,by rw[List.size_toArray,lenV];exact hl,by simpa using rv⟩) (fun b u z=>by have z':(none:Option HO)=some u:=z;cases z') (fun b z=>vDa rfl z) fun z=>vDa rfl z
 | none=>
  refine core (fun b=>if b=a then some (.frz { cls:=.type "list",data:=.seq vs.toArray } (.lst (ns.map V.int)))else none) (fun b=>?_) (.inl (.inr ⟨{ cls:=.type "list",data:=.seq vs.toArray },if_pos rfl⟩)) (fun b u z=>?_) (fun b z=>?_) fun _=>hk
  ·by_cases hb:b=a
   ·exact .inr ⟨_,_,if_pos hb⟩
   ·exact .inl (if_neg hb)
  ·by_cases hb:b=a
   ·have z':=(if_pos hb).symm.trans z;cases z';subst hb;exact⟨ha,by rw[List.length_map];exact hl,vs,_,rv,ha⟩
   ·have z':=(if_neg hb).symm.trans z;cases z'
  ·by_cases hb:b=a
   ·exact hb
   ·exact vDa (if_neg hb) z
noncomputable abbrev lJ{K:PySem.W.Frag}{h:Heap}(_:K.In h):PySem.W.Frag:=K
theorem bG{l:PySem.W.OpenLaw}{n k:Nat}{q:Program}{loose:List Str}{XP:(Str->Option Value)->Heap->Prop}{YP:World->Heap->Prop}{d:DefRec}{K:Params->PySem.W.Frag}{CX:World->ub}{sp:World->Sp}{x:Str}
  (hn:l.most=some n) (hn2:n<=sizeLine) (hdf:d.params.defaults=[]) (hr:Room k callerA)
  (hY:∀(w:World) (h:Heap),YP w h->(K w.params).In h)
  (F:∀(w:World) (mg:Str->Option Value) (fa:Addr) (h:Heap),(K w.params).In h->h.Ns mainGlobals mg->mg d.name=some (.ref fa)->
   ∃fd:FuncData,(∀(s:Shared) (u:Value),BindsTo s fd ⟨[u],[]⟩ [(x,u)])/\
    ∀base:Heap,(K w.params).In base->base.Ns mainGlobals mg->FnOk l.prog w (K w.params) mg base (CX w) k fa fd [x] (sp w))
  (hsp:∀(w:World) (H:Hp) (a:Addr) (ns:List Int),ns.length<=n->XH H->jC (K w.params) H a (ns.map V.int)->sp w [.ref a] H (fun v _=>v=.bl true) fun _ _ _=>False)
  (hCX:∀(w:World) (H:Hp) (s:Shared) (e:Value) (s':Shared),CX w [] H s (fun _ _ _=>False) e s'->False):
  PySem.W.WalkO q loose XP YP l.row.toRowW d [] (fun f vs=>PySem.call f vs):=by
 refine Att.attach_call hn hdf fun w s₀ s₁ mg mb fa o pm cd doc a vs ns G Y ho hd hcd hmg hobj hints hlen hg=>?_;have KX:=hY w _ Y;obtain⟨fd,hb,hF⟩:=F w mg fa _ KX G.T.g hmg;exact XI KX G.T.g G.T.b G.T.builtins G.T.nolimit hg hobj hints (wSa hlen hn2) hr hF hb (fun H hO hS=>hsp w H a ns hlen hO hS) fun H e s'=>hCX w H s₁ e s'
noncomputable def inClass(s:Stmt)(j:Nat):Stmt:=match s with
 | .ClassDef _ _ _ body _ _ _ _ _ _ _=>body.getD j (.Pass ⟨0,0,0,0⟩)
 | _=>.Pass ⟨0,0,0,0⟩
noncomputable def defArgs(s:Stmt):Arguments:=match s with
 | .FunctionDef _ a _ _ _ _ _ _ _ _=>a
 | _=>{ posonlyargs:=[],args:=[],vararg:=none,kwonlyargs:=[],kw_defaults:=[],kwarg:=none,defaults:=[] }
noncomputable def defBody(s:Stmt):List Stmt:=match s with
 | .FunctionDef _ _ b _ _ _ _ _ _ _=>b
 | _=>[]
noncomputable def defScope(s:Stmt):Scope:=match s with
 | .FunctionDef _ _ _ _ _ _ sc _ _ _=>sc
 | _=>{ kind:=.function,names:=[],isGenerator:=false,isCoroutine:=false }
abbrev Y5:ub:=fun _ _ _ _ _ _=>False
abbrev E0:XK:=fun _ _ _=>False
theorem q_{X:Cx}:vY Y5 X E0:=fun _ _ _ _ _ _ _ h=>h.elim
structure Fun (K:PySem.W.Frag) (x qual:Str) (st:Stmt) (f:Addr) (fd:FuncData):Prop where
 ex:∃(oc:Value) (od:Option Addr) (kV doc pm:Value) (an:Option Addr) (cdv ct:Value) (osl:Array (Option Value)),
  fd=PySem.W.fnOf x qual (defArgs st) (defBody st) (defScope st) .none kV doc pm an cdv ct/\K.lookup f=some ⟨oc,od,.func fd,osl⟩/\PySem.W.codeIn K cdv qual=true
 kp:PySem.W.keepIn K (.ref f)=true
section
variable {P:Program} {w:World} {K:PySem.W.Frag} {mg:Str->Option Value} {base:Heap}
theorem Fun.ok{x qual:Str}{st:Stmt}{f:Addr}{fd:FuncData}{N ps:List Str}{k:Nat}{sp:Sp}(F:Fun K x qual st f fd)(S:FnScope N ps (defScope st))(len:∀vs H Q E,sp vs H Q E->vs.length=ps.length)
  (hbody:∀(cdv:Value) (A:Around) (outer:List Env) (s:Shared) (H:Hp) (vs:List V) (Q:VK) (E:XK),Room k (A.deeper (envOfC qual (defScope st) s.heap.objs.size f cdv))->sp vs H Q E->
   ∃t,Jc (zX Y5 P w K mg base N qual (defScope st) f cdv A outer s H E).nox (defBody st) t/\t { nx:=fun _ H'=>Q .non H',rt:=Q } (YC N vs) H):FnOk P w K mg base Y5 (k+1) f fd ps sp:=by
 obtain⟨oc,od,kV,doc,pm,an,cdv,ct,osl,rfl,lk,hcd⟩:=F.ex;refine EA lk hcd S len fun A outer s H vs Q E hr hsp=>?_;obtain⟨t,h,q⟩:=hbody cdv A outer s H vs Q E hr hsp;exact⟨t,h.nox,q⟩
theorem Fun.binds{x qual:Str}{st:Stmt}{f:Addr}{fd:FuncData}{ps:List Str}(F:Fun K x qual st f fd)
  (h:∀(kV doc pm:Value) (an:Option Addr) (cdv ct:Value) (us:List Value),us.length=ps.length->bindArgs (PySem.W.fnOf x qual (defArgs st) (defBody st) (defScope st) .none kV doc pm an cdv ct) ⟨us,[]⟩=pure (ps.zip us)):YS K fd ps []:=by
 obtain⟨oc,od,kV,doc,pm,an,cdv,ct,osl,rfl,lk,hcd⟩:=F.ex;exact .all (h kV doc pm an cdv ct)
theorem ud{x qual:Str}{st:Stmt}{f:Addr}{oc:Value}{od an:Option Addr}{osl:Array (Option Value)}{kV doc pm cdv ct:Value}(l:K.lookup f=some ⟨oc,od,.func (PySem.W.fnOf x qual (defArgs st) (defBody st) (defScope st) .none kV doc pm an cdv ct),osl⟩)
  (c:PySem.W.codeIn K cdv qual=true) (k:PySem.W.keepIn K (.ref f)=true):Fun K x qual st f (PySem.W.fnOf x qual (defArgs st) (defBody st) (defScope st) .none kV doc pm an cdv ct):=⟨⟨oc,od,kV,doc,pm,an,cdv,ct,osl,rfl,l,c⟩,k⟩
end
theorem QP{n:Nat}(h:n<=1000):n < sizeLine:=wRa h (by decide)
section
variable {X:Cx}
theorem pv(i:Nat){x:Str}{pos:Pos}(hN:X.N[i]?=some x:=by rfl)(hv:WK X.env.scope x:=by first | exact Or.inl rfl | exact Or.inr (Or.inl rfl) | exact Or.inr (Or.inr rfl))(hd:(x==("__debug__" : Str))=false:=by decide)
  (hcd:(x==("__classdict__" : Str))=false:=by decide):PE X (.Name x pos) (ye i):=BL hN hv hd hcd
end
theorem zY{A B:Prop}(h:B):if false=true then A else B:=by
 rw[if_neg Bool.false_ne_true];exact h
theorem zZ{A B:Prop}(h:A):if true=true then A else B:=by
 rw[if_pos rfl];exact h
def j4(H H':Hp):Prop:=∀b o,H b=some o->H' b=some o
theorem j4.refl(H:Hp):j4 H H:=fun _ _ h=>h
theorem j4.trans{H H1 H2:Hp}(a:j4 H H1)(b:j4 H1 H2):j4 H H2:=fun c o h=>b c o (a c o h)
theorem j4.free{H H':Hp}(e:j4 H H'){l:Addr}(h:H' l=Option.none):H l=Option.none:=by
 cases q:H l with
 | none=>rfl
 | some o=>
  rw[e l o q]at h;cases h
theorem j4.seq{K:PySem.W.Frag}{H H':Hp}{a:Addr}{xs:List V}(e:j4 H H')(h:jC K H a xs):jC K H' a xs:=by
 rcases h with(h | ⟨o,h⟩) | h
 ·exact .inl (.inl (e _ _ h))
 ·exact .inl (.inr ⟨o,e _ _ h⟩)
 ·exact .inr h
end L2
set_option maxHeartbeats 4000000
namespace L2
open PySem PySem.Spec PyProof.Rows
noncomputable def Y6(env:Env):List (Str×NameKind)->List (Str×Addr)->List (Str×Addr)
 | [],cs=>cs
 | (n,k)::r,cs=>Y6 env r (if k==.free then(match env.cells.lookup n with | some a=>(n,a)::cs | none=>cs)else cs)
theorem Gx{env:Env}:∀{ns:List (Str×NameKind)} {cs:List (Str×Addr)},(∀x c,cs.lookup x=some c->env.cells.lookup x=some c)->∀x c,(Y6 env ns cs).lookup x=some c->env.cells.lookup x=some c
 | [],_,h,x,c,e=>h x c e
 | (n,k)::r,cs,h,x,c,e=>by
  refine Gx (ns:=r) ?_ x c e;intro y d q;by_cases hk:(k==NameKind.free)=true
  ·rw[if_pos hk]at q;cases hl:env.cells.lookup n with
   | none=>rw[hl]at q;exact h y d q
   | some a=>
    rw[hl]at q;have q:((n,a)::cs).lookup y=some d:=q;rw[List.lookup_cons]at q;cases hy:(y==n)with
    | true=>
     rw[hy]at q;have e1:y=n:=by simpa using hy
     have e2:a=d:=by simpa using q
     rw[e1,hl,e2]
    | false=>rw[hy]at q;exact h y d q
  ·rw[if_neg hk]at q;exact h y d q
theorem kq{env:Env}:∀{ns:List (Str×NameKind)} {cs:List (Str×Addr)} {x:Str},(∃c,cs.lookup x=some c)->∃c,(Y6 env ns cs).lookup x=some c
 | [],_,_,h=>h
 | (n,k)::r,cs,x,h=>by
  refine kq (ns:=r) ?_;by_cases hk:(k==NameKind.free)=true
  ·rw[if_pos hk];cases hl:env.cells.lookup n with
   | none=>exact h
   | some a=>
    show∃c,((n,a)::cs).lookup x=some c;rw[List.lookup_cons];cases hy:(x==n)with
    | true=>exact⟨a,rfl⟩
    | false=>exact h
  ·rw[if_neg hk];exact h
theorem UG{env:Env}:∀{ns:List (Str×NameKind)} {cs:List (Str×Addr)} {x:Str},(x,NameKind.free)∈ns->(∃c,env.cells.lookup x=some c)->∃c,(Y6 env ns cs).lookup x=some c
 | (n,k)::r,cs,x,hm,hc=>by
  rcases List.mem_cons.mp hm with e | hm
  ·cases e;obtain⟨c,hc⟩:=hc;refine kq (ns:=r) ?_;rw[if_pos (by rfl)];rw[hc];exact⟨c,by rw[List.lookup_cons];simp⟩
  ·exact UG (ns:=r) hm hc
theorem Gy{scope:Scope}{env:Env}(h:∀y∈scope.names,y.2=.free->∃c,env.cells.lookup y.1=some c):closureFor scope env=pure (Y6 env scope.names []):=by
 unfold closureFor;have go:∀(ns:List (Str×NameKind)) (cs:List (Str×Addr)),(∀y∈ns,y.2=.free->∃c,env.cells.lookup y.1=some c)->
   (forIn ns cs fun(x:Str×NameKind) (r:List (Str×Addr))=>(match x with
    | (name,kind)=>if (kind==NameKind.free)=true then(do let a<-cellOf env name;pure (ForInStep.yield ((name,a)::r)))else pure (ForInStep.yield r):Sem (ForInStep (List (Str×Addr)))))=pure (Y6 env ns cs):=by
  intro ns;induction ns with
  | nil=>intro cs _;rfl
  | cons p r ih=>
   obtain⟨n,k⟩:=p;intro cs hh;rw[List.forIn_cons];by_cases hk:(k==NameKind.free)=true
   ·obtain⟨c,hc⟩:=hh (n,k) wNa (by simpa using hk);have hc:env.cells.lookup n=some c:=hc;have e1:cellOf env n=pure c:=by unfold cellOf;rw[hc]
    have e2:Y6 env ((n,k)::r) cs=Y6 env r ((n,c)::cs):=by
     show Y6 env r (if (k==NameKind.free)=true then _ else _)=_;rw[if_pos hk,hc]
    dsimp only;rw[if_pos hk,e1,e2,<-ih ((n,c)::cs) fun y hy=>hh y (List.mem_cons_of_mem _ hy)];rfl
   ·have e2:Y6 env ((n,k)::r) cs=Y6 env r cs:=by
     show Y6 env r (if (k==NameKind.free)=true then _ else _)=_;rw[if_neg hk]
    dsimp only;rw[if_neg hk,e2,<-ih cs fun y hy=>hh y (List.mem_cons_of_mem _ hy)];rfl
 exact(congrArg (fun m=>m >>= fun r=>(pure r:Sem (List (Str×Addr)))) (go scope.names [] h)).trans rfl
def Cx.comp(X:Cx)(N':List Str)(scope:Scope)(s3:Shared)(H3:Hp)(ex':List Addr):Cx:=
 { X with N:=N',s₀:=s3,H₀:=H3,env:=compEnvC scope (Y6 X.env scope.names []) s3.heap.objs.size X.env,outer:=X.stack,stack:=X.stack,ex:=ex',fn:=fun _=>false,pn:=[],xe:=fun _ _=>False }
inductive Caps (X:Cx) (scope:Scope):List (Str×Nat)->Prop
 | nil:Caps X scope []
 | cons {y:Str} {j:Nat} {r:List (Str×Nat)}:X.N[j]?=some y->(X.env.kindOf y=some .cell∨X.env.kindOf y=some .free)->scope.names.lookup y=some .free->Caps X scope r->Caps X scope ((y,j)::r)
theorem Caps.get{X:Cx}{scope:Scope}:∀{caps:List (Str×Nat)} {k:Nat} {y:Str} {j:Nat},Caps X scope caps->caps[k]?=some (y,j)->
  X.N[j]?=some y/\(X.env.kindOf y=some .cell∨X.env.kindOf y=some .free)/\scope.names.lookup y=some .free
 | _,_,_,_,.nil,e=>by simp at e
 | _,0,_,_,.cons a b c _,e=>by simp at e;obtain⟨rfl,rfl⟩:=e;exact⟨a,b,c⟩
 | _,k+1,_,_,.cons _ _ _ t,e=>Caps.get (k:=k) t (by simpa using e)
noncomputable abbrev cN(own:List Str)(caps:List (Str×Nat)):List Str:=own++caps.map (·.1)
noncomputable abbrev zh(own:List Str)(caps:List (Str×Nat))(σ:St):St:=own.map (fun _=>none)++caps.map fun p=>(σ[p.2]?).join
def z_(X:Cx)(ifs:List Expr)(t:TT):Prop:=
 ∀(pins:List (Addr×Obj)) (s:Shared) (σ:St) (H:Hp) (Q:Bool->Hp->Prop),Inv X pins σ H s->t σ H Q->
  wpAny (model X.prog X.w) X.A (forIn ifs true fun c r=>if r=true then do let ok<-isTrue c X.env (eval c X.env);pure (ForInStep.yield ok)else pure (ForInStep.yield r)) (TP X pins σ Q) X.xe s
def EC:TT:=fun _ H Q=>Q true H
theorem bH{X:Cx}:z_ X [] EC:=fun _ _ _ H _ I h=>wpAny_tests_nil ⟨H,I,h⟩
theorem bI{X:Cx}{c:Expr}{t:TT}(h:PT X c t):z_ X [c] t:=fun pins s σ H Q I q=>wpAny_tests_one (h pins s σ H Q I q)
theorem ue{scope:Scope}{env:Env}{x:Str}{k:NameKind}(h:(relabel scope env).names.lookup x=some k):∃k0,scope.names.lookup x=some k0/\(k=k0∨(k0=.free/\k=.cell)):=by
 have go:∀ns:List (Str×NameKind),(ns.map fun(n,k)=>if (k==NameKind.free&&env.scope.kind==.function&&env.kindOf n==some .cell)then(n,NameKind.cell)else(n,k)).lookup x=some k->
   ∃k0,ns.lookup x=some k0/\(k=k0∨(k0=.free/\k=.cell)):=by
  intro ns;induction ns with
  | nil=>intro q;simp at q
  | cons p r ih=>
   obtain⟨n,k1⟩:=p;intro q;have q:List.lookup x ((if (k1==NameKind.free&&env.scope.kind==.function&&env.kindOf n==some .cell)=true then(n,NameKind.cell)else(n,k1))::(r.map fun(n,k)=>if (k==NameKind.free&&env.scope.kind==.function&&env.kindOf n==some .cell)then(n,NameKind.cell)else(n,k)))=some k:=q;by_cases hc:(k1==NameKind.free&&env.scope.kind==.function&&env.kindOf n==some .cell)=true
   ·rw[if_pos hc,List.lookup_cons]at q;rw[List.lookup_cons];cases hx:(x==n)with
    | true=>
     rw[hx]at q;have e:NameKind.cell=k:=by simpa using q
     refine⟨k1,rfl,.inr ⟨?_,e.symm⟩⟩;simp only[Bool.and_eq_true]at hc;simpa using hc.1.1
    | false=>rw[hx]at q;exact ih q
   ·rw[if_neg hc,List.lookup_cons]at q;rw[List.lookup_cons];cases hx:(x==n)with
    | true=>
     rw[hx]at q;have e:k1=k:=by simpa using q
     exact⟨k1,rfl,.inl e.symm⟩
    | false=>rw[hx]at q;exact ih q
 exact go scope.names h
def KH(k:Nat)(J:It)(σ0:St)(g:TG)(tc:TT)(te:TE)(Qv:VK)(W:Nat->Nat->List V->Hp->Prop):Prop:=∀i m vs H,W i m vs H->
  (J.stop i H/\vs.length<=sizeLine/\∀D,H D=none->Qv (.ref D) (upd H D (.lst vs)))∨
  (J.go i H/\vs.length < sizeLine/\∃N:List V->Hp->Prop,(∀vs' H',N vs' H'->∃m',m' < m/\W (i+1) m' vs' H')/\
   ∀x H',J.yld i H x H'->g x σ0 H' fun σ2 H2=>σ2.drop k=σ0.drop k/\tc σ2 H2 fun b H3=>if b=true then te σ2 H3 fun y H4=>N (vs++[y]) H4 else N vs H3)
section
variable {X:Cx} {elt tg iter:Expr} {ifs:List Expr} {scope:Scope} {pos:Pos} {own:List Str} {caps:List (Str×Nat)} {g:TG} {tc:TT} {te:TE} {pins:List (Addr×Obj)} {σ:St} {H:Hp} {s2:Shared} {J:It} {fp:List Addr} {it:Addr} {tn:Nat->Heap->Prop} {Qv:VK}
theorem bJ(hcell:∀y∈scope.names,y.2≠.cell)(hkind:scope.kind=.function)
  (hfr:∀y∈scope.names,y.2=.free->X.env.kindOf y.1=some .cell∨X.env.kindOf y.1=some .free)
  (I:Inv X pins σ H s2) {ex':List Addr} (hf:∀b∈ex',b < s2.heap.objs.size/\Jj X pins H b):(X.comp (cN own caps) scope s2 H ex').Ok:=by
 have cin:∀x c,(Y6 X.env scope.names []).lookup x=some c->X.env.cells.lookup x=some c:=Gx fun _ _ e=>by simp at e
 refine⟨I.ok.mod,hkind,I.ok.glob,I.ok.blt,wPa _,fun x y c h1 h2=>I.ok.inj x y c (cin x c h1) (cin y c h2),fun x hx=>?_,fun _ _ z=>(by cases z),I.ok.hd,I.ok.frames,.inl rfl,fun b hb=>⟨wTa (hf b hb).1,fun x c h=>(hf b hb).2.2.2.2.2.1 x c (cin x c h)⟩,
  I.bs,wSa I.ok.bsz I.sz,fun b o e hb=>?_,fun b hb hs=>?_,I.stack,I.stkFree⟩
 ·have q:∃k,(relabel scope X.env).names.lookup x=some k/\(k=.cell∨k=.free):=by
   rcases hx with hx | hx
   ·exact⟨_,hx,.inl rfl⟩
   ·exact⟨_,hx,.inr rfl⟩
  obtain⟨k,q,hk⟩:=q;obtain⟨k0,q0,hk0⟩:=ue q;have m0:=PySem.mem_of_lookup q0;have e0:k0=.free:=by
   rcases hk0 with e | e
   ·rcases hk with z | z
    ·exact vDa (e.symm.trans z) (hcell _ m0)
    ·exact e.symm.trans z
   ·exact e.1
  subst e0;exact UG m0 (I.ok.has x (hfr _ m0 rfl))
 ·rcases(hf b hb).2.2.2.2.1 with z | z
  ·exact I.ok.noex b o e z
  ·exact vDa (Nat.lt_of_lt_of_le (wLa e) (wSa I.ok.bsz z)) (wUa _)
 ·rcases List.mem_cons.mp (I.stkSub b hs)with z | z
  ·exact(hf b hb).2.2.1 z
  ·exact(hf b hb).2.2.2.1 z
theorem gt(hcell:∀y∈scope.names,y.2≠.cell)(hkind:scope.kind=.function)
  (hfr:∀y∈scope.names,y.2=.free->X.env.kindOf y.1=some .cell∨X.env.kindOf y.1=some .free) (hcap:Caps X scope caps)
  (I:Inv X pins σ H s2) {ex':List Addr} (hf:∀b∈ex',b < s2.heap.objs.size/\Jj X pins H b) {h1:Heap} {t:Nat} {m:Str->Option Value} (hn:h1.Ns s2.heap.objs.size m) (hk:∀b o,s2.heap.get? b=some o->h1.get? b=some o):
  Inv (X.comp (cN own caps) scope s2 H ex') [] (zh own caps σ) H { s2 with heap:=h1,toks:=t }:=by
 have cin:∀x c,(Y6 X.env scope.names []).lookup x=some c->X.env.cells.lookup x=some c:=Gx fun _ _ e=>by simp at e
 have ok:=bJ (own:=own) (caps:=caps) hcell hkind hfr I hf;refine⟨ok,rfl,I.bare,Un.kept hk,⟨m,hn,fun i x v e1 e2 e3=>?_⟩,fun x c e=>?_,I.hok.fresh (wPa _),fun x c e=>I.freeC x c (cin x c e),fun p hp=>vDa (show p∈([]:List (Addr×Obj)) from hp) (by simp),I.hok.kept hk,by simp[Cx.comp,cN,zh]⟩
 ·by_cases hi:i < own.length
  ·have e2:(own.map (fun _=>(none:Option V))++caps.map fun p=>(σ[p.2]?).join)[i]?=some (some v):=e2;rw[List.getElem?_append_left (by simpa using hi),List.getElem?_map]at e2;cases q:own[i]? with
   | none=>rw[q]at e2;cases e2
   | some _=>rw[q]at e2;cases e2
  ·have e2:(own.map (fun _=>(none:Option V))++caps.map fun p=>(σ[p.2]?).join)[i]?=some (some v):=e2;have e1:(own++caps.map (·.1))[i]?=some x:=e1;rw[List.getElem?_append_right (by simpa using hi),List.getElem?_map]at e2;rw[List.getElem?_append_right (by simpa using hi),List.getElem?_map]at e1;rw[List.length_map]at e2;cases q:caps[i - own.length]? with
   | none=>rw[q]at e1;cases e1
   | some p=>
    obtain⟨y,j⟩:=p;rw[q]at e1 e2;have e1:y=x:=vFa e1;subst e1;have e2:(σ[j]?).join=some v:=vFa e2;obtain⟨a1,a2,a3⟩:=hcap.get q;have sj:σ[j]?=some (some v):=by
     cases z:σ[j]? with
     | none=>rw[z]at e2;cases e2
     | some z'=>rw[z]at e2;exact congrArg some e2
    obtain⟨m0,hn0,hl0⟩:=I.loc;have vis:WK X.env.scope y:=by
     rcases a2 with z | z
     ·exact .inr (.inl z)
     ·exact .inr (.inr z)
    obtain⟨u,r,l⟩:=hl0 j y v a1 sj vis;refine⟨u,r,.inr ⟨?_,?_⟩⟩
    ·rcases e3 with z | z
     ·obtain⟨k0,q0,hk0⟩:=ue z;rw[a3]at q0;cases q0;rcases hk0 with z' | z'
      ·cases z'
      ·cases z'.2
     ·exact z
    ·rcases l with⟨hk',_⟩ | ⟨_,c,hc,z⟩
     ·rcases a2 with z | z <;> rw[hk']at z <;> cases z
     ·obtain⟨c',hc'⟩:=UG (cs:=[]) (PySem.mem_of_lookup a3) ⟨c,hc⟩;have:=cin y c' hc';rw[hc]at this;cases this;obtain⟨o,ho,hd⟩:=z;exact⟨c,hc',o,hk c o ho,hd⟩
 ·obtain⟨v,o,ho,hd⟩:=I.cell x c (cin x c e);exact⟨v,o,hk c o ho,hd⟩
end
section
variable {X:Cx} {elt tg iter:Expr} {ifs:List Expr} {scope:Scope} {pos:Pos} {own:List Str} {caps:List (Str×Nat)} {g:TG} {tc:TT} {te:TE} {pins:List (Addr×Obj)} {σ:St} {H:Hp} {s2:Shared} {J:It} {fp:List Addr} {it:Addr} {tn:Nat->Heap->Prop} {Qv:VK}
theorem ym.adopt{P:Program}{w:World}{H:Hp}{h:Heap}{D:Addr}{vs:List V}{ys:List Value}{k:Nat}(x:ym P w H h)(hn:H D=none)(hl:vs.length<=sizeLine)(r:jh vs ys)(e:h.get? D=some { cls:=.type "list",data:=.seq ys.toArray k }):ym P w (upd H D (.lst vs)) h:=fun b u q=>by
 by_cases hb:b=D
 ·subst hb;rw[jH]at q;cases q;exact⟨hl,ys,k,r,e⟩
 ·rw[jo hb]at q;exact(x b u q).stay (fun _ _ _ z=>z) (fun c z=>by rw[jo (jx z hn)];exact z) fun c xs z=>by rw[jo (jx z hn)];exact z
theorem QQ{N':List Str}{σ':St}{H':Hp}{s':Shared}{D:Addr}{vs:List V}{ys:List Value}{k:Nat}(I:Inv X pins σ H s2)(hD:D < s2.heap.objs.size)(fD:Jj X pins H D)(hf:∀b∈fp,Jj X pins H b)
  (J':Inv (X.comp N' scope s2 H (D::fp)) [] σ' H' s') (hn:H' D=none) (hl:vs.length<=sizeLine) (r:jh vs ys) (e:s'.heap.get? D=some { cls:=.type "list",data:=.seq ys.toArray k }):
  Inv X pins σ (upd H' D (.lst vs)) s':=by
 have u:Un (vU X.stack) (D::fp) H H' s2.heap s'.heap:=J'.base;have nD:∀b,b∉D::fp->b≠D:=fun b hb z=>hb (by rw[z];exact wNa);refine I.call' (ch:=D::fp) J'.os ⟨u.keep,u.slot,fun b o q n hx=>?_,u.there,fun b xs q=>?_,fun b o v q=>?_,fun b ps q=>?_⟩ (J'.hok.adopt hn hl r e) J'.bare fun b hb=>?_
 ·rw[jo (nD b hx)];exact u.free b o q n hx
 ·rw[jo (jx q fD.1)];exact u.tups b xs q
 ·rw[jo (jx q fD.1)];exact u.frzs b o v q
 ·rw[jo (jx q fD.1)];exact u.tbls b ps q
 ·have F:Jj X pins H b:=by
   rcases List.mem_cons.mp hb with z | z
   ·rw[z];exact fD
   ·exact hf b z
  exact⟨F.2.2.2.1,F.2.1,F.2.2.2.2.1,F.2.2.2.2.2⟩
theorem bK{C:Addr}{D:Addr}{W:Nat->Nat->List V->Hp->Prop}(hc:X.calm=true)
  (hg:∀s3 H3 ex',PG (X.comp (cN own caps) scope s3 H3 ex') tg g) (ht:∀s3 H3 ex',z_ (X.comp (cN own caps) scope s3 H3 ex') ifs tc) (he:∀s3 H3 ex',PE (X.comp (cN own caps) scope s3 H3 ex') elt te)
  (I:Inv X pins σ H s2) (hD:D < s2.heap.objs.size) (fD:Jj X pins H D) (nDf:D∉fp) (hfl:∀b∈fp,b < s2.heap.objs.size) (hf:∀b∈fp,Jj X pins H b) (T:Turn X.prog X.w X.K tg J fp it tn) (turn:KH own.length J (zh own caps σ) g tc te Qv W)
  (R:Result->Shared->Prop) (hR:∀s',(∃H' m,Inv X pins σ H' s'/\s'.heap.Ns s2.heap.objs.size m/\Jj X pins H' s2.heap.objs.size/\Qv (.ref D) H')->R (.ok .next) s')
  (n:Nat) (s4:Shared) (st:∃i vs H' ys k,Inv (X.comp (cN own caps) scope s2 H (D::fp)) [] (zh own caps σ) H' s4/\tn i s4.heap/\(∀b∈fp,H' b=none)/\H' D=none/\
   s4.heap.get? D=some { cls:=.type "list",data:=.seq (ys:List Value).toArray k }/\jh vs ys/\W i n vs H'):
  codeAny (model X.prog X.w) X.A (.compLoop (.ListComp elt [⟨tg,iter,ifs,0⟩] scope pos) 0 (.ref it) (.ref D) (X.comp (cN own caps) scope s2 H (D::fp)).env) R s4:=by
 let Y:=X.comp (cN own caps) scope s2 H (D::fp)
 have stat:∀{H':Hp},H' D=none->(∀b∈fp,H' b=none)->∀s':Shared,∀σ',Inv Y [] σ' H' s'->∀b∈D::fp,Jj Y [] H' b:=fun {H'} h0 h1 s' σ' I' b hb=>by
  have hb':b < s2.heap.objs.size:=by
   rcases List.mem_cons.mp hb with z | z
   ·rw[z];exact hD
   ·exact hfl b z
  refine⟨?_,wTa hb',I'.ok.exfs b hb,.inl hb,(I'.ok.exf b hb).2,fun p hp=>vDa (show p∈([]:List (Addr×Obj)) from hp) (by simp)⟩;rcases List.mem_cons.mp hb with z | z
  ·rw[z];exact h0
  ·exact h1 b z
 refine codeAny_loop rfl (fun n s'=>∃i vs H' ys k,Inv Y [] (zh own caps σ) H' s'/\tn i s'.heap/\(∀b∈fp,H' b=none)/\H' D=none/\
   s'.heap.get? D=some { cls:=.type "list",data:=.seq (ys:List Value).toArray k }/\jh vs ys/\W i n vs H') ?_ n st
 rintro n s3 ⟨i,vs,H3,ys,k,I3,st3,fr3,n3,g3,r3,w3⟩;show wpAny _ _ ((compTurn (.ListComp elt [⟨tg,iter,ifs,0⟩] scope pos) 0 (.ref it) (.ref D) Y.env).onRaise (fun x=>do noteFrame x Y.env;theTreesLotGoes x)) _ _ s3;refine wpAny_noted ?_;rw[compTurn_list];have F0:=stat n3 fr3 s3 _ I3;have pinD:∀{σ':St} {H':Hp} {s':Shared} {ps:List (Addr×Obj)} {zs:List Value} {kk:Nat},Inv Y ps σ' H' s'->H' D=none->s'.heap.get? D=some { cls:=.type "list",data:=.seq zs.toArray kk }->Inv Y (ps++[(D,{ cls:=.type "list",data:=.seq zs.toArray kk })]) σ' H' s':=fun {σ' H' s' ps zs kk} I' hn hg'=>
  I'.pins_of fun p hp=>(List.mem_append.mp hp).elim (fun z=>I'.pin p (vJa _ z)) fun z=>by
   have e:p=(D,{ cls:=.type "list",data:=.seq zs.toArray kk }):=by simpa using z
   subst e;have f:=(stat n3 fr3 s3 _ I3) D wNa;exact⟨hg',hn,f.2.1,f.2.2.1,fun v z=>by cases z⟩
 have I3p:=pinD I3 n3 g3;have F3:∀b∈fp,Jj Y ([]++[(D,{ cls:=.type "list",data:=.seq ys.toArray k })]) H3 b:=fun b hb=>by
  obtain⟨f0,f1,f2,f3,f4,f5⟩:=F0 b (wMa _ hb);refine⟨f0,f1,f2,f3,f4,fun p hp z=>?_⟩;have e:p=(D,{ cls:=.type "list",data:=.seq ys.toArray k }):=by simpa[Y,Cx.comp]using hp
  subst e;exact nDf (by rw[show D=b from z];exact hb)
 rcases turn i n vs H3 w3 with⟨stop,hl,q⟩ | ⟨go,hl,N,hN,step⟩
 ·refine wAa (vOa (wAa (wCa (T.done Y rfl rfl rfl hc i _ s3 _ H3 (fun _ _=>False) I3p F3 st3 stop) (fun r s5 h5=>?_) fun _ _ z=>z.elim)));obtain⟨hr,I5p⟩:=h5;subst hr;refine wBa (hR s5 ?_);have g5:s5.heap.get? D=some { cls:=.type "list",data:=.seq ys.toArray k }:=(I5p.pin (D,_) (by simp)).1;have I5:Inv Y [] (zh own caps σ) H3 s5:=I5p.unpinned (pins:=[]);obtain⟨m5,hm5,_⟩:=id I5.loc;refine⟨_,m5,QQ I hD fD hf I5 n3 hl r3 g5,hm5,I.fpOk (wPa _) ?_,q D n3⟩;rw[jo (Nat.ne_of_gt hD)];exact I5.free
 ·refine wAa (vOa (wAa (wCa (T.item Y rfl rfl rfl hc i _ s3 _ H3 (fun _ _=>False) I3p F3 st3 go) (fun r s5 h5=>?_) fun _ _ z=>z.elim)));obtain⟨u,hr,h5⟩:=h5;subst hr;refine wAa (wCa h5 (fun _ s6 h6=>?_) fun _ _ z=>z.elim);obtain⟨x,H6,I6,r6,y6,st6,fr6⟩:=h6;have F6:∀b∈fp,Jj Y ([]++[(D,{ cls:=.type "list",data:=.seq ys.toArray k })]) H6 b:=fun b hb=>⟨fr6 b hb,(F3 b hb).2⟩
  have I6':=I6.pinned F6 (T.obj _ _ st6);refine wAa (wCa (hg s2 H (D::fp) _ s6 _ H6 x u _ I6' r6 (step x H6 y6)) (fun _ s7 h7=>?_) fun _ _ z=>z.elim);obtain⟨σ7,H7,I7,d7,q7⟩:=h7;refine wAa (wCa (ht s2 H (D::fp) _ s7 σ7 H7 _ I7 q7) (fun b s8 h8=>?_) fun _ _ z=>z.elim);obtain⟨H8,I8,q8⟩:=h8;have fin:∀{s9:Shared} {H9:Hp} {vs':List V} {zs:List Value} {kk:Nat},Inv Y [] σ7 H9 s9->tn (i+1) s9.heap->(∀b∈fp,H9 b=none)->H9 D=none->s9.heap.get? D=some { cls:=.type "list",data:=.seq zs.toArray kk }->jh vs' zs->N vs' H9->
    ∃m,m < n/\∃i vs H' ys k,Inv Y [] (zh own caps σ) H' s9/\tn i s9.heap/\(∀b∈fp,H' b=none)/\H' D=none/\s9.heap.get? D=some { cls:=.type "list",data:=.seq (ys:List Value).toArray k }/\jh vs ys/\W i m vs H':=fun {s9 H9 vs' zs kk} I9 st9 fr9 n9 g9 r9 w9=>by
   obtain⟨m',hm,w'⟩:=hN vs' H9 w9;refine⟨m',hm,i+1,vs',H9,zs,kk,?_,st9,fr9,n9,g9,r9,w'⟩;have l9:σ7.length=(zh own caps σ).length:=I9.len.trans (by simp[Y,Cx.comp,cN,zh]);refine I9.weak l9.symm fun j v e=>?_;by_cases hj:j < own.length
   ·rw[List.getElem?_append_left (by simpa using hj),List.getElem?_map]at e;cases q:own[j]? with
    | none=>rw[q]at e;cases e
    | some _=>rw[q]at e;cases e
   ·have z:=congrArg (fun l=>l[j - own.length]?) d7;simp only[List.getElem?_drop]at z;have ej:own.length+(j - own.length)=j:=by omega
    rw[ej]at z;exact z.trans e
  have pins8:∀{s9:Shared} {H9:Hp},Inv Y ([]++[(D,{ cls:=.type "list",data:=.seq ys.toArray k })]++u8 fp s6.heap) σ7 H9 s9->tn (i+1) s9.heap/\(∀b∈fp,H9 b=none)/\H9 D=none/\s9.heap.get? D=some { cls:=.type "list",data:=.seq ys.toArray k }:=fun {s9 H9} I9=>by
   refine⟨T.keep _ _ _ st6 fun b hb o e=>(I9.pin (b,o) (vJa _ (vJa _ (Yl hb e)))).1,fun b hb=>?_,(I9.pin (D,{ cls:=.type "list",data:=.seq ys.toArray k }) (vJa _ (vIa _ (by simp)))).2.1,(I9.pin (D,{ cls:=.type "list",data:=.seq ys.toArray k }) (vJa _ (vIa _ (by simp)))).1⟩;obtain⟨o,e,d⟩:=T.obj _ _ st6 b hb;exact(I9.pin (b,o) (vJa _ (vJa _ (Yl hb e)))).2.1
  cases b with
  | false=>
   obtain⟨a1,a2,a3,a4⟩:=pins8 I8;exact wBa ⟨rfl,fin (I8.unpinned.unpinned) a1 a2 a3 a4 r3 q8⟩
  | true=>
   refine wAa (wAa (wCa (he s2 H (D::fp) _ s8 σ7 H8 _ I8 q8) (fun y s9 h9=>?_) fun _ _ z=>z.elim));obtain⟨v9,H9,I9,r9,q9⟩:=h9;obtain⟨a1,a2,a3,a4⟩:=pins8 I9;have hlz:ys.toArray.size<=sizeLine:=by
    have:=r3.length;simp only[List.size_toArray];omega
   refine wAa (wpAny_list_append_plain (hsz:=hlz) ⟨k,a4⟩ fun h' hp sb=>wBa (wBa ⟨rfl,?_⟩));obtain⟨k',g'⟩:=hp;have I9':Inv Y [] σ7 H9 s9:=I9.unpinned.unpinned;have F9:=stat a3 a2 s9 _ I9' D wNa;obtain⟨f0,f1,f2,f3,f4,f5⟩:=F9;have I10:Inv Y [] σ7 H9 { s9 with heap:=h' }:=I9'.turned (t':=s9.toks) (fun b o hb e=>(sb.2 b hb).trans e) f0 f1 f3 f4 f5;refine fin (zs:=ys++[y]) (kk:=k') I10 (T.keep _ _ _ a1 fun b hb o e=>(sb.2 b fun z=>nDf (by rw[<-z];exact hb)).trans e) a2 a3 ?_ (r3.append (.cons r9 .nil)) q9;rw[g'];simp
end
structure CScope (X:Cx) (scope:Scope):Prop where
 kind:scope.kind=.function
 loc:(scope.names.all fun y=>y.2 != .local||scope.names.lookup y.1==some .local)=true
 nocell:(scope.names.all fun y=>y.2 != .cell)=true
 free:(scope.names.all fun y=>y.2 != .free||X.env.scope.names.lookup y.1==some .cell||X.env.scope.names.lookup y.1==some .free)=true
section
variable {X:Cx} {elt tg iter:Expr} {ifs:List Expr} {scope:Scope} {pos:Pos} {own:List Str} {caps:List (Str×Nat)} {g:TG} {tc:TT} {te:TE} {pins:List (Addr×Obj)} {σ:St} {H:Hp} {s2:Shared} {J:It} {fp:List Addr} {it:Addr} {tn:Nat->Heap->Prop} {Qv:VK}
theorem CScope.l(S:CScope X scope):∀x∈scope.names,x.2=.local->scope.names.lookup x.1=some .local:=fun x hx e=>by
 have:=List.all_eq_true.mp S.loc x hx;rw[e]at this;simpa using this
theorem CScope.c(S:CScope X scope):∀x∈scope.names,x.2≠.cell:=fun x hx e=>by
 have:=List.all_eq_true.mp S.nocell x hx;rw[e]at this;simp at this
theorem CScope.f(S:CScope X scope):∀y∈scope.names,y.2=.free->X.env.kindOf y.1=some .cell∨X.env.kindOf y.1=some .free:=fun x hx e=>by
 have:=List.all_eq_true.mp S.free x hx;rw[e]at this;simpa[Env.kindOf]using this
theorem WR{E:Value->Shared->Prop}{RR:Value->Addr->Result->Shared->Prop}(S:CScope X scope)(hcap:Caps X scope caps)(hc:X.calm=true)
  (hg:∀s3 H3 ex',PG (X.comp (cN own caps) scope s3 H3 ex') tg g) (ht:∀s3 H3 ex',z_ (X.comp (cN own caps) scope s3 H3 ex') ifs tc) (he:∀s3 H3 ex',PE (X.comp (cN own caps) scope s3 H3 ex') elt te)
  (I:Inv X pins σ H s2) (T:Turn X.prog X.w X.K tg J fp it tn) (st:tn 0 s2.heap) (hf:∀b∈fp,Jj X pins H b)
  (w:∃W,(∃m,W 0 m [] H)/\KH own.length J (zh own caps σ) g tc te Qv W)
  (hRR:∀D C s' H' m,Inv X pins σ H' s'->s'.heap.Ns C m->Jj X pins H' C->Qv (.ref D) H'->RR (.ref D) C (.ok .next) s'):
  wpAny (model X.prog X.w) X.A (newList []) (fun acc s3=>wpAny (model X.prog X.w) X.A (newFunctionEnv scope X.env.globals (Y6 X.env scope.names []) [] X.env.qual none .none (some X.env)) (fun cenv s4=>
   codeAny (model X.prog X.w) X.A (.compStart (.ListComp elt [⟨tg,iter,ifs,0⟩] scope pos) 0 (.ref it) acc { cenv with scope:=relabel scope X.env }) (RR acc cenv.locals) s4) E s3) E s2:=by
 obtain⟨W,⟨m0,w0⟩,turn⟩:=w;refine vTa (wpAny_newFunctionEnv S.c (by intro y hy;simp at hy) (fun h1 hns hsb=>?_) S.kind);have hlt:∀b∈fp,b < s2.heap.objs.size:=fun b hb=>by
  obtain⟨o,e,_⟩:=T.obj _ _ st b hb;exact wLa e
 let s3:Shared:={ s2 with heap:=s2.heap.push { cls:=.type "list",dict:=none,data:=.seq ([]:List Value).toArray } }
 have e3:s3.heap.objs.size=s2.heap.objs.size+1:=Heap.size_push ..;have I3:Inv X pins σ H s3:=I.kept (t':=s2.toks) fun b o e=>wIa _ e;have fD:Jj X pins H s2.heap.objs.size:=I.fpOk (wPa _) (I.hok.fresh (wPa _));have hk:∀b o,s3.heap.get? b=some o->h1.get? b=some o:=fun b o e=>hsb.extBut b o (wTa (wLa e)) (wIa _ e);have hD:s2.heap.objs.size < s3.heap.objs.size:=by rw[e3];exact Nat.lt_succ_self _
 have hl3:∀b∈fp,b < s3.heap.objs.size:=fun b hb=>Nat.lt_trans (hlt b hb) hD;have I4:Inv (X.comp (cN own caps) scope s3 H (s2.heap.objs.size::fp)) [] (zh own caps σ) H { s3 with heap:=h1,toks:=s2.toks+([]:List (Str×Value)).length }:=by
  refine gt S.c S.kind S.f hcap I3 (fun b hb=>?_) hns hk;rcases List.mem_cons.mp hb with z | z
  ·rw[z];exact⟨hD,fD⟩
  ·exact⟨hl3 b z,hf b z⟩
 have st4:tn 0 h1:=T.keep _ _ _ st fun b hb o e=>hk b o (wIa _ e);have g4:h1.get? s2.heap.objs.size=some { cls:=.type "list",data:=.seq ([]:List Value).toArray }:=hk _ _ (wJa _ rfl);have loop:=bK (C:=0) (iter:=iter) (pos:=pos) hc hg ht he I3 hD fD (fun z=>wUa _ (hlt _ z)) hl3 hf T turn (RR (.ref s2.heap.objs.size) s3.heap.objs.size) (fun s' ⟨H',m,a1,a2,a3,a4⟩=>hRR _ _ s' H' m a1 a2 a3 a4) m0
  { s3 with heap:=h1,toks:=s2.toks+([]:List (Str×Value)).length } ⟨0,[],H,[],0,I4,st4,fun b hb=>(hf b hb).1,fD.1,g4,.nil,w0⟩
 exact codeAny_compStart_list loop (T.self _ 0 _ _ _ st4 loop)
def WS(own:List Str)(caps:List (Str×Nat))(wi:TI)(g:TG)(tc:TT)(te:TE):TE:=fun σ H Q=>wi σ H fun J H1=>∃W,(∃m,W 0 m [] H1)/\KH own.length J (zh own caps σ) g tc te Q W
theorem ED{wi:TI}(own:List Str)(caps:List (Str×Nat))(S:CScope X scope)(hcap:Caps X scope caps)(hc:X.calm=true)(hi:PI X tg iter wi)
  (hg:∀s3 H3 ex',PG (X.comp (cN own caps) scope s3 H3 ex') tg g) (ht:∀s3 H3 ex',z_ (X.comp (cN own caps) scope s3 H3 ex') ifs tc) (he:∀s3 H3 ex',PE (X.comp (cN own caps) scope s3 H3 ex') elt te)
  (hs:∀x,foldedSetIterable iter X.env x=pure x:=by intro _;rfl):PE X (.ListComp elt [⟨tg,iter,ifs,0⟩] scope pos) (WS own caps wi g tc te):=by
 intro pins s σ H Q I h;rw[eval_ListComp];refine wpAny_comprehension_free (use:=none) rfl hs (Gy fun y hy e=>I.ok.has y.1 (S.f y hy e)) S.kind S.l (jv (hi pins s σ H _ I h) fun xv s1 h1=>jv h1 fun itv s2 h2=>?_);obtain⟨it,fp,tn,J,H2,e,I2,T,st,f2,w⟩:=h2;subst e;refine WR (RR:=fun acc C=>compPost (model X.prog X.w) X.A X.xe none (EP X pins σ Q) acc C) S hcap hc hg ht he I2 T st f2 w ?_;intro D C s' H' m I' hn hf' q;refine⟨m,hn,fun h' sb=>⟨.ref D,H',?_,rfl,q⟩⟩;obtain⟨f0,f1,f2,f3,f4,f5⟩:=hf';exact I'.turned (t':=s'.toks) (fun b o hb e=>(sb.2 b hb).trans e) f0 f1 f3 f4 f5
theorem KI{wi:TI}(own:List Str)(caps:List (Str×Nat)){i:Nat}{x:Str}{pos' spos:Pos}(hN:X.N.Nodup)(hix:X.N[i]?=some x)(hx:Ud X.env.scope x)(S:CScope X scope)(hcap:Caps X scope caps)(hc:X.calm=true)(hi:PI X tg iter wi)
  (hg:∀s3 H3 ex',PG (X.comp (cN own caps) scope s3 H3 ex') tg g) (ht:∀s3 H3 ex',z_ (X.comp (cN own caps) scope s3 H3 ex') ifs tc) (he:∀s3 H3 ex',PE (X.comp (cN own caps) scope s3 H3 ex') elt te)
  (hs:∀x,foldedSetIterable iter X.env x=pure x:=by intro _;rfl)
  (hsw:swapsWith (.ListComp elt [⟨tg,iter,ifs,0⟩] scope pos) (some (.Name x pos')) spos.line X.env=pure true:=by rfl) (hf:X.fn x=true∨X.env.scope.names.lookup x=some .local:=by first | exact .inl rfl | exact .inr rfl | assumption):
  PS X (.Assign [.Name x pos'] (.ListComp elt [⟨tg,iter,ifs,0⟩] scope pos) spos) (Y3 (WS own caps wi g tc te) (YR i)):=by
 intro pins s σ H D I h;rw[exec_Assign_Name_used _ _ _ _ hsw];refine wAa (vOa (wAa ?_));show wpAny _ _ (do let _<-comprehension (.ListComp elt [⟨tg,iter,ifs,0⟩] scope pos) scope X.env _ (newList []) false (eval iter X.env) (some (assign (.Name x pos') X.env))) _ _ s;refine wAa (wCa (wpAny_comprehension_free (use:=some (assign (.Name x pos') X.env)) (Q:=fun _ s'=>SP X pins D .next s') rfl hs (Gy fun y hy e=>I.ok.has y.1 (S.f y hy e)) S.kind S.l
  (jv (hi pins s σ H _ I h) fun xv s1 h1=>jv h1 fun itv s2 h2=>?_)) (fun _ s' hq=>wBa (wBa hq)) fun _ _ e=>e)
 obtain⟨it,fp,tn,J,H2,e,I2,T,st,f2,w⟩:=h2;subst e;refine WR (RR:=fun acc C=>compPost (model X.prog X.w) X.A X.xe (some (assign (.Name x pos') X.env)) (fun _ s'=>SP X pins D .next s') acc C) S hcap hc hg ht he I2 T st f2 w ?_;intro A C s' H' m I' hn hf' q;obtain⟨f0,f1,f2,f3,f4,f5⟩:=hf';show wpAny _ _ (assign (.Name x pos') X.env (.ref A)) _ _ _;refine wpAny_assign_Name (kb (v:=.ref A) I' hN hix hx rfl (fun s'' I'' hsb=>?_) hf);obtain⟨a,sb,ha⟩:=hsb;have aC:C≠a:=by
  rcases ha with z | z
  ·rw[z];exact f1
  ·exact fun e=>f4 x a z e.symm
 refine⟨m,hn.sameBut sb aC,fun h' sb'=>⟨_,H',?_,q⟩⟩;exact I''.turned (t':=s''.toks) (fun b o hb e=>(sb'.2 b hb).trans e) f0 f1 f3 f4 f5
end
inductive Sk where
 | l | t
def VN(K:PySem.W.Frag):Sk->Hp->Addr->List V->Prop
 | .l=>jC K
 | .t=>Ji K
def J5:Sk->Heap->Addr->Array Value->Prop
 | .l,h,a,vs=>h.IsList a vs
 | .t,h,a,vs=>h.IsTuple a vs
def J8:Sk->Heap->Addr->Addr->Nat->Prop
 | .l,h,it,a,i=>h.IsListIter it a i
 | .t,h,it,a,i=>h.IsTupleIter it a i
theorem J5.at{k:Sk}{h h':Heap}{a:Addr}{vs:Array Value}(x:J5 k h a vs)(e:∀o,h.get? a=some o->h'.get? a=some o):J5 k h' a vs:=by
 cases k
 ·exact Heap.IsList.at x e
 ·obtain⟨o,ho,r⟩:=x;exact⟨o,e o ho,r⟩
theorem J8.at{k:Sk}{h h':Heap}{it a:Addr}{i:Nat}(x:J8 k h it a i)(e:∀o,h.get? it=some o->h'.get? it=some o):J8 k h' it a i:=by
 cases k <;> (obtain⟨o,ho,r⟩:=x;exact⟨o,e o ho,r⟩)
theorem J8.obj{k:Sk}{h:Heap}{it a:Addr}{i:Nat}(x:J8 k h it a i):∃o,h.get? it=some o/\∀v,o.data≠.cell v:=by
 cases k <;> (obtain⟨o,ho,_,d⟩:=x;exact⟨o,ho,fun v z=>by rw[d]at z;cases z⟩)
theorem J5.lt{k:Sk}{h:Heap}{a:Addr}{vs:Array Value}(x:J5 k h a vs):a < h.objs.size:=by
 cases k <;> (obtain⟨o,ho,_⟩:=x;exact wLa ho)
section
variable {prog:Program} {w:World} {A:Around} {E:Value->Shared->Prop} {s:Shared} {it a:Addr} {i:Nat} {its:Array Value} {x:Value}
theorem K0{Q:Value->Shared->Prop}(hi:s.heap.IsTupleIter it a i)(ht:s.heap.IsTuple a its)(hx:its[i]?=some x)
  (hQ:∀h',h'.IsTupleIter it a (i+1)->Heap.SameBut it s.heap h'->Q x { s with heap:=h' }):wpAny (model prog w) A (Builtin.SmallTypes.nextOf (.ref it)) Q E s:=by
 obtain⟨o,ho,hc,hd⟩:=id hi;obtain⟨oa,hoa,_,na,hda⟩:=ht;unfold Builtin.SmallTypes.nextOf;refine wAa (wpAny_callSpecial?_slot (name:=Str.ofString "__next__") hi.typeIs F.slot_tuple_iterator_next (wpAny_call_entry F.slot_tuple_iterator_next hi.typeIs F.entry_tuple_iterator_next ?_ (F.args_tuple_iterator_next_1 _)));show wpAny _ _ (field (.ref it) 0 >>= _) _ _ s;refine wAa (wpAny_field ho hd (x:=.ref a) rfl ?_);show wpAny _ _ (if (Value.ref a==Value.none)=true then _ else _) _ _ s;have nn:¬((Value.ref a==Value.none)=true):=vNa;rw[if_neg nn];show wpAny _ _ (field (.ref it) 1 >>= _) _ _ s;refine wAa (wpAny_field ho hd (x:=.int i 0) rfl ?_);show wpAny _ _ (seqItems? (.ref a) >>= _) _ _ s;refine wAa (wpAny_seqItems hoa hda ?_);simp only[Int.toNat_natCast,hx];refine wAa (wpAny_setField ho hd (by simp) (wBa ⟨x,rfl,wBa (hQ _ ⟨_,vUa _ ho (Obj.isFreed_of_fields (Obj.data_mapFields hd _)),(Obj.cls_mapFields ..).trans hc,?_⟩ (Heap.SameBut.update ..))⟩));rw[Obj.data_mapFields hd];simp[rawInt]
theorem KJ{Q:Value->Shared->Prop}(hh:A.handled=none)(hi:s.heap.IsTupleIter it a i)(ht:s.heap.IsTuple a its)(hx:its[i]?=none)
  (hE:∀h' e,Heap.ExtBut it s.heap h'->(∃o,h'.get? e=some o/\o.cls=.type "StopIteration")->E (.ref e) { s with heap:=h' }):wpAny (model prog w) A (Builtin.SmallTypes.nextOf (.ref it)) Q E s:=by
 obtain⟨o,ho,hc,hd⟩:=id hi;obtain⟨oa,hoa,_,na,hda⟩:=ht;unfold Builtin.SmallTypes.nextOf;refine wAa (wpAny_callSpecial?_slot (name:=Str.ofString "__next__") hi.typeIs F.slot_tuple_iterator_next (wpAny_call_entry F.slot_tuple_iterator_next hi.typeIs F.entry_tuple_iterator_next ?_ (F.args_tuple_iterator_next_1 _)));show wpAny _ _ (field (.ref it) 0 >>= _) _ _ s;refine wAa (wpAny_field ho hd (x:=.ref a) rfl ?_);show wpAny _ _ (if (Value.ref a==Value.none)=true then _ else _) _ _ s;have nn:¬((Value.ref a==Value.none)=true):=vNa;rw[if_neg nn];show wpAny _ _ (field (.ref it) 1 >>= _) _ _ s;refine wAa (wpAny_field ho hd (x:=.int i 0) rfl ?_);show wpAny _ _ (seqItems? (.ref a) >>= _) _ _ s;refine wAa (wpAny_seqItems hoa hda ?_);simp only[Int.toNat_natCast,hx];refine wAa (wpAny_rule (wAa (wpAny_setField ho hd (by simp) ?_)));show wpAny _ _ (newExc (.type "StopIteration") [] >>= _) _ _ _;refine wAa ?_;simp only[newExc,newTuple];refine wAa (vTa ?_ (by size_fits));refine wAa (m:=firstArgMember _ _) (wpAny_of_eq (a:=Value.none) (by first | rfl | (simp only[firstArgMember];rfl)) (vTa ?_ (by size_fits)));simp only[raiseNew];refine wAa (wpAny_handled ?_)
 first | rw[show A.in1.handled=none from hh] | rw[hh]
 exact wAa (wBa (wpAny_throw (hE _ _ (((Heap.SameBut.update ..).extBut.push _).push _) ⟨_,wJa _ rfl,rfl⟩)))
theorem uf{k:Sk}{Q:Value->Shared->Prop}(hi:J8 k s.heap it a i)(ht:J5 k s.heap a its)(hx:its[i]?=some x)
  (hQ:∀h',J8 k h' it a (i+1)->Heap.SameBut it s.heap h'->Q x { s with heap:=h' }):wpAny (model prog w) A (Builtin.SmallTypes.nextOf (.ref it)) Q E s:=by
 cases k
 ·exact wpAny_nextOf_list_item hi ht hx hQ
 ·exact K0 hi ht hx hQ
theorem KK{k:Sk}{Q:Value->Shared->Prop}(hh:A.handled=none)(hi:J8 k s.heap it a i)(ht:J5 k s.heap a its)(hx:its[i]?=none)
  (hE:∀h' e,Heap.ExtBut it s.heap h'->(∃o,h'.get? e=some o/\o.cls=.type "StopIteration")->E (.ref e) { s with heap:=h' }):wpAny (model prog w) A (Builtin.SmallTypes.nextOf (.ref it)) Q E s:=by
 cases k
 ·exact wpAny_nextOf_list_end hh hi ht hx hE
 ·exact KJ hh hi ht hx hE
noncomputable def Vh(k:Sk)(a:Addr):Obj:={ cls:=.type (match k with | .l => "list_iterator" | .t => "tuple_iterator"),data:=.fields #[.ref a,.int 0 0] }
theorem gu{k:Sk}{h:Heap}{it a:Addr}(e:h.get? it=some (Vh k a)):J8 k h it a 0:=by
 cases k <;> exact⟨_,e,rfl,rfl⟩
theorem WT{k:Sk}{Q:Value->Shared->Prop}(ht:J5 k s.heap a its)(hQ:Q (.ref s.heap.objs.size) { s with heap:=s.heap.push (Vh k a) }):wpAny (model prog w) A (pyIter (.ref a)) Q E s:=by
 cases k
 ·exact wpAny_pyIter_list ht hQ
 ·exact wpAny_pyIter_tuple ht hQ
end
abbrev Ag(k:Sk)(h:Heap)(a:Addr):Heap:=h.push (Vh k a)
abbrev QR(k j:Sk)(h:Heap)(a b:Addr):Heap:=(Ag k h a).push (Vh j b)
abbrev Ah(k j:Sk)(h:Heap)(a b:Addr):Heap:=(QR k j h a b).push { cls:=.type "tuple",data:=.seq #[.ref h.objs.size,.ref (Ag k h a).objs.size] }
abbrev Ai(k j:Sk)(h:Heap)(a b:Addr):Heap:=(Ah k j h a b).push { cls:=.type "tuple",data:=.seq #[.none,.none] }
abbrev KL(k j:Sk)(h:Heap)(a b:Addr):Heap:=(Ai k j h a b).push { cls:=.type "zip",data:=.fields #[.none,.bool false,.bool false,.ref (QR k j h a b).objs.size,.ref (Ah k j h a b).objs.size] }
theorem K3(k j:Sk)(a b:Addr)(xs ys:Array Value):
  Meets (Builtin.«zip.__new__» ⟨[.type "zip",.ref a,.ref b],[]⟩) (fun _ R s=>J5 k s.heap a xs/\J5 j s.heap b ys/\R (.ok (.ret (.ref (Ai k j s.heap a b).objs.size))) { s with heap:=KL k j s.heap a b }):=
 .of_wp fun prog w A R s h=>by
  obtain⟨hp,g,d,tk,os⟩:=s;obtain⟨ha,hb,h⟩:=h;have hsub:=sub_zip;have ha':J5 k (Shared.heap ⟨hp,g,d,tk,os⟩) a xs:=ha;have hb':J5 j (Shared.heap ⟨hp.push (Vh k a),g,d,tk,os⟩) b ys:=hb.at fun o e=>wIa _ e
  wp_walk using WT ha',WT hb'
  exact⟨_,rfl,h⟩
section
variable {prog:Program} {w:World} {A:Around} {E:Value->Shared->Prop} {s:Shared}
theorem XJ{k j:Sk}{a b:Addr}{xs ys:Array Value}{Q:Value->Shared->Prop}(ha:J5 k s.heap a xs)(hb:J5 j s.heap b ys)
  (h:∀h',IsZip h' (s.heap.objs.size+4) (s.heap.objs.size+2) (s.heap.objs.size+3) .none->IsPair h' (s.heap.objs.size+2) (.ref s.heap.objs.size) (.ref (s.heap.objs.size+1))->
   IsPair h' (s.heap.objs.size+3) .none .none->J8 k h' s.heap.objs.size a 0->J8 j h' (s.heap.objs.size+1) b 0->
   (∀c o,s.heap.get? c=some o->h'.get? c=some o)->Q (.ref (s.heap.objs.size+4)) { s with heap:=h' }):
  wpAny (model prog w) A (call (.type "zip") [.ref a,.ref b]) Q E s:=by
 refine callType_new F.called_zip (by decide) (F.typeCall_zip_2 _ _) (F.newCall_zip_2 _ _) (fun obj=>F.args_object_init_3 obj _ _) F.entry_zip_new (K3 k j a b xs ys) ⟨ha,hb,?_⟩;have z1:(Ag k s.heap a).objs.size=s.heap.objs.size+1:=Heap.size_push ..;have z2:(QR k j s.heap a b).objs.size=s.heap.objs.size+2:=by rw[Heap.size_push,z1]
 have z3:(Ah k j s.heap a b).objs.size=s.heap.objs.size+3:=by rw[Heap.size_push,z2]
 have z4:(Ai k j s.heap a b).objs.size=s.heap.objs.size+4:=by rw[Heap.size_push,z3]
 have up:∀c o,(QR k j s.heap a b).get? c=some o->(KL k j s.heap a b).get? c=some o:=fun c o e=>wIa _ (wIa _ (wIa _ e));have g5:(KL k j s.heap a b).get? (Ai k j s.heap a b).objs.size=some _:=wJa _ rfl;have g4:(KL k j s.heap a b).get? (Ah k j s.heap a b).objs.size=some _:=wIa _ (wJa _ rfl);have g3:(KL k j s.heap a b).get? (QR k j s.heap a b).objs.size=some _:=wIa _ (wIa _ (wJa _ rfl));have g2:(KL k j s.heap a b).get? (Ag k s.heap a).objs.size=some (Vh j b):=up _ _ (wJa _ rfl);have g1:(KL k j s.heap a b).get? s.heap.objs.size=some (Vh k a):=up _ _ (wIa _ (wJa _ rfl));show _/\_;rw[z2,z3,z4]at g5;rw[z1,z2]at g3;rw[z3]at g4;rw[z1]at g2;rw[z4];exact⟨⟨_,g5,rfl⟩,h _ g5 g3 g4 (gu g1) (gu g2) fun c o x=>up c o (wIa _ (wIa _ x))⟩
variable {z TI TO i1 i2 a b:Addr} {k j:Sk} {n1 n2:Nat} {xs ys:Array Value} {x y:Value}
theorem XM{u v:Value}{Q:Value->Shared->Prop}(D:ZipApart z TI TO i1 i2 a b)(hz:IsZip s.heap z TI TO .none)(hTI:IsPair s.heap TI (.ref i1) (.ref i2))(hTO:IsPair s.heap TO u v)
  (h1:J8 k s.heap i1 a n1) (h2:J8 j s.heap i2 b n2) (ha:J5 k s.heap a xs) (hb:J5 j s.heap b ys) (hx:xs[n1]?=some x) (hy:ys[n2]?=some y)
  (hQ:∀h',IsZip h' z TI TO (rawInt s.heap.objs.size)->IsPair h' TO x y->J8 k h' i1 a (n1+1)->J8 j h' i2 b (n2+1)->IsPair h' s.heap.objs.size x y->
   (∀c o,c≠z->c≠TO->c≠i1->c≠i2->s.heap.get? c=some o->h'.get? c=some o)->Q (.ref s.heap.objs.size) { s with heap:=h' }):
  wpAny (model prog w) A (Builtin.«zip.__next__» ⟨[.ref z],[]⟩) (fun fin s'=>∃v,fin=.done (.ret v)/\Q v s') E s:=by
 show wpAny _ _ (field (.ref z) 2 >>= _) _ _ _;refine wAa (wpAny_field hz rfl (x:=.bool false) rfl ?_);show wpAny _ _ (field (.ref z) 3 >>= _) _ _ _;refine wAa (wpAny_field hz rfl (x:=.ref TI) rfl (wAa (wpAny_seqItems hTI rfl ?_)));show wpAny _ _ (Builtin.SmallTypes.ownedTupleIsFree (.ref z) >>= _) _ _ _;refine wAa ?_;unfold Builtin.SmallTypes.ownedTupleIsFree;refine wAa (wpAny_field hz rfl (x:=.none) rfl (wBa ?_));simp only[if_true];refine wAa (wpAny_rule (wAa (wpAny_field hz rfl (x:=.ref TO) rfl (wAa (wpAny_setField_rec hz (by simp) fun g1 z1 s1=>?_)))))
 replace z1:IsZip g1 z TI TO .ellipsis:=z1
 refine wAa ?_;simp only[List.zipIdx_cons,List.zipIdx_nil,List.forIn_cons,List.forIn_nil];have e1:∀c o,c≠z->s.heap.get? c=some o->g1.get? c=some o:=fun c o hc e=>s1.extBut c o hc e;refine wAa (wAa (wpAny_onRaise ?_));show wpAny _ _ (Builtin.SmallTypes.nextOf (.ref i1) >>= _) _ _ _;refine wAa (uf (h1.at fun o e=>e1 _ o D.i1z e) (ha.at fun o e=>e1 _ o D.l1z e) hx fun g2 it2 s2=>wBa ?_);have e2:∀c o,c≠z->c≠i1->s.heap.get? c=some o->g2.get? c=some o:=fun c o hc hd e=>s2.extBut c o hd (e1 c o hc e);have t2:IsPair g2 TO u v:=e2 _ _ D.TOz D.TOi1 hTO;refine wAa (wpAny_seqItems t2 rfl (wAa (wpAny_updateSeq_pair t2 fun g3 t3 s3=>?_)))
 replace t3:IsPair g3 TO x v:=t3
 refine wAa (wpAny_letGo (wBa (wAa (wAa (wpAny_onRaise ?_)))));have e3:∀c o,c≠z->c≠i1->c≠TO->s.heap.get? c=some o->g3.get? c=some o:=fun c o hc hd he e=>s3.extBut c o he (e2 c o hc hd e);show wpAny _ _ (Builtin.SmallTypes.nextOf (.ref i2) >>= _) _ _ _;refine wAa (uf (h2.at fun o e=>e3 _ o D.i2z D.i12.symm D.TOi2.symm e) (hb.at fun o e=>e3 _ o D.l2z D.l2i1 D.l2TO e) hy fun g4 it4 s4=>wBa ?_);have t4:IsPair g4 TO x v:=s4.extBut _ _ D.TOi2 t3;refine wAa (wpAny_seqItems t4 rfl (wAa (wpAny_updateSeq_pair t4 fun g5 t5 s5=>?_)))
 replace t5:IsPair g5 TO x y:=t5
 refine wAa (wpAny_letGo (wBa (wBa (wAa (wpAny_seqItems t5 rfl (wAa (wpAny_newTuple ?_)))))));have sz:g5.objs.size=s.heap.objs.size:=by rw[s5.1,s4.1,s3.1,s2.1,s1.1]
 have z5:IsZip g5 z TI TO .ellipsis:=s5.extBut _ _ D.TOz.symm (s4.extBut _ _ D.i2z.symm (s3.extBut _ _ D.TOz.symm (s2.extBut _ _ D.i1z.symm z1)));have e5:∀c o,c≠z->c≠TO->c≠i1->c≠i2->s.heap.get? c=some o->g5.get? c=some o:=fun c o c1 c2 c3 c4 e=>s5.extBut _ _ c2 (s4.extBut _ _ c4 (e3 c o c1 c3 c2 e));have it5:J8 k g5 i1 a (n1+1):=((it2.at fun o e=>s3.extBut _ o D.TOi1.symm e).at fun o e=>s4.extBut _ o D.i12 e).at fun o e=>s5.extBut _ o D.TOi1.symm e;have jt5:J8 j g5 i2 b (n2+1):=it4.at fun o e=>s5.extBut _ o D.TOi2.symm e;have lz:z < g5.objs.size:=wLa z5;show wpAny _ _ (Builtin.SmallTypes.ownedTupleHandOut (.ref z) (.ref g5.objs.size) >>= _) _ _ _;refine wAa ?_;unfold Builtin.SmallTypes.ownedTupleHandOut;have z6:IsZip (g5.push { cls:=.type "tuple",data:=.seq #[x,y] }) z TI TO .ellipsis:=wIa _ z5;refine wAa (wpAny_setField_rec z6 (by simp) fun g7 z7 s7=>?_)
 replace z7:IsZip g7 z TI TO (rawInt g5.objs.size):=z7
 refine wpAny_setField_rec z7 (by simp) fun g8 z8 s8=>?_
 replace z8:IsZip g8 z TI TO (rawInt g5.objs.size):=z8
 have up:∀c o,c≠z->g5.get? c=some o->g8.get? c=some o:=fun c o c1 e=>s8.extBut _ _ c1 (s7.extBut _ _ c1 (wIa _ e));have t8:IsPair g8 g5.objs.size x y:=s8.extBut _ _ (Nat.ne_of_gt lz) (s7.extBut _ _ (Nat.ne_of_gt lz) (wJa _ rfl));rw[sz]at z8 t8;refine wBa ⟨_,rfl,?_⟩;show Q (.ref g5.objs.size) _;rw[sz];exact hQ g8 z8 (up _ _ D.TOz t5) (it5.at fun o e=>up _ o D.i1z e) (jt5.at fun o e=>up _ o D.i2z e) t8 fun c o c1 c2 c3 c4 e=>up c o c1 (e5 c o c1 c2 c3 c4 e)
theorem XO{u v:Value}{Q:Fin->Shared->Prop}(hh:A.handled=none)(D:ZipApart z TI TO i1 i2 a b)(hz:IsZip s.heap z TI TO .none)(hTI:IsPair s.heap TI (.ref i1) (.ref i2))(hTO:IsPair s.heap TO u v)
  (h1:J8 k s.heap i1 a n1) (h2:J8 j s.heap i2 b n2) (ha:J5 k s.heap a xs) (hb:J5 j s.heap b ys) (hend:xs[n1]?=none∨ys[n2]?=none)
  (hE:∀h' e,(∀c o,c≠z->c≠TO->c≠i1->c≠i2->s.heap.get? c=some o->h'.get? c=some o)->(∃o,h'.get? e=some o/\o.cls=.type "StopIteration")->E (.ref e) { s with heap:=h' }):
  wpAny (model prog w) A (Builtin.«zip.__next__» ⟨[.ref z],[]⟩) Q E s:=by
 show wpAny _ _ (field (.ref z) 2 >>= _) _ _ _;refine wAa (wpAny_field hz rfl (x:=.bool false) rfl ?_);show wpAny _ _ (field (.ref z) 3 >>= _) _ _ _;refine wAa (wpAny_field hz rfl (x:=.ref TI) rfl (wAa (wpAny_seqItems hTI rfl ?_)));show wpAny _ _ (Builtin.SmallTypes.ownedTupleIsFree (.ref z) >>= _) _ _ _;refine wAa ?_;unfold Builtin.SmallTypes.ownedTupleIsFree;refine wAa (wpAny_field hz rfl (x:=.none) rfl (wBa ?_));simp only[if_true];refine wAa (wpAny_rule (wAa (wpAny_field hz rfl (x:=.ref TO) rfl (wAa (wpAny_setField_rec hz (by simp) fun g1 z1 s1=>?_)))))
 replace z1:IsZip g1 z TI TO .ellipsis:=z1
 refine wAa ?_;simp only[List.zipIdx_cons,List.zipIdx_nil,List.forIn_cons,List.forIn_nil];have e1:∀c o,c≠z->s.heap.get? c=some o->g1.get? c=some o:=fun c o hc e=>s1.extBut c o hc e;refine wAa (wAa (wpAny_onRaise ?_));show wpAny _ _ (Builtin.SmallTypes.nextOf (.ref i1) >>= _) _ _ _;cases hx:xs[n1]? with
 | none=>
  refine wAa (KK hh (h1.at fun o e=>e1 _ o D.i1z e) (ha.at fun o e=>e1 _ o D.l1z e) hx fun g2 e s2 he=>?_);obtain⟨oe,hoe,hce⟩:=he;have z2:IsZip g2 z TI TO .ellipsis:=s2 _ _ D.i1z.symm z1;have ez:e≠z:=fun q=>by subst q;rw[z2]at hoe;cases hoe;simp at hce
  exact wpAny_setField_rec z2 (by simp) fun g3 _ s3=>hE g3 e (fun c o c1 _ c3 _ q=>s3.extBut _ _ c1 (s2 _ _ c3 (e1 _ _ c1 q))) ⟨oe,s3.extBut _ _ ez hoe,hce⟩
 | some x=>
  have hy:ys[n2]?=none:=by
   rcases hend with q | q
   ·rw[hx]at q;cases q
   ·exact q
  refine wAa (uf (h1.at fun o e=>e1 _ o D.i1z e) (ha.at fun o e=>e1 _ o D.l1z e) hx fun g2 it2 s2=>wBa ?_);have e2:∀c o,c≠z->c≠i1->s.heap.get? c=some o->g2.get? c=some o:=fun c o hc hd e=>s2.extBut c o hd (e1 c o hc e);have t2:IsPair g2 TO u v:=e2 _ _ D.TOz D.TOi1 hTO;refine wAa (wpAny_seqItems t2 rfl (wAa (wpAny_updateSeq_pair t2 fun g3 t3 s3=>?_)));refine wAa (wpAny_letGo (wBa (wAa (wAa (wpAny_onRaise ?_)))));have e3:∀c o,c≠z->c≠i1->c≠TO->s.heap.get? c=some o->g3.get? c=some o:=fun c o hc hd he e=>s3.extBut c o he (e2 c o hc hd e);show wpAny _ _ (Builtin.SmallTypes.nextOf (.ref i2) >>= _) _ _ _;refine wAa (KK hh (h2.at fun o e=>e3 _ o D.i2z D.i12.symm D.TOi2.symm e) (hb.at fun o e=>e3 _ o D.l2z D.l2i1 D.l2TO e) hy fun g4 e s4 he=>?_);obtain⟨oe,hoe,hce⟩:=he;have z4:IsZip g4 z TI TO .ellipsis:=s4 _ _ D.i2z.symm (s3.extBut _ _ D.TOz.symm (s2.extBut _ _ D.i1z.symm z1));have ez:e≠z:=fun q=>by subst q;rw[z4]at hoe;cases hoe;simp at hce
  exact wpAny_setField_rec z4 (by simp) fun g5 _ s5=>hE g5 e (fun c o c1 c2 c3 c4 q=>s5.extBut _ _ c1 (s4 _ _ c4 (e3 c o c1 c3 c2 q))) ⟨oe,s5.extBut _ _ ez hoe,hce⟩
theorem Q0{u v:Value}{Q:Option Value->Shared->Prop}(D:ZipApart z TI TO i1 i2 a b)(hz:IsZip s.heap z TI TO .none)(hTI:IsPair s.heap TI (.ref i1) (.ref i2))(hTO:IsPair s.heap TO u v)
  (h1:J8 k s.heap i1 a n1) (h2:J8 j s.heap i2 b n2) (ha:J5 k s.heap a xs) (hb:J5 j s.heap b ys) (hx:xs[n1]?=some x) (hy:ys[n2]?=some y)
  (hQ:∀h',IsZip h' z TI TO (rawInt s.heap.objs.size)->IsPair h' TO x y->J8 k h' i1 a (n1+1)->J8 j h' i2 b (n2+1)->IsPair h' s.heap.objs.size x y->
   (∀c o,c≠z->c≠TO->c≠i1->c≠i2->s.heap.get? c=some o->h'.get? c=some o)->Q (some (.ref s.heap.objs.size)) { s with heap:=h' }):
  wpAny (model prog w) A (pyNext (.ref z)) Q E s:=by
 have hT:s.TypeIs (.ref z) "zip" := ⟨_,hz,rfl⟩
 unfold pyNext;exact wAa (wpAny_attempt (wpAny_callSpecial?_slot (name:=Str.ofString "__next__") hT F.slot_zip_next (wpAny_call_entry F.slot_zip_next hT F.entry_zip_next
   (XM D hz hTI hTO h1 h2 ha hb hx hy fun h' a1 a2 a3 a4 a5 a6=>wBa (hQ h' a1 a2 a3 a4 a5 a6)) (F.args_zip_next_1 _))))
theorem QS{u v:Value}{Q:Option Value->Shared->Prop}(hh:A.handled=none)(D:ZipApart z TI TO i1 i2 a b)(hz:IsZip s.heap z TI TO .none)(hTI:IsPair s.heap TI (.ref i1) (.ref i2))(hTO:IsPair s.heap TO u v)
  (h1:J8 k s.heap i1 a n1) (h2:J8 j s.heap i2 b n2) (ha:J5 k s.heap a xs) (hb:J5 j s.heap b ys) (hend:xs[n1]?=none∨ys[n2]?=none)
  (hQ:∀h',(∀c o,c≠z->c≠TO->c≠i1->c≠i2->s.heap.get? c=some o->h'.get? c=some o)->Q none { s with heap:=h' }):wpAny (model prog w) A (pyNext (.ref z)) Q E s:=by
 have hT:s.TypeIs (.ref z) "zip" := ⟨_,hz,rfl⟩
 unfold pyNext;refine wAa (wpAny_attempt (wpAny_callSpecial?_slot (name:=Str.ofString "__next__") hT F.slot_zip_next (wpAny_call_entry F.slot_zip_next hT F.entry_zip_next (XO hh D hz hTI hTO h1 h2 ha hb hend fun h' e hk he=>?_) (F.args_zip_next_1 _))));obtain⟨o,ho,hc⟩:=he;exact wAa (wpAny_isInstance (T := "StopIteration") (b:=true) ⟨o,ho,hc⟩ isSubtype_stop (wBa (hQ _ hk)))
end
section
variable {X:Cx} {pins:List (Addr×Obj)} {σ:St} {H:Hp} {s:Shared} {h':Heap}
theorem Inv.turnedL{t':Nat}{ch:List Addr}(I:Inv X pins σ H s)(hch:∀b∈ch,Jj X pins H b)(k:∀c o,c∉ch->s.heap.get? c=some o->h'.get? c=some o):Inv X pins σ H { s with heap:=h',toks:=t' }:=by
 have nit:∀b u,H b=some u->b∉ch:=fun b u e z=>by rw[(hch b z).1]at e;cases e
 refine I.step (g':=s.gens) (d':=s.drawn) (ch:=ch) (fun b hb=>?_) (fun b o _ _ hc e _=>k b o hc e) (fun b o _ _ hc e _=>⟨o.slots,k b o hc e⟩) (fun _ _ _ _ n=>n)
  (fun b o hc e=>⟨o,k b o hc e⟩) (fun _ _ e=>e) (fun _ _ _ e=>e) (fun b ps e=>⟨#[],by rw[e];simp⟩) (fun m hm=>?_) (fun b u e=>?_) I.bare
 ·obtain⟨f0,f1,f2,f3,f4,f5⟩:=hch b hb;exact⟨f3,f1,f4,f5⟩
 ·obtain⟨o,es,ep,ho,r⟩:=hm;exact⟨o,es,ep,k _ o (fun z=>(hch _ z).2.1 rfl) ho,r⟩
 ·refine(I.hok b u e).stay (fun c v hc q=>k c v ?_ q) (fun _ q=>q) fun _ _ q=>q;rcases hc with z | z
  ·rw[z];exact nit b u e
  ·exact nit c _ z
theorem Inv.tupled{t':Nat}{ch:List Addr}{T:Addr}{vs:List V}{us:List Value}(I:Inv X pins σ H s)(hT:T=s.heap.objs.size)(hch:∀b∈ch,Jj X pins H b)(k:∀c o,c∉ch->s.heap.get? c=some o->h'.get? c=some o)
  (r:jh vs us) (hz:vs.length<=sizeLine) (ht:IsTup h' T us.toArray):Inv X pins σ (upd H T (.tup vs)) { s with heap:=h',toks:=t' }:=by
 have nit:∀b u,H b=some u->b∉ch:=fun b u e z=>by rw[(hch b z).1]at e;cases e
 have nT:∀b o,s.heap.get? b=some o->b≠T:=fun b o e=>by rw[hT];exact wTa (wLa e)
 have fT:H T=none:=by rw[hT];exact I.hok.fresh (wPa _)
 refine I.step (g':=s.gens) (d':=s.drawn) (ch:=ch) (fun b hb=>?_) (fun b o _ _ hc e _=>k b o hc e) (fun b o _ _ hc e _=>⟨o.slots,k b o hc e⟩) (fun b o _ e n=>by rw[jo (nT b o e)];exact n)
  (fun b o hc e=>⟨o,k b o hc e⟩) (fun b xs e=>by rw[jo (jx e fT)];exact e) (fun b o u e=>by rw[jo (jx e fT)];exact e) (fun b ps e=>⟨#[],by rw[jo (jx e fT),e];simp⟩) (fun m hm=>?_) (fun b u e=>?_) I.bare
 ·obtain⟨f0,f1,f2,f3,f4,f5⟩:=hch b hb;exact⟨f3,f1,f4,f5⟩
 ·obtain⟨o,es,ep,ho,r⟩:=hm;exact⟨o,es,ep,k _ o (fun z=>(hch _ z).2.1 rfl) ho,r⟩
 ·by_cases hb:b=T
  ·subst hb;rw[jH]at e;cases e;exact⟨hz,us,r,ht⟩
  ·rw[jo hb]at e;refine(I.hok b u e).stay (fun c v hc q=>k c v ?_ q) (fun c q=>by rw[jo (jx q fT)];exact q) fun c xs q=>by rw[jo (jx q fT)];exact q
   rcases hc with z | z
   ·rw[z];exact nit b u e
   ·exact nit c _ z
theorem Inv.seqK{k:Sk}{a:Addr}{xs:List V}(I:Inv X pins σ H s)(h:VN X.K k H a xs):∃its:List Value,jh xs its/\J5 k s.heap a its.toArray/\xs.length<=sizeLine:=by
 cases k
 ·obtain⟨its,r,p,z⟩:=I.list h;exact⟨its,r,p.isList,z⟩
 ·obtain⟨its,r,p,z⟩:=I.tuple h;exact⟨its,r,p,z⟩
theorem Inv.seqK_inj{k:Sk}{a:Addr}{xs ys:List V}(I:Inv X pins σ H s)(h:VN X.K k H a xs)(h':VN X.K k H a ys):xs=ys:=by
 cases k
 ·exact I.list_inj h h'
 ·exact I.tuple_inj h h'
end
theorem ZX:2<=sizeLine:=by decide
def Fx(K:PySem.W.Frag)(k j:Sk)(a b:Addr):It:=
 ⟨fun i H=>∃xs ys x y,VN K k H a xs/\VN K j H b ys/\xs[i]?=some x/\ys[i]?=some y,
  fun i H v H'=>∃p,H p=none/\v=.ref p/\∀xs ys x y,VN K k H a xs->VN K j H b ys->xs[i]?=some x->ys[i]?=some y->H'=upd H p (.tup [x,y]),
  fun i H=>∃xs ys,VN K k H a xs/\VN K j H b ys/\(xs.length<=i∨ys.length<=i)⟩
theorem XQ{P:Program}{w:World}{K:PySem.W.Frag}{es:List Expr}{x1:Nat}{tp:Pos}{k j:Sk}{a b z TI TO i1 i2:Addr}(D:ZipApart z TI TO i1 i2 a b):
  Turn P w K (.Tuple es x1 tp) (Fx K k j a b) [z,TI,TO,i1,i2] z (fun i h=>IsZip h z TI TO .none/\IsPair h TI (.ref i1) (.ref i2)/\(∃u v,IsPair h TO u v)/\J8 k h i1 a i/\J8 j h i2 b i) where
 mem:=by simp
 obj:=fun i h st c hc=>by
  obtain⟨s1,s2,⟨u,v,s3⟩,s4,s5⟩:=st;simp only[List.mem_cons,List.not_mem_nil,or_false]at hc;rcases hc with rfl | rfl | rfl | rfl | rfl
  ·exact⟨_,s1,fun v z=>by cases z⟩
  ·exact⟨_,s2,fun v z=>by cases z⟩
  ·exact⟨_,s3,fun v z=>by cases z⟩
  ·exact s4.obj
  ·exact s5.obj
 keep:=fun i h h' st kk=>by
  obtain⟨s1,s2,⟨u,v,s3⟩,s4,s5⟩:=st;exact⟨kk z (by simp) _ s1,kk TI (by simp) _ s2,⟨u,v,kk TO (by simp) _ s3⟩,s4.at fun o e=>kk i1 (by simp) o e,s5.at fun o e=>kk i2 (by simp) o e⟩
 item:=by
  intro X hP hw hK hc i pins s σ H E I hf st hg;subst hP hw hK;obtain⟨s1,s2,⟨u,v,s3⟩,s4,s5⟩:=st;obtain⟨xs,ys,x,y,qa,qb,ex,ey⟩:=hg;obtain⟨ia,ra,pa,_⟩:=I.seqK qa;obtain⟨ib,rb,pb,_⟩:=I.seqK qb;obtain⟨ux,eux,rx⟩:=ra.get ex;obtain⟨uy,euy,ry⟩:=rb.get ey;refine Q0 D s1 s2 s3 s4 s5 pa pb (x:=ux) (y:=uy) (by simpa using eux) (by simpa using euy) fun h' b1 b2 b3 b4 b5 bk=>?_;refine⟨_,rfl,wpAny_letOwnedTupleGo_zip b1 fun h2 c1 c2=>?_⟩;have F4:∀c∈[z,TO,i1,i2],Jj X pins H c:=fun c hc=>hf c (by
   simp only[List.mem_cons,List.not_mem_nil,or_false]at hc⊢;rcases hc with q | q | q | q
   ·exact .inl q
   ·exact .inr (.inr (.inl q))
   ·exact .inr (.inr (.inr (.inl q)))
   ·exact .inr (.inr (.inr (.inr q))))
  have kp:∀c o,c∉[z,TO,i1,i2]->s.heap.get? c=some o->h2.get? c=some o:=fun c o hc e=>by
   simp only[List.mem_cons,List.not_mem_nil,or_false,not_or]at hc;exact c2.extBut c o hc.1 (bk c o hc.1 hc.2.1 hc.2.2.1 hc.2.2.2 e)
  have nz:s.heap.objs.size≠z:=Nat.ne_of_gt (wLa s1);have ht:IsTup h2 s.heap.objs.size ([ux,uy]:List Value).toArray:=⟨_,c2.extBut _ _ nz b5,rfl,_,rfl⟩
  have I2:=I.tupled (t':=s.toks) (h':=h2) rfl F4 kp (vs:=[x,y]) (us:=[ux,uy]) (.cons rx (.cons ry .nil)) ZX ht;refine⟨.ref s.heap.objs.size,_,I2,rfl,⟨s.heap.objs.size,I.hok.fresh (wPa _),rfl,fun xs' ys' x' y' qa' qb' ex' ey'=>?_⟩,⟨c1,kp _ _ (by simp[D.TIz,D.TITO,D.TIi1,D.TIi2]) s2,⟨ux,uy,c2.extBut _ _ D.TOz b2⟩,b3.at fun o e=>c2.extBut _ o D.i1z e,b4.at fun o e=>c2.extBut _ o D.i2z e⟩,fun c hc=>?_⟩
  ·rw[I.seqK_inj qa' qa,ex]at ex';rw[I.seqK_inj qb' qb,ey]at ey';cases ex';cases ey';rfl
  ·have q:=(hf c hc).1;rw[jo ?_]
   ·exact q
   ·intro e;have:c < s.heap.objs.size:=by
     simp only[List.mem_cons,List.not_mem_nil,or_false]at hc;rcases hc with rfl | rfl | rfl | rfl | rfl
     ·exact wLa s1
     ·exact wLa s2
     ·exact wLa s3
     ·obtain⟨o,e,_⟩:=s4.obj;exact wLa e
     ·obtain⟨o,e,_⟩:=s5.obj;exact wLa e
    rw[e]at this;exact wUa _ this
 done:=by
  intro X hP hw hK hc i pins s σ H E I hf st hg;subst hP hw hK;obtain⟨s1,s2,⟨u,v,s3⟩,s4,s5⟩:=st;obtain⟨xs,ys,qa,qb,hend⟩:=hg;obtain⟨ia,ra,pa,_⟩:=I.seqK qa;obtain⟨ib,rb,pb,_⟩:=I.seqK qb;have la:=ra.length;have lb:=rb.length;have hend':ia.toArray[i]?=none∨ib.toArray[i]?=none:=by
   rcases hend with q | q
   ·exact .inl (by simp;omega)
   ·exact .inr (by simp;omega)
  refine QS (I.ok.hd hc) D s1 s2 s3 s4 s5 pa pb hend' fun h' bk=>⟨rfl,?_⟩
  refine I.turnedL (t':=s.toks) (ch:=[z,TI,TO,i1,i2]) hf fun c o hc e=>?_;simp only[List.mem_cons,List.not_mem_nil,or_false,not_or]at hc;exact bk c o hc.1 hc.2.2.1 hc.2.2.2.1 hc.2.2.2.2 e
 self:=fun _ _ _ _ _ st h=>wpAny_pyIter_zip st.1 h
theorem j4.tup{K:PySem.W.Frag}{H H':Hp}{a:Addr}{xs:List V}(e:j4 H H')(h:Ji K H a xs):Ji K H' a xs:=by
 rcases h with(h | ⟨o,h⟩) | h
 ·exact .inl (.inl (e _ _ h))
 ·exact .inl (.inr ⟨o,e _ _ h⟩)
 ·exact .inr h
section
variable {X:Cx}
theorem XR(hc:X.calm=true):zB X (.builtin "all") (fun xs H Q=>∃(p:Addr) (bs:List Bool),xs=[.ref p]/\jC X.K H p (bs.map V.bl)/\Q (.bl (bs.all id)) H):=by
 intro pins s σ H xs us Q I r h;obtain⟨p,bs,e,hq,q⟩:=h;subst e;cases r with
 | cons r rr=>
  cases rr;cases r;obtain⟨its,rv,pl,hz⟩:=I.list hq;refine call_all_walk (wpAny_pyIter_list pl.isList ?_);have hp:p < s.heap.objs.size:=by obtain⟨o,ho,_⟩:=pl.isList;exact wLa ho
  have hlen:its.length=bs.length:=by have:=rv.length;simp at this;omega
  refine⟨s.heap.objs.size,_,_,_,_,_,fun i=>(bs[i]?).getD true,rfl,Walks.list (A:=X.A.in1) (I.ok.hd hc) s.heap.objs.size p (wTa hp) its.toArray,⟨⟨_,wJa _ rfl,rfl,rfl⟩,Heap.IsList.at pl.isList fun o e=>wIa _ e⟩,?_,fun h' tk hk=>?_⟩
  ·intro i v s' Q' E' hv hq';have hv:its[i]?=some v:=by simpa using hv
   have hi:i < bs.length:=by rw[<-hlen];exact(List.getElem?_eq_some_iff.mp hv).1
   obtain⟨u,eu,ru⟩:=rv.get (i:=i) (x:=V.bl bs[i]) (by simp[hi]);rw[hv]at eu;cases eu;cases ru;have e1:(bs[i]?).getD true=bs[i]:=by simp[hi]
   have hq':Q' ((bs[i]?).getD true) s':=hq';rw[e1]at hq';exact wpAny_truthy_bool hq'
  ·have e:((List.range its.toArray.size).all fun i=>(bs[i]?).getD true)=bs.all id:=by
    rw[List.size_toArray,hlen,Bool.eq_iff_iff];simp only[List.all_eq_true,List.mem_range,id];constructor
    ·intro hh x hx;obtain⟨i,hi,rfl⟩:=List.mem_iff_getElem.mp hx;have:=hh i hi;simpa[hi]using this
    ·intro hh i hi;have:=hh bs[i] (List.getElem_mem hi);simpa[hi]using this
   rw[e];have I':Inv X pins σ H { s with heap:=h',toks:=tk }:=I.turnedL (t':=tk) (ch:=[s.heap.objs.size]) (fun b hb=>by
    have e:b=s.heap.objs.size:=by simpa using hb
    subst e;exact I.fpOk (wPa _) (I.hok.fresh (wPa _))) (fun c o hc' e'=>hk c o hc' (wIa _ e'))
   exact⟨.bl (bs.all id),H,I',rfl,q⟩
inductive Kd where
 | i | b | s | l | t
def XS(K:PySem.W.Frag)(H:Hp):V->Kd->Prop
 | .int _,.i=>True
 | .bl _,.b=>True
 | .str _,.s=>True
 | .ref a,.l=>∃xs,jC K H a xs
 | .ref a,.t=>∃xs,Ji K H a xs
 | _,_=>False
@[simp] noncomputable def VO:Kd->Nat
 | .i=>0 | .b=>1 | .s=>2 | .l=>3 | .t=>4
def gw(k:Kd)(T:String):Option Bool:=if T = "int" then some (VO k==0||VO k==1)else if T = "bool" then some (VO k==1)else if T = "str" then some (VO k==2)else if T = "list" then some (VO k==3)else if T = "tuple" then some (VO k==4)else none
theorem ug{k:Kd}{T:String}{b:Bool}(h:gw k T=some b):(T = "int" /\(VO k==0||VO k==1)=b)∨(T = "bool" /\(VO k==1)=b)∨(T = "str" /\(VO k==2)=b)∨(T = "list" /\(VO k==3)=b)∨(T = "tuple" /\(VO k==4)=b):=by
 unfold gw at h;by_cases t1:T = "int"
 ·rw[if_pos t1]at h;exact .inl ⟨t1,vFa h⟩
 rw[if_neg t1]at h;by_cases t2:T = "bool"
 ·rw[if_pos t2]at h;exact .inr (.inl ⟨t2,vFa h⟩)
 rw[if_neg t2]at h;by_cases t3:T = "str"
 ·rw[if_pos t3]at h;exact .inr (.inr (.inl ⟨t3,vFa h⟩))
 rw[if_neg t3]at h;by_cases t4:T = "list"
 ·rw[if_pos t4]at h;exact .inr (.inr (.inr (.inl ⟨t4,vFa h⟩)))
 rw[if_neg t4]at h;by_cases t5:T = "tuple"
 ·rw[if_pos t5]at h;exact .inr (.inr (.inr (.inr ⟨t5,vFa h⟩)))
 rw[if_neg t5]at h;cases h
def C6(K:PySem.W.Frag):List V->Hp->VK->Prop:=fun xs H Q=>∃x T k b,xs=[x,.ty T]/\XS K H x k/\gw k T=some b/\Q (.bl b) H
theorem XT:zB X (.builtin "isinstance") (C6 X.K):=by
 intro pins s σ H xs us Q I r h;obtain⟨x,T,k,b,e,hk,hb,q⟩:=h;subst e;cases r with
 | cons r rr=>
  cases rr with
  | cons r' rr=>
   cases rr;cases r';have fin:∀tk,EP X pins σ Q (.bool b) { s with toks:=tk }:=fun tk=>⟨.bl b,H,I.tok tk,rfl,q⟩
   have fin0:EP X pins σ Q (.bool b) s:=⟨.bl b,H,I,rfl,q⟩
   cases k with
   | i=>
    cases x <;> try exact hk.elim
    obtain⟨t,rfl⟩:=r;rcases ug hb with⟨rfl,rfl⟩ | ⟨rfl,rfl⟩ | ⟨rfl,rfl⟩ | ⟨rfl,rfl⟩ | ⟨rfl,rfl⟩
    all_goals (first | exact IsiPair.int_int fin0 | exact IsiPair.int_bool (fin _) | exact IsiPair.int_str (fin _) | exact IsiPair.int_list (fin _) | exact IsiPair.int_tuple (fin _))
   | b=>
    cases x <;> try exact hk.elim
    cases r;rcases ug hb with⟨rfl,rfl⟩ | ⟨rfl,rfl⟩ | ⟨rfl,rfl⟩ | ⟨rfl,rfl⟩ | ⟨rfl,rfl⟩
    all_goals (first | exact IsiPair.bool_int fin0 | exact IsiPair.bool_bool fin0 | exact IsiPair.bool_str (fin _) | exact IsiPair.bool_list (fin _) | exact IsiPair.bool_tuple (fin _))
   | s=>
    cases x <;> try exact hk.elim
    obtain⟨t,rfl⟩:=r;rcases ug hb with⟨rfl,rfl⟩ | ⟨rfl,rfl⟩ | ⟨rfl,rfl⟩ | ⟨rfl,rfl⟩ | ⟨rfl,rfl⟩
    all_goals (first | exact IsiPair.str_str fin0 | exact IsiPair.str_int (fin _) | exact IsiPair.str_bool (fin _) | exact IsiPair.str_list (fin _) | exact IsiPair.str_tuple (fin _))
   | l=>
    cases x <;> try exact hk.elim
    cases r;obtain⟨ys,hq⟩:=hk;obtain⟨its,rv,pl,_⟩:=I.list hq;obtain⟨o,ho,hc,_⟩:=pl.isList;rcases ug hb with⟨rfl,rfl⟩ | ⟨rfl,rfl⟩ | ⟨rfl,rfl⟩ | ⟨rfl,rfl⟩ | ⟨rfl,rfl⟩
    all_goals (first | exact IsiPair.list_list ho hc fin0 | exact IsiPair.list_int ho hc (fin _) | exact IsiPair.list_bool ho hc (fin _) | exact IsiPair.list_str ho hc (fin _) | exact IsiPair.list_tuple ho hc (fin _))
   | t=>
    cases x <;> try exact hk.elim
    cases r;obtain⟨ys,hq⟩:=hk;obtain⟨its,rv,pl,_⟩:=I.tuple hq;obtain⟨o,ho,hc,_⟩:=pl;rcases ug hb with⟨rfl,rfl⟩ | ⟨rfl,rfl⟩ | ⟨rfl,rfl⟩ | ⟨rfl,rfl⟩ | ⟨rfl,rfl⟩
    all_goals (first | exact IsiPair.tuple_tuple ho hc fin0 | exact IsiPair.tuple_int ho hc (fin _) | exact IsiPair.tuple_bool ho hc (fin _) | exact IsiPair.tuple_str ho hc (fin _) | exact IsiPair.tuple_list ho hc (fin _))
noncomputable def Q1:Kd->Bool
 | .l=>true
 | .t=>true
 | _=>false
def Aj(K:PySem.W.Frag)(te:TE):TE:=fun σ H Q=>te σ H fun x H1=>∃k,XS K H1 x k/\∀p,H1 p=none->Q (.bl (Q1 k)) (upd H1 p (.tup [.ty "list",.ty "tuple"]))
theorem bL{e:Expr}{te:TE}{p p1 p2 tp pos:Pos}{x1:Nat}(hgi:Gl X "isinstance")(hmi:X.mg "isinstance" = none)(hgl:Gl X "list")(hml:X.mg "list" = none)(hgt:Gl X "tuple")(hmt:X.mg "tuple" = none)(he:PE X e te)
  (hs:starEach [e,.Tuple [.Name "list" p1,.Name "tuple" p2] x1 tp] X.env=(false,eval e X.env)::starEach [.Tuple [.Name "list" p1,.Name "tuple" p2] x1 tp] X.env:=by rfl)
  (hs2:starEach [.Tuple [.Name "list" p1,.Name "tuple" p2] x1 tp] X.env=(false,eval (.Tuple [.Name "list" p1,.Name "tuple" p2] x1 tp) X.env)::starEach [] X.env:=by rfl):
  PE X (.Call (.Name "isinstance" p) [e,.Tuple [.Name "list" p1,.Name "tuple" p2] x1 tp] [] pos) (Aj X.K te):=by
 intro pins s σ H Q I h;refine wpAny_Call_Name_kw (Zv I hgi hmi boot_isinstance ?_);refine PyProof.Rows.callWith_builtin1 ?_ hs (by rw[hs2];rfl);rw[hs];show wpAny _ _ (spliced ((false,eval e X.env)::backTo pos (starEach [.Tuple [.Name "list" p1,.Name "tuple" p2] x1 tp] X.env))) _ _ s;refine Calls.spliced_cons (jv (he pins s σ H _ I h) fun u s1 xx=>?_);obtain⟨x,H1,I1,r1,k,hk,q⟩:=xx;rw[hs2];show wpAny _ _ (spliced ((false,eval (.Tuple [.Name "list" p1,.Name "tuple" p2] x1 tp) X.env)::backTo pos (starEach [] X.env))) _ _ s1;refine Calls.spliced_cons ?_;have hpa:PA X [.Name "list" p1,.Name "tuple" p2] (yb (tC (.ty "list")) (yb (tC (.ty "tuple")) zW)):=j_ (Gr hgl hml boot_list rfl) (j_ (Gr hgt hmt boot_tuple rfl) yn);refine wpAny_Tuple_spliced (jv (hpa tp pins s1 σ H1 (fun vs H2=>vs=[.ty "list",.ty "tuple"]/\H2=H1) I1 ⟨rfl,rfl⟩) fun us s2 xx=>?_);obtain⟨xs,H2,I2,r2,e1,e2⟩:=xx;subst e1 e2;have eu:us=[.type "list",.type "tuple"]:=by
  cases r2 with
  | cons a b=>
   cases b with
   | cons c d=>
    cases d;cases a;cases c;rfl
 subst eu;refine⟨ZX,Calls.spliced_nil ?_⟩;have hf:H2 s2.heap.objs.size=none:=I2.hok.fresh (wPa _);have I3:=I2.laid (h':=s2.heap.push { cls:=.type "tuple",data:=.seq ([.type "list",.type "tuple"]:List Value).toArray }) (t':=s2.toks) (o:=.tup [.ty "list",.ty "tuple"]) (fun b u e=>wIa _ e) (wPa _)
  ⟨ZX,[.type "list",.type "tuple"],.cons rfl (.cons rfl .nil),⟨_,wJa _ rfl,rfl,_,rfl⟩⟩
 have fin:∀b tk,b=Q1 k->EP X pins σ Q (.bool b) { s2 with heap:=s2.heap.push { cls:=.type "tuple",data:=.seq ([.type "list",.type "tuple"]:List Value).toArray },toks:=tk }:=fun b tk eb=>by
  subst eb;exact⟨.bl (Q1 k),_,I3.tok tk,rfl,q _ hf⟩
 have tob:∀a o,s2.heap.get? a=some o->(s2.heap.push { cls:=.type "tuple",data:=.seq ([.type "list",.type "tuple"]:List Value).toArray }).get? a=some o:=fun a o e=>wIa _ e;cases k with
 | i=>
  cases x <;> try exact hk.elim
  obtain⟨t,rfl⟩:=r1;exact IsiPair.tupleOf (Tx := "int") (cs:=[.type "list",.type "tuple"]) (vs:=[false,false]) ⟨Answers.of_false_int (by decide +kernel) F.isi_meta_list F.sub_int_list,Answers.of_false_int (by decide +kernel) F.isi_meta_tuple F.sub_int_tuple,trivial⟩ rfl (wJa _ rfl) fun tk=>fin _ tk rfl
 | b=>
  cases x <;> try exact hk.elim
  cases r1;exact IsiPair.tupleOf (Tx := "bool") (cs:=[.type "list",.type "tuple"]) (vs:=[false,false]) ⟨Answers.of_false_bool (by decide +kernel) F.isi_meta_list F.sub_bool_list,Answers.of_false_bool (by decide +kernel) F.isi_meta_tuple F.sub_bool_tuple,trivial⟩ rfl (wJa _ rfl) fun tk=>fin _ tk rfl
 | s=>
  cases x <;> try exact hk.elim
  obtain⟨t,rfl⟩:=r1;exact IsiPair.tupleOf (Tx := "str") (cs:=[.type "list",.type "tuple"]) (vs:=[false,false]) ⟨Answers.of_false_str (by decide +kernel) F.isi_meta_list F.sub_str_list,Answers.of_false_str (by decide +kernel) F.isi_meta_tuple F.sub_str_tuple,trivial⟩ rfl (wJa _ rfl) fun tk=>fin _ tk rfl
 | l=>
  cases x <;> try exact hk.elim
  cases r1;obtain⟨ys,hq⟩:=hk;obtain⟨its,rv,pl,_⟩:=I2.list hq;obtain⟨o,ho,hc,_⟩:=pl.isList;exact IsiPair.tupleOf (Tx := "list") (cs:=[.type "list",.type "tuple"]) (vs:=[true,false]) ⟨Answers.of_true F.isi_meta_list F.sub_list_list,Answers.of_false_list (by decide +kernel) F.isi_meta_tuple F.sub_list_tuple,trivial⟩ ⟨o,tob _ _ ho,hc⟩ (wJa _ rfl) fun tk=>fin _ tk rfl
 | t=>
  cases x <;> try exact hk.elim
  cases r1;obtain⟨ys,hq⟩:=hk;obtain⟨its,rv,pl,_⟩:=I2.tuple hq;obtain⟨o,ho,hc,_⟩:=pl;exact IsiPair.tupleOf (Tx := "tuple") (cs:=[.type "list",.type "tuple"]) (vs:=[false,true]) ⟨Answers.of_false_tuple (by decide +kernel) F.isi_meta_list F.sub_tuple_list,Answers.of_true F.isi_meta_tuple F.sub_tuple_tuple,trivial⟩ ⟨o,tob _ _ ho,hc⟩ (wJa _ rfl) fun tk=>fin _ tk rfl
end
def bM(r r' r'':R2)(ta tb tc td:TE):TE:=fun σ H Q=>ta σ H fun x H1=>tb σ H1 fun y H2=>r x y H2 fun z H3=>∃k,z=.bl k/\
 (if k=true then tc σ H3 fun w' H4=>r' y w' H4 fun z' H5=>∃k',z'=.bl k'/\(if k'=true then td σ H5 fun q H6=>r'' w' q H6 Q else Q (.bl false) H5)else Q (.bl false) H3)
section
variable {X:Cx} {a b c d:Expr} {ta tb tc td:TE} {pos:Pos}
theorem QT{op op' op'':CmpOp}{r r' r'':R2}(ho:jF X (compareOp op) r)(ho':jF X (compareOp op') r')(ho'':jF X (compareOp op'') r'')(ha:PE X a ta)(hb:PE X b tb)(hc:PE X c tc)(hd:PE X d td)
  (hm:lastMarks [op,op',op''] [b,c,d]=false:=by with_unfolding_all rfl):PE X (.Compare a [op,op',op''] [b,c,d] pos) (bM r r' r'' ta tb tc td):=by
 intro pins s σ H Q I h;refine Compare_chain (jv (ha pins s σ H _ I h) fun v s1 ⟨x,H1,I1,r1,q1⟩=>chain_link (jv (hb pins s1 σ H1 _ I1 q1) fun u s2 ⟨y,H2,I2,r2,q2⟩=>
  jv (ho pins s2 σ H2 x y v u _ I2 r1 r2 q2) fun _ s3 ⟨z,H3,I3,r3,k,e,q3⟩=>?_)) hm
 subst e;cases r3;refine wpAny_truthy_bool ?_;cases k with
 | false=>exact ite_ff ⟨.bl false,H3,I3,rfl,q3⟩
 | true=>
  refine ite_tt (chain_link (jv (hc pins s3 σ H3 _ I3 q3) fun w' s4 ⟨z',H4,I4,r4,q4⟩=>jv (ho' pins s4 σ H4 y z' u w' _ I4 r2 r4 q4) fun _ s5 xx=>?_));obtain⟨z5,H5,I5,r5,k5,e5,q5⟩:=xx;subst e5;cases r5;refine wpAny_truthy_bool ?_;cases k5 with
  | false=>exact ite_ff ⟨.bl false,H5,I5,rfl,q5⟩
  | true=>exact ite_tt (chain_last (jv (hd pins s5 σ H5 _ I5 q5) fun w6 s6 ⟨z6,H6,I6,r6,q6⟩=>ho'' pins s6 σ H6 z' z6 w' w6 Q I6 r4 r6 q6))
end
section
variable {X:Cx}
open PySem.SeqAt
end
structure FnI (P:Program) (w:World) (K:PySem.W.Frag) (mg:Str->Option Value) (base:Heap) (k:Nat) (x:Str) (ps:List Str) (sp:Sp):Prop where
 ex:∃f fd,FnOk P w K mg base Y5 k f fd ps sp/\YS K fd ps []/\PySem.W.keepIn K (.ref f)=true/\mg x=some (.ref f)
structure MtI (P:Program) (w:World) (K:PySem.W.Frag) (mg:Str->Option Value) (base:Heap) (k:Nat) (C:Addr) (m:Str) (ps:List Str) (sp:Sp):Prop where
 ex:∃f fd,FnOk P w K mg base Y5 k f fd ps sp/\YS K fd ps []/\Meth K C m f
structure MkI (P:Program) (w:World) (K:PySem.W.Frag) (mg:Str->Option Value) (base:Heap) (k:Nat) (C:Addr) (x:Str) (ps:List Str) (sp:Sp):Prop where
 ex:∃f fd,FnOk P w K mg base Y5 k f fd ps sp/\YS K fd ps []/\Mk K C f/\mg x=some (.ref C)
section
variable {X:Cx} {k:Nat} {x m:Str} {ps:List Str} {sp:Sp} {p pos apos:Pos} {e o:Expr} {es:List Expr} {t:TA} {ta:TE} {C:Addr}
theorem Kg(F:FnI X.prog X.w X.K X.mg X.base k x ps sp)(hr:Room k X.A)(ha:PA X (e::es) t)(hg:Gl X x:=by rfl)(hdb:(x==("__debug__" : Str))=false:=by decide)
  (he:starEach (e::es) X.env=(false,eval e X.env)::starEach es X.env:=by rfl) (hpl:(backTo pos (starEach es X.env)).any (·.1)=false:=by rfl):PE X (.Call (.Name x p) (e::es) [] pos) (qW sp [] E0 t):=by
 obtain⟨f,fd,G,b,kp,hm⟩:=F.ex;exact bB G hr hg hm kp b .nil q_ ha hdb he hpl
theorem QU{pl:Sem Bool}(he:PE X o ta)(c:Cls X.K C)(M:MtI X.prog X.w X.K X.mg X.base k C m ps sp)(hr:Room k X.A)
  (ht:eval (.Call (.Attribute o m apos) [] [] pos) X.env=(do
   let ov<-eval o X.env
   standAt apos.atName
   let (f,first)<-holding [ov] (getMethod ov m pl)
   callWith pos f first (backTo pos (starEach [] X.env)) (backToKw pos (keywordEach [] X.env))):=by rfl):
  PE X (.Call (.Attribute o m apos) [] [] pos) (Ad C m sp [] E0 ta zW):=by
 obtain⟨f,fd,G,b,hm⟩:=M.ex;exact XB he c hm G hr b .nil q_ ht
theorem EE(M:MkI X.prog X.w X.K X.mg X.base k C x ps sp)(hr:Room (k+1) X.A)(ha:PA X (e::es) t)(hg:Gl X x:=by rfl)(hdb:(x==("__debug__" : Str))=false:=by decide)
  (he:starEach (e::es) X.env=(false,eval e X.env)::starEach es X.env:=by rfl) (hpl:(backTo pos (starEach es X.env)).any (·.1)=false:=by rfl):PE X (.Call (.Name x p) (e::es) [] pos) (Ae C sp [] E0 t):=by
 obtain⟨f,fd,G,b,mk,hm⟩:=M.ex;exact bC mk G hr hg hm b .nil q_ ha hdb he hpl
theorem C7(ho:PE X o ta)(ha:PA X [e] t)(hbase:attributeBase o "append" X.env (eval o X.env)=eval o X.env:=by rfl)
  (hfew:((backTo pos (starEach [e] X.env)).all (fun x=>!x.1)&&(backToKw pos (keywordEach [] X.env)).all (fun x=>x.1.isSome)
   && decide (([e]:List Expr).length+([]:List Keyword).length+(if ([]:List Keyword).isEmpty then 0 else 1) < 30))=true:=by rfl)
  (hline:(apos.endLine==pos.line)=true:=by rfl) (hs:starEach [e] X.env=(false,eval e X.env)::starEach [] X.env:=by rfl) (hplain:(backTo pos (starEach [] X.env)).any (·.1)=false:=by rfl):
  PE X (.Call (.Attribute o "append" apos) [e] [] pos) (kl X.K "list" uZ ta t):=
 qZ PySem.F.plainAttrs_list PySem.F.slot_list_append PySem.F.type_list_append QM ho ha hbase hfew hline hs hplain
end
theorem iW{X:Cx}{x:Str}{i:Int}{pos:Pos}(hm:∃t,X.mg x=some (.int i t))(hg:Gl X x:=by rfl)(hd:(x==("__debug__" : Str))=false:=by decide):PE X (.Name x pos) (tC (.int i)):=by
 obtain⟨t,h⟩:=hm;exact bi hg h ⟨t,rfl⟩ hd
theorem jw{H:Hp}{p:Addr}(h:H p=none)(o:HO):j4 H (upd H p o):=fun b u q=>by rw[jo (jx q h)];exact q
theorem j4.upd{H0 H:Hp}{p:Addr}(s:j4 H0 H)(h:H0 p=none)(o:HO):j4 H0 (upd H p o):=fun b u q=>by rw[jo (jx q h)];exact s b u q
theorem j4.none{H H':Hp}(s:j4 H H'){p:Addr}(h:H' p=Option.none):H p=Option.none:=s.free h
theorem EF{n:Nat}(h:n<=1000):n<=sizeLine:=wQa (QP h)
noncomputable abbrev T3:=Int×Int×Int
noncomputable def iX:HO->Bool
 | .tup _=>true
 | .frz _ (.tup _)=>true
 | _=>false
def Vi(H H':Hp):Prop:=∀b o,iX o=true->H b=some o->H' b=some o
theorem Vi.sqT{K:PySem.W.Frag}{H H':Hp}{a:Addr}{xs:List V}(k:Vi H H')(h:Ji K H a xs):Ji K H' a xs:=by
 rcases h with(h | ⟨o,h⟩) | h
 ·exact .inl (.inl (k _ _ rfl h))
 ·exact .inl (.inr ⟨o,k _ _ rfl h⟩)
 ·exact .inr h
def Fy(K:PySem.W.Frag)(a:Addr):It:=
 ⟨fun i H=>∃xs x,jC K H a xs/\xs[i]?=some x,fun i H v H'=>∃p,H p=none/\v=.ref p/\∀xs x,jC K H a xs->xs[i]?=some x->H'=upd H p (.tup [.int i,x]),fun i H=>∃xs,jC K H a xs/\xs.length<=i⟩
theorem QV{P:Program}{w:World}{K:PySem.W.Frag}{es:List Expr}{x1:Nat}{tp:Pos}{a e it:Addr}(hei:e≠it)(hle:a≠e)(hli:a≠it):
  Turn P w K (.Tuple es x1 tp) (Fy K a) [e,it] e (fun i h=>(∃old,IsEnum h e it (i:Nat) old)/\h.IsListIter it a i) where
 mem:=by simp
 obj:=fun i h st c hc=>by
  obtain⟨⟨old,s1⟩,s2⟩:=st;simp only[List.mem_cons,List.not_mem_nil,or_false]at hc;rcases hc with rfl | rfl
  ·exact⟨_,s1,fun v z=>by cases z⟩
  ·obtain⟨o,ho,_,d⟩:=s2;exact⟨o,ho,fun v z=>by rw[d]at z;cases z⟩
 keep:=fun i h h' st kk=>by
  obtain⟨⟨old,s1⟩,s2⟩:=st;exact⟨⟨old,kk e (by simp) _ s1⟩,s2.at fun o z=>kk it (by simp) o z⟩
 item:=by
  intro X hP hw hK hc i pins s σ H E I hf st hg;subst hP hw hK;obtain⟨⟨old,s1⟩,s2⟩:=st;obtain⟨xs,x,qa,ex⟩:=hg;obtain⟨ia,ra,pa,_⟩:=I.list qa;obtain⟨ux,eux,rx⟩:=ra.get ex;refine wpAny_pyNext_enum_item s1 s2 pa.isList (x:=ux) (by simpa using eux) hei fun h' b1 b2 b3 b4 bk=>?_;refine⟨_,rfl,wpAny_letOwnedTupleGo_enum b1 fun h2 c1 c2=>?_⟩;have lt1:e < s.heap.objs.size:=wLa s1;have lt2:it < s.heap.objs.size:=by obtain⟨o,ho,_⟩:=s2;exact wLa ho
  have kp:∀c o,c∉[e,it]->s.heap.get? c=some o->h2.get? c=some o:=fun c o hc z=>by
   simp only[List.mem_cons,List.not_mem_nil,or_false,not_or]at hc;exact c2.extBut c o hc.1 (bk c o hc.1 hc.2 z)
  have ht:IsTup h2 s.heap.objs.size ([.int i s.toks,ux]:List Value).toArray:=⟨_,c2.extBut _ _ (Nat.ne_of_gt lt1) b3,rfl,_,rfl⟩
  have I2:=I.tupled (t':=s.toks+1) (h':=h2) rfl hf kp (vs:=[.int i,x]) (us:=[.int i s.toks,ux]) (.cons ⟨_,rfl⟩ (.cons rx .nil)) ZX ht;refine⟨.ref s.heap.objs.size,_,I2,rfl,⟨s.heap.objs.size,I.hok.fresh (wPa _),rfl,fun xs' x' qa' ex'=>?_⟩,⟨⟨ux,by simpa using c1⟩,b2.at fun o z=>c2.extBut _ o hei.symm z⟩,fun c hc=>?_⟩
  ·rw[I.list_inj qa' qa,ex]at ex';cases ex';rfl
  ·have q:=(hf c hc).1;rw[jo ?_]
   ·exact q
   ·intro z;simp only[List.mem_cons,List.not_mem_nil,or_false]at hc;rcases hc with rfl | rfl
    ·rw[z]at lt1;exact wUa _ lt1
    ·rw[z]at lt2;exact wUa _ lt2
 done:=by
  intro X hP hw hK hc i pins s σ H E I hf st hg;subst hP hw hK;obtain⟨⟨old,s1⟩,s2⟩:=st;obtain⟨xs,qa,hend⟩:=hg;obtain⟨ia,ra,pa,_⟩:=I.list qa;have la:=ra.length;refine wpAny_pyNext_enum_end (I.ok.hd hc) s1 s2 pa.isList (by simp;omega) fun h' bk=>⟨rfl,?_⟩
  refine I.turnedL (t':=s.toks) (ch:=[e,it]) hf fun c o hc z=>?_;simp only[List.mem_cons,List.not_mem_nil,or_false,not_or]at hc;exact bk c o hc.2 z
 self:=fun _ _ _ _ _ st h=>by
  obtain⟨⟨old,s1⟩,s2⟩:=st;exact wpAny_pyIter_enum s1 h
theorem QW:bootBuiltins "enumerate" = some (.type "enumerate"):=by decide +kernel
def EG(K:PySem.W.Frag)(ta:TA):TI:=fun σ H R=>ta σ H fun vs H1=>∃a xs,vs=[.ref a]/\jC K H1 a xs/\R (Fy K a) H1
theorem bN{X:Cx}{es:List Expr}{x1:Nat}{tp:Pos}{e1:Expr}{ta:TA}{p pos:Pos}(hg:Gl X "enumerate")(hm:X.mg "enumerate" = none)(ha:PA X [e1] ta)(hs:starEach [e1] X.env=[(false,eval e1 X.env)]:=by rfl):
  PI X (.Tuple es x1 tp) (.Call (.Name "enumerate" p) [e1] [] pos) (EG X.K ta):=by
 intro pins s σ H R I h;refine Call_ (Zv I hg hm QW (PyProof.Rows.callWith_type1 (jv (ha pos pins s σ H _ I h) fun us s1 xx=>?_) hs rfl));obtain⟨vs,H1,I1,r1,q1⟩:=xx;obtain⟨a,xs,e,qa,q⟩:=q1;subst e;cases r1 with
 | cons r rr=>
  cases rr;cases r;obtain⟨ia,ra,pa,_⟩:=I1.list qa;have lt:a < s1.heap.objs.size:=by obtain⟨o,ho,_⟩:=pa.isList;exact wLa ho
  refine call_enumerate_list pa.isList fun h' b1 b2 b3 bk=>?_;refine wpAny_pyIter_enum b1 ?_;have fr:∀m,Jj X pins H1 (s1.heap.objs.size+m):=fun m=>I1.fpOk (vKa _ _) (I1.hok.fresh (vKa _ _));refine⟨_,_,_,_,H1,rfl,I1.kept (t':=s1.toks) bk,QV (a:=a) (e:=s1.heap.objs.size+1) (it:=s1.heap.objs.size) (Nat.ne_of_gt (Nat.lt_succ_self _)) (wTa (Nat.lt_succ_of_lt lt)) (wTa lt),⟨⟨_,b1⟩,b2⟩,fun c hc=>?_,q⟩;simp only[List.mem_cons,List.not_mem_nil,or_false]at hc;rcases hc with rfl | rfl
  ·exact fr 1
  ·exact fr 0
end L2
namespace DS
open PySem PySem.Spec PyProof.Rows L2
inductive D where
 | non | bl (b:Bool) | int (i:Int) | str (x:Str) | tup (l:List D) | lst (l:List D) | ins (C:Addr) (ns:List Str) (ds:List D) | scr (ns:List Int) | dct (ks vs:List D)
mutual
noncomputable def yT:D->Option KD
 | .int n=>some (.i n)
 | .bl b=>some (.i (if b then 1 else 0))
 | .str x=>some (.s x)
 | .tup l=>(YD l).bind fun ks=>some (.t ks)
 | _=>none
noncomputable def YD:List D->Option (List KD)
 | []=>some []
 | d::ds=>(yT d).bind fun k=>(YD ds).bind fun ks=>some (k::ks)
end
def yc:D->Option KD
 | .tup l=>(yT (.tup l)).bind fun k=>if k.dep<=8 then some k else none
 | _=>none
def jX:List D->Option (List KD)
 | []=>some []
 | d::ds=>(yc d).bind fun k=>(jX ds).bind fun ks=>some (k::ks)
mutual
noncomputable def j7(K:PySem.W.Frag)(H:Hp):D->V->Prop
 | .non,v=>v=.non
 | .bl b,v=>v=.bl b
 | .int i,v=>v=.int i
 | .str x,v=>v=.str x
 | .tup l,v=>∃a xs,v=.ref a/\Ji K H a xs/\j3 K H l xs
 | .lst l,v=>∃a xs,v=.ref a/\H a=some (.lst xs)/\j3 K H l xs
 | .scr ns,v=>∃a,v=.ref a/\jC K H a (ns.map V.int)
 | .ins C ns l,v=>∃a dx xs,v=.ref a/\H a=some (.ins C dx (ns.zip xs))/\ns.length=xs.length/\j3 K H l xs
 | .dct ks vs,v=>∃a kvs ep,v=.ref a/\H a=some (.dD kvs ep)/\jX ks=some (kvs.map (·.1))/\j3 K H ks (kvs.map fun p=>V.ref p.2.1)/\j3 K H vs (kvs.map (·.2.2))
noncomputable def j3(K:PySem.W.Frag)(H:Hp):List D->List V->Prop
 | [],vs=>vs=[]
 | d::ds,vs=>∃v r,vs=v::r/\j7 K H d v/\j3 K H ds r
end
mutual
theorem j7.same{K:PySem.W.Frag}{H H':Hp}(e:j4 H H'):∀{d:D} {v:V},j7 K H d v->j7 K H' d v
 | .non,_,h=>h
 | .bl _,_,h=>h
 | .int _,_,h=>h
 | .str _,_,h=>h
 | .tup l,_,h=>by
  rw[j7]at h⊢;obtain⟨a,xs,rfl,q,r⟩:=h;exact⟨a,xs,rfl,e.tup q,j3.same e r⟩
 | .lst l,_,h=>by
  rw[j7]at h⊢;obtain⟨a,xs,rfl,q,r⟩:=h;exact⟨a,xs,rfl,e _ _ q,j3.same e r⟩
 | .scr ns,_,h=>by
  rw[j7]at h⊢;obtain⟨a,rfl,q⟩:=h;exact⟨a,rfl,e.seq q⟩
 | .ins C ns l,_,h=>by
  rw[j7]at h⊢;obtain⟨a,dx,xs,rfl,q,n,r⟩:=h;exact⟨a,dx,xs,rfl,e _ _ q,n,j3.same e r⟩
 | .dct ks vs,_,h=>by
  rw[j7]at h⊢;obtain⟨a,kvs,ep,rfl,q,n,r1,r2⟩:=h;exact⟨a,kvs,ep,rfl,e _ _ q,n,j3.same e r1,j3.same e r2⟩
theorem j3.same{K:PySem.W.Frag}{H H':Hp}(e:j4 H H'):∀{ds:List D} {vs:List V},j3 K H ds vs->j3 K H' ds vs
 | [],_,h=>h
 | d::ds,_,h=>by
  rw[j3]at h⊢;obtain⟨v,r,rfl,a,b⟩:=h;exact⟨v,r,rfl,j7.same e a,j3.same e b⟩
end
section
variable {K:PySem.W.Frag} {H:Hp}
theorem j3.len:∀{ds:List D} {vs:List V},j3 K H ds vs->vs.length=ds.length
 | [],_,h=>by rw[j3]at h;subst h;rfl
 | d::ds,_,h=>by
  rw[j3]at h;obtain⟨v,r,rfl,a,b⟩:=h;rw[List.length_cons,List.length_cons,j3.len b]
theorem j3.get:∀{ds:List D} {vs:List V} {i:Nat} {d:D},j3 K H ds vs->ds[i]?=some d->∃v,vs[i]?=some v/\j7 K H d v
 | [],_,_,_,h,e=>by simp at e
 | d::ds,_,0,_,h,e=>by
  rw[j3]at h;obtain⟨v,r,rfl,a,b⟩:=h;simp at e;subst e;exact⟨v,rfl,a⟩
 | d::ds,_,i+1,d',h,e=>by
  rw[j3]at h;obtain⟨v,r,rfl,a,b⟩:=h;obtain⟨v',e',q⟩:=j3.get (i:=i) b (by simpa using e);exact⟨v',by simpa using e',q⟩
theorem j3.nil:j3 K H [] []:=by rw[j3]
theorem j3.cons{d:D}{ds:List D}{v:V}{vs:List V}(a:j7 K H d v)(b:j3 K H ds vs):j3 K H (d::ds) (v::vs):=by rw[j3];exact⟨v,vs,rfl,a,b⟩
theorem j3.app:∀{ds es:List D} {vs us:List V},j3 K H ds vs->j3 K H es us->j3 K H (ds++es) (vs++us)
 | [],_,_,_,h,g=>by rw[j3]at h;subst h;exact g
 | d::ds,es,_,us,h,g=>by
  rw[j3]at h;obtain⟨u,r,rfl,a,b⟩:=h;exact j3.cons a (j3.app b g)
theorem j3.snoc{d:D}{v:V}{ds:List D}{vs:List V}(h:j3 K H ds vs)(q:j7 K H d v):j3 K H (ds++[d]) (vs++[v]):=h.app (j3.cons q j3.nil)
theorem j3.drop:∀{ds:List D} {vs:List V} (n:Nat),j3 K H ds vs->j3 K H (ds.drop n) (vs.drop n)
 | _,_,0,h=>h
 | [],_,n+1,h=>by rw[j3]at h;subst h;exact j3.nil
 | d::ds,_,n+1,h=>by
  rw[j3]at h;obtain⟨u,r,rfl,a,b⟩:=h;exact j3.drop n b
theorem j3.take:∀{ds:List D} {vs:List V} (n:Nat),j3 K H ds vs->j3 K H (ds.take n) (vs.take n)
 | _,_,0,h=>j3.nil
 | [],_,n+1,h=>by rw[j3]at h;subst h;exact j3.nil
 | d::ds,_,n+1,h=>by
  rw[j3]at h;obtain⟨u,r,rfl,a,b⟩:=h;exact j3.cons a (j3.take n b)
theorem j3.set{d:D}{v:V}(q:j7 K H d v):∀{ds:List D} {vs:List V} (n:Nat),j3 K H ds vs->j3 K H (ds.set n d) (vs.set n v)
 | [],_,n,h=>by rw[j3]at h;subst h;exact j3.nil
 | e::ds,_,0,h=>by
  rw[j3]at h;obtain⟨u,r,rfl,a,b⟩:=h;exact j3.cons q b
 | e::ds,_,n+1,h=>by
  rw[j3]at h;obtain⟨u,r,rfl,a,b⟩:=h;exact j3.cons a (j3.set q n b)
end
noncomputable def j6(H:Hp)(O:List Addr):Hp:=fun b=>if b∈O then none else H b
theorem Zr{H:Hp}{O:List Addr}{b:Addr}(h:b∈O):j6 H O b=none:=if_pos h
theorem jA{H:Hp}{O:List Addr}{b:Addr}(h:b∉O):j6 H O b=H b:=if_neg h
theorem J0{H:Hp}{O:List Addr}{b:Addr}{o:HO}(h:j6 H O b=some o):b∉O/\H b=some o:=by
 by_cases hb:b∈O
 ·rw[Zr hb]at h;cases h
 ·rw[jA hb]at h;exact⟨hb,h⟩
theorem JC{H:Hp}{O:List Addr}:j4 (j6 H O) H:=fun b o h=>(J0 h).2
theorem Jx{H:Hp}{O O':List Addr}(s:∀a∈O',a∈O):j4 (j6 H O) (j6 H O'):=fun b o h=>by
 obtain⟨h1,h2⟩:=J0 h;rw[jA (fun z=>h1 (s b z))];exact h2
theorem jc{H H':Hp}{O:List Addr}(s:j4 H H'):j4 (j6 H O) (j6 H' O):=fun b o h=>by
 obtain⟨h1,h2⟩:=J0 h;rw[jA h1];exact s _ _ h2
theorem YO{H H':Hp}{O:List Addr}{l:Addr}(s:j4 H H')(hl:H l=none):j4 (j6 H O) (j6 H' (l::O)):=fun b o h=>by
 obtain⟨h1,h2⟩:=J0 h;have ne:b≠l:=jx h2 hl;rw[jA (by intro z;rcases List.mem_cons.mp z with z | z;exact ne z;exact h1 z)];exact s _ _ h2
theorem Jb{H:Hp}{O:List Addr}{l:Addr}{o:HO}(h:l∈O):j6 (upd H l o) O=j6 H O:=by
 funext b;by_cases hb:b∈O
 ·rw[Zr hb,Zr hb]
 ·rw[jA hb,jA hb,jo (fun e=>hb (by rw[e];exact h))]
inductive OD where
 | lst (ds:List D) | ins (C:Addr) (ns:List Str) (ds:List D) | dct (ks vs:List D)
@[simp] noncomputable def OD.toD:OD->D
 | .lst ds=>.lst ds
 | .ins C ns ds=>.ins C ns ds
 | .dct ks vs=>.dct ks vs
def JJ(K:PySem.W.Frag)(H Hd:Hp)(l:Addr):OD->Prop
 | .lst ds=>∃vs,H l=some (.lst vs)/\j3 K Hd ds vs
 | .ins C ns ds=>∃dx vs,H l=some (.ins C dx (ns.zip vs))/\ns.length=vs.length/\j3 K Hd ds vs
 | .dct ks vs=>∃kvs ep,H l=some (.dD kvs ep)/\jX ks=some (kvs.map (·.1))/\j3 K Hd ks (kvs.map fun p=>V.ref p.2.1)/\j3 K Hd vs (kvs.map (·.2.2))
theorem JJ.same{K:PySem.W.Frag}{H H' Hd Hd':Hp}{l:Addr}{o:OD}(s:∀u,H l=some u->H' l=some u)(sd:j4 Hd Hd')(h:JJ K H Hd l o):JJ K H' Hd' l o:=by
 cases o with
 | lst ds=>obtain⟨vs,a,b⟩:=h;exact⟨vs,s _ a,b.same sd⟩
 | ins C ns ds=>obtain⟨dx,vs,a,n,b⟩:=h;exact⟨dx,vs,s _ a,n,b.same sd⟩
 | dct ks vs=>obtain⟨kvs,ep,a,n,b,c⟩:=h;exact⟨kvs,ep,s _ a,n,b.same sd,c.same sd⟩
theorem JJ.there{K:PySem.W.Frag}{H Hd:Hp}{l:Addr}{o:OD}(h:JJ K H Hd l o):H l≠none:=by
 cases o with
 | lst ds=>obtain⟨vs,a,b⟩:=h;rw[a];exact fun z=>nomatch z
 | ins C ns ds=>obtain⟨dx,vs,a,n,b⟩:=h;rw[a];exact fun z=>nomatch z
 | dct ks vs=>obtain⟨kvs,ep,a,n,b⟩:=h;rw[a];exact fun z=>nomatch z
theorem JJ.rep{K:PySem.W.Frag}{H Hd:Hp}{l:Addr}{o:OD}(s:∀u,H l=some u->Hd l=some u)(h:JJ K H Hd l o):j7 K Hd o.toD (.ref l):=by
 cases o with
 | lst ds=>obtain⟨vs,a,b⟩:=h;show j7 K Hd (.lst ds) _;rw[j7];exact⟨l,vs,rfl,s _ a,b⟩
 | ins C ns ds=>obtain⟨dx,vs,a,n,b⟩:=h;show j7 K Hd (.ins C ns ds) _;rw[j7];exact⟨l,dx,vs,rfl,s _ a,n,b⟩
 | dct ks vs=>obtain⟨kvs,ep,a,n,b,c⟩:=h;show j7 K Hd (.dct ks vs) _;rw[j7];exact⟨l,kvs,ep,rfl,s _ a,n,b,c⟩
inductive Sl where
 | un
 | cl (d:D)
 | bo (d:D)
 | ow (q:Option Addr) (o:OD)
 | lo (ls:List (List D))
noncomputable abbrev j9:=List Sl
def RB(K:PySem.W.Frag)(O:List Addr)(H:Hp)(d:D)(v:V):Prop:=j7 K (j6 H O) d v∨∃l o,v=.ref l/\d=OD.toD o/\JJ K H (j6 H O) l o
theorem RB.same{K:PySem.W.Frag}{O:List Addr}{H H':Hp}{d:D}{v:V}(s:j4 H H')(h:RB K O H d v):RB K O H' d v:=by
 rcases h with h | ⟨l,o,e1,e2,h1⟩
 ·exact .inl (h.same (jc s))
 ·exact .inr ⟨l,o,e1,e2,h1.same (s l) (jc s)⟩
theorem RB.full{K:PySem.W.Frag}{O:List Addr}{H:Hp}{d:D}{v:V}(h:RB K O H d v):j7 K H d v:=by
 rcases h with h | ⟨l,o,rfl,rfl,h1⟩
 ·exact h.same JC
 ·exact(h1.same (fun _ z=>z) JC).rep fun _ z=>z
theorem RB.lst{K:PySem.W.Frag}{O:List Addr}{H:Hp}{ds:List D}{v:V}(h:RB K O H (.lst ds) v):∃p xs,v=.ref p/\H p=some (.lst xs)/\j3 K (j6 H O) ds xs:=by
 rcases h with h | ⟨l,o,rfl,e,h1⟩
 ·rw[j7]at h;obtain⟨a,xs,rfl,q,r⟩:=h;exact⟨a,xs,rfl,JC _ _ q,r⟩
 ·cases o <;> cases e;obtain⟨vs,a,b⟩:=h1;exact⟨l,vs,rfl,a,b⟩
theorem RB.tup{K:PySem.W.Frag}{O:List Addr}{H:Hp}{ds:List D}{v:V}(h:RB K O H (.tup ds) v):∃p xs,v=.ref p/\Ji K H p xs/\j3 K (j6 H O) ds xs:=by
 rcases h with h | ⟨l,o,rfl,e,h1⟩
 ·rw[j7]at h;obtain⟨a,xs,rfl,q,r⟩:=h;exact⟨a,xs,rfl,JC.tup q,r⟩
 ·cases o <;> cases e
theorem RB.int{K:PySem.W.Frag}{O:List Addr}{H:Hp}{i:Int}{v:V}(h:RB K O H (.int i) v):v=.int i:=by have:=h.full;rwa [j7]at this
theorem RB.bl{K:PySem.W.Frag}{O:List Addr}{H:Hp}{i:Bool}{v:V}(h:RB K O H (.bl i) v):v=.bl i:=by have:=h.full;rwa [j7]at this
theorem RB.str{K:PySem.W.Frag}{O:List Addr}{H:Hp}{i:Str}{v:V}(h:RB K O H (.str i) v):v=.str i:=by have:=h.full;rwa [j7]at this
theorem RB.non{K:PySem.W.Frag}{O:List Addr}{H:Hp}{v:V}(h:RB K O H .non v):v=.non:=by have:=h.full;rwa [j7]at this
theorem RB.ins{K:PySem.W.Frag}{O:List Addr}{H:Hp}{C:Addr}{ns:List Str}{ds:List D}{v:V}(h:RB K O H (.ins C ns ds) v):∃a dx xs,v=.ref a/\H a=some (.ins C dx (ns.zip xs))/\ns.length=xs.length/\j3 K (j6 H O) ds xs:=by
 rcases h with h | ⟨l,o,rfl,e,h1⟩
 ·rw[j7]at h;obtain⟨a,dx,xs,rfl,q,n,r⟩:=h;exact⟨a,dx,xs,rfl,JC _ _ q,n,r⟩
 ·cases o <;> cases e;obtain⟨dx,vs,a,n,b⟩:=h1;exact⟨l,dx,vs,rfl,a,n,b⟩
theorem RB.dct{K:PySem.W.Frag}{O:List Addr}{H:Hp}{ks vs:List D}{v:V}(h:RB K O H (.dct ks vs) v):∃a kvs ep,v=.ref a/\H a=some (.dD kvs ep)/\jX ks=some (kvs.map (·.1))/\j3 K (j6 H O) ks (kvs.map fun p=>V.ref p.2.1)/\j3 K (j6 H O) vs (kvs.map (·.2.2)):=by
 rcases h with h | ⟨l,o,rfl,e,h1⟩
 ·rw[j7]at h;obtain⟨a,kvs,ep,rfl,q,n,r⟩:=h;exact⟨a,kvs,ep,rfl,JC _ _ q,n,r⟩
 ·cases o <;> cases e;obtain⟨kvs,ep,a,n,b⟩:=h1;exact⟨l,kvs,ep,rfl,a,n,b⟩
def jQ(K:PySem.W.Frag)(Hd H:Hp):List Addr->List (List D)->Prop
 | [],[]=>True
 | a::as,m::r=>(∃vs,H a=some (.lst vs)/\j3 K Hd m vs)/\jQ K Hd H as r
 | _,_=>False
theorem jQ.mono{K:PySem.W.Frag}{Hd Hd' H H':Hp}(sd:j4 Hd Hd'):∀{as:List Addr} {ls:List (List D)},(∀a∈as,∀u,H a=some u->H' a=some u)->jQ K Hd H as ls->jQ K Hd' H' as ls
 | [],[],_,_=>trivial
 | a::as,xs::r,s,h=>by
  obtain⟨⟨vs,h1,h2⟩,h3⟩:=h;exact⟨⟨vs,s a wNa _ h1,h2.same sd⟩,jQ.mono sd (fun b hb=>s b (wMa _ hb)) h3⟩
 | [],_::_,_,h=>h.elim
 | _::_,[],_,h=>h.elim
theorem jQ.at{K:PySem.W.Frag}{Hd H:Hp}:∀{as:List Addr} {ls:List (List D)},jQ K Hd H as ls->∀a∈as,∃vs,H a=some (.lst vs)
 | _::_,_::_,h,a,ha=>by
  obtain⟨⟨vs,h1,_⟩,h3⟩:=h;rcases List.mem_cons.mp ha with rfl | ha
  ·exact⟨vs,h1⟩
  ·exact jQ.at h3 a ha
 | _::_,[],h,_,_=>h.elim
def Z0(K:PySem.W.Frag)(H Hd:Hp)(l:Addr)(ps:List Addr)(ls:List (List D)):Prop:=H l=some (.lst (ps.map V.ref))/\jQ K Hd H ps ls
theorem Z0.at{K:PySem.W.Frag}{H Hd:Hp}{l:Addr}{ps:List Addr}{ls:List (List D)}(h:Z0 K H Hd l ps ls):∀a∈l::ps,∃vs,H a=some (.lst vs):=fun a ha=>by
 rcases List.mem_cons.mp ha with rfl | ha
 ·exact⟨_,h.1⟩
 ·exact h.2.at a ha
def JW(ρ:j9)(σ:L2.St)(a:Addr):Prop:=∃(j:Nat) (q:Option Addr) (o:OD),ρ[j]?=some (.ow q o)/\σ[j]?=some (some (.ref a))
def Ak(K:PySem.W.Frag)(H0:Hp)(ρ:j9)(σ:L2.St)(H:Hp)(O:List Addr):Prop:=∀(i:Nat) (ls:List (List D)),ρ[i]?=some (.lo ls)->∃l ps,σ[i]?=some (some (.ref l))/\Z0 K H (j6 H O) l ps ls/\(l::ps).Nodup/\(∀a∈l::ps,a∈O/\H0 a=none/\¬JW ρ σ a)/\∀j ms,ρ[j]?=some (.lo ms)->j=i
theorem Ak.up{K:PySem.W.Frag}{H0 H H':Hp}{ρ ρ':j9}{σ σ':L2.St}{O O':List Addr}(h:Ak K H0 ρ σ H O)(h1:∀(i:Nat) (ls:List (List D)),ρ'[i]?=some (.lo ls)->ρ[i]?=some (.lo ls)/\σ'[i]?=σ[i]?)(h2:∀a,H a≠none->JW ρ' σ' a->JW ρ σ a)
  (h3:∀a,a∈O->¬JW ρ σ a->a∈O'/\∀u,H a=some u->H' a=some u) (h4:j4 (j6 H O) (j6 H' O')):Ak K H0 ρ' σ' H' O':=fun i ls e=>by
 obtain⟨e1,e2⟩:=h1 i ls e;obtain⟨l,ps,a,b,n,f,u⟩:=h i ls e1;have k:∀c∈l::ps,∀u,H c=some u->H' c=some u:=fun c hc=>(h3 c (f c hc).1 (f c hc).2.2).2;refine⟨l,ps,e2.trans a,⟨k l wNa _ b.1,b.2.mono h4 fun c hc=>k c (wMa _ hc)⟩,n,fun c hc=>⟨(h3 c (f c hc).1 (f c hc).2.2).1,(f c hc).2.1,fun z=>(f c hc).2.2 (h2 c ?_ z)⟩,fun j ms z=>u j ms (h1 j ms z).1⟩;obtain⟨vs,hv⟩:=b.at c hc;rw[hv];exact fun z=>nomatch z
structure Rel (K:PySem.W.Frag) (H0:Hp) (O0:List Addr) (ρ:j9) (σ:L2.St) (H:Hp) (O:List Addr):Prop where
 len:σ.length=ρ.length
 sub:∀a∈O0,a∈O
 fr:∀a∈O,a∈O0∨H0 a=none
 al0:∀a∈O0,H0 a≠none
 al:∀a∈O,H a≠none
 keep:j4 H0 H
 cl:∀(i:Nat) (d:D),ρ[i]?=some (.cl d)->∃v,σ[i]?=some (some v)/\j7 K (j6 H O) d v
 bo:∀(i:Nat) (d:D),ρ[i]?=some (.bo d)->∃v,σ[i]?=some (some v)/\RB K O0 H0 d v
 ow:∀(i:Nat) (q:Option Addr) (o:OD),ρ[i]?=some (.ow q o)->∃l,(∀p,q=some p->l=p)/\σ[i]?=some (some (.ref l))/\JJ K H (j6 H O) l o/\l∈O/\H0 l=none
 dist:∀(i j:Nat) (q q':Option Addr) (ds es:OD) (l:Addr),ρ[i]?=some (.ow q ds)->ρ[j]?=some (.ow q' es)->σ[i]?=some (some (.ref l))->σ[j]?=some (some (.ref l))->i=j
 lo:Ak K H0 ρ σ H O
section
variable {K:PySem.W.Frag} {H0 H H':Hp} {O0 O:List Addr} {ρ:j9} {σ:L2.St}
theorem Rel.in0(R:Rel K H0 O0 ρ σ H O):j4 (j6 H0 O0) (j6 H O):=fun b o h=>by
 obtain⟨h1,h2⟩:=J0 h;rw[jA (fun z=>by rcases R.fr b z with y | y;exact h1 y;rw[h2]at y;cases y)];exact R.keep _ _ h2
theorem Rel.grow(R:Rel K H0 O0 ρ σ H O)(s:j4 H H'):Rel K H0 O0 ρ σ H' O where
 len:=R.len
 sub:=R.sub
 fr:=R.fr
 al0:=R.al0
 al:=fun a h z=>R.al a h (s.none z)
 keep:=R.keep.trans s
 cl:=fun i d e=>by obtain⟨v,a,b⟩:=R.cl i d e;exact⟨v,a,b.same (jc s)⟩
 bo:=R.bo
 ow:=fun i q d e=>by obtain⟨l,z,a,b,d,f⟩:=R.ow i q d e;exact⟨l,z,a,b.same (s l) (jc s),d,f⟩
 dist:=R.dist
 lo:=R.lo.up (fun i ls e=>⟨e,rfl⟩) (fun a _ z=>z) (fun a h _=>⟨h,fun u z=>s a u z⟩) (jc s)
theorem Rel.new(R:Rel K H0 O0 ρ σ H O){p:Addr}(h:H p=none):p∉O:=fun z=>R.al p z h
theorem jp{α:Type}{xs:List α}{i j:Nat}{x y:α}(h:(xs.set i x)[j]?=some y):(j=i/\y=x/\i < xs.length)∨(j≠i/\xs[j]?=some y):=by
 rw[List.getElem?_set]at h;by_cases e:i=j
 ·subst e;rw[if_pos rfl]at h;split at h
  ·exact .inl ⟨rfl,(vFa h).symm,by assumption⟩
  ·cases h
 ·rw[if_neg e]at h;exact .inr ⟨fun z=>e z.symm,h⟩
theorem Zs{α:Type}{xs:List α}{i:Nat}{x:α}(h:i < xs.length):(xs.set i x)[i]?=some x:=by simp[h]
theorem Jo{α:Type}{xs:List α}{i j:Nat}{x:α}(h:j≠i):(xs.set i x)[j]?=xs[j]?:=by rw[List.getElem?_set,if_neg (fun z=>h z.symm)]
theorem Y7{i j:Nat}{s:Sl}{v:Option V}{ls:List (List D)}(hs:∀ls,s≠.lo ls)(e:(ρ.set i s)[j]?=some (.lo ls)):ρ[j]?=some (.lo ls)/\(σ.set i v)[j]?=σ[j]?:=by
 rcases jp e with⟨rfl,e',_⟩ | ⟨ne,e'⟩
 ·exact vDa e'.symm (hs ls)
 ·exact⟨e',Jo ne⟩
theorem UH{i:Nat}{s:Sl}{v:Option V}{a:Addr}(hs:∀q o,s=.ow q o->v≠some (.ref a))(hi:σ.length=ρ.length):JW (ρ.set i s) (σ.set i v) a->JW ρ σ a:=fun⟨j,q,o,e,z⟩=>by
 rcases jp e with⟨rfl,e',hj⟩ | ⟨ne,e'⟩
 ·rw[Zs (by rw[hi];exact hj)]at z;exact vDa (vFa z) (hs _ _ e'.symm)
 ·rw[Jo ne]at z;exact⟨j,q,o,e',z⟩
theorem Rel.set(R:Rel K H0 O0 ρ σ H O){d:D}{v:V}(q:j7 K (j6 H O) d v)(i:Nat):Rel K H0 O0 (ρ.set i (.cl d)) (σ.set i (some v)) H O where
 len:=by rw[List.length_set,List.length_set];exact R.len
 sub:=R.sub
 fr:=R.fr
 al0:=R.al0
 al:=R.al
 keep:=R.keep
 cl:=fun j d' e=>by
  rcases jp e with⟨rfl,e',hi⟩ | ⟨ne,e'⟩
  ·cases e';exact⟨v,Zs (by rw[R.len];exact hi),q⟩
  ·rw[Jo ne];exact R.cl j d' e'
 bo:=fun j d' e=>by
  rcases jp e with⟨rfl,e',hi⟩ | ⟨ne,e'⟩
  ·cases e'
  ·rw[Jo ne];exact R.bo j d' e'
 ow:=fun j q' d' e=>by
  rcases jp e with⟨rfl,e',hi⟩ | ⟨ne,e'⟩
  ·cases e'
  ·rw[Jo ne];exact R.ow j q' d' e'
 dist:=fun j k q1 q2 ds es l e1 e2 s1 s2=>by
  rcases jp e1 with⟨rfl,e',hi⟩ | ⟨ne,e1'⟩
  ·cases e'
  ·rcases jp e2 with⟨rfl,e',hi⟩ | ⟨ne2,e2'⟩
   ·cases e'
   ·rw[Jo ne]at s1;rw[Jo ne2]at s2;exact R.dist j k q1 q2 ds es l e1' e2' s1 s2
 lo:=R.lo.up (fun j ls e=>Y7 (by intro _ z;cases z) e) (fun a _ z=>UH (by intro _ _ z;cases z) R.len z) (fun a h _=>⟨h,fun u z=>z⟩) (j4.refl _)
theorem Rel.forget(R:Rel K H0 O0 ρ σ H O)(i:Nat):Rel K H0 O0 (ρ.set i .un) σ H O where
 len:=by rw[List.length_set];exact R.len
 sub:=R.sub
 fr:=R.fr
 al0:=R.al0
 al:=R.al
 keep:=R.keep
 cl:=fun j d' e=>by
  rcases jp e with⟨rfl,e',hi⟩ | ⟨ne,e'⟩
  ·cases e'
  ·exact R.cl j d' e'
 bo:=fun j d' e=>by
  rcases jp e with⟨rfl,e',hi⟩ | ⟨ne,e'⟩
  ·cases e'
  ·exact R.bo j d' e'
 ow:=fun j q' d' e=>by
  rcases jp e with⟨rfl,e',hi⟩ | ⟨ne,e'⟩
  ·cases e'
  ·exact R.ow j q' d' e'
 dist:=fun j k q1 q2 ds es l e1 e2 s1 s2=>by
  rcases jp e1 with⟨rfl,e',hi⟩ | ⟨ne,e1'⟩
  ·cases e'
  ·rcases jp e2 with⟨rfl,e',hi⟩ | ⟨ne2,e2'⟩
   ·cases e'
   ·exact R.dist j k q1 q2 ds es l e1' e2' s1 s2
 lo:=R.lo.up (fun j ls e=>⟨(Y7 (σ:=σ) (v:=none) (by intro _ z;cases z) e).1,rfl⟩) (fun a _ ⟨j,q,o,e,z⟩=>by
  rcases jp e with⟨rfl,e',_⟩ | ⟨_,e'⟩
  ·cases e'
  ·exact⟨j,q,o,e',z⟩) (fun a h _=>⟨h,fun u z=>z⟩) (j4.refl _)
theorem Rel.own(R:Rel K H0 O0 ρ σ H O){ds:OD}{l:Addr}(s:j4 H H')(hn:H l=none)(h:JJ K H' (j6 H' (l::O)) l ds)(i:Nat):Rel K H0 O0 (ρ.set i (.ow none ds)) (σ.set i (some (.ref l))) H' (l::O) where
 len:=by rw[List.length_set,List.length_set];exact R.len
 sub:=fun a h=>wMa _ (R.sub a h)
 fr:=fun a ha=>by
  rcases List.mem_cons.mp ha with rfl | ha
  ·exact .inr (R.keep.none hn)
  ·exact R.fr a ha
 al0:=R.al0
 al:=fun a ha=>by
  rcases List.mem_cons.mp ha with rfl | ha
  ·exact h.there
  ·exact fun z=>R.al a ha (s.none z)
 keep:=R.keep.trans s
 cl:=fun j d' e=>by
  rcases jp e with⟨rfl,e',hi⟩ | ⟨ne,e'⟩
  ·cases e'
  ·rw[Jo ne];obtain⟨v,a,b⟩:=R.cl j d' e';exact⟨v,a,b.same (YO s hn)⟩
 bo:=fun j d' e=>by
  rcases jp e with⟨rfl,e',hi⟩ | ⟨ne,e'⟩
  ·cases e'
  ·rw[Jo ne];exact R.bo j d' e'
 ow:=fun j q' d' e=>by
  rcases jp e with⟨rfl,e',hi⟩ | ⟨ne,e'⟩
  ·cases e';exact⟨l,(fun p z=>nomatch z),Zs (by rw[R.len];exact hi),h,wNa,R.keep.none hn⟩
  ·rw[Jo ne];obtain⟨l',z,a,b,d,f⟩:=R.ow j q' d' e';exact⟨l',z,a,b.same (s l') (YO s hn),wMa _ d,f⟩
 dist:=fun j k q1 q2 ds' es l' e1 e2 s1 s2=>by
  have other:∀(j:Nat) (q:Option Addr) (ds:OD),ρ[j]?=some (.ow q ds)->σ[j]?≠some (some (.ref l)):=fun j q ds e z=>by
   obtain⟨l2,_,a,b,_⟩:=R.ow j q ds e;rw[z]at a;cases a;exact b.there hn
  rcases jp e1 with⟨rfl,e',hi⟩ | ⟨ne,e1'⟩
  ·rcases jp e2 with⟨rfl,e'',hi'⟩ | ⟨ne2,e2'⟩
   ·rfl
   ·rw[Zs (by rw[R.len];exact hi)]at s1;cases s1;rw[Jo ne2]at s2;exact vDa s2 (other k q2 es e2')
  ·rcases jp e2 with⟨rfl,e',hi⟩ | ⟨ne2,e2'⟩
   ·rw[Zs (by rw[R.len];exact hi)]at s2;cases s2;rw[Jo ne]at s1;exact vDa s1 (other j q1 ds' e1')
   ·rw[Jo ne]at s1;rw[Jo ne2]at s2;exact R.dist j k q1 q2 ds' es l' e1' e2' s1 s2
 lo:=R.lo.up (fun j ls e=>Y7 (by intro _ z;cases z) e) (fun a ha z=>UH (by intro _ _ _ y;cases y;exact ha hn) R.len z) (fun a ha _=>⟨wMa _ ha,fun u z=>s a u z⟩) (YO s hn)
theorem Rel.change(R:Rel K H0 O0 ρ σ H O){qq:Option Addr}{ds ds':OD}{u:HO}{l:Addr}{i:Nat}(e:ρ[i]?=some (.ow qq ds))(hq:∀p,qq=some p->l=p)(hi:σ[i]?=some (some (.ref l)))(hl:l∈O)(h0:H0 l=none)(q:JJ K (upd H l u) (j6 H O) l ds'):Rel K H0 O0 (ρ.set i (.ow qq ds')) σ (upd H l u) O where
 len:=by rw[List.length_set];exact R.len
 sub:=R.sub
 fr:=R.fr
 al0:=R.al0
 al:=fun a ha=>by
  by_cases z:a=l
  ·rw[z,jH];exact fun z=>nomatch z
  ·rw[jo z];exact R.al a ha
 keep:=R.keep.upd h0 _
 cl:=fun j d' e=>by
  rcases jp e with⟨rfl,e',hi⟩ | ⟨ne,e'⟩
  ·cases e'
  ·rw[Jb hl];exact R.cl j d' e'
 bo:=fun j d' e=>by
  rcases jp e with⟨rfl,e',hi⟩ | ⟨ne,e'⟩
  ·cases e'
  ·exact R.bo j d' e'
 ow:=fun j q' d' e2=>by
  rw[Jb hl];rcases jp e2 with⟨rfl,e',_⟩ | ⟨ne,e'⟩
  ·cases e';exact⟨l,hq,hi,q,hl,h0⟩
  ·obtain⟨l',z,a,b,d,f⟩:=R.ow j q' d' e';refine⟨l',z,a,b.same (fun u h=>?_) (j4.refl _),d,f⟩;rw[jo]
   ·exact h
   ·rintro rfl;exact ne (R.dist j i _ _ _ _ _ e' e a hi)
 dist:=fun j k q1 q2 ds1 es l' e1 e2 s1 s2=>by
  have f:∀(j:Nat) (q:Option Addr) (ds1:OD),(ρ.set i (.ow qq ds'))[j]?=some (.ow q ds1)->∃q2 ds2,ρ[j]?=some (.ow q2 ds2):=fun j q ds1 z=>by
   rcases jp z with⟨rfl,_,_⟩ | ⟨_,z⟩
   ·exact⟨_,_,e⟩
   ·exact⟨_,_,z⟩
  obtain⟨_,d1,f1⟩:=f j _ _ e1;obtain⟨_,d2,f2⟩:=f k _ _ e2;exact R.dist j k _ _ _ _ l' f1 f2 s1 s2
 lo:=by
  have ft:JW ρ σ l:=⟨i,_,_,e,hi⟩
  refine R.lo.up (fun j ls e=>⟨(Y7 (σ:=σ) (v:=none) (by intro _ z;cases z) e).1,rfl⟩) (fun a _ ⟨j,q,o,e',z⟩=>?_) (fun a ha nf=>⟨ha,fun u z=>?_⟩) (by rw[Jb hl];exact j4.refl _)
  ·rcases jp e' with⟨rfl,_,_⟩ | ⟨_,e'⟩
   ·exact⟨_,_,_,e,z⟩
   ·exact⟨j,q,o,e',z⟩
  ·rw[jo fun y=>nf (by rw[y];exact ft)];exact z
theorem Rel.share(R:Rel K H0 O0 ρ σ H O){q:Option Addr}{ds:OD}{i:Nat}(e:ρ[i]?=some (.ow q ds)):∃O',Rel K H0 O0 (ρ.set i (.cl ds.toD)) σ H O'/\j4 (j6 H O) (j6 H O'):=by
 obtain⟨l,_,hs,q,lo,h0⟩:=R.ow i q ds e;have ss:j4 (j6 H O) (j6 H (O.filter (·≠l))):=Jx fun a h=>(List.mem_filter.mp h).1;have nin:l∉O.filter (·≠l):=fun z=>by simpa using (List.mem_filter.mp z).2
 refine⟨O.filter (·≠l),⟨by rw[List.length_set];exact R.len,fun a h=>List.mem_filter.mpr ⟨R.sub a h,?_⟩,fun a h=>R.fr a (List.mem_filter.mp h).1,R.al0,fun a h=>R.al a (List.mem_filter.mp h).1,R.keep,?_,?_,?_,?_,?_⟩,ss⟩
 ·have z:a≠l:=by
   rintro rfl;exact R.al0 a h h0
  simpa using z
 ·intro j d' e2;rcases jp e2 with⟨rfl,e',hi⟩ | ⟨ne,e'⟩
  ·cases e';exact⟨_,hs,(q.same (fun _ z=>z) ss).rep fun u z=>by rw[jA nin];exact z⟩
  ·obtain⟨v,a,b⟩:=R.cl j d' e';exact⟨v,a,b.same ss⟩
 ·intro j d' e2;rcases jp e2 with⟨rfl,e',hi⟩ | ⟨ne,e'⟩
  ·cases e'
  ·exact R.bo j d' e'
 ·intro j q' d' e2;rcases jp e2 with⟨rfl,e',hi⟩ | ⟨ne,e'⟩
  ·cases e'
  ·obtain⟨l',z,a,b,d,f⟩:=R.ow j q' d' e';refine⟨l',z,a,b.same (fun _ z=>z) ss,List.mem_filter.mpr ⟨d,?_⟩,f⟩;have z:l'≠l:=by
    rintro rfl;exact ne (R.dist j i _ _ _ _ _ e' e a hs)
   simpa using z
 ·intro j k q1 q2 ds1 es l' e1 e2 s1 s2;rcases jp e1 with⟨rfl,e',hi⟩ | ⟨ne,e1'⟩
  ·cases e'
  ·rcases jp e2 with⟨rfl,e',hi⟩ | ⟨ne2,e2'⟩
   ·cases e'
   ·exact R.dist j k _ _ _ _ l' e1' e2' s1 s2
 ·refine R.lo.up (fun j ls e=>⟨(Y7 (σ:=σ) (v:=none) (by intro _ z;cases z) e).1,rfl⟩) (fun a _ ⟨j,q,o,e',z⟩=>?_) (fun a ha nf=>⟨List.mem_filter.mpr ⟨ha,?_⟩,fun u z=>z⟩) ss
  ·rcases jp e' with⟨rfl,y,_⟩ | ⟨_,e'⟩
   ·cases y
   ·exact⟨j,q,o,e',z⟩
  ·have:a≠l:=fun y=>nf (by rw[y];exact⟨i,_,_,e,hs⟩);simpa using this
end
abbrev DE:=j9->Option D
abbrev DO:=j9->Option OD
noncomputable abbrev Fr:=PySem.W.Frag
def tE(K:Fr)(de:DE):TE:=fun σ H Q=>∃H0 O0 ρ O d,Rel K H0 O0 ρ σ H O/\de ρ=some d/\∀v H',j4 H H'->j7 K (j6 H' O) d v->Q v H'
def tR(K:Fr)(de:DE):TE:=fun σ H Q=>∃H0 O0 ρ O d,Rel K H0 O0 ρ σ H O/\de ρ=some d/\∀v H',j4 H H'->RB K O H' d v->Q v H'
def tF(K:Fr)(de:DO):TE:=fun σ H Q=>∃H0 O0 ρ O o,Rel K H0 O0 ρ σ H O/\de ρ=some o/\∀l H',j4 H H'->H l=none->JJ K H' (j6 H' (l::O)) l o->Q (.ref l) H'
def tT(K:Fr)(dt:j9->Option Bool):TT:=fun σ H Q=>∃H0 O0 ρ O b,Rel K H0 O0 ρ σ H O/\dt ρ=some b/\∀H',j4 H H'->Q b H'
def AK(K:Fr)(O:List Addr)(H:Hp):Bool->D->V->Prop
 | true,d,v=>j7 K (j6 H O) d v
 | false,d,v=>RB K O H d v
def yo(K:Fr)(O:List Addr)(H:Hp):List Bool->List D->List V->Prop
 | [],[],[]=>True
 | k::ks,d::ds,v::vs=>AK K O H k d v/\yo K O H ks ds vs
 | _,_,_=>False
theorem AK.same{K:Fr}{O:List Addr}{H H':Hp}(s:j4 H H'):∀{k:Bool} {d:D} {v:V},AK K O H k d v->AK K O H' k d v
 | true,_,_,h=>j7.same (jc s) h
 | false,_,_,h=>RB.same s h
theorem AK.rb{K:Fr}{O:List Addr}{H:Hp}:∀{k:Bool} {d:D} {v:V},AK K O H k d v->RB K O H d v
 | true,_,_,h=>.inl h
 | false,_,_,h=>h
theorem yo.same{K:Fr}{O:List Addr}{H H':Hp}(s:j4 H H'):∀{ks:List Bool} {ds:List D} {vs:List V},yo K O H ks ds vs->yo K O H' ks ds vs
 | [],[],[],_=>trivial
 | _::_,_::_,_::_,h=>⟨AK.same s h.1,yo.same s h.2⟩
 | [],[],_::_,h=>h.elim
 | [],_::_,_,h=>h.elim
 | _::_,[],_,h=>h.elim
 | _::_,_::_,[],h=>h.elim
noncomputable abbrev DA:=List (Bool×DE)
@[simp] noncomputable def yh:DA->j9->Option (List D)
 | [],_=>some []
 | p::ps,ρ=>(p.2 ρ).bind fun d=>(yh ps ρ).bind fun ds=>some (d::ds)
def zi(K:Fr)(l:DA):TA:=fun σ H Q=>∃H0 O0 ρ O ds,Rel K H0 O0 ρ σ H O/\yh l ρ=some ds/\∀vs H',j4 H H'->yo K O H' (l.map (·.1)) ds vs->Q vs H'
section
variable {X:Cx} {K:Fr} {e a b c d:Expr} {de da db dc dd:DE} {pos:Pos}
theorem jy{t t':TE}(h:PE X e t)(f:∀σ H Q,t' σ H Q->t σ H Q):PE X e t':=fun pins s σ H Q I q=>h pins s σ H Q I (f σ H Q q)
theorem gx{t t':TT}(h:PT X e t)(f:∀σ H Q,t' σ H Q->t σ H Q):PT X e t':=fun pins s σ H Q I q=>h pins s σ H Q I (f σ H Q q)
theorem Al{t t':TT}(h:PW X e t)(f:∀σ H Q,t' σ H Q->t σ H Q):PW X e t':=fun w pins s σ H Q I q=>h w pins s σ H Q I (f σ H Q q)
theorem Am{es:List Expr}{t t':TA}(h:PA X es t)(f:∀σ H Q,t' σ H Q->t σ H Q):PA X es t':=fun p pins s σ H Q I q=>h p pins s σ H Q I (f σ H Q q)
theorem Hn(h:PE X e (tE K de)):PE X e (tR K de):=jy h fun σ H Q ⟨H0,O0,ρ,O,d,R,ed,q⟩=>⟨H0,O0,ρ,O,d,R,ed,fun v H' s r=>q v H' s (.inl r)⟩
def dL(df:DO):DE:=fun ρ=>(df ρ).bind fun l=>some l.toD
@[simp] theorem Ho(df:DO){ρ:j9}:dL df ρ=(df ρ).bind fun l=>some l.toD:=rfl
theorem j1{α β:Type}{o:Option α}{f:α->Option β}{y:β}(h:o.bind f=some y):∃x,o=some x/\f x=some y:=by
 cases o with
 | none=>cases h
 | some x=>exact⟨x,rfl,h⟩
theorem C8{df:DO}(h:PE X e (tF K df)):PE X e (tE K (dL df)):=jy h fun σ H Q xx=>by
 obtain⟨H0,O0,ρ,O,d,R,ed,q⟩:=xx;obtain⟨ds,e1,e2⟩:=j1 ed;cases e2;exact⟨H0,O0,ρ,O,ds,R,e1,fun l H' s hn r=>q _ _ s ((r.same (fun _ z=>z) (Jx fun a h=>wMa _ h)).rep fun u z=>by rw[jA (R.new hn)];exact z)⟩
def dV(i:Nat):DE:=fun ρ=>match ρ[i]? with
 | some (.cl d)=>some d
 | some (.bo d)=>some d
 | some (.ow _ o)=>some o.toD
 | _=>none
@[simp] theorem IW(i:Nat){ρ:j9}:dV i ρ=match ρ[i]? with
 | some (.cl d)=>some d
 | some (.bo d)=>some d
 | some (.ow _ o)=>some o.toD
 | _=>none:=rfl
noncomputable def dC(i:Nat):DE:=fun ρ=>match ρ[i]? with
 | some (.cl d)=>some d
 | _=>none
@[simp] theorem Hq(i:Nat){ρ:j9}:dC i ρ=match ρ[i]? with
 | some (.cl d)=>some d
 | _=>none:=rfl
theorem EH(i:Nat){x:Str}(h:PE X (.Name x pos) (ye i)):PE X (.Name x pos) (tR K (dV i)):=jy h fun σ H Q xx=>by
 obtain⟨H0,O0,ρ,O,d,R,ed,q⟩:=xx;unfold dV at ed;split at ed
 ·cases ed;obtain⟨v,e1,r⟩:=R.cl i _ (by assumption);exact⟨v,e1,q v H (j4.refl H) (.inl r)⟩
 ·cases ed;obtain⟨v,e1,r⟩:=R.bo i _ (by assumption);refine⟨v,e1,q v H (j4.refl H) ?_⟩;rcases r with r | ⟨l,o,e2,e3,h1⟩
  ·exact .inl (r.same R.in0)
  ·exact .inr ⟨l,o,e2,e3,h1.same (R.keep l) R.in0⟩
 ·cases ed;obtain⟨l,_,e1,h1,_⟩:=R.ow i _ _ (by assumption);exact⟨_,e1,q _ H (j4.refl H) (.inr ⟨l,_,rfl,rfl,h1⟩)⟩
 ·cases ed
theorem An(i:Nat){x:Str}(h:PE X (.Name x pos) (ye i)):PE X (.Name x pos) (tE K (dC i)):=jy h fun σ H Q xx=>by
 obtain⟨H0,O0,ρ,O,d,R,ed,q⟩:=xx;unfold dC at ed;split at ed
 ·cases ed;obtain⟨v,e1,r⟩:=R.cl i _ (by assumption);exact⟨v,e1,q v H (j4.refl H) r⟩
 ·cases ed
noncomputable def dK(d:D):DE:=fun _=>some d
@[simp] theorem IX(d:D){r:j9}:dK d r=some d:=rfl
theorem gy{v:V}{d:D}(h:PE X e (tC v))(r:∀H,j7 K H d v):PE X e (tE K (dK d)):=jy h fun σ H Q xx=>by
 obtain⟨H0,O0,ρ,O,d',R,ed,q⟩:=xx;cases ed;exact q v H (j4.refl H) (r _)
theorem EI{i j}:PE X (.Constant (.int i) j pos) (tE K (dK (.int i))):=gy BM fun _=>by rw[j7]
theorem Hr{i j}:PE X (.Constant (.bool i) j pos) (tE K (dK (.bl i))):=gy Ei fun _=>by rw[j7]
theorem EJ{j}:PE X (.Constant .none j pos) (tE K (dK .non)):=gy BN fun _=>by rw[j7]
theorem EK{i j}:PE X (.Constant (.str i) j pos) (tE K (dK (.str i))):=gy BO fun _=>by rw[j7]
theorem C9{x:Str}{i:Int}(h:PE X (.Name x pos) (tC (.int i))):PE X (.Name x pos) (tE K (dK (.int i))):=gy h fun _=>by rw[j7]
noncomputable def d2(f:D->D->Option D)(da db:DE):DE:=fun ρ=>(da ρ).bind fun x=>(db ρ).bind fun y=>f x y
@[simp] theorem IY(f:D->D->Option D)(da db:DE){ρ:j9}:d2 f da db ρ=(da ρ).bind fun x=>(db ρ).bind fun y=>f x y:=rfl
noncomputable def d1(f:D->Option D)(da:DE):DE:=fun ρ=>(da ρ).bind f
@[simp] theorem IZ(f:D->Option D)(da:DE){ρ:j9}:d1 f da ρ=(da ρ).bind f:=rfl
def Jf(K:Fr)(r:R2)(f:D->D->Option D):Prop:=∀(O:List Addr) (H:Hp) (a b d:D) (x y:V) (Q:VK),RB K O H a x->RB K O H b y->(∀p,H p=none->p∉O)->f a b=some d->(∀v H',j4 H H'->j7 K (j6 H' O) d v->Q v H')->r x y H Q
theorem gz{r:R2}{f:D->D->Option D}(hf:Jf K r f):∀σ H Q,tE K (d2 f da db) σ H Q->gq r (tR K da) (tR K db) σ H Q:=fun σ H Q xx=>by
 obtain⟨H0,O0,ρ,O,d,R,ed,q⟩:=xx;obtain⟨x,ex,ed⟩:=j1 ed;obtain⟨y,ey,ed⟩:=j1 ed;exact⟨H0,O0,ρ,O,x,R,ex,fun vx H1 s1 rx=>⟨H0,O0,ρ,O,y,R.grow s1,ey,fun vy H2 s2 ry=>hf O H2 x y d vx vy Q (rx.same s2) ry (fun p hp=>(R.grow (s1.trans s2)).new hp) ed fun v H' s r=>q v H' ((s1.trans s2).trans s) r⟩⟩
theorem Hs{op:Operator}{r:R2}{f:D->D->Option D}(ho:jF X (binaryOp op) r)(hf:Jf K r f)(ha:PE X a (tR K da))(hb:PE X b (tR K db)):PE X (.BinOp a op b pos) (tE K (d2 f da db)):=jy (qM ho ha hb) (gz hf)
theorem EL{op:CmpOp}{r:R2}{f:D->D->Option D}(ho:jF X (compareOp op) r)(hf:Jf K r f)(ha:PE X a (tR K da))(hb:PE X b (tR K db))(hm:behindInMarks op b=false):PE X (.Compare a [op] [b] pos) (tE K (d2 f da db)):=jy (bw ho ha hb hm) (gz hf)
theorem Ht{r:R2}{f:D->D->Option D}(ho:Uh X r)(hf:Jf K r f)(ha:PE X a (tR K da))(hb:PE X b (tR K db))(hs:Gw b):PE X (.Subscript a b pos) (tE K (d2 f da db)):=jy (Ke ho ha hb hs) (gz hf)
def XU(K:Fr)(r:R2)(f:D->D->Option OD):Prop:=∀(O:List Addr) (H:Hp) (a b:D) (ds:OD) (x y:V) (Q:VK),RB K O H a x->RB K O H b y->f a b=some ds->(∀l H',j4 H H'->H l=none->JJ K H' (j6 H' (l::O)) l ds->Q (.ref l) H')->r x y H Q
noncomputable def kr(f:D->D->Option OD)(da db:DE):DO:=fun ρ=>(da ρ).bind fun x=>(db ρ).bind fun y=>f x y
@[simp] theorem IG(f:D->D->Option OD)(da db:DE){ρ:j9}:kr f da db ρ=(da ρ).bind fun x=>(db ρ).bind fun y=>f x y:=rfl
theorem Ca{op:Operator}{r:R2}{f:D->D->Option OD}(ho:jF X (binaryOp op) r)(hf:XU K r f)(ha:PE X a (tR K da))(hb:PE X b (tR K db)):PE X (.BinOp a op b pos) (tF K (kr f da db)):=jy (qM ho ha hb) fun σ H Q xx=>by
 obtain⟨H0,O0,ρ,O,d,R,ed,q⟩:=xx;obtain⟨x,ex,ed⟩:=j1 ed;obtain⟨y,ey,ed⟩:=j1 ed;exact⟨H0,O0,ρ,O,x,R,ex,fun vx H1 s1 rx=>⟨H0,O0,ρ,O,y,R.grow s1,ey,fun vy H2 s2 ry=>hf O H2 x y d vx vy Q (rx.same s2) ry ed fun l H' s hn r=>q l H' ((s1.trans s2).trans s) ((s1.trans s2).none hn) r⟩⟩
@[simp] noncomputable def fI(C:Int->Int->Bool)(g:Int->Int->D):D->D->Option D
 | .int i,.int j=>if C i j=true then some (g i j)else none
 | _,_=>none
noncomputable def vD:D->Option V
 | .int i=>some (.int i)
 | .bl i=>some (.bl i)
 | .str i=>some (.str i)
 | .non=>some .non
 | _=>none
theorem Cb{K:Fr}{H:Hp}{d:D}{v:V}(h:vD d=some v):j7 K H d v:=by
 cases d <;> first | (cases h;rw[j7]) | cases h
theorem KM{C:Int->Int->Bool}{P:Int->Int->Prop}{g:Int->Int->D}{gv:Int->Int->V}(hP:∀i j,C i j=true->P i j)(hg:∀i j,vD (g i j)=some (gv i j)):Jf K (rI P gv) (fI C g):=by
 intro O H a b d x y Q ha hb _ e q;unfold fI at e;split at e
 ·split at e
  ·cases e;exact⟨_,_,ha.int,hb.int,hP _ _ (by assumption),q _ H (j4.refl H) (Cb (hg _ _))⟩
  ·cases e
 ·cases e
theorem gA{g:Int->Int->D}{gv:Int->Int->V}(hg:∀i j,vD (g i j)=some (gv i j)):Jf K (Zd gv) (fI (fun _ _=>true) g):=by
 intro O H a b d x y Q ha hb hn e q;obtain⟨i,j,e1,e2,_,q⟩:=KM (K:=K) (P:=fun _ _=>True) (fun _ _ _=>trivial) hg O H a b d x y Q ha hb hn e q;exact⟨i,j,e1,e2,q⟩
noncomputable abbrev Z1:=fI (fun _ _=>true) fun i j=>.int (i - j)
noncomputable def uh(i j:Int):Bool:=Nat.blt i.natAbs 18446744073709551616||Nat.blt j.natAbs 18446744073709551616
abbrev Ao:=fI uh fun i j=>.int (i * j)
noncomputable abbrev jI:=fI (fun _ j=>decide (0 < j)) fun i j=>.int (i % j)
noncomputable abbrev KN:=fI (fun _ j=>decide (0 < j)&&decide (j < 1073741824)) fun i j=>.int (i / j)
@[simp] noncomputable def Cd(i j:Int):Bool:=decide (0<=j)&&(decide (j<=1000000)&&decide (i.natAbs < 2 ^ 64))
abbrev XV:=fI Cd fun i j=>.int (i ^ j.toNat)
noncomputable abbrev VP:=fI (fun _ _=>true) fun i j=>.bl (decide (i < j))
noncomputable abbrev JQ:=fI (fun _ _=>true) fun i j=>.bl (decide (i<=j))
noncomputable abbrev Ui:=fI (fun _ _=>true) fun i j=>.bl (decide (j < i))
noncomputable abbrev KO:=fI (fun _ _=>true) fun i j=>.bl (decide (j<=i))
theorem EM:Jf K (Zd fun i j=>.int (i - j)) Z1:=gA fun _ _=>rfl
theorem EN:Jf K (rI UD fun i j=>.int (i * j)) Ao:=KM (fun i j h=>by
 unfold uh at h;rw[Bool.or_eq_true,Nat.blt_eq,Nat.blt_eq]at h;unfold UD;have e:(2:Int) ^ 64=18446744073709551616:=by decide
 rw[e];rcases h with h | h
 ·exact .inl ⟨by omega,by omega⟩
 ·exact .inr ⟨by omega,by omega⟩) fun _ _=>rfl
theorem EO:Jf K (rI (fun _ j=>0 < j) fun i j=>.int (i % j)) jI:=KM (fun i j h=>by simpa using h) fun _ _=>rfl
theorem EQ:Jf K (rI Xs fun i j=>.int (i / j)) KN:=KM (fun i j h=>by simpa[Xs]using h) fun _ _=>rfl
theorem ER:Jf K (rI Xu fun i j=>.int (i ^ j.toNat)) XV:=KM (fun i j h=>by simpa[Xu,Cd]using h) fun _ _=>rfl
theorem Hu:Jf K (Zd fun i j=>.bl (decide (i < j))) VP:=gA fun _ _=>rfl
theorem Hv:Jf K (Zd fun i j=>.bl (decide (i<=j))) JQ:=gA fun _ _=>rfl
theorem Hw:Jf K (Zd fun i j=>.bl (decide (j < i))) Ui:=gA fun _ _=>rfl
theorem Hx:Jf K (Zd fun i j=>.bl (decide (j<=i))) KO:=gA fun _ _=>rfl
noncomputable def ZY:D->Bool
 | .non=>true
 | _=>false
@[simp] theorem ie:ZY .non=true:=rfl
@[simp] theorem iY(b:Bool):ZY (.bl b)=false:=rfl
@[simp] theorem ig(b:Int):ZY (.int b)=false:=rfl
@[simp] theorem ii(b:Str):ZY (.str b)=false:=rfl
@[simp] theorem ij(b:List D):ZY (.tup b)=false:=rfl
@[simp] theorem ik(b:List D):ZY (.lst b)=false:=rfl
theorem Ap{H:Hp}{d:D}{v:V}(h:j7 K H d v):decide (v=.non)=ZY d:=by
 cases d <;> rw[j7]at h;all_goals first
  | (subst h;rfl)
  | (obtain⟨_,_,rfl,_⟩:=h;rfl)
  | (obtain⟨_,_,_,rfl,_⟩:=h;rfl)
  | (obtain⟨_,rfl,_⟩:=h;rfl)
def KP:D->D->Option D
 | d,.non=>some (.bl (ZY d))
 | _,_=>none
@[simp] theorem Hy(d:D):KP d .non=some (.bl (ZY d)):=by cases d <;> rfl
def Ym:D->D->Option D
 | d,.non=>some (.bl (!ZY d))
 | _,_=>none
@[simp] theorem Fz(d:D):Ym d .non=some (.bl (!ZY d)):=by cases d <;> rfl
theorem ES:Jf K (fun x y H Q=>y=.non/\Q (.bl (decide (x=.non))) H) KP:=by
 intro O H a b d x y Q ha hb _ e q;unfold KP at e;split at e
 ·cases e;exact⟨hb.non,q _ H (j4.refl H) (by rw[j7,Ap ha.full])⟩
 ·cases e
theorem Ce:Jf K (fun x y H Q=>y=.non/\Q (.bl (!decide (x=.non))) H) Ym:=by
 intro O H a b d x y Q ha hb _ e q;unfold Ym at e;split at e
 ·cases e;exact⟨hb.non,q _ H (j4.refl H) (by rw[j7,Ap ha.full])⟩
 ·cases e
@[simp] noncomputable def KQ:D->D->Option D
 | .int i,.int j=>some (.bl (decide (i=j)))
 | .bl i,.bl j=>some (.bl (decide (i=j)))
 | .str i,.str j=>some (.bl (decide (i=j)))
 | _,_=>none
@[simp] def XW(a b:D):Option D:=(KQ a b).bind fun r=>match r with | .bl c=>some (.bl (!c)) | _=>none
theorem vV(x y:Int):decide (V.int x=V.int y)=decide (x=y):=by simp
theorem u9(x y:Bool):decide (V.bl x=V.bl y)=decide (x=y):=by simp
theorem vW(x y:Str):decide (V.str x=V.str y)=decide (x=y):=by simp
theorem ET:Jf K A8 KQ:=by
 intro O H a b d x y Q ha hb _ e q;unfold KQ at e;split at e
 ·cases e;rw[ha.int,hb.int];exact⟨rfl,q _ H (j4.refl H) (by rw[j7,vV])⟩
 ·cases e;rw[ha.bl,hb.bl];exact⟨rfl,q _ H (j4.refl H) (by rw[j7,u9])⟩
 ·cases e;rw[ha.str,hb.str];exact⟨rfl,q _ H (j4.refl H) (by rw[j7,vW])⟩
 ·cases e
theorem EU:Jf K A9 XW:=by
 intro O H a b d x y Q ha hb _ e q;unfold XW KQ at e;obtain⟨r,e1,e2⟩:=j1 e;split at e1
 ·cases e1;cases e2;rw[ha.int,hb.int];exact⟨rfl,q _ H (j4.refl H) (by rw[j7,vV])⟩
 ·cases e1;cases e2;rw[ha.bl,hb.bl];exact⟨rfl,q _ H (j4.refl H) (by rw[j7,u9])⟩
 ·cases e1;cases e2;rw[ha.str,hb.str];exact⟨rfl,q _ H (j4.refl H) (by rw[j7,vW])⟩
 ·cases e1
def jb:D->D->Option D
 | .lst l,.int i=>atI l i
 | .tup l,.int i=>atI l i
 | _,_=>none
@[simp] theorem im(l:List D)(i:Int):jb (.lst l) (.int i)=L2.atI l i:=rfl
@[simp] theorem io(l:List D)(i:Int):jb (.tup l) (.int i)=L2.atI l i:=rfl
theorem j3.atI{H:Hp}{l:List D}{xs:List V}{i:Int}{d:D}(h:j3 K H l xs)(e:L2.atI l i=some d):∃v,L2.atI xs i=some v/\j7 K H d v:=by
 unfold L2.atI at e⊢;rw[h.len];obtain⟨j,e1,e2⟩:=j1 e;obtain⟨v,e3,r⟩:=h.get e2;exact⟨v,by rw[e1];exact e3,r⟩
theorem Hz:Jf K (Fv K) jb:=by
 intro O H a b d x y Q ha hb _ e q;unfold jb at e;split at e
 ·obtain⟨p,xs,rfl,h1,h2⟩:=ha.lst;obtain⟨v,e3,r⟩:=h2.atI e;exact .inl ⟨p,xs,_,v,rfl,hb.int,jC.of h1,e3,q v H (j4.refl H) r⟩
 ·obtain⟨p,xs,rfl,h1,h2⟩:=ha.tup;obtain⟨v,e3,r⟩:=h2.atI e;exact .inr (.inl ⟨p,xs,_,v,rfl,hb.int,h1,e3,q v H (j4.refl H) r⟩)
 ·cases e
@[simp] noncomputable def vn:D->D->Option OD
 | .lst l,.lst m=>if l.length+m.length<=sizeLine then some (.lst (l++m))else none
 | _,_=>none
theorem yd{O:List Addr}{H:Hp}{p:Addr}{ds:List D}{vs:List V}(hp:H p=none)(r:j3 K (j6 H O) ds vs):JJ K (upd H p (.lst vs)) (j6 (upd H p (.lst vs)) (p::O)) p (.lst ds):=⟨vs,jH,r.same (YO (jw hp _) hp)⟩
theorem EV:XU K XF vn:=by
 intro O H a b ds x y Q ha hb e q;unfold vn at e;split at e
 ·split at e
  ·cases e;obtain⟨p,xs,rfl,h1,h2⟩:=ha.lst;obtain⟨p',xs',rfl,h1',h2'⟩:=hb.lst;exact⟨p,p',xs,xs',rfl,rfl,h1,h1',by rw[h2.len,h2'.len];assumption,fun l hl=>q l _ (jw hl _) hl (yd hl (h2.app h2'))⟩
  ·cases e
 ·cases e
theorem yQ{O:List Addr}{H:Hp}{p:Addr}{ds:List D}{vs:List V}(hO:p∉O)(hp:H p=none)(r:j3 K (j6 H O) ds vs):j7 K (j6 (upd H p (.tup vs)) O) (.tup ds) (.ref p):=by
 rw[j7];refine⟨p,vs,rfl,Ji.of ?_,r.same (jc (jw hp _))⟩;rw[jA hO,jH]
@[simp] noncomputable def jk:D->D->Option D
 | .int i,.int j=>some (.int (i+j))
 | .str i,.str j=>if i.length+j.length<=sizeLine then some (.str (i++j))else none
 | .tup l,.tup m=>if l.length+m.length<=sizeLine/\l≠[]then some (.tup (l++m))else none
 | _,_=>none
theorem EW:Jf K (fun x y H Q=>Zd (fun i j=>.int (i+j)) x y H Q∨(fun x y H Q=>qX K x y H Q∨(fun x y H Q=>∃i j,x=.str i/\y=.str j/\i.length+j.length<=sizeLine/\Q (.str (i++j)) H) x y H Q) x y H Q) jk:=by
 intro O H a b d x y Q ha hb hn e q;unfold jk at e;split at e
 ·cases e;exact .inl ⟨_,_,ha.int,hb.int,q _ H (j4.refl H) (by rw[j7])⟩
 ·split at e
  ·cases e;exact .inr (.inr ⟨_,_,ha.str,hb.str,by assumption,q _ H (j4.refl H) (by rw[j7])⟩)
  ·cases e
 ·split at e
  ·rename_i hh;cases e;obtain⟨p,xs,rfl,h1,h2⟩:=ha.tup;obtain⟨p',xs',rfl,h1',h2'⟩:=hb.tup;have l1:=h2.len;have l2:=h2'.len;refine .inr (.inl ⟨p,p',xs,xs',rfl,rfl,h1,h1',fun z=>hh.2 (List.length_eq_zero_iff.mp (by rw[<-l1,z];rfl)),by rw[l1,l2];exact hh.1,fun z=>?_,fun _ l hl=>q _ _ (jw hl _) (yQ (hn l hl) hl (h2.app h2'))⟩);refine q _ H (j4.refl H) ?_;have e0:∀m:List D,xs'.length=m.length->xs'=[]->m=[]:=fun m h z=>List.length_eq_zero_iff.mp (by rw[<-h,z];rfl);rw[e0 _ l2 z,List.append_nil];rcases ha with ha | ⟨_,o,_,z,_⟩
   ·exact ha
   ·cases o <;> cases z
  ·cases e
 ·cases e
@[simp] noncomputable def Q2:D->D->Option OD
 | .lst l,.int k=>if -(2 ^ 63)<=k/\k < 2 ^ 63/\l.length * k.toNat<=sizeLine then some (.lst (List.replicate k.toNat l).flatten)else none
 | _,_=>none
theorem j3.flat{H:Hp}{l:List D}{xs:List V}(h:j3 K H l xs):∀n:Nat,j3 K H (List.replicate n l).flatten (List.replicate n xs).flatten
 | 0=>j3.nil
 | n+1=>by rw[List.replicate_succ,List.flatten_cons,List.replicate_succ,List.flatten_cons];exact h.app (h.flat n)
theorem Cf:XU K C4 Q2:=by
 intro O H a b ds x y Q ha hb e q;unfold Q2 at e;split at e
 ·split at e
  ·rename_i hh;cases e;obtain⟨p,xs,rfl,h1,h2⟩:=ha.lst;exact⟨p,_,xs,rfl,hb.int,h1,hh.1,hh.2.1,by rw[h2.len];exact hh.2.2,fun l hl=>q l _ (jw hl _) hl (yd hl (h2.flat _))⟩
  ·cases e
 ·cases e
end
section
variable {X:Cx} {K:Fr} {e a b c d:Expr} {de da db dc dd:DE} {pos:Pos}
@[simp] noncomputable def ui(z:D)(yes:Option D):Option D:=match z with
 | .bl true=>yes
 | .bl false=>some (.bl false)
 | _=>none
theorem ZZ{z d:D}{y:Option D}(h:ui z y=some d):∃k,z=.bl k/\((k=true/\y=some d)∨(k=false/\d=.bl false)):=by
 unfold ui at h;split at h
 ·exact⟨true,rfl,.inl ⟨rfl,h⟩⟩
 ·exact⟨false,rfl,.inr ⟨rfl,(vFa h).symm⟩⟩
 ·cases h
def Jw(f f':D->D->Option D)(da db dc:DE):DE:=fun ρ=>(da ρ).bind fun x=>(db ρ).bind fun y=>(f x y).bind fun z=>ui z ((dc ρ).bind fun w=>f' y w)
@[simp] theorem HA(f f':D->D->Option D)(da db dc:DE){ρ:j9}:Jw f f' da db dc ρ=(da ρ).bind fun x=>(db ρ).bind fun y=>(f x y).bind fun z=>ui z ((dc ρ).bind fun w=>f' y w):=rfl
theorem QX{r r':R2}{f f':D->D->Option D}(hf:Jf K r f)(hf':Jf K r' f'):∀σ H Q,tE K (Jw f f' da db dc) σ H Q->Ky r r' (tR K da) (tR K db) (tR K dc) σ H Q:=fun σ H Q xx=>by
 obtain⟨H0,O0,ρ,O,d,R,ed,q⟩:=xx;obtain⟨x,ex,ed⟩:=j1 ed;obtain⟨y,ey,ed⟩:=j1 ed;obtain⟨z,ez,ed⟩:=j1 ed;obtain⟨k,rfl,ek⟩:=ZZ ed;refine⟨H0,O0,ρ,O,x,R,ex,fun vx H1 s1 rx=>⟨H0,O0,ρ,O,y,R.grow s1,ey,fun vy H2 s2 ry=>hf O H2 x y _ vx vy _ (rx.same s2) ry (fun p hp=>(R.grow (s1.trans s2)).new hp) ez fun v H3 s3 rz=>?_⟩⟩;rw[j7]at rz;subst rz;refine⟨k,rfl,?_⟩;have s13:=(s1.trans s2).trans s3;rcases ek with⟨rfl,e2⟩ | ⟨rfl,rfl⟩
 ·obtain⟨w,ew,e3⟩:=j1 e2;exact zZ ⟨H0,O0,ρ,O,w,R.grow s13,ew,fun vw H4 s4 rw'=>hf' O H4 y w d vy vw Q ((ry.same s3).same s4) rw' (fun p hp=>(R.grow (s13.trans s4)).new hp) e3 fun v H' s r=>q v H' ((s13.trans s4).trans s) r⟩
 ·exact zY (q _ _ s13 (by rw[j7]))
theorem bO{op op':CmpOp}{r r':R2}{f f':D->D->Option D}(ho:jF X (compareOp op) r)(ho':jF X (compareOp op') r')(hf:Jf K r f)(hf':Jf K r' f')(ha:PE X a (tR K da))(hb:PE X b (tR K db))(hc:PE X c (tR K dc))(hm:lastMarks [op,op'] [b,c]=false:=by with_unfolding_all rfl):PE X (.Compare a [op,op'] [b,c] pos) (tE K (Jw f f' da db dc)):=jy (Xv ho ho' ha hb hc hm) (QX hf hf')
def v_(f f' f'':D->D->Option D)(da db dc dd:DE):DE:=fun ρ=>(da ρ).bind fun x=>(db ρ).bind fun y=>(f x y).bind fun z=>ui z ((dc ρ).bind fun w=>(f' y w).bind fun z'=>ui z' ((dd ρ).bind fun u=>f'' w u))
@[simp] theorem FA(f f' f'':D->D->Option D)(da db dc dd:DE){ρ:j9}:v_ f f' f'' da db dc dd ρ=(da ρ).bind fun x=>(db ρ).bind fun y=>(f x y).bind fun z=>ui z ((dc ρ).bind fun w=>(f' y w).bind fun z'=>ui z' ((dd ρ).bind fun u=>f'' w u)):=rfl
theorem XX{op op' op'':CmpOp}{r r' r'':R2}{f f' f'':D->D->Option D}(ho:jF X (compareOp op) r)(ho':jF X (compareOp op') r')(ho'':jF X (compareOp op'') r'')(hf:Jf K r f)(hf':Jf K r' f')(hf'':Jf K r'' f'')(ha:PE X a (tR K da))(hb:PE X b (tR K db))(hc:PE X c (tR K dc))(hd:PE X d (tR K dd))(hm:lastMarks [op,op',op''] [b,c,d]=false:=by with_unfolding_all rfl):
  PE X (.Compare a [op,op',op''] [b,c,d] pos) (tE K (v_ f f' f'' da db dc dd)):=jy (QT ho ho' ho'' ha hb hc hd hm) fun σ H Q xx=>by
 obtain⟨H0,O0,ρ,O,d,R,ed,q⟩:=xx;obtain⟨x,ex,ed⟩:=j1 ed;obtain⟨y,ey,ed⟩:=j1 ed;obtain⟨z,ez,ed⟩:=j1 ed;obtain⟨k,rfl,ek⟩:=ZZ ed;refine⟨H0,O0,ρ,O,x,R,ex,fun vx H1 s1 rx=>⟨H0,O0,ρ,O,y,R.grow s1,ey,fun vy H2 s2 ry=>hf O H2 x y _ vx vy _ (rx.same s2) ry (fun p hp=>(R.grow (s1.trans s2)).new hp) ez fun v H3 s3 rz=>?_⟩⟩;rw[j7]at rz;subst rz;refine⟨k,rfl,?_⟩;have s13:=(s1.trans s2).trans s3;rcases ek with⟨rfl,e2⟩ | ⟨rfl,rfl⟩
 ·obtain⟨w,ew,e3⟩:=j1 e2;obtain⟨z',ez',e3⟩:=j1 e3;obtain⟨k',rfl,ek'⟩:=ZZ e3;refine zZ ⟨H0,O0,ρ,O,w,R.grow s13,ew,fun vw H4 s4 rw'=>hf' O H4 y w _ vy vw _ ((ry.same s3).same s4) rw' (fun p hp=>(R.grow (s13.trans s4)).new hp) ez' fun v H5 s5 r=>?_⟩;rw[j7]at r;subst r;refine⟨k',rfl,?_⟩;have s15:=(s13.trans s4).trans s5;rcases ek' with⟨rfl,e4⟩ | ⟨rfl,rfl⟩
  ·obtain⟨u,eu,e5⟩:=j1 e4;exact zZ ⟨H0,O0,ρ,O,u,R.grow s15,eu,fun vu H6 s6 ru=>hf'' O H6 w u d vw vu Q ((rw'.same s5).same s6) ru (fun p hp=>(R.grow (s15.trans s6)).new hp) e5 fun v H' s r=>q v H' ((s15.trans s6).trans s) r⟩
  ·exact zY (q _ _ s15 (by rw[j7]))
 ·exact zY (q _ _ s13 (by rw[j7]))
@[simp] noncomputable def Aq:D->Option Bool
 | .bl b=>some b
 | _=>none
noncomputable def Vj:D->Option Bool
 | .bl b=>some b
 | .non=>some false
 | .int i=>some (i != 0)
 | .lst l=>some (!l.isEmpty)
 | .tup l=>some (!l.isEmpty)
 | _=>none
@[simp] theorem iq(b:Bool):Vj (.bl b)=some b:=rfl
@[simp] theorem HB:Vj .non=some false:=rfl
@[simp] theorem HC(l:List D):Vj (.lst l)=some (!l.isEmpty):=rfl
@[simp] theorem HD(l:List D):Vj (.tup l)=some (!l.isEmpty):=rfl
@[simp] theorem HE(i:Int):Vj (.int i)=some (i != 0):=rfl
theorem Cg{O:List Addr}{H:Hp}{d:D}{v:V}{k:Bool}(h:RB K O H d v)(e:Vj d=some k):Xx K v H k:=by
 unfold Vj at e;split at e
 ·cases e;rw[h.bl];rfl
 ·cases e;rw[h.non];rfl
 ·cases e;rw[h.int];rfl
 ·cases e;obtain⟨p,xs,rfl,h1,h2⟩:=h.lst;refine .inl ⟨xs,jC.of h1,?_⟩;have:=h2.len;cases xs with
  | nil=>rw[List.length_eq_zero_iff.mp this.symm];rfl
  | cons x xs=>
   rename_i l;cases l with
   | nil=>cases this
   | cons y l=>rfl
 ·cases e;obtain⟨p,xs,rfl,h1,h2⟩:=h.tup;refine .inr (.inl ⟨xs,h1,?_⟩);have:=h2.len;cases xs with
  | nil=>rw[List.length_eq_zero_iff.mp this.symm];rfl
  | cons x xs=>
   rename_i l;cases l with
   | nil=>cases this
   | cons y l=>rfl
 ·cases e
abbrev DT:=j9->Option Bool
def Jg(de:DE):DT:=fun ρ=>(de ρ).bind Vj
@[simp] theorem iZ(de:DE){ρ:j9}:Jg de ρ=(de ρ).bind Vj:=rfl
theorem Ar(h:PE X e (tR K de))(hK:X.K=K:=by rfl)(he:∀whole,isTrue e X.env whole=(do let v<-whole;standAt e.pos;holding [v] (truthy v)):=by intro _;rfl):PT X e (tT K (Jg de)):=gx (Xy h he) fun σ H Q xx=>by
 obtain⟨H0,O0,ρ,O,k,R,ed,q⟩:=xx;subst hK;obtain⟨d,e1,e2⟩:=j1 ed;exact⟨H0,O0,ρ,O,d,R,e1,fun v H' s r=>⟨k,Cg r e2,q H' s⟩⟩
def jj(de:DE):DT:=fun ρ=>(de ρ).bind Aq
@[simp] theorem IH(de:DE){ρ:j9}:jj de ρ=(de ρ).bind Aq:=rfl
theorem KR{d:D}{k:Bool}(h:Aq d=some k):d=.bl k:=by
 unfold Aq at h;split at h
 ·cases h;rfl
 ·cases h
theorem EX{op:CmpOp}{r:R2}{f:D->D->Option D}(ho:jF X (compareOp op) r)(hf:Jf K r f)(ha:PE X a (tR K da))(hb:PE X b (tR K db))(hm:behindInMarks op b=false):PT X (.Compare a [op] [b] pos) (tT K (jj (d2 f da db))):=gx (bx ho ha hb hm) fun σ H Q xx=>by
 obtain⟨H0,O0,ρ,O,k,R,ed,q⟩:=xx;obtain⟨d,e1,e2⟩:=j1 ed;cases KR e2;exact gz hf σ H _ ⟨H0,O0,ρ,O,_,R,e1,fun v H' s r=>⟨k,by rw[j7]at r;exact r,q H' s⟩⟩
theorem bP{op op':CmpOp}{r r':R2}{f f':D->D->Option D}(ho:jF X (compareOp op) r)(ho':jF X (compareOp op') r')(hf:Jf K r f)(hf':Jf K r' f')(ha:PE X a (tR K da))(hb:PE X b (tR K db))(hc:PE X c (tR K dc))(hm:lastMarks [op,op'] [b,c]=false:=by with_unfolding_all rfl):PT X (.Compare a [op,op'] [b,c] pos) (tT K (jj (Jw f f' da db dc))):=gx (Xw ho ho' ha hb hc hm) fun σ H Q xx=>by
 obtain⟨H0,O0,ρ,O,k,R,ed,q⟩:=xx;obtain⟨d,e1,e2⟩:=j1 ed;cases KR e2;have e1':=e1;obtain⟨x,ex,e1⟩:=j1 e1;obtain⟨y,ey,e1⟩:=j1 e1;obtain⟨z,ez,e1⟩:=j1 e1;obtain⟨k',rfl,ek⟩:=ZZ e1;refine⟨H0,O0,ρ,O,x,R,ex,fun vx H1 s1 rx=>⟨H0,O0,ρ,O,y,R.grow s1,ey,fun vy H2 s2 ry=>hf O H2 x y _ vx vy _ (rx.same s2) ry (fun p hp=>(R.grow (s1.trans s2)).new hp) ez fun v H3 s3 rz=>?_⟩⟩;rw[j7]at rz;subst rz;refine⟨k',rfl,?_⟩;have s13:=(s1.trans s2).trans s3;rcases ek with⟨rfl,e2⟩ | ⟨rfl,e0⟩
 ·obtain⟨w,ew,e3⟩:=j1 e2;exact zZ ⟨H0,O0,ρ,O,w,R.grow s13,ew,fun vw H4 s4 rw'=>hf' O H4 y w _ vy vw _ ((ry.same s3).same s4) rw' (fun p hp=>(R.grow (s13.trans s4)).new hp) e3 fun v H' s r=>⟨k,by rw[j7]at r;exact r,q H' ((s13.trans s4).trans s)⟩⟩
 ·cases e0;exact zY ⟨false,rfl,q _ s13⟩
noncomputable def Jl(dt:DT):DT:=fun ρ=>(dt ρ).bind fun k=>some (!k)
@[simp] theorem ir(dt:DT){ρ:j9}:Jl dt ρ=(dt ρ).bind fun k=>some (!k):=rfl
theorem EY{dt:DT}(h:PT X a (tT K dt)):PT X (.UnaryOp .Not a pos) (tT K (Jl dt)):=gx (BR h) fun σ H Q xx=>by
 obtain⟨H0,O0,ρ,O,k,R,ed,q⟩:=xx;obtain⟨k',e1,e2⟩:=j1 ed;cases e2;exact⟨H0,O0,ρ,O,k',R,e1,fun H' s=>q H' s⟩
noncomputable def Jh(dt du:DT):DT:=fun ρ=>(dt ρ).bind fun k=>if k=true then du ρ else some false
@[simp] theorem iu(dt du:DT){ρ:j9}:Jh dt du ρ=(dt ρ).bind fun k=>if k=true then du ρ else some false:=rfl
noncomputable def JX(dt du:DT):DT:=fun ρ=>(dt ρ).bind fun k=>if k=true then some true else du ρ
@[simp] theorem i_(dt du:DT){ρ:j9}:JX dt du ρ=(dt ρ).bind fun k=>if k=true then some true else du ρ:=rfl
theorem Ch{dt:DT}(h:PT X a (tT K dt)):PW X (.BoolOp .And [a] pos) (tT K dt):=bj h
theorem EZ{dt:DT}(h:PT X a (tT K dt)):PW X (.BoolOp .Or [a] pos) (tT K dt):=BP h
theorem E_{dt du:DT}{rest:List Expr}(h:PT X a (tT K dt))(h2:PW X (.BoolOp .And (b::rest) pos) (tT K du)):PW X (.BoolOp .And (a::b::rest) pos) (tT K (Jh dt du)):=Al (BQ h h2) fun σ H Q xx=>by
 obtain⟨H0,O0,ρ,O,k,R,ed,q⟩:=xx;obtain⟨k',e1,e2⟩:=j1 ed;refine⟨H0,O0,ρ,O,k',R,e1,fun H' s=>?_⟩;cases k' with
 | true=>rw[if_pos rfl]at e2;exact zZ ⟨H0,O0,ρ,O,k,R.grow s,e2,fun H2 s2=>q H2 (s.trans s2)⟩
 | false=>rw[if_neg Bool.false_ne_true]at e2;cases e2;exact zY (q H' s)
theorem HF{dt du:DT}{rest:List Expr}(h:PT X a (tT K dt))(h2:PW X (.BoolOp .Or (b::rest) pos) (tT K du)):PW X (.BoolOp .Or (a::b::rest) pos) (tT K (JX dt du)):=Al (Ej h h2) fun σ H Q xx=>by
 obtain⟨H0,O0,ρ,O,k,R,ed,q⟩:=xx;obtain⟨k',e1,e2⟩:=j1 ed;refine⟨H0,O0,ρ,O,k',R,e1,fun H' s=>?_⟩;cases k' with
 | true=>rw[if_pos rfl]at e2;cases e2;exact zZ (q H' s)
 | false=>rw[if_neg Bool.false_ne_true]at e2;exact zY ⟨H0,O0,ρ,O,k,R.grow s,e2,fun H2 s2=>q H2 (s.trans s2)⟩
theorem Ci{dt:DT}(h:PW X e (tT K dt)):PT X e (tT K dt):=h.pt
noncomputable def yW(da db:DE):DE:=fun ρ=>(da ρ).bind fun x=>match x with
 | .bl true=>db ρ
 | .bl false=>some (.bl false)
 | _=>none
@[simp] theorem iw(da db:DE){ρ:j9}:yW da db ρ=(da ρ).bind fun x=>match x with
 | .bl true=>db ρ
 | .bl false=>some (.bl false)
 | _=>none:=rfl
noncomputable def Gz(da db:DE):DE:=fun ρ=>(da ρ).bind fun x=>match x with
 | .bl true=>some (.bl true)
 | .bl false=>db ρ
 | _=>none
@[simp] theorem Ia(da db:DE){ρ:j9}:Gz da db ρ=(da ρ).bind fun x=>match x with
 | .bl true=>some (.bl true)
 | .bl false=>db ρ
 | _=>none:=rfl
noncomputable def Q3(da:DE):DE:=fun ρ=>(da ρ).bind fun x=>match x with
 | .bl k=>some (.bl (!k))
 | _=>none
@[simp] theorem ix(da:DE){ρ:j9}:Q3 da ρ=(da ρ).bind fun x=>match x with
 | .bl k=>some (.bl (!k))
 | _=>none:=rfl
theorem As{op}(h:PE X a (tE K da)):PE X (.BoolOp op [a] pos) (tE K da):=BS h
theorem f9{rest:List Expr}(ha:PE X a (tR K da))(hb:PE X (.BoolOp .And (b::rest) pos) (tE K db)):PE X (.BoolOp .And (a::b::rest) pos) (tE K (yW da db)):=jy (BU ha hb) fun σ H Q xx=>by
 obtain⟨H0,O0,ρ,O,d,R,ed,q⟩:=xx;obtain⟨x,e1,e2⟩:=j1 ed;refine⟨H0,O0,ρ,O,x,R,e1,fun v H' s r=>?_⟩;split at e2
 ·exact⟨true,r.bl,zZ ⟨H0,O0,ρ,O,d,R.grow s,e2,fun v H2 s2 r2=>q v H2 (s.trans s2) r2⟩⟩
 ·cases e2;exact⟨false,r.bl,zY (q _ _ s (by rw[j7]))⟩
 ·cases e2
theorem HG{rest:List Expr}(ha:PE X a (tR K da))(hb:PE X (.BoolOp .Or (b::rest) pos) (tE K db)):PE X (.BoolOp .Or (a::b::rest) pos) (tE K (Gz da db)):=jy (Em ha hb) fun σ H Q xx=>by
 obtain⟨H0,O0,ρ,O,d,R,ed,q⟩:=xx;obtain⟨x,e1,e2⟩:=j1 ed;refine⟨H0,O0,ρ,O,x,R,e1,fun v H' s r=>?_⟩;split at e2
 ·cases e2;exact⟨true,r.bl,zZ (q _ _ s (by rw[j7]))⟩
 ·exact⟨false,r.bl,zY ⟨H0,O0,ρ,O,d,R.grow s,e2,fun v H2 s2 r2=>q v H2 (s.trans s2) r2⟩⟩
 ·cases e2
theorem fb(ha:PE X a (tR K da)):PE X (.UnaryOp .Not a pos) (tE K (Q3 da)):=jy (BV ha) fun σ H Q xx=>by
 obtain⟨H0,O0,ρ,O,d,R,ed,q⟩:=xx;obtain⟨x,e1,e2⟩:=j1 ed;refine⟨H0,O0,ρ,O,x,R,e1,fun v H' s r=>?_⟩;split at e2
 ·cases e2;exact⟨_,r.bl,q _ _ s (by rw[j7])⟩
 ·cases e2
noncomputable def yU(da:DE):DE:=fun ρ=>(da ρ).bind fun x=>match x with
 | .int i=>some (.int (-i))
 | _=>none
@[simp] theorem Ib(da:DE){ρ:j9}:yU da ρ=(da ρ).bind fun x=>match x with
 | .int i=>some (.int (-i))
 | _=>none:=rfl
theorem fc(ha:PE X a (tR K da)):PE X (.UnaryOp .USub a pos) (tE K (yU da)):=jy (Et cx ha) fun σ H Q xx=>by
 obtain⟨H0,O0,ρ,O,d,R,ed,q⟩:=xx;obtain⟨x,e1,e2⟩:=j1 ed;refine⟨H0,O0,ρ,O,x,R,e1,fun v H' s r=>?_⟩;split at e2
 ·cases e2;exact⟨_,r.int,q _ _ s (by rw[j7])⟩
 ·cases e2
noncomputable def uj(dt:DT)(da db:DE):DE:=fun ρ=>(dt ρ).bind fun k=>if k=true then da ρ else db ρ
@[simp] theorem Ic(dt:DT)(da db:DE){ρ:j9}:uj dt da db ρ=(dt ρ).bind fun k=>if k=true then da ρ else db ρ:=rfl
theorem fe{dt:DT}(hc:PT X c (tT K dt))(ha:PE X a (tE K da))(hb:PE X b (tE K db)):PE X (.IfExp c a b pos) (tE K (uj dt da db)):=jy (Xk hc ha hb) fun σ H Q xx=>by
 obtain⟨H0,O0,ρ,O,d,R,ed,q⟩:=xx;obtain⟨k,e1,e2⟩:=j1 ed;refine⟨H0,O0,ρ,O,k,R,e1,fun H' s=>?_⟩;cases k with
 | true=>rw[if_pos rfl]at e2;exact zZ ⟨H0,O0,ρ,O,d,R.grow s,e2,fun v H2 s2 r2=>q v H2 (s.trans s2) r2⟩
 | false=>rw[if_neg Bool.false_ne_true]at e2;exact zY ⟨H0,O0,ρ,O,d,R.grow s,e2,fun v H2 s2 r2=>q v H2 (s.trans s2) r2⟩
theorem ff:PA X [] (zi K []):=Am yn fun σ H Q xx=>by
 obtain⟨H0,O0,ρ,O,ds,R,ed,q⟩:=xx;cases ed;exact q [] H (j4.refl H) trivial
theorem Au{es:List Expr}{l:DA}{k:Bool}{t:TE}(ht:∀σ H Q,(∃H0 O0 ρ O d,Rel K H0 O0 ρ σ H O/\de ρ=some d/\∀v H',j4 H H'->AK K O H' k d v->Q v H')->t σ H Q)(h:PE X e t)(hr:PA X es (zi K l))(hs:starEach (e::es) X.env=(false,eval e X.env)::starEach es X.env:=by rfl):PA X (e::es) (zi K ((k,de)::l)):=Am (j_ h hr hs) fun σ H Q xx=>by
 obtain⟨H0,O0,ρ,O,ds,R,ed,q⟩:=xx;obtain⟨d,e1,ed⟩:=j1 ed;obtain⟨ds',e2,ed⟩:=j1 ed;cases ed;exact ht _ _ _ ⟨H0,O0,ρ,O,d,R,e1,fun v H1 s1 r1=>⟨H0,O0,ρ,O,ds',R.grow s1,e2,fun vs H2 s2 r2=>q _ H2 (s1.trans s2) ⟨r1.same s2,r2⟩⟩⟩
theorem HH{es:List Expr}{l:DA}(h:PE X e (tE K de))(hr:PA X es (zi K l))(hs:starEach (e::es) X.env=(false,eval e X.env)::starEach es X.env:=by rfl):PA X (e::es) (zi K ((true,de)::l)):=Au (fun σ H Q z=>z) h hr hs
theorem HI{es:List Expr}{l:DA}(h:PE X e (tR K de))(hr:PA X es (zi K l))(hs:starEach (e::es) X.env=(false,eval e X.env)::starEach es X.env:=by rfl):PA X (e::es) (zi K ((false,de)::l)):=Au (fun σ H Q z=>z) h hr hs
theorem uk:∀{l:DA} {ρ:j9} {ds:List D},yh l ρ=some ds->ds.length=l.length
 | [],_,_,h=>by cases h;rfl
 | p::ps,ρ,ds,h=>by
  obtain⟨d,e1,h⟩:=j1 h;obtain⟨ds',e2,h⟩:=j1 h;cases h;rw[List.length_cons,List.length_cons,uk e2]
theorem yo.reps{O:List Addr}{H:Hp}:∀{ks:List Bool} {ds:List D} {vs:List V},yo K O H ks ds vs->ks.all id=true->j3 K (j6 H O) ds vs
 | [],[],[],_,_=>j3.nil
 | true::_,_::_,_::_,h,e=>j3.cons h.1 (yo.reps h.2 (by simpa using e))
 | false::_,_::_,_::_,h,e=>by simp at e
 | [],[],_::_,h,_=>h.elim
 | [],_::_,_,h,_=>h.elim
 | _::_,[],_,h,_=>h.elim
 | _::_,_::_,[],h,_=>h.elim
theorem yo.len{O:List Addr}{H:Hp}:∀{ks:List Bool} {ds:List D} {vs:List V},yo K O H ks ds vs->vs.length=ds.length/\ks.length=ds.length
 | [],[],[],_=>⟨rfl,rfl⟩
 | _::_,_::_,_::_,h=>by have:=yo.len h.2;simp[this.1,this.2]
 | [],[],_::_,h=>h.elim
 | [],_::_,_,h=>h.elim
 | _::_,[],_,h=>h.elim
 | _::_,_::_,[],h=>h.elim
def yv(l:DA):DE:=fun ρ=>(yh l ρ).bind fun ds=>some (.tup ds)
@[simp] theorem Ie(l:DA){ρ:j9}:yv l ρ=(yh l ρ).bind fun ds=>some (.tup ds):=rfl
theorem fg{es:List Expr}{l:DA}{x1}(h:PA X es (zi K l))(hk:(l.map (·.1)).all id=true:=by rfl)(hl:Nat.ble l.length sizeLine=true:=by rfl):PE X (.Tuple es x1 pos) (tE K (yv l)):=jy (cL h) fun σ H Q xx=>by
 obtain⟨H0,O0,ρ,O,d,R,ed,q⟩:=xx;obtain⟨ds,e1,e2⟩:=j1 ed;cases e2;refine⟨H0,O0,ρ,O,ds,R,e1,fun vs H1 s1 r=>⟨by rw[r.len.1,uk e1];exact Nat.le_of_ble_eq_true hl,fun p hp=>q _ _ (s1.trans (jw hp _)) (yQ ((R.grow s1).new hp) hp (r.reps hk))⟩⟩
def jT(l:DA):DO:=fun ρ=>(yh l ρ).bind fun ds=>some (.lst ds)
@[simp] theorem Ig(l:DA){ρ:j9}:jT l ρ=(yh l ρ).bind fun ds=>some (.lst ds):=rfl
theorem fh{es:List Expr}{l:DA}(h:PA X es (zi K l))(hk:(l.map (·.1)).all id=true:=by rfl)(hl:Nat.ble l.length sizeLine=true:=by rfl):PE X (.List es pos) (tF K (jT l)):=jy (QG h) fun σ H Q xx=>by
 obtain⟨H0,O0,ρ,O,d,R,ed,q⟩:=xx;obtain⟨ds,e1,e2⟩:=j1 ed;cases e2;refine⟨H0,O0,ρ,O,ds,R,e1,fun vs H1 s1 r=>⟨by rw[r.len.1,uk e1];exact Nat.le_of_ble_eq_true hl,fun p hp=>q _ _ (s1.trans (jw hp _)) (s1.none hp) (yd hp (r.reps hk))⟩⟩
abbrev ul:=j9->Option (Option Int)
noncomputable def kt(K:Fr)(p:ul):TO:=fun σ H Q=>∃H0 O0 ρ O o,Rel K H0 O0 ρ σ H O/\p ρ=some o/\∀H',j4 H H'->Q o H'
@[simp] noncomputable def J4:D->Option (Option Int)
 | .int i=>some (some i)
 | _=>none
theorem HJ:PO X none (kt K fun _=>some none):=fun pins s σ H Q I xx=>by
 obtain⟨H0,O0,ρ,O,o,R,ed,q⟩:=xx;cases ed;exact WO pins s σ H Q I (q H (j4.refl H))
theorem HK(h:PE X e (tR K de)):PO X (some e) (kt K fun ρ=>(de ρ).bind J4):=fun pins s σ H Q I xx=>by
 obtain⟨H0,O0,ρ,O,o,R,ed,q⟩:=xx;obtain⟨d,e1,e2⟩:=j1 ed;refine bD h pins s σ H Q I ⟨H0,O0,ρ,O,d,R,e1,fun v H' s r=>?_⟩;unfold J4 at e2;split at e2
 ·cases e2;exact⟨_,r.int,q H' s⟩
 ·cases e2
def jJ{α:Type}(xs:List α)(lo hi:Option Int):List α:=(xs.drop (HT.sIx xs.length 0 lo)).take (HT.sIx xs.length xs.length hi - HT.sIx xs.length 0 lo)
theorem j3.cut{H:Hp}{l:List D}{xs:List V}(h:j3 K H l xs)(lo hi:Option Int):j3 K H (jJ l lo hi) (Vg xs lo hi):=by
 unfold jJ Vg;rw[h.len];exact(h.drop _).take _
theorem j3.ints{H:Hp}:∀ns:List Int,j3 K H (ns.map D.int) (ns.map V.int)
 | []=>j3.nil
 | n::ns=>j3.cons (by rw[j7]) (j3.ints ns)
def gB(d:D)(lo hi:Option Int):Option OD:=match d with
 | .lst l=>some (.lst (jJ l lo hi))
 | .scr ns=>some (.lst (jJ (ns.map D.int) lo hi))
 | _=>none
@[simp] theorem FB(l:List D)(lo hi:Option Int):gB (.lst l) lo hi=some (.lst (jJ l lo hi)):=rfl
@[simp] theorem FC(l:List Int)(lo hi:Option Int):gB (.scr l) lo hi=some (.lst (jJ (l.map D.int) lo hi)):=rfl
def Jp(de:DE)(p q:ul):DO:=fun ρ=>(de ρ).bind fun d=>(p ρ).bind fun lo=>(q ρ).bind fun hi=>gB d lo hi
@[simp] theorem iy(de:DE)(p q:ul){ρ:j9}:Jp de p q ρ=(de ρ).bind fun d=>(p ρ).bind fun lo=>(q ρ).bind fun hi=>gB d lo hi:=rfl
theorem fj{lo hi:Option Expr}{p q:ul}{p2:Pos}(he:PE X e (tR K de))(hl:PO X lo (kt K p))(hu:PO X hi (kt K q))(hK:X.K=K:=by rfl):PE X (.Subscript e (.Slice lo hi none p2) pos) (tF K (Jp de p q)):=jy (UE WQ he hl hu) fun σ H Q xx=>by
 obtain⟨H0,O0,ρ,O,d,R,ed,qq⟩:=xx;subst hK;obtain⟨x,e1,ed⟩:=j1 ed;obtain⟨l,e2,ed⟩:=j1 ed;obtain⟨u,e3,ed⟩:=j1 ed;refine⟨H0,O0,ρ,O,x,R,e1,fun v H1 s1 r=>⟨H0,O0,ρ,O,l,R.grow s1,e2,fun H2 s2=>⟨H0,O0,ρ,O,u,R.grow (s1.trans s2),e3,fun H3 s3=>?_⟩⟩⟩;have s13:=(s1.trans s2).trans s3;have r3:=r.same (s2.trans s3);unfold gB at ed;split at ed
 ·cases ed;obtain⟨pp,xs,rfl,h1,h2⟩:=r3.lst;exact⟨pp,xs,rfl,jC.of h1,fun p hp=>qq p _ (s13.trans (jw hp _)) (s13.none hp) (yd hp (h2.cut l u))⟩
 ·cases ed;have r4:=r3.full;rw[j7]at r4;obtain⟨pp,rfl,h1⟩:=r4;exact⟨pp,_,rfl,h1,fun p hp=>qq p _ (s13.trans (jw hp _)) (s13.none hp) (yd hp ((j3.ints _).cut l u))⟩
 ·cases ed
def YT(d:D)(lo hi:Option Int):Option D:=match d with
 | .tup l=>if HT.sIx l.length 0 lo=0/\HT.sIx l.length l.length hi=l.length then none else some (.tup (jJ l lo hi))
 | _=>none
def zD(de:DE)(p q:ul):DE:=fun ρ=>(de ρ).bind fun d=>(p ρ).bind fun lo=>(q ρ).bind fun hi=>YT d lo hi
@[simp] theorem iz(de:DE)(p q:ul){ρ:j9}:zD de p q ρ=(de ρ).bind fun d=>(p ρ).bind fun lo=>(q ρ).bind fun hi=>YT d lo hi:=rfl
theorem fk{lo hi:Option Expr}{p q:ul}{p2:Pos}(he:PE X e (tR K de))(hl:PO X lo (kt K p))(hu:PO X hi (kt K q))(hK:X.K=K:=by rfl):PE X (.Subscript e (.Slice lo hi none p2) pos) (tE K (zD de p q)):=jy (UE cO he hl hu) fun σ H Q xx=>by
 obtain⟨H0,O0,ρ,O,d,R,ed,qq⟩:=xx;subst hK;obtain⟨x,e1,ed⟩:=j1 ed;obtain⟨l,e2,ed⟩:=j1 ed;obtain⟨u,e3,ed⟩:=j1 ed;refine⟨H0,O0,ρ,O,x,R,e1,fun v H1 s1 r=>⟨H0,O0,ρ,O,l,R.grow s1,e2,fun H2 s2=>⟨H0,O0,ρ,O,u,R.grow (s1.trans s2),e3,fun H3 s3=>?_⟩⟩⟩;have s13:=(s1.trans s2).trans s3;have r3:=r.same (s2.trans s3);unfold YT at ed;split at ed
 ·split at ed
  ·cases ed
  ·cases ed;obtain⟨pp,xs,rfl,h1,h2⟩:=r3.tup;exact⟨pp,xs,rfl,h1,by rw[h2.len];assumption,fun p hp=>qq _ _ (s13.trans (jw hp _)) (yQ ((R.grow s13).new hp) hp (h2.cut l u))⟩
 ·cases ed
def Fn(K:Fr)(r:List V->Hp->VK->Prop)(f:List D->Option D):Prop:=∀(O:List Addr) (H:Hp) (ks:List Bool) (ds:List D) (vs:List V) (d:D) (Q:VK),yo K O H ks ds vs->(∀p,H p=none->p∉O)->f ds=some d->(∀v H',j4 H H'->j7 K (j6 H' O) d v->Q v H')->r vs H Q
def Cj(K:Fr)(r:List V->Hp->VK->Prop)(f:List D->Option OD):Prop:=∀(O:List Addr) (H:Hp) (ks:List Bool) (ds:List D) (vs:List V) (d:OD) (Q:VK),yo K O H ks ds vs->f ds=some d->(∀l H',j4 H H'->H l=none->JJ K H' (j6 H' (l::O)) l d->Q (.ref l) H')->r vs H Q
def ja(f:List D->Option D)(l:DA):DE:=fun ρ=>(yh l ρ).bind f
@[simp] theorem Cl(f:List D->Option D)(l:DA){ρ:j9}:ja f l ρ=(yh l ρ).bind f:=rfl
def JA(f:List D->Option OD)(l:DA):DO:=fun ρ=>(yh l ρ).bind f
@[simp] theorem iA(f:List D->Option OD)(l:DA){ρ:j9}:JA f l ρ=(yh l ρ).bind f:=rfl
theorem um{r:List V->Hp->VK->Prop}{f:List D->Option D}{l:DA}(hf:Fn K r f):∀σ H Q,tE K (ja f l) σ H Q->QJ r (zi K l) σ H Q:=fun σ H Q xx=>by
 obtain⟨H0,O0,ρ,O,d,R,ed,q⟩:=xx;obtain⟨ds,e1,e2⟩:=j1 ed;exact⟨H0,O0,ρ,O,ds,R,e1,fun vs H1 s1 r1=>hf O H1 _ ds vs d Q r1 (fun p hp=>(R.grow s1).new hp) e2 fun v H' s r=>q v H' (s1.trans s) r⟩
theorem WU{r:List V->Hp->VK->Prop}{f:List D->Option OD}{l:DA}(hf:Cj K r f):∀σ H Q,tF K (JA f l) σ H Q->QJ r (zi K l) σ H Q:=fun σ H Q xx=>by
 obtain⟨H0,O0,ρ,O,d,R,ed,q⟩:=xx;obtain⟨ds,e1,e2⟩:=j1 ed;exact⟨H0,O0,ρ,O,ds,R,e1,fun vs H1 s1 r1=>hf O H1 _ ds vs d Q r1 e2 fun l H' s hn r=>q l H' (s1.trans s) (s1.none hn) r⟩
theorem Vk{O:List Addr}{H:Hp}{ks:List Bool}{d:D}{vs:List V}(h:yo K O H ks [d] vs):∃v,vs=[v]/\RB K O H d v:=by
 cases ks with
 | nil=>exact h.elim
 | cons k ks=>
  cases vs with
  | nil=>exact h.elim
  | cons v vs=>
   obtain⟨h1,h2⟩:=h;have:=yo.len h2;have e:vs=[]:=List.length_eq_zero_iff.mp this.1;subst e;exact⟨v,rfl,AK.rb h1⟩
theorem Cm{O:List Addr}{H:Hp}{ks:List Bool}{d d':D}{vs:List V}(h:yo K O H ks [d,d'] vs):∃v v',vs=[v,v']/\RB K O H d v/\RB K O H d' v':=by
 cases ks with
 | nil=>exact h.elim
 | cons k ks=>
  cases vs with
  | nil=>exact h.elim
  | cons v vs=>
   obtain⟨h1,h2⟩:=h;obtain⟨v',rfl,r⟩:=Vk h2;exact⟨v,v',rfl,AK.rb h1,r⟩
@[simp] noncomputable def jU:List D->Option D
 | [.lst l]=>some (.int l.length)
 | [.tup l]=>some (.int l.length)
 | _=>none
theorem fm:Fn K (fun xs H Q=>∃p ys,xs=[.ref p]/\(jC K H p ys∨Ji K H p ys)/\Q (.int ys.length) H) jU:=by
 intro O H ks ds vs d Q h hn e q;unfold jU at e;split at e
 ·cases e;obtain⟨v,rfl,r⟩:=Vk h;obtain⟨p,xs,rfl,h1,h2⟩:=r.lst;exact⟨p,xs,rfl,.inl (jC.of h1),q _ H (j4.refl H) (by rw[j7,h2.len])⟩
 ·cases e;obtain⟨v,rfl,r⟩:=Vk h;obtain⟨p,xs,rfl,h1,h2⟩:=r.tup;exact⟨p,xs,rfl,.inr h1,q _ H (j4.refl H) (by rw[j7,h2.len])⟩
 ·cases e
@[simp] noncomputable def Yn:List D->Option OD
 | [.lst l]=>some (.lst l)
 | [.tup l]=>some (.lst l)
 | _=>none
theorem Cn:Cj K (fun xs H Q=>∃p ys,xs=[.ref p]/\(jC K H p ys∨Ji K H p ys)/\∀l,H l=none->Q (.ref l) (upd H l (.lst ys))) Yn:=by
 intro O H ks ds vs d Q h e q;unfold Yn at e;split at e
 ·cases e;obtain⟨v,rfl,r⟩:=Vk h;obtain⟨p,xs,rfl,h1,h2⟩:=r.lst;exact⟨p,xs,rfl,.inl (jC.of h1),fun l hl=>q _ _ (jw hl _) hl (yd hl h2)⟩
 ·cases e;obtain⟨v,rfl,r⟩:=Vk h;obtain⟨p,xs,rfl,h1,h2⟩:=r.tup;exact⟨p,xs,rfl,.inr h1,fun l hl=>q _ _ (jw hl _) hl (yd hl h2)⟩
 ·cases e
@[simp] noncomputable def JR:List D->Option D
 | [.lst l]=>some (.tup l)
 | [.tup l]=>some (.tup l)
 | _=>none
theorem bQ:Fn K (fun xs H Q=>∃p ys,xs=[.ref p]/\((jC K H p ys/\∀l,H l=none->Q (.ref l) (upd H l (.tup ys)))∨(Ji K H p ys/\Q (.ref p) H))) JR:=by
 intro O H ks ds vs d Q h hn e q;unfold JR at e;split at e
 ·cases e;obtain⟨v,rfl,r⟩:=Vk h;obtain⟨p,xs,rfl,h1,h2⟩:=r.lst;exact⟨p,xs,rfl,.inl ⟨jC.of h1,fun l hl=>q _ _ (jw hl _) (yQ (hn l hl) hl h2)⟩⟩
 ·cases e;obtain⟨v,rfl,r⟩:=Vk h;have r0:=r;obtain⟨p,xs,rfl,h1,h2⟩:=r.tup;refine⟨p,xs,rfl,.inr ⟨h1,q _ H (j4.refl H) ?_⟩⟩;rcases r0 with r0 | ⟨_,o,_,z,_⟩
  ·exact r0
  ·cases o <;> cases z
 ·cases e
@[simp] noncomputable def uo:List D->Option D
 | [.int i,.int j]=>some (.int (if j > i then j else i))
 | _=>none
theorem fq:Fn K (fun xs H Q=>∃i j,xs=[.int i,.int j]/\Q (.int (if j > i then j else i)) H) uo:=by
 intro O H ks ds vs d Q h hn e q;unfold uo at e;split at e
 ·cases e;obtain⟨v,v',rfl,r,r'⟩:=Cm h;exact⟨_,_,by rw[r.int,r'.int],q _ H (j4.refl H) (by rw[j7])⟩
 ·cases e
@[simp] noncomputable def KS:List D->Option D
 | [.int i,.int j]=>some (.int (if j < i then j else i))
 | _=>none
theorem fu:Fn K (fun xs H Q=>∃i j,xs=[.int i,.int j]/\Q (.int (if j < i then j else i)) H) KS:=by
 intro O H ks ds vs d Q h hn e q;unfold KS at e;split at e
 ·cases e;obtain⟨v,v',rfl,r,r'⟩:=Cm h;exact⟨_,_,by rw[r.int,r'.int],q _ H (j4.refl H) (by rw[j7])⟩
 ·cases e
@[simp] noncomputable def KT:List D->Option (List Bool)
 | []=>some []
 | .bl b::r=>(KT r).bind fun bs=>some (b::bs)
 | _::_=>none
theorem ku{H:Hp}:∀{l:List D} {bs:List Bool} {xs:List V},KT l=some bs->j3 K H l xs->xs=bs.map V.bl
 | [],bs,xs,e,h=>by cases e;rw[j3]at h;exact h
 | .bl b::r,bs,xs,e,h=>by
  obtain⟨bs',e1,e2⟩:=j1 e;cases e2;rw[j3]at h;obtain⟨v,vs,rfl,a,b'⟩:=h;rw[j7]at a;rw[a,ku e1 b'];rfl
 | .non::_,_,_,e,_=>by cases e
 | .int _::_,_,_,e,_=>by cases e
 | .str _::_,_,_,e,_=>by cases e
 | .tup _::_,_,_,e,_=>by cases e
 | .lst _::_,_,_,e,_=>by cases e
 | .ins _ _ _::_,_,_,e,_=>by cases e
 | .scr _::_,_,_,e,_=>by cases e
@[simp] def ZA:List D->Option D
 | [.lst l]=>(KT l).bind fun bs=>some (.bl (bs.all id))
 | _=>none
theorem fv:Fn K (fun xs H Q=>∃(p:Addr) (bs:List Bool),xs=[.ref p]/\jC K H p (bs.map V.bl)/\Q (.bl (bs.all id)) H) ZA:=by
 intro O H ks ds vs d Q h hn e q;unfold ZA at e;split at e
 ·obtain⟨bs,e1,e2⟩:=j1 e;cases e2;obtain⟨v,rfl,r⟩:=Vk h;obtain⟨p,xs,rfl,h1,h2⟩:=r.lst;rw[ku e1 h2]at h1;exact⟨p,bs,rfl,jC.of h1,q _ H (j4.refl H) (by rw[j7])⟩
 ·cases e
noncomputable def Jn(C:Addr)(f:Str):D->Option D
 | .ins C' ns ds=>if C'=C then(ns.zip ds).lookup f else none
 | _=>none
theorem Uj{H:Hp}{f:Str}{d:D}:∀{ns:List Str} {ds:List D} {xs:List V},j3 K H ds xs->(ns.zip ds).lookup f=some d->∃v,(ns.zip xs).lookup f=some v/\j7 K H d v
 | [],_,_,_,e=>by cases e
 | _::_,[],_,_,e=>by cases e
 | n::ns,d'::ds,xs,h,e=>by
  rw[j3]at h;obtain⟨v,r,rfl,a,b⟩:=h;rw[List.zip_cons_cons,List.lookup_cons]at e⊢;cases hf:f==n with
  | true=>rw[hf]at e;cases e;exact⟨v,rfl,a⟩
  | false=>rw[hf]at e;exact Uj b e
theorem fw{C:Addr}{f:Str}(h:PE X e (tR K de))(c:Cls K C)(n:Y4 K C f)(hb:attributeBase e f X.env (eval e X.env)=eval e X.env:=by rfl)(hK:X.K=K:=by rfl):PE X (.Attribute e f pos) (tE K (d1 (Jn C f) de)):=jy (cH h hb) fun σ H Q xx=>by
 obtain⟨H0,O0,ρ,O,d,R,ed,q⟩:=xx;subst hK;obtain⟨x,e1,e2⟩:=j1 ed;refine⟨H0,O0,ρ,O,x,R,e1,fun v H' s r=>?_⟩;unfold Jn at e2;split at e2
 ·split at e2
  ·rename_i hC;subst hC;obtain⟨a,dx,xs,rfl,h1,hn,h2⟩:=r.ins;obtain⟨v,e3,r3⟩:=Uj h2 e2;exact⟨a,_,dx,_,v,rfl,h1,c,n,e3,q v H' s r3⟩
  ·cases e2
 ·cases e2
end
def RP(K:Fr)(H0:Hp)(O0:List Addr)(H:Hp)(O:List Addr)(d:D)(v:V):Prop:=j7 K (j6 H O) d v∨RB K O0 H0 d v
def tP(K:Fr)(de:DE):TE:=fun σ H Q=>∃H0 O0 ρ O d,Rel K H0 O0 ρ σ H O/\de ρ=some d/\∀v H',j4 H H'->RP K H0 O0 H' O d v->Q v H'
theorem RP.at{K:Fr}{H0 H H':Hp}{O0 O O':List Addr}{d:D}{v:V}(r:RP K H0 O0 H O d v)(s0:j4 H0 H')(s1:j4 (j6 H0 O0) (j6 H' O'))(s2:j4 (j6 H O) (j6 H' O')):RB K O' H' d v:=by
 rcases r with r | r | ⟨l,o,e1,e2,h1⟩
 ·exact .inl (r.same s2)
 ·exact .inl (r.same s1)
 ·exact .inr ⟨l,o,e1,e2,h1.same (s0 l) s1⟩
def Q4(K:Fr)(J:It)(H0:Hp)(O0:List Addr)(H:Hp)(O:List Addr)(items:List D):Prop:=∀(i:Nat) (H':Hp) (O':List Addr),j4 H0 H'->j4 (j6 H0 O0) (j6 H' O')->j4 (j6 H O) (j6 H' O')->(∀a∈O',H' a≠none)->
 (∀d,items[i]?=some d->J.go i H'/\∀x H'',J.yld i H' x H''->j4 H' H''/\j7 K (j6 H'' O') d x)/\(i=items.length->J.stop i H')
abbrev DI:=j9->Option (List D)
def Ze(K:Fr)(di:DI):TI:=fun σ H R=>∃H0 O0 ρ O items,Rel K H0 O0 ρ σ H O/\di ρ=some items/\∀J H',j4 H H'->Q4 K J H0 O0 H' O items->R J H'
section
variable {X:Cx} {K:Fr} {e a b c d tg:Expr} {de da db dc dd:DE} {pos:Pos}
theorem HL(h:PE X e (tE K de)):PE X e (tP K de):=jy h fun σ H Q ⟨H0,O0,ρ,O,d,R,ed,q⟩=>⟨H0,O0,ρ,O,d,R,ed,fun v H' s r=>q v H' s (.inl r)⟩
noncomputable def dP(i:Nat):DE:=fun ρ=>match ρ[i]? with
 | some (.cl d)=>some d
 | some (.bo d)=>some d
 | _=>none
@[simp] theorem HM(i:Nat){ρ:j9}:dP i ρ=match ρ[i]? with
 | some (.cl d)=>some d
 | some (.bo d)=>some d
 | _=>none:=rfl
theorem fA(i:Nat){x:Str}(h:PE X (.Name x pos) (ye i)):PE X (.Name x pos) (tP K (dP i)):=jy h fun σ H Q xx=>by
 obtain⟨H0,O0,ρ,O,d,R,ed,q⟩:=xx;unfold dP at ed;split at ed
 ·cases ed;obtain⟨v,e1,r⟩:=R.cl i _ (by assumption);exact⟨v,e1,q v H (j4.refl H) (.inl r)⟩
 ·cases ed;obtain⟨v,e1,r⟩:=R.bo i _ (by assumption);exact⟨v,e1,q v H (j4.refl H) (.inr r)⟩
 ·cases ed
theorem Kh{wi wi':TI}(h:PI X tg e wi)(f:∀σ H R,wi' σ H R->wi σ H R):PI X tg e wi':=fun pins s σ H R I q=>h pins s σ H R I (f σ H R q)
def HN(K:Fr)(tl:TE):TI:=fun σ H R=>tl σ H fun x H1=>∃a,x=.ref a/\(((∃xs,jC K H1 a xs)/\R (ci K a) H1)∨((∃xs,Ji K H1 a xs)/\R (cj K a) H1))
theorem Co{l:Expr}{tl:TE}(hl:PE X l tl):PI X tg l (HN X.K tl):=by
 intro pins s σ H R I h;refine jv (hl pins s σ H _ I h) fun v s1 xx=>?_;obtain⟨x,H1,I1,r1,q1⟩:=xx;obtain⟨a,e,q⟩:=q1;subst e;cases r1;rcases q with⟨⟨xs,hq⟩,q⟩ | ⟨⟨xs,hq⟩,q⟩
 ·obtain⟨its,rv,p,hz⟩:=I1.list hq;refine wpAny_pyIter_list p.isList ?_;refine⟨s1.heap.objs.size,[s1.heap.objs.size],_,_,H1,rfl,I1.kept (t':=s1.toks) fun b o e=>wIa _ e,Qz a _,⟨_,wJa _ rfl,rfl,rfl⟩,fun b hb=>?_,q⟩;have e:b=s1.heap.objs.size:=by simpa using hb
  subst e;exact I1.fpOk (wPa _) (I1.hok.fresh (wPa _))
 ·obtain⟨its,rv,p,hz⟩:=I1.tuple hq;refine wpAny_pyIter_tuple (show s1.heap.IsTuple a its.toArray from p) ?_;refine⟨s1.heap.objs.size,[s1.heap.objs.size],_,_,H1,rfl,I1.kept (t':=s1.toks) fun b o e=>wIa _ e,qK a _,⟨_,wJa _ rfl,rfl,rfl⟩,fun b hb=>?_,q⟩;have e:b=s1.heap.objs.size:=by simpa using hb
  subst e;exact I1.fpOk (wPa _) (I1.hok.fresh (wPa _))
noncomputable def yX:D->Option (List D)
 | .lst l=>some l
 | .tup l=>some l
 | _=>none
@[simp] theorem FD(l:List D):yX (.lst l)=some l:=rfl
@[simp] theorem FE(l:List D):yX (.tup l)=some l:=rfl
def jR(de:DE):DI:=fun ρ=>(de ρ).bind yX
@[simp] theorem bR(de:DE){ρ:j9}:jR de ρ=(de ρ).bind yX:=rfl
theorem Cp{H0 H:Hp}{O0 O:List Addr}{d:D}{v:V}{l:List D}(r:RP K H0 O0 H O d v)(e:yX d=some l)(s0:j4 H0 H)(s1:j4 (j6 H0 O0) (j6 H O)):
  ∃a,v=.ref a/\(((∃xs,jC K H a xs)/\Q4 K (ci K a) H0 O0 H O l)∨((∃xs,Ji K H a xs)/\Q4 K (cj K a) H0 O0 H O l)):=by
 unfold yX at e;split at e
 ·cases e;obtain⟨p,xs,rfl,h1,h2⟩:=(r.at s0 s1 (j4.refl _)).lst;refine⟨p,rfl,.inl ⟨⟨xs,jC.of h1⟩,fun i H' O' t0 t1 t2 _=>?_⟩⟩;obtain⟨p',ys,e',g1,g2⟩:=(r.at t0 t1 t2).lst;cases e';refine⟨fun d hd=>?_,fun hi=>⟨ys,jC.of g1,by rw[g2.len,hi];exact wPa _⟩⟩;obtain⟨x,hx,rx⟩:=g2.get hd;refine⟨⟨ys,x,jC.of g1,hx⟩,fun x' H'' y=>?_⟩;obtain⟨e1,y⟩:=y;have z:=y ys (jC.of g1);rw[hx]at z;cases z;rw[e1];exact⟨j4.refl _,rx⟩
 ·cases e;obtain⟨p,xs,rfl,h1,h2⟩:=(r.at s0 s1 (j4.refl _)).tup;refine⟨p,rfl,.inr ⟨⟨xs,h1⟩,fun i H' O' t0 t1 t2 _=>?_⟩⟩;obtain⟨p',ys,e',g1,g2⟩:=(r.at t0 t1 t2).tup;cases e';refine⟨fun d hd=>?_,fun hi=>⟨ys,g1,by rw[g2.len,hi];exact wPa _⟩⟩;obtain⟨x,hx,rx⟩:=g2.get hd;refine⟨⟨ys,x,g1,hx⟩,fun x' H'' y=>?_⟩;obtain⟨e1,y⟩:=y;have z:=y ys g1;rw[hx]at z;cases z;rw[e1];exact⟨j4.refl _,rx⟩
 ·cases e
theorem fG(h:PE X e (tP K de))(hK:X.K=K:=by rfl):PI X tg e (Ze K (jR de)):=Kh (Co h) fun σ H R xx=>by
 obtain⟨H0,O0,ρ,O,items,Re,ed,q⟩:=xx;subst hK;obtain⟨d,e1,e2⟩:=j1 ed;refine⟨H0,O0,ρ,O,d,Re,e1,fun v H' s r=>?_⟩;have R':=Re.grow s;obtain⟨a,rfl,z⟩:=Cp r e2 R'.keep R'.in0;rcases z with⟨z1,z2⟩ | ⟨z1,z2⟩
 ·exact⟨a,rfl,.inl ⟨z1,q _ H' s z2⟩⟩
 ·exact⟨a,rfl,.inr ⟨z1,q _ H' s z2⟩⟩
noncomputable def jK(lo:Int)(n:Nat):List D:=(List.range n).map fun(i:Nat)=>D.int (lo+(i:Int))
theorem Cq{H0 H:Hp}{O0 O:List Addr}{lo:Int}{n:Nat}:Q4 K (A6 lo n) H0 O0 H O (jK lo n):=fun i H' O' _ _ _ _=>by
 refine⟨fun d hd=>?_,fun hi=>?_⟩
 ·unfold jK at hd;rw[List.getElem?_map]at hd;cases q:(List.range n)[i]? with
  | none=>rw[q]at hd;cases hd
  | some j=>
   rw[q]at hd;cases hd;obtain⟨h1,h2⟩:=List.getElem?_eq_some_iff.mp q;rw[List.getElem_range]at h2;subst h2;rw[List.length_range]at h1;refine⟨h1,fun x H'' y=>?_⟩;obtain⟨e1,e2⟩:=y;rw[e1,e2];exact⟨j4.refl _,by rw[j7]⟩
 ·unfold jK at hi;rw[List.length_map,List.length_range]at hi;show n<=i;omega
noncomputable def J9(j:Int):Bool:=Nat.blt j.natAbs 4611686018427387904
theorem JK{j:Int}(h1:-4611686018427387904 < j)(h2:j < 4611686018427387904):J9 j=true:=by unfold J9;rw[Nat.blt_eq];omega
theorem Q5{j:Int}(h:J9 j=true):-(2 ^ 62)<=j/\j < 2 ^ 62:=by
 unfold J9 at h;rw[Nat.blt_eq]at h;have e:(2:Int) ^ 62=4611686018427387904:=by decide
 rw[e];omega
def yw(de:DE):DI:=fun ρ=>(de ρ).bind fun d=>match d with
 | .int j=>if J9 j=true then some (jK 0 j.toNat)else none
 | _=>none
@[simp] theorem iB(de:DE){ρ:j9}:yw de ρ=(de ρ).bind fun d=>match d with
 | .int j=>if J9 j=true then some (jK 0 j.toNat)else none
 | _=>none:=rfl
theorem Cr{p:Pos}(hg:Gl X "range")(hm:X.mg "range" = none)(h:PE X a (tR K da))(hs:starEach [a] X.env=[(false,eval a X.env)]:=by rfl):PI X tg (.Call (.Name "range" p) [a] [] pos) (Ze K (yw da)):=Kh (QA hg hm (j_ h yn (by rw[hs];rfl)) hs) fun σ H R xx=>by
 obtain⟨H0,O0,ρ,O,items,Re,ed,q⟩:=xx;obtain⟨d,e1,e2⟩:=j1 ed;refine⟨H0,O0,ρ,O,d,Re,e1,fun v H' s r=>?_⟩;split at e2
 ·split at e2
  ·cases e2;rename_i hj;have hj:=Q5 hj;exact⟨_,by rw[r.int],hj.1,hj.2,q _ H' s Cq⟩
  ·cases e2
 ·cases e2
def fH(K:Fr)(ta:TA):TI:=fun σ H R=>ta σ H fun vs H1=>∃k j a b xs ys,vs=[.ref a,.ref b]/\VN K k H1 a xs/\VN K j H1 b ys/\R (Fx K k j a b) H1
theorem bS{es:List Expr}{x1:Nat}{tp:Pos}{e1 e2:Expr}{ta:TA}{p pos:Pos}(hg:Gl X "zip")(hm:X.mg "zip" = none)(ha:PA X [e1,e2] ta)(hs:starEach [e1,e2] X.env=[(false,eval e1 X.env),(false,eval e2 X.env)]:=by rfl)(hs2:starEach [e2] X.env=[(false,eval e2 X.env)]:=by rfl):
  PI X (.Tuple es x1 tp) (.Call (.Name "zip" p) [e1,e2] [] pos) (fH X.K ta):=by
 intro pins s σ H R I h;refine Call_ (Zv I hg hm boot_zip (PyProof.Rows.callWith_type1 (jv (ha pos pins s σ H _ I h) fun us s1 xx=>?_) (by rw[hs,hs2]) (by rw[hs2];rfl)));obtain⟨vs,H1,I1,r1,q1⟩:=xx;obtain⟨k,j,a,b,xs,ys,e,qa,qb,q⟩:=q1;subst e;cases r1 with
 | cons r rr=>
  cases rr with
  | cons r' rr=>
   cases rr;cases r;cases r';obtain⟨ia,ra,pa,_⟩:=I1.seqK qa;obtain⟨ib,rb,pb,_⟩:=I1.seqK qb;refine XJ pa pb fun h' b1 b2 b3 b4 b5 bk=>?_;refine wpAny_pyIter_zip b1 ?_;have fr:∀m,Jj X pins H1 (s1.heap.objs.size+m):=fun m=>I1.fpOk (vKa _ _) (I1.hok.fresh (vKa _ _));refine⟨_,_,_,_,H1,rfl,I1.kept (t':=s1.toks) bk,XQ (zipApart_new pa.lt pb.lt),⟨b1,b2,⟨_,_,b3⟩,b4,b5⟩,fun c hc=>?_,q⟩;simp only[List.mem_cons,List.not_mem_nil,or_false]at hc;rcases hc with rfl | rfl | rfl | rfl | rfl
   ·exact fr 4
   ·exact fr 2
   ·exact fr 3
   ·exact fr 0
   ·exact fr 1
theorem gD{O:List Addr}{H:Hp}{d:D}{v:V}{l:List D}(r:RB K O H d v)(e:yX d=some l):∃k a xs,v=.ref a/\VN K k H a xs/\j3 K (j6 H O) l xs/\(k=Sk.l↔∃m,d=D.lst m):=by
 unfold yX at e;split at e
 ·cases e;obtain⟨p,xs,rfl,h1,h2⟩:=r.lst;exact⟨.l,p,xs,rfl,jC.of h1,h2,Iff.intro (fun _=>⟨_,rfl⟩) (fun _=>rfl)⟩
 ·cases e;obtain⟨p,xs,rfl,h1,h2⟩:=r.tup;exact⟨.t,p,xs,rfl,h1,h2,Iff.intro (fun z=>nomatch z) (fun z=>by obtain⟨_,z⟩:=z;cases z)⟩
 ·cases e
theorem Av{k k':Sk}{d:D}(h:k=Sk.l↔∃m,d=D.lst m)(h':k'=Sk.l↔∃m,d=D.lst m):k=k':=by
 cases k <;> cases k' <;> first | rfl | (exact vDa (h'.mpr (h.mp rfl)) (by intro z;cases z)) | (exact vDa (h.mpr (h'.mp rfl)) (by intro z;cases z))
def KU(da db:DE):DI:=fun ρ=>(da ρ).bind fun x=>(db ρ).bind fun y=>(yX x).bind fun l=>(yX y).bind fun m=>some (List.zipWith (fun p q=>D.tup [p,q]) l m)
@[simp] theorem Ih(da db:DE){ρ:j9}:KU da db ρ=(da ρ).bind fun x=>(db ρ).bind fun y=>(yX x).bind fun l=>(yX y).bind fun m=>some (List.zipWith (fun p q=>D.tup [p,q]) l m):=rfl
theorem Cs{O:List Addr}{H:Hp}{p:Addr}{d d':D}{x y:V}(hO:p∉O)(hp:H p=none)(r:j7 K (j6 H O) d x)(r':j7 K (j6 H O) d' y):j7 K (j6 (upd H p (.tup [x,y])) O) (.tup [d,d']) (.ref p):=yQ hO hp (j3.cons r (j3.cons r' j3.nil))
theorem fJ{es:List Expr}{x1:Nat}{tp p:Pos}(hg:Gl X "zip")(hm:X.mg "zip" = none)(h:PE X a (tP K da))(h':PE X b (tP K db))(hs:starEach [a,b] X.env=[(false,eval a X.env),(false,eval b X.env)]:=by rfl)(hs2:starEach [b] X.env=[(false,eval b X.env)]:=by rfl)(hK:X.K=K:=by rfl):
  PI X (.Tuple es x1 tp) (.Call (.Name "zip" p) [a,b] [] pos) (Ze K (KU da db)):=Kh (bS hg hm (j_ h (j_ h' yn (by rw[hs2];rfl)) (by rw[hs,hs2])) hs hs2) fun σ H R xx=>by
 obtain⟨H0,O0,ρ,O,items,Re,ed,q⟩:=xx;subst hK;obtain⟨x,e1,ed⟩:=j1 ed;obtain⟨y,e2,ed⟩:=j1 ed;obtain⟨l,e3,ed⟩:=j1 ed;obtain⟨m,e4,ed⟩:=j1 ed;cases ed;refine⟨H0,O0,ρ,O,x,Re,e1,fun v H1 s1 r=>⟨H0,O0,ρ,O,y,Re.grow s1,e2,fun v2 H2 s2 r2=>?_⟩⟩;have R1:=Re.grow s1;have R2:=R1.grow s2;have r':RP X.K H0 O0 H2 O x v:=by
  rcases r with r | r
  ·exact .inl (r.same (jc s2))
  ·exact .inr r
 obtain⟨k,p,xs,rfl,h1,h2,hk⟩:=gD (r'.at R2.keep R2.in0 (j4.refl _)) e3;obtain⟨j,p',ys,rfl,h1',h2',hj⟩:=gD (r2.at R2.keep R2.in0 (j4.refl _)) e4;refine⟨k,j,p,p',xs,ys,rfl,h1,h1',q _ H2 (s1.trans s2) fun i H' O' t0 t1 t2 ta=>?_⟩;obtain⟨k2,q2,us,ea,g1,g2,hk2⟩:=gD (r'.at t0 t1 t2) e3;cases ea;cases Av hk hk2;obtain⟨j2,q3,ws,eb,g1',g2',hj2⟩:=gD (r2.at t0 t1 t2) e4;cases eb;cases Av hj hj2;refine⟨fun d hd=>?_,fun hi=>⟨us,ws,g1,g1',?_⟩⟩
 ·rw[List.getElem?_zipWith]at hd;split at hd
  ·cases hd;rename_i dp dq hp hq;obtain⟨u,hu,ru⟩:=g2.get hp;obtain⟨w,hw,rw'⟩:=g2'.get hq;refine⟨⟨us,ws,u,w,g1,g1',hu,hw⟩,fun x' H'' yy=>?_⟩;obtain⟨pp,hpp,rfl,yy⟩:=yy;rw[yy _ _ _ _ g1 g1' hu hw];exact⟨jw hpp _,Cs (fun z=>ta pp z hpp) hpp ru rw'⟩
  ·cases hd
 ·rw[List.length_zipWith]at hi;rw[g2.len,g2'.len];omega
noncomputable def yi:Nat->List D->List D
 | _,[]=>[]
 | n,d::ds=>.tup [.int n,d]::yi (n+1) ds
theorem Y8:∀(n:Nat) (l:List D),(yi n l).length=l.length
 | _,[]=>rfl
 | n,d::ds=>by rw[yi,List.length_cons,List.length_cons,Y8]
theorem Z_:∀(n:Nat) (l:List D) (i:Nat) (d:D),(yi n l)[i]?=some d->∃d',l[i]?=some d'/\d=.tup [.int ((n+i:Nat):Int),d']
 | _,[],_,_,h=>by simp[yi]at h
 | n,x::l,0,d,h=>by
  simp[yi]at h;exact⟨x,rfl,by rw[<-h];rfl⟩
 | n,x::l,i+1,d,h=>by
  simp only[yi,List.getElem?_cons_succ]at h;obtain⟨d',h1,h2⟩:=Z_ (n+1) l i d h;refine⟨d',by simpa using h1,?_⟩;rw[h2];have:n+1+i=n+(i+1):=by omega
  rw[this]
noncomputable def Ki:D->Option (List D)
 | .lst l=>some l
 | _=>none
@[simp] theorem FF(l:List D):Ki (.lst l)=some l:=rfl
def Vl(de:DE):DI:=fun ρ=>(de ρ).bind fun d=>(Ki d).bind fun l=>some (yi 0 l)
@[simp] theorem iC(de:DE){ρ:j9}:Vl de ρ=(de ρ).bind fun d=>(Ki d).bind fun l=>some (yi 0 l):=rfl
theorem Ct{es:List Expr}{x1:Nat}{tp p:Pos}(hg:Gl X "enumerate")(hm:X.mg "enumerate" = none)(h:PE X a (tP K da))(hs:starEach [a] X.env=[(false,eval a X.env)]:=by rfl)(hK:X.K=K:=by rfl):
  PI X (.Tuple es x1 tp) (.Call (.Name "enumerate" p) [a] [] pos) (Ze K (Vl da)):=Kh (bN hg hm (j_ h yn (by rw[hs];rfl)) hs) fun σ H R xx=>by
 obtain⟨H0,O0,ρ,O,items,Re,ed,q⟩:=xx;subst hK;obtain⟨x,e1,ed⟩:=j1 ed;obtain⟨l,e3,ed⟩:=j1 ed;cases ed;refine⟨H0,O0,ρ,O,x,Re,e1,fun v H1 s1 r=>?_⟩;have R1:=Re.grow s1;unfold Ki at e3;split at e3
 ·cases e3;obtain⟨p,xs,rfl,h1,h2⟩:=(r.at R1.keep R1.in0 (j4.refl _)).lst;refine⟨p,xs,rfl,jC.of h1,q _ H1 s1 fun i H' O' t0 t1 t2 ta=>?_⟩;obtain⟨p',us,ea,g1,g2⟩:=(r.at t0 t1 t2).lst;cases ea;refine⟨fun d hd=>?_,fun hi=>⟨us,jC.of g1,by rw[g2.len,hi,Y8];exact wPa _⟩⟩;obtain⟨d',hd',rfl⟩:=Z_ 0 l i d hd;obtain⟨u,hu,ru⟩:=g2.get hd';refine⟨⟨us,u,jC.of g1,hu⟩,fun x' H'' yy=>?_⟩;obtain⟨pp,hpp,rfl,yy⟩:=yy;rw[yy _ _ (jC.of g1) hu];exact⟨jw hpp _,Cs (fun z=>ta pp z hpp) hpp (by rw[j7,Nat.zero_add]) ru⟩
 ·cases e3
abbrev DG:=D->j9->Option j9
abbrev VQ:=List D->j9->Option j9
def tG(K:Fr)(k:Nat)(g:DG):TG:=fun v σ H Q=>∃H0 O0 ρ O d ρ',Rel K H0 O0 ρ σ H O/\j7 K (j6 H O) d v/\g d ρ=some ρ'/\∀σ',Rel K H0 O0 ρ' σ' H O->σ'.drop k=σ.drop k->Q σ' H
def QY(K:Fr)(k:Nat)(g:VQ):gl:=fun vs σ H Q=>∃H0 O0 ρ O ds ρ',Rel K H0 O0 ρ σ H O/\j3 K (j6 H O) ds vs/\g ds ρ=some ρ'/\∀σ',Rel K H0 O0 ρ' σ' H O->σ'.drop k=σ.drop k->Q σ' H
theorem Aw{t t':TG}(h:PG X tg t)(f:∀v σ H Q,t' v σ H Q->t v σ H Q):PG X tg t':=fun pins s σ H v u Q I r q=>h pins s σ H v u Q I r (f v σ H Q q)
theorem QZ{ts:List Expr}{t t':gl}(h:u6 X ts t)(f:∀v σ H Q,t' v σ H Q->t v σ H Q):u6 X ts t':=fun pins s σ H v u Q I r q=>h pins s σ H v u Q I r (f v σ H Q q)
noncomputable def gN(i:Nat):DG:=fun d ρ=>some (ρ.set i (.cl d))
@[simp] theorem I_(i:Nat){d:D}{ρ:j9}:gN i d ρ=some (ρ.set i (.cl d)):=rfl
theorem Cu{i k:Nat}{x:Str}(h:PG X (.Name x pos) (YR i))(hi:i < k:=by decide):PG X (.Name x pos) (tG K k (gN i)):=Aw h fun v σ H Q xx=>by
 obtain⟨H0,O0,ρ,O,d,ρ',R,r,e,q⟩:=xx;cases e;exact q _ (R.set r i) (List.drop_set_of_lt hi)
noncomputable def gZ:VQ:=fun ds ρ=>match ds with
 | []=>some ρ
 | _=>none
@[simp] theorem l3{ds:List D}{ρ:j9}:gZ ds ρ=match ds with
 | []=>some ρ
 | _=>none:=rfl
noncomputable def gC(g:DG)(gs:VQ):VQ:=fun ds ρ=>match ds with
 | d::r=>(g d ρ).bind fun ρ1=>gs r ρ1
 | []=>none
@[simp] theorem l4(g:DG)(gs:VQ){ds:List D}{ρ:j9}:gC g gs ds ρ=match ds with
 | d::r=>(g d ρ).bind fun ρ1=>gs r ρ1
 | []=>none:=rfl
theorem fM{k:Nat}:u6 X [] (QY K k gZ):=QZ bt fun v σ H Q xx=>by
 obtain⟨H0,O0,ρ,O,d,ρ',R,r,e,q⟩:=xx;unfold gZ at e;split at e
 ·cases e;rw[j3]at r;exact⟨r,q _ R rfl⟩
 ·cases e
theorem Cv{k:Nat}{es:List Expr}{g:DG}{gs:VQ}(h1:PG X e (tG K k g))(h2:u6 X es (QY K k gs))(hs:(assignEach (e::es) X.env).map (·.2)=assign e X.env::(assignEach es X.env).map (·.2):=by rfl):u6 X (e::es) (QY K k (gC g gs)):=QZ (Xo h1 h2 hs) fun v σ H Q xx=>by
 obtain⟨H0,O0,ρ,O,ds,ρ',R,r,ed,q⟩:=xx;unfold gC at ed;split at ed
 ·obtain⟨ρ1,e1,e2⟩:=j1 ed;rw[j3]at r;obtain⟨v1,vr,rfl,a,b⟩:=r;exact⟨v1,vr,rfl,H0,O0,ρ,O,_,ρ1,R,a,e1,fun σ' R' k1=>⟨H0,O0,ρ1,O,_,ρ',R',b,e2,fun σ2 R2 k2=>q σ2 R2 (k2.trans k1)⟩⟩
 ·cases ed
noncomputable def gT(n:Nat)(gs:VQ):DG:=fun d ρ=>match d with
 | .tup l=>if l.length=n then gs l ρ else none
 | _=>none
@[simp] theorem HP(n:Nat)(gs:VQ){d:D}{ρ:j9}:gT n gs d ρ=match d with
 | .tup l=>if l.length=n then gs l ρ else none
 | _=>none:=rfl
theorem fN{es:List Expr}{k kk:Nat}{gs:VQ}(n:Nat)(hc:X.calm=true)(h:u6 X es (QY K kk gs))(hn:(assignEach es X.env).length=n:=by rfl)(hst:(assignEach es X.env).findIdx? (·.1)=none:=by rfl)(hK:X.K=K:=by rfl):PG X (.Tuple es k pos) (tG K kk (gT n gs)):=Aw (B_ hc h hn hst) fun v σ H Q xx=>by
 obtain⟨H0,O0,ρ,O,d,ρ',R,r,ed,q⟩:=xx;subst hK;unfold gT at ed;split at ed
 ·split at ed
  ·obtain⟨a,xs,rfl,h1,h2⟩:=RB.tup (.inl r);exact⟨a,xs,rfl,h1,by rw[h2.len];assumption,H0,O0,ρ,O,_,ρ',R,h2,ed,q⟩
  ·cases ed
 ·cases ed
noncomputable def jM:DT:=fun _=>some true
@[simp] theorem iE{r:j9}:jM r=some true:=rfl
theorem HQ:z_ X [] (tT K jM):=fun pins s σ H Q I xx=>by
 obtain⟨H0,O0,ρ,O,b,R,ed,q⟩:=xx;cases ed;exact bH pins s σ H Q I (q H (j4.refl H))
theorem HR{dt:DT}(h:PT X c (tT K dt)):z_ X [c] (tT K dt):=bI h
@[simp] noncomputable def YU(k:Nat)(caps:List Nat)(ρ:j9):j9:=List.replicate k .un++caps.map fun j=>(ρ[j]?).getD .un
noncomputable def JD(g:DG)(dc:DT)(de:DE):List D->j9->Option (List D)
 | [],_=>some []
 | d::ds,ρ=>(g d ρ).bind fun ρ1=>(dc ρ1).bind fun k=>if k=true then(de ρ1).bind fun y=>(JD g dc de ds ρ).bind fun ys=>some (y::ys)else JD g dc de ds ρ
def yY(k:Nat)(caps:List Nat)(di:DI)(g:DG)(dc:DT)(de:DE):DO:=fun ρ=>(di ρ).bind fun items=>(JD g dc de items (YU k caps ρ)).bind fun ys=>if items.length<=sizeLine then some (.lst ys)else none
@[simp] theorem fO(k:Nat)(caps:List Nat)(di:DI)(g:DG)(dc:DT)(de:DE){ρ:j9}:yY k caps di g dc de ρ=(di ρ).bind fun items=>(JD g dc de items (YU k caps ρ)).bind fun ys=>if items.length<=sizeLine then some (.lst ys)else none:=rfl
theorem KW{H0 H:Hp}{O0 O:List Addr}{ρ:j9}{σ:L2.St}(own:List Str)(caps:List (Str×Nat))(R:Rel K H0 O0 ρ σ H O)(hnd:(caps.map (·.2)).Nodup):Rel K H0 O0 (YU own.length (caps.map (·.2)) ρ) (zh own caps σ) H O:=by
 have key:∀(i:Nat) (s:Sl),s≠.un->(YU own.length (caps.map (·.2)) ρ)[i]?=some s->∃m x j,i=own.length+m/\caps[m]?=some (x,j)/\ρ[j]?=some s/\(zh own caps σ)[i]?=some ((σ[j]?).join):=fun i s hs e=>by
  unfold YU at e;by_cases hi:i < own.length
  ·rw[List.getElem?_append_left (by rw[List.length_replicate];exact hi),List.getElem?_replicate,if_pos hi]at e;cases e;exact vDa rfl hs
  ·rw[List.getElem?_append_right (by rw[List.length_replicate];omega),List.length_replicate,List.map_map,List.getElem?_map]at e;cases q:caps[i - own.length]? with
   | none=>rw[q]at e;cases e
   | some p=>
    rw[q]at e;obtain⟨x,j⟩:=p;have e:(ρ[j]?).getD .un=s:=vFa e;refine⟨i - own.length,x,j,by omega,q,?_,?_⟩
    ·cases z:ρ[j]? with
     | none=>rw[z]at e;exact vDa e.symm hs
     | some s'=>rw[z]at e;rw[<-e];rfl
    ·show(own.map (fun _=>(none:Option V))++caps.map fun(p:Str×Nat)=>(σ[p.2]?).join)[i]?=_;rw[List.getElem?_append_right (by rw[List.length_map];omega),List.length_map,List.getElem?_map,q];rfl
 have jn:∀{o:Option (Option V)} {v:V},o.join=some v->o=some (some v):=fun {o v} z=>by
  cases o with
  | none=>cases z
  | some w=>cases w with
   | none=>cases z
   | some u=>cases z;rfl
 have mj:∀{m m' j:Nat} {x x':Str},caps[m]?=some (x,j)->caps[m']?=some (x',j)->m=m':=fun {m m' j x x'} c1 c2=>by
  have h1:(caps.map (·.2))[m]?=some j:=by rw[List.getElem?_map,c1];rfl
  have h2:(caps.map (·.2))[m']?=some j:=by rw[List.getElem?_map,c2];rfl
  have l1:=(List.getElem?_eq_some_iff.mp h1).1;exact(List.getElem?_inj l1 hnd).mp (h1.trans h2.symm)
 refine⟨?_,R.sub,R.fr,R.al0,R.al,R.keep,?_,?_,?_,?_,?_⟩
 ·show(own.map (fun _=>(none:Option V))++caps.map fun(p:Str×Nat)=>(σ[p.2]?).join).length=_;unfold YU;simp
 ·intro i d e;obtain⟨m,x,j,_,_,e2,e3⟩:=key i _ (by intro z;cases z) e;obtain⟨v,h1,h2⟩:=R.cl j d e2;exact⟨v,by rw[e3,h1];rfl,h2⟩
 ·intro i d e;obtain⟨m,x,j,_,_,e2,e3⟩:=key i _ (by intro z;cases z) e;obtain⟨v,h1,h2⟩:=R.bo j d e2;exact⟨v,by rw[e3,h1];rfl,h2⟩
 ·intro i q o e;obtain⟨m,x,j,_,_,e2,e3⟩:=key i _ (by intro z;cases z) e;obtain⟨l,z,h1,h2⟩:=R.ow j q o e2;exact⟨l,z,by rw[e3,h1];rfl,h2⟩
 ·intro i i' q q' ds es l e e' f f';obtain⟨m,x,j,rfl,c1,e2,e3⟩:=key i _ (by intro z;cases z) e;obtain⟨m',x',j',rfl,c2,e2',e3'⟩:=key i' _ (by intro z;cases z) e';rw[e3]at f;rw[e3']at f';have ej:=R.dist j j' q q' ds es l e2 e2' (jn (vFa f)) (jn (vFa f'));subst ej;rw[mj c1 c2]
 ·intro i ls e;obtain⟨m,x,j,rfl,c1,e2,e3⟩:=key i _ (by intro z;cases z) e;obtain⟨l,ps,h1,h2,nd,f,u⟩:=R.lo j ls e2;refine⟨l,ps,by rw[e3,h1];rfl,h2,nd,fun a ha=>⟨(f a ha).1,(f a ha).2.1,fun⟨k,q,o,y,z⟩=>(f a ha).2.2 ?_⟩,fun k ms y=>?_⟩
  ·obtain⟨_,_,j',_,_,y2,y3⟩:=key k _ (by intro z;cases z) y;rw[y3]at z;exact⟨j',q,o,y2,jn (vFa z)⟩
  ·obtain⟨m',x',j',rfl,c2,y2,_⟩:=key k _ (by intro z;cases z) y;have:=u j' ms y2;subst this;rw[mj c1 c2]
end
section
variable {X:Cx} {K:Fr} {e a b c d tg:Expr} {de da db dc dd:DE} {pos:Pos}
theorem KY{own:List Str}{caps:List (Str×Nat)}{di:DI}{g:DG}{dc:DT}{de:DE}(hnd:(caps.map (·.2)).Nodup):∀σ H Q,tF K (yY own.length (caps.map (·.2)) di g dc de) σ H Q->WS own caps (Ze K di) (tG K own.length g) (tT K dc) (tE K de) σ H Q:=fun σ H Q xx=>by
 obtain⟨H0,O0,ρ,O,o,R,ed,q⟩:=xx;obtain⟨items,e1,ed⟩:=j1 ed;obtain⟨ys,e2,ed⟩:=j1 ed;split at ed
 ·rename_i hz;cases ed;refine⟨H0,O0,ρ,O,items,R,e1,fun J H1 s1 hJ=>?_⟩;have R1:=R.grow s1;have Rc:=KW own caps R1 hnd;refine⟨fun i m vs H'=>∃ys1 ys2,JD g dc de (items.drop i) (YU own.length (caps.map (·.2)) ρ)=some ys2/\ys1++ys2=ys/\j4 H1 H'/\j3 K (j6 H' O) ys1 vs/\m=items.length - i/\i<=items.length/\ys1.length<=i,⟨items.length,[],ys,by simpa using e2,rfl,j4.refl _,j3.nil,rfl,Nat.zero_le _,wPa _⟩,?_⟩;rintro i m vs H' ⟨ys1,ys2,d1,d2,sH,rp,rfl,hi,hy⟩;have R2:=R1.grow sH;obtain⟨hgo,hstop⟩:=hJ i H' O R2.keep R2.in0 (jc sH) R2.al;by_cases hlt:i < items.length
  ·right;have hx:items[i]?=some items[i]:=by simp[hlt]
   have hd:items.drop i=items[i]::items.drop (i+1):=(List.getElem_cons_drop hlt).symm;rw[hd]at d1;obtain⟨g1,g2⟩:=hgo _ hx;refine⟨g1,by rw[rp.len];omega,fun vs' H4=>∃ys1 ys2,JD g dc de (items.drop (i+1)) (YU own.length (caps.map (·.2)) ρ)=some ys2/\ys1++ys2=ys/\j4 H1 H4/\j3 K (j6 H4 O) ys1 vs'/\ys1.length<=i+1,?_,fun x H'' y=>?_⟩
   ·rintro vs' H4 ⟨z1,z2,a1,a2,a3,a4,a5⟩;exact⟨items.length - (i+1),by omega,z1,z2,a1,a2,a3,a4,rfl,hlt,a5⟩
   ·obtain⟨sy,rx⟩:=g2 x H'' y;obtain⟨ρ1,f1,f2⟩:=j1 d1;obtain⟨k,f3,f4⟩:=j1 f2;refine⟨H0,O0,_,O,_,ρ1,Rc.grow (sH.trans sy),rx,f1,fun σ2 R3 kd=>⟨kd,H0,O0,ρ1,O,k,R3,f3,fun H3 s3=>?_⟩⟩;cases k with
    | true=>
     rw[if_pos rfl]at f4;obtain⟨y1,f5,f6⟩:=j1 f4;obtain⟨yr,f7,f8⟩:=j1 f6;cases f8;refine zZ ⟨H0,O0,ρ1,O,y1,R3.grow s3,f5,fun v H4 s4 rv=>?_⟩;exact⟨ys1++[y1],yr,f7,by rw[<-d2];simp,sH.trans (sy.trans (s3.trans s4)),(rp.same (jc (sy.trans (s3.trans s4)))).snoc rv,by simp;exact hy⟩
    | false=>
     rw[if_neg Bool.false_ne_true]at f4;exact zY ⟨ys1,ys2,f4,d2,sH.trans (sy.trans s3),rp.same (jc (sy.trans s3)),by omega⟩
  ·left;have ei:i=items.length:=by omega
   refine⟨hstop ei,by rw[rp.len];omega,fun Dd hD=>?_⟩;have e0:items.drop i=[]:=List.drop_of_length_le (by omega);rw[e0]at d1;have e3:ys2=[]:=by
    have d1:some []=some ys2:=d1;exact(vFa d1).symm
   rw[e3,List.append_nil]at d2;subst d2;exact q Dd _ ((s1.trans sH).trans (jw hD _)) ((s1.trans sH).none hD) (yd hD rp)
 ·cases ed
theorem HS{iter elt:Expr}{ifs:List Expr}{scope:Scope}{di:DI}{g:DG}{dc:DT}{de:DE}(own:List Str)(caps:List (Str×Nat))(S:CScope X scope)(hcap:Caps X scope caps)(hc:X.calm=true)(hi:PI X tg iter (Ze K di))
  (hg:∀s3 H3 ex',PG (X.comp (cN own caps) scope s3 H3 ex') tg (tG K own.length g)) (ht:∀s3 H3 ex',z_ (X.comp (cN own caps) scope s3 H3 ex') ifs (tT K dc)) (he:∀s3 H3 ex',PE (X.comp (cN own caps) scope s3 H3 ex') elt (tE K de))
  (hnd:(caps.map (·.2)).Nodup:=by decide) (hs:∀x,foldedSetIterable iter X.env x=pure x:=by intro _;rfl):PE X (.ListComp elt [⟨tg,iter,ifs,0⟩] scope pos) (tF K (yY own.length (caps.map (·.2)) di g dc de)):=jy (ED own caps S hcap hc hi hg ht he hs) (KY hnd)
def ky(K:Fr)(ks:List Bool)(F:List D->Option D):Sp:=fun vs H Q _=>∃O ds d,(∀a∈O,H a≠none)/\yo K O H ks ds vs/\F ds=some d/\∀v H',j4 H H'->j7 K (j6 H' O) d v->Q v H'
def WV(K:Fr)(ks:List Bool)(F:List D->Option OD):Sp:=fun vs H Q _=>∃O ds o,(∀a∈O,H a≠none)/\yo K O H ks ds vs/\F ds=some o/\∀l H',j4 H H'->H l=none->JJ K H' (j6 H' (l::O)) l o->Q (.ref l) H'
variable {k:Nat} {x m:Str} {ps:List Str} {p apos:Pos} {es:List Expr} {l:DA} {ks:List Bool}
theorem Cw{F:List D->Option D}(G:FnI X.prog X.w X.K X.mg X.base k x ps (ky K ks F))(hr:Room k X.A)(ha:PA X (e::es) (zi K l))(hk:l.map (·.1)=ks:=by rfl)(hg:Gl X x:=by rfl)(hdb:(x==("__debug__" : Str))=false:=by decide)
  (he:starEach (e::es) X.env=(false,eval e X.env)::starEach es X.env:=by rfl) (hpl:(backTo pos (starEach es X.env)).any (·.1)=false:=by rfl):PE X (.Call (.Name x p) (e::es) [] pos) (tE K (ja F l)):=jy (Kg G hr ha hg hdb he hpl) fun σ H Q xx=>by
 obtain⟨H0,O0,ρ,O,d,R,ed,q⟩:=xx;subst hk;obtain⟨ds,e1,e2⟩:=j1 ed;refine⟨H0,O0,ρ,O,ds,R,e1,fun vs H1 s1 r1=>?_⟩
 (try dsimp only)
 rw[List.append_nil];exact⟨O,ds,d,(R.grow s1).al,r1,e2,fun v H' s r=>q v H' (s1.trans s) r⟩
theorem Cy{F:List D->Option OD}(G:FnI X.prog X.w X.K X.mg X.base k x ps (WV K ks F))(hr:Room k X.A)(ha:PA X (e::es) (zi K l))(hk:l.map (·.1)=ks:=by rfl)(hg:Gl X x:=by rfl)(hdb:(x==("__debug__" : Str))=false:=by decide)
  (he:starEach (e::es) X.env=(false,eval e X.env)::starEach es X.env:=by rfl) (hpl:(backTo pos (starEach es X.env)).any (·.1)=false:=by rfl):PE X (.Call (.Name x p) (e::es) [] pos) (tF K (JA F l)):=jy (Kg G hr ha hg hdb he hpl) fun σ H Q xx=>by
 obtain⟨H0,O0,ρ,O,d,R,ed,q⟩:=xx;subst hk;obtain⟨ds,e1,e2⟩:=j1 ed;refine⟨H0,O0,ρ,O,ds,R,e1,fun vs H1 s1 r1=>?_⟩
 (try dsimp only)
 rw[List.append_nil];exact⟨O,ds,d,(R.grow s1).al,r1,e2,fun l H' s hn r=>q l H' (s1.trans s) (s1.none hn) r⟩
noncomputable def v4(C:Addr)(m:Str)(F:List D->Option D):D->Option D:=fun d=>match d with
 | .ins C' ns ds=>if C'=C/\m∉ns then F [d]else none
 | _=>none
noncomputable def KZ(C:Addr)(m:Str)(F:List D->Option OD):D->Option OD:=fun d=>match d with
 | .ins C' ns ds=>if C'=C/\m∉ns then F [d]else none
 | _=>none
theorem vo{α:Type}{m:Str}:∀{ns:List Str} {xs:List α},m∉ns->(ns.zip xs).lookup m=none
 | [],_,_=>rfl
 | _::_,[],_=>rfl
 | n::ns,x::xs,h=>by
  rw[List.zip_cons_cons,List.lookup_cons];have e:(m==n)=false:=by
   rw[beq_eq_false_iff_ne];exact fun z=>h (by rw[z];exact wNa)
  rw[e];exact vo fun z=>h (wMa _ z)
theorem bT{F:List D->Option D}{C:Addr}{pl:Sem Bool}(he:PE X a (tR K da))(c:Cls K C)(M:MtI X.prog X.w X.K X.mg X.base k C m ps (ky K [false] F))(hr:Room k X.A)
  (ht:eval (.Call (.Attribute a m apos) [] [] pos) X.env=(do
   let ov<-eval a X.env
   standAt apos.atName
   let (f,first)<-holding [ov] (getMethod ov m pl)
   callWith pos f first (backTo pos (starEach [] X.env)) (backToKw pos (keywordEach [] X.env))):=by rfl) (hK:X.K=K:=by rfl):
  PE X (.Call (.Attribute a m apos) [] [] pos) (tE K (d1 (v4 C m F) da)):=by
 subst hK;refine jy (QU he c M hr ht) fun σ H Q xx=>?_;obtain⟨H0,O0,ρ,O,d,R,ed,q⟩:=xx;obtain⟨x,e1,e2⟩:=j1 ed;refine⟨H0,O0,ρ,O,x,R,e1,fun v H1 s1 r=>?_⟩;unfold v4 at e2;split at e2
 ·split at e2
  ·rename_i hh;obtain⟨rfl,hm⟩:=hh;have r0:=r;obtain⟨pa,dx,xs,rfl,h1,hn,h2⟩:=r.ins;exact⟨pa,dx,_,rfl,h1,vo hm,O,[_],d,(R.grow s1).al,⟨r0,trivial⟩,e2,fun v H' s r=>q v H' (s1.trans s) r⟩
  ·cases e2
 ·cases e2
noncomputable def Cz(f:D->Option OD)(da:DE):DO:=fun ρ=>(da ρ).bind f
@[simp] theorem II(f:D->Option OD)(da:DE){ρ:j9}:Cz f da ρ=(da ρ).bind f:=rfl
theorem bU{F:List D->Option OD}{C:Addr}{pl:Sem Bool}(he:PE X a (tR K da))(c:Cls K C)(M:MtI X.prog X.w X.K X.mg X.base k C m ps (WV K [false] F))(hr:Room k X.A)
  (ht:eval (.Call (.Attribute a m apos) [] [] pos) X.env=(do
   let ov<-eval a X.env
   standAt apos.atName
   let (f,first)<-holding [ov] (getMethod ov m pl)
   callWith pos f first (backTo pos (starEach [] X.env)) (backToKw pos (keywordEach [] X.env))):=by rfl) (hK:X.K=K:=by rfl):
  PE X (.Call (.Attribute a m apos) [] [] pos) (tF K (Cz (KZ C m F) da)):=by
 subst hK;refine jy (QU he c M hr ht) fun σ H Q xx=>?_;obtain⟨H0,O0,ρ,O,d,R,ed,q⟩:=xx;obtain⟨x,e1,e2⟩:=j1 ed;refine⟨H0,O0,ρ,O,x,R,e1,fun v H1 s1 r=>?_⟩;unfold KZ at e2;split at e2
 ·split at e2
  ·rename_i hh;obtain⟨rfl,hm⟩:=hh;have r0:=r;obtain⟨pa,dx,xs,rfl,h1,hn,h2⟩:=r.ins;exact⟨pa,dx,_,rfl,h1,vo hm,O,[_],d,(R.grow s1).al,⟨r0,trivial⟩,e2,fun l H' s hn r=>q l H' (s1.trans s) (s1.none hn) r⟩
  ·cases e2
 ·cases e2
def Ax(K:Fr)(C:Addr)(ks:List Bool)(F:Addr->List D->Option OD):Sp:=fun vs H Q _=>∃O ds p dx vs' o,vs=.ref p::vs'/\(∀a∈O,H a≠none)/\H p=some (.ins C dx [])/\p∉O/\yo K O (j6 H [p]) ks ds vs'/\F p ds=some o/\∀H',j4 (j6 H [p]) H'->JJ K H' (j6 H' (p::O)) p o->Q .non H'
def Kj(F:List D->Option OD)(l:DA):DO:=fun ρ=>(yh l ρ).bind F
@[simp] theorem iG(F:List D->Option OD)(l:DA){ρ:j9}:Kj F l ρ=(yh l ρ).bind F:=rfl
theorem CA{F:Addr->List D->Option OD}{F1:List D->Option OD}{C:Addr}(M:MkI X.prog X.w X.K X.mg X.base k C x ps (Ax K C ks F))(hF:∀p ds o,F1 ds=some o->F p ds=some o)(hr:Room (k+1) X.A)(ha:PA X (e::es) (zi K l))(hk:l.map (·.1)=ks:=by rfl)(hg:Gl X x:=by rfl)(hdb:(x==("__debug__" : Str))=false:=by decide)
  (he:starEach (e::es) X.env=(false,eval e X.env)::starEach es X.env:=by rfl) (hpl:(backTo pos (starEach es X.env)).any (·.1)=false:=by rfl):PE X (.Call (.Name x p) (e::es) [] pos) (tF K (Kj F1 l)):=jy (EE M hr ha hg hdb he hpl) fun σ H Q xx=>by
 obtain⟨H0,O0,ρ,O,o,R,ed,q⟩:=xx;subst hk;obtain⟨ds,e1,e2⟩:=j1 ed;refine⟨H0,O0,ρ,O,ds,R,e1,fun vs H1 s1 r1=>fun y dy ny ndy hne=>?_⟩
 (try dsimp only)
 rw[List.append_nil];have R1:=R.grow s1;have sB:j4 H1 (j6 (upd (upd H1 dy (.own y)) y (.ins C dy [])) [y]):=fun c u z=>by
  rw[jA (by intro w;simp at w;exact jx z ny w),jo (jx z ny),jo (jx z ndy)];exact z
 refine⟨O,ds,y,dy,vs,o,rfl,fun c hc z=>?_,jH,R1.new ny,r1.same sB,hF y ds o e2,fun H' s ow=>⟨rfl,q y H' (s1.trans (sB.trans s)) (s1.none ny) ow⟩⟩;refine R1.al c hc ?_;by_cases h1:c=y
 ·rw[h1];exact ny
 ·rw[jo h1]at z;by_cases h2:c=dy
  ·rw[h2];exact ndy
  ·rw[jo h2]at z;exact z
inductive Rs where
 | nx (ρ:j9) | rt (d:D) | rf (o:OD) | bk (ρ:j9) | ct (ρ:j9)
abbrev DS:=j9->Option Rs
def Fin(K:Fr)(H0:Hp)(O0:List Addr)(H:Hp)(O:List Addr)(E:Ends):Rs->Prop
 | .nx ρ=>∀σ' H' O',Rel K H0 O0 ρ σ' H' O'->j4 (j6 H O) (j6 H' O')->E.nx σ' H'
 | .bk ρ=>∀σ' H' O',Rel K H0 O0 ρ σ' H' O'->j4 (j6 H O) (j6 H' O')->E.bk σ' H'
 | .ct ρ=>∀σ' H' O',Rel K H0 O0 ρ σ' H' O'->j4 (j6 H O) (j6 H' O')->E.ct σ' H'
 | .rt d=>∀v H',j4 H0 H'->j7 K (j6 H' O0) d v->E.rt v H'
 | .rf o=>∀l H',j4 H0 H'->H0 l=none->JJ K H' (j6 H' (l::O0)) l o->E.rt (.ref l) H'
theorem Fin.mono{H0 H H1:Hp}{O0 O O1:List Addr}{E:Ends}{r:Rs}(s:j4 (j6 H O) (j6 H1 O1))(h:Fin K H0 O0 H O E r):Fin K H0 O0 H1 O1 E r:=by
 cases r with
 | nx ρ=>exact fun σ' H' O' R t=>h σ' H' O' R (s.trans t)
 | bk ρ=>exact fun σ' H' O' R t=>h σ' H' O' R (s.trans t)
 | ct ρ=>exact fun σ' H' O' R t=>h σ' H' O' R (s.trans t)
 | rt d=>exact h
 | rf o=>exact h
def tS(K:Fr)(ds:DS):TS:=fun E σ H=>∃H0 O0 ρ O r,Rel K H0 O0 ρ σ H O/\ds ρ=some r/\Fin K H0 O0 H O E r
variable {st:Stmt} {rest:List Stmt} {s1 s2:DS}
theorem jZ{t t':TS}(h:PS X st t)(f:∀D σ H,t' D σ H->t D σ H):PS X st t':=fun pins s σ H D I q=>h pins s σ H D I (f D σ H q)
theorem V0{t t':TS}(h:Jc X rest t)(f:∀D σ H,t' D σ H->t D σ H):Jc X rest t':=fun pins s σ H D I q=>h pins s σ H D I (f D σ H q)
noncomputable def js:DS:=fun ρ=>some (.nx ρ)
@[simp] theorem IJ{ρ:j9}:js ρ=some (.nx ρ):=rfl
theorem CB:Jc X [] (tS K js):=V0 bm fun D σ H xx=>by
 obtain⟨H0,O0,ρ,O,r,R,ed,f⟩:=xx;cases ed;exact f σ H O R (j4.refl _)
noncomputable def j5(s1 s2:DS):DS:=fun ρ=>(s1 ρ).bind fun r=>match r with
 | .nx ρ1=>s2 ρ1
 | r=>some r
@[simp] theorem K_(s1 s2:DS){ρ:j9}:j5 s1 s2 ρ=(s1 ρ).bind fun r=>match r with
 | .nx ρ1=>s2 ρ1
 | r=>some r:=rfl
theorem bV(h1:PS X st (tS K s1))(h2:Jc X rest (tS K s2)):Jc X (st::rest) (tS K (j5 s1 s2)):=V0 (Kw h1 h2) fun D σ H xx=>by
 obtain⟨H0,O0,ρ,O,r,R,ed,f⟩:=xx;obtain⟨r1,e1,e2⟩:=j1 ed;refine⟨H0,O0,ρ,O,r1,R,e1,?_⟩;cases r1 with
 | nx ρ1=>exact fun σ' H' O' R' t=>⟨H0,O0,ρ1,O',r,R',e2,f.mono t⟩
 | bk ρ1=>cases e2;exact f
 | ct ρ1=>cases e2;exact f
 | rt d=>cases e2;exact f
 | rf o=>cases e2;exact f
theorem CD(h1:PS X st (tS K s1)):Jc X [st] (tS K s1):=WL h1
noncomputable def v5:DS:=fun _=>none
@[simp] theorem iH{r:j9}:v5 r=none:=rfl
theorem XY:Jc X rest (tS K v5):=V0 Qx fun D σ H ⟨H0,O0,ρ,O,r,R,ed,f⟩=>by cases ed
theorem CF:PS X (.Pass pos) (tS K js):=jZ bn fun D σ H xx=>by
 obtain⟨H0,O0,ρ,O,r,R,ed,f⟩:=xx;cases ed;exact f σ H O R (j4.refl _)
noncomputable def CG:DS:=fun ρ=>some (.bk ρ)
@[simp] theorem IK{ρ:j9}:CG ρ=some (.bk ρ):=rfl
noncomputable def CH:DS:=fun ρ=>some (.ct ρ)
@[simp] theorem IL{ρ:j9}:CH ρ=some (.ct ρ):=rfl
theorem bW:PS X (.Break pos) (tS K CG):=jZ Xl fun D σ H xx=>by
 obtain⟨H0,O0,ρ,O,r,R,ed,f⟩:=xx;cases ed;exact f σ H O R (j4.refl _)
theorem CI:PS X (.Continue pos) (tS K CH):=jZ Wt fun D σ H xx=>by
 obtain⟨H0,O0,ρ,O,r,R,ed,f⟩:=xx;cases ed;exact f σ H O R (j4.refl _)
def V1(i:Nat)(s:DS):DS:=fun ρ=>match ρ[i]? with
 | some (.ow _ o)=>s (ρ.set i (.cl o.toD))
 | _=>none
@[simp] theorem HU(i:Nat)(s:DS){ρ:j9}:V1 i s ρ=match ρ[i]? with
 | some (.ow _ o)=>s (ρ.set i (.cl o.toD))
 | _=>none:=rfl
theorem XZ(i:Nat)(h:Jc X rest (tS K s1)):Jc X rest (tS K (V1 i s1)):=V0 h fun D σ H xx=>by
 obtain⟨H0,O0,ρ,O,r,R,ed,f⟩:=xx;unfold V1 at ed;split at ed
 ·obtain⟨O',R',ss⟩:=R.share (by assumption);exact⟨H0,O0,_,O',r,R',ed,f.mono ss⟩
 ·cases ed
noncomputable def ji(dt:DT)(s1 s2:DS):DS:=fun ρ=>(dt ρ).bind fun k=>if k=true then s1 ρ else s2 ρ
@[simp] theorem Ii(dt:DT)(s1 s2:DS){ρ:j9}:ji dt s1 s2 ρ=(dt ρ).bind fun k=>if k=true then s1 ρ else s2 ρ:=rfl
theorem CJ{dt:DT}{sa sb:List Stmt}(hc:PT X c (tT K dt))(ha:Jc X sa (tS K s1))(hb:Jc X sb (tS K s2)):PS X (.If c sa sb pos) (tS K (ji dt s1 s2)):=jZ (Ep hc ha hb) fun D σ H xx=>by
 obtain⟨H0,O0,ρ,O,r,R,ed,f⟩:=xx;obtain⟨k,e1,e2⟩:=j1 ed;refine⟨H0,O0,ρ,O,k,R,e1,fun H' s=>?_⟩;cases k with
 | true=>rw[if_pos rfl]at e2;exact zZ ⟨H0,O0,ρ,O,r,R.grow s,e2,f.mono (jc s)⟩
 | false=>rw[if_neg Bool.false_ne_true]at e2;exact zY ⟨H0,O0,ρ,O,r,R.grow s,e2,f.mono (jc s)⟩
noncomputable def jl(i:Nat)(de:DE):DS:=fun ρ=>(de ρ).bind fun d=>some (.nx (ρ.set i (.cl d)))
@[simp] theorem Ij(i:Nat)(de:DE){ρ:j9}:jl i de ρ=(de ρ).bind fun d=>some (.nx (ρ.set i (.cl d))):=rfl
theorem CK{i:Nat}:∀D σ H,tS K (jl i de) D σ H->Y3 (tE K de) (YR i) D σ H:=fun D σ H xx=>by
 obtain⟨H0,O0,ρ,O,r,R,ed,f⟩:=xx;obtain⟨d,e1,e2⟩:=j1 ed;cases e2;exact⟨H0,O0,ρ,O,d,R,e1,fun v H' s q=>f _ H' O ((R.grow s).set q i) (jc s)⟩
theorem Kk{i:Nat}(h:PS X st (Y3 (tE K de) (YR i))):PS X st (tS K (jl i de)):=jZ h CK
noncomputable def yV(i:Nat)(df:DO):DS:=fun ρ=>(df ρ).bind fun o=>some (.nx (ρ.set i (.ow none o)))
@[simp] theorem Ik(i:Nat)(df:DO){ρ:j9}:yV i df ρ=(df ρ).bind fun o=>some (.nx (ρ.set i (.ow none o))):=rfl
theorem CL{i:Nat}{df:DO}:∀D σ H,tS K (yV i df) D σ H->Y3 (tF K df) (YR i) D σ H:=fun D σ H xx=>by
 obtain⟨H0,O0,ρ,O,r,R,ed,f⟩:=xx;obtain⟨d,e1,e2⟩:=j1 ed;cases e2;exact⟨H0,O0,ρ,O,d,R,e1,fun l H' s hn q=>f _ H' (l::O) (R.own s hn q i) (YO s hn)⟩
theorem Ay{i:Nat}{df:DO}(h:PS X st (Y3 (tF K df) (YR i))):PS X st (tS K (yV i df)):=jZ h CL
theorem UI{te te':TE}{g:TG}(h:PS X st (Y3 te g))(f:∀σ H Q,te' σ H Q->te σ H Q):PS X st (Y3 te' g):=jZ h fun D σ H q=>f σ H _ q
theorem X_{df:DO}:∀σ H Q,tE K (dL df) σ H Q->tF K df σ H Q:=fun σ H Q xx=>by
 obtain⟨H0,O0,ρ,O,d,R,ed,q⟩:=xx;obtain⟨ds,e1,e2⟩:=j1 ed;cases e2;exact⟨H0,O0,ρ,O,ds,R,e1,fun l H' s hn r=>q _ _ s ((r.same (fun _ z=>z) (Jx fun a h=>wMa _ h)).rep fun u z=>by rw[jA (R.new hn)];exact z)⟩
noncomputable def ZB(de:DE)(g:DG):DS:=fun ρ=>(de ρ).bind fun d=>(g d ρ).bind fun ρ'=>some (.nx ρ')
@[simp] theorem Q_(de:DE)(g:DG){ρ:j9}:ZB de g ρ=(de ρ).bind fun d=>(g d ρ).bind fun ρ'=>some (.nx ρ'):=rfl
theorem fP{g:DG}{kk:Nat}(h:PS X st (Y3 (tE K de) (tG K kk g))):PS X st (tS K (ZB de g)):=jZ h fun D σ H xx=>by
 obtain⟨H0,O0,ρ,O,r,R,ed,f⟩:=xx;obtain⟨d,e1,ed⟩:=j1 ed;obtain⟨ρ',e2,ed⟩:=j1 ed;cases ed;exact⟨H0,O0,ρ,O,d,R,e1,fun v H' s q=>⟨H0,O0,ρ,O,d,ρ',R.grow s,q,e2,fun σ' R' _=>f σ' H' O R' (jc s)⟩⟩
noncomputable def Q6(i:Nat)(h:Int->Int->Int)(de:DE):DS:=fun ρ=>(dC i ρ).bind fun x=>(de ρ).bind fun y=>match x,y with
 | .int p,.int q=>some (.nx (ρ.set i (.cl (.int (h p q)))))
 | _,_=>none
@[simp] theorem Il(i:Nat)(h:Int->Int->Int)(de:DE){ρ:j9}:Q6 i h de ρ=(dC i ρ).bind fun x=>(de ρ).bind fun y=>match x,y with
 | .int p,.int q=>some (.nx (ρ.set i (.cl (.int (h p q)))))
 | _,_=>none:=rfl
theorem Az{i:Nat}{g:Int->Int->Int}(h:PS X st (ca i (tR K de) (cb g))):PS X st (tS K (Q6 i g de)):=jZ h fun D σ H xx=>by
 obtain⟨H0,O0,ρ,O,r,R,ed,f⟩:=xx;obtain⟨x,e1,ed⟩:=j1 ed;obtain⟨y,e2,ed⟩:=j1 ed;split at ed
 ·cases ed;unfold dC at e1;split at e1
  ·cases e1;obtain⟨v,h1,h2⟩:=R.cl i _ (by assumption);rw[j7]at h2;subst h2;exact⟨_,h1,H0,O0,ρ,O,_,R,e2,fun v H' s q=>⟨_,_,rfl,q.int,f _ H' O ((R.grow s).set (by rw[j7]) i) (jc s)⟩⟩
  ·cases e1
 ·cases ed
noncomputable def gE(de:DE):DS:=fun ρ=>(de ρ).bind fun _=>some (.nx ρ)
@[simp] theorem iI(de:DE){ρ:j9}:gE de ρ=(de ρ).bind fun _=>some (.nx ρ):=rfl
theorem xa(h:PS X st (Vf (tR K de))):PS X st (tS K (gE de)):=jZ h fun D σ H xx=>by
 obtain⟨H0,O0,ρ,O,r,R,ed,f⟩:=xx;obtain⟨d,e1,e2⟩:=j1 ed;cases e2;exact⟨H0,O0,ρ,O,d,R,e1,fun v H' s q=>f _ H' O (R.grow s) (jc s)⟩
noncomputable def yj(i:Nat)(de:DE):DS:=fun ρ=>match ρ[i]? with
 | some (.ow q (.lst ds))=>(de ρ).bind fun d=>if ds.length < sizeLine then some (.nx (ρ.set i (.ow q (.lst (ds++[d])))))else none
 | _=>none
@[simp] theorem iJ(i:Nat)(de:DE){ρ:j9}:yj i de ρ=match ρ[i]? with
 | some (.ow q (.lst ds))=>(de ρ).bind fun d=>if ds.length < sizeLine then some (.nx (ρ.set i (.ow q (.lst (ds++[d])))))else none
 | _=>none:=rfl
theorem a8{i:Nat}(h:PS X st (Vf (kl K "list" uZ (ye i) (yb (tE K de) zW)))):PS X st (tS K (yj i de)):=jZ h fun D σ H xx=>by
 obtain⟨H0,O0,ρ,O,r,R,ed,f⟩:=xx;unfold yj at ed;split at ed
 ·rename_i q ds hi;obtain⟨d,e1,e2⟩:=j1 ed;split at e2
  ·rename_i hz;cases e2;obtain⟨l,hq,hs,⟨vs,hl,rp⟩,lo,h0⟩:=R.ow i _ _ hi;refine⟨_,hs,.inl ⟨rfl,_,jC.of hl⟩,H0,O0,ρ,O,d,R,e1,fun v H' s rv=>?_⟩;have R':=R.grow s;have rp':=rp.same (jc s);refine⟨l,vs,v,rfl,rfl,s _ _ hl,by rw[rp.len];exact hz,f _ _ O (R'.change hi hq hs lo h0 ⟨_,jH,rp'.snoc rv⟩) ?_⟩;rw[Jb lo];exact jc s
  ·cases e2
 ·cases ed
def u_(i:Nat)(dx de:DE):DS:=fun ρ=>match ρ[i]? with
 | some (.ow q (.lst ds))=>(de ρ).bind fun d=>(dx ρ).bind fun j=>match j with
  | .int j=>(yt ds.length j).bind fun n=>some (.nx (ρ.set i (.ow q (.lst (ds.set n d)))))
  | _=>none
 | _=>none
@[simp] theorem iK(i:Nat)(dx de:DE){ρ:j9}:u_ i dx de ρ=match ρ[i]? with
 | some (.ow q (.lst ds))=>(de ρ).bind fun d=>(dx ρ).bind fun j=>match j with
  | .int j=>(yt ds.length j).bind fun n=>some (.nx (ρ.set i (.ow q (.lst (ds.set n d)))))
  | _=>none
 | _=>none:=rfl
theorem CM{i:Nat}{dx:DE}(h:PS X st (Y3 (tE K de) (Kx (ye i) (tR K dx) Kf))):PS X st (tS K (u_ i dx de)):=jZ h fun D σ H xx=>by
 obtain⟨H0,O0,ρ,O,r,R,ed,f⟩:=xx;unfold u_ at ed;split at ed
 ·rename_i q ds hi;obtain⟨d,e1,ed⟩:=j1 ed;obtain⟨j,e2,ed⟩:=j1 ed;split at ed
  ·obtain⟨n,e3,ed⟩:=j1 ed;cases ed;obtain⟨l,hq,hs,⟨vs,hl,rp⟩,lo,h0⟩:=R.ow i _ _ hi;refine⟨H0,O0,ρ,O,d,R,e1,fun v H1 s1 rv=>⟨_,hs,H0,O0,ρ,O,_,R.grow s1,e2,fun w H2 s2 rw'=>?_⟩⟩;have s12:=s1.trans s2;have R':=R.grow s12;have rp':=rp.same (jc s12);refine⟨l,vs,_,n,rfl,rw'.int,s12 _ _ hl,by rw[rp.len];exact e3,f _ _ O (R'.change hi hq hs lo h0 ⟨_,jH,rp'.set (rv.same (jc s2)) n⟩) ?_⟩;rw[Jb lo];exact jc s12
  ·cases ed
 ·cases ed
noncomputable def jg(de:DE):DS:=fun ρ=>(de ρ).bind fun d=>some (.rt d)
@[simp] theorem CN(de:DE){ρ:j9}:jg de ρ=(de ρ).bind fun d=>some (.rt d):=rfl
theorem AA(h:PE X e (tE K de)):PS X (.Return (some e) pos) (tS K (jg de)):=jZ (gk h) fun D σ H xx=>by
 obtain⟨H0,O0,ρ,O,r,R,ed,f⟩:=xx;obtain⟨d,e1,e2⟩:=j1 ed;cases e2;exact⟨H0,O0,ρ,O,d,R,e1,fun v H' s q=>f v H' (R.keep.trans s) (q.same (Jx R.sub))⟩
noncomputable def gF(df:DO):DS:=fun ρ=>(df ρ).bind fun o=>some (.rf o)
@[simp] theorem iL(df:DO){ρ:j9}:gF df ρ=(df ρ).bind fun o=>some (.rf o):=rfl
theorem CO{df:DO}(h:PE X e (tF K df)):PS X (.Return (some e) pos) (tS K (gF df)):=jZ (gk h) fun D σ H xx=>by
 obtain⟨H0,O0,ρ,O,r,R,ed,f⟩:=xx;obtain⟨d,e1,e2⟩:=j1 ed;cases e2;refine⟨H0,O0,ρ,O,d,R,e1,fun l H' s hn q=>f l H' (R.keep.trans s) (R.keep.none hn) (q.same (fun _ z=>z) (Jx fun a h=>?_))⟩;rcases List.mem_cons.mp h with rfl | h
 ·exact wNa
 ·exact wMa _ (R.sub a h)
noncomputable def v6(i:Nat):DS:=fun ρ=>match ρ[i]? with
 | some (.ow _ o)=>some (.rf o)
 | _=>none
@[simp] theorem iM(i:Nat){ρ:j9}:v6 i ρ=match ρ[i]? with
 | some (.ow _ o)=>some (.rf o)
 | _=>none:=rfl
theorem CQ{i:Nat}{x:Str}{pos':Pos}(h:PE X (.Name x pos') (ye i)):PS X (.Return (some (.Name x pos')) pos) (tS K (v6 i)):=jZ (gk h) fun D σ H xx=>by
 obtain⟨H0,O0,ρ,O,r,R,ed,f⟩:=xx;unfold v6 at ed;split at ed
 ·cases ed;obtain⟨l,_,hs,ow,lo,h0⟩:=R.ow i _ _ (by assumption);refine⟨_,hs,f l H R.keep h0 (ow.same (fun _ z=>z) (Jx fun a h=>?_))⟩;rcases List.mem_cons.mp h with rfl | h
  ·exact lo
  ·exact R.sub a h
 ·cases ed
theorem CS:PS X (.Return none pos) (tS K (jg (dK .non))):=jZ bq fun D σ H xx=>by
 obtain⟨H0,O0,ρ,O,r,R,ed,f⟩:=xx;cases ed;exact f .non H R.keep (by rw[j7])
noncomputable def jS(g:DG)(s:DS):List D->DS
 | [],ρ=>some (.nx ρ)
 | d::ds,ρ=>(g d ρ).bind fun ρ1=>(s ρ1).bind fun r=>match r with
  | .nx ρ2=>jS g s ds ρ2
  | .ct ρ2=>jS g s ds ρ2
  | .bk ρ2=>some (.nx ρ2)
  | .rt d=>some (.rt d)
  | .rf o=>some (.rf o)
def Jv(di:DI)(g:DG)(s:DS):DS:=fun ρ=>(di ρ).bind fun items=>jS g s items ρ
@[simp] theorem Im(di:DI)(g:DG)(s:DS){ρ:j9}:Jv di g s ρ=(di ρ).bind fun items=>jS g s items ρ:=rfl
theorem fQ{iter:Expr}{body:List Stmt}{di:DI}{g:DG}{kk:Nat}(hp:PassesOwn (model X.prog X.w) X.A X.env X.xe)(hc:X.calm=true)(hi:PI X tg iter (Ze K di))(hg:PG X tg (tG K kk g))(hb:Jc X body (tS K s1))(hs:∀x,foldedSetIterable iter X.env x=pure x:=by intro _;rfl):PS X (.For tg iter body [] pos) (tS K (Jv di g s1)):=jZ (ck hp hc hi hg hb hs) fun D σ H xx=>by
 obtain⟨H0,O0,ρ,O,r,R,ed,f⟩:=xx;obtain⟨items,e1,ed⟩:=j1 ed;refine⟨H0,O0,ρ,O,items,R,e1,fun J H1 s1' hJ=>?_⟩;have R1:=R.grow s1';have f1:=f.mono (jc s1');refine⟨fun i m σ' H'=>∃ρ' O',Rel K H0 O0 ρ' σ' H' O'/\jS g s1 (items.drop i) ρ'=some r/\j4 (j6 H1 O) (j6 H' O')/\m=items.length - i/\i<=items.length,⟨items.length,ρ,O,R1,by simpa using ed,j4.refl _,rfl,Nat.zero_le _⟩,?_⟩;rintro i m σ' H' ⟨ρ',O',R',d1,sd,rfl,hi'⟩;obtain⟨hgo,hstop⟩:=hJ i H' O' R'.keep R'.in0 sd R'.al;by_cases hlt:i < items.length
 ·right;have hx:items[i]?=some items[i]:=by simp[hlt]
  have hd:items.drop i=items[i]::items.drop (i+1):=(List.getElem_cons_drop hlt).symm;rw[hd]at d1;obtain⟨g1,g2⟩:=hgo _ hx;refine⟨g1,fun σ2 H2=>∃ρ2 O2,Rel K H0 O0 ρ2 σ2 H2 O2/\jS g s1 (items.drop (i+1)) ρ2=some r/\j4 (j6 H1 O) (j6 H2 O2),?_,fun x H'' y=>?_⟩
  ·rintro σ2 H2 ⟨ρ2,O2,a1,a2,a3⟩;exact⟨items.length - (i+1),by omega,ρ2,O2,a1,a2,a3,rfl,hlt⟩
  ·obtain⟨sy,rx⟩:=g2 x H'' y;obtain⟨ρ1,f3,f4⟩:=j1 d1;obtain⟨r1,f5,f6⟩:=j1 f4;refine⟨H0,O0,ρ',O',_,ρ1,R'.grow sy,rx,f3,fun σ2 R3 _=>⟨H0,O0,ρ1,O',r1,R3,f5,?_⟩⟩;have t1:=sd.trans (jc sy);cases r1 with
   | nx ρ2=>exact fun σ3 H3 O3 R4 t=>⟨ρ2,O3,R4,f6,t1.trans t⟩
   | ct ρ2=>exact fun σ3 H3 O3 R4 t=>⟨ρ2,O3,R4,f6,t1.trans t⟩
   | bk ρ2=>cases f6;exact fun σ3 H3 O3 R4 t=>f1 σ3 H3 O3 R4 (t1.trans t)
   | rt d=>cases f6;exact f1
   | rf o=>cases f6;exact f1
 ·left;have ei:i=items.length:=by omega
  refine⟨hstop ei,?_⟩;have e0:items.drop i=[]:=List.drop_of_length_le (by omega);rw[e0]at d1;have d1:some (Rs.nx ρ')=some r:=d1;cases d1;exact f1 σ' H' O' R' sd
noncomputable def uq(dt:DT)(s:DS):Nat->DS
 | 0,_=>none
 | n+1,ρ=>(dt ρ).bind fun k=>if k=true then(s ρ).bind fun r=>match r with
  | .nx ρ2=>uq dt s n ρ2
  | .ct ρ2=>uq dt s n ρ2
  | .bk ρ2=>some (.nx ρ2)
  | .rt d=>some (.rt d)
  | .rf o=>some (.rf o)else some (.nx ρ)
theorem bX{dt:DT}{body:List Stmt}(n:Nat)(hp:PassesOwn (model X.prog X.w) X.A X.env X.xe)(hc:PT X c (tT K dt))(hb:Jc X body (tS K s1)):PS X (.While c body [] pos) (tS K (uq dt s1 n)):=jZ (Xp hp hc hb) fun D σ H xx=>by
 obtain⟨H0,O0,ρ,O,r,R,ed,f⟩:=xx;refine⟨fun m σ' H'=>∃ρ' O',Rel K H0 O0 ρ' σ' H' O'/\uq dt s1 m ρ'=some r/\j4 (j6 H O) (j6 H' O'),⟨n,ρ,O,R,ed,j4.refl _⟩,?_⟩;rintro m σ' H' ⟨ρ',O',R',d1,sd⟩;cases m with
 | zero=>cases d1
 | succ m=>
  obtain⟨k,e1,e2⟩:=j1 d1;refine⟨H0,O0,ρ',O',k,R',e1,fun H2 s2=>?_⟩;have t1:=sd.trans (jc s2);cases k with
  | true=>
   rw[if_pos rfl]at e2;obtain⟨r1,f5,f6⟩:=j1 e2;refine zZ ⟨fun σ3 H3=>∃ρ3 O3,Rel K H0 O0 ρ3 σ3 H3 O3/\uq dt s1 m ρ3=some r/\j4 (j6 H O) (j6 H3 O3),?_,H0,O0,ρ',O',r1,R'.grow s2,f5,?_⟩
   ·rintro σ3 H3 ⟨ρ3,O3,a1,a2,a3⟩;exact⟨m,Nat.lt_succ_self m,ρ3,O3,a1,a2,a3⟩
   ·cases r1 with
    | nx ρ2=>exact fun σ3 H3 O3 R4 t=>⟨ρ2,O3,R4,f6,t1.trans t⟩
    | ct ρ2=>exact fun σ3 H3 O3 R4 t=>⟨ρ2,O3,R4,f6,t1.trans t⟩
    | bk ρ2=>cases f6;exact fun σ3 H3 O3 R4 t=>f σ3 H3 O3 R4 (t1.trans t)
    | rt d=>cases f6;exact f
    | rf o=>cases f6;exact f
  | false=>
   rw[if_neg Bool.false_ne_true]at e2;cases e2;exact zY (f σ' H2 O' (R'.grow s2) t1)
theorem bZ{iter elt:Expr}{ifs:List Expr}{scope:Scope}{di:DI}{g:DG}{dc:DT}{de:DE}(own:List Str)(caps:List (Str×Nat)){i:Nat}{x:Str}{pos' spos:Pos}(hN:X.N.Nodup)(hix:X.N[i]?=some x)(hx:Ud X.env.scope x)(S:CScope X scope)(hcap:Caps X scope caps)(hc:X.calm=true)(hi:PI X tg iter (Ze K di))
  (hg:∀s3 H3 ex',PG (X.comp (cN own caps) scope s3 H3 ex') tg (tG K own.length g)) (ht:∀s3 H3 ex',z_ (X.comp (cN own caps) scope s3 H3 ex') ifs (tT K dc)) (he:∀s3 H3 ex',PE (X.comp (cN own caps) scope s3 H3 ex') elt (tE K de)) (hnd:(caps.map (·.2)).Nodup:=by decide)
  (hs:∀x,foldedSetIterable iter X.env x=pure x:=by intro _;rfl)
  (hsw:swapsWith (.ListComp elt [⟨tg,iter,ifs,0⟩] scope pos) (some (.Name x pos')) spos.line X.env=pure true:=by rfl) (hf:X.fn x=true∨X.env.scope.names.lookup x=some .local:=by first | exact .inl rfl | exact .inr rfl | assumption):
  PS X (.Assign [.Name x pos'] (.ListComp elt [⟨tg,iter,ifs,0⟩] scope pos) spos) (tS K (yV i (yY own.length (caps.map (·.2)) di g dc de))):=
 Ay (UI (KI own caps hN hix hx S hcap hc hi hg ht he hs hsw hf) (KY hnd))
theorem b_{iter elt:Expr}{ifs:List Expr}{scope:Scope}{di:DI}{g:DG}{dc:DT}{de:DE}(own:List Str)(caps:List (Str×Nat)){i:Nat}{x:Str}{pos' spos:Pos}(hN:X.N.Nodup)(hix:X.N[i]?=some x)(hx:Ud X.env.scope x)(S:CScope X scope)(hcap:Caps X scope caps)(hc:X.calm=true)(hi:PI X tg iter (Ze K di))
  (hg:∀s3 H3 ex',PG (X.comp (cN own caps) scope s3 H3 ex') tg (tG K own.length g)) (ht:∀s3 H3 ex',z_ (X.comp (cN own caps) scope s3 H3 ex') ifs (tT K dc)) (he:∀s3 H3 ex',PE (X.comp (cN own caps) scope s3 H3 ex') elt (tE K de)) (hnd:(caps.map (·.2)).Nodup:=by decide)
  (hs:∀x,foldedSetIterable iter X.env x=pure x:=by intro _;rfl)
  (hsw:swapsWith (.ListComp elt [⟨tg,iter,ifs,0⟩] scope pos) (some (.Name x pos')) spos.line X.env=pure true:=by rfl) (hf:X.fn x=true∨X.env.scope.names.lookup x=some .local:=by first | exact .inl rfl | exact .inr rfl | assumption):
  PS X (.Assign [.Name x pos'] (.ListComp elt [⟨tg,iter,ifs,0⟩] scope pos) spos) (tS K (jl i (dL (yY own.length (caps.map (·.2)) di g dc de)))):=
 Kk (UI (UI (KI own caps hN hix hx S hcap hc hi hg ht he hs hsw hf) (KY hnd)) X_)
end
theorem gG(v:Value)(n:Nat):List.foldl (fun x1 x2=>x1++x2) #[] (List.replicate n #[v])=(List.replicate n v).toArray:=by
 have f:∀(n:Nat) (a:Array Value),List.foldl (fun x1 x2=>x1++x2) a (List.replicate n #[v])=a++(List.replicate n v).toArray:=fun n=>by
  induction n with
  | zero=>intro a;simp
  | succ n ih=>intro a;rw[List.replicate_succ,List.foldl_cons,ih];apply Array.ext';simp[List.replicate_succ]
 rw[f];simp
theorem K4(l:Addr)(v:Value)(n:Nat)(dd:Option Addr)(sl:Array (Option Value))(x:Int)(u:Tok)(h1:1 < x)(h2:x<=1000):
  Meets (Builtin.«tuple.__mul__» ⟨[.ref l,.int x u],[]⟩) (fun _ R s=>s.heap.get? l=some { cls:=.type "tuple",dict:=dd,data:=.seq #[v] n,slots:=sl }/\R (.ok (.ret (Value.ref s.heap.objs.size))) { s with heap:=s.heap.push { cls:=Value.type "tuple",data:=Data.seq (List.foldl (fun x1 x2=>x1++x2) #[] (List.replicate x.toNat #[v])) },toks:=s.toks }):=
 .of_wp fun prog w A R s h=>by
  obtain⟨hp,g,d,tk,os⟩:=s;obtain⟨hl,h⟩:=h
  wp_walk
  refine wpAny_ite_false (by simp;omega) ?_
  wp_walk
  refine wpAny_ite_false (by simp;omega) ?_
  wp_walk
  refine wpAny_ite_false (by simp;omega) ?_
  wp_walk
  rw[if_neg (by simp;omega)]
  wp_walk
  refine wpAny_ite_false (by simp[Builtin.Tuple.tupleTooMany,sizeLine];omega) ?_
  wp_walk
  have hz:(List.foldl (fun x1 x2=>x1++x2) #[] (List.replicate x.toNat #[v])).size<=sizeLine:=by
   rw[gG];simp[sizeLine];omega
  first | exact⟨_,rfl,h⟩ | (refine wpAny_ite_false (vBa (Nat.not_lt.mpr hz)) ?_;wp_walk;exact⟨_,rfl,h⟩)
theorem K5(l:Addr)(v:Value)(n:Nat)(dd:Option Addr)(sl:Array (Option Value))(u:Tok):
  Meets (Builtin.«tuple.__mul__» ⟨[.ref l,.int 1 u],[]⟩) (fun _ R s=>s.heap.get? l=some { cls:=.type "tuple",dict:=dd,data:=.seq #[v] n,slots:=sl }/\R (.ok (.ret (Value.ref l))) { s with heap:=s.heap,toks:=s.toks }):=
 .of_wp fun prog w A R s h=>by
  obtain⟨hp,g,d,tk,os⟩:=s;obtain⟨hl,h⟩:=h
  wp_walk
  first | exact⟨_,rfl,h⟩ | (refine wpAny_ite_false (by simp) ?_;wp_walk;refine wpAny_ite_true (by simp) ?_;wp_walk;exact⟨_,rfl,h⟩)
theorem GA(l:Addr)(v:Value)(n:Nat)(dd:Option Addr)(sl:Array (Option Value))(u:Tok):
  Meets (Builtin.«tuple.__mul__» ⟨[.ref l,.int 0 u],[]⟩) (fun _ R s=>s.heap.get? l=some { cls:=.type "tuple",dict:=dd,data:=.seq #[v] n,slots:=sl }/\R (.ok (.ret (Value.ref s.heap.objs.size))) { s with heap:=s.heap.push { cls:=Value.type "tuple",data:=Data.seq #[] },toks:=s.toks }):=
 .of_wp fun prog w A R s h=>by
  obtain⟨hp,g,d,tk,os⟩:=s;obtain⟨hl,h⟩:=h
  wp_walk
  first | exact⟨_,rfl,h⟩ | (refine wpAny_ite_false (by simp) ?_;wp_walk;refine wpAny_ite_false (by simp) ?_;wp_walk;refine wpAny_ite_true (by simp) ?_;wp_walk;exact⟨_,rfl,h⟩)
theorem UJ:fillsNumberSlot (.type "tuple") "mul" = pure false:=
 PySem.fillsNumberSlot_seq (id := "tuple.__mul__") (r:=some (.builtin "tuple.__rmul__")) F.slot_tuple_mul.lookup (by decide +kernel) F.slot_tuple_rmul.lookup (by decide +kernel)
theorem wa:seqRepeat? (.type "tuple")=pure (some (.builtin "tuple.__mul__")):=by
 unfold seqRepeat?;rw[PySem.seqSlot_of (T := "tuple") (name := "__mul__") (id := "tuple.__mul__") F.slot_tuple_mul.lookup (by decide +kernel),PySem.seqSlot_of (T := "tuple") (name := "__rmul__") (id := "tuple.__rmul__") F.slot_tuple_rmul.lookup (by decide +kernel)];rfl
theorem GB(a:Int)(t:Tok)(l:Addr)(items:Array Value)(n:Nat)(dd:Option Addr)(sl:Array (Option Value)):
  Meets (Builtin.«int.__rmul__» ⟨[.int a t,.ref l],[]⟩) (fun _ R s=>s.heap.get? l=some { cls:=.type "tuple",dict:=dd,data:=.seq items n,slots:=sl }/\R (.ok (.ret Value.notImplemented)) s):=
 .of_wp fun prog w A R s h=>by obtain⟨hp,g,d,tk,os⟩:=s;obtain⟨hl,h⟩:=h;wp_walk;exact⟨_,rfl,h⟩
section
variable {X:Cx} {K:Fr}
def Q7(K:Fr):R2:=fun x y H Q=>∃l k z,x=.ref l/\y=.int k/\Ji K H l [z]/\0<=k/\k<=1000/\(k=1->Q (.ref l) H)/\(k≠1->∀p,H p=none->Q (.ref p) (upd H p (.tup (List.replicate k.toNat z))))
theorem wb{z:V}{v:Value}(r:jt z v):∀n:Nat,jh (List.replicate n z) (List.replicate n v)
 | 0=>.nil
 | n+1=>by rw[List.replicate_succ,List.replicate_succ];exact .cons r (wb r n)
theorem B0:jF X (binaryOp .Mult) (Q7 X.K):=by
 intro pins s σ H x y v u Q I rx ry h;obtain⟨l,k,z,rfl,rfl,hq,h1,h2,q1,q2⟩:=h;cases rx;obtain⟨t,rfl⟩:=ry;obtain⟨its,r,⟨⟨cls,dd,data,sl⟩,ho,hc,n,hd⟩,hz⟩:=I.tuple hq;simp only at hc hd;subst hc hd;obtain⟨w,rfl,rw'⟩:∃w,its=[w]/\jt z w:=by
  cases r with
  | cons a b=>cases b;exact⟨_,rfl,a⟩
 refine wpAny_binaryOp_repeat_ref (T := "tuple") (U := "int") (by decide) ⟨_,ho,rfl⟩ (fun s'=>typeIs_int s' k t) UJ F.fills_int_mul F.slot_int_rmul wa F.slot_int_index.lookup
  (call_meets F.slot_int_rmul (typeIs_int s k t) F.entry_int_rmul (F.args_int_rmul_2 _ _) (GB k t l _ n dd sl) ⟨ho,rfl,⟨_,ho,rfl⟩,?_⟩)
 by_cases e1:k=1
 ·subst e1;exact call_meets F.slot_tuple_mul ⟨_,ho,rfl⟩ F.entry_tuple_mul (F.args_tuple_mul_2 _ _) (K5 l w n dd sl t) ⟨ho,.ref l,H,I,rfl,q1 rfl⟩
 ·by_cases e0:k=0
  ·subst e0;refine call_meets F.slot_tuple_mul ⟨_,ho,rfl⟩ F.entry_tuple_mul (F.args_tuple_mul_2 _ _) (GA l w n dd sl t) ⟨ho,.ref s.heap.objs.size,_,I.laid (t':=s.toks) (o:=.tup (List.replicate (0:Int).toNat z)) (fun b ob q=>wIa _ q) (wPa _) ?_,rfl,q2 e1 _ (I.hok.fresh (wPa _))⟩;exact⟨Nat.zero_le _,[],.nil,IsTup.new _ _⟩
  ·refine call_meets F.slot_tuple_mul ⟨_,ho,rfl⟩ F.entry_tuple_mul (F.args_tuple_mul_2 _ _) (K4 l w n dd sl k t (by omega) h2) ⟨ho,?_⟩;rw[gG];refine⟨.ref s.heap.objs.size,_,I.laid (t':=s.toks) (o:=.tup (List.replicate k.toNat z)) (fun b ob q=>wIa _ q) (wPa _) ?_,rfl,q2 e1 _ (I.hok.fresh (wPa _))⟩;exact⟨by rw[List.length_replicate];exact EF (by omega),_,wb rw' _,IsTup.new _ _⟩
@[simp] def yx:D->D->Option D
 | .int i,.int j=>Ao (.int i) (.int j)
 | .tup [z],.int k=>if 0<=k/\k<=1000 then some (.tup (List.replicate k.toNat z))else none
 | _,_=>none
theorem wc{H:Hp}{d:D}{v:V}(h:j7 K H d v):∀n:Nat,j3 K H (List.replicate n d) (List.replicate n v)
 | 0=>j3.nil
 | n+1=>by rw[List.replicate_succ,List.replicate_succ];exact j3.cons h (wc h n)
theorem CT:Jf K (fun x y H Q=>rI UD (fun i j=>.int (i * j)) x y H Q∨Q7 K x y H Q) yx:=by
 intro O H a b d x y Q ha hb hn e q;unfold yx at e;split at e
 ·exact .inl (EN O H _ _ d x y Q ha hb hn e q)
 ·split at e
  ·rename_i hk;cases e;right;obtain⟨p,xs,rfl,h1,h2⟩:=ha.tup;obtain⟨v,rfl,rv⟩:∃v,xs=[v]/\j7 K (j6 H O) _ v:=by
    rw[j3]at h2;obtain⟨v,r,rfl,a1,b1⟩:=h2;rw[j3]at b1;subst b1;exact⟨v,rfl,a1⟩
   refine⟨p,_,v,rfl,hb.int,h1,hk.1,hk.2,fun e1=>?_,fun _ p hp=>q _ _ (jw hp _) (yQ (hn p hp) hp (wc rv _))⟩;refine q _ H (j4.refl H) ?_;subst e1;rcases ha with ha | ⟨_,o,_,z,_⟩
   ·exact ha
   ·cases o <;> cases z
  ·cases e
 ·cases e
theorem B4:jF X (binaryOp .Mult) (fun x y H Q=>rI UD (fun i j=>.int (i * j)) x y H Q∨Q7 X.K x y H Q):=cu.or B0
theorem B5:jF X (binaryOp .Add) (fun x y H Q=>Zd (fun i j=>.int (i+j)) x y H Q∨(fun x y H Q=>qX X.K x y H Q∨(fun x y H Q=>∃i j,x=.str i/\y=.str j/\i.length+j.length<=sizeLine/\Q (.str (i++j)) H) x y H Q) x y H Q):=cq.or (bE.or qP)
end
mutual
noncomputable def yZ:D->D->Option Bool
 | .tup l,.tup m=>(yf l m).bind fun b=>some (b&&l.length==m.length)
 | .lst l,.lst m=>if l.length=m.length then yf l m else some false
 | .non,.non=>some true
 | .non,.tup _=>some false
 | .tup _,.non=>some false
 | .int a,.int b=>some (a==b)
 | .bl a,.bl b=>some (a==b)
 | .str a,.str b=>some (a==b)
 | _,_=>none
noncomputable def yf:List D->List D->Option Bool
 | [],_=>some true
 | _::_,[]=>some true
 | a::l,b::m=>(yZ a b).bind fun x=>(yf l m).bind fun y=>some (x&&y)
end
mutual
@[simp] noncomputable def dep:D->Nat
 | .tup l=>JL l+1
 | .lst l=>JL l+1
 | _=>0
@[simp] noncomputable def JL:List D->Nat
 | []=>0
 | d::ds=>max (dep d) (JL ds)
end
theorem D.ind{P:D->Prop}(h:∀d,(∀l,d=.tup l->∀x∈l,P x)->(∀l,d=.lst l->∀x∈l,P x)->P d)(d:D):P d:=
 h d (fun l e x hx=>D.ind h x) (fun l e x hx=>D.ind h x)
termination_by sizeOf d
decreasing_by
 all_goals (subst e;have:=List.sizeOf_lt_of_mem hx;simp;omega)
section
variable {X:Cx} {K:Fr}
open PySem.SeqAt
theorem in1_units{A:Around}:A.in1.units=A.units+1:=rfl
variable {pins:List (Addr×Obj)} {σ:L2.St} {H:Hp} {s:Shared}
theorem gH(ih:∀d∈l,∀{d':D} {x:V} {r:Bool},j7 K H d x->j7 K H d' x->yZ d d'=some r->r=true):∀{m:List D} {xs:List V} {r:Bool},j3 K H l xs->j3 K H m xs->yf l m=some r->r=true:=by
 induction l with
 | nil=>intro m xs r _ _ e;rw[yf]at e;cases e;rfl
 | cons a l il=>
  intro m xs r h1 h2 e;cases m with
  | nil=>rw[yf]at e;cases e;rfl
  | cons b m=>
   rw[yf]at e;obtain⟨x,e1,e⟩:=j1 e;obtain⟨y,e2,e⟩:=j1 e;cases e;rw[j3]at h1 h2;obtain⟨v,t,rfl,a1,b1⟩:=h1;obtain⟨v',t',e',a2,b2⟩:=h2;cases e';rw[ih a List.mem_cons_self a1 a2 e1,il (fun d hd=>ih d (List.mem_cons_of_mem _ hd)) b1 b2 e2];rfl
theorem kz(I:Inv X pins σ H s)(d:D):∀{d':D} {x:V} {r:Bool},j7 X.K H d x->j7 X.K H d' x->yZ d d'=some r->r=true:=by
 induction d using D.ind with
 | h d i1 i2=>
  intro d' x r h1 h2 e;unfold yZ at e;split at e
  ·obtain⟨b,e1,e2⟩:=j1 e;cases e2;rw[j7]at h1 h2;obtain⟨a,xs,rfl,qa,ra⟩:=h1;obtain⟨b',ys,e',qb,rb⟩:=h2;cases e';have exy:=I.tuple_inj qa qb;subst exy;rw[gH (fun d hd=>i1 _ rfl d hd) ra rb e1,<-ra.len,<-rb.len,beq_self_eq_true];rfl
  ·rw[j7]at h1 h2;obtain⟨a,xs,rfl,qa,ra⟩:=h1;obtain⟨b',ys,e',qb,rb⟩:=h2;cases e';rw[qa]at qb;cases qb;rw[if_pos (by rw[<-ra.len,<-rb.len])]at e;exact gH (fun d hd=>i2 _ rfl d hd) ra rb e
  ·cases e;rfl
  ·rw[j7]at h1;rw[j7]at h2;obtain⟨b',ys,e',qb,rb⟩:=h2;rw[h1]at e';cases e'
  ·rw[j7]at h1;rw[j7]at h2;obtain⟨b',ys,e',qb,rb⟩:=h1;rw[h2]at e';cases e'
  ·cases e;rw[j7]at h1 h2;rw[h1]at h2;cases h2;simp
  ·cases e;rw[j7]at h1 h2;rw[h1]at h2;cases h2;simp
  ·cases e;rw[j7]at h1 h2;rw[h1]at h2;cases h2;simp
  ·cases e
theorem Kl{l:List D}(ih:∀d∈l,∀{d':D} {x y:V} {u v:Value} {A:Around} {r:Bool},yZ d d'=some r->j7 K H d x->j7 K H d' y->jt x u->jt y v->A.units+dep d < cLine->EqAt A s u v r):∀{m:List D} {xs ys:List V} {us vs:List Value} {A:Around} {r:Bool},yf l m=some r->j3 K H l xs->j3 K H m ys->jh xs us->jh ys vs->A.units+JL l < cLine->
  ∃e:Nat->Bool,(∀(j:Nat) (h1:j < us.length) (h2:j < vs.length),EqAt A s us[j] vs[j] (e j))/\(List.range (min l.length m.length)).all e=r:=by
 induction l with
 | nil=>
  intro m xs ys us vs A r e h1 h2 v1 v2 hu;rw[yf]at e;cases e;rw[j3]at h1;subst h1;cases v1;exact⟨fun _=>true,fun j h1 _=>vDa h1 (by simp),by simp⟩
 | cons a l il=>
  intro m xs ys us vs A r e h1 h2 v1 v2 hu;cases m with
  | nil=>
   rw[yf]at e;cases e;rw[j3]at h2;subst h2;cases v2;exact⟨fun _=>true,fun j _ h2=>vDa h2 (by simp),by simp⟩
  | cons b m=>
   rw[yf]at e;obtain⟨x,e1,e⟩:=j1 e;obtain⟨y,e2,e⟩:=j1 e;cases e;rw[j3]at h1 h2;obtain⟨v,t,rfl,a1,b1⟩:=h1;obtain⟨v',t',rfl,a2,b2⟩:=h2;rw[JL]at hu;cases v1 with
   | cons r1 rr1=>
    cases v2 with
    | cons r2 rr2=>
     obtain⟨e',q1,q2⟩:=il (fun d hd=>ih d (wMa _ hd)) e2 b1 b2 rr1 rr2 (A:=A) (by omega);refine⟨fun j=>match j with | 0=>x | j+1=>e' j,fun j h1 h2=>?_,?_⟩
     ·cases j with
      | zero=>exact ih a wNa e1 a1 a2 r1 r2 (by omega)
      | succ j=>exact q1 j (by simpa using h1) (by simpa using h2)
     ·rw[List.length_cons,List.length_cons,Nat.succ_min_succ,List.range_succ_eq_map,List.all_cons,List.all_map];rw[<-q2];rfl
theorem a9(I:Inv X pins σ H s)(d:D):∀{d':D} {x y:V} {u v:Value} {A:Around} {r:Bool},yZ d d'=some r->j7 X.K H d x->j7 X.K H d' y->jt x u->jt y v->A.units+dep d < cLine->EqAt A s u v r:=by
 induction d using D.ind with
 | h d i1 i2=>
  intro d' x y u v A r e hx hy rx ry hu;have e0:=e;unfold yZ at e;split at e
  ·obtain⟨b,e1,e2⟩:=j1 e;cases e2;have hx0:=hx;have hy0:=hy;rw[j7]at hx hy;obtain⟨a,xs,rfl,qa,ra⟩:=hx;obtain⟨b',ys,rfl,qb,rb⟩:=hy;cases rx;cases ry;rw[dep]at hu;by_cases hab:a=b'
   ·subst hab;have:=kz I _ hx0 hy0 e0;rw[this];exact EqAt.same _
   ·obtain⟨ia,va,pa,_⟩:=I.tuple qa;obtain⟨ib,vb,pb,_⟩:=I.tuple qb;have la:=(List.size_toArray (as:=ia)).trans (va.length.symm.trans ra.len);have lb:=(List.size_toArray (as:=ib)).trans (vb.length.symm.trans rb.len);obtain⟨e',h1,h2⟩:=Kl (fun d hd=>i1 _ rfl d hd) e1 ra rb va vb (A:=A.in1) (by rw[in1_units];omega);have key:=RcAt.tuples (A:=A) (s:=s) (l:=a) (b:=b') (items:=ia.toArray) (items2:=ib.toArray) (e:=e') pa pb (by omega) (fun j h1' h2'=>by simpa using h1 j (by simpa using h1') (by simpa using h2'));rw[la,lb,h2]at key;exact EqAt.of_refs hab key
  ·have hx0:=hx;have hy0:=hy;rw[j7]at hx hy;obtain⟨a,xs,rfl,qa,ra⟩:=hx;obtain⟨b',ys,rfl,qb,rb⟩:=hy;cases rx;cases ry;rw[dep]at hu;by_cases hab:a=b'
   ·subst hab;have:=kz I _ hx0 hy0 e0;rw[this];exact EqAt.same _
   ·obtain⟨ia,va,pa,_⟩:=I.list (jC.of qa);obtain⟨ib,vb,pb,_⟩:=I.list (jC.of qb);have la:=(List.size_toArray (as:=ia)).trans (va.length.symm.trans ra.len);have lb:=(List.size_toArray (as:=ib)).trans (vb.length.symm.trans rb.len);split at e
    ·rename_i ell;obtain⟨e',h1,h2⟩:=Kl (fun d hd=>i2 _ rfl d hd) e ra rb va vb (A:=A.in1) (by rw[in1_units];omega);have key:=RcAt.lists (A:=A) (s:=s) (l:=a) (b:=b') (items:=ia.toArray) (items2:=ib.toArray) (e:=e') pa.isList pb.isList (by rw[la,lb,ell]) (by omega) (fun j h1' h2'=>by simpa using h1 j (by simpa using h1') (by simpa using h2'));rw[la]at key;rw[<-ell,Nat.min_self]at h2;rw[h2]at key;exact EqAt.of_refs hab key
    ·rename_i ell;cases e;exact EqAt.of_refs hab (RcAt.lists_lengths pa.isList pb.isList (by rw[la,lb];simpa using ell) (by omega))
  ·cases e;rw[j7]at hx hy;subst hx hy;cases rx;cases ry;exact EqAt.same _
  ·cases e;rw[j7]at hx;rw[j7]at hy;subst hx;cases rx;obtain⟨b',ys,rfl,qb,rb⟩:=hy;cases ry;obtain⟨ib,vb,pb,_⟩:=I.tuple qb;exact EqAt.none_tuple pb (by omega)
  ·cases e;rw[j7]at hx;rw[j7]at hy;subst hy;cases ry;obtain⟨b',ys,rfl,qb,rb⟩:=hx;cases rx;obtain⟨ib,vb,pb,_⟩:=I.tuple qb;exact EqAt.tuple_none pb (by omega)
  ·cases e;rw[j7]at hx hy;subst hx hy;obtain⟨t,rfl⟩:=rx;obtain⟨t',rfl⟩:=ry;exact EqAt.int_int _ _ _ _
  ·cases e;rw[j7]at hx hy;subst hx hy;cases rx;cases ry;exact EqAt.bool_bool _ _
  ·cases e;rw[j7]at hx hy;subst hx hy;obtain⟨t,rfl⟩:=rx;obtain⟨t',rfl⟩:=ry;exact EqAt.str_str _ _ _ _
  ·cases e
@[simp] noncomputable def Z2:D->D->Bool
 | .lst _,.lst _=>true
 | .tup _,.tup _=>true
 | _,_=>false
def UK(K:Fr)(neg:Bool):R2:=fun x y H Q=>∃d d' r,j7 K H d x/\j7 K H d' y/\Z2 d d'=true/\yZ d d'=some r/\dep d<=20/\Q (.bl (if neg then !r else r)) H
theorem CU(I:Inv X pins σ H s){d d':D}{x y:V}{u v:Value}{A:Around}{r:Bool}(e:yZ d d'=some r)(q:Z2 d d'=true)(hx:j7 X.K H d x)(hy:j7 X.K H d' y)(rx:jt x u)(ry:jt y v)(hu:A.units+dep d < cLine):RcAt A s u v r/\RcNeAt A s u v (!r):=by
 unfold Z2 at q;split at q
 ·rw[j7]at hx hy;obtain⟨a,xs,rfl,qa,ra⟩:=hx;obtain⟨b',ys,rfl,qb,rb⟩:=hy;cases rx;cases ry;rw[dep]at hu;rw[yZ]at e;obtain⟨ia,va,pa,_⟩:=I.list (jC.of qa);obtain⟨ib,vb,pb,_⟩:=I.list (jC.of qb);have la:=(List.size_toArray (as:=ia)).trans (va.length.symm.trans ra.len);have lb:=(List.size_toArray (as:=ib)).trans (vb.length.symm.trans rb.len);split at e
  ·rename_i ell;obtain⟨e',h1,h2⟩:=Kl (fun d _=>a9 I d) e ra rb va vb (A:=A.in1) (by rw[in1_units];omega);have key:=RcAt.lists (A:=A) (s:=s) (l:=a) (b:=b') (items:=ia.toArray) (items2:=ib.toArray) (e:=e') pa.isList pb.isList (by rw[la,lb,ell]) (by omega) (fun j h1' h2'=>by simpa using h1 j (by simpa using h1') (by simpa using h2'));have key2:=RcNeAt.lists (A:=A) (s:=s) (l:=a) (b:=b') (items:=ia.toArray) (items2:=ib.toArray) (e:=e') pa.isList pb.isList (by rw[la,lb,ell]) (by omega) (fun j h1' h2'=>by simpa using h1 j (by simpa using h1') (by simpa using h2'));rw[la]at key key2;rw[<-ell,Nat.min_self]at h2;rw[h2]at key key2;exact⟨key,key2⟩
  ·rename_i ell;cases e;exact⟨RcAt.lists_lengths pa.isList pb.isList (by rw[la,lb];simpa using ell) (by omega),RcNeAt.lists_lengths pa.isList pb.isList (by rw[la,lb];simpa using ell) (by omega)⟩
 ·rw[j7]at hx hy;obtain⟨a,xs,rfl,qa,ra⟩:=hx;obtain⟨b',ys,rfl,qb,rb⟩:=hy;cases rx;cases ry;rw[dep]at hu;rw[yZ]at e;obtain⟨b,e1,e2⟩:=j1 e;cases e2;obtain⟨ia,va,pa,_⟩:=I.tuple qa;obtain⟨ib,vb,pb,_⟩:=I.tuple qb;have la:=(List.size_toArray (as:=ia)).trans (va.length.symm.trans ra.len);have lb:=(List.size_toArray (as:=ib)).trans (vb.length.symm.trans rb.len);obtain⟨e',h1,h2⟩:=Kl (fun d _=>a9 I d) e1 ra rb va vb (A:=A.in1) (by rw[in1_units];omega);have key:=RcAt.tuples (A:=A) (s:=s) (l:=a) (b:=b') (items:=ia.toArray) (items2:=ib.toArray) (e:=e') pa pb (by omega) (fun j h1' h2'=>by simpa using h1 j (by simpa using h1') (by simpa using h2'));have key2:=RcNeAt.tuples (A:=A) (s:=s) (l:=a) (b:=b') (items:=ia.toArray) (items2:=ib.toArray) (e:=e') pa pb (by omega) (fun j h1' h2'=>by simpa using h1 j (by simpa using h1') (by simpa using h2'));rw[la,lb,h2]at key key2;exact⟨key,key2⟩
 ·cases q
theorem CV{k:Nat}(hr:Room k X.A):jF X (compareOp .Eq) (UK X.K false):=by
 intro pins s σ H x y v u Q I rx ry h;obtain⟨d,d',r,hx,hy,q,e,hd,qq⟩:=h;have hu:=hr.units;exact(CU (A:=X.A) I e q hx hy rx ry (by omega)).1 X.prog X.w X.xe _ ⟨.bl r,H,I,rfl,qq⟩
theorem CW{k:Nat}(hr:Room k X.A):jF X (compareOp .NotEq) (UK X.K true):=by
 intro pins s σ H x y v u Q I rx ry h;obtain⟨d,d',r,hx,hy,q,e,hd,qq⟩:=h;have hu:=hr.units;exact(CU (A:=X.A) I e q hx hy rx ry (by omega)).2 X.prog X.w X.xe _ ⟨.bl (!r),H,I,rfl,qq⟩
@[simp] def vq(neg:Bool):D->D->Option D:=fun a b=>if Z2 a b=true/\dep a<=20 then(yZ a b).bind fun r=>some (.bl (if neg then !r else r))else none
theorem AB{neg:Bool}:Jf K (UK K neg) (vq neg):=by
 intro O H a b d x y Q ha hb hn e q;unfold vq at e;split at e
 ·rename_i hh;obtain⟨r,e1,e2⟩:=j1 e;cases e2;exact⟨a,b,r,ha.full,hb.full,hh.1,e1,hh.2,q _ H (j4.refl H) (by rw[j7])⟩
 ·cases e
@[simp] def jG(a b:D):Option D:=if Z2 a b=true then vq false a b else KQ a b
@[simp] def J6(a b:D):Option D:=if Z2 a b=true then vq true a b else XW a b
theorem HV:Jf K (fun x y H Q=>A8 x y H Q∨UK K false x y H Q) jG:=by
 intro O H a b d x y Q ha hb hn e q;unfold jG at e;split at e
 ·exact .inr (AB O H a b d x y Q ha hb hn e q)
 ·exact .inl (ET O H a b d x y Q ha hb hn e q)
theorem HW:Jf K (fun x y H Q=>A9 x y H Q∨UK K true x y H Q) J6:=by
 intro O H a b d x y Q ha hb hn e q;unfold J6 at e;split at e
 ·exact .inr (AB O H a b d x y Q ha hb hn e q)
 ·exact .inl (EU O H a b d x y Q ha hb hn e q)
theorem CY{k:Nat}(hr:Room k X.A):jF X (compareOp .Eq) (fun x y H Q=>A8 x y H Q∨UK X.K false x y H Q):=Eu.or (CV hr)
theorem CZ{k:Nat}(hr:Room k X.A):jF X (compareOp .NotEq) (fun x y H Q=>A9 x y H Q∨UK X.K true x y H Q):=Ev.or (CW hr)
@[simp] noncomputable def AD:D->Option V
 | .non=>some .non
 | .bl b=>some (.bl b)
 | .int i=>some (.int i)
 | .str s=>some (.str s)
 | _=>none
@[simp] def Q8:List D->Option (List V)
 | []=>some []
 | d::ds=>(AD d).bind fun v=>(Q8 ds).bind fun vs=>some (v::vs)
theorem xb{H:Hp}{d:D}{v w:V}(e:AD d=some v)(h:j7 K H d w):w=v/\zC v=true:=by
 unfold AD at e;split at e <;> first | (cases e;rw[j7]at h;exact⟨h,rfl⟩) | cases e
theorem GC{H:Hp}:∀{l:List D} {vs xs:List V},Q8 l=some vs->j3 K H l xs->xs=vs/\vs.all zC=true
 | [],vs,xs,e,h=>by cases e;rw[j3]at h;exact⟨h,rfl⟩
 | d::l,vs,xs,e,h=>by
  rw[Q8]at e;obtain⟨v,e1,e⟩:=j1 e;obtain⟨r,e2,e⟩:=j1 e;cases e;rw[j3]at h;obtain⟨w,t,rfl,a,b⟩:=h;obtain⟨h1,h2⟩:=xb e1 a;obtain⟨h3,h4⟩:=GC e2 b;exact⟨by rw[h1,h3],by rw[List.all_cons,h2,h4];rfl⟩
@[simp] def AE(neg:Bool):D->D->Option D:=fun a b=>(AD a).bind fun v=>(yX b).bind fun l=>(Q8 l).bind fun vs=>some (.bl (if neg then !Af v vs else Af v vs))
theorem C_{neg:Bool}:Jf K (C1 K neg) (AE neg):=by
 intro O H a b d x y Q ha hb hn e q;unfold AE at e;obtain⟨v,e1,e⟩:=j1 e;obtain⟨l,e2,e⟩:=j1 e;obtain⟨vs,e3,e⟩:=j1 e;cases e;obtain⟨h1,h2⟩:=xb e1 ha.full;subst h1;unfold yX at e2;split at e2
 ·cases e2;obtain⟨p,xs,rfl,g1,g2⟩:=hb.lst;obtain⟨h3,h4⟩:=GC e3 g2;subst h3;exact⟨p,xs,rfl,.inl (jC.of g1),h2,h4,q _ H (j4.refl H) (by rw[j7])⟩
 ·cases e2;obtain⟨p,xs,rfl,g1,g2⟩:=hb.tup;obtain⟨h3,h4⟩:=GC e3 g2;subst h3;exact⟨p,xs,rfl,.inr g1,h2,h4,q _ H (j4.refl H) (by rw[j7])⟩
 ·cases e2
@[simp] noncomputable def AF:D->Option Kd
 | .int _=>some .i
 | .bl _=>some .b
 | .str _=>some .s
 | .lst _=>some .l
 | .tup _=>some .t
 | _=>none
theorem AG{O:List Addr}{d:D}{v:V}{k:Kd}(e:AF d=some k)(h:RB K O H d v):XS K H v k:=by
 unfold AF at e;split at e
 ·cases e;rw[h.int];trivial
 ·cases e;rw[h.bl];trivial
 ·cases e;rw[h.str];trivial
 ·cases e;obtain⟨p,xs,rfl,g1,g2⟩:=h.lst;exact⟨xs,jC.of g1⟩
 ·cases e;obtain⟨p,xs,rfl,g1,g2⟩:=h.tup;exact⟨xs,g1⟩
 ·cases e
variable {e:Expr} {de:DE} {pos p p1 p2 tp:Pos}
@[simp] def YH(T:String):D->Option D:=fun d=>(AF d).bind fun k=>(gw k T).bind fun b=>some (.bl b)
theorem fU{T:String}{e2:Expr}(h:PE X (.Call (.Name "isinstance" p) [e,e2] [] pos) (QJ (C6 X.K) (yb (tR K de) (yb (tC (.ty T)) zW))))(hK:X.K=K:=by rfl):PE X (.Call (.Name "isinstance" p) [e,e2] [] pos) (tE K (d1 (YH T) de)):=jy h fun σ H Q xx=>by
 obtain⟨H0,O0,ρ,O,d,R,ed,q⟩:=xx;subst hK;obtain⟨x,e1,e2⟩:=j1 ed;obtain⟨k,e3,e2⟩:=j1 e2;obtain⟨b,e4,e2⟩:=j1 e2;cases e2;exact⟨H0,O0,ρ,O,x,R,e1,fun v H' s r=>⟨v,T,k,b,rfl,AG e3 r,e4,q _ H' s (by rw[j7])⟩⟩
@[simp] def AH:D->Option D:=fun d=>(AF d).bind fun k=>some (.bl (Q1 k))
theorem d8{ex:Expr}(h:PE X ex (Aj X.K (tR K de)))(hK:X.K=K:=by rfl):PE X ex (tE K (d1 AH de)):=jy h fun σ H Q xx=>by
 obtain⟨H0,O0,ρ,O,d,R,ed,q⟩:=xx;subst hK;obtain⟨x,e1,e2⟩:=j1 ed;obtain⟨k,e3,e2⟩:=j1 e2;cases e2;exact⟨H0,O0,ρ,O,x,R,e1,fun v H' s r=>⟨k,AG e3 r,fun p hp=>q _ _ (s.trans (jw hp _)) (by rw[j7])⟩⟩
end
@[simp] noncomputable def zE(f:Str)(d:D):List Str->List D->List Str×List D
 | g::ns,x::xs=>if g=f then(g::ns,d::xs)else((g::(zE f d ns xs).1),x::(zE f d ns xs).2)
 | _,_=>([f],[d])
section
variable {X:Cx} {K:Fr}
theorem wd{H:Hp}{f:Str}{d:D}{v:V}(r:j7 K H d v):∀{ns:List Str} {ds:List D} {vs:List V},ns.length=vs.length->j3 K H ds vs->∃vs',yS f v (ns.zip vs)=(zE f d ns ds).1.zip vs'/\(zE f d ns ds).1.length=vs'.length/\j3 K H (zE f d ns ds).2 vs'
 | [],ds,vs,h,rp=>by
  have e:vs=[]:=List.length_eq_zero_iff.mp h.symm;subst e;have e:ds=[]:=by have:=rp.len;exact List.length_eq_zero_iff.mp this.symm
  subst e;exact⟨[v],rfl,rfl,j3.cons r j3.nil⟩
 | g::ns,[],vs,h,rp=>by rw[j3]at rp;subst rp;cases h
 | g::ns,x::ds,vs,h,rp=>by
  rw[j3]at rp;obtain⟨w,t,rfl,a,b⟩:=rp;rw[zE];by_cases e:g=f
  ·rw[if_pos e];refine⟨v::t,?_,by simpa using h,j3.cons r b⟩;show(if g=f then(g,v)::ns.zip t else _)=_;rw[if_pos e];rfl
  ·rw[if_neg e];obtain⟨vs',q1,q2,q3⟩:=wd (f:=f) r (ns:=ns) (ds:=ds) (vs:=t) (by simpa using h) b;refine⟨w::vs',?_,by simpa using q2,j3.cons a q3⟩;show(if g=f then _ else(g,w)::yS f v (ns.zip t))=_;rw[if_neg e,q1];rfl
variable {e o:Expr} {de:DE} {pos pos':Pos} {st:Stmt}
def Zh(i:Nat)(C:Addr)(f:Str)(de:DE):DS:=fun ρ=>match ρ[i]? with
 | some (.ow q (.ins C' ns ds))=>if C'=C/\ns.length < 1000 then(de ρ).bind fun d=>some (.nx (ρ.set i (.ow q (.ins C' (zE f d ns ds).1 (zE f d ns ds).2))))else none
 | _=>none
@[simp] theorem iO(i:Nat)(C:Addr)(f:Str)(de:DE){ρ:j9}:Zh i C f de ρ=match ρ[i]? with
 | some (.ow q (.ins C' ns ds))=>if C'=C/\ns.length < 1000 then(de ρ).bind fun d=>some (.nx (ρ.set i (.ow q (.ins C' (zE f d ns ds).1 (zE f d ns ds).2))))else none
 | _=>none:=rfl
theorem dg{i:Nat}{C:Addr}{f:Str}(h:PS X st (cD X.K (ye i) (tE K de) f))(c:Cls K C)(n:Y4 K C f)(hK:X.K=K:=by rfl):PS X st (tS K (Zh i C f de)):=jZ h fun D σ H xx=>by
 obtain⟨H0,O0,ρ,O,r,R,ed,fi⟩:=xx;subst hK;unfold Zh at ed;split at ed
 ·rename_i q C' ns ds hi;split at ed
  ·rename_i hh;obtain⟨rfl,hlen⟩:=hh;obtain⟨d,e1,e2⟩:=j1 ed;cases e2;obtain⟨l,hq,hs,⟨dx,vs,hl,hn,rp⟩,lo,h0⟩:=R.ow i _ _ hi;refine⟨H0,O0,ρ,O,d,R,e1,fun v H1 s1 rv=>⟨_,hs,l,_,dx,_,rfl,s1 _ _ hl,c,n,?_,?_⟩⟩
   ·rw[List.length_zip,<-hn,Nat.min_self];exact hlen
   have R':=R.grow s1;obtain⟨vs',p1,p2,p3⟩:=wd (f:=f) rv hn (rp.same (jc s1));refine fi _ _ O (R'.change hi hq hs lo h0 ⟨dx,vs',by rw[jH,p1],p2,p3⟩) ?_;rw[Jb lo];exact jc s1
  ·cases ed
 ·cases ed
@[simp] noncomputable def Z3(ks:List Bool)(ds:List D)(n:Nat):j9:=List.zipWith (fun k d=>if k=true then Sl.cl d else Sl.bo d) ks ds++List.replicate n .un
theorem yo.get{O:List Addr}{H:Hp}:∀{ks:List Bool} {ds:List D} {vs:List V} {i:Nat} {d:D},yo K O H ks ds vs->ds[i]?=some d->∃k v,ks[i]?=some k/\vs[i]?=some v/\AK K O H k d v
 | [],[],[],_,_,_,e=>by simp at e
 | k::_,d::_,v::_,0,_,h,e=>by simp at e;subst e;exact⟨k,v,rfl,rfl,h.1⟩
 | k::_,d::_,v::_,i+1,d',h,e=>by
  obtain⟨k',v',h1,h2,h3⟩:=yo.get (i:=i) h.2 (by simpa using e);exact⟨k',v',by simpa using h1,by simpa using h2,h3⟩
 | [],[],_::_,_,_,h,_=>h.elim
 | [],_::_,_,_,_,h,_=>h.elim
 | _::_,[],_,_,_,h,_=>h.elim
 | _::_,_::_,[],_,_,h,_=>h.elim
theorem Y9{O:List Addr}{H:Hp}{ks:List Bool}{ds:List D}{vs:List V}{n i:Nat}{s:Sl}(h:yo K O H ks ds vs)(hs:s≠.un)(e:(Z3 ks ds n)[i]?=some s):∃k d v,vs[i]?=some v/\AK K O H k d v/\s=(if k=true then Sl.cl d else Sl.bo d):=by
 unfold Z3 at e;have hl:=h.len;by_cases hi:i < ds.length
 ·rw[List.getElem?_append_left (by rw[List.length_zipWith];omega),List.getElem?_zipWith]at e;have hd:ds[i]?=some ds[i]:=by simp[hi]
  obtain⟨k,v,h1,h2,h3⟩:=h.get hd;rw[h1,hd]at e;cases e;exact⟨k,_,v,h2,h3,rfl⟩
 ·rw[List.getElem?_append_right (by rw[List.length_zipWith];omega),List.getElem?_replicate]at e;split at e
  ·cases e;exact vDa rfl hs
  ·cases e
theorem ab{O:List Addr}{H:Hp}{ks:List Bool}{ds:List D}{vs:List V}{n:Nat}(h:yo K O H ks ds vs)(al:∀a∈O,H a≠none):Rel K H O (Z3 ks ds n) (vs.map some++List.replicate n none) H O:=by
 have hl:=h.len;have at':∀{i:Nat} {v:V},vs[i]?=some v->(vs.map some++List.replicate n none)[i]?=some (some v):=fun {i v} e=>by
  have:=(List.getElem?_eq_some_iff.mp e).1;rw[List.getElem?_append_left (by rw[List.length_map];exact this),List.getElem?_map,e];rfl
 refine⟨?_,fun a h=>h,fun a h=>.inl h,al,al,j4.refl _,?_,?_,?_,?_,?_⟩
 ·unfold Z3;rw[List.length_append,List.length_append,List.length_map,List.length_replicate,List.length_replicate,List.length_zipWith];omega
 ·intro i d e;obtain⟨k,d',v,h1,h2,h3⟩:=Y9 h (by intro z;cases z) e;cases k with
  | true=>cases h3;exact⟨v,at' h1,h2⟩
  | false=>cases h3
 ·intro i d e;obtain⟨k,d',v,h1,h2,h3⟩:=Y9 h (by intro z;cases z) e;cases k with
  | true=>cases h3
  | false=>cases h3;exact⟨v,at' h1,h2⟩
 ·intro i q o e;obtain⟨k,d',v,h1,h2,h3⟩:=Y9 h (by intro z;cases z) e;cases k <;> cases h3
 ·intro i j q q' o o' l e;obtain⟨k,d',v,h1,h2,h3⟩:=Y9 h (by intro z;cases z) e;cases k <;> cases h3
 ·intro i ls e;obtain⟨k,d',v,h1,h2,h3⟩:=Y9 h (by intro z;cases z) e;cases k <;> cases h3
@[simp] def J7(ks:List Bool)(n:Nat)(body:DS):List D->Option D:=fun ds=>(body (Z3 ks ds n)).bind fun r=>match r with
 | .rt d=>some d
 | .rf o=>some o.toD
 | .nx _=>some .non
 | _=>none
@[simp] def kC(ks:List Bool)(n:Nat)(body:DS):List D->Option OD:=fun ds=>(body (Z3 ks ds n)).bind fun r=>match r with
 | .rf o=>some o
 | _=>none
@[simp] def xc(C:Addr)(ks:List Bool)(n:Nat)(body:DS):Addr->List D->Option OD:=fun p ds=>(body (.ow (some p) (.ins C [] [])::Z3 ks ds n)).bind fun r=>match r with
 | .nx ρ=>(match (ρ[0]?:Option Sl)with
  | some (Sl.ow q o)=>if q=some p then some o else none
  | _=>none)
 | _=>none
variable {P:Program} {w:World} {mg:Str->Option Value} {base:Heap} {x qual:Str} {f:Addr} {fd:FuncData} {N ps:List Str} {k n:Nat} {ks:List Bool} {body:DS}
theorem HX(F:Fun K x qual st f fd)(S:FnScope N ps (defScope st))(hk:ks.length=ps.length)(hn:N.length - ps.length=n)
  (hb:∀(cdv:Value) (A:Around) (outer:List Env) (s:Shared) (H:Hp) (E:XK),Room k (A.deeper (envOfC qual (defScope st) s.heap.objs.size f cdv))->Jc (zX Y5 P w K mg base N qual (defScope st) f cdv A outer s H E).nox (defBody st) (tS K body)):
  FnOk P w K mg base Y5 (k+1) f fd ps (ky K ks (J7 ks n body)):=by
 refine F.ok S (fun vs H Q E h=>?_) fun cdv A outer s H vs Q E hr h=>?_
 ·obtain⟨O,ds,d,_,ak,_⟩:=h;have:=ak.len;omega
 ·obtain⟨O,ds,d,al,ak,e,q⟩:=h;refine⟨_,hb cdv A outer s H E hr,?_⟩;obtain⟨r,e1,e2⟩:=j1 e;have hl:N.length - vs.length=n:=by have:=ak.len;omega
  unfold L2.YC;rw[hl];refine⟨H,O,_,O,r,ab ak al,e1,?_⟩;cases r with
  | rt d'=>cases e2;exact fun v H' s r=>q v H' s r
  | rf o=>
   cases e2;exact fun l H' s hl ow=>q _ H' s ((ow.same (fun _ z=>z) (Jx fun a h=>wMa _ h)).rep fun u z=>by rw[jA (fun y=>al l y hl)];exact z)
  | nx ρ=>cases e2;exact fun σ' H' O' R' _=>q _ H' R'.keep (by rw[j7])
  | bk ρ=>cases e2
  | ct ρ=>cases e2
theorem HY(F:Fun K x qual st f fd)(S:FnScope N ps (defScope st))(hk:ks.length=ps.length)(hn:N.length - ps.length=n)
  (hb:∀(cdv:Value) (A:Around) (outer:List Env) (s:Shared) (H:Hp) (E:XK),Room k (A.deeper (envOfC qual (defScope st) s.heap.objs.size f cdv))->Jc (zX Y5 P w K mg base N qual (defScope st) f cdv A outer s H E).nox (defBody st) (tS K body)):
  FnOk P w K mg base Y5 (k+1) f fd ps (WV K ks (kC ks n body)):=by
 refine F.ok S (fun vs H Q E h=>?_) fun cdv A outer s H vs Q E hr h=>?_
 ·obtain⟨O,ds,d,_,ak,_⟩:=h;have:=ak.len;omega
 ·obtain⟨O,ds,d,al,ak,e,q⟩:=h;refine⟨_,hb cdv A outer s H E hr,?_⟩;obtain⟨r,e1,e2⟩:=j1 e;have hl:N.length - vs.length=n:=by have:=ak.len;omega
  unfold L2.YC;rw[hl];refine⟨H,O,_,O,r,ab ak al,e1,?_⟩;cases r with
  | rt d'=>cases e2
  | rf o=>cases e2;exact q
  | nx ρ=>cases e2
  | bk ρ=>cases e2
  | ct ρ=>cases e2
theorem HZ{C:Addr}(F:Fun K x qual st f fd)(S:FnScope N ps (defScope st))(hk:ks.length+1=ps.length)(hn:N.length - ps.length=n)
  (hb:∀(cdv:Value) (A:Around) (outer:List Env) (s:Shared) (H:Hp) (E:XK),Room k (A.deeper (envOfC qual (defScope st) s.heap.objs.size f cdv))->Jc (zX Y5 P w K mg base N qual (defScope st) f cdv A outer s H E).nox (defBody st) (tS K body)):
  FnOk P w K mg base Y5 (k+1) f fd ps (Ax K C ks (xc C ks n body)):=by
 refine F.ok S (fun vs H Q E h=>?_) fun cdv A outer s H vs Q E hr h=>?_
 ·obtain⟨O,ds,p,dx,vs',o,rfl,_,_,_,ak,_⟩:=h;have:=ak.len;rw[List.length_cons];omega
 ·obtain⟨O,ds,p,dx,vs',o,rfl,al,hp,hpO,ak,e,q⟩:=h;refine⟨_,hb cdv A outer s H E hr,?_⟩;obtain⟨r,e1,e2⟩:=j1 e;have hl:N.length - (V.ref p::vs').length=n:=by have:=ak.len;rw[List.length_cons];omega
  unfold L2.YC;rw[hl];have al':∀a∈O,j6 H [p] a≠none:=fun a ha=>by
   rw[jA (by intro z;simp at z;exact hpO (z▸ha))];exact al a ha
  have R0:=ab (n:=n) ak al';have np:j6 H [p] p=none:=Zr wNa;have sH:j4 (j6 H [p]) H:=JC;have sd:j4 (j6 (j6 H [p]) O) (j6 H (p::O)):=fun b u z=>by
   obtain⟨z1,z2⟩:=J0 z;obtain⟨z3,z4⟩:=J0 z2;rw[jA (by intro y;rcases List.mem_cons.mp y with y | y;exact z3 (by rw[y];exact List.mem_cons_self);exact z1 y)];exact z4
  have R:Rel K (j6 H [p]) O (.ow (some p) (.ins C [] [])::Z3 ks ds n) (List.map some (V.ref p::vs')++List.replicate n none) H (p::O):=by
   refine⟨?_,fun a h=>wMa _ h,?_,al',?_,sH,?_,?_,?_,?_,?_⟩
   ·have:=R0.len;rw[List.length_cons,List.map_cons,List.cons_append,List.length_cons,this]
   ·intro a ha;rcases List.mem_cons.mp ha with rfl | ha
    ·exact .inr np
    ·exact .inl ha
   ·intro a ha;rcases List.mem_cons.mp ha with rfl | ha
    ·rw[hp];exact fun z=>nomatch z
    ·exact al a ha
   ·intro i d e;cases i with
    | zero=>cases e
    | succ i=>
     obtain⟨v,h1,h2⟩:=R0.cl i d e;exact⟨v,h1,h2.same sd⟩
   ·intro i d e;cases i with
    | zero=>cases e
    | succ i=>exact R0.bo i d e
   ·intro i q' o' e;cases i with
    | zero=>
     cases e;exact⟨p,(fun p' z=>vFa z),rfl,⟨dx,[],hp,rfl,j3.nil⟩,wNa,np⟩
    | succ i=>
     obtain⟨k',d',v,_,_,h3⟩:=Y9 ak (by intro z;cases z) e;cases k' <;> cases h3
   ·intro i j q1 q2 o1 o2 l e e';have z:∀(i:Nat) (q':Option Addr) (o':OD),(Sl.ow (some p) (.ins C [] [])::Z3 ks ds n)[i]?=some (.ow q' o')->i=0:=fun i q' o' e=>by
     cases i with
     | zero=>rfl
     | succ i=>
      obtain⟨k',d',v,_,_,h3⟩:=Y9 ak (by intro z;cases z) e;cases k' <;> cases h3
    intro _ _;rw[z i _ _ e,z j _ _ e']
   ·intro i ls e;cases i with
    | zero=>cases e
    | succ i=>
     obtain⟨k',d',v,_,_,h3⟩:=Y9 ak (by intro z;cases z) e;cases k' <;> cases h3
  refine⟨j6 H [p],O,_,p::O,r,R,e1,?_⟩;cases r with
  | nx ρ=>
   intro σ' H' O' R' _;have e2:(match (ρ[0]?:Option Sl)with
    | some (Sl.ow q o)=>if q=some p then some o else none
    | _=>none)=some o:=e2
   split at e2
   ·rename_i qq o' h0;split at e2
    ·rename_i hq;cases e2;subst hq;obtain⟨l,hl2,_,ow,lo,_⟩:=R'.ow 0 _ _ h0;have el:=hl2 p rfl;subst el;refine q H' R'.keep (ow.same (fun _ z=>z) (Jx fun a ha=>?_));rcases List.mem_cons.mp ha with rfl | ha
     ·exact lo
     ·exact R'.sub a ha
    ·cases e2
   ·cases e2
  | rt d'=>cases e2
  | rf o=>cases e2
  | bk ρ=>cases e2
  | ct ρ=>cases e2
end
section
variable {K:Fr} {H0 H H':Hp} {O0 O:List Addr} {ρ:j9} {σ:L2.St}
theorem yz{F:List Addr}(s:j4 H H')(hn:∀a∈F,H a=none):j4 (j6 H O) (j6 H' (F++O)):=fun b o h=>by
 obtain⟨h1,h2⟩:=J0 h;rw[jA fun z=>?_]
 ·exact s _ _ h2
 ·rcases List.mem_append.mp z with z | z
  ·rw[hn b z]at h2;cases h2
  ·exact h1 z
theorem JW.there(R:Rel K H0 O0 ρ σ H O){a:Addr}:JW ρ σ a->H a≠none:=fun⟨j,q,o,e,z⟩=>by
 obtain⟨l,_,h1,h2,_⟩:=R.ow j q o e;rw[z]at h1;cases h1;exact h2.there
theorem Rel.lay{F:List Addr}(R:Rel K H0 O0 ρ σ H O)(s:j4 H H')(hn:∀a∈F,H a=none)(hA:∀a∈F,H' a≠none):Rel K H0 O0 ρ σ H' (F++O) where
 len:=R.len
 sub:=fun a h=>vJa _ (R.sub a h)
 fr:=fun a ha=>(List.mem_append.mp ha).elim (fun z=>.inr (R.keep.none (hn a z))) (R.fr a)
 al0:=R.al0
 al:=fun a ha=>(List.mem_append.mp ha).elim (hA a) fun z y=>R.al a z (s.none y)
 keep:=R.keep.trans s
 cl:=fun i d e=>by obtain⟨v,a,b⟩:=R.cl i d e;exact⟨v,a,b.same (yz s hn)⟩
 bo:=R.bo
 ow:=fun i q o e=>by obtain⟨l,z,a,b,d,f⟩:=R.ow i q o e;exact⟨l,z,a,b.same (s l) (yz s hn),vJa _ d,f⟩
 dist:=R.dist
 lo:=R.lo.up (fun _ _ e=>⟨e,rfl⟩) (fun _ _ z=>z) (fun a h _=>⟨vJa _ h,fun u z=>s a u z⟩) (yz s hn)
theorem Rel.poke{a:Addr}{u:HO}(R:Rel K H0 O0 ρ σ H O)(nl:∀(i:Nat) (ls:List (List D)),ρ[i]?≠some (.lo ls))(ha:a∈O)(h0:H0 a=none)(nf:¬JW ρ σ a):Rel K H0 O0 ρ σ (upd H a u) O where
 len:=R.len
 sub:=R.sub
 fr:=R.fr
 al0:=R.al0
 al:=fun b hb=>by
  by_cases z:b=a
  ·rw[z,jH];exact fun z=>nomatch z
  ·rw[jo z];exact R.al b hb
 keep:=R.keep.upd h0 _
 cl:=fun i d e=>by rw[Jb ha];exact R.cl i d e
 bo:=R.bo
 ow:=fun i q o e=>by
  obtain⟨l,z,h1,h2,h3⟩:=R.ow i q o e;rw[Jb ha];exact⟨l,z,h1,h2.same (fun u y=>by rw[jo fun w=>nf ⟨i,q,o,e,by rw[<-w];exact h1⟩];exact y) (j4.refl _),h3⟩
 dist:=R.dist
 lo:=fun i ls e=>vDa e (nl i ls)
theorem Rel.loSet{i:Nat}{l:Addr}{ps:List Addr}{ls:List (List D)}(R:Rel K H0 O0 ρ σ H O)(nl:∀(j:Nat) (ls:List (List D)),j≠i->ρ[j]?≠some (.lo ls))(yP:Z0 K H (j6 H O) l ps ls)(nd:(l::ps).Nodup)(fp:∀a∈l::ps,a∈O/\H0 a=none/\¬JW ρ σ a):
  Rel K H0 O0 (ρ.set i (.lo ls)) (σ.set i (some (.ref l))) H O where
 len:=by rw[List.length_set,List.length_set];exact R.len
 sub:=R.sub
 fr:=R.fr
 al0:=R.al0
 al:=R.al
 keep:=R.keep
 cl:=fun j d e=>by
  rcases jp e with⟨rfl,e',_⟩ | ⟨ne,e'⟩
  ·cases e'
  ·rw[Jo ne];exact R.cl j d e'
 bo:=fun j d e=>by
  rcases jp e with⟨rfl,e',_⟩ | ⟨ne,e'⟩
  ·cases e'
  ·rw[Jo ne];exact R.bo j d e'
 ow:=fun j q o e=>by
  rcases jp e with⟨rfl,e',_⟩ | ⟨ne,e'⟩
  ·cases e'
  ·rw[Jo ne];exact R.ow j q o e'
 dist:=fun j k q1 q2 o1 o2 a e1 e2 s1 s2=>by
  rcases jp e1 with⟨rfl,e',_⟩ | ⟨n1,e1'⟩
  ·cases e'
  ·rcases jp e2 with⟨rfl,e',_⟩ | ⟨n2,e2'⟩
   ·cases e'
   ·rw[Jo n1]at s1;rw[Jo n2]at s2;exact R.dist j k q1 q2 o1 o2 a e1' e2' s1 s2
 lo:=fun j ms e=>by
  rcases jp e with⟨rfl,e',hj⟩ | ⟨ne,e'⟩
  ·cases e';refine⟨l,ps,Zs (by rw[R.len];exact hj),yP,nd,fun a ha=>⟨(fp a ha).1,(fp a ha).2.1,fun z=>(fp a ha).2.2 ?_⟩,fun k ms e2=>?_⟩
   ·exact UH (by intro _ _ z;cases z) R.len z
   ·rcases jp e2 with⟨rfl,_,_⟩ | ⟨ne,e'⟩
    ·rfl
    ·exact vDa e' (nl k ms ne)
  ·exact vDa e' (nl j ms ne)
noncomputable def fz:Sl->Sl
 | .lo ls=>.cl (.lst (ls.map D.lst))
 | s=>s
noncomputable def frz(ρ:j9):j9:=ρ.map fz
theorem Zt{j:Nat}{s:Sl}(e:(frz ρ)[j]?=some s):(ρ[j]?=some s/\∀ls,s≠.lo ls)∨∃ls,ρ[j]?=some (.lo ls)/\s=.cl (.lst (ls.map D.lst)):=by
 unfold frz at e;rw[List.getElem?_map]at e;cases h:ρ[j]? with
 | none=>rw[h]at e;cases e
 | some t=>
  rw[h]at e;have e:=vFa e;cases t with
  | lo ls=>exact .inr ⟨ls,rfl,e.symm⟩
  | un=>exact .inl ⟨by rw[<-e];rfl,fun ls z=>by rw[z]at e;cases e⟩
  | cl d=>exact .inl ⟨by rw[<-e];rfl,fun ls z=>by rw[z]at e;cases e⟩
  | bo d=>exact .inl ⟨by rw[<-e];rfl,fun ls z=>by rw[z]at e;cases e⟩
  | ow q o=>exact .inl ⟨by rw[<-e];rfl,fun ls z=>by rw[z]at e;cases e⟩
theorem jQ.reps{Hd Hd':Hp}(sd:j4 Hd Hd'):∀{as:List Addr} {ls:List (List D)},(∀a∈as,Hd' a=H a)->jQ K Hd H as ls->j3 K Hd' (ls.map D.lst) (as.map V.ref)
 | [],[],_,_=>j3.nil
 | a::as,m::r,s,h=>by
  obtain⟨⟨vs,h1,h2⟩,h3⟩:=h;refine j3.cons ?_ (jQ.reps sd (fun b hb=>s b (wMa _ hb)) h3);rw[j7];exact⟨a,vs,rfl,by rw[s a List.mem_cons_self];exact h1,h2.same sd⟩
 | [],_::_,_,h=>h.elim
 | _::_,[],_,h=>h.elim
theorem Rel.frz(R:Rel K H0 O0 ρ σ H O):∃O',Rel K H0 O0 (frz ρ) σ H O'/\(∀a∈O,a∈O'∨∃vs,H a=some (.lst vs))/\∀a∈O',a∈O:=by
 obtain⟨fp,f1,f2⟩:∃fp:List Addr,(∀a∈fp,H0 a=none/\¬JW ρ σ a/\∃vs,H a=some (.lst vs))/\∀(i:Nat) (ls:List (List D)),ρ[i]?=some (.lo ls)->∃l ps,σ[i]?=some (some (.ref l))/\Z0 K H (j6 H O) l ps ls/\∀a∈l::ps,a∈fp:=by
  by_cases hl:∃(i:Nat) (ls:List (List D)),ρ[i]?=some (.lo ls)
  ·obtain⟨i,ls,hi⟩:=hl;obtain⟨l,ps,hs,a1,_,fp,un⟩:=R.lo i ls hi;refine⟨l::ps,fun a ha=>⟨(fp a ha).2.1,(fp a ha).2.2,a1.at a ha⟩,fun j ms e=>?_⟩;have:=un j ms e;subst this;rw[hi]at e;cases e;exact⟨l,ps,hs,a1,fun a h=>h⟩
  ·exact⟨[],(fun a h=>by cases h),fun i ls e=>vDa ⟨i,ls,e⟩ hl⟩
 have ss:j4 (j6 H O) (j6 H (O.filter fun a=>decide (a∉fp))):=Jx fun a h=>(List.mem_filter.mp h).1;have out:∀a∈fp,j6 H (O.filter fun a=>decide (a∉fp)) a=H a:=fun a ha=>jA fun z=>by simpa[ha]using (List.mem_filter.mp z).2
 refine⟨O.filter fun a=>decide (a∉fp),⟨?_,fun a h=>List.mem_filter.mpr ⟨R.sub a h,vAa fun z=>R.al0 a h (f1 a z).1⟩,fun a h=>R.fr a (List.mem_filter.mp h).1,R.al0,fun a h=>R.al a (List.mem_filter.mp h).1,R.keep,?_,?_,?_,?_,?_⟩,fun a ha=>if h:a∈fp then .inr (f1 a h).2.2 else .inl (List.mem_filter.mpr ⟨ha,vAa h⟩),fun a h=>(List.mem_filter.mp h).1⟩
 ·unfold DS.frz;rw[List.length_map];exact R.len
 ·intro i d e;rcases Zt e with⟨e,_⟩ | ⟨ls,e9,z⟩
  ·obtain⟨v,a,b⟩:=R.cl i d e;exact⟨v,a,b.same ss⟩
  ·cases z;obtain⟨l,ps,hs,⟨h1,h2⟩,hin⟩:=f2 i ls e9;refine⟨_,hs,?_⟩;rw[j7];exact⟨l,_,rfl,by rw[out l (hin l List.mem_cons_self)];exact h1,h2.reps ss fun a ha=>out a (hin a (wMa _ ha))⟩
 ·intro i d e;rcases Zt e with⟨e,_⟩ | ⟨ls,e,z⟩
  ·exact R.bo i d e
  ·cases z
 ·intro i q o e;rcases Zt e with⟨e,_⟩ | ⟨ls,e,z⟩
  ·obtain⟨l,z,a,b,d,f⟩:=R.ow i q o e;exact⟨l,z,a,b.same (fun _ z=>z) ss,List.mem_filter.mpr ⟨d,vAa fun y=>(f1 l y).2.1 ⟨i,q,o,e,a⟩⟩,f⟩
  ·cases z
 ·intro i j q q' o o' l e e';rcases Zt e with⟨e,_⟩ | ⟨ls,e,z⟩
  ·rcases Zt e' with⟨e',_⟩ | ⟨ls,e',z⟩
   ·exact R.dist i j q q' o o' l e e'
   ·cases z
  ·cases z
 ·intro i ls e;rcases Zt e with⟨_,z⟩ | ⟨_,_,z⟩
  ·exact vDa rfl (z ls)
  ·cases z
end
mutual
@[simp] noncomputable def xf:D->Bool
 | .non=>true
 | .bl _=>true
 | .int _=>true
 | .str _=>true
 | .tup l=>YI l
 | _=>false
@[simp] noncomputable def YI:List D->Bool
 | []=>true
 | d::ds=>xf d&&YI ds
end
mutual
theorem we{K:Fr}{H H':Hp}(k:Vi H H'):∀{d:D} {v:V},xf d=true->j7 K H d v->j7 K H' d v
 | .non,_,_,h=>by rw[j7]at h⊢;exact h
 | .bl _,_,_,h=>by rw[j7]at h⊢;exact h
 | .int _,_,_,h=>by rw[j7]at h⊢;exact h
 | .str _,_,_,h=>by rw[j7]at h⊢;exact h
 | .tup l,_,n,h=>by
  rw[j7]at h⊢;obtain⟨a,xs,rfl,q,r⟩:=h;rw[xf]at n;exact⟨a,xs,rfl,k.sqT q,v8 k n r⟩
 | .lst _,_,n,_=>by simp at n
 | .ins _ _ _,_,n,_=>by simp at n
 | .scr _,_,n,_=>by simp at n
 | .dct _ _,_,n,_=>by simp at n
theorem v8{K:Fr}{H H':Hp}(k:Vi H H'):∀{ds:List D} {vs:List V},YI ds=true->j3 K H ds vs->j3 K H' ds vs
 | [],_,_,h=>by rw[j3]at h⊢;exact h
 | d::ds,_,n,h=>by
  rw[j3]at h;obtain⟨v,r,rfl,a,b⟩:=h;rw[YI,Bool.and_eq_true]at n;exact j3.cons (we k n.1 a) (v8 k n.2 b)
end
section
variable {X:Cx} {K:Fr} {e:Expr} {de:DE}
theorem fV{dt:DT}(h:PT X e (tT K dt)):PT X e (tT K fun ρ=>dt (frz ρ)):=gx h fun σ H Q xx=>by
 obtain⟨H0,O0,ρ,O,b,R,ed,q⟩:=xx;obtain⟨O',R',_⟩:=R.frz;exact⟨H0,O0,_,O',b,R',ed,q⟩
def Ys(d:D):Option D:=if xf d=true then some d else none
theorem xg{H H':Hp}{O O':List Addr}(f:∀a∈O,a∈O'∨∃vs,H a=some (.lst vs))(s:j4 H H')(F:List Addr):Vi (j6 H' (F++O')) (j6 H' (F++O)):=fun b o i h=>by
 obtain⟨h1,h2⟩:=J0 h;rw[jA fun z=>?_]
 ·exact h2
 ·rcases List.mem_append.mp z with z | z
  ·exact h1 (vIa _ z)
  ·rcases f b z with z | ⟨vs,z⟩
   ·exact h1 (vJa _ z)
   ·rw[s _ _ z]at h2;cases h2;cases i
theorem AI(h:PE X e (tE K de)):PE X e (tE K fun ρ=>(de (frz ρ)).bind Ys):=jy h fun σ H Q xx=>by
 obtain⟨H0,O0,ρ,O,d,R,ed,q⟩:=xx;obtain⟨d',e1,e2⟩:=j1 ed;obtain⟨O',R',f,_⟩:=R.frz;unfold Ys at e2;split at e2
 ·rename_i ht;cases e2;exact⟨H0,O0,_,O',_,R',e1,fun v H' s r=>q v H' s (we (xg f s []) ht r)⟩
 ·cases e2
def zF(o:OD):Option OD:=match o with
 | .lst m=>if YI m=true then some (.lst m)else none
 | _=>none
theorem fW{df:DO}(h:PE X e (tF K df)):PE X e (tF K fun ρ=>(df (frz ρ)).bind zF):=jy h fun σ H Q xx=>by
 obtain⟨H0,O0,ρ,O,d,R,ed,q⟩:=xx;obtain⟨d',e1,e2⟩:=j1 ed;obtain⟨O',R',f,_⟩:=R.frz;cases d' with
 | lst m=>
  unfold zF at e2;dsimp only at e2;split at e2
  ·rename_i ht;cases e2;refine⟨H0,O0,_,O',_,R',e1,fun l H' s hn ow=>q l H' s hn ?_⟩;obtain⟨vs,h1,h2⟩:=ow;exact⟨vs,h1,v8 (xg f s [l]) ht h2⟩
  ·cases e2
 | _=>cases e2
theorem fX{st:Stmt}{ds:DS}(h:PS X st (tS K ds)):PS X st (tS K fun ρ=>ds (frz ρ)):=jZ h fun D σ H xx=>by
 obtain⟨H0,O0,ρ,O,r,R,ed,f⟩:=xx;obtain⟨O',R',_,g⟩:=R.frz;refine⟨H0,O0,_,O',r,R',ed,f.mono (Jx g)⟩
end
end DS
namespace L2
open PySem PySem.Spec PyProof.Rows
def Yt(h:Heap)(d:Addr)(es:Array DictEntry)(ep:Nat):Prop:=∃o,h.get? d=some o/\o.ExactDict/\o.data=.dict es ep
theorem Yt.ty{s:Shared}{d:Addr}{es:Array DictEntry}{ep:Nat}(m:Yt s.heap d es ep):s.TypeIs (.ref d) "dict" := let ⟨o,g,c,_⟩:=m;⟨o,g,c.1⟩
theorem Yt.at{h h':Heap}{d:Addr}{es:Array DictEntry}{ep:Nat}(m:Yt h d es ep)(e:∀o,h.get? d=some o->h'.get? d=some o):Yt h' d es ep:=let ⟨o,g,c⟩:=m;⟨o,e _ g,c⟩
section
variable {prog:Program} {w:World} {A:Around} {E:Value->Shared->Prop} {s:Shared} {d it:Addr} {es:Array DictEntry} {ep i:Nat}
theorem ad{Q:Value->Shared->Prop}(hd:(d==sysModules)=false)(m:Yt s.heap d es ep)
  (q:Q (.ref s.heap.objs.size) { s with heap:=s.heap.push { cls:=.type "dict_keyiterator",data:=.fields #[.ref d,.int 0 0,.int es.size 0,.int ep 0] } }):wpAny (model prog w) A (pyIter (.ref d)) Q E s:=by
 have ty:=m.ty;obtain⟨o,g,c,dt⟩:=m;refine wpAny_pyIter_slot ty F.slot_dict_iter (wpAny_call_entry F.slot_dict_iter ty F.entry_dict_iter (wAa (wAa (wpAny_notOrdered_dict ty ?_))) (F.args_dict_iter_1 _));refine(show wpAny _ _ (pure (Value.ref d)) _ _ s from wBa (show wpAny _ _ (Builtin.Dict.showsAll d >>= _) _ _ s from ?_));unfold Builtin.Dict.showsAll;rw[if_neg (by rw[hd];decide)];refine wAa (wBa (wAa (wpAny_dictEntries g dt (wAa (wpAny_dictEpoch g dt (wAa (vTa (wBa ⟨_,rfl, "dict_keyiterator",_,⟨_,wJa _ rfl,rfl⟩,F.slot_dict_keyiterator_next.lookup,?_⟩))))))));simpa[rawInt]using q
theorem ae{e:DictEntry}{Q:Option Value->Shared->Prop}(k:s.heap.IsKeyIter it d i es.size ep)(m:Yt s.heap d es ep)(x:es[i]?=some e)
  (q:∀h',h'.IsKeyIter it d (i+1) es.size ep->Heap.SameBut it s.heap h'->Q (some e.key) { s with heap:=h' }):wpAny (model prog w) A (pyNext (.ref it)) Q E s:=by
 have ty:=k.typeIs;obtain⟨o,g,c,dt⟩:=k;obtain⟨od,gd,_,dd⟩:=m;have own:Builtin.Dict_items.ownsTuple "dict_keyiterator" = false:=by decide
 unfold pyNext;refine wAa (wpAny_attempt (wpAny_callSpecial?_slot (name:=Str.ofString "__next__") ty F.slot_dict_keyiterator_next (wpAny_call_entry F.slot_dict_keyiterator_next ty F.entry_dict_keyiterator_next (wAa (wBa (wAa (wAa ?_)))) (F.args_dict_keyiterator_next_1 _))));refine wAa (wpAny_typeNameOfWhole_keyiter ty (wBa (wAa (wpAny_fieldsOf g dt ?_))));simp only[own,Bool.false_eq_true,if_false];refine(show wpAny _ _ (if (Value.ref d==Value.none)=true then _ else _) _ _ s from ?_);rw[if_neg (fun z:(Value.ref d==Value.none)=true=>by cases z)];refine wAa (wBa (wAa (wpAny_dictEntries gd dd ?_)));rw[if_neg (by simp)];refine wAa (wBa (wAa (wpAny_dictEpoch gd dd ?_)));rw[if_neg (by simp)];refine wBa ?_;simp only[show¬((i:Int) < 0) by omega,if_false,Int.toNat_natCast,x];refine wAa (wAa (wpAny_typeNameOfWhole_keyiter ty (wBa (wAa (wpAny_isOneOf_keyiter ty ?_)))));refine(show wpAny _ _ (setField (.ref it) 1 (rawInt ((i:Int)+1)) >>= _) _ _ s from wAa (wpAny_setField g dt (by simp) ?_));have k':(s.heap.update it (Obj.mapFields (·.setIfInBounds 1 (rawInt ((i:Int)+1))))).IsKeyIter it d (i+1) es.size ep:=
  ⟨_,vUa _ g (Obj.isFreed_of_fields (Obj.data_mapFields dt _)),(Obj.cls_mapFields ..).trans c,by rw[Obj.data_mapFields dt];simp[rawInt]⟩
 refine wAa (wDa (wAa (wpAny_isOneOf_keyiter (s:={ s with heap:=s.heap.update it (Obj.mapFields (·.setIfInBounds 1 (rawInt ((i:Int)+1)))) }) k'.typeIs ?_)));exact(show wpAny _ _ (pure e.key) _ _ _ from wBa (wBa ⟨_,rfl,wBa (q _ k' (Heap.SameBut.update ..))⟩))
theorem B6{Q:Option Value->Shared->Prop}(hh:A.handled=none)(k:s.heap.IsKeyIter it d i es.size ep)(m:Yt s.heap d es ep)(x:es.size<=i)
  (q:∀h',Heap.ExtBut it s.heap h'->Q none { s with heap:=h' }):wpAny (model prog w) A (pyNext (.ref it)) Q E s:=by
 have ty:=k.typeIs;obtain⟨o,g,c,dt⟩:=k;obtain⟨od,gd,_,dd⟩:=m;have own:Builtin.Dict_items.ownsTuple "dict_keyiterator" = false:=by decide
 unfold pyNext;refine wAa (wpAny_attempt (wpAny_callSpecial?_slot (name:=Str.ofString "__next__") ty F.slot_dict_keyiterator_next (wpAny_call_entry F.slot_dict_keyiterator_next ty F.entry_dict_keyiterator_next (wAa (wBa (wAa (wAa ?_)))) (F.args_dict_keyiterator_next_1 _))));refine wAa (wpAny_typeNameOfWhole_keyiter ty (wBa (wAa (wpAny_fieldsOf g dt ?_))));simp only[own,Bool.false_eq_true,if_false];refine(show wpAny _ _ (if (Value.ref d==Value.none)=true then _ else _) _ _ s from ?_);rw[if_neg (fun z:(Value.ref d==Value.none)=true=>by cases z)];refine wAa (wBa (wAa (wpAny_dictEntries gd dd ?_)));rw[if_neg (by simp)];refine wAa (wBa (wAa (wpAny_dictEpoch gd dd ?_)));rw[if_neg (by simp)];refine wBa ?_;simp only[show¬((i:Int) < 0) by omega,if_false,Int.toNat_natCast,Array.getElem?_eq_none x];refine wAa (wAa (wpAny_typeNameOfWhole_keyiter ty (wBa ?_)));refine(show wpAny _ _ (setField (.ref it) 0 .none >>= _) _ _ s from wAa (wpAny_setField g dt (by simp) (show wpAny _ _ (newExc (.type "StopIteration") [] >>= _) _ _ _ from wAa ?_)));simp only[newExc,newTuple];refine wAa (vTa (wAa (m:=firstArgMember _ _) (wpAny_of_eq (a:=Value.none) (by first | rfl | (simp only[firstArgMember];rfl)) (vTa ?_ (by size_fits)))) (by size_fits));simp only[raiseNew];refine wAa (wpAny_handled ?_);rw[show A.in1.handled=none from hh];refine wAa (wBa (wpAny_throw (wAa ?_)));exact wpAny_isInstance (T := "StopIteration") (b:=true) ⟨_,wJa _ rfl,rfl⟩ isSubtype_stop (wBa (q _ (((Heap.SameBut.update ..).extBut.push _).push _)))
end
section
variable {prog:Program} {w:World} {A:Around} {E:Value->Shared->Prop} {s:Shared} {d:Addr} {es:Array DictEntry} {ep:Nat}
theorem af{Q:Bool->Shared->Prop}(m:Yt s.heap d es ep)(q:Q false s):wpAny (model prog w) A (Builtin.List.listLengthHint (.ref d)) Q E s:=by
 have ty:=m.ty;unfold Builtin.List.listLengthHint;refine wAa (wpAny_specialOf ty F.slot_dict_len.lookup ?_);generalize nm:("dict.__len__" : String)=id0
 wp_delta
 rw[show splitId id0=some ("dict", "__len__") from by subst nm;decide +kernel];subst nm;refine wAa (wpAny_isInstance (T := "dict") (b:=true) ty (by rw[isSubtype_type];kernel_rfl) (wpAny_ite_split (fun z=>vDa z (by decide)) fun _=>?_));exact wpAny_ite_split (fun _=>wAa (wpAny_typeOf ty (wBa q))) fun z=>vDa (by decide +kernel) z
theorem xh(hh:A.handled=none)(I:Addr)(hne:d≠I):
  Walks prog w A I [I,d] [I] es.size (fun i v=>∃e,es[i]?=some e/\v=e.key) (fun i h=>h.IsKeyIter I d i es.size ep/\Yt h d es ep) where
 sub:=fun b hb=>by simp at hb;simp[hb]
 frame:=fun _ _ _ st hk=>⟨st.1.at fun o e=>hk I (by simp) o e,st.2.at fun o e=>hk d (by simp) o e⟩
 item:=fun i s Q E hi st hQ=>by
  have x:es[i]?=some es[i]:=by simp[hi]
  exact ae st.1 st.2 x fun h' k' sb=>hQ _ h' s.toks ⟨_,x,rfl⟩ ⟨k',st.2.at fun o e=>sb.extBut _ o hne e⟩ fun b o hb e=>sb.extBut b o (fun z=>hb (by simp[z])) e
 done:=fun s Q E st hQ=>B6 hh st.1 st.2 (wPa _) fun h' eb=>hQ h' s.toks fun b o hb e=>eb b o (fun z=>hb (by simp[z])) e
 self:=fun _ _ _ _ st hQ=>wpAny_pyIter_keyiter st.1 hQ
theorem ah{Q:Value->Shared->Prop}(hh:A.handled=none)(hd:(d==sysModules)=false)(m:Yt s.heap d es ep)(hz:es.size<=2 ^ 24)
  (q:∀h' tk acc c,(∀b o,s.heap.get? b=some o->h'.get? b=some o)->h'.get? s.heap.objs.size=some { cls:=.type "list",data:=.seq acc c }->acc.toList=es.toList.map (·.key)->Q (.ref s.heap.objs.size) { s with heap:=h',toks:=tk }):
  wpAny (model prog w) A (call (.type "list") [.ref d]) Q E s:=by
 have dlt:d < s.heap.objs.size:=by obtain⟨o,g,_⟩:=m;exact wLa g
 refine callType_codes (Q₁:=fun obj s₁=>obj=.ref s.heap.objs.size/\s₁={ s with heap:=s.heap.push { cls:=.type "list",data:=.seq #[] } }) F.called_list (F.typeCall_list_1 _) F.entry_list_init (code_list_new _ ⟨rfl,rfl⟩) ?_;rintro obj s₁ ⟨rfl,rfl⟩;obtain⟨S,hS⟩:∃S,s.heap.objs.size=S:=⟨_,rfl⟩
 rw[hS]at q dlt⊢;have g0:(s.heap.push { cls:=.type "list",data:=.seq #[] }).get? S=some { cls:=.type "list",data:=.seq #[] }:=by rw[<-hS];exact wJa _ rfl
 have m0:Yt (s.heap.push { cls:=.type "list",data:=.seq #[] }) d es ep:=m.at fun o e=>wIa _ e;have sz0:(s.heap.push { cls:=.type "list",data:=.seq #[] }).objs.size=S+1:=by rw[Heap.size_push,hS]
 have k0:∀b o,s.heap.get? b=some o->(s.heap.push { cls:=.type "list",data:=.seq #[] }).get? b=some o/\b≠S:=fun b o e=>⟨wIa _ e,wTa (by rw[<-hS];exact wLa e)⟩
 generalize s.heap.push { cls:=.type "list",data:=.seq #[] }=h0 at g0 m0 sz0 k0;refine⟨⟨_,g0,rfl⟩,F.args_list_init_2 _ _,?_⟩;have hSd:S≠d:=Ne.symm (wTa dlt);refine(show wpAny _ _ (do let old<-Builtin.List.listItems (.ref S);Builtin.List.listUpdate (.ref S) (fun _=>#[]);letGo old.toList.reverse;Builtin.List.listExtendWith (.ref S) (.ref d) .none) _ _ { s with heap:=h0 } from wAa (wAa (wpAny_seqItems g0 rfl (wBa ?_))));refine(show wpAny _ _ (updateSeq S (fun _=>#[]) >>= fun _=>letGo (#[]:Array Value).toList.reverse >>= fun _=>Builtin.List.listExtendWith (.ref S) (.ref d) .none) _ _ { s with heap:=h0 } from wAa (wpAny_updateSeq g0 rfl (wAa (wpAny_letGo ?_))));have oth:∀(h:Heap) (f:Obj->Obj) b o,b≠S->h.get? b=some o->(h.update S f).get? b=some o:=fun h f b o hb e=>(wKa _ _ (Ne.symm hb)).trans e;have g1:=vUa (Obj.mapSeq (fun _=>(#[]:Array Value))) g0 rfl;have m1:Yt (h0.update S (Obj.mapSeq (fun _=>(#[]:Array Value)))) d es ep:=m0.at fun o e=>oth _ _ _ o (Ne.symm hSd) e;have sz1:(h0.update S (Obj.mapSeq (fun _=>(#[]:Array Value)))).objs.size=S+1:=by rw[Heap.size_update,sz0]
 have k1:∀b o,s.heap.get? b=some o->(h0.update S (Obj.mapSeq (fun _=>(#[]:Array Value)))).get? b=some o/\b≠S:=fun b o e=>⟨oth _ _ b o (k0 b o e).2 (k0 b o e).1,(k0 b o e).2⟩
 generalize h0.update S (Obj.mapSeq (fun _=>(#[]:Array Value)))=h1 at g1 m1 sz1 k1;have W:=(xh (prog:=prog) (w:=w) (A:=A.in1.in1) (es:=es) (ep:=ep) hh (S+1) (d:=d) (wTa (Nat.lt_succ_of_lt dlt))).toS;have fin:∀(h:Heap) (c tk:Nat),h.IsKeyIter (S+1) d 0 es.size ep->Yt h d es ep->(∀b o,s.heap.get? b=some o->h.get? b=some o)->h.get? S=some { cls:=.type "list",data:=.seq #[] c }->
   codeAny (model prog w) A.in1 (.builtin "list.extend.loop" ⟨[.ref S,.ref (S+1),.none],[]⟩) (wants (fun r s₂=>r=Value.none/\Q (.ref S) s₂) E) { s with heap:=h,toks:=tk }:=by
  intro h c tk k mm kk gS;refine codeAny_extend_loopS W (by rw[sizeLine_eq];omega) S (by simp;omega) .none es.size 0 _ #[] c rfl (Nat.zero_le _) ⟨k,mm⟩ gS (ItemsOf.nil _) fun s' acc' c' hm hS' hacc=>?_;rw[Moved.eq_with hm];refine⟨rfl,q s'.heap s'.toks acc' c' (fun b o e=>hm.heap b o (fun z=>?_) (kk b o e)) hS' ?_⟩
  ·have lt:b < S:=by rw[<-hS];exact wLa e
   simp at z;rcases z with z | z
   ·exact wTa lt z
   ·exact wTa (Nat.lt_succ_of_lt lt) z
  ·refine List.ext_getElem? fun j=>?_;rw[List.getElem?_map];by_cases hj:j < acc'.size
   ·obtain⟨e,e1,e2⟩:=hacc.2 j acc'[j] (by simp[hj]);simp[hj,e1,e2]
   ·have:=hacc.1;simp[hj,show¬j < es.size by omega]
 unfold Builtin.List.listExtendWith;refine wAa (wpAny_typeOf (s:={ s with heap:=h1 }) (T := "dict") m1.ty ?_);have b1:Builtin.List.listSameRef (.ref S) (.ref d)=false:=by simp[Builtin.List.listSameRef,hSd]
 have b2:(Value.type "dict" == Value.type "list")=false:=by decide
 have b3:(Value.type "dict" == Value.type "tuple")=false:=by decide
 simp only[b1,b2,b3,Bool.or_false,Bool.false_eq_true,if_false];refine wAa (ad hd m1 ?_);have m2:Yt (h1.push { cls:=.type "dict_keyiterator",data:=.fields #[.ref d,.int 0 0,.int es.size 0,.int ep 0] }) d es ep:=m1.at fun o e=>wIa _ e;have i2:(h1.push { cls:=.type "dict_keyiterator",data:=.fields #[.ref d,.int 0 0,.int es.size 0,.int ep 0] }).IsKeyIter (S+1) d 0 es.size ep:=by rw[<-sz1];exact⟨_,wJa _ rfl,rfl,rfl⟩
 have g2:=wIa { cls:=.type "dict_keyiterator",data:=.fields #[.ref d,.int 0 0,.int es.size 0,.int ep 0] } g1;have k2:∀b o,s.heap.get? b=some o->(h1.push { cls:=.type "dict_keyiterator",data:=.fields #[.ref d,.int 0 0,.int es.size 0,.int ep 0] }).get? b=some o/\b≠S:=fun b o e=>⟨wIa _ (k1 b o e).1,(k1 b o e).2⟩
 show wpAny _ _ _ _ _ { s with heap:=h1.push { cls:=.type "dict_keyiterator",data:=.fields #[.ref d,.int 0 0,.int es.size 0,.int ep 0] } };rw[show Value.ref h1.objs.size=Value.ref (S+1) from congrArg _ sz1];generalize h1.push { cls:=.type "dict_keyiterator",data:=.fields #[.ref d,.int 0 0,.int es.size 0,.int ep 0] }=h2 at m2 i2 g2 k2;refine wAa (wDa (af (s:={ s with heap:=h2 }) m2 ?_));refine wpAny_ite_split (fun _=>?_) (fun _=>wBa ⟨plainId_quiet F.plain_extend_loop _,fin _ _ _ i2 m2 (fun b o e=>(k2 b o e).1) g2⟩);refine wAa (wpAny_rule (wAa (show wpAny _ _ (updateSeq S (·.push .none) >>= fun _=>updateSeq S (·.pop)) _ _ _ from wAa (wpAny_updateSeq g2 rfl ?_))));have g3:=vUa (Obj.mapSeq (·.push Value.none)) g2 rfl;refine wpAny_updateSeq (hz:=by seq_fits) g3 rfl ?_;have g4:=vUa (Obj.mapSeq (·.pop)) g3 rfl;have up:∀b o,b≠S->h2.get? b=some o->((h2.update S (Obj.mapSeq (·.push Value.none))).update S (Obj.mapSeq (·.pop))).get? b=some o:=fun b o hb e=>oth _ _ b o hb (oth _ _ b o hb e);exact wBa ⟨plainId_quiet F.plain_extend_loop _,fin _ _ _ (i2.at fun o e=>up _ o (by omega) e) (m2.at fun o e=>up _ o (Ne.symm hSd) e) (fun b o e=>up b o (k2 b o e).2 (k2 b o e).1) g4⟩
end
end L2
namespace DS
open PySem PySem.Spec PyProof.Rows L2
noncomputable def gJ(kvs:List (KD×Addr×V))(k:KD):Option V:=(kvs.find? fun p=>decide (p.1=k)).map (·.2.2)
def YV(kvs:List (KD×Addr×V))(k:KD)(b:Addr)(v:V):List (KD×Addr×V):=if (gJ kvs k).isSome then kvs.map (fun p=>if p.1=k then(p.1,p.2.1,v)else p)else kvs++[(k,b,v)]
abbrev zN:List (KD×Addr×V)->List (KD×Addr×Value)->Prop:=Paired fun(p:KD×Addr×V) (q:KD×Addr×Value)=>p.1=q.1/\p.2.1=q.2.1/\jt p.2.2 q.2.2
theorem zN.at{k:KD}:∀{kvs:List (KD×Addr×V)} {xs:List (KD×Addr×Value)},zN kvs xs->(∃v p,gJ kvs k=some v/\atKey xs k=some p/\jt v p.2)∨(gJ kvs k=none/\atKey xs k=none)
 | _,_,.nil=>.inr ⟨rfl,rfl⟩
 | _,_,@Paired.cons _ _ _ p q ps qs ⟨e1,e2,r⟩ t=>by
  unfold gJ atKey;rw[List.find?_cons,List.find?_cons,e1];by_cases h:q.1=k
  ·rw[decide_eq_true h];exact .inl ⟨_,_,rfl,rfl,r⟩
  ·rw[decide_eq_false h];exact zN.at t
theorem zN.put{k:KD}{b:Addr}{v:V}{u:Value}(rv:jt v u){kvs:List (KD×Addr×V)}{xs:List (KD×Addr×Value)}(h:zN kvs xs):zN (YV kvs k b v) (storedH xs k b u):=by
 have mp:∀{kvs:List (KD×Addr×V)} {xs:List (KD×Addr×Value)},zN kvs xs->zN (kvs.map (fun p=>if p.1=k then(p.1,p.2.1,v)else p)) (xs.map (putAt k u)):=by
  intro kvs xs h;induction h with
  | nil=>exact .nil
  | @cons p q ps qs r t ih=>
   obtain⟨e1,e2,r⟩:=r;rw[List.map_cons,List.map_cons];refine .cons ?_ ih;unfold putAt;rw[e1];split
   ·exact⟨rfl,e2,rv⟩
   ·exact⟨e1,e2,r⟩
 have ap:∀{kvs:List (KD×Addr×V)} {xs:List (KD×Addr×Value)},zN kvs xs->zN (kvs++[(k,b,v)]) (xs++[(k,b,u)]):=by
  intro kvs xs h;induction h with
  | nil=>exact .cons ⟨rfl,rfl,rv⟩ .nil
  | cons r t ih=>exact .cons r ih
 unfold YV storedH;rcases h.at (k:=k)with⟨w,p,e1,e2,_⟩ | ⟨e1,e2⟩
 ·rw[e1,e2];exact mp h
 ·rw[e1,e2];exact ap h
theorem wf(kvs:List (KD×Addr×V))(k:KD)(b:Addr)(v:V):(YV kvs k b v).length<=kvs.length+1:=by
 unfold YV;split <;> simp
section
variable {X:Cx} {pins:List (Addr×Obj)} {σ:L2.St} {H:Hp} {s:Shared}
mutual
theorem WW(I:Inv X pins σ H s):∀{d:D} {k:KD} {v:V} {u:Value},j7 X.K H d v->jt v u->yT d=some k->jE s.heap k u
 | .int i,k,v,u,h,r,e=>by
  rw[yT]at e;cases e;rw[j7]at h;subst h;rw[jE];exact .inl r
 | .bl i,k,v,u,h,r,e=>by
  rw[yT]at e;cases e;rw[j7]at h;subst h;rw[jE];exact .inr ⟨i,r,rfl⟩
 | .str i,k,v,u,h,r,e=>by
  rw[yT]at e;cases e;rw[j7]at h;subst h;rw[jE];exact r
 | .tup l,k,v,u,h,r,e=>by
  rw[yT]at e;obtain⟨ks,e1,e2⟩:=j1 e;cases e2;rw[j7]at h;obtain⟨a,xs,rfl,q,rs⟩:=h;cases r;obtain⟨its,vs,t,_⟩:=I.tuple q;rw[jE];exact⟨a,its.toArray,rfl,t,by simpa using wg I rs vs e1⟩
 | .non,k,v,u,h,r,e=>by rw[yT]at e <;> first | cases e | (intros;contradiction)
 | .lst _,k,v,u,h,r,e=>by rw[yT]at e <;> first | cases e | (intros;contradiction)
 | .ins _ _ _,k,v,u,h,r,e=>by rw[yT]at e <;> first | cases e | (intros;contradiction)
 | .scr _,k,v,u,h,r,e=>by rw[yT]at e <;> first | cases e | (intros;contradiction)
 | .dct _ _,k,v,u,h,r,e=>by rw[yT]at e <;> first | cases e | (intros;contradiction)
theorem wg(I:Inv X pins σ H s):∀{l:List D} {ks:List KD} {xs:List V} {us:List Value},j3 X.K H l xs->jh xs us->YD l=some ks->jW s.heap ks us
 | [],ks,xs,us,h,r,e=>by
  rw[YD]at e;cases e;rw[j3]at h;subst h;cases r;rw[jW]
 | d::l,ks,xs,us,h,r,e=>by
  rw[YD]at e;obtain⟨k,e1,e⟩:=j1 e;obtain⟨ks',e2,e⟩:=j1 e;cases e;rw[j3]at h;obtain⟨v,vs,rfl,h1,h2⟩:=h;cases r with
  | cons r1 r2=>
   rw[jW];exact⟨_,_,rfl,WW I h1 r1 e1,wg I h2 r2 e2⟩
end
theorem kD{d:D}{k:KD}(e:yc d=some k):yT d=some k/\k.dep<=8:=by
 unfold yc at e;split at e
 ·obtain⟨k',e1,e2⟩:=j1 e;split at e2
  ·cases e2;exact⟨e1,by assumption⟩
  ·cases e2
 ·cases e
theorem ur(I:Inv X pins σ H s){d:D}{k:KD}{b:Addr}(r:j7 X.K H d (.ref b))(e:yc d=some k):(yJ X.prog X.w).is s.heap k b:=⟨WW I r rfl (kD e).1,(kD e).2⟩
theorem B7(I:Inv X pins σ H s){kvs:List (KD×Addr×V)}{xs:List (KD×Addr×Value)}(pr:zN kvs xs):∀{ks:List D},jX ks=some (kvs.map (·.1))->j3 X.K H ks (kvs.map fun p=>V.ref p.2.1)->∀x∈xs,(yJ X.prog X.w).is s.heap x.1 x.2.1:=by
 induction pr with
 | nil=>intro ks _ _ x h;cases h
 | @cons p q ps qs rr t ih=>
  obtain⟨e1,e2,_⟩:=rr;intro ks e r x hx;cases ks with
  | nil=>rw[jX]at e;cases e
  | cons d ks=>
  rw[jX]at e;obtain⟨k,e3,e⟩:=j1 e;obtain⟨ks',e4,e⟩:=j1 e;rw[List.map_cons]at e;cases e;rw[List.map_cons,j3]at r;obtain⟨_,_,ee,r1,r2⟩:=r;cases ee;rcases List.mem_cons.mp hx with rfl | hx
  ·rw[<-e1,<-e2];exact ur I r1 e3
  ·exact ih e4 r2 x hx
structure DAt (K:Fr) (H:Hp) (a:Addr) (ks:List D) (kvs:List (KD×Addr×V)) (ep:Nat):Prop where
 at':H a=some (.dD kvs ep)
 k:jX ks=some (kvs.map (·.1))
 r:j3 K H ks (kvs.map fun p=>V.ref p.2.1)
theorem DAt.of(I:Inv X pins σ H s){a:Addr}{kvs:List (KD×Addr×V)}{ep:Nat}(h:H a=some (.dD kvs ep)):kvs.length<=sizeLine/\(a==sysModules)=false/\(kvs.map (·.1)).Nodup/\∃xs es,zN kvs xs/\Yt s.heap a es ep/\es.toList=xs.map (entryOfKey (yJ X.prog X.w)):=by
 obtain⟨z,y,nd,xs,r,o,es,e1,e2,e3,e4⟩:=I.hok a _ h;exact⟨z,y,nd,xs,es,r,⟨o,e1,e2,e3⟩,e4⟩
theorem zN.fst{kvs:List (KD×Addr×V)}{xs:List (KD×Addr×Value)}(h:zN kvs xs):xs.map (·.1)=kvs.map (·.1):=by
 induction h with
 | nil=>rfl
 | cons r _ ih=>rw[List.map_cons,List.map_cons,ih,r.1]
theorem DAt.dict(I:Inv X pins σ H s){a:Addr}{ks:List D}{kvs:List (KD×Addr×V)}{ep:Nat}(h:DAt X.K H a ks kvs ep):kvs.length<=sizeLine/\(a==sysModules)=false/\∃xs,zN kvs xs/\s.heap.DictOfH (yJ X.prog X.w) a xs:=by
 obtain⟨z,y,nd,xs,es,r,⟨o,e1,e2,e3⟩,e4⟩:=DAt.of I h.at';exact⟨z,y,xs,r,o,es,ep,e1,e2,e3,e4,B7 I r h.k h.r,by rw[r.fst];exact nd⟩
theorem GD{k:Nat}{A:Around}(hr:Room k A):A.in1.units+8 < cLine:=by
 rw[Around.in1_units];have:=hr.un;omega
def AJ(K:Fr):V->V->V->Hp->(Hp->Prop)->Prop:=fun o i v H Q=>∃a kvs ep b ks k dk,o=.ref a/\i=.ref b/\DAt K H a ks kvs ep/\j7 K H dk (.ref b)/\yc dk=some k/\kvs.length < sizeLine/\∀ep',Q (upd H a (.dD (YV kvs k b v) ep'))
theorem B8{n:Nat}(hr:Room n X.A):Xn X (AJ X.K):=by
 intro pins s σ H o i v ov iv u Q I ro ri rv h;obtain⟨a,kvs,ep,b,ks,k,dk,rfl,rfl,da,rb,ek,hl,q⟩:=h;cases ro;cases ri;obtain⟨zl,hd,xs,pr,dd⟩:=da.dict I;have hz:xs.length<=sizeLine:=by rw[<-Paired.length pr];exact zl
 refine wpAny_setItem_heap (hsz:=hz) (knd:=yJ X.prog X.w) (GD hr) (ur I rb ek) dd fun h' dd' hs=>?_;obtain⟨o,es,ep',e1,e2,e3,e4,_,e5⟩:=dd';have pr':=pr.put (k:=k) (b:=b) rv;have new:ya X.prog X.w (upd H a (.dD (YV kvs k b v) ep')) h' a (.dD (YV kvs k b v) ep'):=⟨by have:=wf kvs k b v;omega,hd,by rw[<-pr'.fst];exact e5,_,pr',o,es,e1,e2,e3,e4⟩
 exact⟨_,I.write (x:=a) (e:=a) (t':=s.toks+(yJ X.prog X.w).draws k) (by rw[da.at'];trivial) (.inl rfl) (fun c z hc e=>(hs.2 c hc).trans e) ⟨_,e1⟩ new,q ep'⟩
def ai(K:Fr)(neg:Bool):R2:=fun x y H Q=>∃a kvs ep b ks k dk,x=.ref b/\y=.ref a/\DAt K H a ks kvs ep/\j7 K H dk (.ref b)/\yc dk=some k/\Q (.bl (xor neg (gJ kvs k).isSome)) H
theorem xi{n:Nat}(hr:Room n X.A):jF X (compareOp .In) (ai X.K false):=by
 intro pins s σ H x y v u Q I rx ry h;obtain⟨a,kvs,ep,b,ks,k,dk,rfl,rfl,da,rb,ek,q⟩:=h;cases rx;cases ry;obtain⟨zl,hd,xs,pr,dd⟩:=da.dict I;refine wpAny_in_heap (knd:=yJ X.prog X.w) (GD hr) (ur I rb ek) hd dd ⟨_,H,I.tok _,?_,q⟩;rcases pr.at (k:=k)with⟨w,p,e1,e2,_⟩ | ⟨e1,e2⟩ <;> (rw[e1,e2];rfl)
theorem wj{n:Nat}(hr:Room n X.A):jF X (compareOp .NotIn) (ai X.K true):=by
 intro pins s σ H x y v u Q I rx ry h;obtain⟨a,kvs,ep,b,ks,k,dk,rfl,rfl,da,rb,ek,q⟩:=h;cases rx;cases ry;obtain⟨zl,hd,xs,pr,dd⟩:=da.dict I;refine wpAny_notIn_heap (knd:=yJ X.prog X.w) (GD hr) (ur I rb ek) hd dd ⟨_,H,I.tok _,?_,q⟩;rcases pr.at (k:=k)with⟨w,p,e1,e2,_⟩ | ⟨e1,e2⟩ <;> (rw[e1,e2];rfl)
def fY:TE:=fun _ H Q=>∀p,H p=none->Q (.ref p) (upd H p (.dD [] 0))
theorem Inv.big(I:Inv X pins σ H s):sysModules < s.heap.objs.size:=Nat.lt_trans (by decide) (show mainGlobals < s.heap.objs.size from(I.mod.glob.keeps I.bk).lt)
theorem B9{pos:Pos}:PE X (.Dict [] [] pos) fY:=fun pins s σ H Q I h=>
 wpAny_Dict_empty ⟨.ref s.heap.objs.size,_,I.laid (a:=s.heap.objs.size) (o:=.dD [] 0) (t':=s.toks) (fun _ _ q=>wIa _ q) (wPa _)
  ⟨Nat.zero_le _,beq_eq_false_iff_ne.mpr (Ne.symm (wTa (Inv.big I))),List.nodup_nil,[],.nil,_,#[],wJa _ rfl,⟨rfl,rfl,rfl⟩,rfl,rfl⟩,rfl,h _ (I.hok.fresh (wPa _))⟩
theorem zN.keys{kvs:List (KD×Addr×V)}{xs:List (KD×Addr×Value)}{P:Program}{w:World}(h:zN kvs xs):jh (kvs.map fun p=>V.ref p.2.1) ((xs.map (entryOfKey (yJ P w))).map (·.key)):=by
 induction h with
 | nil=>exact .nil
 | cons r _ ih=>exact .cons (by show Value.ref _=_;rw[r.2.1]) ih
theorem Q9(hc:X.calm=true):zB X (.type "list") (fun xs H Q=>∃a kvs ep,xs=[.ref a]/\H a=some (.dD kvs ep)/\∀l,H l=none->Q (.ref l) (upd H l (.lst (kvs.map fun p=>V.ref p.2.1)))):=by
 intro pins s σ H xs us Q I r h;obtain⟨a,kvs,ep,rfl,e,q⟩:=h;cases r with
 | cons r1 r2=>
 cases r2;cases r1;obtain⟨z,hd,nd,ys,es,pr,rd,ee⟩:=DAt.of I e;have hl:es.size=kvs.length:=by rw[<-Array.length_toList,ee,List.length_map,Paired.length pr]
 refine ah (I.ok.hd hc) hd rd (by rw[hl];exact z) fun h' tk acc c k g ea=>?_;refine⟨.ref s.heap.objs.size,_,I.laid (a:=s.heap.objs.size) (o:=.lst (kvs.map fun p=>V.ref p.2.1)) (t':=tk) k (wPa _) ⟨by simpa using z,acc.toList,c,?_,by simpa using g⟩,rfl,q _ (I.hok.fresh (wPa _))⟩;rw[ea,ee];exact pr.keys
end
noncomputable def ut:List KD->List D->KD->D->List D
 | q::qs,d::ds,k,v=>(if q=k then v else d)::ut qs ds k v
 | _,ds,_,_=>ds
def UL(neg:Bool):D->D->Option D
 | k,.dct ks _=>(yc k).bind fun q=>(jX ks).bind fun qs=>some (.bl (xor neg (decide (q∈qs))))
 | _,_=>none
section
variable {K:Fr} {H:Hp} {O:List Addr}
theorem wk{k:KD}:∀{kvs:List (KD×Addr×V)},(gJ kvs k).isSome=decide (k∈kvs.map (·.1))
 | []=>by simp[gJ]
 | p::kvs=>by
  unfold gJ;rw[List.find?_cons,List.map_cons];by_cases h:p.1=k
  ·rw[decide_eq_true h,decide_eq_true (by rw[h];exact List.mem_cons_self)];rfl
  ·rw[decide_eq_false h];have:=wk (k:=k) (kvs:=kvs);unfold gJ at this;refine this.trans ?_;by_cases hm:k∈kvs.map (·.1)
   ·rw[decide_eq_true hm,decide_eq_true (List.mem_cons_of_mem _ hm)]
   ·rw[decide_eq_false hm,decide_eq_false];intro z;rcases List.mem_cons.mp z with z | z
    ·exact h z.symm
    ·exact hm z
theorem wl{dk:D}{k:KD}{y:V}(h:RB K O H dk y)(e:yc dk=some k):∃b,y=.ref b/\j7 K H dk (.ref b):=by
 have f:=h.full;unfold yc at e;split at e
 ·have f0:=f;rw[j7]at f;obtain⟨a,xs,rfl,_⟩:=f;exact⟨a,rfl,f0⟩
 ·cases e
theorem AL{neg:Bool}:Jf K (ai K neg) (UL neg):=by
 intro O H a b d x y Q ha hb _ e q;unfold UL at e;split at e
 ·obtain⟨k,e1,e⟩:=j1 e;obtain⟨qs,e2,e⟩:=j1 e;cases e;obtain⟨p,kvs,ep,rfl,h1,h2,h3,h4⟩:=hb.dct;obtain⟨y,rfl,ry⟩:=wl ha e1;rw[h2]at e2;cases e2;exact⟨p,kvs,ep,y,_,k,_,rfl,rfl,⟨h1,h2,h3.same JC⟩,ry,e1,q _ H (j4.refl H) (by rw[j7,wk])⟩
 ·cases e
noncomputable def vc(qs:List KD)(ks:List D)(q:KD)(k:D):List D:=if q∈qs then ks else ks++[k]
def Vm(qs:List KD)(vs:List D)(q:KD)(v:D):List D:=if q∈qs then ut qs vs q v else vs++[v]
theorem Uk:∀{ks:List D} {qs:List KD} {k:D} {q:KD},jX ks=some qs->yc k=some q->jX (ks++[k])=some (qs++[q])
 | [],qs,k,q,e,f=>by
  rw[jX]at e;cases e;rw[List.nil_append,jX,f];rfl
 | d::ks,qs,k,q,e,f=>by
  rw[jX]at e;obtain⟨x,e1,e⟩:=j1 e;obtain⟨xs,e2,e⟩:=j1 e;cases e;rw[List.cons_append,jX,e1,Uk e2 f];rfl
theorem wm{k:KD}{v:V}{d:D}(rv:j7 K H d v):∀{kvs:List (KD×Addr×V)} {vs:List D},j3 K H vs (kvs.map (·.2.2))->j3 K H (ut (kvs.map (·.1)) vs k d) ((kvs.map (fun p=>if p.1=k then(p.1,p.2.1,v)else p)).map (·.2.2))
 | [],vs,r=>by
  rw[List.map_nil,List.map_nil,List.map_nil,ut]
  ·exact r
  all_goals (intros;contradiction)
 | p::kvs,[],r=>by rw[List.map_cons,j3]at r;cases r
 | p::kvs,d'::vs,r=>by
  rw[List.map_cons,j3]at r;obtain⟨_,_,ee,r1,r2⟩:=r;cases ee;rw[List.map_cons,List.map_cons,List.map_cons,ut];refine j3.cons ?_ (wm rv r2);by_cases h:p.1=k
  ·rw[if_pos h,if_pos h];exact rv
  ·rw[if_neg h,if_neg h];exact r1
theorem WX{β:Type}{k:KD}{v:V}{f:KD×Addr×V->β}(hf:∀p:KD×Addr×V,f (p.1,p.2.1,v)=f p):∀kvs:List (KD×Addr×V),(kvs.map (fun p=>if p.1=k then(p.1,p.2.1,v)else p)).map f=kvs.map f:=fun kvs=>by
 rw[List.map_map];refine List.map_congr_left fun p _=>?_;show f (if p.1=k then(p.1,p.2.1,v)else p)=f p;split
 ·exact hf p
 ·rfl
theorem WY{k:KD}{b:Addr}{v:V}{d dk:D}{ks vs:List D}{qs:List KD}{kvs:List (KD×Addr×V)}(e1:yc dk=some k)(e2:jX ks=some (kvs.map (·.1)))(rk:j3 K H ks (kvs.map fun p=>V.ref p.2.1))(rv:j3 K H vs (kvs.map (·.2.2)))(r1:j7 K H dk (.ref b))(r2:j7 K H d v):
  jX (vc (kvs.map (·.1)) ks k dk)=some ((YV kvs k b v).map (·.1))/\j3 K H (vc (kvs.map (·.1)) ks k dk) ((YV kvs k b v).map fun p=>V.ref p.2.1)/\j3 K H (Vm (kvs.map (·.1)) vs k d) ((YV kvs k b v).map (·.2.2)):=by
 unfold vc Vm YV;rw[wk];by_cases h:k∈kvs.map (·.1)
 ·rw[decide_eq_true h,if_pos h,if_pos h,if_pos rfl,WX (fun _=>rfl),WX (fun _=>rfl)];exact⟨e2,rk,wm r2 rv⟩
 ·rw[decide_eq_false h,if_neg h,if_neg h,if_neg (by decide),List.map_append,List.map_append,List.map_append];exact⟨Uk e2 e1,rk.snoc r1,rv.snoc r2⟩
end
section
variable {X:Cx} {K:Fr} {e a b c d tg:Expr} {de da db dc dd dk:DE} {pos:Pos} {st:Stmt}
def GE(i:Nat)(dk de:DE):DS:=fun ρ=>match ρ[i]? with
 | some (.ow q (.dct ks vs))=>(de ρ).bind fun d=>(dk ρ).bind fun k=>(yc k).bind fun x=>(jX ks).bind fun qs=>if ks.length < sizeLine then some (.nx (ρ.set i (.ow q (.dct (vc qs ks x k) (Vm qs vs x d)))))else none
 | _=>none
@[simp] theorem xj(i:Nat)(dk de:DE){ρ:j9}:GE i dk de ρ=match ρ[i]? with
 | some (.ow q (.dct ks vs))=>(de ρ).bind fun d=>(dk ρ).bind fun k=>(yc k).bind fun x=>(jX ks).bind fun qs=>if ks.length < sizeLine then some (.nx (ρ.set i (.ow q (.dct (vc qs ks x k) (Vm qs vs x d)))))else none
 | _=>none:=rfl
theorem fZ{i:Nat}(h:PS X st (Y3 (tE K de) (Kx (ye i) (tE K dk) (AJ K)))):PS X st (tS K (GE i dk de)):=jZ h fun D σ H xx=>by
 obtain⟨H0,O0,ρ,O,r,R,ed,f⟩:=xx;unfold GE at ed;split at ed
 ·rename_i q ks vs hi;obtain⟨d,e1,ed⟩:=j1 ed;obtain⟨k,e2,ed⟩:=j1 ed;obtain⟨x,e3,ed⟩:=j1 ed;obtain⟨qs,e4,ed⟩:=j1 ed;split at ed
  ·rename_i hz;cases ed;obtain⟨l,hq,hs,⟨kvs,ep,hl,hk,rk,rv⟩,lo,h0⟩:=R.ow i _ _ hi;refine⟨H0,O0,ρ,O,d,R,e1,fun v H1 s1 rd=>⟨_,hs,H0,O0,ρ,O,k,R.grow s1,e2,fun w H2 s2 rw'=>?_⟩⟩;have s12:=s1.trans s2;have R':=R.grow s12;rw[hk]at e4;cases e4;obtain⟨b,rfl,rb⟩:=wl (O:=O) (.inl rw') e3;have hlen:kvs.length=ks.length:=by have:=rk.len;simpa using this
   obtain⟨p1,p2,p3⟩:=WY (b:=b) (qs:=[]) e3 hk (rk.same (jc s12)) (rv.same (jc s12)) rw' (rd.same (jc s2));refine⟨l,kvs,ep,b,ks,x,k,rfl,rfl,⟨s12 _ _ hl,hk,(rk.same (jc s12)).same JC⟩,rb,e3,by rw[hlen];exact hz,fun ep'=>f _ _ O (R'.change hi hq hs lo h0 ⟨_,ep',jH,p1,p2,p3⟩) ?_⟩;rw[Jb lo];exact jc s12
  ·cases ed
 ·cases ed
noncomputable def Km:DO:=fun _=>some (.dct [] [])
@[simp] theorem iP{ρ:j9}:Km ρ=some (.dct [] []):=rfl
theorem dl:PE X (.Dict [] [] pos) (tF K Km):=jy B9 fun σ H Q xx=>by
 obtain⟨H0,O0,ρ,O,o,R,ed,q⟩:=xx;cases ed;exact fun p hp=>q p _ (jw hp _) hp ⟨[],0,jH,by rw[jX];rfl,j3.nil,j3.nil⟩
noncomputable def V2:List D->Option OD
 | [.dct ks _]=>some (.lst ks)
 | _=>none
@[simp] theorem H_(ks vs:List D):V2 [.dct ks vs]=some (.lst ks):=rfl
theorem Ba:Cj K (fun xs H Q=>∃a kvs ep,xs=[.ref a]/\H a=some (.dD kvs ep)/\∀l,H l=none->Q (.ref l) (upd H l (.lst (kvs.map fun p=>V.ref p.2.1)))) V2:=by
 intro O H ks ds vs d Q ak e q;unfold V2 at e;split at e
 ·cases e;obtain⟨v,rfl,r⟩:=Vk ak;obtain⟨p,kvs,ep,rfl,h1,h2,h3,h4⟩:=r.dct;exact⟨p,kvs,ep,rfl,h1,fun l hl=>q l _ (jw hl _) hl (yd hl h3)⟩
 ·cases e
end
end DS
namespace L2
open PySem PySem.Spec PyProof.Rows
noncomputable abbrev TB:=St->Hp->(St->Hp->Prop)->Prop
def WZ(Y:Cx)(m:Sem Fin->Sem Fin)(t:TB):Prop:=
 ∀(pins:List (Addr×Obj)) (s:Shared) (σ:St) (H:Hp) (N:St->Hp->Prop) (c:Sem Fin) (Q:Fin->Shared->Prop) (E:Value->Shared->Prop),Inv Y pins σ H s->t σ H N->(∀s' σ' H',Inv Y pins σ' H' s'->N σ' H'->wpAny (model Y.prog Y.w) Y.A c Q E s')->wpAny (model Y.prog Y.w) Y.A (m c) Q E s
def gK(J:It)(g:TG)(tb:TB)(Qn:St->Hp->Prop)(W:Nat->Nat->St->Hp->Prop):Prop:=∀i m σ H,W i m σ H->(J.stop i H/\Qn σ H)∨
 (J.go i H/\∃N:St->Hp->Prop,(∀σ' H',N σ' H'->∃m',m' < m/\W (i+1) m' σ' H')/\∀x H',J.yld i H x H'->g x σ H' fun σ2 H2=>tb σ2 H2 N)
section
variable {Y:Cx} {kx vx tg iter:Expr} {gens:List Comprehension} {scope:Scope} {pos:Pos} {d:Nat} {acc:Value} {B:Sem Fin->Sem Fin} {g:TG} {tb:TB} {J:It} {fp:List Addr} {it:Addr} {tn:Nat->Heap->Prop} {Qn:St->Hp->Prop} {W:Nat->Nat->St->Hp->Prop} {pins:List (Addr×Obj)}
theorem W_(hc:Y.calm=true)
  (htn:compTurn (.DictComp kx vx gens scope pos) d (.ref it) acc Y.env=(do
   standAt iter.pos
   match<-pyNext (.ref it)with
   | none=>pure (.done .next)
   | some v=>
    letOwnedTupleGo tg (.ref it) v
    assign tg Y.env v
    B (again (.compLoop (.DictComp kx vx gens scope pos) d (.ref it) acc Y.env))))
  (hx:Y.xe=fun _ _=>False) (hg:PG Y tg g) (hb:WZ Y B tb) (T:Turn Y.prog Y.w Y.K tg J fp it tn) {H:Hp} (hf:∀b∈fp,Jj Y pins H b)
  (turn:gK J g tb Qn W) (R:Result->Shared->Prop) (hR:∀s',(∃σ' H',Inv Y pins σ' H' s'/\Qn σ' H')->R (.ok .next) s') (n:Nat) (s4:Shared)
  (st:∃i σ' H',Inv Y pins σ' H' s4/\tn i s4.heap/\(∀b∈fp,H' b=none)/\W i n σ' H'):codeAny (model Y.prog Y.w) Y.A (.compLoop (.DictComp kx vx gens scope pos) d (.ref it) acc Y.env) R s4:=by
 have stat:∀{H':Hp},(∀b∈fp,H' b=none)->∀b∈fp,Jj Y pins H' b:=fun hn b hb=>⟨hn b hb,(hf b hb).2⟩
 refine codeAny_loop rfl (fun n s'=>∃i σ' H',Inv Y pins σ' H' s'/\tn i s'.heap/\(∀b∈fp,H' b=none)/\W i n σ' H') ?_ n st;rintro n s3 ⟨i,σ3,H3,I3,st3,fr3,w3⟩;show wpAny _ _ ((compTurn (.DictComp kx vx gens scope pos) d (.ref it) acc Y.env).onRaise (fun x=>do noteFrame x Y.env;theTreesLotGoes x)) _ _ s3;refine wpAny_noted ?_;rw[htn];rcases turn i n σ3 H3 w3 with⟨stop,qn⟩ | ⟨go,N,hN,step⟩
 ·refine wAa (vOa (wAa (wCa (T.done Y rfl rfl rfl hc i pins s3 σ3 H3 (fun _ _=>False) I3 (stat fr3) st3 stop) (fun r s5 h5=>?_) fun _ _ z=>z.elim)));obtain⟨hr,I5⟩:=h5;subst hr;exact wBa (hR s5 ⟨σ3,H3,I5,qn⟩)
 ·refine wAa (vOa (wAa (wCa (T.item Y rfl rfl rfl hc i pins s3 σ3 H3 (fun _ _=>False) I3 (stat fr3) st3 go) (fun r s5 h5=>?_) fun _ _ z=>z.elim)));obtain⟨u,hr,h5⟩:=h5;subst hr;refine wAa (wCa h5 (fun _ s6 h6=>?_) fun _ _ z=>z.elim);obtain⟨x,H6,I6,r6,y6,st6,fr6⟩:=h6;have I6':=I6.pinned (stat fr6) (T.obj _ _ st6);refine wAa (wCa (hg _ s6 σ3 H6 x u _ I6' r6 (step x H6 y6)) (fun _ s7 h7=>?_) fun _ _ z=>(by rw[hx]at z;exact z.elim));obtain⟨σ7,H7,I7,q7⟩:=h7;refine hb _ s7 σ7 H7 N _ _ _ I7 q7 fun s8 σ8 H8 I8 n8=>?_;obtain⟨m',hm,w8⟩:=hN σ8 H8 n8;refine wBa ⟨rfl,m',hm,i+1,σ8,H8,I8.unpinned,T.keep _ _ _ st6 fun b hb o e=>(I8.pin (b,o) (vJa _ (vJa _ (Yl hb e)))).1,fun b hb=>?_,w8⟩;obtain⟨o,e,_⟩:=T.obj _ _ st6 b hb;exact(I8.pin (b,o) (vJa _ (vJa _ (Yl hb e)))).2.1
end
theorem Wu{prog:Program}{w:World}{A:Around}{R:Result->Shared->Prop}{s:Shared}{kx vx:Expr}{c0:Comprehension}{target iter:Expr}{ifs:List Expr}{scope:Scope}{pos:Pos}{it acc:Value}{env:Env}
  (h0:codeAny (model prog w) A (.compLoop (.DictComp kx vx [c0,⟨target,iter,ifs,0⟩] scope pos) 1 it acc env) R s)
  (h:wpAny (model prog w) A (pyIter it) (fun it' s'=>codeAny (model prog w) A (.compLoop (.DictComp kx vx [c0,⟨target,iter,ifs,0⟩] scope pos) 1 it' acc env) R s') (notedBy (model prog w) A env fun x s'=>R (.error x) s') s):
  codeAny (model prog w) A (.compStart (.DictComp kx vx [c0,⟨target,iter,ifs,0⟩] scope pos) 1 it acc env) R s:=by
 refine codeAny_of_tree ?_;show wpAny _ A ((compStart (.DictComp kx vx [c0,⟨target,iter,ifs,0⟩] scope pos) 1 it acc env).onRaise (fun x=>do noteFrame x env;standAt theWindowsPlace)) _ _ s;refine wpAny_notedAt ?_;unfold compStart;show wpAny _ A (ask >>= _) _ _ s;refine wAa (wpAny_askSetting (wpAny_ite ?_));split
 ·first
   | exact wAa (wBa (wBa (And.intro rfl h0)))
   | exact wBa (And.intro rfl h0)
 ·first
   | exact wAa (wpAny_rule (wAa (vOa (wAa (wCa h (fun it' s' h'=>wBa (And.intro rfl h')) fun _ _ x=>x)))))
   | (refine wAa (wpAny_rule ?_);show wpAny _ _ (standAt iter.pos >>= _) _ _ s;exact wAa (vOa (wAa (wCa h (fun it' s' h'=>wBa (And.intro rfl h')) fun _ _ x=>x))))
noncomputable def xk(kx vx t1 i1 t2 i2:Expr)(scope:Scope)(pos:Pos)(D:Addr)(env:Env)(c:Sem Fin):Sem Fin:=do
 let x<-eval i2 env
 standAt i2.pos
 let x<-foldedSetIterable i2 env x
 let y<-holding [x] (pyIter x)
 let _<-runOwn (.compStart (.DictComp kx vx [⟨t1,i1,[],0⟩,⟨t2,i2,[],0⟩] scope pos) 1 y (.ref D) env) env
 c
noncomputable def dm(kx vx:Expr)(D:Addr)(env:Env)(c:Sem Fin):Sem Fin:=do
 (do
  let kv<-eval kx env
  let vv<-holding [kv] (eval vx env)
  standAt { kx.pos with endLine:=vx.pos.endLine,endCol:=vx.pos.endCol }
  holding [kv,vv] (dictSet D kv vv))
 c
theorem dn(kx vx t1 i1 t2 i2:Expr)(scope:Scope)(pos:Pos)(it:Value)(D:Addr)(env:Env):
  compTurn (.DictComp kx vx [⟨t1,i1,[],0⟩,⟨t2,i2,[],0⟩] scope pos) 0 it (.ref D) env=(do
   standAt i1.pos
   match<-pyNext it with
   | none=>pure (.done .next)
   | some v=>
    letOwnedTupleGo t1 it v
    assign t1 env v
    xk kx vx t1 i1 t2 i2 scope pos D env (again (.compLoop (.DictComp kx vx [⟨t1,i1,[],0⟩,⟨t2,i2,[],0⟩] scope pos) 0 it (.ref D) env))):=by rfl
theorem dr(kx vx t1 i1 t2 i2:Expr)(scope:Scope)(pos:Pos)(it:Value)(D:Addr)(env:Env):
  compTurn (.DictComp kx vx [⟨t1,i1,[],0⟩,⟨t2,i2,[],0⟩] scope pos) 1 it (.ref D) env=(do
   standAt i2.pos
   match<-pyNext it with
   | none=>pure (.done .next)
   | some v=>
    letOwnedTupleGo t2 it v
    assign t2 env v
    dm kx vx D env (again (.compLoop (.DictComp kx vx [⟨t1,i1,[],0⟩,⟨t2,i2,[],0⟩] scope pos) 1 it (.ref D) env))):=by rfl
end L2
namespace DS
open PySem PySem.Spec PyProof.Rows L2
def FG(K:Fr)(D:Addr)(tk tv:TE):TB:=fun σ H N=>tk σ H fun k H1=>tv σ H1 fun v H2=>∃kvs ep b ks kk dk,k=.ref b/\DAt K H2 D ks kvs ep/\j7 K H2 dk (.ref b)/\yc dk=some kk/\kvs.length < sizeLine/\∀ep',N σ (upd H2 D (.dD (YV kvs kk b v) ep'))
noncomputable def FH(wi:TI)(g:TG)(tb:TB):TB:=fun σ H N=>wi σ H fun J H1=>∃W,(∃m,W 0 m σ H1)/\gK J g tb N W
section
variable {Y:Cx} {kx vx t1 i1 t2 i2:Expr} {scope:Scope} {pos:Pos} {D:Addr} {tk tv:TE} {tb:TB} {wi:TI} {g:TG}
theorem f_{n:Nat}(hx:Y.xe=fun _ _=>False)(hr:Room n Y.A)(hk:PE Y kx tk)(hv:PE Y vx tv):WZ Y (dm kx vx D Y.env) (FG Y.K D tk tv):=by
 intro pins s σ H N c Q E I h hN;refine wAa (wAa (wCa (hk pins s σ H _ I h) (fun kv s1 h1=>?_) fun _ _ z=>(by rw[hx]at z;exact z.elim)));obtain⟨k,H1,I1,r1,q1⟩:=h1;refine wAa (wDa (wCa (hv pins s1 σ H1 _ I1 q1) (fun vv s2 h2=>?_) fun _ _ z=>(by rw[hx]at z;exact z.elim)));obtain⟨v,H2,I2,r2,kvs,ep,b,ks,kk,dk,rfl,da,rb,ek,hl,q⟩:=h2;cases r1;refine wAa (vOa (wDa ?_));obtain⟨zl,hd,xs,pr,dd⟩:=da.dict I2;have hz:xs.length<=sizeLine:=by rw[<-Paired.length pr];exact zl
 refine wpAny_dictSet_heap (hsz:=hz) (knd:=yJ Y.prog Y.w) (by have:=hr.un;show Y.A.units+8 < cLine;omega) (ur I2 rb ek) dd fun h' dd' hs=>?_;obtain⟨o,es,ep',e1,e2,e3,e4,_,e5⟩:=dd';have pr':=pr.put (k:=kk) (b:=b) r2;have new:ya Y.prog Y.w (upd H2 D (.dD (YV kvs kk b v) ep')) h' D (.dD (YV kvs kk b v) ep'):=⟨by have:=wf kvs kk b v;omega,hd,by rw[<-pr'.fst];exact e5,_,pr',o,es,e1,e2,e3,e4⟩
 exact hN _ σ _ (I2.write (x:=D) (e:=D) (t':=s2.toks+(yJ Y.prog Y.w).draws kk) (by rw[da.at'];trivial) (.inl rfl) (fun c z hc e=>(hs.2 c hc).trans e) ⟨_,e1⟩ new) (q ep')
theorem F2(hc:Y.calm=true)(hx:Y.xe=fun _ _=>False)(hi:PI Y t2 i2 wi)(hg:PG Y t2 g)(hs:∀x,foldedSetIterable i2 Y.env x=pure x)(hem:WZ Y (dm kx vx D Y.env) tb):WZ Y (xk kx vx t1 i1 t2 i2 scope pos D Y.env) (FH wi g tb):=by
 intro pins s σ H N c Q E I h hN;unfold xk;refine wAa (wCa (hi pins s σ H _ I h) (fun x s1 h1=>?_) fun _ _ z=>(by rw[hx]at z;exact z.elim));refine wAa (vOa (wAa (wpAny_of_eq (hs x) ?_)));refine wAa (wDa (wCa h1 (fun y s2 h2=>?_) fun _ _ z=>(by rw[hx]at z;exact z.elim)));obtain⟨it,fp,tn,J,H2,rfl,I2,T,st,hf,W,⟨m0,w0⟩,turn⟩:=h2;refine wAa (wpAny_runOwn ?_);have loop:=W_ (d:=1) hc (dr kx vx t1 i1 t2 i2 scope pos (.ref it) D Y.env) hx hg hem T hf turn (fun r s'=>match r with | .ok f=>wpAny (model Y.prog Y.w) Y.A c Q E s' | .error e=>cameBackBy (model Y.prog Y.w) Y.A Y.env E e s') (fun s' ⟨σ',H',I',n'⟩=>hN s' σ' H' I' n') m0 s2 ⟨0,σ,H2,I2,st,fun b hb=>(hf b hb).1,w0⟩;exact Wu loop (T.self _ 0 _ _ _ st loop)
end
section
variable {X:Cx} {kx vx t1 i1 t2 i2:Expr} {scope:Scope} {pos:Pos} {own:List Str} {caps:List (Str×Nat)} {g1:TG} {tb:Addr->TB} {pins:List (Addr×Obj)} {σ:L2.St} {H:Hp} {s2:Shared} {J:It} {fp:List Addr} {it:Addr} {tn:Nat->Heap->Prop} {Qv:VK}
theorem Bb{E:Value->Shared->Prop}{RR:Value->Addr->Result->Shared->Prop}(S:CScope X scope)(hcap:Caps X scope caps)(hc:X.calm=true)
  (hg:∀s3 H3 ex',PG (X.comp (L2.cN own caps) scope s3 H3 ex') t1 g1) (hB:∀s3 H3 ex' D,WZ (X.comp (L2.cN own caps) scope s3 H3 ex') (xk kx vx t1 i1 t2 i2 scope pos D (X.comp (L2.cN own caps) scope s3 H3 ex').env) (tb D))
  (I:Inv X pins σ H s2) (T:Turn X.prog X.w X.K t1 J fp it tn) (st:tn 0 s2.heap) (hf:∀b∈fp,Jj X pins H b)
  (w:∀D,H D=none->∃W,(∃m,W 0 m (zh own caps σ) (upd H D (.dD [] 0)))/\gK J g1 (tb D) (fun _ H'=>Qv (.ref D) H') W)
  (hRR:∀D C s' H' m,Inv X pins σ H' s'->s'.heap.Ns C m->Jj X pins H' C->Qv (.ref D) H'->RR (.ref D) C (.ok .next) s'):
  wpAny (model X.prog X.w) X.A newDict (fun acc s3=>wpAny (model X.prog X.w) X.A (newFunctionEnv scope X.env.globals (Y6 X.env scope.names []) [] X.env.qual none .none (some X.env)) (fun cenv s4=>
   codeAny (model X.prog X.w) X.A (.compStart (.DictComp kx vx [⟨t1,i1,[],0⟩,⟨t2,i2,[],0⟩] scope pos) 0 (.ref it) acc { cenv with scope:=relabel scope X.env }) (RR acc cenv.locals) s4) E s3) E s2:=by
 obtain⟨W,⟨m0,w0⟩,turn⟩:=w s2.heap.objs.size (I.hok.fresh (wPa _));refine vTa (wpAny_newFunctionEnv S.c (by intro y hy;simp at hy) (fun h1 hns hsb=>?_) S.kind);have hlt:∀b∈fp,b < s2.heap.objs.size:=fun b hb=>by
  obtain⟨o,e,_⟩:=T.obj _ _ st b hb;exact wLa e
 let s3:Shared:={ s2 with heap:=s2.heap.push { cls:=.type "dict",dict:=none,data:=.dict #[] } }
 have I3:Inv X pins σ (upd H s2.heap.objs.size (.dD [] 0)) s3:=I.laid (a:=s2.heap.objs.size) (o:=.dD [] 0) (t':=s2.toks) (fun _ _ q=>wIa _ q) (wPa _)
  ⟨Nat.zero_le _,beq_eq_false_iff_ne.mpr (Ne.symm (wTa (Inv.big I))),List.nodup_nil,[],.nil,_,#[],wJa _ rfl,⟨rfl,rfl,rfl⟩,rfl,rfl⟩
 have hk:∀b o,s3.heap.get? b=some o->h1.get? b=some o:=fun b o e=>hsb.extBut b o (wTa (wLa e)) (wIa _ e);have e3:s3.heap.objs.size=s2.heap.objs.size+1:=Heap.size_push ..;have hl3:∀b∈fp,b < s3.heap.objs.size:=fun b hb=>by rw[e3];exact Nat.lt_succ_of_lt (hlt b hb)
 have hf3:∀b∈fp,Jj X pins (upd H s2.heap.objs.size (.dD [] 0)) b:=fun b hb=>⟨by rw[jo (Nat.ne_of_lt (hlt b hb))];exact(hf b hb).1,(hf b hb).2⟩
 have I4:Inv (X.comp (L2.cN own caps) scope s3 (upd H s2.heap.objs.size (.dD [] 0)) fp) [] (zh own caps σ) (upd H s2.heap.objs.size (.dD [] 0)) { s3 with heap:=h1,toks:=s2.toks+([]:List (Str×Value)).length }:=
  gt S.c S.kind S.f hcap I3 (fun b hb=>⟨hl3 b hb,hf3 b hb⟩) hns hk
 have st4:tn 0 h1:=T.keep _ _ _ st fun b hb o e=>hk b o (wIa _ e);have f4:∀b∈fp,Jj (X.comp (L2.cN own caps) scope s3 (upd H s2.heap.objs.size (.dD [] 0)) fp) [] (upd H s2.heap.objs.size (.dD [] 0)) b:=fun b hb=>
  ⟨(hf3 b hb).1,wTa (hl3 b hb),I4.ok.exfs b hb,.inl hb,(I4.ok.exf b hb).2,fun p hp=>vDa (show p∈([]:List (Addr×Obj)) from hp) (by simp)⟩
 have loop:=W_ (Y:=X.comp (L2.cN own caps) scope s3 (upd H s2.heap.objs.size (.dD [] 0)) fp) (d:=0) hc (dn kx vx t1 i1 t2 i2 scope pos (.ref it) s2.heap.objs.size _) rfl (hg _ _ _) (hB _ _ _ _) T f4 turn (RR (.ref s2.heap.objs.size) s3.heap.objs.size) (fun s' xx=>by
  obtain⟨σ',H',J',q⟩:=xx;have u:Un (vU X.stack) fp (upd H s2.heap.objs.size (.dD [] 0)) H' s3.heap s'.heap:=J'.base;have I5:Inv X pins σ H' s':=I3.call' (ch:=fp) J'.os ⟨u.keep,u.slot,u.free,u.there,u.tups,u.frzs,u.tbls⟩ J'.hok J'.bare fun b hb=>by
   have F:=hf3 b hb;exact⟨F.2.2.2.1,F.2.1,F.2.2.2.2.1,F.2.2.2.2.2⟩
  obtain⟨m5,hm5,_⟩:=id J'.loc;exact hRR _ _ s' H' m5 I5 hm5 (I3.fpOk (wPa _) J'.free) q) m0
  { s3 with heap:=h1,toks:=s2.toks+([]:List (Str×Value)).length } ⟨0,_,_,I4,st4,fun b hb=>(hf3 b hb).1,w0⟩
 exact codeAny_compStart_dict loop (T.self _ 0 _ _ _ st4 loop)
def FI(own:List Str)(caps:List (Str×Nat))(wi:TI)(g1:TG)(tb:Addr->TB):TE:=fun σ H Q=>wi σ H fun J H1=>∀D,H1 D=none->∃W,(∃m,W 0 m (zh own caps σ) (upd H1 D (.dD [] 0)))/\gK J g1 (tb D) (fun _ H'=>Q (.ref D) H') W
theorem F5{wi:TI}(own:List Str)(caps:List (Str×Nat))(S:CScope X scope)(hcap:Caps X scope caps)(hc:X.calm=true)(hi:PI X t1 i1 wi)
  (hg:∀s3 H3 ex',PG (X.comp (L2.cN own caps) scope s3 H3 ex') t1 g1) (hB:∀s3 H3 ex' D,WZ (X.comp (L2.cN own caps) scope s3 H3 ex') (xk kx vx t1 i1 t2 i2 scope pos D (X.comp (L2.cN own caps) scope s3 H3 ex').env) (tb D))
  (hs:∀x,foldedSetIterable i1 X.env x=pure x):PE X (.DictComp kx vx [⟨t1,i1,[],0⟩,⟨t2,i2,[],0⟩] scope pos) (FI own caps wi g1 tb):=by
 intro pins s σ H Q I h;show wpAny _ _ (comprehension (.DictComp kx vx [⟨t1,i1,[],0⟩,⟨t2,i2,[],0⟩] scope pos) scope X.env _ newDict false (eval i1 X.env)) _ _ s;refine wpAny_comprehension_free (use:=none) rfl hs (Gy fun y hy e=>I.ok.has y.1 (S.f y hy e)) S.kind S.l (jv (hi pins s σ H _ I h) fun xv s1 h1=>jv h1 fun itv s2 h2=>?_);obtain⟨it,fp,tn,J,H2,e,I2,T,st,f2,w⟩:=h2;subst e;refine Bb (Qv:=Q) (RR:=fun acc C=>compPost (model X.prog X.w) X.A X.xe none (EP X pins σ Q) acc C) S hcap hc hg hB I2 T st f2 w ?_;intro D C s' H' m I' hn hf' q;refine⟨m,hn,fun h' sb=>⟨.ref D,H',?_,rfl,q⟩⟩;obtain⟨f0,f1,f2,f3,f4,f5⟩:=hf';exact I'.turned (t':=s'.toks) (fun b o hb e=>(sb.2 b hb).trans e) f0 f1 f3 f4 f5
end
@[simp] noncomputable def Zi:Sl->Bool
 | .ow _ _=>false
 | .lo _=>false
 | _=>true
def kE(g:DG)(dk dv:DE):List D->j9->List D->List D->Option (j9×List D×List D)
 | [],ρ,ks,vs=>some (ρ,ks,vs)
 | d::ds,ρ,ks,vs=>(g d ρ).bind fun ρ1=>(dk ρ1).bind fun k=>(dv ρ1).bind fun v=>(yc k).bind fun x=>(jX ks).bind fun qs=>if ks.length < sizeLine/\ρ1.all Zi=true then kE g dk dv ds ρ1 (vc qs ks x k) (Vm qs vs x v)else none
def kG(g1:DG)(di:DI)(g:DG)(dk dv:DE):List D->j9->List D->List D->Option (List D×List D)
 | [],_,ks,vs=>some (ks,vs)
 | d::ds,ρ,ks,vs=>(g1 d ρ).bind fun ρ1=>(di ρ1).bind fun items=>if ρ1.all Zi=true then(kE g dk dv items ρ1 ks vs).bind fun q=>kG g1 di g dk dv ds q.1 q.2.1 q.2.2 else none
def xl(k:Nat)(caps:List Nat)(di:DI)(g1:DG)(di2:DI)(g:DG)(dk dv:DE):DO:=fun ρ=>(di ρ).bind fun items=>if (YU k caps ρ).all Zi=true then(kG g1 di2 g dk dv items (YU k caps ρ) [] []).bind fun p=>some (.dct p.1 p.2)else none
theorem F7{ρ:j9}(h:ρ.all Zi=true){i:Nat}{q:Option Addr}{o:OD}:ρ[i]?≠some (.ow q o):=fun e=>by
 have:=List.all_eq_true.mp h _ (wYa e);cases this
theorem F8{ρ:j9}(h:ρ.all Zi=true)(i:Nat)(ls:List (List D)):ρ[i]?≠some (.lo ls):=fun e=>by
 have:=List.all_eq_true.mp h _ (wYa e);cases this
section
variable {K:Fr} {H0 H H':Hp} {O0 O:List Addr} {ρ:j9} {σ:L2.St} {A:Addr}
structure DcI (K:Fr) (H0:Hp) (O0 O:List Addr) (A:Addr) (ρ:j9) (σ:L2.St) (H:Hp) (ks vs:List D):Prop where
 R:Rel K H0 O0 ρ σ H (A::O)
 o:JJ K H (j6 H (A::O)) A (.dct ks vs)
 n:ρ.all Zi=true
variable {own:List Str} {caps:List (Str×Nat)} {di di2:DI} {g1 g:DG} {dk dv:DE}
theorem dw(hnd:(caps.map (·.2)).Nodup):∀σ H Q,tF K (xl own.length (caps.map (·.2)) di g1 di2 g dk dv) σ H Q->
  FI own caps (Ze K di) (tG K own.length g1) (fun A=>FH (Ze K di2) (tG K own.length g) (FG K A (tE K dk) (tE K dv))) σ H Q:=fun σ H Q xx=>by
 obtain⟨H0,O0,ρ,O,o,R,ed,q⟩:=xx;obtain⟨items,e1,ed⟩:=j1 ed;split at ed
 case isFalse=>cases ed
 rename_i nw;obtain⟨⟨ks,vs⟩,e2,ed⟩:=j1 ed;cases ed;refine⟨H0,O0,ρ,O,items,R,e1,fun J H1 s1 hJ A hA=>?_⟩;have R1:=R.grow s1;have Rc:=KW own caps R1 hnd;have h0:H0 A=none:=R1.keep.none hA;have I0:DcI K H0 O0 O A (YU own.length (caps.map (·.2)) ρ) (zh own caps σ) (upd H1 A (.dD [] 0)) [] []:=
  ⟨Rc.lay (F:=[A]) (jw hA _) (fun a h=>by rw[List.mem_singleton.mp h];exact hA) (fun a h=>by rw[List.mem_singleton.mp h,jH];exact fun z=>nomatch z),⟨[],0,jH,by rw[jX];rfl,j3.nil,j3.nil⟩,nw⟩
 refine⟨fun i m σ' H'=>∃ρ' ks' vs',DcI K H0 O0 O A ρ' σ' H' ks' vs'/\kG g1 di2 g dk dv (items.drop i) ρ' ks' vs'=some (ks,vs)/\j4 (j6 H1 O) (j6 H' (A::O))/\j4 H1 H'/\m=items.length - i/\i<=items.length,
  ⟨items.length,_,[],[],I0,by simpa using e2,YO (jw hA _) hA,jw hA _,rfl,Nat.zero_le _⟩,?_⟩
 rintro i m σ' H' ⟨ρ',ks',vs',I,d1,sd,sH,rfl,hi⟩;obtain⟨hgo,hstop⟩:=hJ i H' (A::O) I.R.keep I.R.in0 sd I.R.al;by_cases hlt:i < items.length
 ·right;have hx:items[i]?=some items[i]:=by simp[hlt]
  have hd:items.drop i=items[i]::items.drop (i+1):=(List.getElem_cons_drop hlt).symm;rw[hd,kG]at d1;obtain⟨gg1,gg2⟩:=hgo _ hx;obtain⟨ρ1,f1,d1⟩:=j1 d1;obtain⟨items2,f2,d1⟩:=j1 d1;split at d1
  case isFalse=>cases d1
  rename_i nw1;obtain⟨⟨ρ2,ks2,vs2⟩,f3,d1⟩:=j1 d1;dsimp only at d1;refine⟨gg1,fun σ2 H2=>∃ρ' ks' vs',DcI K H0 O0 O A ρ' σ2 H2 ks' vs'/\kG g1 di2 g dk dv (items.drop (i+1)) ρ' ks' vs'=some (ks,vs)/\j4 (j6 H1 O) (j6 H2 (A::O))/\j4 H1 H2,?_,fun x H'' y=>?_⟩
  ·rintro σ2 H2 ⟨ρ3,k3,v3,a1,a2,a3,a4⟩;exact⟨items.length - (i+1),by omega,ρ3,k3,v3,a1,a2,a3,a4,rfl,hlt⟩
  obtain⟨sy,rx⟩:=gg2 x H'' y;refine⟨H0,O0,ρ',A::O,_,ρ1,I.R.grow sy,rx,f1,fun σ2 R3 _=>⟨H0,O0,ρ1,A::O,items2,R3,f2,fun J2 H3 s3 hJ2=>?_⟩⟩;have s13:=sy.trans s3;have I3:DcI K H0 O0 O A ρ1 σ2 H3 ks' vs':=⟨R3.grow s3,I.o.same (s13 A) (jc s13),nw1⟩
  refine⟨fun j m σ' H'=>∃ρ' ks' vs',DcI K H0 O0 O A ρ' σ' H' ks' vs'/\kE g dk dv (items2.drop j) ρ' ks' vs'=some (ρ2,ks2,vs2)/\j4 (j6 H3 (A::O)) (j6 H' (A::O))/\j4 H1 H'/\m=items2.length - j/\j<=items2.length,
   ⟨items2.length,ρ1,ks',vs',I3,by simpa using f3,j4.refl _,sH.trans s13,rfl,Nat.zero_le _⟩,?_⟩
  rintro j m σ5 H5 ⟨ρ5,ks5,vs5,I5,d5,sd5,sH5,rfl,hj⟩;obtain⟨hgo2,hstop2⟩:=hJ2 j H5 (A::O) I5.R.keep I5.R.in0 sd5 I5.R.al;by_cases hlt2:j < items2.length
  ·right;have hx2:items2[j]?=some items2[j]:=by simp[hlt2]
   have hd2:items2.drop j=items2[j]::items2.drop (j+1):=(List.getElem_cons_drop hlt2).symm;rw[hd2,kE]at d5;obtain⟨u1,u2⟩:=hgo2 _ hx2;obtain⟨ρ6,w1,d5⟩:=j1 d5;obtain⟨k,w2,d5⟩:=j1 d5;obtain⟨v,w3,d5⟩:=j1 d5;obtain⟨kk,w4,d5⟩:=j1 d5;obtain⟨qs,w5,d5⟩:=j1 d5;split at d5
   case isFalse=>cases d5
   rename_i hz;refine⟨u1,fun σ7 H7=>∃ρ' ks' vs',DcI K H0 O0 O A ρ' σ7 H7 ks' vs'/\kE g dk dv (items2.drop (j+1)) ρ' ks' vs'=some (ρ2,ks2,vs2)/\j4 (j6 H3 (A::O)) (j6 H7 (A::O))/\j4 H1 H7,?_,fun x6 H6 y6=>?_⟩
   ·rintro σ7 H7 ⟨ρ7,k7,v7,a1,a2,a3,a4⟩;exact⟨items2.length - (j+1),by omega,ρ7,k7,v7,a1,a2,a3,a4,rfl,hlt2⟩
   obtain⟨sy6,rx6⟩:=u2 x6 H6 y6;refine⟨H0,O0,ρ5,A::O,_,ρ6,I5.R.grow sy6,rx6,w1,fun σ7 R7 _=>⟨H0,O0,ρ6,A::O,k,R7,w2,fun kv H8 s8 rk=>⟨H0,O0,ρ6,A::O,v,R7.grow s8,w3,fun vv H9 s9 rv=>?_⟩⟩⟩;have s89:=s8.trans s9;have s59:=sy6.trans s89;obtain⟨kvs,ep,o1,o2,o3,o4⟩:=I5.o.same (s59 A) (jc s59);rw[o2]at w5;cases w5;have rk':=rk.same (jc s9);obtain⟨b,rfl,rb⟩:=wl (O:=A::O) (.inl rk') w4;have hlen:kvs.length=ks5.length:=by have:=o3.len;simpa using this
   obtain⟨p1,p2,p3⟩:=WY (b:=b) (qs:=[]) w4 o2 o3 o4 rk' rv;refine⟨kvs,ep,b,ks5,kk,k,rfl,⟨o1,o2,o3.same JC⟩,rb,w4,by rw[hlen];exact hz.1,fun ep'=>⟨ρ6,_,_,⟨(R7.grow s89).poke (F8 hz.2) wNa h0 (fun⟨_,_,_,y,_⟩=>F7 hz.2 y),⟨_,ep',jH,p1,?_,?_⟩,hz.2⟩,d5,?_,?_⟩⟩
   ·rw[Jb List.mem_cons_self];exact p2
   ·rw[Jb List.mem_cons_self];exact p3
   ·rw[Jb List.mem_cons_self];exact sd5.trans (jc s59)
   ·exact(sH5.trans s59).upd hA _
  ·left;have ej:j=items2.length:=by omega
   refine⟨hstop2 ej,?_⟩;have e0:items2.drop j=[]:=List.drop_of_length_le (by omega);rw[e0,kE]at d5;cases d5;exact⟨_,_,_,I5,d1,sd.trans ((jc s13).trans sd5),sH5⟩
 ·left;have ei:i=items.length:=by omega
  refine⟨hstop ei,?_⟩;have e0:items.drop i=[]:=List.drop_of_length_le (by omega);rw[e0,kG]at d1;cases d1;exact q A H' (s1.trans sH) (s1.none hA) I.o
end
end DS
namespace L2
open PySem PySem.Spec PyProof.Rows
section
variable {X:Cx}
def U0:V->List V->Hp->VK->Prop:=fun x vs H Q=>∃l xs i y,x=.ref l/\vs=[.int i,y]/\H l=some (.lst xs)/\0<=i/\i<=(xs.length:Int)/\xs.length < 1000000/\Q .non (upd H l (.lst (xs.take i.toNat++y::xs.drop i.toNat)))
theorem Qa:1000000 < sizeLine:=by decide
theorem xm:C3 X "list.insert" U0:=by
 intro pins s σ H x vs v us Q I rx rv h;obtain⟨l,xs,i,y,rfl,rfl,hH,h0,h1,hz,q⟩:=h;cases rx;cases rv with
 | cons r1 rr=>
 cases rr with
 | cons r2 rr=>
 cases rr;obtain⟨t,rfl⟩:=r1;rename_i u;obtain⟨z,its,n,r,hl,e⟩:=I.lstM hH;have sl:=Qa;have hk:i.toNat<=its.length:=by omega
 refine call_meets F.slot_list_insert ⟨_,e,rfl⟩ F.entry_list_insert (F.args_list_insert_3 _ _ _) (AutoListH.list_insert_list_int_val_1 l its.toArray n i t u (by rw[fitsIndex_both (by omega) (by omega)];decide) (by rw[List.size_toArray];omega)) ⟨e,?_⟩;refine⟨.non,_,I.lset (its':=its.take i.toNat++u::its.drop i.toNat) hH e ?_ ?_ ?_,rfl,q⟩
 ·show(have k:=if i < 0 then(i+((its.toArray.size:Nat):Int)).toNat else min i.toNat its.toArray.size;(its.toArray.extract 0 k).push u++its.toArray.extract k)=_;dsimp only;rw[if_neg (by omega),List.size_toArray,Nat.min_eq_left hk];apply Array.ext';simp;exact List.take_of_length_le (by rw[List.length_drop];omega)
 ·exact(r.take i.toNat).append (.cons r2 (r.drop i.toNat))
 ·rw[List.length_append,List.length_cons,List.length_take,List.length_drop];omega
end
end L2
namespace DS
open PySem PySem.Spec PyProof.Rows L2
end DS
namespace L2
open PySem PySem.Spec PyProof.Rows
theorem AM{X:Cx}{o k e:Expr}{ta:TE}{t:TA}{apos pos:Pos}(ho:PE X o ta)(ha:PA X [k,e] t)
  (hfew:((backTo pos (starEach [k,e] X.env)).all (fun x=>!x.1)&&(backToKw pos (keywordEach [] X.env)).all (fun x=>x.1.isSome)&&decide (([k,e]:List Expr).length+([]:List Keyword).length+(if ([]:List Keyword).isEmpty then 0 else 1) < 30))=true)
  (hline:(apos.endLine==pos.line)=true) (hs:starEach [k,e] X.env=(false,eval k X.env)::starEach [e] X.env) (hplain:(backTo pos (starEach [e] X.env)).any (·.1)=false) (hbase:attributeBase o "insert" X.env (eval o X.env)=eval o X.env:=by rfl):PE X (.Call (.Attribute o "insert" apos) [k,e] [] pos) (kl X.K "list" U0 ta t):=
 qZ PySem.F.plainAttrs_list PySem.F.slot_list_insert PySem.F.type_list_insert xm ho ha hbase hfew hline hs hplain
end L2
namespace DS
open PySem PySem.Spec PyProof.Rows L2
section
variable {K:Fr} {Hd H H':Hp}
theorem jQ.len:∀{as:List Addr} {ls:List (List D)},jQ K Hd H as ls->as.length=ls.length
 | [],[],_=>rfl
 | _::_,_::_,h=>congrArg Nat.succ (jQ.len h.2)
 | [],_::_,h=>h.elim
 | _::_,[],h=>h.elim
theorem jQ.get:∀{as:List Addr} {ls:List (List D)} {n:Nat} {m:List D},jQ K Hd H as ls->ls[n]?=some m->∃p vs,as[n]?=some p/\H p=some (.lst vs)/\j3 K Hd m vs
 | a::_,_::_,0,_,h,e=>by
  simp at e;subst e;obtain⟨vs,h1,h2⟩:=h.1;exact⟨a,vs,rfl,h1,h2⟩
 | _::as,_::r,n+1,m,h,e=>by
  obtain⟨p,vs,h1,h2⟩:=jQ.get (n:=n) h.2 (by simpa using e);exact⟨p,vs,by simpa using h1,h2⟩
 | [],[],_,_,_,e=>by simp at e
 | [],_::_,_,_,h,_=>h.elim
 | _::_,[],_,_,h,_=>h.elim
theorem jQ.set{p:Addr}{m:List D}(hp:∃vs,H' p=some (.lst vs)/\j3 K Hd m vs):∀{as:List Addr} {ls:List (List D)} {n:Nat},as.Nodup->as[n]?=some p->(∀a∈as,a≠p->∀u,H a=some u->H' a=some u)->jQ K Hd H as ls->jQ K Hd H' as (ls.set n m)
 | a::as,x::r,0,nd,e,s,h=>by
  simp at e;subst e;obtain⟨n1,n2⟩:=List.nodup_cons.mp nd;exact⟨hp,h.2.mono (j4.refl _) fun b hb=>s b (wMa _ hb) fun z=>n1 (z▸hb)⟩
 | a::as,x::r,n+1,nd,e,s,h=>by
  obtain⟨n1,n2⟩:=List.nodup_cons.mp nd;have e':as[n]?=some p:=by simpa using e
  obtain⟨vs,h1,h2⟩:=h.1;exact⟨⟨vs,s a wNa (fun z=>n1 (z▸wYa e')) _ h1,h2⟩,jQ.set hp n2 e' (fun b hb=>s b (wMa _ hb)) h.2⟩
 | [],_,_,_,e,_,_=>by simp at e
 | _::_,[],_,_,_,_,h=>h.elim
theorem jQ.app:∀{as bs:List Addr} {ls ms:List (List D)},jQ K Hd H as ls->jQ K Hd H bs ms->jQ K Hd H (as++bs) (ls++ms)
 | [],_,[],_,_,g=>g
 | _::_,_,_::_,_,h,g=>⟨h.1,jQ.app h.2 g⟩
 | [],_,_::_,_,h,_=>h.elim
 | _::_,_,[],_,h,_=>h.elim
theorem jQ.take:∀{as:List Addr} {ls:List (List D)} (n:Nat),jQ K Hd H as ls->jQ K Hd H (as.take n) (ls.take n)
 | _,_,0,_=>by simp[jQ]
 | [],[],n+1,_=>by simp[jQ]
 | _::_,_::_,n+1,h=>⟨h.1,jQ.take n h.2⟩
 | [],_::_,_,h=>h.elim
 | _::_,[],_,h=>h.elim
theorem jQ.drop:∀{as:List Addr} {ls:List (List D)} (n:Nat),jQ K Hd H as ls->jQ K Hd H (as.drop n) (ls.drop n)
 | _,_,0,h=>h
 | [],[],n+1,_=>by simp[jQ]
 | _::_,_::_,n+1,h=>jQ.drop n h.2
 | [],_::_,_,h=>h.elim
 | _::_,[],_,h=>h.elim
end
theorem wo{α:Type}{xs:List α}{i:Nat}{x:α}(h:xs[i]?=some x):xs.set i x=xs:=by
 obtain⟨hl,he⟩:=List.getElem?_eq_some_iff.mp h;rw[<-he];exact List.set_getElem_self hl
section
variable {X:Cx} {K:Fr} {de dj:DE} {st:Stmt} {i:Nat}
theorem YJ{ρ:j9}{ls:List (List D)}{K:Fr}{H0 H:Hp}{O0 O:List Addr}{σ:L2.St}(R:Rel K H0 O0 ρ σ H O)(hi:ρ[i]?=some (.lo ls)):∀(j:Nat) (ms:List (List D)),(ρ.set i .un)[j]?≠some (.lo ms):=fun j ms e=>by
 rcases jp e with⟨_,e',_⟩ | ⟨ne,e'⟩
 ·cases e'
 ·obtain⟨_,_,_,_,_,_,un⟩:=R.lo i ls hi;exact ne (un j ms e')
theorem zm{ρ:j9}{σ:L2.St}{a:Addr}{j:Nat}:JW (ρ.set j .un) σ a->JW ρ σ a:=fun⟨k,q,o,e,z⟩=>by
 rcases jp e with⟨_,e',_⟩ | ⟨_,e'⟩
 ·cases e'
 ·exact⟨k,q,o,e',z⟩
theorem uu{ρ:j9}{ls:List (List D)}:(ρ.set i .un).set i (.lo ls)=ρ.set i (.lo ls):=by rw[List.set_set]
theorem xn{α:Type}(xs:List α):jJ xs none (some (-1))=xs.take (xs.length - 1):=by
 unfold jJ HT.sIx;simp;congr 1;omega
end
noncomputable def kH:List D->Bool
 | []=>true
 | .tup t::_=>t.length != 6
 | .int _::_=>true
 | _=>false
mutual
@[simp] noncomputable def xo:D->Bool
 | .non=>true
 | .bl _=>true
 | .int _=>true
 | .str _=>true
 | .tup l=>YW l
 | .lst l=>kH l&&YW l
 | .ins _ _ l=>YW l
 | _=>false
@[simp] noncomputable def YW:List D->Bool
 | []=>true
 | d::ds=>xo d&&YW ds
end
theorem xp{K:Fr}{Hd Hd' H':Hp}(k:Vi Hd Hd')(g:∀a u,Hd a=some u->H' a=some u):∀{ps:List Addr} {ls:List (List D)},ls.all YI=true->jQ K Hd Hd ps ls->jQ K Hd' H' ps ls
 | [],[],_,_=>trivial
 | p::ps,m::ls,n,h=>by
  rw[List.all_cons,Bool.and_eq_true]at n;obtain⟨⟨vs,h1,h2⟩,h3⟩:=h;exact⟨⟨vs,g _ _ h1,v8 k n.1 h2⟩,xp k g n.2 h3⟩
 | [],_::_,_,h=>h.elim
 | _::_,[],_,h=>h.elim
noncomputable def wp:Option HO->Bool
 | some (.lst _)=>true
 | _=>false
def gM(F:List Addr)(H:Hp):Hp:=fun b=>if wp (H b)=true/\b∉F then none else H b
def Io(K:Fr)(H:Hp):Prop:=(∀a xs ys,Ji K H a xs->Ji K H a ys->xs=ys)/\∀a xs zs,Ji K H a xs->H a≠some (.lst zs)
section
variable {K:Fr} {H H':Hp} {O:List Addr}
theorem U1{F:List Addr}{a:Addr}(h:wp (H a)=false∨a∈F):gM F H a=H a:=if_neg fun z=>by
 rcases h with h | h
 ·rw[h]at z;cases z.1
 ·exact z.2 h
theorem wq{F:List Addr}{a:Addr}{u:HO}(h:gM F H a=some u):H a=some u/\(wp (H a)=false∨a∈F):=by
 unfold gM at h;split at h
 ·cases h
 ·rename_i z;refine⟨h,?_⟩;cases q:wp (H a)with
  | false=>exact .inl rfl
  | true=>exact .inr (Classical.byContradiction fun y=>z ⟨q,y⟩)
theorem uv{F G:List Addr}(s:∀a∈F,a∈G):j4 (gM F H) (gM G H):=fun b o h=>by
 obtain⟨h1,h2⟩:=wq h;rw[U1 (h2.imp id (s b))];exact h1
theorem aj{F:List Addr}:Vi H (gM F H):=fun b o i h=>by
 rw[U1 (.inl (by rw[h];cases o <;> first | rfl | cases i))];exact h
def FJ(K:Fr)(H:Hp)(F:List Addr):Prop:=∀a∈F,∃m xs,H a=some (.lst xs)/\j3 K H m xs/\kH m=true
mutual
theorem ao:∀{d:D} {v:V},xo d=true->j7 K H d v->∃F,FJ K H F/\j7 K (gM F H) d v
 | .non,_,_,h=>⟨[],(fun _ z=>by cases z),by rw[j7]at h⊢;exact h⟩
 | .bl _,_,_,h=>⟨[],(fun _ z=>by cases z),by rw[j7]at h⊢;exact h⟩
 | .int _,_,_,h=>⟨[],(fun _ z=>by cases z),by rw[j7]at h⊢;exact h⟩
 | .str _,_,_,h=>⟨[],(fun _ z=>by cases z),by rw[j7]at h⊢;exact h⟩
 | .tup l,_,n,h=>by
  rw[j7]at h;obtain⟨a,xs,rfl,q,r⟩:=h;rw[xo]at n;obtain⟨F,f,r'⟩:=zO n r;exact⟨F,f,by rw[j7];exact⟨a,xs,rfl,aj.sqT q,r'⟩⟩
 | .lst l,_,n,h=>by
  rw[j7]at h;obtain⟨a,xs,rfl,q,r⟩:=h;rw[xo,Bool.and_eq_true]at n;obtain⟨F,f,r'⟩:=zO n.2 r;refine⟨a::F,fun b hb=>?_,by rw[j7];exact⟨a,xs,rfl,by rw[U1 (.inr List.mem_cons_self)];exact q,r'.same (uv fun b hb=>wMa _ hb)⟩⟩;rcases List.mem_cons.mp hb with rfl | hb
  ·exact⟨l,xs,q,r,n.1⟩
  ·exact f b hb
 | .ins C ns l,_,n,h=>by
  rw[j7]at h;obtain⟨a,dx,xs,rfl,q,z,r⟩:=h;rw[xo]at n;obtain⟨F,f,r'⟩:=zO n r;exact⟨F,f,by rw[j7];exact⟨a,dx,xs,rfl,by rw[U1 (.inl (by rw[q];rfl))];exact q,z,r'⟩⟩
 | .scr _,_,n,_=>by simp at n
 | .dct _ _,_,n,_=>by simp at n
theorem zO:∀{ds:List D} {vs:List V},YW ds=true->j3 K H ds vs->∃F,FJ K H F/\j3 K (gM F H) ds vs
 | [],_,_,h=>⟨[],(fun _ z=>by cases z),by rw[j3]at h⊢;exact h⟩
 | d::ds,_,n,h=>by
  rw[j3]at h;obtain⟨v,r,rfl,a,b⟩:=h;rw[YW,Bool.and_eq_true]at n;obtain⟨F,f,x⟩:=ao n.1 a;obtain⟨G,g,y⟩:=zO n.2 b;exact⟨F++G,fun c hc=>(List.mem_append.mp hc).elim (f c) (g c),j3.cons (x.same (uv fun b hb=>vIa _ hb)) (y.same (uv fun b hb=>vJa _ hb))⟩
end
theorem wr:∀{ks:List Bool} {ds:List D} {vs:List V},ks.all id=true->yo K O H ks ds vs->j3 K (j6 H O) ds vs
 | [],[],[],_,_=>j3.nil
 | true::ks,d::ds,v::vs,a,h=>j3.cons h.1 (wr (by simpa using a) h.2)
 | false::_,_,_,a,_=>by cases a
 | [],[],_::_,_,h=>h.elim
 | [],_::_,_,_,h=>h.elim
 | _::_,[],_,_,h=>by cases h
 | _::_,_::_,[],_,h=>by cases h
theorem wt:∀{ks:List Bool} {ds:List D} {vs:List V},ks.length=ds.length->j3 K (j6 H O) ds vs->yo K O H ks ds vs
 | [],[],_,_,h=>by rw[j3]at h;subst h;trivial
 | k::ks,d::ds,_,n,h=>by
  rw[j3]at h;obtain⟨v,r,rfl,a,b⟩:=h;refine⟨?_,wt (by simpa using n) b⟩;cases k
  ·exact .inl a
  ·exact a
 | [],_::_,_,n,_=>by cases n
 | _::_,[],_,n,_=>by cases n
theorem wu{Hd:Hp}:∀{ls:List (List D)} {xs:List V},j3 K Hd (ls.map D.lst) xs->∃ps:List Addr,xs=ps.map V.ref/\jQ K Hd Hd ps ls
 | [],_,h=>⟨[],by rw[List.map_nil,j3]at h;exact h,trivial⟩
 | m::ls,_,h=>by
  rw[List.map_cons,j3]at h;obtain⟨v,r,rfl,a,b⟩:=h;rw[j7]at a;obtain⟨p,ys,rfl,q,s⟩:=a;obtain⟨ps,rfl,e⟩:=wu b;exact⟨p::ps,rfl,⟨ys,q,s⟩,e⟩
end
noncomputable def GF:List D->Option Int
 | .tup (.int a::t)::_=>if t.length=5 then some a else none
 | _=>none
def gO:List (List D)->Option (List Int)
 | []=>some []
 | m::r=>(GF m).bind fun a=>(gO r).map fun as=>a::as
noncomputable def ww:List D->Option (List (List D))
 | []=>some []
 | .lst m::r=>(ww r).map fun ls=>m::ls
 | _=>none
theorem xq:∀{xs:List D} {ls:List (List D)},ww xs=some ls->xs=ls.map D.lst
 | [],_,h=>by cases h;rfl
 | x::xs,ls,h=>by
  cases x with
  | lst m=>
   obtain⟨r,e,rfl⟩:=Option.map_eq_some_iff.mp (show(ww xs).map _=_ from h);rw[xq e];rfl
  | _=>cases h
theorem wx:∀{ls:List (List D)} {ks:List Int} {n:Nat} {m:List D},gO ls=some ks->ls[n]?=some m->∃a,ks[n]?=some a/\GF m=some a
 | [],_,_,_,_,e=>by simp at e
 | m::r,_,0,_,h,e=>by
  obtain⟨a,e1,h⟩:=j1 h;obtain⟨as,e2,rfl⟩:=Option.map_eq_some_iff.mp h;simp at e;subst e;exact⟨a,rfl,e1⟩
 | m::r,_,n+1,_,h,e=>by
  obtain⟨a,e1,h⟩:=j1 h;obtain⟨as,e2,rfl⟩:=Option.map_eq_some_iff.mp h;obtain⟨b,h1,h2⟩:=wx (n:=n) e2 (by simpa using e);exact⟨b,by simpa using h1,h2⟩
section
variable {K:Fr} {H:Hp}
theorem dz{m:List D}{a:Int}{vs:List V}(e:GF m=some a)(r:j3 K H m vs):∃b ws,vs.head?=some (.ref b)/\Ji K H b ws/\ws.length=6/\ws.head?=some (.int a):=by
 unfold GF at e;split at e
 ·split at e
  ·rename_i hl;cases e;rw[j3]at r;obtain⟨v,r',rfl,q,_⟩:=r;rw[j7]at q;obtain⟨b,ws,rfl,s,w⟩:=q;have:=w.len;rw[j3]at w;obtain⟨v,_,rfl,q,_⟩:=w;rw[j7]at q;subst q;exact⟨b,_,rfl,s,by rw[this,List.length_cons,hl],rfl⟩
  ·cases e
 ·cases e
theorem AN{m:List D}{vs:List V}{b:Addr}(o:kH m=true)(r:j3 K H m vs)(e:vs.head?=some (.ref b)):∃ws,Ji K H b ws/\ws.length≠6:=by
 cases m with
 | nil=>rw[j3]at r;subst r;cases e
 | cons d m=>
  rw[j3]at r;obtain⟨v,r',rfl,q,_⟩:=r;cases e;cases d with
  | tup t=>
   rw[j7]at q;obtain⟨b',ws,z,s,w⟩:=q;cases z;refine⟨ws,s,?_⟩;rw[w.len];simpa[kH]using o
  | int i=>rw[j7]at q;cases q
  | _=>cases o
end
section
variable {X:Cx} {K:Fr} {e:Expr} {es:List Expr} {pos p:Pos} {l:DA} {ks:List Bool} {x:Str} {ps:List Str} {k:Nat}
theorem Fa{t:TA}(h:PA X es t):PA X es (fun σ H Q=>t σ H fun vs H1=>∀n,(∀a u,H1 a=some u->a < n)->Q vs H1):=fun p pins s σ H Q I q=>by
 refine jv (h p pins s σ H _ I q) fun us s1 xx=>?_;obtain⟨vs,H1,I1,r,q1⟩:=xx;exact⟨vs,H1,I1,r,q1 s1.heap.objs.size fun a u z=>(I1.hok a u z).lt⟩
theorem Fb{t:TE}(h:PE X e t):PE X e (fun σ H Q=>t σ H fun v H1=>Io X.K H1->Q v H1):=fun pins s σ H Q I q=>by
 refine jv (h pins s σ H _ I q) fun v s1 xx=>?_;obtain⟨x,H1,I1,r,q1⟩:=xx;refine⟨x,H1,I1,r,q1 ⟨fun a xs ys u w=>I1.tuple_inj u w,fun a xs zs u w=>?_⟩⟩;obtain⟨its,_,⟨o,g,c,_⟩,_⟩:=I1.tuple u;obtain⟨_,_,_,_,g'⟩:=I1.hok a _ w;rw[g]at g';cases g';injection c with c;exact vDa c (by decide)
def tL(K:Fr)(de:j9->Option (List (List D))):TE:=fun σ H Q=>∃H0 O0 ρ O ls,Rel K H0 O0 ρ σ H O/\de ρ=some ls/\∀l ps H',j4 H H'->(∀a∈l::ps,H a=none)->(l::ps).Nodup->Z0 K H' (j6 H' (l::ps++O)) l ps ls->Q (.ref l) H'
def qe(F:List D->Option D)(l:DA):j9->Option (List (List D)):=fun ρ=>(yh l ρ).bind fun ds=>(F ds).bind fun d=>match d with
 | .lst xs=>(ww xs).bind fun ls=>(gO ls).bind fun ks=>if YW ds=true/\ls.isEmpty=false/\ks.Nodup/\ls.all YI=true then some ls else none
 | _=>none
theorem dA{F:List D->Option D}(G:FnI X.prog X.w X.K X.mg X.base k x ps (ky K ks F))(hr:Room k X.A)(ha:PA X (e::es) (zi K l))(hl:(l.map (·.1)).all id=true)(hk:ks.length=l.length)(hg:Gl X x)(hdb:(x==("__debug__" : Str))=false)
  (he:starEach (e::es) X.env=(false,eval e X.env)::starEach es X.env) (hpl:(backTo pos (starEach es X.env)).any (·.1)=false) (hK:X.K=K):PE X (.Call (.Name x p) (e::es) [] pos) (tL K (qe F l)):=by
 subst hK;refine jy (Fb (Kg G hr (Fa ha) hg hdb he hpl)) fun σ H Q xx=>?_;obtain⟨H0,O0,ρ,O,ls,R,ed,q⟩:=xx;obtain⟨ds,e1,ed⟩:=j1 ed;obtain⟨d,e2,ed⟩:=j1 ed;cases d with
 | lst xs=>
  obtain⟨ls',e3,ed⟩:=j1 ed;obtain⟨ks',e4,ed⟩:=j1 ed;split at ed
  ·rename_i hh;cases ed;have ex:=xq e3;subst ex;refine⟨H0,O0,ρ,O,ds,R,e1,fun vs H1 s1 r1 n hn=>?_⟩
   (try dsimp only)
   rw[List.append_nil];have R1:=R.grow s1;have rr:=wr hl r1;have hds:ks.length=ds.length:=by
    have:=r1.len;rw[List.length_map]at this;omega
   obtain⟨F',fo,r2⟩:=zO hh.1 rr
   let S:=(List.range n).filter fun a=>wp (H1 a)&&decide (a∉F')
   have sd:j4 (gM F' (j6 H1 O)) (j6 H1 (O++S)):=fun b u h=>by
    obtain⟨h1,h2⟩:=wq h;obtain⟨h3,h4⟩:=J0 h1;rw[jA fun z=>?_]
    ·exact h4
    ·rcases List.mem_append.mp z with z | z
     ·exact h3 z
     ·have:=(List.mem_filter.mp z).2;rw[Bool.and_eq_true]at this;rcases h2 with h2 | h2
      ·rw[jA h3,this.1]at h2;cases h2
      ·exact vCa this.2 h2
   refine⟨O++S,ds,_,fun a ha z=>?_,wt hds (r2.same sd),e2,fun v H' s r T=>?_⟩
   ·rcases List.mem_append.mp ha with ha | ha
    ·exact R1.al a ha z
    ·have:=(List.mem_filter.mp ha).2;rw[z]at this;cases this
   rw[j7]at r;obtain⟨l0,ys,rfl,hl0,ry⟩:=r;obtain⟨ps0,rfl,el⟩:=wu ry;obtain⟨T1,T2⟩:=T;have lf:∀{a:Addr} {u:HO},j6 H' (O++S) a=some u->H' a=some u:=fun h=>(J0 h).2;have up:∀{b:Addr} {ws:List V},Ji X.K (j6 H' (O++S)) b ws->Ji X.K H' b ws:=fun h=>JC.tup h;have old:∀{a:Addr} {ys:List V},j6 H' (O++S) a=some (.lst ys)->H1 a≠none->∃m,j3 X.K (j6 H1 O) m ys/\kH m=true:=fun {a ys} h hne=>by
    cases hu:H1 a with
    | none=>exact vDa hu hne
    | some u=>
     obtain⟨h1,h2⟩:=J0 h;have e0:=s a u hu;rw[h2]at e0;cases e0;have mF:a∈F':=Classical.byContradiction fun y=>h1 (vJa _ (List.mem_filter.mpr ⟨List.mem_range.mpr (hn a _ hu),by rw[hu,Bool.and_eq_true];exact⟨rfl,vAa y⟩⟩));obtain⟨m,xs,g1,g2,g3⟩:=fo a mF;have:=(J0 g1).2;rw[hu]at this;cases this;exact⟨m,g2,g3⟩
   have inner:∀{n:Nat} {a:Addr},ps0[n]?=some a->∃(z:Int) (ys:List V) (b:Addr) (ws:List V),ks'[n]?=some z/\j6 H' (O++S) a=some (.lst ys)/\ys.head?=some (.ref b)/\Ji X.K H' b ws/\ws.length=6/\ws.head?=some (.int z):=fun {n a} h=>by
    have hlen:=el.len;have hn':n < ls.length:=by have:=(List.getElem?_eq_some_iff.mp h).1;omega
    have hm:ls[n]?=some ls[n]:=by simp[hn']
    obtain⟨p,vs,g1,g2,g3⟩:=el.get hm;rw[h]at g1;cases g1;obtain⟨z,k1,k2⟩:=wx e4 hm;obtain⟨b,ws,w1,w2,w3,w4⟩:=dz k2 g3;exact⟨z,vs,b,ws,k1,g2,w1,up w2,w3,w4⟩
   obtain⟨p0,hp0⟩:∃p0,ps0[0]?=some p0:=by
    cases ps0 with
    | nil=>
     have:=el.len;cases ls with
     | nil=>cases hh.2.1
     | cons _ _=>cases this
    | cons p0 _=>exact⟨p0,rfl⟩
   have hd0:(ps0.map V.ref).head?=some (.ref p0):=by
    rw[List.head?_eq_getElem?,List.getElem?_map,hp0];rfl
   obtain⟨_,y0,_,_,_,g0,_⟩:=inner hp0;have fr:∀a∈l0::ps0,H1 a=none:=fun a ha=>Classical.byContradiction fun hne=>by
    rcases List.mem_cons.mp ha with rfl | ha
    ·obtain⟨m,m1,m2⟩:=old hl0 hne;obtain⟨ws,w1,_⟩:=AN m2 m1 hd0;exact T2 _ _ _ (s.tup (JC.tup w1)) (lf g0)
    ·obtain⟨n,hn'⟩:=List.getElem?_of_mem ha;obtain⟨z,ys,b,ws,_,g2,g3,g4,g5,_⟩:=inner hn';obtain⟨m,m1,m2⟩:=old g2 hne;obtain⟨ws',w1,w2⟩:=AN m2 m1 g3;exact w2 (by rw[T1 _ _ _ (s.tup (JC.tup w1)) g4];exact g5)
   have nd:(l0::ps0).Nodup:=by
    refine List.nodup_cons.mpr ⟨fun z=>?_,?_⟩
    ·obtain⟨n,hn'⟩:=List.getElem?_of_mem z;obtain⟨z,ys,b,ws,_,g2,g3,g4,_⟩:=inner hn';rw[hl0]at g2;cases g2;rw[hd0]at g3;cases g3;exact T2 _ _ _ g4 (lf g0)
    ·unfold List.Nodup;rw[List.pairwise_iff_getElem];intro i j h1 h2 hij he;obtain⟨z,ys,b,ws,k1,g2,g3,g4,_,g6⟩:=inner (n:=i) (a:=ps0[i]) (by simp[h1]);obtain⟨z',ys',b',ws',k1',g2',g3',g4',_,g6'⟩:=inner (n:=j) (a:=ps0[i]) (by rw[he];simp[h2]);rw[g2]at g2';cases g2';rw[g3]at g3';cases g3';rw[T1 _ _ _ g4 g4',g6']at g6;cases g6;have l1:=(List.getElem?_eq_some_iff.mp k1).1;have:=(List.getElem?_inj l1 hh.2.2.1).mp (k1.trans k1'.symm);omega
   refine q l0 ps0 H' (s1.trans s) (fun a ha=>s1.none (fr a ha)) nd ⟨lf hl0,xp (fun b o i h=>?_) (fun a u h=>lf h) hh.2.2.2 el⟩;obtain⟨h1,h2⟩:=J0 h;rw[jA fun z=>?_]
   ·exact h2
   ·rcases List.mem_append.mp z with z | z
    ·obtain⟨vs,hv⟩:=Z0.at (K:=X.K) (Hd:=j6 H' (O++S)) (H:=j6 H' (O++S)) (ls:=ls) ⟨hl0,el⟩ b z;rw[h]at hv;cases hv;cases i
    ·exact h1 (vIa _ z)
  ·cases ed
 | _=>cases ed
noncomputable def Fc:Sl->Bool
 | .lo _=>false
 | _=>true
def gP(i:Nat)(de:j9->Option (List (List D))):DS:=fun ρ=>(de ρ).bind fun ls=>if (ρ.set i .un).all Fc=true then some (.nx (ρ.set i (.lo ls)))else none
theorem dB{st:Stmt}{i:Nat}{de:j9->Option (List (List D))}(h:PS X st (Y3 (tL K de) (YR i))):PS X st (tS K (gP i de)):=jZ h fun D σ H xx=>by
 obtain⟨H0,O0,ρ,O,r,R,ed,f⟩:=xx;obtain⟨ls,e1,ed⟩:=j1 ed;split at ed
 ·rename_i nl;cases ed;refine⟨H0,O0,ρ,O,ls,R,e1,fun l ps H' s hn nd yP=>?_⟩;show D.nx _ _;have R2:=(R.forget i).lay (F:=l::ps) s hn fun a ha=>by
   obtain⟨vs,hv⟩:=yP.at a ha;rw[hv];exact fun z=>nomatch z
  have R3:=R2.loSet (i:=i) (l:=l) (ps:=ps) (ls:=ls) (fun j ms _ e=>by
   have:=List.all_eq_true.mp nl _ (wYa e);cases this) yP nd fun a ha=>⟨vIa _ ha,R.keep.none (hn a ha),fun z=>JW.there R (zm z) (hn a ha)⟩
  rw[uu]at R3;exact f _ _ _ R3 (yz s hn)
 ·cases ed
end
section
variable {K:Fr} {H0 H H':Hp} {O0 O:List Addr} {ρ:j9} {σ:L2.St} {i:Nat} {ls:List (List D)}
theorem wy{ps:List Addr}{j:Int}{n k:Nat}{p:Addr}(h:ps.length=k)(e:yt k j=some n)(hp:ps[n]?=some p):atI (ps.map V.ref) j=some (.ref p):=by
 unfold atI;rw[List.length_map,h,e];show(ps.map V.ref)[n]?=_;rw[List.getElem?_map,hp];rfl
theorem Rel.inner{n:Nat}{m:List D}(R:Rel K H0 O0 ρ σ H O)(hi:ρ[i]?=some (.lo ls))(hn:ls[n]?=some m):∃(l:Addr) (ps:List Addr) (p:Addr) (vs:List V),σ[i]?=some (some (.ref l))/\H l=some (.lst (ps.map V.ref))/\ps.length=ls.length/\ps[n]?=some p/\H p=some (.lst vs)/\j3 K (j6 H O) m vs/\∀(H2:Hp) (m':List D) (ws:List V),j4 H H2->j3 K (j6 H2 O) m' ws->Rel K H0 O0 (ρ.set i (.lo (ls.set n m'))) σ (upd H2 p (.lst ws)) O/\j4 (j6 H O) (j6 (upd H2 p (.lst ws)) O):=by
 obtain⟨l,ps,hs,⟨hl,el⟩,nd,fp,un⟩:=R.lo i ls hi;obtain⟨p,vs,hp,hv,rp⟩:=el.get hn;have pm:=wYa hp;have ha:=(fp p (wMa _ pm))
 have nl:l≠p:=fun z=>(List.nodup_cons.mp nd).1 (z▸pm);refine⟨l,ps,p,vs,hs,hl,el.len,hp,hv,rp,fun H2 m' ws s12 rw'=>?_⟩;have R2:=R.grow s12;have R3:=((R2.forget i).poke (u:=.lst ws) (YJ R2 hi) ha.1 ha.2.1 fun z=>ha.2.2 (zm z)).loSet (i:=i) (l:=l) (ps:=ps) (ls:=ls.set n m') (fun j ls _=>YJ R2 hi j ls)
  ⟨by rw[jo nl];exact s12 _ _ hl,by
   rw[Jb ha.1];exact jQ.set ⟨_,jH,rw'⟩ (List.nodup_cons.mp nd).2 hp (fun a _ ne u z=>by rw[jo ne];exact z) (el.mono (jc s12) fun a _ u z=>s12 a u z)⟩ nd fun a h=>⟨(fp a h).1,(fp a h).2.1,fun z=>(fp a h).2.2 (zm z)⟩
 rw[uu,wo hs]at R3;exact⟨R3,by rw[Jb ha.1];exact jc s12⟩
theorem Rel.outer(R:Rel K H0 O0 ρ σ H O)(hi:ρ[i]?=some (.lo ls)):∃(l:Addr) (ps:List Addr),σ[i]?=some (some (.ref l))/\H l=some (.lst (ps.map V.ref))/\jQ K (j6 H O) H ps ls/\ps.Nodup/\
  (∀(H2:Hp) (F ps':List Addr) (ls':List (List D)),j4 H H2->(∀a∈F,H a=none)->(∀a∈F,H2 a≠none)->ps'.Nodup->(∀a∈ps',a∈ps∨a∈F)->jQ K (j6 H2 (F++O)) H2 ps' ls'->Rel K H0 O0 (ρ.set i (.lo ls')) σ (upd H2 l (.lst (ps'.map V.ref))) (F++O)/\j4 (j6 H O) (j6 (upd H2 l (.lst (ps'.map V.ref))) (F++O)))/\
  ∀(H2:Hp) (F ps':List Addr) (l':Addr) (ls':List (List D)),j4 H H2->(∀a∈F,H a=none)->(∀a∈F,H2 a≠none)->l'∈F->H2 l'=some (.lst (ps'.map V.ref))->(l'::ps').Nodup->(∀a∈ps',a∈ps∨a∈F)->jQ K (j6 H2 (F++O)) H2 ps' ls'->Rel K H0 O0 (ρ.set i (.lo ls')) (σ.set i (some (.ref l'))) H2 (F++O)/\j4 (j6 H O) (j6 H2 (F++O)):=by
 obtain⟨l,ps,hs,⟨hl,el⟩,nd,fp,un⟩:=R.lo i ls hi;have nd2:=List.nodup_cons.mp nd;have old:∀F a,a∈l::ps->a∈F++O/\H0 a=none/\¬JW (ρ.set i .un) σ a:=fun F a h=>⟨vJa _ (fp a h).1,(fp a h).2.1,fun z=>(fp a h).2.2 (zm z)⟩
 have new:∀F,(∀a∈F,H a=none)->∀a∈F,a∈F++O/\H0 a=none/\¬JW (ρ.set i .un) σ a:=fun F hn a h=>⟨vIa _ h,R.keep.none (hn a h),fun z=>JW.there R (zm z) (hn a h)⟩
 have both:∀F,(∀a∈F,H a=none)->∀a,a∈ps∨a∈F->a∈F++O/\H0 a=none/\¬JW (ρ.set i .un) σ a:=fun F hn a h=>h.elim (fun z=>old F a (wMa _ z)) (new F hn a);refine⟨l,ps,hs,hl,el,nd2.2,fun H2 F ps' ls' s hn hA nd' hps el'=>?_,fun H2 F ps' l' ls' s hn hA hl' h2 nd' hps el'=>?_⟩
 ·have R2:=R.lay s hn hA;have lO:=old F l wNa;have ln:l∉ps':=fun z=>(hps l z).elim nd2.1 fun y=>by rw[hn l y]at hl;cases hl
  have R3:=((R2.forget i).poke (u:=.lst (ps'.map V.ref)) (YJ R2 hi) lO.1 lO.2.1 lO.2.2).loSet (i:=i) (l:=l) (ps:=ps') (ls:=ls') (fun j ls _=>YJ R2 hi j ls)
   ⟨jH,by
    rw[Jb lO.1];exact el'.mono (j4.refl _) fun a h u z=>by rw[jo fun y=>ln (by rw[<-y];exact h)];exact z⟩ (List.nodup_cons.mpr ⟨ln,nd'⟩) fun a h=>by
     rcases List.mem_cons.mp h with rfl | h
     ·exact lO
     ·exact both F hn a (hps a h)
  rw[uu,wo hs]at R3;exact⟨R3,by rw[Jb lO.1];exact yz s hn⟩
 ·have R2:=R.lay s hn hA;have R3:=(R2.forget i).loSet (i:=i) (l:=l') (ps:=ps') (ls:=ls') (fun j ls _=>YJ R2 hi j ls) ⟨h2,el'⟩ nd' fun a h=>by
   rcases List.mem_cons.mp h with rfl | h
   ·exact new F hn _ hl'
   ·exact both F hn a (hps a h)
  rw[uu]at R3;exact⟨R3,yz s hn⟩
end
section
variable {X:Cx} {K:Fr} {de dj dh:DE} {df:DO} {st:Stmt} {i:Nat}
def U2(i:Nat)(dj de:DE):DS:=fun ρ=>match ρ[i]? with
 | some (.lo ls)=>(dj ρ).bind fun j=>(de ρ).bind fun d=>match j with
  | .int j=>(yt ls.length j).bind fun n=>(ls[n]?).bind fun m=>if m.length < sizeLine then some (.nx (ρ.set i (.lo (ls.set n (m++[d])))))else none
  | _=>none
 | _=>none
theorem dE(h:PS X st (Vf (kl K "list" uZ (gq (KA K) (ye i) (tR K dj)) (yb (tE K de) zW)))):PS X st (tS K (U2 i dj de)):=jZ h fun D σ H xx=>by
 obtain⟨H0,O0,ρ,O,r,R,ed,f⟩:=xx;unfold U2 at ed;split at ed
 ·rename_i ls hi;obtain⟨j,e1,ed⟩:=j1 ed;obtain⟨d,e2,ed⟩:=j1 ed;cases j with
  | int j=>
   obtain⟨n,e3,ed⟩:=j1 ed;obtain⟨m,e4,ed⟩:=j1 ed;split at ed
   ·rename_i hz;cases ed;obtain⟨l,ps,p,vs,hs,hl,hlen,hp,hv,rp,fin⟩:=R.inner hi e4;refine⟨_,hs,H0,O0,ρ,O,_,R,e1,fun w H1 s1 r1=>?_⟩;refine⟨l,_,j,.ref p,rfl,r1.int,jC.of (s1 _ _ hl),wy hlen e3 hp,.inl ⟨rfl,_,jC.of (s1 _ _ hv)⟩,H0,O0,ρ,O,d,R.grow s1,e2,fun v H2 s2 rv=>?_⟩;have s12:=s1.trans s2;obtain⟨R3,s4⟩:=fin H2 (m++[d]) _ s12 ((rp.same (jc s12)).snoc rv);exact⟨p,vs,v,rfl,rfl,s12 _ _ hv,by rw[rp.len];exact hz,f _ _ O R3 s4⟩
   ·cases ed
  | _=>cases ed
 ·cases ed
noncomputable def Vn(i:Nat)(dj:DE)(df:DO):DS:=fun ρ=>match ρ[i]? with
 | some (.lo ls)=>(dj ρ).bind fun j=>(df ρ).bind fun o=>match j,o with
  | .int k,.lst m=>if 0<=k/\k<=(ls.length:Int)/\ls.length < 1000000 then some (.nx (ρ.set i (.lo (ls.take k.toNat++m::ls.drop k.toNat))))else none
  | _,_=>none
 | _=>none
theorem dF(h:PS X st (Vf (kl K "list" U0 (ye i) (yb (tR K dj) (yb (tF K df) zW))))):PS X st (tS K (Vn i dj df)):=jZ h fun D σ H xx=>by
 obtain⟨H0,O0,ρ,O,r,R,ed,f⟩:=xx;unfold Vn at ed;split at ed
 ·rename_i ls hi;obtain⟨j,e1,ed⟩:=j1 ed;obtain⟨o,e2,ed⟩:=j1 ed;cases j with
  | int k=>
   cases o with
   | lst m=>
   dsimp only at ed;split at ed
   ·rename_i hz;cases ed;obtain⟨l,ps,hs,hl,el,nd,fin,_⟩:=R.outer hi;refine⟨_,hs,.inl ⟨rfl,_,jC.of hl⟩,H0,O0,ρ,O,_,R,e1,fun w H1 s1 r1=>⟨H0,O0,ρ,O,_,R.grow s1,e2,fun q H2 s2 hq ow=>?_⟩⟩;obtain⟨vs,hv,rp⟩:=ow;have s12:=s1.trans s2;have hn:∀a∈[q],H a=none:=fun a h=>by rw[List.mem_singleton.mp h];exact s1.none hq
    have nq:q∉ps:=fun z=>by
     obtain⟨us,hu⟩:=el.at q z;rw[s1.none hq]at hu;cases hu
    have el2:=el.mono (yz s12 hn) fun a _ u z=>s12 a u z;obtain⟨R3,s4⟩:=fin H2 [q] (ps.take k.toNat++q::ps.drop k.toNat) (ls.take k.toNat++m::ls.drop k.toNat) s12 hn (fun a h=>by rw[List.mem_singleton.mp h,hv];exact fun z=>nomatch z)
     (by
      have pm:(q::ps).Perm (ps.take k.toNat++q::ps.drop k.toNat):=by
       have:=(List.perm_middle (a:=q) (l₁:=ps.take k.toNat) (l₂:=ps.drop k.toNat)).symm;rwa [List.take_append_drop]at this
      exact pm.nodup_iff.mp (List.nodup_cons.mpr ⟨nq,nd⟩))
     (fun a h=>by
      rcases List.mem_append.mp h with h | h
      ·exact .inl (vVa h)
      ·rcases List.mem_cons.mp h with h | h
       ·exact .inr (List.mem_singleton.mpr h)
       ·exact .inl (List.mem_of_mem_drop h))
     ((el2.take _).app ⟨⟨vs,hv,rp⟩,el2.drop _⟩)
    rw[List.map_append,List.map_cons,List.map_take,List.map_drop]at R3 s4;exact⟨l,_,k,.ref q,rfl,by rw[r1.int],s12 _ _ hl,hz.1,by rw[List.length_map,el.len];exact hz.2.1,by rw[List.length_map,el.len];exact hz.2.2,f _ _ _ R3 s4⟩
   ·cases ed
      | _=>cases ed
  | _=>cases ed
 ·cases ed
def Vo(i:Nat)(dj dh de:DE):DS:=fun ρ=>match ρ[i]? with
 | some (.lo ls)=>(dj ρ).bind fun j=>(dh ρ).bind fun h=>(de ρ).bind fun d=>match j,h with
  | .int j,.int h=>(yt ls.length j).bind fun n=>(ls[n]?).bind fun m=>if 0<=h/\h<=(m.length:Int)/\m.length < 1000000 then some (.nx (ρ.set i (.lo (ls.set n (m.take h.toNat++d::m.drop h.toNat)))))else none
  | _,_=>none
 | _=>none
theorem dG(h:PS X st (Vf (kl K "list" U0 (gq (KA K) (ye i) (tR K dj)) (yb (tR K dh) (yb (tE K de) zW))))):PS X st (tS K (Vo i dj dh de)):=jZ h fun D σ H xx=>by
 obtain⟨H0,O0,ρ,O,r,R,ed,f⟩:=xx;unfold Vo at ed;split at ed
 ·rename_i ls hi;obtain⟨j,e1,ed⟩:=j1 ed;obtain⟨k,e2,ed⟩:=j1 ed;obtain⟨d,e3,ed⟩:=j1 ed;cases j with
  | int j=>
   cases k with
   | int k=>
   obtain⟨n,e4,ed⟩:=j1 ed;obtain⟨m,e5,ed⟩:=j1 ed;split at ed
   ·rename_i hz;cases ed;obtain⟨l,ps,p,vs,hs,hl,hlen,hp,hv,rp,fin⟩:=R.inner hi e5;refine⟨_,hs,H0,O0,ρ,O,_,R,e1,fun w H1 s1 r1=>?_⟩;refine⟨l,_,j,.ref p,rfl,r1.int,jC.of (s1 _ _ hl),wy hlen e4 hp,.inl ⟨rfl,_,jC.of (s1 _ _ hv)⟩,H0,O0,ρ,O,_,R.grow s1,e2,fun w2 H2 s2 r2=>⟨H0,O0,ρ,O,d,R.grow (s1.trans s2),e3,fun v H3 s3 rv=>?_⟩⟩;have s13:=(s1.trans s2).trans s3;have rp3:=rp.same (jc s13);refine⟨p,vs,k,v,rfl,by rw[r2.int],s13 _ _ hv,hz.1,by rw[rp.len];exact hz.2.1,by rw[rp.len];exact hz.2.2,?_⟩;obtain⟨R3,s4⟩:=fin H3 (m.take k.toNat++d::m.drop k.toNat) _ s13 (j3.app (rp3.take k.toNat) (j3.cons rv (rp3.drop k.toNat)));exact f _ _ O R3 s4
   ·cases ed
      | _=>cases ed
  | _=>cases ed
 ·cases ed
def Vp(i:Nat)(dj dh de:DE):DS:=fun ρ=>match ρ[i]? with
 | some (.lo ls)=>(de ρ).bind fun d=>(dj ρ).bind fun j=>(dh ρ).bind fun h=>match j,h with
  | .int j,.int h=>(yt ls.length j).bind fun n=>(ls[n]?).bind fun m=>(yt m.length h).bind fun k=>some (.nx (ρ.set i (.lo (ls.set n (m.set k d)))))
  | _,_=>none
 | _=>none
theorem dH(h:PS X st (Y3 (tE K de) (Kx (gq (KA K) (ye i) (tR K dj)) (tR K dh) Kf))):PS X st (tS K (Vp i dj dh de)):=jZ h fun D σ H xx=>by
 obtain⟨H0,O0,ρ,O,r,R,ed,f⟩:=xx;unfold Vp at ed;split at ed
 ·rename_i ls hi;obtain⟨d,e3,ed⟩:=j1 ed;obtain⟨j,e1,ed⟩:=j1 ed;obtain⟨k,e2,ed⟩:=j1 ed;cases j with
  | int j=>
   cases k with
   | int k=>
   obtain⟨n,e4,ed⟩:=j1 ed;obtain⟨m,e5,ed⟩:=j1 ed;obtain⟨h,e6,ed⟩:=j1 ed;cases ed;obtain⟨l,ps,p,vs,hs,hl,hlen,hp,hv,rp,fin⟩:=R.inner hi e5;refine⟨H0,O0,ρ,O,d,R,e3,fun v H1 s1 rv=>⟨_,hs,H0,O0,ρ,O,_,R.grow s1,e1,fun w H2 s2 r2=>?_⟩⟩;have s12:=s1.trans s2;refine⟨l,_,j,.ref p,rfl,r2.int,jC.of (s12 _ _ hl),wy hlen e4 hp,H0,O0,ρ,O,_,R.grow s12,e2,fun w2 H3 s3 r3=>?_⟩;have s13:=s12.trans s3;obtain⟨R3,s4⟩:=fin H3 (m.set h d) _ s13 ((rp.same (jc s13)).set (rv.same (jc (s2.trans s3))) h);exact⟨p,vs,k,h,rfl,r3.int,s13 _ _ hv,by rw[rp.len];exact e6,f _ _ O R3 s4⟩
      | _=>cases ed
  | _=>cases ed
 ·cases ed
def zG(i:Nat)(dj:DE)(df:DO):DS:=fun ρ=>match ρ[i]? with
 | some (.lo ls)=>(df ρ).bind fun o=>(dj ρ).bind fun j=>match j,o with
  | .int j,.lst m=>(yt ls.length j).bind fun n=>some (.nx (ρ.set i (.lo (ls.set n m))))
  | _,_=>none
 | _=>none
theorem jQ.put{Hd H:Hp}{q:Addr}{m:List D}(hq:∃vs,H q=some (.lst vs)/\j3 K Hd m vs):∀{as:List Addr} {ls:List (List D)} (n:Nat),jQ K Hd H as ls->jQ K Hd H (as.set n q) (ls.set n m)
 | [],[],_,h=>h
 | _::_,_::_,0,h=>⟨hq,h.2⟩
 | _::_,_::_,n+1,h=>⟨h.1,jQ.put hq n h.2⟩
 | [],_::_,_,h=>h.elim
 | _::_,[],_,h=>h.elim
theorem kI{q:Addr}:∀{as:List Addr} (n:Nat),as.Nodup->q∉as->(as.set n q).Nodup
 | [],_,_,_=>List.nodup_nil
 | a::as,0,h,hq=>List.nodup_cons.mpr ⟨fun z=>hq (wMa _ z),(List.nodup_cons.mp h).2⟩
 | a::as,n+1,h,hq=>by
  obtain⟨h1,h2⟩:=List.nodup_cons.mp h;refine List.nodup_cons.mpr ⟨fun z=>?_,kI n h2 fun z=>hq (wMa _ z)⟩;rcases List.mem_or_eq_of_mem_set z with z | z
  ·exact h1 z
  ·exact hq (z▸wNa)
theorem dI(h:PS X st (Y3 (tF K df) (Kx (ye i) (tR K dj) Kf))):PS X st (tS K (zG i dj df)):=jZ h fun D σ H xx=>by
 obtain⟨H0,O0,ρ,O,r,R,ed,f⟩:=xx;unfold zG at ed;split at ed
 ·rename_i ls hi;obtain⟨o,e2,ed⟩:=j1 ed;obtain⟨j,e1,ed⟩:=j1 ed;cases j with
  | int j=>
   cases o with
   | lst m=>
   obtain⟨n,e4,ed⟩:=j1 ed;cases ed;obtain⟨l,ps,hs,hl,el,nd,fin,_⟩:=R.outer hi;refine⟨H0,O0,ρ,O,_,R,e2,fun q H1 s1 hq ow=>⟨_,hs,H0,O0,ρ,O,_,R.grow s1,e1,fun w H2 s2 r2=>?_⟩⟩;obtain⟨vs,hv,rp⟩:=ow;have s12:=s1.trans s2;have hn:∀a∈[q],H a=none:=fun a h=>by rw[List.mem_singleton.mp h];exact hq
   have nq:q∉ps:=fun z=>by
    obtain⟨us,hu⟩:=el.at q z;rw[hq]at hu;cases hu
   obtain⟨R3,s4⟩:=fin H2 [q] (ps.set n q) (ls.set n m) s12 hn (fun a h=>by rw[List.mem_singleton.mp h,s2 _ _ hv];exact fun z=>nomatch z) (kI n nd nq) (fun a h=>(List.mem_or_eq_of_mem_set h).imp id fun z=>List.mem_singleton.mpr z)
    (jQ.put ⟨vs,s2 _ _ hv,rp.same (jc s2)⟩ n (el.mono (yz s12 hn) fun a _ u z=>s12 a u z))
   rw[List.map_set]at R3 s4;exact⟨l,_,j,n,rfl,r2.int,s12 _ _ hl,by rw[List.length_map,el.len];exact e4,f _ _ _ R3 s4⟩
      | _=>cases ed
  | _=>cases ed
 ·cases ed
noncomputable def Vq(i:Nat)(dj:DE):DS:=fun ρ=>match ρ[i]? with
 | some (.lo ls)=>(dj ρ).bind fun j=>match j with
  | .int j=>if 0<=j/\j < (ls.length:Int)/\ls.length < 1000000 then some (.nx (ρ.set i (.lo (ls.eraseIdx j.toNat))))else none
  | _=>none
 | _=>none
theorem jQ.erase{Hd H:Hp}:∀{as:List Addr} {ls:List (List D)} (n:Nat),jQ K Hd H as ls->jQ K Hd H (as.eraseIdx n) (ls.eraseIdx n)
 | [],[],_,h=>h
 | _::_,_::_,0,h=>h.2
 | _::_,_::_,n+1,h=>⟨h.1,jQ.erase n h.2⟩
 | [],_::_,_,h=>h.elim
 | _::_,[],_,h=>h.elim
theorem uw{α β:Type}(f:α->β):∀(l:List α) (n:Nat),(l.map f).eraseIdx n=(l.eraseIdx n).map f
 | [],_=>rfl
 | _::_,0=>rfl
 | x::l,n+1=>congrArg (f x::·) (uw f l n)
theorem dJ(h:PS X st (Vf (kl K "list" QN (ye i) (yb (tR K dj) zW)))):PS X st (tS K (Vq i dj)):=jZ h fun D σ H xx=>by
 obtain⟨H0,O0,ρ,O,r,R,ed,f⟩:=xx;unfold Vq at ed;split at ed
 ·rename_i ls hi;obtain⟨j,e1,ed⟩:=j1 ed;cases j with
  | int j=>
   dsimp only at ed;split at ed
   ·rename_i hz;cases ed;obtain⟨l,ps,hs,hl,el,nd,fin,_⟩:=R.outer hi;refine⟨_,hs,.inl ⟨rfl,_,jC.of hl⟩,H0,O0,ρ,O,_,R,e1,fun w H1 s1 r1=>?_⟩;have hlen:=el.len;have hp:j.toNat < ps.length:=by omega
    obtain⟨R3,s4⟩:=fin H1 [] (ps.eraseIdx j.toNat) (ls.eraseIdx j.toNat) s1 (fun a h=>by cases h) (fun a h=>by cases h) (nd.sublist (List.eraseIdx_sublist _ _)) (fun a h=>.inl (List.mem_of_mem_eraseIdx h)) ((el.mono (jc s1) fun a _ u z=>s1 a u z).erase _);refine⟨l,_,j,j.toNat,V.ref ps[j.toNat],rfl,by rw[r1.int],s1 _ _ hl,by omega,by omega,?_,by rw[List.getElem?_map];simp[hp],?_⟩
    ·unfold seqIndex?;simp;omega
    ·rw[uw];exact f _ _ _ R3 s4
   ·cases ed
  | _=>cases ed
 ·cases ed
end
section
variable {X:Cx} {K:Fr} {df:DO} {st:Stmt} {i:Nat}
noncomputable def U3(i:Nat)(p:ul)(df:DO):DS:=fun ρ=>match ρ[i]? with
 | some (.lo ls)=>(p ρ).bind fun o=>(df ρ).bind fun m=>match m with
  | .lst m=>if o=some (-1)/\ls.length < 1000000 then some (.nx (ρ.set i (.lo (ls.take (ls.length - 1)++[m]))))else none
  | _=>none
 | _=>none
theorem dM{p:ul}(h:PS X st (Y3 (gq XF (Fu (c_ K) (ye i) WN (kt K p)) (cK (yb (tF K df) zW))) (YR i))):PS X st (tS K (U3 i p df)):=jZ h fun D σ H xx=>by
 obtain⟨H0,O0,ρ,O,r,R,ed,f⟩:=xx;unfold U3 at ed;split at ed
 ·rename_i ls hi;obtain⟨o,e1,ed⟩:=j1 ed;obtain⟨m,e2,ed⟩:=j1 ed;cases m with
  | lst m=>
   dsimp only at ed;split at ed
   case isFalse=>cases ed
   rename_i hz;obtain⟨eo,hz⟩:=hz;cases ed;subst eo;obtain⟨l,ps,hs,hl,el,nd,_,fin⟩:=R.outer hi;have hlen:=el.len;have ec:Vg (ps.map V.ref) none (some (-1))=(ps.take (ls.length - 1)).map V.ref:=by
    have:=xn (ps.map V.ref);rw[List.length_map,el.len,<-List.map_take]at this;exact this
   refine⟨_,hs,H0,O0,ρ,O,_,R,e1,fun H1 s1=>⟨l,_,rfl,jC.of (s1 _ _ hl),fun q1 hq1=>?_⟩⟩;rw[ec];have s2:=s1.trans (jw hq1 (.lst ((ps.take (ls.length - 1)).map V.ref)));have g1:upd H1 q1 (.lst ((ps.take (ls.length - 1)).map V.ref)) q1=some (.lst ((ps.take (ls.length - 1)).map V.ref)):=jH;generalize upd H1 q1 (.lst ((ps.take (ls.length - 1)).map V.ref))=H2 at s2 g1⊢;refine⟨H0,O0,ρ,O,_,R.grow s2,e2,fun q2 H3 s3 hq2 ow=>⟨by show 1<=sizeLine;decide,fun q3 hq3=>?_⟩⟩;obtain⟨vs,hv,rp⟩:=ow;have s4:=s3.trans (jw hq3 (.lst [V.ref q2]));have g3:upd H3 q3 (.lst [V.ref q2]) q3=some (.lst [V.ref q2]):=jH;have s34:=jw hq3 (.lst [V.ref q2]);generalize upd H3 q3 (.lst [V.ref q2])=H4 at s4 g3 s34⊢;have z:(1000000:Nat)+2 < sizeLine:=by decide
   refine⟨q1,q3,_,_,rfl,rfl,s4 _ _ g1,g3,by simp;omega,fun q4 hq4=>?_⟩;have eM:(ps.take (ls.length - 1)).map V.ref++[V.ref q2]=(ps.take (ls.length - 1)++[q2]).map V.ref:=by rw[List.map_append];rfl
   rw[eM];have s5:=jw hq4 (.lst ((ps.take (ls.length - 1)++[q2]).map V.ref));have g4:upd H4 q4 (.lst ((ps.take (ls.length - 1)++[q2]).map V.ref)) q4=some (.lst ((ps.take (ls.length - 1)++[q2]).map V.ref)):=jH;generalize upd H4 q4 (.lst ((ps.take (ls.length - 1)++[q2]).map V.ref))=H5 at s5 g4⊢;have n2:H q2=none:=s2.none hq2;have n4:H q4=none:=s2.none (s4.none hq4);have v2:H5 q2=some (.lst vs):=s5 _ _ (s34 _ _ hv);have ne:q4≠q2:=fun y=>by rw[y,s34 _ _ hv]at hq4;cases hq4
   have hn:∀a∈[q4,q2],H a=none:=fun a h=>by
    rcases List.mem_cons.mp h with rfl | h
    ·exact n4
    ·rw[List.mem_singleton.mp h];exact n2
   have hps:∀a∈ps,H a≠none:=fun a h=>by
    obtain⟨us,hu⟩:=el.at a h;rw[hu];exact fun z=>nomatch z
   have sH:=(s2.trans s4).trans s5;obtain⟨R3,s6⟩:=fin H5 [q4,q2] (ps.take (ls.length - 1)++[q2]) q4 (ls.take (ls.length - 1)++[m]) sH hn (fun a h=>by
     rcases List.mem_cons.mp h with rfl | h
     ·rw[g4];exact fun z=>nomatch z
     ·rw[List.mem_singleton.mp h,v2];exact fun z=>nomatch z) wNa g4
    (by
     refine List.nodup_cons.mpr ⟨fun z=>?_,?_⟩
     ·rcases List.mem_append.mp z with z | z
      ·exact hps _ (vVa z) n4
      ·exact ne (List.mem_singleton.mp z)
     ·refine List.nodup_append.mpr ⟨nd.sublist (List.take_sublist _ _),by simp,fun a ha b hb y=>?_⟩;rw[List.mem_singleton.mp hb]at y;exact hps a (vVa ha) (y▸n2))
    (fun a h=>by
     rcases List.mem_append.mp h with h | h
     ·exact .inl (vVa h)
     ·exact .inr (wMa _ h))
    (((el.mono (yz sH hn) fun a _ u z=>sH a u z).take _).app ⟨⟨vs,v2,rp.same fun b u hb=>by
     obtain⟨b1,b2⟩:=J0 hb;have b3:=s34 _ _ b2;rw[jA fun y=>?_]
     ·exact s5 _ _ b3
     ·rcases List.mem_cons.mp y with rfl | y
      ·rw[hq4]at b3;cases b3
      ·exact b1 y⟩,trivial⟩)
   exact f _ _ _ R3 s6
  | _=>cases ed
 ·cases ed
def xr(K:Fr)(i:Nat)(ds:DS):TS:=fun E σ H=>tS K ds { E with nx:=fun σ' H'=>∃v,σ'[i]?=some (some v)/\E.rt v H' } σ H
theorem dN{e:Expr}{pos:Pos}(h:PE X e (ye i)):Jc X [.Return (some e) pos] (xr K i js):=V0 (WL (gk h)) fun D σ H xx=>by
 obtain⟨H0,O0,ρ,O,r,R,ed,f⟩:=xx;cases ed;exact f σ H O R (j4.refl _)
theorem Bc{rest:List Stmt}{s1 s2:DS}(h1:PS X st (tS K s1))(h2:Jc X rest (xr K i s2)):Jc X (st::rest) (xr K i (j5 s1 s2)):=V0 (Kw h1 h2) fun D σ H xx=>by
 obtain⟨H0,O0,ρ,O,r,R,ed,f⟩:=xx;obtain⟨r1,e1,e2⟩:=j1 ed;refine⟨H0,O0,ρ,O,r1,R,e1,?_⟩;cases r1 with
 | nx ρ1=>exact fun σ' H' O' R' t=>⟨H0,O0,ρ1,O',r,R',e2,f.mono t⟩
 | bk ρ1=>cases e2;exact f
 | ct ρ1=>cases e2;exact f
 | rt d=>cases e2;exact f
 | rf o=>cases e2;exact f
def xt(K:Fr)(F:List (List D)->List D->Option (List (List D))):Sp:=fun vs H Q _=>∃(O:List Addr) (l:Addr) (ps:List Addr) (ls:List (List D)) (d:D) (ds:List D) (v:V) (us:List V) (ms:List (List D)),vs=v::.ref l::us/\Z0 K H (j6 H (l::ps++O)) l ps ls/\(l::ps).Nodup/\(∀a∈O,H a≠none/\a∉l::ps)/\j3 K (j6 H (l::ps++O)) (d::ds) (v::us)/\F ls (d::ds)=some ms/\
 ∀l' ps' H',j4 (j6 H (l::ps)) H'->(l'::ps').Nodup->(∀a∈l'::ps',a∈l::ps∨H a=none)->Z0 K H' (j6 H' (l'::ps'++O)) l' ps' ms->Q (.ref l') H'
noncomputable def dQ(ls:List (List D))(ds:List D)(n:Nat):j9:=match ds with
 | d::ds=>.cl d::.lo ls::(ds.map Sl.cl++List.replicate n .un)
 | []=>[]
def wz(m n:Nat)(body:DS):List (List D)->List D->Option (List (List D)):=fun ls ds=>if ds.length=m+1 then(body (dQ ls ds n)).bind fun r=>(match r with
 | .nx ρ=>(match (ρ[1]?:Option Sl)with
  | some (.lo ms)=>some ms
  | _=>none)
 | _=>none)else none
theorem i0{H:Hp}{O:List Addr}{l:Addr}{ps:List Addr}{ls:List (List D)}{d:D}{ds:List D}{v:V}{us:List V}{n:Nat}(h1:Z0 K H (j6 H (l::ps++O)) l ps ls)(nd:(l::ps).Nodup)(al:∀a∈O,H a≠none/\a∉l::ps)(rp:j3 K (j6 H (l::ps++O)) (d::ds) (v::us)):
  Rel K (j6 H (l::ps)) O (dQ ls (d::ds) n) ((v::.ref l::us).map some++List.replicate n none) H (l::ps++O):=by
 rw[j3]at rp;obtain⟨v',us',e,r0,r1⟩:=rp;cases e;have no:∀(j:Nat) (t:Sl),(.cl d::.un::(ds.map Sl.cl++List.replicate n .un):j9)[j]?=some t->(∃e,t=.cl e)∨t=.un:=fun j t e=>by
  have:=wYa e;simp at this;rcases this with rfl | rfl | ⟨e,_,rfl⟩ | ⟨_,rfl⟩
  ·exact .inl ⟨_,rfl⟩
  ·exact .inr rfl
  ·exact .inl ⟨_,rfl⟩
  ·exact .inr rfl
 have R:Rel K (j6 H (l::ps)) O (.cl d::.un::(ds.map Sl.cl++List.replicate n .un)) ((v::.ref l::us).map some++List.replicate n none) H (l::ps++O):=by
  refine⟨?_,fun a h=>vJa _ h,fun a h=>(List.mem_append.mp h).elim (fun z=>.inr (Zr z)) .inl,fun a h=>?_,fun a h=>?_,JC,fun j e hj=>?_,fun j e hj=>?_,fun j q o hj=>?_,fun j k q q' o o' a hj=>?_,fun j ms hj=>?_⟩
  ·have:=r1.len;simp;omega
  ·rw[jA (al a h).2];exact(al a h).1
  ·rcases List.mem_append.mp h with h | h
   ·obtain⟨ws,hw⟩:=h1.at a h;rw[hw];exact fun z=>nomatch z
   ·exact(al a h).1
  ·match j,hj with
   | 0,hj=>cases hj;exact⟨v,rfl,r0⟩
   | 1,hj=>cases hj
   | j+2,hj=>
    have hj:(ds.map Sl.cl++List.replicate n .un)[j]?=some (.cl e):=hj;by_cases q:j < ds.length
    ·rw[List.getElem?_append_left (by rw[List.length_map];exact q),List.getElem?_map]at hj;obtain⟨e',e1,e2⟩:=Option.map_eq_some_iff.mp hj;cases e2;obtain⟨w,w1,w2⟩:=r1.get e1;refine⟨w,?_,w2⟩;show(us.map some++List.replicate n none)[j]?=_;rw[List.getElem?_append_left (by rw[List.length_map];exact(List.getElem?_eq_some_iff.mp w1).1),List.getElem?_map,w1];rfl
    ·rw[List.getElem?_append_right (by rw[List.length_map];omega)]at hj;have:=wYa hj;simp at this
  all_goals first
   | (rcases no j _ hj with⟨_,z⟩ | z <;> cases z)
 have R3:=R.loSet (i:=1) (l:=l) (ps:=ps) (ls:=ls) (fun j ms _ e=>by rcases no j _ e with⟨_,z⟩ | z <;> cases z) h1 nd fun a h=>⟨vIa _ h,Zr h,fun⟨j,q,o,e,_⟩=>by rcases no j _ e with⟨_,z⟩ | z <;> cases z⟩
 exact R3
variable {P:Program} {w:World} {mg:Str->Option Value} {base:Heap} {x qual:Str} {f:Addr} {fd:FuncData} {N ps:List Str} {k n:Nat} {body:DS}
theorem i4{m:Nat}(F:Fun K x qual st f fd)(S:FnScope N ps (defScope st))(hm:m+2=ps.length)(hn:N.length - ps.length=n)
  (hb:∀(cdv:Value) (A:Around) (outer:List Env) (s:Shared) (H:Hp) (E:XK),Room k (A.deeper (envOfC qual (defScope st) s.heap.objs.size f cdv))->Jc (zX Y5 P w K mg base N qual (defScope st) f cdv A outer s H E).nox (defBody st) (xr K 1 body)):
  FnOk P w K mg base Y5 (k+1) f fd ps (xt K (wz m n body)):=by
 refine F.ok S (fun vs H Q E h=>?_) fun cdv A outer s H vs Q E hr h=>?_
 ·obtain⟨O,l,ps',ls,d,ds,v,us,ms,rfl,_,_,_,rp,e,_⟩:=h;have:=rp.len;unfold wz at e;split at e
  ·rename_i hl;simp at hl this⊢;omega
  ·cases e
 ·obtain⟨O,l,ps',ls,d,ds,v,us,ms,rfl,h1,nd,al,rp,e,q⟩:=h;have hlen:=rp.len;unfold wz at e;split at e
  case isFalse=>cases e
  rename_i hl;refine⟨_,hb cdv A outer s H E hr,?_⟩;obtain⟨r,e1,e2⟩:=j1 e;have hl:N.length - (v::V.ref l::us).length=n:=by simp at hl hlen⊢;omega
  unfold L2.YC;rw[hl];refine⟨_,O,_,_,r,i0 h1 nd al rp,e1,?_⟩;cases r with
  | nx ρ=>
   dsimp only at e2;split at e2
   ·rename_i ms' he;cases e2;intro σ' H' O' R' _;obtain⟨l',ps'',hs,yP,nd',fp,_⟩:=R'.lo 1 _ he;refine⟨_,hs,q l' ps'' H' R'.keep nd' (fun a ha=>?_) ⟨yP.1,yP.2.mono (Jx fun a h=>(List.mem_append.mp h).elim (fun z=>(fp a z).1) (R'.sub a)) fun _ _ _ z=>z⟩⟩;have:=(fp a ha).2.1;by_cases y:a∈l::ps'
    ·exact .inl y
    ·rw[jA y]at this;exact .inr this
   ·cases e2
  | _=>cases e2
end
section
variable {K:Fr} {H0 H H':Hp} {O0 O O':List Addr} {ρ:j9} {σ:L2.St} {i:Nat} {ls:List (List D)}
theorem Rel.move(R:Rel K H0 O0 ρ σ H O)(nl:∀(j:Nat) (ms:List (List D)),ρ[j]?≠some (.lo ms))(ss:j4 (j6 H O) (j6 H' O'))(kf:∀a,JW ρ σ a->a∈O'/\∀u,H a=some u->H' a=some u)(keep:j4 H0 H')(sub:∀a∈O0,a∈O')(fr:∀a∈O',a∈O0∨H0 a=none)(al:∀a∈O',H' a≠none):Rel K H0 O0 ρ σ H' O' where
 len:=R.len
 sub:=sub
 fr:=fr
 al0:=R.al0
 al:=al
 keep:=keep
 cl:=fun i d e=>by obtain⟨v,a,b⟩:=R.cl i d e;exact⟨v,a,b.same ss⟩
 bo:=R.bo
 ow:=fun i q o e=>by
  obtain⟨l,z,a,b,d,f⟩:=R.ow i q o e;have:=kf l ⟨i,q,o,e,a⟩;exact⟨l,z,a,b.same this.2 ss,this.1,f⟩
 dist:=R.dist
 lo:=fun j ms e=>vDa e (nl j ms)
theorem Rel.swap(R:Rel K H0 O0 ρ σ H O)(hi:ρ[i]?=some (.lo ls)):∃(l:Addr) (ps:List Addr) (O1:List Addr),σ[i]?=some (some (.ref l))/\Z0 K H (j6 H (l::ps++O1)) l ps ls/\(l::ps).Nodup/\(∀a∈O1,H a≠none/\a∉l::ps)/\(∀a∈l::ps++O1,a∈O)/\
  ∀(H1 H':Hp) (l':Addr) (ps':List Addr) (ms:List (List D)),j4 H H1->j4 (j6 H1 (l::ps)) H'->(l'::ps').Nodup->(∀a∈l'::ps',a∈l::ps∨H1 a=none)->Z0 K H' (j6 H' (l'::ps'++O1)) l' ps' ms->Rel K H0 O0 (ρ.set i (.lo ms)) (σ.set i (some (.ref l'))) H' (l'::ps'++O1)/\j4 (j6 H O) (j6 H' (l'::ps'++O1)):=by
 obtain⟨l,ps,hs,yP,nd,fp,un⟩:=R.lo i ls hi;have inO:∀a∈l::ps++O.filter (fun a=>decide (a∉l::ps)),a∈O:=fun a h=>(List.mem_append.mp h).elim (fun z=>(fp a z).1) fun z=>(List.mem_filter.mp z).1;refine⟨l,ps,O.filter fun a=>decide (a∉l::ps),hs,⟨yP.1,yP.2.mono (Jx inO) fun _ _ _ z=>z⟩,nd,fun a h=>⟨R.al a (List.mem_filter.mp h).1,vCa (List.mem_filter.mp h).2⟩,inO,fun H1 H' l' ps' ms s1 s2 nd' hn at2=>?_⟩;have kp:∀a u,a∉l::ps->H a=some u->H' a=some u:=fun a u na z=>s2 a u (by rw[jA na];exact s1 _ _ z);have nn:∀a∈l'::ps',H0 a=none/\(a∈O∨H a=none):=fun a h=>(hn a h).elim (fun z=>⟨(fp a z).2.1,.inl (fp a z).1⟩) fun z=>⟨R.keep.none (s1.none z),.inr (s1.none z)⟩
 have ss:j4 (j6 H O) (j6 H' (l'::ps'++O.filter fun a=>decide (a∉l::ps))):=fun b u h=>by
  obtain⟨b1,b2⟩:=J0 h;rw[jA fun z=>?_]
  ·exact kp b u (fun z=>b1 (fp b z).1) b2
  ·rcases List.mem_append.mp z with z | z
   ·rcases(nn b z).2 with y | y
    ·exact b1 y
    ·rw[y]at b2;cases b2
   ·exact b1 (List.mem_filter.mp z).1
 have ft:∀a,JW (ρ.set i .un) σ a->a∈O/\a∉l::ps:=fun a z=>by
  have z':=zm z;refine⟨?_,fun y=>(fp a y).2.2 z'⟩;obtain⟨j,q,o,e,y⟩:=z';obtain⟨l2,_,h1,_,h3,_⟩:=R.ow j q o e;rw[y]at h1;cases h1;exact h3
 have R2:=(R.forget i).move (H':=H') (O':=l'::ps'++O.filter fun a=>decide (a∉l::ps)) (YJ R hi) ss (fun a z=>⟨vJa _ (List.mem_filter.mpr ⟨(ft a z).1,vAa (ft a z).2⟩),fun u y=>kp a u (ft a z).2 y⟩)
  (fun b u h=>kp b u (fun z=>by rw[(fp b z).2.1]at h;cases h) (R.keep _ _ h)) (fun a h=>vJa _ (List.mem_filter.mpr ⟨R.sub a h,vAa fun z=>R.al0 a h (fp a z).2.1⟩))
  (fun a h=>(List.mem_append.mp h).elim (fun z=>.inr (nn a z).1) fun z=>R.fr a (List.mem_filter.mp z).1) (fun a h=>by
   rcases List.mem_append.mp h with h | h
   ·obtain⟨ws,hw⟩:=at2.at a h;rw[hw];exact fun z=>nomatch z
   ·obtain⟨h1,h2⟩:=List.mem_filter.mp h;cases hu:H a with
    | none=>exact vDa hu (R.al a h1)
    | some u=>rw[kp a u (of_decide_eq_true h2) hu];exact fun z=>nomatch z)
 have R3:=R2.loSet (i:=i) (l:=l') (ps:=ps') (ls:=ms) (fun j ls _=>YJ R hi j ls) at2 nd' fun a h=>⟨vIa _ h,(nn a h).1,fun z=>by
  rcases hn a h with y | y
  ·exact(ft a z).2 y
  ·exact JW.there R (zm z) (s1.none y)⟩
 rw[uu]at R3;exact⟨R3,ss⟩
end
section
variable {X:Cx} {K:Fr} {st:Stmt} {i k:Nat} {x:Str} {ps:List Str} {p pos:Pos} {e0 e1 e2 e3:Expr} {d0 d2 d3:DE}
noncomputable def zP(i:Nat)(F:List (List D)->List D->Option (List (List D)))(d0 d2 d3:DE):DS:=fun ρ=>match ρ[i]? with
 | some (.lo ls)=>(d0 ρ).bind fun a=>(d2 ρ).bind fun b=>(d3 ρ).bind fun c=>(F ls [a,b,c]).bind fun ms=>some (.nx (ρ.set i (.lo ms)))
 | _=>none
def WS(K:Fr)(i:Nat)(F:List (List D)->List D->Option (List (List D)))(d0 d2 d3:DE):TE:=qW (xt K F) [] E0 (yb (tE K d0) (yb (ye i) (yb (tE K d2) (yb (tE K d3) zW))))
theorem Be{F:List (List D)->List D->Option (List (List D))}(h:PS X st (Y3 (WS K i F d0 d2 d3) (YR i))):PS X st (tS K (zP i F d0 d2 d3)):=jZ h fun D σ H xx=>by
 obtain⟨H0,O0,ρ,O,r,R,ed,f⟩:=xx;unfold zP at ed;split at ed
 ·rename_i ls hi;obtain⟨a,q0,ed⟩:=j1 ed;obtain⟨b,q2,ed⟩:=j1 ed;obtain⟨c,q3,ed⟩:=j1 ed;obtain⟨ms,q4,ed⟩:=j1 ed;cases ed;obtain⟨l,_,_,hs,_⟩:=R.swap hi;refine⟨H0,O0,ρ,O,a,R,q0,fun v0 H1 s1 r0=>⟨_,hs,H0,O0,ρ,O,b,R.grow s1,q2,fun v2 H2 s2 r2=>⟨H0,O0,ρ,O,c,R.grow (s1.trans s2),q3,fun v3 H3 s3 r3=>?_⟩⟩⟩;have s23:=s2.trans s3;have s13:=s1.trans s23;obtain⟨l',ps,O1,hs',yP,nd,al,sub,fin⟩:=(R.grow s13).swap hi;rw[hs]at hs';cases hs';have sd:j4 (j6 H3 O) (j6 H3 (l::ps++O1)):=Jx sub;refine⟨O1,l,ps,ls,a,[b,c],v0,[v2,v3],ms,rfl,yP,nd,al,j3.cons ((r0.same (jc s23)).same sd) (j3.cons ((r2.same (jc s3)).same sd) (j3.cons (r3.same sd) j3.nil)),q4,fun l' ps' H' s4 nd' hn at2=>?_⟩;obtain⟨R3,s5⟩:=fin H3 H' l' ps' ms (j4.refl _) s4 nd' hn at2;exact f _ _ _ R3 ((jc s13).trans s5)
 ·cases ed
theorem Bf{F:List (List D)->List D->Option (List (List D))}(G:FnI X.prog X.w X.K X.mg X.base k x ps (xt X.K F))(hr:Room k X.A)(h0:PE X e0 (tE X.K d0))(h1:PE X e1 (ye i))(h2:PE X e2 (tE X.K d2))(h3:PE X e3 (tE X.K d3))(n0:∀r:List Expr,starEach (e0::r) X.env=(false,eval e0 X.env)::starEach r X.env)(n1:∀r:List Expr,starEach (e1::r) X.env=(false,eval e1 X.env)::starEach r X.env)(n2:∀r:List Expr,starEach (e2::r) X.env=(false,eval e2 X.env)::starEach r X.env)(n3:∀r:List Expr,starEach (e3::r) X.env=(false,eval e3 X.env)::starEach r X.env)
  (hg:Gl X x) (hdb:(x==("__debug__" : Str))=false):PE X (.Call (.Name x p) [e0,e1,e2,e3] [] pos) (WS X.K i F d0 d2 d3):=
 (Kg G hr (j_ h0 (j_ h1 (j_ h2 (j_ h3 yn (n3 _)) (n2 _)) (n1 _)) (n0 _)) hg hdb (n0 _) (by rw[n1,n2,n3];rfl))
end
end DS
namespace L2
open PySem PySem.Spec PyProof.Rows
section
variable {X:Cx}
theorem dR:jF X (compareOp .Is) (fun x y H Q=>∃a b,x=.bl a/\y=.bl b/\Q (.bl (a==b)) H):=by
 intro pins s σ H x y v u Q I rx ry h;obtain⟨a,b,rfl,rfl,q⟩:=h;cases rx;cases ry;exact wpAny_is_plain rfl (jD I q (by cases a <;> cases b <;> rfl))
theorem Bg:jF X (compareOp .IsNot) (fun x y H Q=>∃a b,x=.bl a/\y=.bl b/\Q (.bl (!(a==b))) H):=by
 intro pins s σ H x y v u Q I rx ry h;obtain⟨a,b,rfl,rfl,q⟩:=h;cases rx;cases ry;exact wpAny_isNot_plain rfl (jD I q (by cases a <;> cases b <;> rfl))
end
end L2
namespace DS
open PySem PySem.Spec PyProof.Rows L2
section
variable {K:Fr}
noncomputable def wA:D->D->Option D
 | .bl a,.bl b=>some (.bl (a==b))
 | _,_=>none
@[simp] theorem iQ(a b:Bool):wA (.bl a) (.bl b)=some (.bl (a==b)):=rfl
noncomputable def Kn:D->D->Option D
 | .bl a,.bl b=>some (.bl (!(a==b)))
 | _,_=>none
@[simp] theorem i5(a b:Bool):Kn (.bl a) (.bl b)=some (.bl (!(a==b))):=rfl
theorem Fd:Jf K (fun x y H Q=>∃a b,x=.bl a/\y=.bl b/\Q (.bl (a==b)) H) wA:=by
 intro O H a b d x y Q ha hb _ e q;unfold wA at e;split at e
 ·cases e;exact⟨_,_,ha.bl,hb.bl,q _ H (j4.refl H) (by rw[j7])⟩
 ·cases e
theorem dS:Jf K (fun x y H Q=>∃a b,x=.bl a/\y=.bl b/\Q (.bl (!(a==b))) H) Kn:=by
 intro O H a b d x y Q ha hb _ e q;unfold Kn at e;split at e
 ·cases e;exact⟨_,_,ha.bl,hb.bl,q _ H (j4.refl H) (by rw[j7])⟩
 ·cases e
end
end DS
namespace DS
open PySem PySem.Spec PyProof.Rows L2 PySem.SeqAt
def vd(a:D):List D->Option (List Bool)
 | []=>some []
 | d::l=>(yZ d a).bind fun r=>(vd a l).bind fun rs=>some (r::rs)
section
variable {X:Cx} {K:Fr} {pins:List (Addr×Obj)} {σ:L2.St} {H:Hp} {s:Shared}
theorem UM(I:Inv X pins σ H s){a:D}{x:V}{u:Value}(hx:j7 X.K H a x)(rx:jt x u){A:Around}:∀{l:List D} {xs:List V} {its:List Value} {rs:List Bool},vd a l=some rs->j3 X.K H l xs->jh xs its->A.units+JL l < cLine->rs.length=its.length/\∀(j:Nat) (v:Value) (r:Bool),its[j]?=some v->rs[j]?=some r->EqAt A s v u r
 | [],_,_,_,e,h,r,_=>by
  cases e;rw[j3]at h;subst h;cases r;exact⟨rfl,fun j v r h=>by simp at h⟩
 | d::l,_,_,_,e,h,r,hu=>by
  rw[vd]at e;obtain⟨b,e1,e⟩:=j1 e;obtain⟨rs,e2,e⟩:=j1 e;cases e;rw[j3]at h;obtain⟨v,t,rfl,a1,b1⟩:=h;rw[JL]at hu;cases r with
  | cons r1 rr=>
   obtain⟨z1,z2⟩:=UM I hx rx (A:=A) e2 b1 rr (by omega);refine⟨by simp[z1],fun j v' r' hj hr=>?_⟩;cases j with
   | zero=>
    simp at hj hr;subst hj hr;exact a9 I d e1 a1 hx r1 rx (by omega)
   | succ j=>exact z2 j v' r' (by simpa using hj) (by simpa using hr)
open Classical in
noncomputable def YX(its:List Value)(rs:List Bool)(y:Value):Bool:=decide (∃j:Nat,its[j]?=some y/\rs[j]?=some true)
theorem qg{its:List Value}{rs:List Bool}{u:Value}{A:Around}(hl:rs.length=its.length)(h:∀(j:Nat) (v:Value) (r:Bool),its[j]?=some v->rs[j]?=some r->EqAt A s v u r)(y:Value)(hy:y∈its):EqAt A s y u (YX its rs y):=by
 classical
 unfold YX;by_cases c:∃j:Nat,its[j]?=some y/\rs[j]?=some true
 ·rw[decide_eq_true c];obtain⟨j,h1,h2⟩:=c;exact h j y true h1 h2
 ·rw[decide_eq_false c];obtain⟨j,hj⟩:=List.mem_iff_getElem?.mp hy;have hjl:j < rs.length:=by rw[hl];exact(List.getElem?_eq_some_iff.mp hj).1
  refine h j y false hj ?_;rw[List.getElem?_eq_getElem hjl];cases e:rs[j]with
  | false=>rfl
  | true=>exact vDa ⟨j,hj,by rw[List.getElem?_eq_getElem hjl,e]⟩ c
theorem wB{its:List Value}{rs:List Bool}(hl:rs.length=its.length):its.any (YX its rs)=rs.any id:=by
 classical
 rw[Bool.eq_iff_iff,List.any_eq_true,List.any_eq_true];constructor
 ·rintro⟨y,_,hy⟩;unfold YX at hy;obtain⟨j,_,h2⟩:=vCa hy;exact⟨true,wYa h2,rfl⟩
 ·rintro⟨r,hr,hy⟩;obtain⟨j,hj⟩:=List.mem_iff_getElem?.mp hr;cases r with
  | false=>cases hy
  | true=>
   have hjl:j < its.length:=by rw[<-hl];exact(List.getElem?_eq_some_iff.mp hj).1
   refine⟨its[j],List.getElem_mem hjl,?_⟩;unfold YX;exact vAa ⟨j,List.getElem?_eq_getElem hjl,hj⟩
def aq(K:Fr)(neg:Bool):R2:=fun x y H Q=>∃a l rs p xs,y=.ref p/\jC K H p xs/\j3 K H l xs/\j7 K H a x/\vd a l=some rs/\JL l<=20/\Q (.bl (xor neg (rs.any id))) H
theorem dU{n:Nat}(hr:Room n X.A):jF X (compareOp .In) (aq X.K false):=by
 intro pins s σ H x y v u Q I rx ry h;obtain⟨a,l,rs,p,xs,rfl,hq,hl,hx,e,hd,q⟩:=h;cases ry;have hu:=hr.units;obtain⟨its,r,pl,hz⟩:=I.list hq;obtain⟨z1,z2⟩:=UM I hx rx (A:=X.A.in1) e hl r (by rw[in1_units];omega);refine SeqAt.in_listAt (YX its rs) pl.isList (fun w hw=>qg z1 z2 w (by simpa using hw)) ⟨.bl _,H,I,rfl,?_⟩;rw[show its.toArray.any (YX its rs)=its.any (YX its rs) by simp,wB z1];simpa using q
theorem xu{n:Nat}(hr:Room n X.A):jF X (compareOp .NotIn) (aq X.K true):=by
 intro pins s σ H x y v u Q I rx ry h;obtain⟨a,l,rs,p,xs,rfl,hq,hl,hx,e,hd,q⟩:=h;cases ry;have hu:=hr.units;obtain⟨its,r,pl,hz⟩:=I.list hq;obtain⟨z1,z2⟩:=UM I hx rx (A:=X.A.in1) e hl r (by rw[in1_units];omega);refine SeqAt.notIn_listAt (YX its rs) pl.isList (fun w hw=>qg z1 z2 w (by simpa using hw)) ⟨.bl _,H,I,rfl,?_⟩;rw[show its.toArray.any (YX its rs)=its.any (YX its rs) by simp,wB z1];simpa using q
def Vr(neg:Bool):D->D->Option D
 | a,.lst l=>if JL l<=20 then(vd a l).bind fun rs=>some (.bl (xor neg (rs.any id)))else none
 | _,_=>none
@[simp] theorem YY(neg:Bool)(a:D)(l:List D):Vr neg a (.lst l)=if JL l<=20 then(vd a l).bind fun rs=>some (.bl (xor neg (rs.any id)))else none:=by cases a <;> rfl
theorem RB.lsts{O:List Addr}{l:List D}{v:V}(h:RB K O H (.lst l) v):∃p xs,v=.ref p/\H p=some (.lst xs)/\j3 K H l xs:=by
 have:=h.full;rw[j7]at this;obtain⟨a,xs,e1,e2,e3⟩:=this;exact⟨a,xs,e1,e2,e3⟩
theorem AO{neg:Bool}:Jf K (aq K neg) (Vr neg):=by
 intro O H a b d x y Q ha hb _ e q;unfold Vr at e;split at e
 ·split at e
  ·rename_i hd;obtain⟨rs,e1,e⟩:=j1 e;cases e;obtain⟨p,xs,rfl,h1,h2⟩:=hb.lsts;exact⟨_,_,rs,p,xs,rfl,jC.of h1,h2,ha.full,e1,hd,q _ H (j4.refl H) (by rw[j7])⟩
  ·cases e
 ·cases e
end
end DS
namespace CP
open PySem PySem.Spec PyProof.Rows L2 DS
inductive GI where
 | con (i:Int)
 | fE (k:Nat) (ps:List Str) (ks:List Bool) (F:List D->Option D)
 | fF (k:Nat) (ps:List Str) (ks:List Bool) (F:List D->Option OD)
 | mk (k:Nat) (ps:List Str) (ks:List Bool) (F:Addr->List D->Option OD) (G:List D->Option OD)
 | fL (k:Nat) (ps:List Str) (F:List (List D)->List D->Option (List (List D)))
 | blt
structure Gm where
 N:List Str
 sc:Scope
 fn:Bool
 kF:Bool
 C:Addr
 gs:List (Str×GI)
 ms:List (Str×GI)
 fl:List Str
 hs:List ((Nat×Nat×Nat)×List Nat)
 sh:List (Nat×Nat)
 ow:List Nat
inductive Dn where
 | E (d:DE) | F (d:DO)
noncomputable def Dn.e:Dn->DE
 | .E d=>d
 | .F d=>dL d
noncomputable def GG(x:Str):List Str->Option Nat
 | []=>none
 | y::r=>if x=y then some 0 else(GG x r).map (· + 1)
noncomputable def kd(sc:Scope)(x:Str):Option NameKind:=sc.names.lookup x
noncomputable def Qb(sc:Scope)(x:Str):Bool:=match kd sc x with
 | some .local=>true
 | some .cell=>true
 | some .free=>true
 | _=>false
noncomputable def Qc(sc:Scope)(x:Str):Bool:=match kd sc x with
 | some .local=>true
 | some .cell=>true
 | _=>false
noncomputable def Qd(sc:Scope)(x:Str):Bool:=match kd sc x with
 | some .local=>true
 | _=>false
noncomputable def wC(Γ:Gm)(x:Str):Bool:=(match kd Γ.sc x with
 | some .globalImplicit=>true
 | _=>false)&&!(x==("__debug__" : Str))
noncomputable def cG(c:Bool){α:Type}(o:Option α):Option α:=if c then o else none
def slot(Γ:Gm)(x:Str):Option Nat:=(GG x Γ.N).bind fun i=>if Qb Γ.sc x&&(!(x==("__debug__" : Str))&&!(x==("__classdict__" : Str)))then some i else none
def nm(Γ:Gm):Expr->Option Nat
 | .Name x _=>slot Γ x
 | _=>none
def gQ(Γ:Gm)(x:Str):Option Nat:=(GG x Γ.N).bind fun i=>if Qc Γ.sc x&&(Γ.fn||Qd Γ.sc x)then some i else none
noncomputable def Jy:Expr->Bool
 | .Starred _ _=>false
 | _=>true
structure Rc where
 n:Gm->Expr->Option Dn
 t:Gm->Expr->Option DT
 g:Gm->Nat->Expr->Option DG
section
variable (r:Rc) (Γ:Gm)
noncomputable def cV(f:Nat->DE)(e:Expr):Option DE:=match nm Γ e with
 | some i=>some (f i)
 | none=>(r.n Γ e).map Dn.e
def cA:List Bool->List Expr->Option DA
 | [],[]=>some []
 | k::ks,e::es=>if Jy e then(cV r Γ (if k then dC else dV) e).bind fun d=>(cA ks es).bind fun l=>some ((k,d)::l)else none
 | _,_=>none
def dW:Operator->Option (D->D->Option D)
 | .Add=>some jk
 | .Sub=>some Z1
 | .Mult=>some yx
 | .Mod=>some jI
 | .FloorDiv=>some KN
 | .Pow=>some XV
 | _=>none
def Vs:CmpOp->Option (D->D->Option D)
 | .Eq=>some jG
 | .NotEq=>some J6
 | .Lt=>some VP
 | .LtE=>some JQ
 | .Gt=>some Ui
 | .GtE=>some KO
 | .In=>some (AE false)
 | .NotIn=>some (AE true)
 | .Is=>some KP
 | .IsNot=>some Ym
noncomputable def cB(f:DE->DE->DE):List Expr->Option DE
 | []=>none
 | [a]=>cV r Γ dC a
 | a::b=>(cV r Γ dV a).bind fun d=>(cB f b).bind fun d'=>some (f d d')
noncomputable def cW(f:DT->DT->DT):List Expr->Option DT
 | []=>none
 | [a]=>r.t Γ a
 | a::b=>(r.t Γ a).bind fun d=>(cW f b).bind fun d'=>some (f d d')
def Qe:Option Expr->Option ul
 | none=>some fun _=>some none
 | some e=>(cV r Γ dV e).map fun d=>fun ρ=>(d ρ).bind J4
noncomputable def GH(p:Pos):Option (List Nat):=Γ.hs.lookup (p.line,p.col,p.endCol)
noncomputable def xw:Expr->Bool
 | .Call _ _ _ _=>false
 | _=>true
noncomputable def uz:Expr->Bool
 | .Slice _ _ _ _=>false
 | _=>true
def ar(x:Str)(n:Nat):Option (List D->Option D):=if x = "len" then some jU else if x = "tuple" then some JR else if x = "all" then some ZA else if x = "max" then some uo else if x = "min" then some KS else none
def au(x:Str)(h:Bool):Option (List D->Option OD):=if x = "list" then some (if h then V2 else Yn)else none
def xy(x:Str):Bool:=wC Γ x&&(match Γ.gs.lookup x with | some .blt=>true | _=>false)
noncomputable def av(x:Str):Option String:=if x = "list" then some "list" else if x = "tuple" then some "tuple" else if x = "bool" then some "bool" else if x = "str" then some "str" else if x = "int" then some "int" else none
def dX(e:Expr):Option DI:=(cV r Γ dP e).map jR
def dY(tup:Bool)(x:Str)(as:List Expr):Option DI:=
 if xy Γ x then(match as with
  | [a]=>if x = "range" then cG (Jy a) ((cV r Γ dV a).map yw)
   else if x = "enumerate" then cG (Jy a&&tup) ((cV r Γ dP a).map Vl)else none
  | [a,b]=>if x = "zip" then cG (Jy a&&Jy b&&tup) ((cV r Γ dP a).bind fun d=>(cV r Γ dP b).map fun d'=>KU d d')else none
  | _=>none)else none
noncomputable def gR:Expr->Bool
 | .Tuple _ _ _=>true
 | _=>false
noncomputable def U4:Expr->Bool
 | .Set _ _ _=>false
 | _=>true
def dZ(tg e f:Expr)(as:List Expr)(ks:List Keyword)(p:Pos):Option DI:=match f with
 | .Name x _=>(match ks with
  | []=>(match dY r Γ (gR tg) x as with
   | some d=>some d
   | none=>dX r Γ e)
  | _::_=>none)
 | _=>none
def cI(tg:Expr)(e:Expr):Option DI:=match e with
 | .Call f as ks p=>dZ r Γ tg e f as ks p
 | _=>cG (U4 e) (dX r Γ e)
noncomputable def d_(scope sc:Scope):Scope:={ scope with names:=scope.names.map fun(n,k)=>if k==.free&&sc.kind==.function&&sc.names.lookup n==some .cell then(n,.cell)else(n,k) }
noncomputable def kJ:Nat->Expr->List Str
 | 0,_=>[]
 | _+1,.Name x _=>[x]
 | n+1,.Tuple es _ _=>(es.map (kJ n)).flatten
 | _,_=>[]
noncomputable def GJ:List Str->Bool
 | []=>true
 | x::r=>!(r.contains x)&&GJ r
noncomputable def Qf:List Nat->Bool
 | []=>true
 | x::r=>!(r.contains x)&&Qf r
noncomputable def aw(scope:Scope)(p:Str×Nat):Bool:=(match Γ.N[p.2]? with
  | some y=>y==p.1
  | none=>false)&&(match kd Γ.sc p.1 with
  | some .cell=>true
  | some .free=>true
  | _=>false)&&(match kd scope p.1 with
  | some .free=>true
  | _=>false)
noncomputable def D0(scope:Scope):Bool:=(match scope.kind with | .function=>true | _=>false)&&(scope.names.all fun y=>y.2 != .local||scope.names.lookup y.1==some .local)&&(scope.names.all fun y=>y.2 != .cell) &&
 (scope.names.all fun y=>y.2 != .free||Γ.sc.names.lookup y.1==some .cell||Γ.sc.names.lookup y.1==some .free)
def gU(p:Pos):List (Str×Nat):=((GH Γ p).getD []).map fun j=>(Γ.N.getD j "",j)
def inner(own:List Str)(caps:List (Str×Nat))(scope:Scope):Gm:={ Γ with N:=own++caps.map (·.1),sc:=d_ scope Γ.sc,fn:=false }
def D4(elt tg iter:Expr)(ifs:List Expr)(scope:Scope)(p:Pos):Option DO:=
 let own:=kJ 5 tg
 let caps:=gU Γ p
 let Δ:=inner Γ own caps scope
 cG (D0 Γ scope&&caps.all (aw Γ scope)&&GJ Δ.N&&Qf (caps.map fun z:Str×Nat=>z.2)&&U4 iter)
  ((cI r Γ tg iter).bind fun di=>(r.g Δ own.length tg).bind fun g=>(match ifs with
   | []=>some jM
   | [c]=>r.t Δ c
   | _=>none).bind fun dc=>(cV r Δ dC elt).bind fun de=>some (yY own.length (caps.map fun z:Str×Nat=>z.2) di g dc de))
def ay(es:List Expr):Option Dn:=match es with
 | [a,t]=>(match t with
  | .Name t _=>cG (Jy a&&xy Γ t) ((av t).bind fun T=>(cV r Γ dV a).map fun d=>.E (d1 (YH T) d))
  | .Tuple ts _ _=>(match ts with
   | [.Name t _,.Name u _]=>cG (Jy a&&xy Γ t&&xy Γ u&&t==("list" : Str)&&u==("tuple" : Str)) ((cV r Γ dV a).map fun d=>.E (d1 AH d))
   | _=>none)
  | _=>none)
 | _=>none
def AQ(x:Str)(es:List Expr)(p:Pos):Option Dn:=cG (wC Γ x&&!es.isEmpty) (match Γ.gs.lookup x with
 | some (.fE _ _ ks F)=>(cA r Γ ks es).map fun l=>.E (ja F l)
 | some (.fF _ _ ks F)=>(cA r Γ ks es).map fun l=>.F (JA F l)
 | some (.mk _ _ ks _ G)=>(cA r Γ ks es).map fun l=>.F (Kj G l)
 | some .blt=>if x = "isinstance" then ay r Γ es
  else(cA r Γ (es.map fun _=>false) es).bind fun l=>(match ar x es.length with
   | some f=>some (.E (ja f l))
   | none=>(au x (GH Γ p).isSome).map fun f=>.F (JA f l))
 | _=>none)
noncomputable def D5:Const->Option Dn
 | .int i=>some (.E (dK (.int i)))
 | .bool i=>some (.E (dK (.bl i)))
 | .none=>some (.E (dK .non))
 | .str i=>some (.E (dK (.str i)))
 | _=>none
def D6(op:UnaryOp)(a:Expr):Option Dn:=match op with
 | .USub=>(cV r Γ dV a).map fun d=>.E (yU d)
 | .Not=>(cV r Γ dV a).map fun d=>.E (Q3 d)
 | _=>none
def FK(a:Expr)(op:Operator)(b:Expr)(p:Pos):Option Dn:=(cV r Γ dV a).bind fun d=>(cV r Γ dV b).bind fun d'=>(match GH Γ p with
  | some _=>(match op with
   | .Add=>some (.F (kr vn d d'))
   | .Mult=>some (.F (kr Q2 d d'))
   | _=>none)
  | none=>(dW op).map fun f=>.E (d2 f d d'))
def i6:CmpOp->Option (D->D->Option D)
 | .In=>some (UL false)
 | .NotIn=>some (UL true)
 | .Is=>some wA
 | .IsNot=>some Kn
 | _=>none
def i7:CmpOp->Option (D->D->Option D)
 | .In=>some (Vr false)
 | .NotIn=>some (Vr true)
 | _=>none
def AR(p:Pos)(o:CmpOp):Option (D->D->Option D):=match GH Γ p with
 | none=>Vs o
 | some []=>i6 o
 | some (_::_)=>i7 o
def FL(a:Expr)(os:List CmpOp)(bs:List Expr)(p:Pos):Option DE:=match os,bs with
 | [o],[b]=>cG (!behindInMarks o b) ((cV r Γ dV a).bind fun d=>(cV r Γ dV b).bind fun d'=>(AR Γ p o).map fun f=>d2 f d d')
 | [o,o'],[b,c]=>cG (!lastMarks [o,o'] [b,c]) ((cV r Γ dV a).bind fun d=>(cV r Γ dV b).bind fun d'=>(cV r Γ dV c).bind fun d''=>(Vs o).bind fun f=>(Vs o').map fun f'=>Jw f f' d d' d'')
 | [o,o',o''],[b,c,e]=>cG (!lastMarks [o,o',o''] [b,c,e]) ((cV r Γ dV a).bind fun d=>(cV r Γ dV b).bind fun d'=>(cV r Γ dV c).bind fun d''=>(cV r Γ dV e).bind fun d3=>
   (Vs o).bind fun f=>(Vs o').bind fun f'=>(Vs o'').map fun f''=>v_ f f' f'' d d' d'' d3)
 | _,_=>none
def D7(a b:Expr)(p:Pos):Option Dn:=match b with
 | .Slice lo hi st _=>(match st with
  | none=>(cV r Γ dV a).bind fun d=>(Qe r Γ lo).bind fun x=>(Qe r Γ hi).map fun y=>(match GH Γ p with
   | some _=>.E (zD d x y)
   | none=>.F (Jp d x y))
  | some _=>none)
 | b=>cG (uz b) ((cV r Γ dV a).bind fun d=>(cV r Γ dV b).map fun d'=>.E (d2 jb d d'))
def AS(elt:Expr)(gs:List Comprehension)(scope:Scope)(p:Pos):Option DO:=match gs with
 | [⟨tg,iter,ifs,a⟩]=>cG (a==0) (D4 r Γ elt tg iter ifs scope p)
 | _=>none
def D8(kx vx:Expr)(gs:List Comprehension)(scope:Scope)(p:Pos):Option DO:=match gs with
 | [⟨t1,i1,f1,a1⟩,⟨t2,i2,f2,a2⟩]=>
  let own:=kJ 5 t1++kJ 5 t2
  let caps:=gU Γ p
  let Δ:=inner Γ own caps scope
  cG (D0 Γ scope&&caps.all (aw Γ scope)&&GJ Δ.N&&Qf (caps.map fun z:Str×Nat=>z.2)&&U4 i1&&U4 i2&&f1.isEmpty&&f2.isEmpty&&a1==0&&a2==0)
   ((cI r Γ t1 i1).bind fun di=>(r.g Δ own.length t1).bind fun g1=>(cI r Δ t2 i2).bind fun di2=>(r.g Δ own.length t2).bind fun g2=>(cV r Δ dC kx).bind fun dk=>(cV r Δ dC vx).map fun dv=>xl own.length (caps.map fun z:Str×Nat=>z.2) di g1 di2 g2 dk dv)
 | _=>none
noncomputable def az(sc:Scope)(x:Str):Bool:=match kd sc x with
 | some .cell=>true
 | _=>false
def D9(a:Expr)(m:Str)(ap:Pos)(es:List Expr)(p:Pos):Option Dn:=match a,es with
 | .Name x np,[]=>cG (ap.endLine==p.line) ((cV r Γ dV (.Name x np)).bind fun d=>match Γ.ms.lookup m with
  | some (.fE _ _ _ F)=>some (.E (d1 (v4 Γ.C m F) d))
  | some (.fF _ _ _ F)=>some (.F (Cz (KZ Γ.C m F) d))
  | _=>none)
 | _,_=>none
def FM(f:Expr)(es:List Expr)(ks:List Keyword)(p:Pos):Option Dn:=match ks with
 | []=>(match f with
  | .Name x _=>AQ r Γ x es p
  | .Attribute a m ap=>D9 r Γ a m ap es p
  | _=>none)
 | _::_=>none
def cN(e:Expr):Option Dn:=match e with
 | .Name x _=>cG (wC Γ x) (match Γ.gs.lookup x with
  | some (.con i)=>some (.E (dK (.int i)))
  | _=>none)
 | .Constant c _ _=>D5 c
 | .UnaryOp op a _=>D6 r Γ op a
 | .BinOp a op b p=>FK r Γ a op b p
 | .Compare a os bs p=>(FL r Γ a os bs p).map .E
 | .BoolOp op vs _=>(match op with
  | .And=>(cB r Γ yW vs).map .E
  | .Or=>(cB r Γ Gz vs).map .E)
 | .IfExp c a b _=>(r.t Γ c).bind fun t=>(cV r Γ dC a).bind fun d=>(cV r Γ dC b).map fun d'=>.E (uj t d d')
 | .Tuple es _ _=>cG (Nat.ble es.length 1000) ((cA r Γ (es.map fun _=>true) es).map fun l=>.E (yv l))
 | .List es _=>cG (Nat.ble es.length 1000) ((cA r Γ (es.map fun _=>true) es).map fun l=>.F (jT l))
 | .Dict ks vs _=>(match ks,vs with
  | [],[]=>some (.F Km)
  | _,_=>none)
 | .Attribute a f _=>cG (xw a&&Γ.fl.contains f) ((cV r Γ dV a).map fun d=>.E (d1 (Jn Γ.C f) d))
 | .Subscript a b p=>D7 r Γ a b p
 | .ListComp elt gs scope p=>(AS r Γ elt gs scope p).map .F
 | .Call f es ks p=>FM r Γ f es ks p
 | _=>none
noncomputable def Da:Expr->Bool
 | .UnaryOp .Not _ _=>false
 | .BoolOp _ _ _=>false
 | .IfExp _ _ _ _=>false
 | .Compare _ _ _ _=>false
 | _=>true
def FN(a:Expr)(os:List CmpOp)(bs:List Expr)(p:Pos):Option DT:=match os,bs with
 | [o],[b]=>cG (!behindInMarks o b) ((cV r Γ dV a).bind fun d=>(cV r Γ dV b).bind fun d'=>(AR Γ p o).map fun f=>jj (d2 f d d'))
 | [o,o'],[b,c]=>cG (!lastMarks [o,o'] [b,c]) ((cV r Γ dV a).bind fun d=>(cV r Γ dV b).bind fun d'=>(cV r Γ dV c).bind fun d''=>(Vs o).bind fun f=>(Vs o').map fun f'=>jj (Jw f f' d d' d''))
 | _,_=>none
def cT(e:Expr):Option DT:=match e with
 | .Compare a os bs p=>FN r Γ a os bs p
 | .UnaryOp op a p=>(match op with
  | .Not=>(r.t Γ a).map Jl
  | op=>cG (Da (.UnaryOp op a p)) ((cV r Γ dV (.UnaryOp op a p)).map Jg))
 | .BoolOp op vs _=>(match op with
  | .And=>cW r Γ Jh vs
  | .Or=>cW r Γ JX vs)
 | e=>cG (Da e) ((cV r Γ dV e).map Jg)
def AU(k:Nat):List Expr->Option VQ
 | []=>some gZ
 | e::es=>cG (Jy e) ((r.g Γ k e).bind fun g=>(AU k es).map fun gs=>gC g gs)
def Db(k:Nat):Expr->Option DG
 | .Name x _=>(gQ Γ x).bind fun i=>cG (Nat.blt i k) (some (gN i))
 | .Tuple es _ _=>(AU r Γ k es).map fun gs=>gT es.length gs
 | _=>none
end
def rc:Nat->Rc
 | 0=>⟨fun _ _=>none,fun _ _=>none,fun _ _ _=>none⟩
 | n+1=>⟨cN (rc n),cT (rc n),Db (rc n)⟩
noncomputable def wD:Stmt->Nat
 | .Return _ p=>p.line
 | .Assign _ _ p=>p.line
 | .AugAssign _ _ _ p=>p.line
 | .For _ _ _ _ p=>p.line
 | .While _ _ _ p=>p.line
 | .If _ _ _ p=>p.line
 | .Expr _ p=>p.line
 | _=>0
section
variable (r:Rc) (q:Gm->List Stmt->Option DS.DS) (Γ:Gm)
noncomputable def cF(e:Expr):Option DO:=match r.n Γ e with
 | some (.F d)=>some d
 | _=>none
noncomputable def vt:Expr->Bool
 | .ListComp _ _ _ _=>false
 | .SetComp _ _ _ _=>false
 | .DictComp _ _ _ _ _=>false
 | _=>true
def FO(scope:Scope)(x:Str)(np vp:Pos):Bool:=(match Γ.sc.kind with | .function=>true | _=>false)&&Qd Γ.sc x&&np.line==vp.line&&!(scope.names.any fun(n,k)=>n==x&&(k==.local||k==.cell))
def FP(x:Str)(np:Pos)(e:Expr):Option DS.DS:=(gQ Γ x).bind fun i=>match e with
 | .ListComp elt gs scope p=>(AS r Γ elt gs scope p).bind fun d=>cG (FO Γ scope x np p) (some (if Γ.ow.contains i then yV i d else jl i (dL d)))
 | .DictComp kx vx gs scope p=>cG (az Γ.sc x) ((D8 r Γ kx vx gs scope p).map fun d=>jl i (dL d))
 | e=>cG (vt e) (if Γ.ow.contains i then(cF r Γ e).map (yV i)else(cV r Γ dC e).map (jl i))
def Dc(t e:Expr):Option DS.DS:=match t with
 | .Name x np=>FP r Γ x np e
 | .Attribute o f _=>(nm Γ o).bind fun i=>cG (vt e&&Γ.fl.contains f) ((cV r Γ dC e).map fun d=>Zh i Γ.C f d)
 | .Subscript o j p=>(nm Γ o).bind fun i=>cG (vt e&&uz j) (if (GH Γ p).isSome then(cV r Γ dC j).bind fun dx=>(cV r Γ dC e).map fun d=>GE i dx d
   else(cV r Γ dV j).bind fun dx=>(cV r Γ dC e).map fun d=>u_ i dx d)
 | .Tuple es n p=>cG (vt e&&!gR e) ((cV r Γ dC e).bind fun d=>(r.g Γ Γ.N.length (.Tuple es n p)).map fun g=>ZB d g)
 | _=>none
def Df(t:Expr)(op:Operator)(e:Expr):Option DS.DS:=match t with
 | .Name x _=>(gQ Γ x).bind fun i=>(cV r Γ dV e).bind fun d=>(match op with
  | .Add=>some (Q6 i (fun i j=>i+j) d)
  | .Sub=>some (Q6 i (fun i j=>i - j) d)
  | _=>none)
 | _=>none
def FQ(f:Expr)(es:List Expr)(ks:List Keyword)(p:Pos):Option DS.DS:=match f,es,ks with
 | .Attribute o m ap,[e],[]=>(nm Γ o).bind fun i=>cG (m==("append" : Str)&&Jy e&&ap.endLine==p.line) ((cV r Γ dC e).map fun d=>yj i d)
 | _,_,_=>none
def FR(e:Expr):Option DS.DS:=match e with
 | .Call f es ks p=>(match FQ r Γ f es ks p with
  | some d=>some d
  | none=>(cV r Γ dV (.Call f es ks p)).map gE)
 | e=>cG (vt e) ((cV r Γ dV e).map gE)
def cS(s:Stmt):Option DS.DS:=match s with
 | .Assign ts e _=>(match ts with
  | [t]=>Dc r Γ t e
  | _=>none)
 | .AugAssign t op e _=>Df r Γ t op e
 | .Expr e _=>FR r Γ e
 | .Return o _=>(match o with
  | none=>some (jg (dK .non))
  | some e=>(match nm Γ e with
   | some i=>if Γ.ow.contains i then some (v6 i)else some (jg (dC i))
   | none=>if Γ.kF then(cF r Γ e).map gF else(cV r Γ dC e).map jg))
 | .If c a b _=>(r.t Γ c).bind fun t=>(q Γ a).bind fun x=>(q Γ b).map fun y=>ji t x y
 | .While c b o _=>(match o with
  | []=>(r.t Γ c).bind fun t=>(q Γ b).map fun x=>uq t x 20000
  | _::_=>none)
 | .For tg it b o _=>(match o with
  | []=>cG (U4 it) ((cI r Γ tg it).bind fun di=>(r.g Γ Γ.N.length tg).bind fun g=>(q Γ b).map fun x=>Jv di g x)
  | _::_=>none)
 | .Pass _=>some js
 | .Break _=>some CG
 | .Continue _=>some CH
 | _=>none
def qh(l:Nat):List (Nat×Nat)->DS.DS->DS.DS
 | [],d=>d
 | (m,i)::r,d=>if m=l then V1 i (qh l r d)else qh l r d
noncomputable def i8:Stmt->Bool
 | .Raise _ _ _=>true
 | _=>false
noncomputable def wE{α:Type}:List α->Option α
 | [x]=>some x
 | _=>none
def FS(i:Nat)(e:Expr):Option DS.DS:=match e with
 | .Call f es ks p=>(match f with
  | .Name g np=>(match Γ.gs.lookup g with
   | some (.fE _ _ kk F)=>cG (wC Γ g&&ks.isEmpty&&!es.isEmpty&&kk.length==es.length) ((cA r Γ (es.map fun _=>true) es).map fun l=>gP i (qe F l))
   | _=>none)
  | _=>none)
 | e=>cG (vt e) ((cV r Γ dC e).map fun d=>jl i fun ρ=>(d (frz ρ)).bind Ys)
def FT(e:Expr):Option DS.DS:=match e with
 | .Call f es ks p=>(match f with
  | .Attribute o m ap=>(match o with
   | .Subscript a j _=>(nm Γ a).bind fun i=>(wE es).bind fun x=>cG (m==("append" : Str)&&ks.isEmpty&&uz j&&Jy x&&ap.endLine==p.line) ((cV r Γ dV j).bind fun dj=>(cV r Γ dC x).map fun de=>U2 i dj de)
   | o=>(nm Γ o).bind fun i=>(match es with
    | [k,x]=>cG (m==("insert" : Str)&&ks.isEmpty&&Jy k&&Jy x&&ap.endLine==p.line) ((cV r Γ dV k).bind fun dj=>(cF r Γ x).map fun de=>Vn i dj de)
    | _=>none))
  | _=>none)
 | _=>none
def Ip(s:Stmt):Option DS.DS:=match s with
 | .If c a b _=>(r.t Γ c).bind fun t=>(q Γ a).bind fun x=>(q Γ b).map fun y=>ji (fun ρ=>t (frz ρ)) x y
 | .Assign ts e _=>(wE ts).bind fun t=>(match t with
  | .Name x _=>(gQ Γ x).bind fun i=>FS r Γ i e
  | _=>none)
 | .Expr e _=>FT r Γ e
 | _=>none
noncomputable def Fe:Operator->Bool
 | .Add=>true
 | _=>false
def Dg(i:Nat)(g:Str)(es:List Expr)(ks:Bool):Option DS.DS:=match Γ.gs.lookup g with
 | some (.fL _ _ F)=>(match es with
  | [e0,e1,e2,e3]=>(nm Γ e1).bind fun j=>cG (wC Γ g&&ks&&i==j&&Jy e0&&Jy e1&&Jy e2&&Jy e3) ((cV r Γ dC e0).bind fun a=>(cV r Γ dC e2).bind fun b=>(cV r Γ dC e3).map fun c=>zP i F a b c)
  | _=>none)
 | _=>none
def FU(i:Nat)(a b:Expr)(op:Operator):Option DS.DS:=match a with
 | .Subscript a s _=>(match s with
  | .Slice lo hi st _=>(match b with
   | .List es _=>(nm Γ a).bind fun j=>(wE es).bind fun x=>cG (i==j&&lo.isNone&&st.isNone&&Fe op&&Jy x) ((Qe r Γ hi).bind fun y=>(cF r Γ x).map fun f=>U3 i y f)
   | _=>none)
  | _=>none)
 | _=>none
def FV(a j e:Expr):Option DS.DS:=cG (vt e&&uz j) (match a with
 | .Subscript a k _=>(nm Γ a).bind fun i=>cG (uz k) ((cV r Γ dV k).bind fun dj=>(cV r Γ dV j).bind fun dh=>(cV r Γ dC e).map fun d=>Vp i dj dh fun ρ=>(d (frz ρ)).bind Ys)
 | a=>(nm Γ a).bind fun i=>(cV r Γ dV j).bind fun dj=>(cF r Γ e).map fun d=>zG i dj fun ρ=>(d (frz ρ)).bind zF)
def FW(o:Expr)(m:Str)(es:List Expr)(ok:Bool):Option DS.DS:=match o with
 | .Subscript a j _=>(match es with
  | [k,x]=>(nm Γ a).bind fun i=>cG (m==("insert" : Str)&&ok&&uz j&&Jy k&&Jy x) ((cV r Γ dV j).bind fun dj=>(cV r Γ dV k).bind fun dh=>(cV r Γ dC x).map fun de=>Vo i dj dh de)
  | _=>none)
 | o=>(match es with
  | [k]=>(nm Γ o).bind fun i=>cG (m==("pop" : Str)&&ok&&Jy k) ((cV r Γ dV k).map fun dj=>Vq i dj)
  | _=>none)
def FX(s:Stmt):Option DS.DS:=match s with
 | .Assign ts e _=>(wE ts).bind fun t=>(match t with
  | .Name x _=>(gQ Γ x).bind fun i=>(match e with
   | .Call f es ks _=>(match f with
    | .Name g _=>Dg r Γ i g es ks.isEmpty
    | _=>none)
   | .BinOp a op b _=>FU r Γ i a b op
   | _=>none)
  | .Subscript a j _=>FV r Γ a j e
  | _=>none)
 | .Expr e _=>(match e with
  | .Call f es ks p=>(match f with
   | .Attribute o m ap=>FW r Γ o m es (ks.isEmpty&&ap.endLine==p.line)
   | _=>none)
  | _=>none)
 | _=>none
def cX(s:Stmt):Option DS.DS:=if (Γ.hs.lookup (wD s,0,11)).isSome then FX r Γ s else if (Γ.hs.lookup (wD s,0,10)).isSome then(cS r q Γ s).map fun d=>fun ρ=>d (frz ρ)else if (Γ.hs.lookup (wD s,0,9)).isSome then Ip r q Γ s else cS r q Γ s
def AV:List Stmt->Option DS.DS
 | []=>some js
 | s::t=>if i8 s then some v5 else(cX r q Γ s).bind fun d=>(match t with
  | []=>some (qh (wD s) Γ.sh d)
  | t=>(AV t).map fun d'=>qh (wD s) Γ.sh (j5 d d'))
end
def Dh(r:Rc)(q:Gm->List Stmt->Option DS.DS)(Γ:Gm)(i:Nat):List Stmt->Option DS.DS
 | []=>none
 | s::t=>(match t with
  | []=>(match s with
   | .Return v _=>v.bind fun e=>(nm Γ e).bind fun j=>cG (i==j) (some js)
   | _=>none)
  | t=>(cX r q Γ s).bind fun d=>(Dh r q Γ i t).map fun d'=>j5 d d')
def cQ(r:Rc):Nat->Gm->List Stmt->Option DS.DS
 | 0=>fun _ _=>none
 | n+1=>fun Γ=>AV r (cQ r n) Γ
section
variable (P:Program) (w:World) (K':Fr) (mg:Str->Option Value) (base:Heap) (C:Addr) (rm:Nat->Prop) (K:Fr) (x:Str)
def wF:GI->Prop
 | .con i=>∃t,mg x=some (.int i t)
 | .fE k ps ks F=>FnI P w K' mg base k x ps (ky K ks F)/\rm k
 | .fF k ps ks F=>FnI P w K' mg base k x ps (WV K ks F)/\rm k
 | .mk k ps ks F G=>MkI P w K' mg base k C x ps (Ax K C ks F)/\(∀p ds o,G ds=some o->F p ds=some o)/\rm (k+1)
 | .fL k ps F=>FnI P w K' mg base k x ps (xt K F)/\rm k
 | .blt=>mg x=none
def qi:GI->Prop
 | .fE k ps _ F=>MtI P w K' mg base k C x ps (ky K [false] F)/\rm k
 | .fF k ps _ F=>MtI P w K' mg base k C x ps (WV K [false] F)/\rm k
 | _=>True
end
structure OkX (K:Fr) (Γ:Gm) (X:Cx):Prop where
 n:X.N=Γ.N
 sc:X.env.scope=Γ.sc
 nd:Γ.N.Nodup
 calm:X.calm=true
 k:X.K=K
 room:Room 0 X.A
 fn:Γ.fn=true->∀x,X.fn x=true
 gs:∀x g,Γ.gs.lookup x=some g->wF X.prog X.w X.K X.mg X.base Γ.C (fun k=>Room k X.A) K x g
 ms:∀x g,Γ.ms.lookup x=some g->qi X.prog X.w X.K X.mg X.base Γ.C (fun k=>Room k X.A) K x g
 cl:Cls K Γ.C
 fl:∀f,Γ.fl.contains f=true->Y4 K Γ.C f
def Ul(X:Cx)(K:Fr)(e:Expr):Dn->Prop
 | .E d=>PE X e (tE K d)
 | .F d=>PE X e (tF K d)
structure RcOk (r:Rc):Prop where
 n:∀{K:Fr} {Γ:Gm} {X:Cx} {e:Expr} {d:Dn},OkX K Γ X->r.n Γ e=some d->Ul X K e d
 t:∀{K:Fr} {Γ:Gm} {X:Cx} {e:Expr} {d:DT},OkX K Γ X->r.t Γ e=some d->PT X e (tT K d)
 g:∀{K:Fr} {Γ:Gm} {X:Cx} {k:Nat} {e:Expr} {d:DG},OkX K Γ X->r.g Γ k e=some d->PG X e (tG K k d)
theorem je{c:Bool}{α:Type}{o:Option α}{y:α}(h:cG c o=some y):c=true/\o=some y:=by
 cases c with
 | true=>exact⟨rfl,h⟩
 | false=>cases h
theorem j8{α β:Type}{o:Option α}{f:α->β}{y:β}(h:o.map f=some y):∃x,o=some x/\f x=y:=by
 cases o with
 | none=>cases h
 | some x=>exact⟨x,rfl,vFa h⟩
theorem jd{a b:Bool}(h:(a&&b)=true):a=true/\b=true:=by simpa using h
theorem zH{a:Bool}(h:(!a)=true):a=false:=by simpa using h
theorem UN{x:Str}:∀{l:List Str} {i:Nat},GG x l=some i->l[i]?=some x
 | [],_,h=>by cases h
 | y::r,i,h=>by
  unfold GG at h;split at h
  ·cases h;rename_i e;rw[e];rfl
  ·obtain⟨j,h1,h2⟩:=j8 h;rw[<-h2];simpa using UN h1
section
variable {r:Rc} {Γ:Gm} {X:Cx} {K:Fr} {x y:Str} {i:Nat} {e a b c tg:Expr} {es:List Expr} {pos:Pos} {d:DE}
theorem Di{sc:Scope}(h:Qb sc x=true):WK sc x:=by
 unfold Qb at h;split at h <;> first | cases h | skip
 ·exact .inl (by assumption)
 ·exact .inr (.inl (by assumption))
 ·exact .inr (.inr (by assumption))
theorem xz{sc:Scope}(h:Qc sc x=true):Ud sc x:=by
 unfold Qc at h;split at h <;> first | cases h | skip
 ·exact .inl (by assumption)
 ·exact .inr (by assumption)
theorem xA{sc:Scope}(h:Qd sc x=true):sc.names.lookup x=some .local:=by
 unfold Qd at h;split at h
 ·assumption
 ·cases h
theorem gV(h:OkX K Γ X)(g:wC Γ x=true):Gl X x/\(x==("__debug__" : Str))=false:=by
 obtain⟨g1,g2⟩:=jd g;refine⟨?_,zH g2⟩;show X.env.scope.names.lookup x=_;rw[h.sc];split at g1
 ·assumption
 ·cases g1
theorem gW(h:OkX K Γ X)(g:xy Γ x=true):Gl X x/\X.mg x=none:=by
 obtain⟨g1,g2⟩:=jd g;refine⟨(gV h g1).1,?_⟩;split at g2
 ·exact h.gs x _ (by assumption)
 ·cases g2
theorem aA(e:slot Γ x=some i):GG x Γ.N=some i/\Qb Γ.sc x=true/\(x==("__debug__" : Str))=false/\(x==("__classdict__" : Str))=false:=by
 obtain⟨j,e1,e2⟩:=j1 e;split at e2
 ·cases e2;rename_i hh;obtain⟨h1,h2⟩:=jd hh;obtain⟨h2,h3⟩:=jd h2;exact⟨e1,h1,zH h2,zH h3⟩
 ·cases e2
theorem Jd(h:OkX K Γ X)(e:slot Γ x=some i):PE X (.Name x pos) (ye i):=by
 obtain⟨h1,h2,h3,h4⟩:=aA e;exact pv i (by rw[h.n];exact UN h1) (by rw[h.sc];exact Di h2) h3 h4
theorem Jt(h:nm Γ e=some i):∃x pos,e=.Name x pos/\slot Γ x=some i:=by
 unfold nm at h;split at h
 ·exact⟨_,_,rfl,h⟩
 ·cases h
theorem V3(h:OkX K Γ X)(e:gQ Γ x=some i):X.N.Nodup/\X.N[i]?=some x/\Ud X.env.scope x/\(X.fn x=true∨X.env.scope.names.lookup x=some .local):=by
 obtain⟨j,e1,e2⟩:=j1 e;split at e2
 ·cases e2;rename_i hh;obtain⟨h1,h2⟩:=jd hh;refine⟨by rw[h.n];exact h.nd,by rw[h.n];exact UN e1,by rw[h.sc];exact xz h1,?_⟩;rw[Bool.or_eq_true]at h2;rcases h2 with h2 | h2
  ·exact .inl (h.fn h2 x)
  ·exact .inr (by rw[h.sc];exact xA h2)
 ·cases e2
theorem jm{env:Env}(h:Jy e=true):starEach (e::es) env=(false,eval e env)::starEach es env:=by
 cases e <;> first | rfl | cases h
theorem zn{env:Env}:∀{es:List Expr},(∀e∈es,Jy e=true)->(backTo pos (starEach es env)).any (·.1)=false
 | [],_=>rfl
 | e::es,h=>by
  rw[jm (h e List.mem_cons_self)];show(false||(backTo pos (starEach es env)).any (·.1))=false;rw[zn fun x hx=>h x (List.mem_cons_of_mem _ hx)];rfl
theorem Gu{env:Env}{f:Str}(h:xw e=true):attributeBase e f env (eval e env)=eval e env:=by
 cases e <;> first | rfl | cases h
theorem Zj(h:uz b=true):Gw b:=by
 cases b <;> first | (intro _ _;rfl) | cases h
theorem U5{env:Env}{e:Expr}(h:U4 e=true):∀x,foldedSetIterable e env x=pure x:=by
 cases e <;> first | (intro _;rfl) | cases h
theorem Yz{env:Env}{t:Option Expr}{l:Nat}(h:vt e=true):swapsWith e t l env=pure false:=by
 cases e <;> first | rfl | cases h
theorem wG{f:Nat->DE}(h:cV r Γ f e=some d):(∃i,nm Γ e=some i/\d=f i)∨∃n,r.n Γ e=some n/\d=n.e:=by
 unfold cV at h;split at h
 ·exact .inl ⟨_,by assumption,(vFa h).symm⟩
 ·obtain⟨n,h1,h2⟩:=j8 h;exact .inr ⟨n,h1,h2.symm⟩
theorem aB{n:Dn}(h:Ul X K e n):PE X e (tE K n.e):=by
 cases n with
 | E d=>exact h
 | F d=>exact C8 h
variable (R:RcOk r) (h:OkX K Γ X)
include R h
theorem Jq(q:cV r Γ dC e=some d):PE X e (tE K d):=by
 rcases wG q with⟨i,q1,rfl⟩ | ⟨n,q1,rfl⟩
 ·obtain⟨x,p,rfl,q2⟩:=Jt q1;exact An i (Jd h q2)
 ·exact aB (R.n h q1)
theorem ju(q:cV r Γ dV e=some d):PE X e (tR K d):=by
 rcases wG q with⟨i,q1,rfl⟩ | ⟨n,q1,rfl⟩
 ·obtain⟨x,p,rfl,q2⟩:=Jt q1;exact EH i (Jd h q2)
 ·exact Hn (aB (R.n h q1))
theorem Ko(q:cV r Γ dP e=some d):PE X e (tP K d):=by
 rcases wG q with⟨i,q1,rfl⟩ | ⟨n,q1,rfl⟩
 ·obtain⟨x,p,rfl,q2⟩:=Jt q1;exact fA i (Jd h q2)
 ·exact HL (aB (R.n h q1))
theorem ve:∀{ks:List Bool} {es:List Expr} {l:DA},cA r Γ ks es=some l->PA X es (zi K l)/\l.map (·.1)=ks/\(∀e∈es,Jy e=true)/\l.length=es.length
 | [],[],l,q=>by cases q;exact⟨ff,rfl,(fun _ h=>by cases h),rfl⟩
 | k::ks,e::es,l,q=>by
  unfold cA at q;split at q
  ·rename_i hs;obtain⟨d,q1,q⟩:=j1 q;obtain⟨l',q2,q⟩:=j1 q;cases q;obtain⟨a1,a2,a3,a4⟩:=ve q2;refine⟨?_,by simp[a2],fun z hz=>?_,by simp[a4]⟩
   ·cases k with
    | true=>exact HH (Jq R h q1) a1 (jm hs)
    | false=>exact HI (ju R h q1) a1 (jm hs)
   ·rcases List.mem_cons.mp hz with rfl | hz
    ·exact hs
    ·exact a3 z hz
  ·cases q
 | [],_::_,_,q=>by cases q
 | _::_,[],_,q=>by cases q
omit R in
theorem Dj{op:Operator}{f:D->D->Option D}(q:dW op=some f):∃t,jF X (binaryOp op) t/\Jf K t f:=by
 have:=h.k;subst this;cases op <;> cases q
 ·exact⟨_,B5,EW⟩
 ·exact⟨_,cr,EM⟩
 ·exact⟨_,B4,CT⟩
 ·exact⟨_,cv,EO⟩
 ·exact⟨_,cw,ER⟩
 ·exact⟨_,bu,EQ⟩
omit R in
theorem zQ{op:CmpOp}{f:D->D->Option D}(q:Vs op=some f):∃t,jF X (compareOp op) t/\Jf K t f:=by
 have:=h.k;subst this;cases op <;> cases q
 ·exact⟨_,CY h.room,HV⟩
 ·exact⟨_,CZ h.room,HW⟩
 ·exact⟨_,Ew,Hu⟩
 ·exact⟨_,Ex,Hv⟩
 ·exact⟨_,Ey,Hw⟩
 ·exact⟨_,Ez,Hx⟩
 ·exact⟨_,cy,ES⟩
 ·exact⟨_,bv,Ce⟩
 ·exact⟨_,QL,C_⟩
 ·exact⟨_,KC,C_⟩
omit R in
theorem xB{p:Pos}{op:CmpOp}{f:D->D->Option D}(q:AR Γ p op=some f):∃t,jF X (compareOp op) t/\Jf K t f:=by
 unfold AR at q;split at q
 ·exact zQ h q
 ·have:=h.k;subst this;cases op <;> cases q
  ·exact⟨_,dR,Fd⟩
  ·exact⟨_,Bg,dS⟩
  ·exact⟨_,xi h.room,AL⟩
  ·exact⟨_,wj h.room,AL⟩
 ·have:=h.k;subst this;cases op <;> cases q
  ·exact⟨_,dU h.room,AO⟩
  ·exact⟨_,xu h.room,AO⟩
theorem xC:∀{vs:List Expr} {d:DE},cB r Γ yW vs=some d->PE X (.BoolOp .And vs pos) (tE K d)
 | [],_,q=>by cases q
 | [a],_,q=>As (Jq R h q)
 | a::b::c,d,q=>by
  unfold cB at q;obtain⟨d1,q1,q⟩:=j1 q;obtain⟨d2,q2,q⟩:=j1 q;cases q;exact f9 (ju R h q1) (xC q2)
theorem AW:∀{vs:List Expr} {d:DE},cB r Γ Gz vs=some d->PE X (.BoolOp .Or vs pos) (tE K d)
 | [],_,q=>by cases q
 | [a],_,q=>As (Jq R h q)
 | a::b::c,d,q=>by
  unfold cB at q;obtain⟨d1,q1,q⟩:=j1 q;obtain⟨d2,q2,q⟩:=j1 q;cases q;exact HG (ju R h q1) (AW q2)
theorem xD:∀{vs:List Expr} {d:DT},cW r Γ Jh vs=some d->PW X (.BoolOp .And vs pos) (tT K d)
 | [],_,q=>by cases q
 | [a],_,q=>Ch (R.t h q)
 | a::b::c,d,q=>by
  unfold cW at q;obtain⟨d1,q1,q⟩:=j1 q;obtain⟨d2,q2,q⟩:=j1 q;cases q;exact E_ (R.t h q1) (xD q2)
theorem AX:∀{vs:List Expr} {d:DT},cW r Γ JX vs=some d->PW X (.BoolOp .Or vs pos) (tT K d)
 | [],_,q=>by cases q
 | [a],_,q=>EZ (R.t h q)
 | a::b::c,d,q=>by
  unfold cW at q;obtain⟨d1,q1,q⟩:=j1 q;obtain⟨d2,q2,q⟩:=j1 q;cases q;exact HF (R.t h q1) (AX q2)
theorem V4{o:Option Expr}{p:ul}(q:Qe r Γ o=some p):PO X o (kt K p):=by
 cases o with
 | none=>cases q;exact HJ
 | some e=>
  obtain⟨d,q1,rfl⟩:=j8 q;exact HK (ju R h q1)
theorem xE{di:DI}(q:dX r Γ e=some di):PI X tg e (Ze K di):=by
 obtain⟨d,q1,rfl⟩:=j8 q;exact fG (Ko R h q1) h.k
omit R h in
theorem wH(t:gR e=true):∃es n p,e=.Tuple es n p:=by
 cases e <;> first | exact⟨_,_,_,rfl⟩ | cases t
theorem Dk{di:DI}{es:List Expr}{np:Pos}(q:dY r Γ (gR tg) x es=some di):PI X tg (.Call (.Name x np) es [] pos) (Ze K di):=by
 unfold dY at q;split at q
 ·rename_i hb;obtain⟨g1,g2⟩:=gW h hb;split at q
  ·split at q
   ·rename_i ex;subst ex;obtain⟨s1,q⟩:=je q;obtain⟨d,q1,rfl⟩:=j8 q;exact Cr g1 g2 (ju R h q1) (jm s1)
   ·split at q
    ·rename_i ex;subst ex;obtain⟨s1,q⟩:=je q;obtain⟨u1,u2⟩:=jd s1;obtain⟨d,q1,rfl⟩:=j8 q;obtain⟨_,_,_,rfl⟩:=wH u2;exact Ct g1 g2 (Ko R h q1) (jm u1) h.k
    ·cases q
  ·split at q
   ·rename_i ex;subst ex;obtain⟨s1,q⟩:=je q;obtain⟨u1,u3⟩:=jd s1;obtain⟨u1,u2⟩:=jd u1;obtain⟨d,q1,q⟩:=j1 q;obtain⟨d',q2,rfl⟩:=j8 q;obtain⟨_,_,_,rfl⟩:=wH u3;exact fJ g1 g2 (Ko R h q1) (Ko R h q2) (by rw[jm u1,jm u2];rfl) (jm u2) h.k
   ·cases q
  ·cases q
 ·cases q
theorem Dl{di:DI}{f:Expr}{as:List Expr}{ks:List Keyword}{p:Pos}(q:dZ r Γ tg (.Call f as ks p) f as ks p=some di):PI X tg (.Call f as ks p) (Ze K di):=by
 unfold dZ at q;split at q
 ·split at q
  ·split at q
   ·cases q;exact Dk R h (by assumption)
   ·exact xE R h q
  ·cases q
 ·cases q
theorem Kp{di:DI}(q:cI r Γ tg e=some di):PI X tg e (Ze K di):=by
 unfold cI at q;split at q
 ·exact Dl R h q
 ·exact xE R h (je q).2
end
theorem GK:∀{l:List Str},GJ l=true->l.Nodup
 | [],_=>List.nodup_nil
 | x::r,h=>by
  obtain⟨h1,h2⟩:=jd h;refine List.nodup_cons.mpr ⟨fun z=>?_,GK h2⟩;rw[List.contains_iff_mem.mpr z]at h1;cases h1
theorem GL:∀{l:List Nat},Qf l=true->l.Nodup
 | [],_=>List.nodup_nil
 | x::r,h=>by
  obtain⟨h1,h2⟩:=jd h;refine List.nodup_cons.mpr ⟨fun z=>?_,GL h2⟩;rw[List.contains_iff_mem.mpr z]at h1;cases h1
structure LcP (X:Cx) (K:Fr) (elt tg iter:Expr) (ifs:List Expr) (scope:Scope) (own:List Str) (caps:List (Str×Nat)) (di:DI) (g:DG) (dc:DT) (de:DE):Prop where
 S:CScope X scope
 cp:Caps X scope caps
 i:PI X tg iter (Ze K di)
 g:∀s3 H3 ex',PG (X.comp (L2.cN own caps) scope s3 H3 ex') tg (tG K own.length g)
 t:∀s3 H3 ex',z_ (X.comp (L2.cN own caps) scope s3 H3 ex') ifs (tT K dc)
 e:∀s3 H3 ex',PE (X.comp (L2.cN own caps) scope s3 H3 ex') elt (tE K de)
 nd:(caps.map (·.2)).Nodup
 fs:∀x,foldedSetIterable iter X.env x=pure x
section
variable {r:Rc} {Γ:Gm} {X:Cx} {K:Fr} {x y:Str} {i:Nat} {e a b c tg:Expr} {es:List Expr} {pos:Pos} {d:DE}
theorem Yb{own:List Str}{caps:List (Str×Nat)}{scope:Scope}(h:OkX K Γ X)(hn:GJ (inner Γ own caps scope).N=true){s3:Shared}{H3:Hp}{ex':List Addr}:OkX K (inner Γ own caps scope) (X.comp (L2.cN own caps) scope s3 H3 ex') where
 n:=rfl
 sc:=by
  show relabel scope X.env=d_ scope Γ.sc;rw[<-h.sc];rfl
 nd:=GK hn
 calm:=h.calm
 k:=h.k
 room:=h.room
 fn:=fun z=>by cases z
 gs:=h.gs
 ms:=h.ms
 cl:=h.cl
 fl:=h.fl
theorem AY{scope:Scope}(h:OkX K Γ X)(q:D0 Γ scope=true):CScope X scope:=by
 obtain⟨q,q4⟩:=jd q;obtain⟨q,q3⟩:=jd q;obtain⟨q1,q2⟩:=jd q;refine⟨?_,q2,q3,by rw[h.sc];exact q4⟩;split at q1
 ·assumption
 ·cases q1
theorem GM{scope:Scope}(h:OkX K Γ X):∀{caps:List (Str×Nat)},caps.all (aw Γ scope)=true->Caps X scope caps
 | [],_=>.nil
 | (y,j)::r,q=>by
  rw[List.all_cons]at q;obtain⟨q1,q2⟩:=jd q;obtain⟨q1,q5⟩:=jd q1;obtain⟨q3,q4⟩:=jd q1;refine .cons ?_ ?_ ?_ (GM h q2)
  ·rw[h.n];dsimp only at q3;split at q3
   ·rename_i z hz;rw[hz,eq_of_beq q3]
   ·cases q3
  ·show X.env.scope.names.lookup y=_∨X.env.scope.names.lookup y=_;rw[h.sc];split at q4
   ·exact .inl (by assumption)
   ·exact .inr (by assumption)
   ·cases q4
  ·split at q5
   ·assumption
   ·cases q5
variable (R:RcOk r) (h:OkX K Γ X)
include R h
theorem Dm{elt iter:Expr}{ifs:List Expr}{scope:Scope}{p:Pos}{d:DO}(q:D4 r Γ elt tg iter ifs scope p=some d):
  ∃own caps di g dc de,d=yY own.length (caps.map (·.2)) di g dc de/\LcP X K elt tg iter ifs scope own caps di g dc de:=by
 unfold D4 at q;dsimp only at q;obtain⟨z,q⟩:=je q;obtain⟨z,z5⟩:=jd z;obtain⟨z,z4⟩:=jd z;obtain⟨z,z3⟩:=jd z;obtain⟨z1,z2⟩:=jd z;obtain⟨di,q1,q⟩:=j1 q;obtain⟨g,q2,q⟩:=j1 q;obtain⟨dc,q3,q⟩:=j1 q;obtain⟨de,q4,q⟩:=j1 q;refine⟨_,_,di,g,dc,de,(vFa q).symm,AY h z1,GM h z2,Kp R h q1,fun _ _ _=>R.g (Yb h z3) q2,fun _ _ _=>?_,fun _ _ _=>Jq R (Yb h z3) q4,GL z4,U5 z5⟩;split at q3
 ·cases q3;exact HQ
 ·exact HR (R.t (Yb h z3) q3)
 ·cases q3
omit R in
theorem Bh{n:Nat}{l:DA}{f:List D->Option D}{np:Pos}(q:ar x n=some f)(g1:Gl X x)(g2:X.mg x=none)(ha:PA X (e::es) (zi K l))(he:starEach (e::es) X.env=(false,eval e X.env)::starEach es X.env)(hpl:(backTo pos (starEach es X.env)).any (·.1)=false):
  PE X (.Call (.Name x np) (e::es) [] pos) (tE K (ja f l)):=by
 have:=h.k;subst this;unfold ar at q;split at q
 ·rename_i ex;subst ex;cases q;exact jy (Zx KF g1 g2 PySem.boot_len ha (by decide) (by decide) he hpl) (um fm)
 split at q
 ·rename_i ex;subst ex;cases q;exact jy (uc k_ g1 g2 PyProof.Rows.boot_tuple ha (by decide) (by decide) he hpl) (um bQ)
 split at q
 ·rename_i ex;subst ex;cases q;exact jy (Zx (XR h.calm) g1 g2 PyProof.Rows.boot_all ha (by decide) (by decide) he hpl) (um fv)
 split at q
 ·rename_i ex;subst ex;cases q;exact jy (Zx (QC h.calm) g1 g2 PyProof.Rows.boot_max ha (by decide) (by decide) he hpl) (um fq)
 split at q
 ·rename_i ex;subst ex;cases q;exact jy (Zx (QD h.calm) g1 g2 PyProof.Rows.boot_min ha (by decide) (by decide) he hpl) (um fu)
 ·cases q
omit R in
theorem Bi{l:DA}{b:Bool}{f:List D->Option OD}{np:Pos}(q:au x b=some f)(g1:Gl X x)(g2:X.mg x=none)(ha:PA X (e::es) (zi K l))(he:starEach (e::es) X.env=(false,eval e X.env)::starEach es X.env)(hpl:(backTo pos (starEach es X.env)).any (·.1)=false):
  PE X (.Call (.Name x np) (e::es) [] pos) (tF K (JA f l)):=by
 have:=h.k;subst this;unfold au at q;split at q
 ·rename_i ex;subst ex;cases q;cases b
  ·exact jy (uc KG g1 g2 PyProof.Rows.boot_list ha (by decide) (by decide) he hpl) (WU Cn)
  ·exact jy (uc (Q9 h.calm) g1 g2 PyProof.Rows.boot_list ha (by decide) (by decide) he hpl) (WU Ba)
 ·cases q
omit R h in
theorem Bj{t:Str}{T:String}(q:av t=some T):bootBuiltins t=some (.type T)/\t≠ "__name__" /\(t==("__debug__" : Str))=false:=by
 unfold av at q
 repeat (split at q;· rename_i ex;subst ex;cases q;exact⟨by first | exact PyProof.Rows.boot_list | exact PyProof.Rows.boot_tuple | exact PyProof.Rows.boot_bool | exact PyProof.Rows.boot_str | exact PyProof.Rows.boot_int,by decide,by decide⟩)
 cases q
theorem Bl{n:Dn}{np:Pos}(g1:Gl X "isinstance")(g2:X.mg "isinstance" = none)(q:ay r Γ es=some n):Ul X K (.Call (.Name "isinstance" np) es [] pos) n:=by
 unfold ay at q;split at q
 ·split at q
  ·obtain⟨z,q⟩:=je q;obtain⟨z3,z4⟩:=jd z;obtain⟨T,q1,q⟩:=j1 q;obtain⟨d,q2,rfl⟩:=j8 q;obtain⟨b1,b2,b3⟩:=Bj q1;obtain⟨k1,k2⟩:=gW h z4;exact fU (Zx XT g1 g2 PyProof.Rows.boot_isinstance (j_ (ju R h q2) (j_ (Gr (v:=.ty T) k1 k2 b1 rfl b2 b3) yn) (jm z3)) (by decide) (by decide) (jm z3)) h.k
  ·split at q
   ·obtain⟨z,q⟩:=je q;obtain⟨z,z7⟩:=jd z;obtain⟨z,z6⟩:=jd z;obtain⟨z,z5⟩:=jd z;obtain⟨z3,z4⟩:=jd z;obtain⟨d,q2,rfl⟩:=j8 q;have e1:=vLa z6;have e2:=vLa z7;subst e1 e2;obtain⟨k1,k2⟩:=gW h z4;obtain⟨k3,k4⟩:=gW h z5;exact d8 (bL g1 g2 k1 k2 k3 k4 (ju R h q2) (jm z3)) h.k
   ·cases q
  ·cases q
 ·cases q
theorem aD{n:Dn}{np:Pos}(q0:AQ r Γ x es pos=some n):Ul X K (.Call (.Name x np) es [] pos) n:=by
 obtain⟨z,q⟩:=je q0;clear q0;obtain⟨z1,z2⟩:=jd z;obtain⟨g1,g3⟩:=gV h z1;cases es with
 | nil=>cases z2
 | cons e es=>
 split at q
 ·rename_i hl;obtain⟨l,q1,rfl⟩:=j8 q;obtain⟨a1,a2,a3,_⟩:=ve R h q1;obtain⟨G,hr⟩:=h.gs _ _ hl;exact Cw G hr a1 a2 g1 g3 (jm (a3 _ wNa)) (zn fun z hz=>a3 z (wMa _ hz))
 ·rename_i hl;obtain⟨l,q1,rfl⟩:=j8 q;obtain⟨a1,a2,a3,_⟩:=ve R h q1;obtain⟨G,hr⟩:=h.gs _ _ hl;exact Cy G hr a1 a2 g1 g3 (jm (a3 _ wNa)) (zn fun z hz=>a3 z (wMa _ hz))
 ·rename_i hl;obtain⟨l,q1,rfl⟩:=j8 q;obtain⟨a1,a2,a3,_⟩:=ve R h q1;obtain⟨G,hF,hr⟩:=h.gs _ _ hl;exact CA G hF hr a1 a2 g1 g3 (jm (a3 _ wNa)) (zn fun z hz=>a3 z (wMa _ hz))
 ·rename_i hl;have g2:X.mg x=none:=h.gs _ _ hl;split at q
  ·rename_i ex;subst ex;exact Bl R h g1 g2 q
  ·obtain⟨l,q1,q⟩:=j1 q;obtain⟨a1,a2,a3,_⟩:=ve R h q1;have s1:=jm (es:=es) (env:=X.env) (a3 _ wNa);have s2:=zn (pos:=pos) (env:=X.env) fun z hz=>a3 z (wMa _ hz);split at q
   ·rename_i hb;cases q;exact Bh h hb g1 g2 a1 s1 s2
   ·obtain⟨f,q2,rfl⟩:=j8 q;exact Bi h q2 g1 g2 a1 s1 s2
 ·cases q
omit R h in
theorem UO:∀{l:DA} {es:List Expr},l.map (·.1)=(es.map fun _=>true)->(l.map (·.1)).all id=true:=fun {l es} q=>by
 rw[q];simp
omit R h in
theorem qj{env:Env}{m:Str}{ap p cp:Pos}(hl:(ap.endLine==cp.line)=true):eval (.Call (.Attribute (.Name x p) m ap) [] [] cp) env=(do
   let ov<-eval (.Name x p) env
   standAt ap.atName
   let (f,first)<-holding [ov] (getMethod ov m (do return (<-importBound (.Name x p) env).getD true))
   callWith cp f first (backTo cp (starEach [] env)) (backToKw cp (keywordEach [] env))):=by
 have e:methodCallPos true (.Name x p) env ap cp=pure cp:=by unfold methodCallPos;rw[hl];rfl
 have f:methodCallForm 0 (backTo cp (starEach [] env)) (backToKw cp (keywordEach [] env))=true:=rfl;show(do
  let ov<-eval (.Name x p) env
  standAt ap.atName
  methodCall (.Name x p) m ap cp env ov 0 (backTo cp (starEach [] env)) (backToKw cp (keywordEach [] env)))=_
 unfold methodCall;rw[f,e];rfl
omit R h in
theorem Dp{c:Const}{k:Nat}{n:Dn}(q:D5 c=some n):Ul X K (.Constant c k pos) n:=by
 unfold D5 at q;split at q <;> cases q
 ·exact EI
 ·exact Hr
 ·exact EJ
 ·exact EK
theorem Dq{op:UnaryOp}{n:Dn}(q:D6 r Γ op a=some n):Ul X K (.UnaryOp op a pos) n:=by
 unfold D6 at q;split at q
 ·obtain⟨d,q1,rfl⟩:=j8 q;exact fc (ju R h q1)
 ·obtain⟨d,q1,rfl⟩:=j8 q;exact fb (ju R h q1)
 ·cases q
theorem Dr{op:Operator}{n:Dn}(q:FK r Γ a op b pos=some n):Ul X K (.BinOp a op b pos) n:=by
 obtain⟨d,q1,q⟩:=j1 q;obtain⟨d',q2,q⟩:=j1 q;split at q
 ·split at q
  ·cases q;exact Ca QO EV (ju R h q1) (ju R h q2)
  ·cases q;exact Ca C5 Cf (ju R h q1) (ju R h q2)
  ·cases q
 ·obtain⟨f,q3,rfl⟩:=j8 q;obtain⟨t,o1,o2⟩:=Dj h q3;exact Hs o1 o2 (ju R h q1) (ju R h q2)
theorem Ds{os:List CmpOp}{bs:List Expr}{d:DE}(q:FL r Γ a os bs pos=some d):PE X (.Compare a os bs pos) (tE K d):=by
 rcases os with _ | ⟨o,_ | ⟨o',_ | ⟨o'',_ | ⟨_,_⟩⟩⟩⟩ <;> rcases bs with _ | ⟨b,_ | ⟨c,_ | ⟨e,_ | ⟨_,_⟩⟩⟩⟩ <;> try (cases q;done)
 ·obtain⟨z,q⟩:=je q;obtain⟨d,q1,q⟩:=j1 q;obtain⟨d',q2,q⟩:=j1 q;obtain⟨f,q3,rfl⟩:=j8 q;obtain⟨t,o1,o2⟩:=xB h q3;exact EL o1 o2 (ju R h q1) (ju R h q2) (zH z)
 ·obtain⟨z,q⟩:=je q;obtain⟨d,q1,q⟩:=j1 q;obtain⟨d',q2,q⟩:=j1 q;obtain⟨d'',q3,q⟩:=j1 q;obtain⟨f,p1,q⟩:=j1 q;obtain⟨f',p2,rfl⟩:=j8 q;obtain⟨t,o1,o2⟩:=zQ h p1;obtain⟨t',o1',o2'⟩:=zQ h p2;exact bO o1 o1' o2 o2' (ju R h q1) (ju R h q2) (ju R h q3) (zH z)
 ·obtain⟨z,q⟩:=je q;obtain⟨d,q1,q⟩:=j1 q;obtain⟨d',q2,q⟩:=j1 q;obtain⟨d'',q3,q⟩:=j1 q;obtain⟨d3,q4,q⟩:=j1 q;obtain⟨f,p1,q⟩:=j1 q;obtain⟨f',p2,q⟩:=j1 q;obtain⟨f'',p3,rfl⟩:=j8 q;obtain⟨t,o1,o2⟩:=zQ h p1;obtain⟨t',o1',o2'⟩:=zQ h p2;obtain⟨t'',o1'',o2''⟩:=zQ h p3;exact XX o1 o1' o1'' o2 o2' o2'' (ju R h q1) (ju R h q2) (ju R h q3) (ju R h q4) (zH z)
theorem Dt{n:Dn}(q:D7 r Γ a b pos=some n):Ul X K (.Subscript a b pos) n:=by
 have hK:=h.k;unfold D7 at q;split at q
 ·split at q
  ·obtain⟨d,q1,q⟩:=j1 q;obtain⟨u,q2,q⟩:=j1 q;obtain⟨v,q3,rfl⟩:=j8 q;split
   ·exact fk (ju R h q1) (V4 R h q2) (V4 R h q3) hK
   ·exact fj (ju R h q1) (V4 R h q2) (V4 R h q3) hK
  ·cases q
 ·obtain⟨z,q⟩:=je q;obtain⟨d,q1,q⟩:=j1 q;obtain⟨d',q2,rfl⟩:=j8 q;subst hK;exact Ht cZ Hz (ju R h q1) (ju R h q2) (Zj z)
theorem xF{elt:Expr}{gs:List Comprehension}{scope:Scope}{d:DO}(q:AS r Γ elt gs scope pos=some d):
  ∃tg iter ifs own caps di g dc de,gs=[⟨tg,iter,ifs,0⟩]/\d=yY own.length (caps.map (·.2)) di g dc de/\LcP X K elt tg iter ifs scope own caps di g dc de:=by
 unfold AS at q;split at q
 ·obtain⟨z,q⟩:=je q;have z0:=vLa z;subst z0;obtain⟨own,caps,di,g,dc,de,rfl,L⟩:=Dm R h q;exact⟨_,_,_,own,caps,di,g,dc,de,rfl,rfl,L⟩
 ·cases q
theorem Du{kx vx:Expr}{gs:List Comprehension}{scope:Scope}{d:DO}(q:D8 r Γ kx vx gs scope pos=some d):PE X (.DictComp kx vx gs scope pos) (tF K d):=by
 have hK:=h.k;subst hK;rcases gs with _ | ⟨⟨t1,i1,f1,a1⟩,_ | ⟨⟨t2,i2,f2,a2⟩,_ | ⟨_,_⟩⟩⟩ <;> try (cases q;done)
 unfold D8 at q;dsimp only at q;obtain⟨z,q⟩:=je q;obtain⟨z,y4⟩:=jd z;obtain⟨z,y3⟩:=jd z;obtain⟨z,y2⟩:=jd z;obtain⟨z,y1⟩:=jd z;obtain⟨z,z6⟩:=jd z;obtain⟨z,z5⟩:=jd z;obtain⟨z,z4⟩:=jd z;obtain⟨z,z3⟩:=jd z;obtain⟨z1,z2⟩:=jd z;obtain⟨di,q1,q⟩:=j1 q;obtain⟨g1,q2,q⟩:=j1 q;obtain⟨di2,q3,q⟩:=j1 q;obtain⟨g2,q4,q⟩:=j1 q;obtain⟨dk,q5,q⟩:=j1 q;obtain⟨dv,q6,rfl⟩:=j8 q;have e1:=List.isEmpty_iff.mp y1;have e2:=List.isEmpty_iff.mp y2;have e3:=vLa y3;have e4:=vLa y4;subst e1 e2 e3 e4;exact jy (F5 (kJ 5 t1++kJ 5 t2) (gU Γ pos) (AY h z1) (GM h z2) h.calm (Kp R h q1) (fun _ _ _=>R.g (Yb h z3) q2) (fun s3 H3 x' A=>F2 h.calm rfl (Kp R (Yb h z3) q3) (R.g (Yb h z3) q4) (U5 z6) (f_ (Y:=X.comp (L2.cN (kJ 5 t1++kJ 5 t2) (gU Γ pos)) scope s3 H3 x') rfl h.room (Jq R (Yb h z3) q5) (Jq R (Yb h z3) q6))) (U5 z5)) (dw (GL z4))
theorem Dv{m:Str}{ap:Pos}{n:Dn}(q:D9 r Γ a m ap es pos=some n):Ul X K (.Call (.Attribute a m ap) es [] pos) n:=by
 unfold D9 at q;split at q
 ·obtain⟨z,q⟩:=je q;obtain⟨d,q1,q⟩:=j1 q;split at q
  ·rename_i hl;cases q;obtain⟨M,hr⟩:=h.ms _ _ hl;exact bT (ju R h q1) h.cl M hr (qj z) h.k
  ·rename_i hl;cases q;obtain⟨M,hr⟩:=h.ms _ _ hl;exact bU (ju R h q1) h.cl M hr (qj z) h.k
  ·cases q
 ·cases q
theorem Ff{n:Dn}(q:cN r Γ e=some n):Ul X K e n:=by
 have hK:=h.k;unfold cN at q;cases e with
 | Name x p=>
  obtain⟨z,q⟩:=je q;obtain⟨g1,g2⟩:=gV h z;split at q
  ·rename_i hl;cases q;exact C9 (iW (h.gs _ _ hl) g1 g2)
  ·cases q
 | Constant c k p=>
  exact Dp q
 | UnaryOp op a p=>
  exact Dq R h q
 | BinOp a op b p=>
  exact Dr R h q
 | Compare a os bs p=>
  obtain⟨d,q1,rfl⟩:=j8 q;exact Ds R h q1
 | BoolOp op vs p=>
  dsimp only at q;cases op
  ·obtain⟨d,q1,rfl⟩:=j8 q;exact xC R h q1
  ·obtain⟨d,q1,rfl⟩:=j8 q;exact AW R h q1
 | IfExp c a b p=>
  obtain⟨t,q1,q⟩:=j1 q;obtain⟨d,q2,q⟩:=j1 q;obtain⟨d',q3,rfl⟩:=j8 q;exact fe (R.t h q1) (Jq R h q2) (Jq R h q3)
 | Tuple es k p=>
  obtain⟨z,q⟩:=je q;obtain⟨l,q1,rfl⟩:=j8 q;obtain⟨a1,a2,_,a4⟩:=ve R h q1;exact fg a1 (UO a2) (by rw[a4];rw[Nat.ble_eq]at z⊢;exact wSa z (by decide))
 | List es p=>
  obtain⟨z,q⟩:=je q;obtain⟨l,q1,rfl⟩:=j8 q;obtain⟨a1,a2,_,a4⟩:=ve R h q1;exact fh a1 (UO a2) (by rw[a4];rw[Nat.ble_eq]at z⊢;exact wSa z (by decide))
 | Dict ks vs p=>
  cases ks <;> cases vs <;> cases q;exact dl
 | Attribute a f p=>
  obtain⟨z,q⟩:=je q;obtain⟨z1,z2⟩:=jd z;obtain⟨d,q1,rfl⟩:=j8 q;exact fw (ju R h q1) h.cl (h.fl _ z2) (Gu z1) hK
 | Subscript a b p=>
  exact Dt R h q
 | ListComp elt gs sc p=>
  obtain⟨d,q1,rfl⟩:=j8 q;obtain⟨_,_,_,own,caps,di,g,dc,de,rfl,rfl,L⟩:=xF R h q1;exact HS own caps L.S L.cp h.calm L.i L.g L.t L.e L.nd L.fs
 | Call f es ks p=>
  dsimp only at q;unfold FM at q;split at q
  ·split at q
   ·exact aD R h q
   ·exact Dv R h q
   ·cases q
  ·cases q
 | _=>
  cases q
omit R h in
theorem AZ{env:Env}(z:Da e=true):∀whole,isTrue e env whole=(do let v<-whole;standAt e.pos;holding [v] (truthy v)):=by
 cases e <;> first | (intro _;rfl) | cases z | skip
 rename_i op _ _;cases op <;> first | (intro _;rfl) | cases z
theorem Dw{os:List CmpOp}{bs:List Expr}{t:DT}(q:FN r Γ a os bs pos=some t):PT X (.Compare a os bs pos) (tT K t):=by
 rcases os with _ | ⟨o,_ | ⟨o',_ | ⟨_,_⟩⟩⟩ <;> rcases bs with _ | ⟨b,_ | ⟨c,_ | ⟨_,_⟩⟩⟩ <;> try (cases q;done)
 ·obtain⟨z,q⟩:=je q;obtain⟨d,q1,q⟩:=j1 q;obtain⟨d',q2,q⟩:=j1 q;obtain⟨f,q3,rfl⟩:=j8 q;obtain⟨t,o1,o2⟩:=xB h q3;exact EX o1 o2 (ju R h q1) (ju R h q2) (zH z)
 ·obtain⟨z,q⟩:=je q;obtain⟨d,q1,q⟩:=j1 q;obtain⟨d',q2,q⟩:=j1 q;obtain⟨d'',q3,q⟩:=j1 q;obtain⟨f,p1,q⟩:=j1 q;obtain⟨f',p2,rfl⟩:=j8 q;obtain⟨t,o1,o2⟩:=zQ h p1;obtain⟨t',o1',o2'⟩:=zQ h p2;exact bP o1 o1' o2 o2' (ju R h q1) (ju R h q2) (ju R h q3) (zH z)
theorem Fg{t:DT}(q:cT r Γ e=some t):PT X e (tT K t):=by
 unfold cT at q;split at q
 ·exact Dw R h q
 ·split at q
  ·obtain⟨t,q1,rfl⟩:=j8 q;exact EY (R.t h q1)
  ·obtain⟨z,q⟩:=je q;obtain⟨d,q1,rfl⟩:=j8 q;exact Ar (ju R h q1) h.k (AZ z)
 ·split at q
  ·exact Ci (xD R h q)
  ·exact Ci (AX R h q)
 ·obtain⟨z,q⟩:=je q;obtain⟨d,q1,rfl⟩:=j8 q;exact Ar (ju R h q1) h.k (AZ z)
omit R h in
theorem wI{env:Env}(z:Jy e=true):(assignEach (e::es) env)=(false,assign e env)::assignEach es env:=by
 cases e <;> first | rfl | cases z
theorem xG{k:Nat}:∀{es:List Expr} {gs:VQ},AU r Γ k es=some gs->u6 X es (QY K k gs)/\(assignEach es X.env).length=es.length/\(assignEach es X.env).findIdx? (·.1)=none
 | [],_,q=>by cases q;exact⟨fM,rfl,rfl⟩
 | e::es,gs,q=>by
  unfold AU at q;obtain⟨z,q⟩:=je q;obtain⟨g,q1,q⟩:=j1 q;obtain⟨gs',q2,rfl⟩:=j8 q;obtain⟨a1,a2,a3⟩:=xG q2;refine⟨Cv (R.g h q1) a1 (by rw[wI z];rfl),by rw[wI z];simp[a2],?_⟩;rw[wI z,List.findIdx?_cons,a3];rfl
theorem Dx{k:Nat}{g:DG}(q:Db r Γ k e=some g):PG X e (tG K k g):=by
 unfold Db at q;cases e with
 | Name x p=>
  obtain⟨i,q1,q⟩:=j1 q;obtain⟨z,q⟩:=je q;cases q;obtain⟨s1,s2,s3,s4⟩:=V3 h q1;exact Cu (br s1 s2 s3 s4) (Nat.blt_eq.mp z)
 | Tuple es k p=>
  obtain⟨gs,q1,rfl⟩:=j8 q;obtain⟨a1,a2,a3⟩:=xG R h q1;exact fN _ h.calm a1 a2 a3 h.k
 | _=>
  cases q
end
theorem U6:∀n:Nat,RcOk (rc n)
 | 0=>⟨(fun _ q=>by cases q),(fun _ q=>by cases q),(fun _ q=>by cases q)⟩
 | n+1=>⟨fun h q=>Ff (U6 n) h q,fun h q=>Fg (U6 n) h q,fun h q=>Dx (U6 n) h q⟩
section
variable {r:Rc} {Γ:Gm} {X:Cx} {K:Fr} {x y:Str} {i:Nat} {e a b c tg:Expr} {es:List Expr} {pos:Pos} {d:DE}
theorem A_{elt iter:Expr}{ifs:List Expr}{scope:Scope}{np p:Pos}{l:Nat}{aa:Int}(h:OkX K Γ X)(z:FO Γ scope x np p=true):swapsWith (.ListComp elt [⟨tg,iter,ifs,aa⟩] scope p) (some (.Name x np)) l X.env=pure true:=by
 obtain⟨z,z4⟩:=jd z;obtain⟨z,z3⟩:=jd z;obtain⟨z1,z2⟩:=jd z;have k1:Γ.sc.kind=.function:=by
  split at z1
  ·assumption
  ·cases z1
 have e1:X.env.blockKind=.function:=by
  unfold Env.blockKind;rw[h.sc,k1];rfl
 have e2:X.env.kindOf x=some .local:=by
  show X.env.scope.names.lookup x=_;rw[h.sc];exact xA z2
 show(pure (X.env.blockKind==.function&&X.env.kindOf x==some .local&&np.line==p.line&&!(scope.names.any fun(n,k)=>n==x&&(k==.local||k==.cell))):Sem Bool)=pure true;rw[e1,e2,z3,z4];rfl
theorem gX{o j:Expr}{env:Env}(z:uz j=true):∀v,assign (.Subscript o j pos) env v=(do
   let ov<-holding [v] (eval o env)
   let iv<-holding [v,ov] (eval j env)
   standAt pos
   holding [v,ov,iv] (setItem ov iv v)
   release [v,ov,iv] []):=by
 cases j <;> first | (intro _;rfl) | cases z
theorem uA{env:Env}{tg:Expr}{l:Nat}(h:vt e=true):swapsWithSole [tg] e l env=pure false:=by
 unfold swapsWithSole;exact Yz h
theorem gY{o j e:Expr}{env:Env}{p:Pos}:swappedStores [.Subscript o j p] e env=pure none:=by
 cases e <;> rfl
theorem Dy{es:List Expr}{n:Nat}{e:Expr}{env:Env}{p:Pos}(z:(!gR e)=true):swappedStores [.Tuple es n p] e env=pure none:=by
 cases e <;> first | rfl | cases z
theorem Dz{kx vx:Expr}{gs:List Comprehension}{scope:Scope}{np p:Pos}{l:Nat}(h:OkX K Γ X)(z:az Γ.sc x=true):swapsWith (.DictComp kx vx gs scope p) (some (.Name x np)) l X.env=pure false:=by
 have e2:X.env.kindOf x=some .cell:=by
  show X.env.scope.names.lookup x=_;rw[h.sc];unfold az at z;split at z
  ·assumption
  ·cases z
 show(pure (X.env.blockKind==.function&&X.env.kindOf x==some .local&&np.line==p.line&&!(scope.names.any fun(n,k)=>n==x&&(k==.local||k==.cell))):Sem Bool)=pure false;rw[e2];cases X.env.blockKind==.function <;> rfl
variable (R:RcOk r) (h:OkX K Γ X)
include R h
theorem g_{d:DO}(q:cF r Γ e=some d):PE X e (tF K d):=by
 unfold cF at q;split at q
 ·rename_i hn;cases q;exact R.n h hn
 ·cases q
theorem DB{np:Pos}{d:DS.DS}(q0:FP r Γ x np e=some d):PS X (.Assign [.Name x np] e pos) (tS K d):=by
 obtain⟨i,s0,q0⟩:=j1 q0;obtain⟨s1,s2,s3,s4⟩:=V3 h s0;split at q0
 ·obtain⟨d0,q1,q0⟩:=j1 q0;obtain⟨z2,q0⟩:=je q0;cases q0;obtain⟨_,_,_,own,caps,di,g,dc,de,rfl,rfl,L⟩:=xF R h q1;split
  ·exact bZ own caps s1 s2 s3 L.S L.cp h.calm L.i L.g L.t L.e L.nd L.fs (A_ h z2) s4
  ·exact b_ own caps s1 s2 s3 L.S L.cp h.calm L.i L.g L.t L.e L.nd L.fs (A_ h z2) s4
 ·obtain⟨z,q0⟩:=je q0;obtain⟨d0,q1,rfl⟩:=j8 q0;exact Kk (Zw s1 s2 s3 (C8 (Du R h q1)) (Dz h z) s4)
 ·obtain⟨z,q0⟩:=je q0;split at q0
  ·obtain⟨d0,q1,rfl⟩:=j8 q0;exact Ay (Zw s1 s2 s3 (g_ R h q1) (Yz z) s4)
  ·obtain⟨d0,q1,rfl⟩:=j8 q0;exact Kk (Zw s1 s2 s3 (Jq R h q1) (Yz z) s4)
theorem DC{t:Expr}{d:DS.DS}(q0:Dc r Γ t e=some d):PS X (.Assign [t] e pos) (tS K d):=by
 unfold Dc at q0;cases t with
 | Name x p=>
  exact DB R h q0
 | Attribute o f p=>
  obtain⟨i,s9,q9⟩:=j1 q0;clear q0;obtain⟨x,p,rfl,s0⟩:=Jt s9;obtain⟨z,q0⟩:=je q9;obtain⟨z1,z2⟩:=jd z;obtain⟨d0,q1,rfl⟩:=j8 q0;exact dg (cJ (Jd h s0) (Jq R h q1) (Yz z1)) h.cl (h.fl _ z2) h.k
 | Subscript o j p=>
  obtain⟨i,s9,q9⟩:=j1 q0;clear q0;obtain⟨x,p,rfl,s0⟩:=Jt s9;obtain⟨z,q0⟩:=je q9;obtain⟨z1,z2⟩:=jd z;have hK:=h.k;subst hK;split at q0
  ·obtain⟨dx,q1,q0⟩:=j1 q0;obtain⟨d0,q2,rfl⟩:=j8 q0;exact fZ (u7 (Jq R h q2) (gn (Jd h s0) (Jq R h q1) (B8 h.room) (gX z2)) (uA z1) gY)
  ·obtain⟨dx,q1,q0⟩:=j1 q0;obtain⟨d0,q2,rfl⟩:=j8 q0;exact CM (u7 (Jq R h q2) (gn (Jd h s0) (ju R h q1) UF (gX z2)) (uA z1) gY)
 | Tuple es k p=>
  obtain⟨z,q0⟩:=je q0;obtain⟨z1,z2⟩:=jd z;obtain⟨d0,q1,q0⟩:=j1 q0;obtain⟨g,q2,rfl⟩:=j8 q0;exact fP (u7 (Jq R h q1) (R.g h q2) (uA z1) (Dy z2))
 | _=>
  cases q0
theorem DD{t:Expr}{op:Operator}{d:DS.DS}(q0:Df r Γ t op e=some d):PS X (.AugAssign t op e pos) (tS K d):=by
 unfold Df at q0;cases t with
 | Name x p=>
  obtain⟨i,s0,q0⟩:=j1 q0;obtain⟨d0,q1,q0⟩:=j1 q0;obtain⟨s1,s2,s3,s4⟩:=V3 h s0;split at q0
  ·cases q0;exact Az (Qy s1 s2 s3 (ju R h q1) ce s4)
  ·cases q0;exact Az (Qy s1 s2 s3 (ju R h q1) cf s4)
  ·cases q0
 | _=>
  cases q0
theorem DF{f:Expr}{es:List Expr}{ks:List Keyword}{p:Pos}{d:DS.DS}(q0:FQ r Γ f es ks p=some d):PS X (.Expr (.Call f es ks p) pos) (tS K d):=by
 cases f <;> try (cases q0;done)
 rcases es with _ | ⟨e,_ | ⟨_,_⟩⟩ <;> rcases ks with _ | ⟨_,_⟩ <;> try (cases q0;done)
 ·obtain⟨i,s9,q9⟩:=j1 q0;clear q0;obtain⟨x,np,rfl,s0⟩:=Jt s9;obtain⟨z,q0⟩:=je q9;obtain⟨z,z3⟩:=jd z;obtain⟨z1,z2⟩:=jd z;obtain⟨d0,q1,rfl⟩:=j8 q0;have e1:=vLa z1;have hK:=h.k;subst e1 hK;exact a8 (zk (C7 (Jd h s0) (j_ (Jq R h q1) yn (jm z2)) rfl (by rw[jm z2];rfl) z3 (jm z2)))
theorem b7{q:Gm->List Stmt->Option DS.DS}{s:Stmt}{d:DS.DS}(Q:∀l d,q Γ l=some d->Jc X l (tS K d))(hp:PassesOwn (model X.prog X.w) X.A X.env X.xe)(q0:cS r q Γ s=some d):PS X s (tS K d):=by
 unfold cS at q0;cases s with
 | Assign ts e p=>
  dsimp only at q0;split at q0
  ·exact DC R h q0
  ·cases q0
 | AugAssign t op e p=>
  exact DD R h q0
 | Expr e p=>
  dsimp only at q0;unfold FR at q0;split at q0
  ·split at q0
   ·cases q0;exact DF R h (by assumption)
   ·obtain⟨d0,q1,rfl⟩:=j8 q0;exact xa (zk (ju R h q1) (Yz rfl))
  ·obtain⟨z,q0⟩:=je q0;obtain⟨d0,q1,rfl⟩:=j8 q0;exact xa (zk (ju R h q1) (Yz z))
 | Return o p=>
  dsimp only at q0;split at q0
  ·cases q0;exact CS
  ·split at q0
   ·rename_i hn;obtain⟨x,p,rfl,hs⟩:=Jt hn;split at q0
    ·cases q0;exact CQ (Jd h hs)
    ·cases q0;exact AA (An _ (Jd h hs))
   ·split at q0
    ·obtain⟨d0,q1,rfl⟩:=j8 q0;exact CO (g_ R h q1)
    ·obtain⟨d0,q1,rfl⟩:=j8 q0;exact AA (Jq R h q1)
 | If c a b p=>
  obtain⟨t,q1,q0⟩:=j1 q0;obtain⟨u,q2,q0⟩:=j1 q0;obtain⟨v,q3,rfl⟩:=j8 q0;exact CJ (R.t h q1) (Q _ _ q2) (Q _ _ q3)
 | While c b o p=>
  dsimp only at q0;split at q0
  ·obtain⟨t,q1,q0⟩:=j1 q0;obtain⟨u,q2,rfl⟩:=j8 q0;exact bX _ hp (R.t h q1) (Q _ _ q2)
  ·cases q0
 | For tg it b o p=>
  dsimp only at q0;split at q0
  ·obtain⟨z,q0⟩:=je q0;obtain⟨di,q1,q0⟩:=j1 q0;obtain⟨g,q2,q0⟩:=j1 q0;obtain⟨u,q3,rfl⟩:=j8 q0;exact fQ hp h.calm (Kp R h q1) (R.g h q2) (Q _ _ q3) (U5 z)
  ·cases q0
 | Pass p=>
  cases q0;exact CF
 | Break p=>
  cases q0;exact bW
 | Continue p=>
  cases q0;exact CI
 | _=>
  cases q0
theorem DH{i:Nat}{np:Pos}{d:DS.DS}(s0:gQ Γ x=some i)(q0:FS r Γ i e=some d):PS X (.Assign [.Name x np] e pos) (tS K d):=by
 obtain⟨s1,s2,s3,s4⟩:=V3 h s0;have fin:∀{e:Expr},(cG (vt e) ((cV r Γ dC e).map fun d=>jl i fun ρ=>(d (frz ρ)).bind Ys))=some d->PS X (.Assign [.Name x np] e pos) (tS K d):=fun q=>by
  obtain⟨z,q⟩:=je q;obtain⟨d0,q1,rfl⟩:=j8 q;exact Kk (Zw s1 s2 s3 (AI (Jq R h q1)) (Yz z) s4)
 have hK:=h.k;cases e with
 | Call f es ks p=>
  cases f with
  | Name g gp=>
   have q0:(match Γ.gs.lookup g with
    | some (.fE _ _ kk F)=>cG (wC Γ g&&ks.isEmpty&&!es.isEmpty&&kk.length==es.length) ((cA r Γ (es.map fun _=>true) es).map fun l=>gP i (qe F l))
    | _=>none)=some d:=q0
   split at q0
   ·rename_i hl;obtain⟨z,q⟩:=je q0;obtain⟨z,z4⟩:=jd z;obtain⟨z,z3⟩:=jd z;obtain⟨z1,z2⟩:=jd z;obtain⟨l,q1,rfl⟩:=j8 q;have e2:=List.isEmpty_iff.mp z2;subst e2;obtain⟨a1,a2,a3,a4⟩:=ve R h q1;obtain⟨G,hr⟩:=h.gs _ _ hl;obtain⟨g1,g3⟩:=gV h z1;cases es with
    | nil=>cases z3
    | cons e es=>exact dB (Zw s1 s2 s3 (dA G hr a1 (UO a2) (by rw[a4];exact vLa z4) g1 g3 (jm (a3 _ wNa)) (zn fun z hz=>a3 z (wMa _ hz)) hK) (Yz rfl) s4)
   ·cases q0
  | _=>cases q0
 | _=>exact fin q0
theorem DJ{d:DS.DS}(q0:FT r Γ e=some d):PS X (.Expr e pos) (tS K d):=by
 have hK:=h.k;subst hK;cases e with
 | Call f es ks p=>
  cases f with
  | Attribute o m ap=>
   have ins:((nm Γ o).bind fun i=>(match es with
    | [k,x]=>cG (m==("insert" : Str)&&ks.isEmpty&&Jy k&&Jy x&&ap.endLine==p.line) ((cV r Γ dV k).bind fun dj=>(cF r Γ x).map fun de=>Vn i dj de)
    | _=>none))=some d->PS X (.Expr (.Call (.Attribute o m ap) es ks p) pos) (tS X.K d):=fun q9=>by
    obtain⟨i,e1,q⟩:=j1 q9;clear q9 q0;obtain⟨x',p',rfl,e2⟩:=Jt e1;rcases es with _ | ⟨k,_ | ⟨x,_ | ⟨_,_⟩⟩⟩ <;> try (cases q;done)
    obtain⟨z,q⟩:=je q;obtain⟨z,z5⟩:=jd z;obtain⟨z,z4⟩:=jd z;obtain⟨z,z3⟩:=jd z;obtain⟨z1,z2⟩:=jd z;obtain⟨dj,q1,q⟩:=j1 q;obtain⟨de,q2,rfl⟩:=j8 q;have em:=vLa z1;have ek:=List.isEmpty_iff.mp z2;subst em ek;exact dF (zk (AM (Jd h e2) (j_ (ju R h q1) (j_ (g_ R h q2) yn (jm z4)) (by rw[jm z3])) (by rw[jm z3,jm z4];rfl) z5 (jm z3) (by rw[jm z4];rfl)))
   cases o with
   | Subscript a j ip=>
    obtain⟨i,e1,q⟩:=j1 q0;obtain⟨x',p',rfl,e2⟩:=Jt e1;obtain⟨x,e3,q⟩:=j1 q;obtain⟨z,q⟩:=je q;obtain⟨z,z5⟩:=jd z;obtain⟨z,z4⟩:=jd z;obtain⟨z,z3⟩:=jd z;obtain⟨z1,z2⟩:=jd z;obtain⟨dj,q1,q⟩:=j1 q;obtain⟨de,q2,rfl⟩:=j8 q;have em:=vLa z1;have ek:=List.isEmpty_iff.mp z2;have ee:es=[x]:=by rcases es with _ | ⟨a,_ | ⟨_,_⟩⟩ <;> cases e3;rfl
    subst em ek ee;exact dE (zk (C7 (Ke uY (Jd h e2) (ju R h q1) (Zj z3)) (j_ (Jq R h q2) yn (jm z4)) rfl (by rw[jm z4];rfl) z5 (jm z4)))
   | _=>exact ins q0
  | _=>cases q0
 | _=>cases q0
omit R h in
theorem xH{α:Type}{ts:List α}{t:α}(e:wE ts=some t):ts=[t]:=by rcases ts with _ | ⟨a,_ | ⟨_,_⟩⟩ <;> cases e;rfl
theorem DK{i:Nat}{g:Str}{es:List Expr}{ks:List Keyword}{np p gp:Pos}{d:DS.DS}(s0:gQ Γ x=some i)(q0:Dg r Γ i g es ks.isEmpty=some d):PS X (.Assign [.Name x np] (.Call (.Name g gp) es ks p) pos) (tS K d):=by
 obtain⟨s1,s2,s3,s4⟩:=V3 h s0;have hK:=h.k;subst hK;unfold Dg at q0;split at q0
 ·rename_i hl;rcases es with _ | ⟨e0,_ | ⟨e1,_ | ⟨e2,_ | ⟨e3,_ | ⟨_,_⟩⟩⟩⟩⟩ <;> try (cases q0;done)
  obtain⟨j,n1,q0⟩:=j1 q0;obtain⟨z,q0⟩:=je q0;obtain⟨z,z6⟩:=jd z;obtain⟨z,z5⟩:=jd z;obtain⟨z,z4⟩:=jd z;obtain⟨z,z3⟩:=jd z;obtain⟨z,zj⟩:=jd z;obtain⟨z1,z2⟩:=jd z;obtain⟨a,qa,q0⟩:=j1 q0;obtain⟨b,qb,q0⟩:=j1 q0;obtain⟨c,qc,rfl⟩:=j8 q0;have e2:=List.isEmpty_iff.mp z2;have ej:=vLa zj;subst e2 ej;obtain⟨x',p',rfl,e2⟩:=Jt n1;obtain⟨G,hr⟩:=h.gs _ _ hl;obtain⟨g1,g3⟩:=gV h z1;exact Be (Zw s1 s2 s3 (Bf G hr (Jq R h qa) (Jd h e2) (Jq R h qb) (Jq R h qc) (fun _=>jm z3) (fun _=>jm z4) (fun _=>jm z5) (fun _=>jm z6) g1 g3) (Yz rfl) s4)
 ·cases q0
theorem DL{i:Nat}{a b:Expr}{op:Operator}{np p:Pos}{d:DS.DS}(s0:gQ Γ x=some i)(q0:FU r Γ i a b op=some d):PS X (.Assign [.Name x np] (.BinOp a op b p) pos) (tS K d):=by
 obtain⟨s1,s2,s3,s4⟩:=V3 h s0;have hK:=h.k;subst hK;cases a with
 | Subscript a s sp=>
  cases s with
  | Slice lo hi st sp=>
   cases b with
   | List es lp=>
    obtain⟨j,n1,q0⟩:=j1 q0;obtain⟨y,o1,q0⟩:=j1 q0;obtain⟨z,q0⟩:=je q0;obtain⟨z,z5⟩:=jd z;obtain⟨z,z4⟩:=jd z;obtain⟨z,z3⟩:=jd z;obtain⟨zj,z2⟩:=jd z;obtain⟨pt,q1,q0⟩:=j1 q0;obtain⟨f,q2,rfl⟩:=j8 q0;obtain⟨x',p',rfl,e2⟩:=Jt n1;have ej:=vLa zj;have ee:=xH o1;subst ej ee;cases lo with
    | some _=>cases z2
    | none=>
    cases st with
    | some _=>cases z3
    | none=>
    cases op with
    | Add=>exact dM (Zw s1 s2 s3 (qM QO (UE WQ (Jd h e2) WO (V4 R h q1)) (QG (j_ (g_ R h q2) yn (jm z5)))) (Yz rfl) s4)
    | _=>cases z4
   | _=>cases q0
  | _=>cases q0
 | _=>cases q0
theorem DM{a j:Expr}{sp:Pos}{d:DS.DS}(q0:FV r Γ a j e=some d):PS X (.Assign [.Subscript a j sp] e pos) (tS K d):=by
 have hK:=h.k;subst hK;obtain⟨z,q0⟩:=je q0;obtain⟨z1,z2⟩:=jd z;have fin:((nm Γ a).bind fun i=>(cV r Γ dV j).bind fun dj=>(cF r Γ e).map fun d=>zG i dj fun ρ=>(d (frz ρ)).bind zF)=some d->PS X (.Assign [.Subscript a j sp] e pos) (tS X.K d):=fun q=>by
  obtain⟨i,n1,q⟩:=j1 q;obtain⟨dj,q1,q⟩:=j1 q;obtain⟨df,q2,rfl⟩:=j8 q;obtain⟨x',p',rfl,e2⟩:=Jt n1;exact dI (u7 (fW (g_ R h q2)) (gn (Jd h e2) (ju R h q1) UF (gX z2)) (uA z1) gY)
 cases a with
 | Subscript a k kp=>
  obtain⟨i,n1,q⟩:=j1 q0;obtain⟨z3,q⟩:=je q;obtain⟨dj,q1,q⟩:=j1 q;obtain⟨dh,q2,q⟩:=j1 q;obtain⟨de,q3,rfl⟩:=j8 q;obtain⟨x',p',rfl,e2⟩:=Jt n1;exact dH (u7 (AI (Jq R h q3)) (gn (Ke uY (Jd h e2) (ju R h q1) (Zj z3)) (ju R h q2) UF (gX z2)) (uA z1) gY)
 | _=>exact fin q0
theorem DN{o:Expr}{m:Str}{es:List Expr}{ks:List Keyword}{ap p:Pos}{d:DS.DS}(q0:FW r Γ o m es (ks.isEmpty&&ap.endLine==p.line)=some d):PS X (.Expr (.Call (.Attribute o m ap) es ks p) pos) (tS K d):=by
 have hK:=h.k;subst hK;have fin:(match (generalizing:=false) es with
  | [k]=>(nm Γ o).bind fun i=>cG (m==("pop" : Str)&&(ks.isEmpty&&ap.endLine==p.line)&&Jy k) ((cV r Γ dV k).map fun dj=>Vq i dj)
  | _=>none)=some d->PS X (.Expr (.Call (.Attribute o m ap) es ks p) pos) (tS X.K d):=fun q=>by
  clear q0;rcases es with _ | ⟨k,_ | ⟨_,_⟩⟩ <;> try (cases q;done)
  obtain⟨i,n1,q⟩:=j1 q;obtain⟨z,q⟩:=je q;obtain⟨z,z3⟩:=jd z;obtain⟨z1,z⟩:=jd z;obtain⟨z2,z4⟩:=jd z;obtain⟨dj,q1,rfl⟩:=j8 q;obtain⟨x',p',rfl,e2⟩:=Jt n1;have em:=vLa z1;have ek:=List.isEmpty_iff.mp z2;subst em ek;exact dJ (zk (qZ PySem.F.plainAttrs_list PySem.F.slot_list_pop PySem.F.type_list_pop XE (Jd h e2) (j_ (ju R h q1) yn (jm z3)) rfl (by rw[jm z3];rfl) z4 (jm z3) rfl))
 cases o with
 | Subscript a j ip=>
  clear fin
  rcases es with _ | ⟨k,_ | ⟨x,_ | ⟨_,_⟩⟩⟩ <;> try (cases q0;done)
  obtain⟨i,n1,q⟩:=j1 q0;obtain⟨z,q⟩:=je q;obtain⟨z,z5⟩:=jd z;obtain⟨z,z4⟩:=jd z;obtain⟨z,z3⟩:=jd z;obtain⟨z1,z⟩:=jd z;obtain⟨z2,z6⟩:=jd z;obtain⟨dj,q1,q⟩:=j1 q;obtain⟨dh,q2,q⟩:=j1 q;obtain⟨de,q3,rfl⟩:=j8 q;obtain⟨x',p',rfl,e2⟩:=Jt n1;have em:=vLa z1;have ek:=List.isEmpty_iff.mp z2;subst em ek;exact dG (zk (AM (Ke uY (Jd h e2) (ju R h q1) (Zj z3)) (j_ (ju R h q2) (j_ (Jq R h q3) yn (jm z5)) (by rw[jm z4])) (by rw[jm z4,jm z5];rfl) z6 (jm z4) (by rw[jm z5];rfl)))
 | _=>exact fin q0
theorem DP{s:Stmt}{d:DS.DS}(q0:FX r Γ s=some d):PS X s (tS K d):=by
 cases s with
 | Assign ts e p=>
  obtain⟨t,e1,q0⟩:=j1 q0;have ee:=xH e1;subst ee;cases t with
  | Name x np=>
   obtain⟨i,s0,q0⟩:=j1 q0;cases e with
   | Call f es ks cp=>
    cases f with
    | Name g gp=>exact DK R h s0 q0
    | _=>cases q0
   | BinOp a op b bp=>exact DL R h s0 q0
   | _=>cases q0
  | Subscript a j sp=>exact DM R h q0
  | _=>cases q0
 | Expr e p=>
  cases e with
  | Call f es ks cp=>
   cases f with
   | Attribute o m ap=>exact DN R h q0
   | _=>cases q0
  | _=>cases q0
 | _=>cases q0
theorem b8{q:Gm->List Stmt->Option DS.DS}{s:Stmt}{d:DS.DS}(Q:∀l d,q Γ l=some d->Jc X l (tS K d))(hp:PassesOwn (model X.prog X.w) X.A X.env X.xe)(q0:cX r q Γ s=some d):PS X s (tS K d):=by
 unfold cX at q0;split at q0
 ·exact DP R h q0
 split at q0
 ·obtain⟨d0,q1,rfl⟩:=j8 q0;exact fX (b7 R h Q hp q1)
 split at q0
 ·cases s with
  | If c a b p=>
   obtain⟨t,q1,q0⟩:=j1 q0;obtain⟨u,q2,q0⟩:=j1 q0;obtain⟨v,q3,rfl⟩:=j8 q0;exact CJ (fV (R.t h q1)) (Q _ _ q2) (Q _ _ q3)
  | Assign ts e p=>
   obtain⟨t,e1,q0⟩:=j1 q0;have ee:ts=[t]:=by rcases ts with _ | ⟨a,_ | ⟨_,_⟩⟩ <;> cases e1;rfl
   subst ee;cases t with
   | Name x np=>
    obtain⟨i,s0,q0⟩:=j1 q0;exact DH R h s0 q0
   | _=>cases q0
  | Expr e p=>exact DJ R h q0
  | _=>cases q0
 ·exact b7 R h Q hp q0
omit R h in
theorem G1{l:Nat}{st:List Stmt}:∀{sh:List (Nat×Nat)} {d:DS.DS},Jc X st (tS K d)->Jc X st (tS K (qh l sh d))
 | [],_,h=>h
 | (m,i)::r,d,h=>by
  unfold qh;split
  ·exact XZ i (G1 h)
  ·exact G1 h
theorem xI{q:Gm->List Stmt->Option DS.DS}(Q:∀l d,q Γ l=some d->Jc X l (tS K d))(hp:PassesOwn (model X.prog X.w) X.A X.env X.xe):∀{l:List Stmt} {d:DS.DS},AV r q Γ l=some d->Jc X l (tS K d)
 | [],_,q0=>by cases q0;exact CB
 | s::t,d,q0=>by
  unfold AV at q0;split at q0
  ·cases q0;exact XY
  ·obtain⟨d1,q1,q0⟩:=j1 q0;have h1:=b8 R h Q hp q1;split at q0
   ·cases q0;exact G1 (CD h1)
   ·obtain⟨d2,q2,rfl⟩:=j8 q0;exact G1 (bV h1 (xI Q hp q2))
theorem xJ{q:Gm->List Stmt->Option DS.DS}{i:Nat}(Q:∀l d,q Γ l=some d->Jc X l (tS K d))(hp:PassesOwn (model X.prog X.w) X.A X.env X.xe):∀{l:List Stmt} {d:DS.DS},Dh r q Γ i l=some d->Jc X l (xr K i d)
 | [],_,q0=>by cases q0
 | [s],d,q0=>by
  cases s with
  | Return v p=>
   obtain⟨e,e1,q0⟩:=j1 q0;obtain⟨j,n1,q0⟩:=j1 q0;obtain⟨z,q0⟩:=je q0;cases q0;have ej:=vLa z;subst ej e1;obtain⟨x',p',rfl,e2⟩:=Jt n1;exact dN (Jd h e2)
  | _=>cases q0
 | s::s'::t,d,q0=>by
  obtain⟨d1,q1,q0⟩:=j1 q0;obtain⟨d2,q2,rfl⟩:=j8 q0;exact Bc (b8 R h Q hp q1) (xJ Q hp q2)
theorem Qg(hp:PassesOwn (model X.prog X.w) X.A X.env X.xe):∀(n:Nat) {l:List Stmt} {d:DS.DS},cQ r n Γ l=some d->Jc X l (tS K d)
 | 0,_,_,q=>by cases q
 | n+1,_,_,q=>xI R h (fun l d q=>Qg hp n q) hp q
end
structure De where
 x:Str
 q:Str
 st:Stmt
 ps:List Str
 lo:List Str
 ks:List Bool
 b:DS.DS
 hs:List ((Nat×Nat×Nat)×List Nat)
 sh:List (Nat×Nat)
 ow:List Nat
structure Tb where
 C:Addr
 gs:List (Str×GI)
 ms:List (Str×GI)
 fl:List Str
def gm(T:Tb)(d:De)(kF:Bool):Gm:={ N:=d.ps++d.lo,sc:=defScope d.st,fn:=true,kF:=kF,C:=T.C,gs:=T.gs,ms:=T.ms,fl:=T.fl,hs:=d.hs,sh:=d.sh,ow:=d.ow }
def DQ(N ps:List Str)(sc:Scope):Bool:=(match sc.kind with | .function=>true | _=>false)&&!sc.isCoroutine&&!sc.isGenerator&&GJ N&&ps.all (Qc sc)&&sc.names.all fun y=>match y.2 with | .free=>false | _=>true
theorem Vt{ps lo:List Str}{sc:Scope}(h:DQ (ps++lo) ps sc=true):FnScope (ps++lo) ps sc:=by
 obtain⟨h,h6⟩:=jd h;obtain⟨h,h5⟩:=jd h;obtain⟨h,h4⟩:=jd h;obtain⟨h,h3⟩:=jd h;obtain⟨h1,h2⟩:=jd h;refine⟨?_,zH h2,zH h3,GK h4,by simp,fun x hx=>xz (List.all_eq_true.mp h5 x hx),fun y hy e=>?_⟩
 ·split at h1
  ·assumption
  ·cases h1
 ·have:=List.all_eq_true.mp h6 y hy;rw[e]at this;cases this
def Bd(x q:Str)(st:Stmt)(ps:List Str):Prop:=∀(kV doc pm:Value) (an:Option Addr) (cdv ct:Value) (us:List Value),us.length=ps.length->bindArgs (PySem.W.fnOf x q (defArgs st) (defBody st) (defScope st) .none kV doc pm an cdv ct) ⟨us,[]⟩=pure (ps.zip us)
def kK(T:Tb)(d:De)(kF:Bool):Option DS.DS:=cG (DQ (d.ps++d.lo) d.ps (defScope d.st)) (cQ (rc 30) 30 (gm T d kF) (defBody d.st))
def aE(T:Tb)(d:De):Option DS.DS:=cG (DQ (d.ps++d.lo) d.ps (defScope d.st)) (Dh (rc 30) (cQ (rc 30) 30) (gm T d false) 1 (defBody d.st))
structure TOk (P:Program) (w:World) (K:Fr) (mg:Str->Option Value) (base:Heap) (n:Nat) (T:Tb):Prop where
 gs:∀p∈T.gs,wF P w K mg base T.C (·<=n) K p.1 p.2
 ms:∀p∈T.ms,qi P w K mg base T.C (·<=n) K p.1 p.2
 cl:Cls K T.C
 fl:∀f∈T.fl,Y4 K T.C f
section
variable {P:Program} {w:World} {K:Fr} {mg:Str->Option Value} {base:Heap} {f C:Addr} {fd:FuncData} {n:Nat} {T:Tb} {d:De} {g:GI} {x:Str}
theorem wF.mono{r r':Nat->Prop}(m:∀k,r k->r' k)(h:wF P w K mg base C r K x g):wF P w K mg base C r' K x g:=by
 cases g with
 | con i=>exact h
 | blt=>exact h
 | fE k ps ks F=>exact⟨h.1,m _ h.2⟩
 | fF k ps ks F=>exact⟨h.1,m _ h.2⟩
 | mk k ps ks F G=>exact⟨h.1,h.2.1,m _ h.2.2⟩
 | fL k ps F=>exact⟨h.1,m _ h.2⟩
theorem qi.mono{r r':Nat->Prop}(m:∀k,r k->r' k)(h:qi P w K mg base C r K x g):qi P w K mg base C r' K x g:=by
 cases g with
 | con i=>exact h
 | blt=>exact h
 | fE k ps ks F=>exact⟨h.1,m _ h.2⟩
 | fF k ps ks F=>exact⟨h.1,m _ h.2⟩
 | mk k ps ks F G=>exact h
 | fL k ps F=>exact h
theorem TOk.mono{m:Nat}(h:TOk P w K mg base n T)(l:n<=m):TOk P w K mg base m T:=
 ⟨fun p hp=>(h.gs p hp).mono fun _ z=>wSa z l,fun p hp=>(h.ms p hp).mono fun _ z=>wSa z l,h.cl,h.fl⟩
theorem UP{α:Type}{x:Str}{g:α}:∀{l:List (Str×α)},l.lookup x=some g->(x,g)∈l
 | [],h=>by cases h
 | (y,g')::r,h=>by
  rw[List.lookup_cons]at h;split at h
  ·rename_i e;cases h;rw[eq_of_beq e];exact wNa
  ·exact wMa _ (UP h)
theorem DR{kF:Bool}{cdv:Value}{A:Around}{outer:List Env}{s:Shared}{H:Hp}{E:XK}(h:TOk P w K mg base n T)(S:FnScope (d.ps++d.lo) d.ps (defScope d.st))(hr:Room n (A.deeper (envOfC d.q (defScope d.st) s.heap.objs.size f cdv))):
  OkX K (gm T d kF) (zX Y5 P w K mg base (d.ps++d.lo) d.q (defScope d.st) f cdv A outer s H E).nox where
 n:=rfl
 sc:=rfl
 nd:=S.nd
 calm:=rfl
 k:=rfl
 room:=hr.mono (Nat.zero_le _)
 fn:=fun _ _=>rfl
 gs:=fun x g e=>(h.gs _ (UP e)).mono fun k z=>hr.mono z
 ms:=fun x g e=>(h.ms _ (UP e)).mono fun k z=>hr.mono z
 cl:=h.cl
 fl:=fun f e=>h.fl f (List.contains_iff_mem.mp e)
theorem GN{kF:Bool}{b:DS.DS}{cdv:Value}{A:Around}{outer:List Env}{s:Shared}{H:Hp}{E:XK}(h:TOk P w K mg base n T)(c:kK T d kF=some b)(hr:Room n (A.deeper (envOfC d.q (defScope d.st) s.heap.objs.size f cdv))):
  Jc (zX Y5 P w K mg base (d.ps++d.lo) d.q (defScope d.st) f cdv A outer s H E).nox (defBody d.st) (tS K b):=by
 obtain⟨c1,c2⟩:=je c;exact Qg (U6 30) (DR h (Vt c1) hr) PassesOwn.never 30 c2
theorem DU(h:TOk P w K mg base n T)(F:Fun K d.x d.q d.st f fd)(c:kK T d false=some d.b)(hk:d.ks.length=d.ps.length):FnOk P w K mg base Y5 (n+1) f fd d.ps (ky K d.ks (J7 d.ks d.lo.length d.b)):=
 HX F (Vt (je c).1) hk (by simp) fun cdv A outer s H E hr=>GN h c hr
theorem Iq(h:TOk P w K mg base n T)(F:Fun K d.x d.q d.st f fd)(c:kK T d true=some d.b)(hk:d.ks.length=d.ps.length):FnOk P w K mg base Y5 (n+1) f fd d.ps (WV K d.ks (kC d.ks d.lo.length d.b)):=
 HY F (Vt (je c).1) hk (by simp) fun cdv A outer s H E hr=>GN h c hr
theorem Ir(h:TOk P w K mg base n T)(F:Fun K d.x d.q d.st f fd)(c:kK T d false=some d.b)(hk:d.ks.length+1=d.ps.length):FnOk P w K mg base Y5 (n+1) f fd d.ps (Ax K C d.ks (xc C d.ks d.lo.length d.b)):=
 HZ F (Vt (je c).1) hk (by simp) fun cdv A outer s H E hr=>GN h c hr
theorem kH{m:Nat}(h:TOk P w K mg base n T)(F:Fun K d.x d.q d.st f fd)(c:aE T d=some d.b)(hm:m+2=d.ps.length):FnOk P w K mg base Y5 (n+1) f fd d.ps (xt K (wz m d.lo.length d.b)):=
 i4 F (Vt (je c).1) hm (by simp) fun cdv A outer s H E hr=>xJ (U6 30) (DR h (Vt (je c).1) hr) (fun _ _ q=>Qg (U6 30) (DR h (Vt (je c).1) hr) PassesOwn.never 30 q) PassesOwn.never (je c).2
def At(K:Fr)(x q:Str)(st:Stmt):Prop:=∃f fd,W.nsIn K mainGlobals x=some (some (.ref f))/\Fun K x q st f fd
def xK(K:Fr)(C:Addr)(x q:Str)(st:Stmt):Prop:=∃f fd,W.findIn K (.ref C) x=some (some (.ref f))/\W.isFn K (.ref f)=true/\Fun K x q st f fd
theorem Qh{q:Str}{st:Stmt}(a:W.nsIn K mainGlobals x=some (some (.ref f)))(F:Fun K x q st f fd):At K x q st:=⟨f,fd,a,F⟩
theorem xL{q:Str}{st:Stmt}(a:W.findIn K (.ref C) x=some (some (.ref f)))(i:W.isFn K (.ref f)=true)(F:Fun K x q st f fd):xK K C x q st:=⟨f,fd,a,i,F⟩
def G0(K:Fr)(x:Str):GI->Prop
 | .con i=>∃t,W.nsIn K mainGlobals x=some (some (.int i t))
 | .blt=>W.nsIn K mainGlobals x=some none
 | _=>False
theorem FY{α:Type}{p:α->Prop}:∀x∈([]:List α),p x:=fun _ h=>by cases h
theorem yK{α:Type}{p:α->Prop}{a:α}{l:List α}(h:p a)(t:∀x∈l,p x):∀x∈a::l,p x:=fun x hx=>by
 rcases List.mem_cons.mp hx with rfl | hx
 ·exact h
 ·exact t x hx
theorem Fh{rm:Nat->Prop}(XG:∀x v,W.nsIn K mainGlobals x=some (some v)->mg x=some v)(XN:∀x,W.nsIn K mainGlobals x=some none->mg x=none)(h:G0 K x g):wF P w K mg base C rm K x g:=by
 cases g with
 | con i=>obtain⟨t,h⟩:=h;exact⟨t,XG _ _ h⟩
 | blt=>exact XN _ h
 | _=>exact h.elim
noncomputable def Tb.ag(T:Tb)(x:Str)(i:GI):Tb:={ T with gs:=(x,i)::T.gs }
noncomputable def Tb.am(T:Tb)(x:Str)(i:GI):Tb:={ T with ms:=(x,i)::T.ms }
theorem TOk.ag{m:Nat}(h:TOk P w K mg base n T)(l:n<=m)(q:wF P w K mg base T.C (·<=m) K x g):TOk P w K mg base m (T.ag x g):=
 ⟨fun p hp=>by
  rcases List.mem_cons.mp hp with rfl | hp
  ·exact q
  ·exact(h.mono l).gs p hp,(h.mono l).ms,h.cl,h.fl⟩
theorem TOk.am{m:Nat}(h:TOk P w K mg base n T)(l:n<=m)(q:qi P w K mg base T.C (·<=m) K x g):TOk P w K mg base m (T.am x g):=
 ⟨(h.mono l).gs,fun p hp=>by
  rcases List.mem_cons.mp hp with rfl | hp
  ·exact q
  ·exact(h.mono l).ms p hp,h.cl,h.fl⟩
def De.E(d:De)(n:Nat):GI:=.fE (n+1) d.ps d.ks (J7 d.ks d.lo.length d.b)
def De.F(d:De)(n:Nat):GI:=.fF (n+1) d.ps d.ks (kC d.ks d.lo.length d.b)
structure Ck (T:Tb) (d:De) (kF:Bool):Prop where
 c:kK T d kF=some d.b
 k:(d.ks.length==d.ps.length)=true
 b:Bd d.x d.q d.st d.ps
variable (XG:∀x v,W.nsIn K mainGlobals x=some (some v)->mg x=some v)
include XG
theorem TOk.E(h:TOk P w K mg base n T)(a:At K d.x d.q d.st)(c:Ck T d false):TOk P w K mg base (n+2) (T.ag d.x (d.E n)):=by
 obtain⟨f,fd,a1,F⟩:=a;exact h.ag (vKa _ _) ⟨⟨f,fd,DU h F c.c (vLa c.k),F.binds c.b,F.kp,XG _ _ a1⟩,vMa _⟩
theorem TOk.F(h:TOk P w K mg base n T)(a:At K d.x d.q d.st)(c:Ck T d true):TOk P w K mg base (n+2) (T.ag d.x (d.F n)):=by
 obtain⟨f,fd,a1,F⟩:=a;exact h.ag (vKa _ _) ⟨⟨f,fd,Iq h F c.c (vLa c.k),F.binds c.b,F.kp,XG _ _ a1⟩,vMa _⟩
theorem TOk.L{m:Nat}(h:TOk P w K mg base n T)(a:At K d.x d.q d.st)(c:aE T d=some d.b)(hm:m+2=d.ps.length)(b:Bd d.x d.q d.st d.ps):TOk P w K mg base (n+2) (T.ag d.x (.fL (n+1) d.ps (wz m d.lo.length d.b))):=by
 obtain⟨f,fd,a1,F⟩:=a;exact h.ag (vKa _ _) ⟨⟨f,fd,kH h F c hm,F.binds b,F.kp,XG _ _ a1⟩,vMa _⟩
omit XG in
theorem TOk.mE(h:TOk P w K mg base n T)(a:xK K T.C d.x d.q d.st)(c:Ck T d false)(k:d.ks=[false]):TOk P w K mg base (n+2) (T.am d.x (d.E n)):=by
 obtain⟨f,fd,a1,a2,F⟩:=a;exact h.am (vKa _ _) ⟨⟨f,fd,k▸DU h F c.c (vLa c.k),F.binds c.b,⟨a1,a2,F.kp⟩⟩,vMa _⟩
theorem TOk.I{x:Str}{G:List D->Option OD}(h:TOk P w K mg base n T)(a:xK K T.C d.x d.q d.st)(hx:d.x = "__init__")(c:kK T d false=some d.b)(k:(d.ks.length+1==d.ps.length)=true)(b:Bd d.x d.q d.st d.ps)(mk:W.makesIn K T.C=true)(kc:W.keepIn K (.ref T.C)=true)
  (aC:W.nsIn K mainGlobals x=some (some (.ref T.C))) (hG:∀p ds o,G ds=some o->xc T.C d.ks d.lo.length d.b p ds=some o):TOk P w K mg base (n+2) (T.ag x (.mk (n+1) d.ps d.ks (xc T.C d.ks d.lo.length d.b) G)):=by
 obtain⟨f,fd,a1,a2,F⟩:=a;refine h.ag (vKa _ _) ⟨⟨f,fd,Ir h F c (vLa k),F.binds b,⟨mk,?_,a2,kc⟩,XG _ _ aC⟩,hG,wPa _⟩;rw[hx]at a1;exact a1
end
end CP
namespace DS
open PySem L2
theorem JF{g:DG}{s:DS}{items:List D}(I:Nat->j9->Prop)(h:∀i d ρ,items[i]?=some d->I i ρ->∃ρ1 ρ2,g d ρ=some ρ1/\s ρ1=some (.nx ρ2)/\I (i+1) ρ2):∀{ρ:j9},I 0 ρ->∃ρ',jS g s items ρ=some (.nx ρ')/\I items.length ρ':=by
 induction items generalizing I with
 | nil=>intro ρ h0;exact⟨ρ,rfl,h0⟩
 | cons d ds ih=>
  intro ρ h0;obtain⟨ρ1,ρ2,e1,e2,i2⟩:=h 0 d ρ rfl h0;obtain⟨ρ',e3,i3⟩:=ih (fun i=>I (i+1)) (fun i d' ρ hd hi=>h (i+1) d' ρ (by simpa using hd) hi) i2;exact⟨ρ',by rw[jS,e1];show(s ρ1).bind _=_;rw[e2];exact e3,i3⟩
theorem ZC{g:DG}{s:DS}{items:List D}(I:j9->Prop)(p:D->Bool)(r:Rs)(hr:(∃d,r=.rt d)∨∃o,r=.rf o)(h:∀d∈items,∀ρ,I ρ->∃ρ1,g d ρ=some ρ1/\((p d=true/\s ρ1=some r)∨(p d=false/\∃ρ2,s ρ1=some (.nx ρ2)/\I ρ2))):∀{ρ:j9},I ρ->
  (items.any p=true/\jS g s items ρ=some r)∨(items.any p=false/\∃ρ',I ρ'/\jS g s items ρ=some (.nx ρ')):=by
 induction items with
 | nil=>intro ρ h0;exact .inr ⟨rfl,ρ,h0,rfl⟩
 | cons d ds ih=>
  intro ρ h0;obtain⟨ρ1,e1,z⟩:=h d wNa ρ h0;rcases z with⟨hp,e2⟩ | ⟨hp,ρ2,e2,i2⟩
  ·refine .inl ⟨by rw[List.any_cons,hp];rfl,?_⟩;rw[jS,e1];show(s ρ1).bind _=_;rw[e2];rcases hr with⟨d,rfl⟩ | ⟨o,rfl⟩ <;> rfl
  ·rcases ih (fun d' hd=>h d' (wMa _ hd)) i2 with⟨a1,a2⟩ | ⟨a1,ρ',a2,a3⟩
   ·refine .inl ⟨by rw[List.any_cons,a1,Bool.or_true],?_⟩;rw[jS,e1];show(s ρ1).bind _=_;rw[e2];exact a2
   ·refine .inr ⟨by rw[List.any_cons,hp,a1];rfl,ρ',a2,?_⟩;rw[jS,e1];show(s ρ1).bind _=_;rw[e2];exact a3
theorem Vu{g:DG}{s:DS}{items:List D}{r:Rs}(I:Nat->j9->Prop)(Z:Nat->Rs->Prop)(h:∀i d ρ,items[i]?=some d->I i ρ->∃ρ1,g d ρ=some ρ1/\((∃ρ2,s ρ1=some (.nx ρ2)/\I (i+1) ρ2)∨∃d',s ρ1=some (.rt d')/\Z i (.rt d'))):∀{ρ:j9},I 0 ρ->(∃ρ',jS g s items ρ=some (.nx ρ')/\I items.length ρ')∨∃i d',i < items.length/\jS g s items ρ=some (.rt d')/\Z i (.rt d'):=by
 induction items generalizing I Z with
 | nil=>intro ρ h0;exact .inl ⟨ρ,rfl,h0⟩
 | cons d ds ih=>
  intro ρ h0;obtain⟨ρ1,e1,z⟩:=h 0 d ρ rfl h0;rcases z with⟨ρ2,e2,i2⟩ | ⟨d',e2,z⟩
  ·rcases ih (fun i=>I (i+1)) (fun i=>Z (i+1)) (fun i d' ρ hd hi=>h (i+1) d' ρ (by simpa using hd) hi) i2 with⟨ρ',e3,i3⟩ | ⟨i,d',hi,e3,z⟩
   ·exact .inl ⟨ρ',by rw[jS,e1];show(s ρ1).bind _=_;rw[e2];exact e3,i3⟩
   ·exact .inr ⟨i+1,d',by simpa using hi,by rw[jS,e1];show(s ρ1).bind _=_;rw[e2];exact e3,z⟩
  ·exact .inr ⟨0,d',by simp,by simp[jS,e1,e2],z⟩
theorem Jk{α:Type}{g:DG}{dc:DT}{de:DE}{ρ:j9}(em:α->D)(f:α->D):∀{xs:List α},(∀x∈xs,∃ρ1,g (em x) ρ=some ρ1/\dc ρ1=some true/\de ρ1=some (f x))->JD g dc de (xs.map em) ρ=some (xs.map f)
 | [],_=>rfl
 | x::xs,h=>by
  obtain⟨ρ1,e1,e2,e3⟩:=h x wNa;have ih:=Jk em f (xs:=xs) fun y hy=>h y (wMa _ hy);simp[JD,e1,e2,e3,ih]
theorem Um{α:Type}{g:DG}{dc:DT}{de:DE}{ρ:j9}(em:α->D)(p:α->Bool)(f:α->D):∀{xs:List α},(∀x∈xs,∃ρ1,g (em x) ρ=some ρ1/\dc ρ1=some (p x)/\de ρ1=some (f x))->JD g dc de (xs.map em) ρ=some ((xs.filter p).map f)
 | [],_=>rfl
 | x::xs,h=>by
  obtain⟨ρ1,e1,e2,e3⟩:=h x wNa;have ih:=Um em p f (xs:=xs) fun y hy=>h y (wMa _ hy);cases hp:p x <;> simp[JD,e1,e2,e3,ih,hp]
theorem wJ{dt:DT}{s:DS}(I:j9->Prop)(m:j9->Nat)(h:∀ρ,I ρ->dt ρ=some false∨(dt ρ=some true/\∃ρ2,s ρ=some (.nx ρ2)/\I ρ2/\m ρ2 < m ρ)):∀{n:Nat} {ρ:j9},I ρ->m ρ < n->∃ρ',uq dt s n ρ=some (.nx ρ')/\I ρ'/\dt ρ'=some false
 | 0,ρ,_,hn=>vDa hn (Nat.not_lt_zero _)
 | n+1,ρ,hi,hn=>by
  rcases h ρ hi with e | ⟨e,ρ2,e2,i2,hm⟩
  ·exact⟨ρ,by simp[uq,e],hi,e⟩
  ·obtain⟨ρ',e3,i3,f3⟩:=wJ I m h (n:=n) i2 (by omega);exact⟨ρ',by simp[uq,e,e2,e3],i3,f3⟩
noncomputable def t3(t:T3):D:=.tup [.int t.1,.int t.2.1,.int t.2.2]
structure Bk where
 size:Int
 kinds:List T3
 shuns:List T3
 bars:List T3
 dues:List T3
noncomputable def jf(b:Bk):D:=.tup [.int b.size,.lst (b.kinds.map t3),.lst (b.shuns.map t3),.lst (b.bars.map t3),.lst (b.dues.map t3)]
noncomputable def jz(C:Addr)(b:Bk):D:=.ins C ["size", "kind_rows", "shun_rows", "bar_rows", "due_rows"] [.int b.size,.tup (b.kinds.map t3),.tup (b.shuns.map t3),.tup (b.bars.map t3),.tup (b.dues.map t3)]
structure Sd where
 place:Int
 kind:Int
 len:Int
 before:Int
 waits:List Int
 met:List Bool
noncomputable def j0(s:Sd):D:=.tup [.int s.place,.int s.kind,.int s.len,.int s.before,.tup (s.waits.map .int),.tup (s.met.map .bl)]
noncomputable def Zf(ks:List T3)(k:Int):T3:=ks.getD k.toNat (0,0,0)
theorem ZD{α:Type}{xs:List α}{k:Int}{x:α}(h0:0<=k)(h:xs[k.toNat]?=some x):atI xs k=some x:=by
 have hk:=(List.getElem?_eq_some_iff.mp h).1;unfold atI yt;rw[if_pos h0,if_pos (by omega)];exact h
theorem yR{α β:Type}{f:α->β}{xs:List α}{k:Int}{d:α}(h0:0<=k)(h1:k < (xs.length:Int)):atI (xs.map f) k=some (f (xs.getD k.toNat d)):=by
 have hk:k.toNat < xs.length:=by omega
 refine ZD h0 ?_;rw[List.getElem?_map,List.getD_eq_getElem?_getD,List.getElem?_eq_getElem hk];rfl
theorem zo{ks:List T3}{k:Int}(h0:0<=k)(h1:k < (ks.length:Int)):atI (ks.map t3) k=some (t3 (Zf ks k)):=yR h0 h1
theorem G8{n:Nat}{k:Int}(h0:0<=k)(h1:k < (n:Int)):yt n k=some k.toNat:=by unfold yt;rw[if_pos h0,if_pos h1]
theorem jq{n:Nat}(h:n<=10000):n < sizeLine:=wRa h (by decide)
noncomputable def fK(t:T3):Bool:=decide (1<=t.1)&&(decide (t.1<=t.2.1)&&(decide (t.2.1<=4)&&(decide (0<=t.2.2)&&decide (t.2.2<=4))))
noncomputable def fS(m:Int)(t:T3):Bool:=decide (0<=t.1)&&(decide (t.1 < m)&&(decide (0<=t.2.1)&&(decide (t.2.1 < m)&&(decide (1<=t.2.2)&&decide (t.2.2<=2)))))
noncomputable def fB(m s:Int)(t:T3):Bool:=decide (0<=t.1)&&(decide (t.1 < m)&&(decide (1<=t.2.1)&&(decide (t.2.1<=t.2.2)&&decide (t.2.2<=s))))
noncomputable def fC(s k h b d:Int):Bool:=decide (1<=s)&&(decide (s<=30)&&(decide (1<=k)&&(decide (k<=4)&&(decide (h<=20)&&(decide (b<=12)&&decide (d<=3))))))
noncomputable def fR(s:Int)(k h b d:List T3):Bool:=k.all fK&&(h.all (fS k.length)&&(b++d).all (fB k.length s))
noncomputable def wK(b:Bk):Bool:=fC b.size b.kinds.length b.shuns.length b.bars.length b.dues.length&&fR b.size b.kinds b.shuns b.bars b.dues
noncomputable def uB(C:Addr)(b:Bk):OD:=.ins C ["size", "kind_rows", "shun_rows", "bar_rows", "due_rows"] [.int b.size,.tup (b.kinds.map t3),.tup (b.shuns.map t3),.tup (b.bars.map t3),.tup (b.dues.map t3)]
noncomputable def b9:D->Option T3
 | .tup [.int x,.int y,.int z]=>some (x,y,z)
 | _=>none
def GO:List D->Option (List T3)
 | []=>some []
 | d::l=>(b9 d).bind fun t=>(GO l).bind fun ts=>some (t::ts)
theorem DV(t:T3):b9 (t3 t)=some t:=rfl
theorem wL:∀ts:List T3,GO (ts.map t3)=some ts
 | []=>rfl
 | t::ts=>by rw[List.map_cons,GO,DV,wL ts];rfl
theorem DW{d:D}{t:T3}(h:b9 d=some t):d=t3 t:=by
 cases d with
 | tup l=>
  rcases l with _ | ⟨a,_ | ⟨b,_ | ⟨c,_ | ⟨e,r⟩⟩⟩⟩ <;> try cases h
  all_goals (cases a <;> try cases h)
  all_goals (cases b <;> try cases h)
  all_goals (cases c <;> try cases h)
  rfl
 | _=>cases h
theorem qk:∀{l:List D} {ts:List T3},GO l=some ts->l=ts.map t3
 | [],_,h=>by cases h;rfl
 | d::l,ts,h=>by
  rw[GO]at h;obtain⟨t,e1,h⟩:=j1 h;obtain⟨r,e2,h⟩:=j1 h;cases h;rw[List.map_cons,<-DW e1,<-qk e2]
noncomputable def gI:D->Option Int
 | .int s=>some s
 | _=>none
def gL:D->Option (List T3)
 | .lst l=>GO l
 | _=>none
theorem Fi{d:D}{s:Int}(h:gI d=some s):d=.int s:=by
 cases d <;> cases h;rfl
theorem Kq{d:D}{ts:List T3}(h:gL d=some ts):d=.lst (ts.map t3):=by
 cases d with
 | lst l=>rw[qk h]
 | _=>cases h
def GP(C:Addr):List D->Option OD
 | [s,k,h,b,d]=>(gI s).bind fun s=>(gL k).bind fun k'=>(gL h).bind fun h'=>(gL b).bind fun b'=>(gL d).bind fun d'=>if wK ⟨s,k',h',b',d'⟩=true then some (uB C ⟨s,k',h',b',d'⟩)else none
 | _=>none
theorem DX{C:Addr}{ds:List D}{o:OD}(h:GP C ds=some o):∃b:Bk,wK b=true/\ds=[.int b.size,.lst (b.kinds.map t3),.lst (b.shuns.map t3),.lst (b.bars.map t3),.lst (b.dues.map t3)]/\uB C b=o:=by
 rcases ds with _ | ⟨s,_ | ⟨k,_ | ⟨hh,_ | ⟨b,_ | ⟨d,_ | ⟨e,r⟩⟩⟩⟩⟩⟩ <;> try cases h
 have h:((gI s).bind fun s=>(gL k).bind fun k'=>(gL hh).bind fun h'=>(gL b).bind fun b'=>(gL d).bind fun d'=>if wK ⟨s,k',h',b',d'⟩=true then some (uB C ⟨s,k',h',b',d'⟩)else none)=some o:=h;obtain⟨s0,e0,h⟩:=j1 h;obtain⟨k',e1,h⟩:=j1 h;obtain⟨h',e2,h⟩:=j1 h;obtain⟨b',e3,h⟩:=j1 h;obtain⟨d',e4,h⟩:=j1 h;by_cases ok:wK ⟨s0,k',h',b',d'⟩=true
 ·rw[if_pos ok]at h;rw[Fi e0,Kq e1,Kq e2,Kq e3,Kq e4];exact⟨_,ok,rfl,vFa h⟩
 ·rw[if_neg ok]at h;cases h
@[simp] theorem Iu(s:Sd):jb (j0 s) (.int 0)=some (.int s.place):=rfl
@[simp] theorem Iv(s:Sd):jb (j0 s) (.int 1)=some (.int s.kind):=rfl
@[simp] theorem Iw(s:Sd):jb (j0 s) (.int 2)=some (.int s.len):=rfl
@[simp] theorem Ix(s:Sd):jb (j0 s) (.int 3)=some (.int s.before):=rfl
@[simp] theorem Iy(s:Sd):jb (j0 s) (.int 4)=some (.tup (s.waits.map .int)):=rfl
@[simp] theorem Iz(s:Sd):jb (j0 s) (.int 5)=some (.tup (s.met.map .bl)):=rfl
@[simp] theorem IM(t:T3):jb (t3 t) (.int 0)=some (.int t.1):=rfl
@[simp] theorem IO(t:T3):jb (t3 t) (.int 1)=some (.int t.2.1):=rfl
@[simp] theorem IP(t:T3):jb (t3 t) (.int 2)=some (.int t.2.2):=rfl
@[simp] theorem IQ(b:Bk):jb (jf b) (.int 0)=some (.int b.size):=rfl
@[simp] theorem IR(b:Bk):jb (jf b) (.int 1)=some (.lst (b.kinds.map t3)):=rfl
@[simp] theorem IS(b:Bk):jb (jf b) (.int 2)=some (.lst (b.shuns.map t3)):=rfl
@[simp] theorem IT(b:Bk):jb (jf b) (.int 3)=some (.lst (b.bars.map t3)):=rfl
@[simp] theorem IU(b:Bk):jb (jf b) (.int 4)=some (.lst (b.dues.map t3)):=rfl
@[simp] theorem IV(t:T3):ZY (t3 t)=false:=rfl
@[simp] theorem IA(s:Sd):ZY (j0 s)=false:=rfl
end DS
namespace M
open DS
@[simp high] theorem lK(a:Sl)(l:j9):(a::l)[0]?=some a:=rfl
@[simp high] theorem lL(a x:Sl)(l:j9):List.set (a::l) 0 x=x::l:=rfl
@[simp high] theorem lM(a b:Sl)(l:j9):(a::b::l)[1]?=some b:=rfl
@[simp high] theorem lN(a b x:Sl)(l:j9):List.set (a::b::l) 1 x=a::x::l:=rfl
@[simp high] theorem lP(a b c:Sl)(l:j9):(a::b::c::l)[2]?=some c:=rfl
@[simp high] theorem lQ(a b c x:Sl)(l:j9):List.set (a::b::c::l) 2 x=a::b::x::l:=rfl
@[simp high] theorem lR(a b c d:Sl)(l:j9):(a::b::c::d::l)[3]?=some d:=rfl
@[simp high] theorem lS(a b c d x:Sl)(l:j9):List.set (a::b::c::d::l) 3 x=a::b::c::x::l:=rfl
@[simp high] theorem lT(a b c d e:Sl)(l:j9):(a::b::c::d::e::l)[4]?=some e:=rfl
@[simp high] theorem lU(a b c d e x:Sl)(l:j9):List.set (a::b::c::d::e::l) 4 x=a::b::c::d::x::l:=rfl
@[simp high] theorem lV(a b c d e f:Sl)(l:j9):(a::b::c::d::e::f::l)[5]?=some f:=rfl
@[simp high] theorem lW(a b c d e f x:Sl)(l:j9):List.set (a::b::c::d::e::f::l) 5 x=a::b::c::d::e::x::l:=rfl
@[simp high] theorem lX(a b c d e f g:Sl)(l:j9):(a::b::c::d::e::f::g::l)[6]?=some g:=rfl
@[simp high] theorem lY(a b c d e f g x:Sl)(l:j9):List.set (a::b::c::d::e::f::g::l) 6 x=a::b::c::d::e::f::x::l:=rfl
@[simp high] theorem lZ(a b c d e f g h:Sl)(l:j9):(a::b::c::d::e::f::g::h::l)[7]?=some h:=rfl
@[simp high] theorem l_(a b c d e f g h x:Sl)(l:j9):List.set (a::b::c::d::e::f::g::h::l) 7 x=a::b::c::d::e::f::g::x::l:=rfl
@[simp high] theorem L0(a b c d e f g h i:Sl)(l:j9):(a::b::c::d::e::f::g::h::i::l)[8]?=some i:=rfl
@[simp high] theorem L4(a b c d e f g h i x:Sl)(l:j9):List.set (a::b::c::d::e::f::g::h::i::l) 8 x=a::b::c::d::e::f::g::h::x::l:=rfl
@[simp high] theorem L5(a b c d e f g h i j:Sl)(l:j9):(a::b::c::d::e::f::g::h::i::j::l)[9]?=some j:=rfl
@[simp high] theorem L6(a b c d e f g h i j x:Sl)(l:j9):List.set (a::b::c::d::e::f::g::h::i::j::l) 9 x=a::b::c::d::e::f::g::h::i::x::l:=rfl
@[simp high] theorem l5(a b c d e f g h i j k:Sl)(l:j9):(a::b::c::d::e::f::g::h::i::j::k::l)[10]?=some k:=rfl
@[simp high] theorem l6(a b c d e f g h i j k x:Sl)(l:j9):List.set (a::b::c::d::e::f::g::h::i::j::k::l) 10 x=a::b::c::d::e::f::g::h::i::j::x::l:=rfl
@[simp high] theorem l7(a b c d e f g h i j k m:Sl)(l:j9):(a::b::c::d::e::f::g::h::i::j::k::m::l)[11]?=some m:=rfl
@[simp high] theorem l8(a b c d e f g h i j k m x:Sl)(l:j9):List.set (a::b::c::d::e::f::g::h::i::j::k::m::l) 11 x=a::b::c::d::e::f::g::h::i::j::k::x::l:=rfl
@[simp high] theorem ld(a b c d e f g h i j k m n:Sl)(l:j9):(a::b::c::d::e::f::g::h::i::j::k::m::n::l)[12]?=some n:=rfl
@[simp high] theorem lg(a b c d e f g h i j k m n x:Sl)(l:j9):List.set (a::b::c::d::e::f::g::h::i::j::k::m::n::l) 12 x=a::b::c::d::e::f::g::h::i::j::k::m::x::l:=rfl
@[simp high] theorem li(a b c d e f g h i j k m n o:Sl)(l:j9):(a::b::c::d::e::f::g::h::i::j::k::m::n::o::l)[13]?=some o:=rfl
@[simp high] theorem lj(a b c d e f g h i j k m n o x:Sl)(l:j9):List.set (a::b::c::d::e::f::g::h::i::j::k::m::n::o::l) 13 x=a::b::c::d::e::f::g::h::i::j::k::m::n::x::l:=rfl
@[simp high] theorem ll(a b c d e f g h i j k m n o p:Sl)(l:j9):(a::b::c::d::e::f::g::h::i::j::k::m::n::o::p::l)[14]?=some p:=rfl
@[simp high] theorem lm(a b c d e f g h i j k m n o p x:Sl)(l:j9):List.set (a::b::c::d::e::f::g::h::i::j::k::m::n::o::p::l) 14 x=a::b::c::d::e::f::g::h::i::j::k::m::n::o::x::l:=rfl
@[simp high] theorem lq(a b c d e f g h i j k m n o p q:Sl)(l:j9):(a::b::c::d::e::f::g::h::i::j::k::m::n::o::p::q::l)[15]?=some q:=rfl
@[simp high] theorem lr(a b c d e f g h i j k m n o p q x:Sl)(l:j9):List.set (a::b::c::d::e::f::g::h::i::j::k::m::n::o::p::q::l) 15 x=a::b::c::d::e::f::g::h::i::j::k::m::n::o::p::x::l:=rfl
@[simp high] theorem lu(a b c d e f g h i j k m n o p q r:Sl)(l:j9):(a::b::c::d::e::f::g::h::i::j::k::m::n::o::p::q::r::l)[16]?=some r:=rfl
@[simp high] theorem lv(a b c d e f g h i j k m n o p q r x:Sl)(l:j9):List.set (a::b::c::d::e::f::g::h::i::j::k::m::n::o::p::q::r::l) 16 x=a::b::c::d::e::f::g::h::i::j::k::m::n::o::p::q::x::l:=rfl
@[simp high] theorem lw(a b c d e f g h i j k m n o p q r s:Sl)(l:j9):(a::b::c::d::e::f::g::h::i::j::k::m::n::o::p::q::r::s::l)[17]?=some s:=rfl
@[simp high] theorem lx(a b c d e f g h i j k m n o p q r s x:Sl)(l:j9):List.set (a::b::c::d::e::f::g::h::i::j::k::m::n::o::p::q::r::s::l) 17 x=a::b::c::d::e::f::g::h::i::j::k::m::n::o::p::q::r::x::l:=rfl
@[simp high] theorem ly(a b c d e f g h i j k m n o p q r s t:Sl)(l:j9):(a::b::c::d::e::f::g::h::i::j::k::m::n::o::p::q::r::s::t::l)[18]?=some t:=rfl
@[simp high] theorem lA(a b c d e f g h i j k m n o p q r s t x:Sl)(l:j9):List.set (a::b::c::d::e::f::g::h::i::j::k::m::n::o::p::q::r::s::t::l) 18 x=a::b::c::d::e::f::g::h::i::j::k::m::n::o::p::q::r::s::x::l:=rfl
@[simp high] theorem lB(a b c d e f g h i j k m n o p q r s t u:Sl)(l:j9):(a::b::c::d::e::f::g::h::i::j::k::m::n::o::p::q::r::s::t::u::l)[19]?=some u:=rfl
@[simp high] theorem lC(a b c d e f g h i j k m n o p q r s t u x:Sl)(l:j9):List.set (a::b::c::d::e::f::g::h::i::j::k::m::n::o::p::q::r::s::t::u::l) 19 x=a::b::c::d::e::f::g::h::i::j::k::m::n::o::p::q::r::s::t::x::l:=rfl
@[simp high] theorem lD(a b c d e f g h i j k m n o p q r s t u v:Sl)(l:j9):(a::b::c::d::e::f::g::h::i::j::k::m::n::o::p::q::r::s::t::u::v::l)[20]?=some v:=rfl
@[simp high] theorem lE(a b c d e f g h i j k m n o p q r s t u v x:Sl)(l:j9):List.set (a::b::c::d::e::f::g::h::i::j::k::m::n::o::p::q::r::s::t::u::v::l) 20 x=a::b::c::d::e::f::g::h::i::j::k::m::n::o::p::q::r::s::t::u::x::l:=rfl
@[simp high] theorem lF(a b c d e f g h i j k m n o p q r s t u v w:Sl)(l:j9):(a::b::c::d::e::f::g::h::i::j::k::m::n::o::p::q::r::s::t::u::v::w::l)[21]?=some w:=rfl
@[simp high] theorem lG(a b c d e f g h i j k m n o p q r s t u v w x:Sl)(l:j9):List.set (a::b::c::d::e::f::g::h::i::j::k::m::n::o::p::q::r::s::t::u::v::w::l) 21 x=a::b::c::d::e::f::g::h::i::j::k::m::n::o::p::q::r::s::t::u::v::x::l:=rfl
@[elab_as_elim] theorem lH{α:Type}{motive:List α->Prop}(us:List α)(hl:us.length=0)(h:motive []):motive us:=by
 cases us with
 | nil=>exact h 
 | cons y us=>simp at hl
@[elab_as_elim] theorem wM{α:Type}{motive:List α->Prop}(us:List α)(hl:us.length=1)(h:∀x0,motive [x0]):motive us:=by
 cases us with
 | nil=>simp at hl
 | cons x0 us=>
  cases us with
  | nil=>exact h x0
  | cons y us=>simp at hl
@[elab_as_elim] theorem Yu{α:Type}{motive:List α->Prop}(us:List α)(hl:us.length=2)(h:∀x0 x1,motive [x0,x1]):motive us:=by
 cases us with
 | nil=>simp at hl
 | cons x0 us=>
  cases us with
  | nil=>simp at hl
  | cons x1 us=>
   cases us with
   | nil=>exact h x0 x1
   | cons y us=>simp at hl
@[elab_as_elim] theorem Yc{α:Type}{motive:List α->Prop}(us:List α)(hl:us.length=3)(h:∀x0 x1 x2,motive [x0,x1,x2]):motive us:=by
 cases us with
 | nil=>simp at hl
 | cons x0 us=>
  cases us with
  | nil=>simp at hl
  | cons x1 us=>
   cases us with
   | nil=>simp at hl
   | cons x2 us=>
    cases us with
    | nil=>exact h x0 x1 x2
    | cons y us=>simp at hl
@[elab_as_elim] theorem wN{α:Type}{motive:List α->Prop}(us:List α)(hl:us.length=4)(h:∀x0 x1 x2 x3,motive [x0,x1,x2,x3]):motive us:=by
 cases us with
 | nil=>simp at hl
 | cons x0 us=>
  cases us with
  | nil=>simp at hl
  | cons x1 us=>
   cases us with
   | nil=>simp at hl
   | cons x2 us=>
    cases us with
    | nil=>simp at hl
    | cons x3 us=>
     cases us with
     | nil=>exact h x0 x1 x2 x3
     | cons y us=>simp at hl
@[elab_as_elim] theorem DY{α:Type}{motive:List α->Prop}(us:List α)(hl:us.length=5)(h:∀x0 x1 x2 x3 x4,motive [x0,x1,x2,x3,x4]):motive us:=by
 cases us with
 | nil=>simp at hl
 | cons x0 us=>
  cases us with
  | nil=>simp at hl
  | cons x1 us=>
   cases us with
   | nil=>simp at hl
   | cons x2 us=>
    cases us with
    | nil=>simp at hl
    | cons x3 us=>
     cases us with
     | nil=>simp at hl
     | cons x4 us=>
      cases us with
      | nil=>exact h x0 x1 x2 x3 x4
      | cons y us=>simp at hl
@[elab_as_elim] theorem i9{α:Type}{motive:List α->Prop}(us:List α)(hl:us.length=6)(h:∀x0 x1 x2 x3 x4 x5,motive [x0,x1,x2,x3,x4,x5]):motive us:=by
 cases us with
 | nil=>simp at hl
 | cons x0 us=>
  cases us with
  | nil=>simp at hl
  | cons x1 us=>
   cases us with
   | nil=>simp at hl
   | cons x2 us=>
    cases us with
    | nil=>simp at hl
    | cons x3 us=>
     cases us with
     | nil=>simp at hl
     | cons x4 us=>
      cases us with
      | nil=>simp at hl
      | cons x5 us=>
       cases us with
       | nil=>exact h x0 x1 x2 x3 x4 x5
       | cons y us=>simp at hl
@[elab_as_elim] theorem lI{α:Type}{motive:List α->Prop}(us:List α)(hl:us.length=7)(h:∀x0 x1 x2 x3 x4 x5 x6,motive [x0,x1,x2,x3,x4,x5,x6]):motive us:=by
 cases us with
 | nil=>simp at hl
 | cons x0 us=>
  cases us with
  | nil=>simp at hl
  | cons x1 us=>
   cases us with
   | nil=>simp at hl
   | cons x2 us=>
    cases us with
    | nil=>simp at hl
    | cons x3 us=>
     cases us with
     | nil=>simp at hl
     | cons x4 us=>
      cases us with
      | nil=>simp at hl
      | cons x5 us=>
       cases us with
       | nil=>simp at hl
       | cons x6 us=>
        cases us with
        | nil=>exact h x0 x1 x2 x3 x4 x5 x6
        | cons y us=>simp at hl
end M
noncomputable section
namespace M
open PySem L2 DS
noncomputable def YK:DS.DG:=(gN 6)
def JS(C:Addr):DS.DS:=(ji (jj (d2 Ui (dV 5) (dK (.int 0)))) (j5 (yj 2 (d2 jI (dV 5) (dK (.int 1009))))
 (jl 5 (d2 KN (dV 5) (dK (.int 1009))))) js)
noncomputable def yA:DS.DG:=(gN 4)
def yB(C:Addr):DS.DS:=(j5 (jl 3 (d2 jI (d2 jk (d2 jk (d2 yx (dV 3) (dK (.int 48271))) (d2 jI (dV 4) (dK (.int 1000003)))) (dK (.int 11))) (dK (.int 2147483647))))
 (j5 (jl 5 (d2 Z1 (dV 4) (d2 XV (dK (.int 10)) (dK (.int 18)))))
 (j5 (ji (jj (d2 VP (dV 5) (dK (.int 0)))) (yj 2 (d2 jI (dV 4) (dK (.int 9973)))) js)
 (Jv (yw (dK (.int 60))) YK (JS C)))))
def JT(C:Addr):DS.DT:=(jj (d2 VP (ja jU [(false,(dV 2))]) (dV 1)))
def YL(C:Addr):DS.DS:=(j5 (jl 3 (d2 jI (d2 jk (d2 jk (d2 jk (d2 yx (dV 3) (dV 3)) (d2 yx (dK (.int 69621)) (dV 3))) (d2 yx (dK (.int 7)) (ja jU [(false,(dV 2))]))) (dK (.int 5))) (dK (.int 2147483629))))
 (yj 2 (d2 jI (d2 KN (dV 3) (dK (.int 1013))) (dK (.int 9973)))))
def zp(C:Addr):DS.DS:=(j5 (yV 2 (jT []))
 (j5 (jl 3 (dK (.int 29)))
 (j5 (Jv (jR (dL (Jp (dV 0) (fun _=>some none) (fun ρ=>((dK (.int 63)) ρ).bind J4)))) yA (yB C))
 (j5 (uq (JT C) (YL C) 20000)
 (gF (Jp (dV 2) (fun _=>some none) (fun ρ=>((dV 1) ρ).bind J4)))))))
def zq(C:Addr):List D->Option OD:=kC [false,false] 5 (zp C)
noncomputable def ZE:DS.DG:=(gN 5)
def YM(C:Addr):DS.DS:=(j5 (jl 6 (d2 jk (dK (.int 1)) (d2 jI (d2 jb (dV 3) (d2 jk (d2 yx (dK (.int 3)) (dV 5)) (dK (.int 1)))) (dV 1))))
 (yj 4 (yv [(true,(d2 jI (d2 jb (dV 3) (d2 yx (dK (.int 3)) (dV 5))) (dV 0))),(true,(dC 6)),(true,(d2 jk (dV 6) (d2 jI (d2 jb (dV 3) (d2 jk (d2 yx (dK (.int 3)) (dV 5)) (dK (.int 2)))) (d2 jk (d2 Z1 (dV 1) (dV 6)) (dK (.int 1))))))])))
def zr(C:Addr):DS.DS:=(j5 (yV 4 (jT []))
 (j5 (Jv (yw (dV 2)) ZE (YM C))
 (v6 4)))
def Yo(C:Addr):List D->Option OD:=kC [false,false,false,false] 3 (zr C)
noncomputable def VR:DS.DG:=(gN 5)
def YE(C:Addr):DS.DS:=(j5 (jl 6 (d2 jk (dK (.int 1)) (d2 jb (dL (jT [(true,(dK (.int 0))),(true,(dK (.int 0))),(true,(dK (.int 1))),(true,(dK (.int 0))),(true,(dK (.int 2))),(true,(dK (.int 3))),(true,(dK (.int 1)))])) (d2 jI (d2 jb (dV 0) (d2 jk (dK (.int 2)) (dV 5))) (dK (.int 7))))))
 (j5 (jl 7 (d2 jb (dL (jT [(true,(dK (.int 0))),(true,(dK (.int 1))),(true,(dK (.int 2))),(true,(dK (.int 0))),(true,(dK (.int 3))),(true,(dK (.int 4))),(true,(dK (.int 1)))])) (d2 jI (d2 jb (dV 0) (d2 jk (dK (.int 10)) (dV 5))) (dK (.int 7)))))
 (j5 (ji (JX (Jh (jj (d2 jG (dV 2) (dK (.int 4)))) (jj (d2 Ui (dV 3) (dK (.int 6))))) (jj (d2 Ui (dV 3) (dK (.int 12))))) (jl 7 (d2 jI (dV 7) (dK (.int 3)))) js)
 (yj 4 (yv [(true,(dC 6)),(true,(d2 jk (dV 6) (d2 jI (d2 jb (dV 0) (d2 jk (dK (.int 6)) (dV 5))) (d2 Z1 (dK (.int 5)) (dV 6))))),(true,(dC 7))])))))
noncomputable def VS:DS.DG:=(gN 5)
def Z4(C:Addr):DS.DS:=(j5 (jl 9 (d2 jk (d2 jk (dK (.int 44)) (d2 yx (dK (.int 3)) (d2 jI (dV 5) (dK (.int 5))))) (d2 KN (dV 5) (dK (.int 5)))))
 (yj 8 (yv [(true,(d2 jI (d2 jb (dV 0) (dV 9)) (dV 2))),(true,(d2 jI (d2 jb (dV 0) (d2 jk (dV 9) (dK (.int 1)))) (dV 2))),(true,(d2 jk (dK (.int 1)) (d2 jI (d2 jb (dV 0) (d2 jk (dV 9) (dK (.int 2)))) (dK (.int 2)))))])))
def vz(C:Addr):DS.DS:=(j5 (jl 2 (d2 jb (dL (jT [(true,(dK (.int 2))),(true,(dK (.int 3))),(true,(dK (.int 3))),(true,(dK (.int 2))),(true,(dK (.int 1))),(true,(dK (.int 4))),(true,(dK (.int 3)))])) (d2 jI (d2 jb (dV 0) (dK (.int 0))) (dK (.int 7)))))
 (j5 (jl 3 (d2 jk (dK (.int 1)) (d2 jI (d2 jb (dV 0) (dK (.int 1))) (dV 1))))
 (j5 (yV 4 (jT []))
 (j5 (Jv (yw (dV 2)) VR (YE C))
 (j5 (yV 8 (jT []))
 (j5 (Jv (yw (d2 jb (dL (jT [(true,(dK (.int 0))),(true,(dK (.int 0))),(true,(dK (.int 1))),(true,(dK (.int 2))),(true,(dK (.int 3))),(true,(dK (.int 0))),(true,(dK (.int 20)))])) (d2 jI (d2 jb (dV 0) (dK (.int 14))) (dK (.int 7))))) VS (Z4 C))
 (j5 (jl 10 (dL (yY 1 [0] (yw (dK (.int 36))) (gN 0) jM (d2 jk (d2 jb (dV 1) (d2 jk (dK (.int 16)) (d2 jI (d2 yx (dK (.int 5)) (dV 0)) (dK (.int 9))))) (d2 yx (dK (.int 7)) (dV 0))))))
 (j5 (jl 11 (dL (JA (Yo C) [(false,(dV 2)),(false,(dV 3)),(false,(d2 jb (dL (jT [(true,(dK (.int 0))),(true,(dK (.int 1))),(true,(dK (.int 0))),(true,(dK (.int 2))),(true,(dK (.int 12))),(true,(dK (.int 0)))])) (d2 jI (d2 jb (dV 0) (dK (.int 15))) (dK (.int 6))))),(false,(dV 10))])))
 (j5 (jl 12 (d2 jb (dL (jT [(true,(dK (.int 0))),(true,(dK (.int 1))),(true,(dK (.int 0))),(true,(dK (.int 2))),(true,(dK (.int 3))),(true,(dK (.int 1)))])) (d2 jI (d2 jb (dV 0) (dK (.int 25))) (dK (.int 6)))))
 (j5 (ji (Jh (jj (d2 Ui (dV 3) (dK (.int 5)))) (jj (d2 Ui (dV 2) (dK (.int 2))))) (jl 12 (d2 jI (dV 12) (dK (.int 3)))) js)
 (V1 4 (V1 8 (jg (yv [(true,(dC 3)),(true,(dC 4)),(true,(dC 8)),(true,(dC 11)),(true,(dL (JA (Yo C) [(false,(dV 2)),(false,(dV 3)),(false,(dV 12)),(false,(dL (Jp (dV 0) (fun ρ=>((dK (.int 26)) ρ).bind J4) (fun ρ=>((dK (.int 35)) ρ).bind J4))))])))]))))))))))))))
def vA(C:Addr):List D->Option D:=J7 [false,false] 11 (vz C)
def Z5(C:Addr):DS.DS:=(j5 (ji (JX (Jl (jj (Jw JQ JQ (dK (.int 1)) (dV 0) (dK (.int 30))))) (Jl (jj (Jw JQ JQ (dK (.int 1)) (ja jU [(false,(dV 1))]) (dK (.int 4)))))) (jg (dK (.bl false))) js)
 (jg (yW (d2 JQ (ja jU [(false,(dV 2))]) (dK (.int 20))) (yW (d2 JQ (ja jU [(false,(dV 3))]) (dK (.int 12))) (d2 JQ (ja jU [(false,(dV 4))]) (dK (.int 3)))))))
def Z6(C:Addr):List D->Option D:=J7 [false,false,false,false,false] 0 (Z5 C)
def vB(C:Addr):DS.DS:=(j5 (ji (jj (d2 J6 (ja jU [(false,(dV 0))]) (dK (.int 3)))) (jg (dK (.bl false))) js)
 (j5 (ZB (dC 0) (gT 3 (gC (gN 1) (gC (gN 2) (gC (gN 3) gZ)))))
 (jg (yW (v_ JQ JQ JQ (dK (.int 1)) (dV 1) (dV 2) (dK (.int 4))) (Jw JQ JQ (dK (.int 0)) (dV 3) (dK (.int 4)))))))
def zI(C:Addr):List D->Option D:=J7 [true] 3 (vB C)
def vC(C:Addr):DS.DS:=(j5 (ji (jj (d2 J6 (ja jU [(false,(dV 0))]) (dK (.int 3)))) (jg (dK (.bl false))) js)
 (j5 (ZB (dC 0) (gT 3 (gC (gN 2) (gC (gN 3) (gC (gN 4) gZ)))))
 (jg (yW (Jw JQ VP (dK (.int 0)) (dV 2) (dV 1)) (yW (Jw JQ VP (dK (.int 0)) (dV 3) (dV 1)) (Jw JQ JQ (dK (.int 1)) (dV 4) (dK (.int 2))))))))
def zJ(C:Addr):List D->Option D:=J7 [true,false] 3 (vC C)
def vE(C:Addr):DS.DS:=(j5 (ji (jj (d2 J6 (ja jU [(false,(dV 0))]) (dK (.int 3)))) (jg (dK (.bl false))) js)
 (j5 (ZB (dC 0) (gT 3 (gC (gN 3) (gC (gN 4) (gC (gN 5) gZ)))))
 (jg (yW (Jw JQ VP (dK (.int 0)) (dV 3) (dV 1)) (v_ JQ JQ JQ (dK (.int 1)) (dV 4) (dV 5) (dV 2))))))
def zK(C:Addr):List D->Option D:=J7 [true,false,false] 3 (vE C)
def vF(C:Addr):DS.DS:=(j5 (jl 5 (ja jU [(false,(dV 1))]))
 (j5 (ji (Jl (Jg (ja ZA [(false,(dL (yY 1 [] (jR (dP 1)) (gN 0) jM (ja (zI C) [(true,(dC 0))]))))]))) (jg (dK (.bl false))) js)
 (j5 (ji (Jl (Jg (ja ZA [(false,(dL (yY 1 [5] (jR (dP 2)) (gN 0) jM (ja (zJ C) [(true,(dC 0)),(false,(dV 1))]))))]))) (jg (dK (.bl false))) js)
 (jg (ja ZA [(false,(dL (yY 1 [5,0] (jR (dL (kr vn (dV 3) (dV 4)))) (gN 0) jM (ja (zK C) [(true,(dC 0)),(false,(dV 1)),(false,(dV 2))]))))])))))
def vG(C:Addr):List D->Option D:=J7 [false,false,false,false,false] 1 (vF C)
def yC(C:Addr):DS.DS:=(j5 (ji (Jl (Jg (ja (Z6 C) [(false,(dV 1)),(false,(dV 2)),(false,(dV 3)),(false,(dV 4)),(false,(dV 5))]))) v5 js)
 (j5 (ji (Jl (Jg (ja (vG C) [(false,(dV 1)),(false,(dV 2)),(false,(dV 3)),(false,(dV 4)),(false,(dV 5))]))) v5 js)
 (j5 (Zh 0 C "size" (dC 1))
 (j5 (Zh 0 C "kind_rows" (ja JR [(false,(dV 2))]))
 (j5 (Zh 0 C "shun_rows" (ja JR [(false,(dV 3))]))
 (j5 (Zh 0 C "bar_rows" (ja JR [(false,(dV 4))]))
 (Zh 0 C "due_rows" (ja JR [(false,(dV 5))]))))))))
def yk(C:Addr):Addr->List D->Option OD:=xc C [true,false,false,false,false] 0 (yC C)
def JU(C:Addr):List D->Option OD:=DS.GP C
def vH(C:Addr):DS.DS:=(gF (Kj (JU C) [(true,(d2 jb (dV 0) (dK (.int 0)))),(false,(dL (JA Yn [(false,(d2 jb (dV 0) (dK (.int 1))))]))),(false,(dL (JA Yn [(false,(d2 jb (dV 0) (dK (.int 2))))]))),(false,(dL (JA Yn [(false,(d2 jb (dV 0) (dK (.int 3))))]))),(false,(dL (JA Yn [(false,(d2 jb (dV 0) (dK (.int 4))))])))]))
def vI(C:Addr):List D->Option OD:=kC [false] 0 (vH C)
def ZF(C:Addr):DS.DS:=(jg (yv [(true,(dK (.int 0))),(true,(yU (dK (.int 1)))),(true,(dK (.int 0))),(true,(yU (dK (.int 1)))),(true,(ja JR [(false,(dL (yY 1 [] (jR (d2 jb (dV 0) (dK (.int 1)))) (gN 0) jM (dK (.int 0)))))])),(true,(ja JR [(false,(dL (yY 1 [] (jR (d2 jb (dV 0) (dK (.int 4)))) (gN 0) jM (dK (.bl false)))))]))]))
def YZ(C:Addr):List D->Option D:=J7 [false] 0 (ZF C)
noncomputable def yD:DS.DG:=(gT 3 (gC (gN 7) (gC (gN 8) (gC (gN 9) gZ))))
def JM(C:Addr):DS.DS:=(ji (Jh (jj (d2 jG (dV 8) (dV 2))) (jj (d2 jG (d2 jb (dL (jT [(true,(dC 3)),(true,(dC 5))])) (d2 Z1 (dV 9) (dK (.int 1)))) (dV 7)))) (jg (dK (.bl true))) js)
def Yd(C:Addr):DS.DS:=(j5 (ZB (zD (dV 1) (fun ρ=>((dK (.int 1)) ρ).bind J4) (fun ρ=>((dK (.int 5)) ρ).bind J4)) (gT 4 (gC (gN 3) (gC (gN 4) (gC (gN 5) (gC (gN 6) gZ))))))
 (j5 (ji (Jh (jj (d2 jG (dV 2) (dV 3))) (jj (d2 KO (dV 4) (d2 jb (d2 jb (d2 jb (dV 0) (dK (.int 1))) (dV 2)) (dK (.int 1)))))) (jg (dK (.bl true))) js)
 (j5 (ji (Jh (jj (d2 J6 (dV 2) (dV 3))) (JX (Jh (jj (d2 J6 (dV 3) (yU (dK (.int 1))))) (jj (d2 VP (dV 4) (d2 jb (d2 jb (d2 jb (dV 0) (dK (.int 1))) (dV 3)) (dK (.int 0)))))) (jj (d2 Ui (d2 jb (dV 6) (dV 2)) (dK (.int 0)))))) (jg (dK (.bl true))) js)
 (j5 (Jv (jR (d2 jb (dV 0) (dK (.int 2)))) yD (JM C))
 (jg (dK (.bl false)))))))
def Ye(C:Addr):List D->Option D:=J7 [false,false,false] 7 (Yd C)
noncomputable def uC:DS.DG:=(gT 2 (gC (gN 5) (gC (gT 3 (gC (gN 6) (gC (gN 7) (gC (gN 8) gZ)))) gZ)))
def Yg(C:Addr):DS.DS:=(j5 (yj 4 (Gz (d2 jb (dV 2) (dV 5)) (yW (d2 jG (dV 6) (dV 3)) (Jw JQ JQ (dV 7) (dV 1) (dV 8)))))
 (ji (Jh (jj (d2 jG (dV 8) (dV 1))) (Jl (Jg (d2 jb (dV 4) (dV 5))))) (jg (dK .non)) js))
def Vv(C:Addr):DS.DS:=(j5 (yV 4 (jT []))
 (j5 (Jv (Vl (d2 jb (dV 0) (dK (.int 4)))) uC (Yg C))
 (v6 4)))
def Vw(C:Addr):List D->Option D:=J7 [false,false,false,false] 5 (Vv C)
noncomputable def VT:DS.DG:=(gT 3 (gC (gN 11) (gC (gN 12) (gC (gN 13) gZ))))
def Z7(C:Addr):DS.DS:=(ji (Jh (jj (d2 jG (dV 11) (dV 2))) (jj (Jw JQ JQ (dV 12) (dV 9) (dV 13)))) (jg (dK .non)) js)
noncomputable def VU:DS.DG:=(gT 2 (gC (gN 16) (gC (gT 3 (gC (gN 17) (gC (gN 18) (gC (gN 19) gZ)))) gZ)))
def JY(C:Addr):DS.DS:=(j5 (jl 20 (d2 jb (dV 7) (dV 16)))
 (j5 (ji (jj (d2 jG (dV 16) (dV 4))) (jl 20 (dC 19)) js)
 (yj 15 (uj (jj (d2 jG (dV 16) (dV 2))) (dK (.int 0)) (ja uo [(false,(dK (.int 0))),(false,(d2 Z1 (dV 20) (dK (.int 1))))])))))
def vJ(C:Addr):DS.DS:=(j5 (ZB (dC 1) (gT 6 (gC (gN 3) (gC (gN 4) (gC (gN 5) (gC (gN 6) (gC (gN 7) (gC (gN 8) gZ))))))))
 (j5 (jl 9 (d2 jk (dV 3) (dK (.int 1))))
 (j5 (jl 10 (uj (jj (d2 jG (dV 2) (dV 4))) (d2 jk (dV 5) (dK (.int 1))) (dK (.int 1))))
 (j5 (ji (jj (d2 Ui (dV 9) (d2 jb (dV 0) (dK (.int 0))))) (jg (dK .non)) js)
 (j5 (Jv (jR (d2 jb (dV 0) (dK (.int 3)))) VT (Z7 C))
 (j5 (ji (Jg (ja (Ye C) [(false,(dV 0)),(false,(dV 1)),(false,(dV 2))])) (jg (dK .non)) js)
 (j5 (jl 14 (ja (Vw C) [(false,(dV 0)),(false,(dV 9)),(false,(dV 8)),(false,(dV 2))]))
 (j5 (ji (jj (d2 KP (dV 14) (dK .non))) (jg (dK .non)) js)
 (j5 (ji (Jh (jj (d2 jG (dV 9) (d2 jb (dV 0) (dK (.int 0))))) (jj (d2 VP (dV 10) (d2 jb (d2 jb (d2 jb (dV 0) (dK (.int 1))) (dV 2)) (dK (.int 0)))))) (jg (dK .non)) js)
 (j5 (yV 15 (jT []))
 (j5 (Jv (Vl (d2 jb (dV 0) (dK (.int 1)))) VU (JY C))
 (jg (yv [(true,(dC 9)),(true,(dC 2)),(true,(dC 10)),(true,(dC 4)),(true,(ja JR [(false,(dV 15))])),(true,(ja JR [(false,(dV 14))]))])))))))))))))
def JB(C:Addr):List D->Option D:=J7 [false,true,true] 18 (vJ C)
noncomputable def VV:DS.DG:=(gN 4)
def yL(C:Addr):DS.DS:=(j5 (jl 5 (dL (yY 1 [0,3] (yw (ja jU [(false,(d2 jb (dV 0) (dK (.int 1))))])) (gN 0) (jj (d2 Ym (ja (JB C) [(false,(dV 1)),(true,(dC 2)),(true,(dC 0))]) (dK .non))) (dC 0))))
 (ji (jj (d2 J6 (dV 5) (dL (jT [])))) (j5 (yj 2 (d2 jb (dV 5) (d2 jI (dV 4) (ja jU [(false,(dV 5))]))))
 (jl 3 (ja (JB C) [(false,(dV 0)),(true,(dC 3)),(true,(d2 jb (dV 2) (yU (dK (.int 1)))))]))) js))
def vK(C:Addr):DS.DS:=(j5 (yV 2 (jT []))
 (j5 (jl 3 (ja (YZ C) [(false,(dV 0))]))
 (j5 (Jv (jR (dP 1)) VV (yL C))
 (v6 2))))
def vL(C:Addr):List D->Option OD:=kC [false,false] 4 (vK C)
noncomputable def Y_:DS.DG:=(gN 5)
def JE(C:Addr):DS.DS:=(j5 (jl 6 (ja (JB C) [(false,(dV 0)),(true,(dC 4)),(true,(dC 5))]))
 (ji (jj (d2 Ym (dV 6) (dK .non))) (GE 3 (dC 6) (dK (.bl true))) js))
noncomputable def za:DS.DG:=(gN 4)
def y_(C:Addr):DS.DS:=(Jv (yw (ja jU [(false,(d2 jb (dV 0) (dK (.int 1))))])) Y_ (JE C))
def Y0(C:Addr):DS.DT:=(jj (d2 J6 (d2 jb (dV 2) (yU (dK (.int 1)))) (dL (jT []))))
def Y1(C:Addr):DS.DS:=(j5 (yV 3 Km)
 (j5 (Jv (jR (d2 jb (dV 2) (yU (dK (.int 1))))) za (y_ C))
 (yj 2 (dL (JA V2 [(false,(dV 3))])))))
def Z8(C:Addr):DS.DS:=(j5 (yV 2 (jT [(true,(dL (jT [(true,(dC 1))])))]))
 (j5 (uq (Y0 C) (Y1 C) 20000)
 (jg (dL (Jp (dV 2) (fun _=>some none) (fun ρ=>((yU (dK (.int 1))) ρ).bind J4))))))
def YF(C:Addr):List D->Option D:=J7 [false,true] 5 (Z8 C)
noncomputable def zu:DS.DG:=(gN 3)
def zw(C:Addr):DS.DS:=(jl 2 (ja (JB C) [(false,(dV 0)),(true,(dC 2)),(true,(dC 3))]))
def ZG(C:Addr):DS.DS:=(j5 (jl 2 (ja (YZ C) [(false,(dV 0))]))
 (j5 (Jv (jR (dP 1)) zu (zw C))
 (jg (dC 2))))
def yp(C:Addr):List D->Option D:=J7 [false,false] 2 (ZG C)
def vM(C:Addr):DS.DS:=(j5 (jl 2 (ja jU [(false,(d2 jb (dV 0) (dK (.int 1))))]))
 (j5 (jl 3 (ja JR [(false,(dL (yY 1 [1] (yw (dV 2)) (gN 0) jM (d2 jI (d2 jb (dV 1) (d2 jk (dK (.int 4)) (dV 0))) (dK (.int 5))))))]))
 (j5 (jl 4 (ja JR [(false,(dL (yY 1 [1] (yw (ja jU [(false,(d2 jb (dV 0) (dK (.int 4))))])) (gN 0) jM (d2 jG (d2 jI (d2 jb (dV 1) (d2 jk (dK (.int 8)) (dV 0))) (dK (.int 2))) (dK (.int 1))))))]))
 (jg (yv [(true,(d2 jI (d2 jb (dV 1) (dK (.int 0))) (d2 jk (d2 jb (dV 0) (dK (.int 0))) (dK (.int 1))))),(true,(d2 Z1 (d2 jI (d2 jb (dV 1) (dK (.int 1))) (d2 jk (dV 2) (dK (.int 1)))) (dK (.int 1)))),(true,(d2 jI (d2 jb (dV 1) (dK (.int 2))) (dK (.int 5)))),(true,(d2 Z1 (d2 jI (d2 jb (dV 1) (dK (.int 3))) (d2 jk (dV 2) (dK (.int 1)))) (dK (.int 1)))),(true,(dC 3)),(true,(dC 4))])))))
def zL(C:Addr):List D->Option D:=J7 [false,false] 3 (vM C)
def Yp(C:Addr):DS.DS:=(j5 (jl 3 (ja (zL C) [(false,(dV 0)),(false,(dL (Jp (dV 2) (fun ρ=>((dK (.int 2)) ρ).bind J4) (fun _=>some none))))]))
 (j5 (jl 4 (d2 jk (dK (.int 1)) (d2 jI (d2 jb (dV 2) (dK (.int 0))) (dK (.int 5)))))
 (jg (d2 jk (d2 jk (zD (dV 1) (fun _=>some none) (fun ρ=>((dV 4) ρ).bind J4)) (zD (dV 3) (fun ρ=>((dV 4) ρ).bind J4) (fun ρ=>((d2 jk (dV 4) (dK (.int 1))) ρ).bind J4))) (zD (dV 1) (fun ρ=>((d2 jk (dV 4) (dK (.int 1))) ρ).bind J4) (fun _=>some none))))))
def JP(C:Addr):List D->Option D:=J7 [false,false,false] 2 (Yp C)
def JZ(C:Addr):DS.DS:=(j5 (jl 4 (fun ρ=>((d2 jI (d2 jb (dV 3) (dK (.int 1))) (ja jU [(false,(dV 1))])) (frz ρ)).bind DS.Ys))
 (j5 (jl 5 (fun ρ=>((d2 jI (d2 jb (dV 3) (dK (.int 2))) (ja uo [(false,(dK (.int 1))),(false,(ja jU [(false,(d2 jb (dV 1) (dV 4)))]))])) (frz ρ)).bind DS.Ys))
 (j5 (jl 6 (ja (zL C) [(false,(dV 0)),(false,(dL (Jp (dV 3) (fun ρ=>((dK (.int 4)) ρ).bind J4) (fun _=>some none))))]))
 (j5 (jl 7 (d2 jI (d2 jb (dV 3) (dK (.int 0))) (dK (.int 8))))
 (j5 (ji (jj (d2 jG (dV 7) (dK (.int 1)))) (zG 1 (dV 4) (fun ρ=>((kr vn (dL (Jp (d2 jb (dV 1) (dV 4)) (fun _=>some none) (fun ρ=>((dV 5) ρ).bind J4))) (dL (Jp (d2 jb (dV 1) (dV 4)) (fun ρ=>((d2 jk (dV 5) (dK (.int 1))) ρ).bind J4) (fun _=>some none)))) (frz ρ)).bind zF)) js)
 (j5 (ji (jj (d2 jG (dV 7) (dK (.int 2)))) (Vo 1 (dV 4) (dV 5) (d2 jk (yv [(true,(ja KS [(false,(d2 jk (dV 2) (dV 4))),(false,(d2 jb (dV 0) (dK (.int 0))))]))]) (zD (dV 6) (fun ρ=>((dK (.int 1)) ρ).bind J4) (fun _=>some none)))) js)
 (j5 (ji (fun ρ=>(Jh (jj (d2 jG (dV 7) (dK (.int 3)))) (jj (d2 J6 (d2 jb (dV 1) (dV 4)) (dL (jT []))))) (frz ρ)) (Vp 1 (dV 4) (dV 5) (fun ρ=>((ja (JP C) [(false,(dV 0)),(false,(d2 jb (d2 jb (dV 1) (dV 4)) (dV 5))),(false,(dL (Jp (dV 3) (fun ρ=>((dK (.int 3)) ρ).bind J4) (fun _=>some none))))]) (frz ρ)).bind DS.Ys)) js)
 (j5 (ji (jj (d2 jG (dV 7) (dK (.int 4)))) (Vq 1 (dV 4)) js)
 (j5 (ji (jj (d2 jG (dV 7) (dK (.int 5)))) (Vn 1 (dV 4) (jT [])) js)
 (j5 (ji (jj (d2 jG (dV 7) (dK (.int 6)))) (zG 1 (dV 4) (fun ρ=>((jT []) (frz ρ)).bind zF)) js)
 (j5 (ji (jj (d2 jG (dV 7) (dK (.int 7)))) (U2 1 (dV 4) (dC 6)) js)
 js)))))))))))
def yM(C:Addr):List (List D)->List D->Option (List (List D)):=wz 2 4 (JZ C)
noncomputable def Yv:DS.DG:=(gN 2)
def yl(C:Addr):DS.DS:=(ji (JX (Jl (Jg (d1 (YH "int") (dV 2)))) (Jg (d1 (YH "bool") (dV 2)))) (jg (dK (.bl false))) js)
def zb(C:Addr):DS.DS:=(j5 (ji (JX (Jl (Jg (d1 (YH "tuple") (dV 1)))) (jj (d2 J6 (ja jU [(false,(dV 1))]) (dK (.int 6))))) (jg (dK (.bl false))) js)
 (j5 (ji (JX (Jl (Jg (d1 (YH "tuple") (d2 jb (dV 1) (dK (.int 4)))))) (Jl (Jg (d1 (YH "tuple") (d2 jb (dV 1) (dK (.int 5))))))) (jg (dK (.bl false))) js)
 (j5 (ji (JX (jj (d2 J6 (ja jU [(false,(d2 jb (dV 1) (dK (.int 4))))]) (ja jU [(false,(d2 jb (dV 0) (dK (.int 1))))]))) (jj (d2 J6 (ja jU [(false,(d2 jb (dV 1) (dK (.int 5))))]) (ja jU [(false,(d2 jb (dV 0) (dK (.int 4))))])))) (jg (dK (.bl false))) js)
 (j5 (Jv (jR (d2 jk (zD (dV 1) (fun _=>some none) (fun ρ=>((dK (.int 4)) ρ).bind J4)) (d2 jb (dV 1) (dK (.int 4))))) Yv (yl C))
 (jg (ja ZA [(false,(dL (yY 1 [] (jR (d2 jb (dV 1) (dK (.int 5)))) (gN 0) jM (d1 (YH "bool") (dV 0)))))]))))))
def zc(C:Addr):List D->Option D:=J7 [false,false] 1 (zb C)
noncomputable def yE:DS.DG:=(gN 5)
def Ja(C:Addr):DS.DS:=(j5 (jl 6 (ja (JB C) [(false,(dV 0)),(true,(dC 4)),(true,(dC 5))]))
 (ji (Jh (jj (d2 Ym (dV 6) (dK .non))) (jj (d2 (Vr true) (dV 6) (dV 3)))) (jg (dK (.bl false))) js))
noncomputable def yF:DS.DG:=(gN 4)
def jL(C:Addr):DS.DS:=(j5 (ji (JX (Jl (Jg (ja (zc C) [(false,(dV 0)),(false,(dV 4))]))) (jj (d2 J6 (d2 jb (dV 4) (dK (.int 0))) (dV 2)))) (jg (dK (.bl false))) js)
 (Jv (yw (ja jU [(false,(d2 jb (dV 0) (dK (.int 1))))])) yE (Ja C)))
def Yh(C:Addr):DS.DS:=(j5 (ji (JX (Jl (Jg (d1 (YH "list") (dV 1)))) (jj (d2 KO (dV 2) (d2 jb (dV 0) (dK (.int 0)))))) (jg (d2 jG (dV 1) (dL (jT [])))) js)
 (j5 (Jv (jR (dP 1)) yF (jL C))
 (jg (dK (.bl true)))))
def Yi(C:Addr):List D->Option D:=J7 [false,false,false,false] 3 (Yh C)
noncomputable def vf:DS.DG:=(gT 2 (gC (gN 3) (gC (gN 4) gZ)))
def Y2(C:Addr):DS.DS:=(j5 (jl 5 (d2 jb (dL (kr vn (dV 2) (dL (jT [(true,(dL (jT [])))])))) (d2 jk (dV 3) (dK (.int 1)))))
 (ji (Jl (Jg (ja (Yi C) [(false,(dV 0)),(false,(dV 4)),(false,(d2 jk (ja jU [(false,(dV 1))]) (dV 3))),(false,(dV 5))]))) (jg (dK (.bl false))) js))
def J_(C:Addr):DS.DS:=(j5 (ji (JX (Jl (Jg (d1 (YH "list") (dV 2)))) (JX (jj (d2 jG (dV 2) (dL (jT [])))) (jj (d2 (Vr true) (ja (yp C) [(false,(dV 0)),(false,(dV 1))]) (d2 jb (dV 2) (dK (.int 0))))))) (jg (dK (.bl false))) js)
 (j5 (Jv (Vl (dP 2)) vf (Y2 C))
 (jg (dK (.bl true)))))
def y7(C:Addr):List D->Option D:=J7 [false,false,false] 3 (J_ C)
def ZH(C:Addr):DS.DS:=(jg (ja jU [(false,(d1 (Jn C "kind_rows") (dV 0)))]))
def yq(C:Addr):List D->Option D:=J7 [false] 0 (ZH C)
def uD(C:Addr):DS.DS:=(jg (Jw JQ VP (dK (.int 0)) (dV 1) (d1 (v4 C "many" (yq C)) (dV 0))))
def vg(C:Addr):List D->Option D:=J7 [false,false] 0 (uD C)
def Yw(C:Addr):DS.DS:=(jg (ja ZA [(false,(dL (yY 1 [0] (jR (dP 1)) (gN 0) jM (ja (vg C) [(false,(dV 1)),(false,(dV 0))]))))]))
def Yx(C:Addr):List D->Option D:=J7 [false,false] 0 (Yw C)
def vN(C:Addr):DS.DS:=(j5 (ji (Jl (Jg (ja (Yx C) [(false,(dV 0)),(false,(dV 1))]))) v5 js)
 (ji (jj (d2 Ui (ja jU [(false,(dV 1))]) (d1 (Jn C "size") (dV 0)))) v5 js))
def vO(C:Addr):List D->Option D:=J7 [false,false] 0 (vN C)
def Z9(C:Addr):DS.DS:=(j5 (jl 1 (d2 yx (yv [(true,(dK (.int 0)))]) (d1 (v4 C "many" (yq C)) (dV 0))))
 (j5 (jl 2 (d2 yx (yv [(true,(dK (.bl false)))]) (ja jU [(false,(d1 (Jn C "due_rows") (dV 0)))])))
 (jg (yv [(true,(dK (.int 0))),(true,(yU (dK (.int 1)))),(true,(dK (.int 0))),(true,(yU (dK (.int 1)))),(true,(dC 1)),(true,(dC 2))]))))
def Za(C:Addr):List D->Option D:=J7 [false] 2 (Z9 C)
noncomputable def VW:DS.DG:=(gT 3 (gC (gN 4) (gC (gN 5) (gC (gN 6) gZ))))
def Zb(C:Addr):DS.DS:=(ji (Jh (jj (d2 jG (dV 4) (dV 2))) (jj (Jw JQ JQ (dV 5) (dV 3) (dV 6)))) (jg (dK (.bl true))) js)
def vP(C:Addr):DS.DS:=(j5 (jl 3 (d2 jk (d2 jb (dV 1) (dK (.int 0))) (dK (.int 1))))
 (j5 (Jv (jR (d1 (Jn C "bar_rows") (dV 0))) VW (Zb C))
 (jg (dK (.bl false)))))
def vQ(C:Addr):List D->Option D:=J7 [false,false,false] 4 (vP C)
def uE(C:Addr):DS.DS:=(jg (yW (d2 jG (d2 jb (dV 1) (dK (.int 1))) (dV 2)) (d2 KO (d2 jb (dV 1) (dK (.int 2))) (d2 jb (d2 jb (d1 (Jn C "kind_rows") (dV 0)) (dV 2)) (dK (.int 1))))))
def uF(C:Addr):List D->Option D:=J7 [false,false,false] 0 (uE C)
def Vx(C:Addr):DS.DS:=(j5 (jl 3 (d2 jb (dV 1) (dK (.int 1))))
 (j5 (ji (JX (jj (d2 jG (dV 3) (dV 2))) (jj (d2 jG (dV 3) (yU (dK (.int 1)))))) (jg (dK (.bl false))) js)
 (jg (d2 VP (d2 jb (dV 1) (dK (.int 2))) (d2 jb (d2 jb (d1 (Jn C "kind_rows") (dV 0)) (dV 3)) (dK (.int 0)))))))
def Vy(C:Addr):List D->Option D:=J7 [false,false,false] 1 (Vx C)
def Vz(C:Addr):DS.DS:=(jg (yW (d2 J6 (d2 jb (dV 0) (dK (.int 1))) (dV 1)) (d2 J6 (d2 jb (d2 jb (dV 0) (dK (.int 4))) (dV 1)) (dK (.int 0)))))
def VA(C:Addr):List D->Option D:=J7 [false,false] 0 (Vz C)
noncomputable def V5:DS.DG:=(gT 3 (gC (gN 3) (gC (gN 4) (gC (gN 5) gZ))))
def zx(C:Addr):DS.DS:=(j5 (jl 6 (uj (jj (d2 jG (dV 5) (dK (.int 1)))) (d2 jb (dV 1) (dK (.int 1))) (d2 jb (dV 1) (dK (.int 3)))))
 (ji (Jh (jj (d2 jG (dV 4) (dV 2))) (jj (d2 jG (dV 6) (dV 3)))) (jg (dK (.bl true))) js))
def ZI(C:Addr):DS.DS:=(j5 (Jv (jR (d1 (Jn C "shun_rows") (dV 0))) V5 (zx C))
 (jg (dK (.bl false))))
def ZJ(C:Addr):List D->Option D:=J7 [false,false,false] 4 (ZI C)
noncomputable def uG:DS.DG:=(gT 2 (gC (gN 5) (gC (gN 6) gZ)))
def ZK(C:Addr):DS.DS:=(j5 (ZB (dC 5) (gT 3 (gC (gN 7) (gC (gN 8) (gC (gN 9) gZ)))))
 (yj 4 (Gz (dV 6) (yW (d2 jG (dV 7) (dV 2)) (Jw JQ JQ (dV 8) (dV 3) (dV 9))))))
def VB(C:Addr):DS.DS:=(j5 (jl 3 (d2 jk (d2 jb (dV 1) (dK (.int 0))) (dK (.int 1))))
 (j5 (yV 4 (jT []))
 (j5 (Jv (KU (d1 (Jn C "due_rows") (dV 0)) (d2 jb (dV 1) (dK (.int 5)))) uG (ZK C))
 (jg (ja JR [(false,(dV 4))])))))
def Zk(C:Addr):List D->Option D:=J7 [false,false,false] 7 (VB C)
noncomputable def V6:DS.DG:=(gT 2 (gC (gN 4) (gC (gN 5) gZ)))
def zy(C:Addr):DS.DS:=(ji (Jh (jj (d2 jG (d2 jb (dV 4) (dK (.int 2))) (dV 3))) (Jl (Jg (dV 5)))) (jg (dK (.bl true))) js)
def ZL(C:Addr):DS.DS:=(j5 (jl 3 (d2 jk (d2 jb (dV 1) (dK (.int 0))) (dK (.int 1))))
 (j5 (Jv (KU (d1 (Jn C "due_rows") (dV 0)) (ja (Zk C) [(false,(dV 0)),(false,(dV 1)),(false,(dV 2))])) V6 (zy C))
 (jg (dK (.bl false)))))
def ZM(C:Addr):List D->Option D:=J7 [false,false,false] 3 (ZL C)
def VC(C:Addr):DS.DS:=(j5 (ji (jj (d2 jG (d2 jb (dV 0) (dK (.int 1))) (dV 1))) (jg (d2 jk (d2 jb (dV 0) (dK (.int 2))) (dK (.int 1)))) js)
 (jg (dK (.int 1))))
def Zl(C:Addr):List D->Option D:=J7 [false,false] 0 (VC C)
def UQ(C:Addr):DS.DS:=(j5 (ji (jj (d2 J6 (d2 jk (d2 jb (dV 1) (dK (.int 0))) (dK (.int 1))) (d1 (Jn C "size") (dV 0)))) (jg (dK (.bl false))) js)
 (jg (d2 VP (ja (Zl C) [(false,(dV 1)),(false,(dV 2))]) (d2 jb (d2 jb (d1 (Jn C "kind_rows") (dV 0)) (dV 2)) (dK (.int 0))))))
def UR(C:Addr):List D->Option D:=J7 [false,false,false] 0 (UQ C)
def US(C:Addr):DS.DS:=(j5 (ji (Jg (ja (vQ C) [(false,(dV 0)),(false,(dV 1)),(false,(dV 2))])) (jg (dK (.str "barred"))) js)
 (j5 (ji (Jg (ja (uF C) [(false,(dV 0)),(false,(dV 1)),(false,(dV 2))])) (jg (dK (.str "long"))) js)
 (j5 (ji (Jg (ja (Vy C) [(false,(dV 0)),(false,(dV 1)),(false,(dV 2))])) (jg (dK (.str "short"))) js)
 (j5 (ji (Jg (ja (VA C) [(false,(dV 1)),(false,(dV 2))])) (jg (dK (.str "early"))) js)
 (j5 (ji (Jg (ja (ZJ C) [(false,(dV 0)),(false,(dV 1)),(false,(dV 2))])) (jg (dK (.str "shun"))) js)
 (j5 (ji (Jg (ja (ZM C) [(false,(dV 0)),(false,(dV 1)),(false,(dV 2))])) (jg (dK (.str "due"))) js)
 (j5 (ji (Jg (ja (UR C) [(false,(dV 0)),(false,(dV 1)),(false,(dV 2))])) (jg (dK (.str "cut"))) js)
 (jg (dK .non)))))))))
def VD(C:Addr):List D->Option D:=J7 [false,false,false] 0 (US C)
def ZN(C:Addr):DS.DS:=(j5 (jl 3 (d2 jb (dV 1) (dK (.int 1))))
 (j5 (yV 4 (yY 1 [] (jR (d2 jb (dV 1) (dK (.int 4)))) (gN 0) jM (ja uo [(false,(d2 Z1 (dV 0) (dK (.int 1)))),(false,(dK (.int 0)))])))
 (j5 (ji (jj (d2 J6 (dV 3) (yU (dK (.int 1))))) (u_ 4 (dV 3) (ja uo [(false,(d2 Z1 (d2 jb (d2 jb (d1 (Jn C "kind_rows") (dV 0)) (dV 3)) (dK (.int 2))) (dK (.int 1)))),(false,(dK (.int 0)))])) js)
 (j5 (u_ 4 (dV 2) (dK (.int 0)))
 (jg (ja JR [(false,(dV 4))]))))))
def ZO(C:Addr):List D->Option D:=J7 [false,false,false] 2 (ZN C)
def ZP(C:Addr):DS.DS:=(j5 (jl 3 (ja (Zl C) [(false,(dV 1)),(false,(dV 2))]))
 (j5 (jl 4 (ja (ZO C) [(false,(dV 0)),(false,(dV 1)),(false,(dV 2))]))
 (j5 (jl 5 (ja (Zk C) [(false,(dV 0)),(false,(dV 1)),(false,(dV 2))]))
 (jg (yv [(true,(d2 jk (d2 jb (dV 1) (dK (.int 0))) (dK (.int 1)))),(true,(dC 2)),(true,(dC 3)),(true,(d2 jb (dV 1) (dK (.int 1)))),(true,(dC 4)),(true,(dC 5))])))))
def zd(C:Addr):List D->Option D:=J7 [false,false,true] 3 (ZP C)
noncomputable def Zm:DS.DG:=(gN 3)
def Zn(C:Addr):DS.DS:=(j5 (jl 4 (ja (VD C) [(false,(dV 0)),(false,(dV 2)),(false,(dV 3))]))
 (j5 (ji (jj (d2 Ym (dV 4) (dK .non))) (jg (yv [(true,(dC 2)),(true,(dC 4))])) js)
 (jl 2 (ja (zd C) [(false,(dV 0)),(false,(dV 2)),(true,(dC 3))]))))
def UT(C:Addr):DS.DS:=(j5 (jl 2 (ja (Za C) [(false,(dV 0))]))
 (j5 (Jv (jR (dP 1)) Zm (Zn C))
 (jg (yv [(true,(dC 2)),(true,(dK .non))]))))
def UU(C:Addr):List D->Option D:=J7 [false,false] 3 (UT C)
def VE(C:Addr):DS.DS:=(j5 (gE (ja (vO C) [(false,(dV 0)),(false,(dV 1))]))
 (j5 (ZB (ja (UU C) [(false,(dV 0)),(false,(dV 1))]) (gT 2 (gC (gN 2) (gC (gN 3) gZ))))
 (j5 (ji (jj (d2 Ym (dV 3) (dK .non))) v5 js)
 (jg (dC 2)))))
def VF(C:Addr):List D->Option D:=J7 [false,false] 2 (VE C)
def uH(C:Addr):DS.DS:=(j5 (ji (JX (jj (d2 KO (d2 jb (dV 1) (dK (.int 0))) (d1 (Jn C "size") (dV 0)))) (jj (d2 Ym (ja (VD C) [(false,(dV 0)),(false,(dV 1)),(false,(dV 2))]) (dK .non)))) (jg (dK .non)) js)
 (jg (ja (zd C) [(false,(dV 0)),(false,(dV 1)),(true,(dC 2))])))
def uI(C:Addr):List D->Option D:=J7 [false,false,true] 0 (uH C)
noncomputable def V7:DS.DG:=(gN 3)
def Yq(C:Addr):DS.DS:=(j5 (jl 4 (ja (uI C) [(false,(dV 0)),(false,(dV 1)),(true,(dC 3))]))
 (ji (jj (d2 Ym (dV 4) (dK .non))) (yj 2 (yv [(true,(dC 3)),(true,(dC 4))])) js))
def ZQ(C:Addr):DS.DS:=(j5 (yV 2 (jT []))
 (j5 (Jv (yw (d1 (v4 C "many" (yq C)) (dV 0))) V7 (Yq C))
 (v6 2)))
def ZR(C:Addr):List D->Option OD:=kC [false,false] 3 (ZQ C)
def vR(C:Addr):DS.DS:=(j5 (ji (JX (jj (d2 J6 (d2 jb (dV 1) (dK (.int 0))) (dV 2))) (jj (d2 KO (dV 2) (d1 (Jn C "size") (dV 0))))) (jg (dK (.bl false))) js)
 (jg (ja ZA [(false,(dL (yY 2 [3] (jR (dL (JA (ZR C) [(false,(dV 0)),(false,(dV 1))]))) (gT 2 (gC (gN 0) (gC (gN 1) gZ))) jM (d2 (UL false) (dV 1) (dV 2)))))])))
def YA(C:Addr):List D->Option D:=J7 [false,false,false,false] 0 (vR C)
noncomputable def vh:DS.DG:=(gT 2 (gC (gN 4) (gC (gN 5) gZ)))
def ze(C:Addr):DS.DS:=(j5 (jl 6 (dL (xl 2 [] (jR (dL (Jp (dV 2) (fun ρ=>((d2 jk (dV 4) (dK (.int 1))) ρ).bind J4) (fun ρ=>((d2 jk (dV 4) (dK (.int 2))) ρ).bind J4)))) (gN 0) (jR (dP 0)) (gN 1) (dC 1) (dK (.bl true)))))
 (ji (Jl (Jg (ja ZA [(false,(dL (yY 1 [0,1,4,6] (jR (dP 5)) (gN 0) jM (ja (YA C) [(false,(dV 1)),(false,(dV 0)),(false,(d2 jk (ja jU [(false,(dV 2))]) (dV 3))),(false,(dV 4))]))))]))) (jg (dK (.bl false))) js))
def y8(C:Addr):DS.DS:=(j5 (jl 3 (ja (VF C) [(false,(dV 0)),(false,(dV 1))]))
 (j5 (ji (JX (Jl (Jg (dV 2))) (jj (d2 (Vr true) (dV 3) (d2 jb (dV 2) (dK (.int 0)))))) (jg (dK (.bl false))) js)
 (j5 (Jv (Vl (dP 2)) vh (ze C))
 (jg (dK (.bl true))))))
def Ju(C:Addr):List D->Option D:=J7 [false,false,false] 4 (y8 C)
noncomputable def qo:DS.DG:=(gN 9)
def GQ(C:Addr):DS.DS:=(j5 (jl 10 (ja (Ju C) [(false,(dV 3)),(false,(dV 8)),(false,(dV 5))]))
 (ji (JX (Jl (Jg (d1 (YH "bool") (dV 10)))) (JX (jj (d2 J6 (dV 10) (dV 6))) (JX (jj (d2 J6 (dV 5) (dV 7))) (jj (d2 J6 (dV 8) (dV 4)))))) (jg (dK (.bl false))) js))
def Ga(C:Addr):DS.DS:=(j5 (jl 1 (dL (JA (zq C) [(false,(dV 0)),(false,(dK (.int 140)))])))
 (j5 (jl 2 (ja (vA C) [(false,(dV 1)),(false,(dK (.int 8)))]))
 (j5 (jl 3 (dL (JA (vI C) [(false,(dV 2))])))
 (j5 (jl 4 (dL (JA (vL C) [(false,(dV 2)),(false,(dL (Jp (dV 1) (fun ρ=>((dK (.int 60)) ρ).bind J4) (fun ρ=>((d2 jk (dK (.int 60)) (d2 jI (d2 jb (dV 1) (dK (.int 80))) (d2 jk (d2 jb (dV 2) (dK (.int 0))) (dK (.int 1))))) ρ).bind J4))))])))
 (j5 (gP 5 (qe (YF C) [(true,(dC 2)),(true,(ja (yp C) [(false,(dV 2)),(false,(dV 4))]))]))
 (j5 (ji (fun ρ=>(Jh (jj (d2 jG (d2 jI (d2 jb (dV 1) (dK (.int 81))) (dK (.int 2))) (dK (.int 1)))) (jj (d2 jG (d2 jb (d2 jb (d2 jb (dV 5) (yU (dK (.int 1)))) (dK (.int 0))) (dK (.int 0))) (d2 jb (dV 2) (dK (.int 0)))))) (frz ρ)) (U3 5 (fun ρ=>((yU (dK (.int 1))) ρ).bind J4) (jT [])) js)
 (j5 (zP 5 (yM C) (dC 2) (ja jU [(false,(dV 4))]) (dL (Jp (dV 1) (fun ρ=>((dK (.int 82)) ρ).bind J4) (fun _=>some none))))
 (j5 (ji (fun ρ=>(Jh (jj (d2 jG (d2 jI (d2 jb (dV 1) (dK (.int 110))) (dK (.int 3))) (dK (.int 1)))) (jj (d2 J6 (dV 5) (dL (jT []))))) (frz ρ)) (zP 5 (yM C) (dC 2) (ja jU [(false,(dV 4))]) (dL (Jp (dV 1) (fun ρ=>((dK (.int 111)) ρ).bind J4) (fun _=>some none)))) js)
 (j5 (fun ρ=>(jl 6 (ja (y7 C) [(false,(dV 2)),(false,(dV 4)),(false,(dV 5))])) (frz ρ))
 (j5 (jl 7 (dL (yY 1 [] (jR (dP 5)) (gN 0) jM (dL (JA Yn [(false,(dV 0))])))))
 (j5 (jl 8 (dL (JA Yn [(false,(dV 4))])))
 (j5 (Jv (yw (dK (.int 2))) qo (GQ C))
 (jg (d2 wA (ja (Ju C) [(false,(dV 3)),(false,(dV 4)),(false,(dL (jT [])))]) (dK (.bl false))))))))))))))))
def Kr(C:Addr):List D->Option D:=J7 [false] 10 (Ga C)
theorem wO(C:Addr)(t:T3):zI C [t3 t]=some (.bl (fK t)):=by
 obtain⟨x,y,z⟩:=t;unfold fK;simp only[zI,vB,t3];by_cases h1:1<=x
 ·by_cases h2:x<=y
  ·by_cases h3:y<=4
   ·by_cases h4:0<=z <;> simp[h1,h2,h3,h4]
   ·simp[h1,h2,h3]
  ·simp[h1,h2]
 ·simp[h1]
theorem wP(C:Addr)(t:T3)(m:Int):zJ C [t3 t,.int m]=some (.bl (fS m t)):=by
 obtain⟨x,y,z⟩:=t;unfold fS;simp only[zJ,vC,t3];by_cases h1:0<=x
 ·by_cases h2:x < m
  ·by_cases h3:0<=y
   ·by_cases h4:y < m
    ·by_cases h5:1<=z <;> simp[h1,h2,h3,h4,h5]
    ·simp[h1,h2,h3,h4]
   ·simp[h1,h2,h3]
  ·simp[h1,h2]
 ·simp[h1]
theorem wQ(C:Addr)(t:T3)(m s:Int):zK C [t3 t,.int m,.int s]=some (.bl (fB m s t)):=by
 obtain⟨x,y,z⟩:=t;unfold fB;simp only[zK,vE,t3];by_cases h1:0<=x
 ·by_cases h2:x < m
  ·by_cases h3:1<=y
   ·by_cases h4:y<=z <;> simp[h1,h2,h3,h4]
   ·simp[h1,h2,h3]
  ·simp[h1,h2]
 ·simp[h1]
theorem GR(C:Addr)(s:Int)(k h b d:List D):Z6 C [.int s,.lst k,.lst h,.lst b,.lst d]=some (.bl (fC s k.length h.length b.length d.length)):=by
 unfold fC;simp only[Z6,Z5];by_cases h1:1<=s
 ·by_cases h2:s<=30
  ·by_cases h3:(1:Int)<=k.length
   ·by_cases h4:(k.length:Int)<=4
    ·by_cases h5:(h.length:Int)<=20
     ·by_cases h6:(b.length:Int)<=12 <;> simp[h1,h2,h3,h4,h5,h6]
     ·simp[h1,h2,h3,h4,h5]
    ·simp[h1,h2,h3,h4]
   ·simp[h1,h2,h3]
  ·simp[h1,h2]
 ·simp[h1]
theorem yG{α:Type}(f:α->Bool):∀l:List α,KT (l.map fun x=>D.bl (f x))=some (l.map f)
 | []=>rfl
 | x::l=>by simp[yG f l]
theorem xM{α:Type}(f:α->Bool)(l m:List α):KT (l.map (fun x=>D.bl (f x))++m.map fun x=>D.bl (f x))=some (l.map f++m.map f):=by rw[<-List.map_append,yG,List.map_append]
theorem YN{α:Type}(f:α->Bool)(l:List α):((l.map f).all id)=l.all f:=by
 induction l with
 | nil=>rfl
 | cons t ts ih=>simp only[List.map_cons,List.all_cons,ih,id]
theorem wR(C:Addr)(s:Int)(k h b d:List T3)(hk:k.length<=100)(hh:h.length<=100)(hb:b.length<=100)(hd:d.length<=100):vG C [.int s,.lst (k.map t3),.lst (h.map t3),.lst (b.map t3),.lst (d.map t3)]=some (.bl (fR s k h b d)):=by
 have sz:∀n,n<=200->n<=sizeLine:=fun n hn=>wQa (jq (by omega));have c1:∀ρ:j9,JD (gN 0) jM (ja (zI C) [(true,dC 0)]) (k.map t3) (.un::ρ)=some (k.map fun t=>D.bl (fK t)):=fun ρ=>Jk t3 _ fun t _=>⟨_,rfl,rfl,by simp[wO]⟩
 have c2:∀ρ:j9,JD (gN 0) jM (ja (zJ C) [(true,dC 0),(false,dV 1)]) (h.map t3) (.un::.cl (.int k.length)::ρ)=some (h.map fun t=>D.bl (fS k.length t)):=fun ρ=>Jk t3 _ fun t _=>⟨_,rfl,rfl,by simp[wP]⟩
 have c3:∀ρ:j9,JD (gN 0) jM (ja (zK C) [(true,dC 0),(false,dV 1),(false,dV 2)]) ((b++d).map t3) (.un::.cl (.int k.length)::.bo (.int s)::ρ)=some ((b++d).map fun t=>D.bl (fB k.length s t)):=fun ρ=>Jk t3 _ fun t _=>⟨_,rfl,rfl,by simp[wQ]⟩
 rw[List.map_append]at c3;unfold fR;have e3:b.length+d.length<=sizeLine:=sz _ (by omega);simp only[vG,vF];by_cases h1:k.all fK=true
 ·by_cases h2:h.all (fS k.length)=true
  ·simp[c1,c2,c3,yG,xM,YN,List.all_append,sz _ (Nat.le_trans hk (by decide:100<=200)),sz _ (Nat.le_trans hh (by decide:100<=200)),e3,h1,h2]
  ·simp[c1,c2,yG,YN,sz _ (Nat.le_trans hk (by decide:100<=200)),sz _ (Nat.le_trans hh (by decide:100<=200)),h1,h2]
 ·simp[c1,yG,YN,sz _ (Nat.le_trans hk (by decide:100<=200)),h1]
structure OkB (b:Bk):Prop where
 s1:1<=b.size
 s2:b.size<=30
 k1:1<=b.kinds.length
 k2:b.kinds.length<=4
 h2:b.shuns.length<=20
 b2:b.bars.length<=12
 d2:b.dues.length<=3
 ks:∀t∈b.kinds,fK t=true
 hs:∀t∈b.shuns,fS b.kinds.length t=true
 bs:∀t∈b.bars,fB b.kinds.length b.size t=true
 ds:∀t∈b.dues,fB b.kinds.length b.size t=true
theorem GS{b:Bk}:wK b=true↔OkB b:=by
 unfold wK fC fR;simp only[Bool.and_eq_true,decide_eq_true_eq,List.all_eq_true,List.mem_append];constructor
 ·rintro⟨⟨a1,a2,a3,a4,a5,a6,a7⟩,b1,b2,b3⟩;exact⟨a1,a2,by omega,by omega,by omega,by omega,by omega,b1,b2,fun t h=>b3 t (.inl h),fun t h=>b3 t (.inr h)⟩
 ·intro h;exact⟨⟨h.s1,h.s2,by have:=h.k1;omega,by have:=h.k2;omega,by have:=h.h2;omega,by have:=h.b2;omega,by have:=h.d2;omega⟩,h.ks,h.hs,fun t ht=>ht.elim (h.bs t) (h.ds t)⟩
theorem Bm(C p:Addr)(b:Bk)(h:OkB b):yk C p [.int b.size,.lst (b.kinds.map t3),.lst (b.shuns.map t3),.lst (b.bars.map t3),.lst (b.dues.map t3)]=some (uB C b):=by
 have hb:=GS.mpr h;unfold wK at hb;rw[Bool.and_eq_true]at hb;have e1:=GR C b.size (b.kinds.map t3) (b.shuns.map t3) (b.bars.map t3) (b.dues.map t3);simp only[List.length_map]at e1;rw[hb.1]at e1;have e2:=wR C b.size b.kinds b.shuns b.bars b.dues (by have:=h.k2;omega) (by have:=h.h2;omega) (by have:=h.b2;omega) (by have:=h.d2;omega);rw[hb.2]at e2;have n1:("size" : Str)≠ "kind_rows" := by decide
 have n2:("size" : Str)≠ "shun_rows" := by decide
 have n3:("size" : Str)≠ "bar_rows" := by decide
 have n4:("size" : Str)≠ "due_rows" := by decide
 have n5:("kind_rows" : Str)≠ "shun_rows" := by decide
 have n6:("kind_rows" : Str)≠ "bar_rows" := by decide
 have n7:("kind_rows" : Str)≠ "due_rows" := by decide
 have n8:("shun_rows" : Str)≠ "bar_rows" := by decide
 have n9:("shun_rows" : Str)≠ "due_rows" := by decide
 have n0:("bar_rows" : Str)≠ "due_rows" := by decide
 simp only[yk,yC,uB];simp[e1,e2,n1,n2,n3,n4,n5,n6,n7,n8,n9,n0]
theorem Ub(C p:Addr)(ds:List D)(o:OD)(h:JU C ds=some o):yk C p ds=some o:=by
 obtain⟨b,ok,rfl,rfl⟩:=DX h;exact Bm C p b (GS.mp ok)
theorem Bn(C:Addr)(b:Bk)(h:OkB b):JU C [.int b.size,.lst (b.kinds.map t3),.lst (b.shuns.map t3),.lst (b.bars.map t3),.lst (b.dues.map t3)]=some (uB C b):=by
 unfold JU GP;simp[gI,gL,wL,GS.mpr h]
theorem Bo(C:Addr)(b:Bk)(h:OkB b):vI C [jf b]=some (uB C b):=by
 have e:=Bn C b h;simp only[vI,vH];simp[e]
theorem aF(C:Addr)(b:Bk):(uB C b).toD=jz C b:=rfl
theorem Bp(C:Addr)(b:Bk):yq C [jz C b]=some (.int b.kinds.length):=by
 have n1:(("kind_rows" : Str) == "size")=false:=by decide
 simp only[yq,ZH,jz];simp[Jn,List.lookup,n1]
@[simp] theorem kL(C:Addr)(b:Bk):v4 C "many" (yq C) (jz C b)=some (.int b.kinds.length):=by
 have e:=Bp C b;unfold v4 jz at *;have n:("many" : Str)∉(["size", "kind_rows", "shun_rows", "bar_rows", "due_rows"]:List Str):=by decide
 simp only[n,not_false_eq_true,and_self,if_true];exact e
@[simp] theorem aG(C:Addr)(b:Bk):Jn C "size" (jz C b)=some (.int b.size):=by unfold Jn jz;simp[List.lookup]
@[simp] theorem xN(C:Addr)(b:Bk):Jn C "kind_rows" (jz C b)=some (.tup (b.kinds.map t3)):=by
 have n1:(("kind_rows" : Str) == "size")=false:=by decide
 unfold Jn jz;simp[List.lookup,n1]
@[simp] theorem xO(C:Addr)(b:Bk):Jn C "shun_rows" (jz C b)=some (.tup (b.shuns.map t3)):=by
 have n1:(("shun_rows" : Str) == "size")=false:=by decide
 have n2:(("shun_rows" : Str) == "kind_rows")=false:=by decide
 unfold Jn jz;simp[List.lookup,n1,n2]
@[simp] theorem aH(C:Addr)(b:Bk):Jn C "bar_rows" (jz C b)=some (.tup (b.bars.map t3)):=by
 have n1:(("bar_rows" : Str) == "size")=false:=by decide
 have n2:(("bar_rows" : Str) == "kind_rows")=false:=by decide
 have n3:(("bar_rows" : Str) == "shun_rows")=false:=by decide
 unfold Jn jz;simp[List.lookup,n1,n2,n3]
@[simp] theorem UV(C:Addr)(b:Bk):Jn C "due_rows" (jz C b)=some (.tup (b.dues.map t3)):=by
 have n1:(("due_rows" : Str) == "size")=false:=by decide
 have n2:(("due_rows" : Str) == "kind_rows")=false:=by decide
 have n3:(("due_rows" : Str) == "shun_rows")=false:=by decide
 have n4:(("due_rows" : Str) == "bar_rows")=false:=by decide
 unfold Jn jz;simp[List.lookup,n1,n2,n3,n4]
theorem Qi(C:Addr)(b:Bk)(n:Int):vg C [jz C b,.int n]=some (.bl (decide (0<=n)&&decide (n < (b.kinds.length:Int)))):=by
 have e:=kL C b;simp only[vg,uD];by_cases h:0<=n <;> simp[e,h]
theorem GT(C:Addr)(b:Bk)(row:List Int)(hl:row.length<=1000):Yx C [jz C b,.lst (row.map .int)]=some (.bl (row.all fun n=>decide (0<=n)&&decide (n < (b.kinds.length:Int)))):=by
 have c1:∀ρ:j9,JD (gN 0) jM (ja (vg C) [(false,dV 1),(false,dV 0)]) (row.map D.int) (.un::.bo (jz C b)::ρ)=some (row.map fun n=>D.bl (decide (0<=n)&&decide (n < (b.kinds.length:Int)))):=fun ρ=>Jk D.int _ fun t _=>⟨_,rfl,rfl,by simp[Qi]⟩
 have sz:row.length<=sizeLine:=wQa (jq (by omega));have e:=yG (fun n:Int=>decide (0<=n)&&decide (n < (b.kinds.length:Int))) row;simp only[Yx,Yw];simp only[J7,Z3,CN,Cl,yh,Ho,fO,bR,HM,YU];simp[c1,sz,e,YN]
def vi(b:Bk)(row:List Int):Prop:=(∀n∈row,0<=n/\n < (b.kinds.length:Int))/\(row.length:Int)<=b.size
theorem wS(C:Addr)(b:Bk)(row:List Int)(ok:OkB b)(h:vi b row):vO C [jz C b,.lst (row.map .int)]=some .non:=by
 have h2:=ok.s2;have hl:=h.2;have e:=GT C b row (by omega);have e2:(row.all fun n=>decide (0<=n)&&decide (n < (b.kinds.length:Int)))=true:=by
  rw[List.all_eq_true];intro n hn;have:=h.1 n hn;simp[this.1,this.2]
 rw[e2]at e;have e3:=aG C b;have e4:¬(b.size < (row.length:Int)):=by omega
 simp only[vO,vN];simp[e,e3,e4]
noncomputable def jN(b:Bk):Sd:=⟨0,-1,0,-1,List.replicate b.kinds.length 0,List.replicate b.dues.length false⟩
theorem aI(C:Addr)(b:Bk)(ok:OkB b):Za C [jz C b]=some (j0 (jN b)):=by
 have e:=kL C b;have e3:=UV C b;have h1:=ok.k2;have h2:=ok.d2;have c1:(b.kinds.length:Int)<=1000:=by omega
 have c2:(b.dues.length:Int)<=1000:=by omega
 simp only[Za,Z9];simp[e,e3,c1,c2,j0,jN]
noncomputable def mx(i j:Int):Int:=if j > i then j else i
noncomputable def yg(s:Sd)(k:Int):Int:=if s.kind=k then s.len+1 else 1
def JG(b:Bk)(s:Sd)(k:Int):List Int:=(if s.kind=-1 then s.waits.map (fun x=>mx (x - 1) 0)else(s.waits.map (fun x=>mx (x - 1) 0)).set s.kind.toNat (mx ((Zf b.kinds s.kind).2.2 - 1) 0)).set k.toNat 0
noncomputable def Yy(k pl:Int)(t:T3):Bool:=decide (t.1=k)&&(decide (t.2.1<=pl)&&decide (pl<=t.2.2))
def Jr(b:Bk)(s:Sd)(k:Int):List Bool:=List.zipWith (fun t m=>m||Yy k (s.place+1) t) b.dues s.met
def JH(b:Bk)(s:Sd)(k:Int):Sd:=⟨s.place+1,k,yg s k,s.kind,JG b s k,Jr b s k⟩
def YQ(b:Bk)(s:Sd)(k:Int):Bool:=b.bars.any (Yy k (s.place+1))
def yH(b:Bk)(s:Sd)(k:Int):Bool:=decide (s.kind=k)&&decide (s.len>=(Zf b.kinds k).2.1)
def yN(b:Bk)(s:Sd)(k:Int):Bool:=!(decide (s.kind=k)||decide (s.kind=-1))&&decide (s.len < (Zf b.kinds s.kind).1)
noncomputable def zR(s:Sd)(k:Int):Bool:=!decide (s.kind=k)&&!decide (s.waits.getD k.toNat 0=0)
noncomputable def ZS(s:Sd)(k:Int)(t:T3):Bool:=decide (t.2.1=k)&&decide ((if t.2.2=1 then s.kind else s.before)=t.1)
def vj(b:Bk)(s:Sd)(k:Int):Bool:=b.shuns.any (ZS s k)
def zA(b:Bk)(s:Sd)(k:Int):Bool:=(List.zip b.dues (Jr b s k)).any fun p=>decide (p.1.2.2=s.place+1)&&!p.2
def vS(b:Bk)(s:Sd)(k:Int):Bool:=decide (s.place+1=b.size)&&decide (yg s k < (Zf b.kinds k).1)
def Je(b:Bk)(s:Sd)(k:Int):Option Str:=
 if YQ b s k=true then some "barred" else if yH b s k=true then some "long" else if yN b s k=true then some "short" else if zR s k=true then some "early" else if vj b s k=true then some "shun" else if zA b s k=true then some "due" else if vS b s k=true then some "cut" else none
noncomputable def oS:Option Str->D
 | none=>.non
 | some x=>.str x
structure Fit (b:Bk) (s:Sd):Prop where
 c0:-1<=s.kind
 c1:s.kind < (b.kinds.length:Int)
 w:s.waits.length=b.kinds.length
 m:s.met.length=b.dues.length
def Yr(b:Bk)(k:Int):Prop:=0<=k/\k < (b.kinds.length:Int)
theorem Uo(C:Addr)(s:Sd)(k:Int):Zl C [j0 s,.int k]=some (.int (yg s k)):=by
 unfold yg;simp only[Zl,VC];by_cases e:s.kind=k <;> simp[e]
theorem V8{α:Type}(em:α->D)(p:D->Bool)(q:α->Bool)(h:∀x,p (em x)=q x)(l:List α):(l.map em).any p=l.any q:=by
 induction l with
 | nil=>rfl
 | cons x l ih=>rw[List.map_cons,List.any_cons,List.any_cons,h,ih]
def qp(q:T3->Bool)(d:D):Bool:=match b9 d with
 | some t=>q t
 | none=>false
theorem zf(q:T3->Bool)(t:T3):qp q (t3 t)=q t:=rfl
theorem xP(C:Addr)(b:Bk)(s:Sd)(k:Int):vQ C [jz C b,j0 s,.int k]=some (.bl (YQ b s k)):=by
 have L:=ZC (g:=VW) (s:=Zb C) (items:=b.bars.map t3) (fun ρ=>∃x y z,ρ=[.bo (jz C b),.bo (j0 s),.bo (.int k),.cl (.int (s.place+1)),x,y,z]) (qp (Yy k (s.place+1))) (.rt (.bl true)) (.inl ⟨_,rfl⟩) ?_ ⟨.un,.un,.un,rfl⟩
 ·rw[V8 t3 _ (Yy k (s.place+1)) (zf _)]at L;unfold YQ;have e:=aH C b;simp only[vQ,vP];rcases L with⟨L1,L2⟩ | ⟨L1,ρ',_,L2⟩
  ·rw[L1];simp[L2]
  ·rw[L1];simp[L2]
 ·rintro d hd ρ ⟨x,y,z,rfl⟩;obtain⟨t,_,rfl⟩:=List.mem_map.mp hd;obtain⟨u,v,w⟩:=t;refine⟨_,rfl,?_⟩;rw[zf];unfold Yy;simp only[Zb];by_cases h1:u=k
  ·by_cases h2:v<=s.place+1
   ·by_cases h3:s.place+1<=w <;> simp[h1,h2,h3]
   ·simp[h1,h2]
  ·simp[h1]
theorem Bq(C:Addr)(b:Bk)(s:Sd)(k:Int)(h:Yr b k):uF C [jz C b,j0 s,.int k]=some (.bl (yH b s k)):=by
 unfold yH;simp only[uF,uE];by_cases h1:s.kind=k <;> simp[h1,zo h.1 h.2]
theorem aJ(C:Addr)(b:Bk)(s:Sd)(k:Int)(X:Fit b s):Vy C [jz C b,j0 s,.int k]=some (.bl (yN b s k)):=by
 unfold yN;simp only[Vy,Vx];by_cases h1:s.kind=k
 ·simp[h1]
 ·by_cases h2:s.kind=-1
  ·rw[h2]at h1;simp[h1,h2]
  ·simp[h1,h2,zo (ks:=b.kinds) (k:=s.kind) (by have:=X.c0;omega) X.c1]
theorem aK(C:Addr)(s:Sd)(k:Int)(h0:0<=k)(h1:k < (s.waits.length:Int)):VA C [j0 s,.int k]=some (.bl (zR s k)):=by
 unfold zR;have e2:=yR (f:=D.int) (xs:=s.waits) (d:=0) h0 h1;simp only[VA,Vz];by_cases h1:s.kind=k <;> simp[h1,e2]
theorem Br(C:Addr)(b:Bk)(s:Sd)(k:Int):ZJ C [jz C b,j0 s,.int k]=some (.bl (vj b s k)):=by
 have L:=ZC (g:=V5) (s:=zx C) (items:=b.shuns.map t3) (fun ρ=>∃x y z u,ρ=[.bo (jz C b),.bo (j0 s),.bo (.int k),x,y,z,u]) (qp (ZS s k)) (.rt (.bl true)) (.inl ⟨_,rfl⟩) ?_ ⟨.un,.un,.un,.un,rfl⟩
 ·rw[V8 t3 _ (ZS s k) (zf _)]at L;unfold vj;have e:=xO C b;simp only[ZJ,ZI];rcases L with⟨L1,L2⟩ | ⟨L1,ρ',_,L2⟩
  ·rw[L1];simp[L2]
  ·rw[L1];simp[L2]
 ·rintro d hd ρ ⟨x,y,z,u0,rfl⟩;obtain⟨t,_,rfl⟩:=List.mem_map.mp hd;obtain⟨u,v,w⟩:=t;refine⟨_,rfl,?_⟩;rw[zf];unfold ZS;simp only[zx];by_cases h1:w=1
  ·by_cases h2:v=k
   ·by_cases h3:s.kind=u <;> simp[h1,h2,h3]
   ·simp[h1,h2]
  ·by_cases h2:v=k
   ·by_cases h3:s.before=u <;> simp[h1,h2,h3]
   ·simp[h1,h2]
theorem UW{b:Bk}{s:Sd}{k:Int}(X:Fit b s):(Jr b s k).length=b.dues.length:=by
 unfold Jr;rw[List.length_zipWith,X.m];omega
theorem Bs{b:Bk}{s:Sd}{i:Nat}{d:D}(h:(List.zipWith (fun p q=>D.tup [p,q]) (b.dues.map t3) (s.met.map D.bl))[i]?=some d):∃t m,b.dues[i]?=some t/\s.met[i]?=some m/\d=.tup [t3 t,.bl m]:=by
 rw[List.getElem?_zipWith,List.getElem?_map,List.getElem?_map]at h;cases h1:b.dues[i]? with
 | none=>rw[h1]at h;cases h
 | some t=>
  cases h2:s.met[i]? with
  | none=>rw[h1,h2]at h;cases h
  | some m=>rw[h1,h2]at h;cases h;exact⟨t,m,rfl,rfl,rfl⟩
theorem uJ{α:Type}{xs:List α}{i:Nat}{t:α}(h:xs[i]?=some t):xs.take (i+1)=xs.take i++[t]:=by
 rw[List.take_add_one,h];rfl
theorem xQ(C:Addr)(b:Bk)(s:Sd)(k:Int)(ok:OkB b)(X:Fit b s):Zk C [jz C b,j0 s,.int k]=some (.tup ((Jr b s k).map .bl)):=by
 have hl:=UW (k:=k) X;have hd2:=ok.d2;have L:=JF (g:=uG) (s:=ZK C) (items:=List.zipWith (fun p q=>D.tup [p,q]) (b.dues.map t3) (s.met.map D.bl)) (fun i ρ=>∃x y z u v,ρ=[.bo (jz C b),.bo (j0 s),.bo (.int k),.cl (.int (s.place+1)),.ow none (.lst (((Jr b s k).take i).map .bl)),x,y,z,u,v]) ?_ ⟨.un,.un,.un,.un,.un,rfl⟩
 ·obtain⟨ρ',L1,x,y,z,u,v,rfl⟩:=L;have e:=UV C b;have hx:(List.zipWith (fun p q=>D.tup [p,q]) (b.dues.map t3) (s.met.map D.bl)).length=(Jr b s k).length:=by
   rw[List.length_zipWith,List.length_map,List.length_map,X.m,hl];omega
  rw[hx,List.take_length,List.take_zero,List.map_nil]at L1;simp only[Zk,VB];simp[-List.zipWith_map,L1]
 ·rintro i d ρ hi ⟨x,y,z,u,v,rfl⟩;obtain⟨t,m,h1,h2,rfl⟩:=Bs hi;have hg:(Jr b s k)[i]?=some (m||Yy k (s.place+1) t):=by
   unfold Jr;rw[List.getElem?_zipWith,h1,h2]
  have hlt:i < b.dues.length:=(List.getElem?_eq_some_iff.mp h1).1;have hz:((Jr b s k).take i).length < sizeLine:=jq (by rw[List.length_take];omega);have hz':min i (Jr b s k).length < sizeLine:=jq (by omega);obtain⟨p,q,r⟩:=t;rw[uJ hg];unfold Yy;refine⟨_,_,rfl,?_,.cl (t3 (p,q,r)),.cl (.bl m),.cl (.int p),.cl (.int q),.cl (.int r),rfl⟩;simp only[ZK];cases m with
  | true=>simp[t3,hz']
  | false=>
   by_cases e1:p=k
   ·by_cases e2:q<=s.place+1 <;> simp[t3,hz',e1,e2]
   ·simp[t3,hz',e1]
theorem DZ(C:Addr)(b:Bk)(s:Sd)(k:Int)(ok:OkB b)(X:Fit b s):ZM C [jz C b,j0 s,.int k]=some (.bl (zA b s k)):=by
 have e1:=xQ C b s k ok X;have L:=ZC (g:=V6) (s:=zy C) (items:=(List.zip b.dues (Jr b s k)).map fun p=>D.tup [t3 p.1,.bl p.2]) (fun ρ=>∃x y,ρ=[.bo (jz C b),.bo (j0 s),.bo (.int k),.cl (.int (s.place+1)),x,y]) (fun d=>match d with | .tup [t,.bl m]=>qp (fun t=>decide (t.2.2=s.place+1)&&!m) t | _=>false) (.rt (.bl true)) (.inl ⟨_,rfl⟩) ?_ ⟨.un,.un,rfl⟩
 ·rw[V8 (fun p:T3×Bool=>D.tup [t3 p.1,.bl p.2]) _ (fun p=>decide (p.1.2.2=s.place+1)&&!p.2) (fun p=>rfl)]at L;have ez:(List.zip b.dues (Jr b s k)).map (fun p=>D.tup [t3 p.1,.bl p.2])=List.zipWith (fun p q=>D.tup [p,q]) (b.dues.map t3) ((Jr b s k).map D.bl):=by
   rw[List.zipWith_map,List.zip,List.map_zipWith]
  rw[ez]at L;unfold zA;have e:=UV C b;simp only[ZM,ZL];rcases L with⟨L1,L2⟩ | ⟨L1,ρ',_,L2⟩
  ·rw[L1];simp[-List.zipWith_map,L2,e1]
  ·rw[L1];simp[-List.zipWith_map,L2,e1]
 ·rintro d hd ρ ⟨x,y,rfl⟩;obtain⟨⟨t,m⟩,_,rfl⟩:=List.mem_map.mp hd;obtain⟨u,v,w⟩:=t;refine⟨_,rfl,?_⟩;simp only[zy,zf];by_cases h1:w=s.place+1
  ·cases m <;> simp[h1]
  ·simp[h1]
theorem D_(C:Addr)(b:Bk)(s:Sd)(k:Int)(h:Yr b k):UR C [jz C b,j0 s,.int k]=some (.bl (vS b s k)):=by
 unfold vS;simp only[UR,UQ];by_cases h1:s.place+1=b.size <;> simp[h1,Uo,zo h.1 h.2]
theorem kM(C:Addr)(b:Bk)(s:Sd)(k:Int)(ok:OkB b)(X:Fit b s)(h:Yr b k):VD C [jz C b,j0 s,.int k]=some (oS (Je b s k)):=by
 have e1:=xP C b s k;have e2:=Bq C b s k h;have e3:=aJ C b s k X;have e4:=aK C s k h.1 (by rw[X.w];exact h.2);have e5:=Br C b s k;have e6:=DZ C b s k ok X;have e7:=D_ C b s k h;simp only[VD,US];unfold Je;cases h1:YQ b s k
 ·cases h2:yH b s k
  ·cases h3:yN b s k
   ·cases h4:zR s k
    ·cases h5:vj b s k
     ·cases h6:zA b s k
      ·cases h7:vS b s k <;> rw[h1]at e1 <;> rw[h2]at e2 <;> rw[h3]at e3 <;> rw[h4]at e4 <;> rw[h5]at e5 <;> rw[h6]at e6 <;> rw[h7]at e7 <;> simp[e1,e2,e3,e4,e5,e6,e7,oS]
      ·rw[h1]at e1;rw[h2]at e2;rw[h3]at e3;rw[h4]at e4;rw[h5]at e5;rw[h6]at e6;simp[e1,e2,e3,e4,e5,e6,oS]
     ·rw[h1]at e1;rw[h2]at e2;rw[h3]at e3;rw[h4]at e4;rw[h5]at e5;simp[e1,e2,e3,e4,e5,oS]
    ·rw[h1]at e1;rw[h2]at e2;rw[h3]at e3;rw[h4]at e4;simp[e1,e2,e3,e4,oS]
   ·rw[h1]at e1;rw[h2]at e2;rw[h3]at e3;simp[e1,e2,e3,oS]
  ·rw[h1]at e1;rw[h2]at e2;simp[e1,e2,oS]
 ·rw[h1]at e1;simp[e1,oS]
theorem aL(C:Addr)(b:Bk)(s:Sd)(k:Int)(ok:OkB b)(X:Fit b s)(h:Yr b k):ZO C [jz C b,j0 s,.int k]=some (.tup ((JG b s k).map .int)):=by
 have e:=xN C b;have c1:JD (gN 0) jM (ja uo [(false,d2 Z1 (dV 0) (dK (D.int 1))),(false,dK (D.int 0))]) (s.waits.map D.int) [.un]=some (s.waits.map fun x=>D.int (mx (x - 1) 0)):=Jk D.int _ fun t _=>⟨_,rfl,rfl,by simp[mx]⟩
 have hk2:=ok.k2;have hw:=X.w;have sz:s.waits.length<=sizeLine:=wQa (jq (by omega));have i1:∀n:Nat,n=s.waits.length->yt n k=some k.toNat:=fun n hn=>G8 h.1 (by have:=h.2;omega);simp only[ZO,ZN,JG];by_cases h1:s.kind=-1
 ·simp[c1,sz,h1,i1,List.map_set];rfl
 ·have i2:yt s.waits.length s.kind=some s.kind.toNat:=G8 (by have:=X.c0;omega) (by have:=X.c1;omega);simp[c1,sz,h1,i1,i2,List.map_set,zo (ks:=b.kinds) (k:=s.kind) (by have:=X.c0;omega) X.c1];rfl
theorem wT(C:Addr)(b:Bk)(s:Sd)(k:Int)(ok:OkB b)(X:Fit b s)(h:Yr b k):zd C [jz C b,j0 s,.int k]=some (j0 (JH b s k)):=by
 simp only[zd,ZP];simp[Uo,aL C b s k ok X h,xQ C b s k ok X];rfl
theorem Gb(b:Bk)(s:Sd)(k:Int):(JG b s k).length=s.waits.length:=by
 unfold JG;split <;> simp
theorem Fit.next{b:Bk}{s:Sd}(X:Fit b s){k:Int}(h:Yr b k):Fit b (JH b s k):=⟨by have:=h.1;show -1<=k;omega,h.2,by show(JG b s k).length=_;rw[Gb,X.w],UW X⟩
theorem Fit.empty(b:Bk):Fit b (jN b):=⟨by show -1<=(-1:Int);decide,by show(-1:Int) < _;omega,by simp[jN],by simp[jN]⟩
def jV(b:Bk):Sd->List Int->Sd×Option Str
 | s,[]=>(s,none)
 | s,k::r=>match Je b s k with
  | some w=>(s,some w)
  | none=>jV b (JH b s k) r
theorem xR(C:Addr)(b:Bk)(row:List Int)(ok:OkB b)(h:∀n∈row,Yr b n):UU C [jz C b,.lst (row.map .int)]=some (.tup [j0 (jV b (jN b) row).1,oS (jV b (jN b) row).2]):=by
 have key:∀(r:List Int) (s:Sd) (x y:Sl),Fit b s->(∀n∈r,Yr b n)->∃x' y',jS Zm (Zn C) (r.map D.int) [.bo (jz C b),.bo (.lst (row.map .int)),.cl (j0 s),x,y]=some (match jV b s r with
   | (s',none)=>.nx [.bo (jz C b),.bo (.lst (row.map .int)),.cl (j0 s'),x',y']
   | (s',some w)=>.rt (.tup [j0 s',.str w])):=by
  intro r;induction r with
  | nil=>intro s x y _ _;exact⟨x,y,rfl⟩
  | cons k r ih=>
   intro s x y X hr;have hk:=hr k wNa;have e:=kM C b s k ok X hk;cases hb:Je b s k with
   | some w=>
    rw[hb]at e;refine⟨.un,.un,?_⟩;have e':jV b s (k::r)=(s,some w):=by unfold jV;rw[hb]
    rw[e'];simp[jS,Zm,Zn,e,oS]
   | none=>
    rw[hb]at e;have e2:=wT C b s k ok X hk;obtain⟨x',y',q⟩:=ih (JH b s k) (.cl (.int k)) (.cl .non) (X.next hk) fun n hn=>hr n (wMa _ hn);refine⟨x',y',?_⟩;have e':jV b s (k::r)=jV b (JH b s k) r:=by rw[jV,hb]
    rw[e',<-q];simp[jS,Zm,Zn,e,e2,oS]
 obtain⟨x',y',q⟩:=key row (jN b) .un .un (Fit.empty b) h;simp only[UU,UT];have e0:=aI C b ok;revert q;generalize jV b (jN b) row=z;obtain⟨s',w⟩:=z;intro q;cases w <;> simp[e0,q,oS]
theorem jO{a b:Int}(h:0 < b):0<=a % b/\a % b < b:=⟨Int.emod_nonneg _ (by omega),Int.emod_lt_of_pos _ h⟩
theorem JV{α β:Type}(f:α->β)(xs:List α)(lo hi:Option Int):jJ (xs.map f) lo hi=(jJ xs lo hi).map f:=by
 unfold jJ;rw[List.length_map,List.map_take,List.map_drop]
theorem UX{α:Type}(xs:List α)(lo hi:Option Int):(jJ xs lo hi).length<=xs.length:=by
 unfold jJ;rw[List.length_take,List.length_drop];omega
theorem V9{α:Type}(xs:List α)(n:Nat):jJ xs (some (n:Int)) none=xs.drop n:=by
 unfold jJ;have e:HT.sIx xs.length xs.length none=xs.length:=rfl;rw[HT.sIx_nat,e];by_cases h:n<=xs.length
 ·rw[Nat.min_eq_left h,List.take_of_length_le (by rw[List.length_drop];omega)]
 ·rw[Nat.min_eq_right (by omega),List.drop_of_length_le (by omega),List.drop_of_length_le (by omega)];simp
theorem xS{α:Type}(xs:List α)(n:Nat):jJ xs none (some (n:Int))=xs.take n:=by
 unfold jJ;have e:HT.sIx xs.length 0 none=0:=rfl;rw[HT.sIx_nat,e,List.drop_zero,Nat.sub_zero];by_cases h:n<=xs.length
 ·rw[Nat.min_eq_left h]
 ·rw[Nat.min_eq_right (by omega),List.take_of_length_le (by omega),List.take_of_length_le (by omega)]
theorem aM{α:Type}(xs:List α)(n m:Nat)(h1:n<=xs.length)(h2:m<=xs.length):jJ xs (some (n:Int)) (some (m:Int))=(xs.drop n).take (m - n):=by
 unfold jJ;rw[HT.sIx_nat,HT.sIx_nat,Nat.min_eq_left h1,Nat.min_eq_left h2]
theorem Zo{i j:Int}(h1:-(2 ^ 64) < i)(h2:i < 2 ^ 64):uh i j=true:=by
 have e:(2:Int) ^ 64=18446744073709551616:=by decide
 rw[e]at h1 h2;unfold uh;rw[Bool.or_eq_true,Nat.blt_eq];exact .inl (by omega)
theorem Qj(C:Addr)(ns:List Int)(m:Int)(h63:ns.length<=63)(m0:0<=m)(m1:m<=1000):∃ms:List Int,zq C [.scr ns,.int m]=some (.lst (ms.map .int))/\(ms.length:Int)=m:=by
 have inner:∀(v x seed:Int) (ms:List Int) (x6:Sl) (c:Nat),ms.length<=c->c<=5000->∃(ms':List Int) (v':Int) (x6':Sl),jS YK (JS C) (jK 0 60) [.bo (.scr ns),.bo (.int m),.ow none (.lst (ms.map .int)),.cl (.int seed),.cl (.int x),.cl (.int v),x6]=some (.nx [.bo (.scr ns),.bo (.int m),.ow none (.lst (ms'.map .int)),.cl (.int seed),.cl (.int x),.cl (.int v'),x6'])/\ms'.length<=c+60:=by
  intro v x seed ms x6 c hc hc2;have L:=JF (g:=YK) (s:=JS C) (items:=jK 0 60) (fun i ρ=>∃(ms':List Int) (v':Int) (x6':Sl),ρ=[.bo (.scr ns),.bo (.int m),.ow none (.lst (ms'.map .int)),.cl (.int seed),.cl (.int x),.cl (.int v'),x6']/\ms'.length<=c+i) ?_ ⟨ms,v,x6,rfl,hc⟩
  ·obtain⟨ρ',L1,ms',v',x6',rfl,hl⟩:=L;exact⟨ms',v',x6',L1,hl⟩
  ·rintro i d ρ hi ⟨ms',v',x6',rfl,hl⟩;have hi60:i < 60:=by have:=(List.getElem?_eq_some_iff.mp hi).1;simpa[jK]using this
   have hz:ms'.length < sizeLine:=jq (by omega);by_cases h0:0 < v'
   ·refine⟨_,[.bo (.scr ns),.bo (.int m),.ow none (.lst ((ms'++[v' % 1009]).map .int)),.cl (.int seed),.cl (.int x),.cl (.int (v' / 1009)),.cl d],rfl,?_,ms'++[v' % 1009],v' / 1009,.cl d,rfl,by simp;omega⟩;simp[JS,h0,hz]
   ·refine⟨_,[.bo (.scr ns),.bo (.int m),.ow none (.lst (ms'.map .int)),.cl (.int seed),.cl (.int x),.cl (.int v'),.cl d],rfl,?_,ms',v',.cl d,rfl,by omega⟩;simp[JS,h0]
 have L:=JF (g:=yA) (s:=yB C) (items:=(jJ ns none (some 63)).map D.int) (fun i ρ=>∃(ms:List Int) (seed:Int) (x4 x5 x6:Sl),ρ=[.bo (.scr ns),.bo (.int m),.ow none (.lst (ms.map .int)),.cl (.int seed),x4,x5,x6]/\0<=seed/\seed < 2147483648/\ms.length<=i * 61) ?_ ⟨[],29,.un,.un,.un,rfl,by decide,by decide,by simp⟩
 ·obtain⟨ρ',L1,ms,seed,x4,x5,x6,rfl,s0,s1,hl⟩:=L;have hc:=UX ns none (some 63);rw[List.length_map]at hl;have hl:ms.length<=4000:=by omega
  obtain⟨ρ2,W1,⟨ms2,seed2,rfl,t0,t1,hl2⟩,W2⟩:=wJ (dt:=JT C) (s:=YL C) (fun ρ=>∃(ms:List Int) (seed:Int),ρ=[.bo (.scr ns),.bo (.int m),.ow none (.lst (ms.map .int)),.cl (.int seed),x4,x5,x6]/\0<=seed/\seed < 2147483648/\ms.length<=4000) (fun ρ=>match ρ with | [_,_,.ow _ (.lst l),_,_,_,_]=>6000 - l.length | _=>0) (fun ρ=>by
    rintro⟨ms,seed,rfl,s0,s1,hl⟩;by_cases h:(ms.length:Int) < m
    ·right;refine⟨by simp[JT,h],?_⟩;have b1:=jO (a:=seed * seed+69621 * seed+7 * (ms.length:Int)+5) (b:=2147483629) (by decide);have hz:ms.length < sizeLine:=jq (by omega);refine⟨[.bo (.scr ns),.bo (.int m),.ow none (.lst ((ms++[(seed * seed+69621 * seed+7 * (ms.length:Int)+5) % 2147483629 / 1013 % 9973]).map .int)),.cl (.int ((seed * seed+69621 * seed+7 * (ms.length:Int)+5) % 2147483629)),x4,x5,x6],?_,⟨_,_,rfl,b1.1,by omega,by simp;omega⟩,by simp;omega⟩;simp[YL,Zo (i:=seed) (j:=seed) (by omega) (by omega),Zo (i:=69621) (j:=seed) (by decide) (by decide),Zo (i:=7) (j:=(ms.length:Int)) (by decide) (by decide),hz]
    ·left;simp[JT,h]) (n:=20000) ⟨ms,seed,rfl,s0,s1,hl⟩ (by simp;omega)
  have hm:m<=(ms2.length:Int):=by
   simp[JT]at W2;omega
  refine⟨ms2.take m.toNat,?_,by rw[List.length_take];omega⟩;simp only[zq,zp];have em:m=((m.toNat:Nat):Int):=by omega
  have ec:jJ (ms2.map D.int) none (some m)=(ms2.take m.toNat).map D.int:=by
   have z:=xS ms2 m.toNat
   rw[<-em]at z;rw[JV,z]
  rw[List.map_nil]at L1;have s60:J9 60=true:=by decide
  simp[JV,L1,W1]at ec⊢;simp[ec]
 ·rintro i d ρ hi ⟨ms,seed,x4,x5,x6,rfl,s0,s1,hl⟩;have hlt:i < 63:=by
   have h1:=(List.getElem?_eq_some_iff.mp hi).1;have h2:=UX ns none (some 63);rw[List.length_map]at h1;omega
  obtain⟨x,rfl⟩:∃x,d=D.int x:=by
   rw[List.getElem?_map]at hi;cases q:(jJ ns none (some 63))[i]? with
   | none=>rw[q]at hi;cases hi
   | some z=>rw[q]at hi;exact⟨z,(vFa hi).symm⟩
  have b1:=jO (a:=seed * 48271+x % 1000003+11) (b:=2147483647) (by decide);have s60:J9 60=true:=by decide
  have hz:ms.length < sizeLine:=jq (by omega);by_cases h0:x - 10 ^ 18 < 0
  ·obtain⟨ms',v',x6',e,hl'⟩:=inner (x - 10 ^ 18) x ((seed * 48271+x % 1000003+11) % 2147483647) (ms++[x % 9973]) x6 (i * 61+1) (by simp;omega) (by omega);refine⟨_,[.bo (.scr ns),.bo (.int m),.ow none (.lst (ms'.map .int)),.cl (.int ((seed * 48271+x % 1000003+11) % 2147483647)),.cl (.int x),.cl (.int v'),x6'],rfl,?_,ms',_,_,_,_,rfl,b1.1,by omega,by omega⟩;rw[List.map_append]at e;simp only[yB,yA];simp at e h0;simp[Zo (i:=seed) (j:=48271) (by omega) (by omega),h0,hz,e,s60]
  ·obtain⟨ms',v',x6',e,hl'⟩:=inner (x - 10 ^ 18) x ((seed * 48271+x % 1000003+11) % 2147483647) ms x6 (i * 61+1) (by omega) (by omega);refine⟨_,[.bo (.scr ns),.bo (.int m),.ow none (.lst (ms'.map .int)),.cl (.int ((seed * 48271+x % 1000003+11) % 2147483647)),.cl (.int x),.cl (.int v'),x6'],rfl,?_,ms',_,_,_,_,rfl,b1.1,by omega,by omega⟩;simp only[yB,yA];simp at e h0;have h0':¬(x - 1000000000000000000 < 0):=by omega
   simp[Zo (i:=seed) (j:=48271) (by omega) (by omega),h0',hz,e,s60]
theorem yO{ds:List Int}{k:Int}(h0:0<=k)(h1:k < (ds.length:Int)):∃v:Int,atI (ds.map D.int) k=some (.int v):=⟨_,yR (d:=0) h0 h1⟩
theorem VG{α:Type}{p:α->Prop}{ts:List α}{t:α}(h:∀x∈ts,p x)(ht:p t):∀x∈ts++[t],p x:=fun x hx=>by
 rcases List.mem_append.mp hx with z | z
 ·exact h x z
 ·have e:x=t:=by simpa using z
  rw[e];exact ht
theorem GU{lo:Int}{n i:Nat}{d:D}(h:(jK lo n)[i]?=some d):i < n/\d=.int (lo+i):=by
 unfold jK at h;rw[List.getElem?_map]at h;cases q:(List.range n)[i]? with
 | none=>rw[q]at h;cases h
 | some j=>
  rw[q]at h;obtain⟨h1,h2⟩:=List.getElem?_eq_some_iff.mp q;rw[List.getElem_range]at h2;rw[List.length_range]at h1;exact⟨h1,by rw[<-Option.some.inj h,h2]⟩
theorem Zp(C:Addr)(m s n:Int)(ds:List Int)(m1:1<=m)(s1:1<=s)(s2:s<=1000)(n0:0<=n)(n1:n<=20)(hn:3 * n<=(ds.length:Int)):∃ts:List T3,Yo C [.int m,.int s,.int n,.lst (ds.map .int)]=some (.lst (ts.map t3))/\(ts.length:Int)=n/\∀t∈ts,fB m s t=true:=by
 have L:=JF (g:=ZE) (s:=YM C) (items:=jK 0 n.toNat) (fun i ρ=>∃(ts:List T3) (x y:Sl),ρ=[.bo (.int m),.bo (.int s),.bo (.int n),.bo (.lst (ds.map .int)),.ow none (.lst (ts.map t3)),x,y]/\ts.length=i/\∀t∈ts,fB m s t=true) ?_ ⟨[],.un,.un,rfl,rfl,fun _ h=>by cases h⟩
 ·obtain⟨ρ',L1,ts,x,y,rfl,hl,ht⟩:=L;have hr:(jK 0 n.toNat).length=n.toNat:=by simp[jK]
  rw[hr]at hl;refine⟨ts,?_,by omega,ht⟩;simp only[Yo,zr];rw[List.map_nil]at L1;have e1:J9 n=true:=JK (by omega) (by omega);simp[e1,L1]
 ·rintro i d ρ hi ⟨ts,x,y,rfl,hl,ht⟩;obtain⟨hi1,rfl⟩:=GU hi;have c3:uh 3 (0+(i:Int))=true:=Zo (by decide) (by decide);obtain⟨v1,a1⟩:=yO (ds:=ds) (k:=3 * (0+(i:Int))+1) (by omega) (by omega);obtain⟨v0,a0⟩:=yO (ds:=ds) (k:=3 * (0+(i:Int))) (by omega) (by omega);obtain⟨v2,a2⟩:=yO (ds:=ds) (k:=3 * (0+(i:Int))+2) (by omega) (by omega);have f1:=jO (a:=v1) (b:=s) (by omega);have f3:=jO (a:=v2) (b:=s - (1+v1 % s)+1) (by omega);have f0:=jO (a:=v0) (b:=m) (by omega);have hz:ts.length < sizeLine:=jq (by omega);have q1:0 < s:=by omega
  have q2:0 < m:=by omega
  have q3:0 < s - (1+v1 % s)+1:=by omega
  refine⟨_,[.bo (.int m),.bo (.int s),.bo (.int n),.bo (.lst (ds.map .int)),.ow none (.lst ((ts++[(v0 % m,1+v1 % s,1+v1 % s+v2 % (s - (1+v1 % s)+1))]).map t3)),.cl (.int (0+(i:Int))),.cl (.int (1+v1 % s))],rfl,?_,_,_,_,rfl,by simp[hl],VG ht ?_⟩
  ·simp only[YM];simp at a0 a1 a2 c3;simp[c3,a0,a1,a2,q1,q2,q3,hz,t3]
  ·unfold fB;simp only[Bool.and_eq_true,decide_eq_true_eq];omega
theorem U7{ns:List Int}{k lo hi:Int}(h0:0<=k)(h1:k < (ns.length:Int))(hb:∀v∈ns,lo<=v/\v<=hi):∃v,atI (ns.map D.int) k=some (.int v)/\lo<=v/\v<=hi:=by
 have hk:k.toNat < ns.length:=by omega
 refine⟨ns.getD k.toNat 0,yR h0 h1,?_⟩;rw[List.getD_eq_getElem?_getD,List.getElem?_eq_getElem hk];exact hb _ (List.getElem_mem hk)
theorem Bt(C:Addr)(ds:List Int)(mo:Int)(hn:62<=ds.length)(hn2:ds.length<=1000)(mo1:1<=mo)(mo2:mo<=30):∃b:Bk,vA C [.lst (ds.map .int),.int mo]=some (jf b)/\OkB b/\b.size<=mo:=by
 have at0:∀k:Int,0<=k->k < 62->∃v:Int,atI (ds.map D.int) k=some (.int v):=fun k h0 h1=>yO h0 (by omega);obtain⟨u0,a0⟩:=at0 0 (by decide) (by decide);obtain⟨u1,a1⟩:=at0 1 (by decide) (by decide);obtain⟨u14,a14⟩:=at0 14 (by decide) (by decide);obtain⟨u15,a15⟩:=at0 15 (by decide) (by decide);obtain⟨u25,a25⟩:=at0 25 (by decide) (by decide);have g0:=jO (a:=u0) (b:=7) (by decide);have g1:=jO (a:=u1) (b:=mo) (by omega);have g14:=jO (a:=u14) (b:=7) (by decide);have g15:=jO (a:=u15) (b:=6) (by decide);have g25:=jO (a:=u25) (b:=6) (by decide);obtain⟨m,pm,m1,m4⟩:=U7 (ns:=[2,3,3,2,1,4,3]) (k:=u0 % 7) (lo:=1) (hi:=4) g0.1 g0.2 (by decide);obtain⟨nh,ph,nh0,nh1⟩:=U7 (ns:=[0,0,1,2,3,0,20]) (k:=u14 % 7) (lo:=0) (hi:=20) g14.1 g14.2 (by decide);obtain⟨nb,pb,nb0,nb1⟩:=U7 (ns:=[0,1,0,2,12,0]) (k:=u15 % 6) (lo:=0) (hi:=12) g15.1 g15.2 (by decide);obtain⟨nd,pd,nd0,nd1⟩:=U7 (ns:=[0,1,0,2,3,1]) (k:=u25 % 6) (lo:=0) (hi:=3) g25.1 g25.2 (by decide);clear g0 g14 g15 g25;have K1:=JF (g:=VR) (s:=YE C) (items:=jK 0 m.toNat) (fun i ρ=>∃(ts:List T3) (x5 x6 x7:Sl),ρ=[.bo (.lst (ds.map .int)),.bo (.int mo),.cl (.int m),.cl (.int (1+u1 % mo)),.ow none (.lst (ts.map t3)),x5,x6,x7,.un,.un,.un,.un,.un]/\ts.length=i/\∀t∈ts,fK t=true) ?_ ⟨[],.un,.un,.un,rfl,rfl,fun _ h=>by cases h⟩
 rotate_left
 ·rintro i d ρ hi ⟨ts,x5,x6,x7,rfl,hl,ht⟩;obtain⟨hi1,rfl⟩:=GU hi;obtain⟨w2,b2⟩:=at0 (2+(0+(i:Int))) (by omega) (by omega);obtain⟨w6,b6⟩:=at0 (6+(0+(i:Int))) (by omega) (by omega);obtain⟨w10,b10⟩:=at0 (10+(0+(i:Int))) (by omega) (by omega);have e2:=jO (a:=w2) (b:=7) (by decide);have e10:=jO (a:=w10) (b:=7) (by decide);obtain⟨le,pl,le0,le3⟩:=U7 (ns:=[0,0,1,0,2,3,1]) (k:=w2 % 7) (lo:=0) (hi:=3) e2.1 e2.2 (by decide);obtain⟨re,pr,re0,re4⟩:=U7 (ns:=[0,1,2,0,3,4,1]) (k:=w10 % 7) (lo:=0) (hi:=4) e10.1 e10.2 (by decide);clear e2 e10;have q5:0 < 5 - (1+le):=by omega
  have q5':1+le < 5:=by omega
  have e6:=jO (a:=w6) (b:=5 - (1+le)) q5;have e3:=jO (a:=re) (b:=3) (by decide);have hz:ts.length < sizeLine:=jq (by omega);have fin:∀r:Int,0<=r->r<=4->fK (1+le,1+le+w6 % (5 - (1+le)),r)=true:=fun r h0 h4=>by
   unfold fK;simp only[Bool.and_eq_true,decide_eq_true_eq];omega
  have cc:∃r:Int,0<=r/\r<=4/\YE C ([.bo (.lst (ds.map .int)),.bo (.int mo),.cl (.int m),.cl (.int (1+u1 % mo)),.ow none (.lst (ts.map t3)),.cl (.int (0+(i:Int))),x6,x7,.un,.un,.un,.un,.un])=some (.nx [.bo (.lst (ds.map .int)),.bo (.int mo),.cl (.int m),.cl (.int (1+u1 % mo)),.ow none (.lst ((ts++[(1+le,1+le+w6 % (5 - (1+le)),r)]).map t3)),.cl (.int (0+(i:Int))),.cl (.int (1+le)),.cl (.int r),.un,.un,.un,.un,.un]):=by
   simp only[YE];simp at b2 b6 b10 pl pr;by_cases h1:m=4
   ·by_cases h2:6 < 1+u1 % mo
    ·exact⟨re % 3,by omega,by omega,by simp[b2,b6,b10,pl,pr,h1,h2,q5,q5',hz,t3]⟩
    ·by_cases h3:12 < 1+u1 % mo
     ·exact⟨re % 3,by omega,by omega,by simp[b2,b6,b10,pl,pr,h1,h2,h3,q5,q5',hz,t3]⟩
     ·exact⟨re,by omega,by omega,by simp[b2,b6,b10,pl,pr,h1,h2,h3,q5,q5',hz,t3]⟩
   ·by_cases h3:12 < 1+u1 % mo
    ·exact⟨re % 3,by omega,by omega,by simp[b2,b6,b10,pl,pr,h1,h3,q5,q5',hz,t3]⟩
    ·exact⟨re,by omega,by omega,by simp[b2,b6,b10,pl,pr,h1,h3,q5,q5',hz,t3]⟩
  obtain⟨r,r0,r4,er⟩:=cc;exact⟨_,_,rfl,er,_,_,_,_,rfl,by simp[hl],VG ht (fin r r0 r4)⟩
 obtain⟨ρk,K2,ks,x5,x6,x7,rfl,lk,hk⟩:=K1;have hrk:(jK 0 m.toNat).length=m.toNat:=by simp[jK]
 rw[hrk]at lk;have S1:=JF (g:=VS) (s:=Z4 C) (items:=jK 0 nh.toNat) (fun i ρ=>∃(ts:List T3) (x5 x9:Sl),ρ=[.bo (.lst (ds.map .int)),.bo (.int mo),.cl (.int m),.cl (.int (1+u1 % mo)),.ow none (.lst (ks.map t3)),x5,x6,x7,.ow none (.lst (ts.map t3)),x9,.un,.un,.un]/\ts.length=i/\∀t∈ts,fS m t=true) ?_ ⟨[],x5,.un,rfl,rfl,fun _ h=>by cases h⟩
 rotate_left
 ·rintro i d ρ hi ⟨ts,x5,x9,rfl,hl,ht⟩;obtain⟨hi1,rfl⟩:=GU hi;have d5:=jO (a:=0+(i:Int)) (b:=5) (by decide);have d6:0<=(0+(i:Int)) / 5/\(0+(i:Int)) / 5<=3:=by omega
  obtain⟨w0,b0⟩:=at0 (44+3 * ((0+(i:Int)) % 5)+(0+(i:Int)) / 5) (by omega) (by omega);obtain⟨w1,b1⟩:=at0 (44+3 * ((0+(i:Int)) % 5)+(0+(i:Int)) / 5+1) (by omega) (by omega);obtain⟨w2,b2⟩:=at0 (44+3 * ((0+(i:Int)) % 5)+(0+(i:Int)) / 5+2) (by omega) (by omega);have e0:=jO (a:=w0) (b:=m) (by omega);have e1:=jO (a:=w1) (b:=m) (by omega);have e2:=jO (a:=w2) (b:=2) (by decide);have qm:0 < m:=by omega
  have hz:ts.length < sizeLine:=jq (by omega);have c3:uh 3 ((0+(i:Int)) % 5)=true:=Zo (by decide) (by decide);refine⟨_,[.bo (.lst (ds.map .int)),.bo (.int mo),.cl (.int m),.cl (.int (1+u1 % mo)),.ow none (.lst (ks.map t3)),.cl (.int (0+(i:Int))),x6,x7,.ow none (.lst ((ts++[(w0 % m,w1 % m,1+w2 % 2)]).map t3)),.cl (.int (44+3 * ((0+(i:Int)) % 5)+(0+(i:Int)) / 5)),.un,.un,.un],rfl,?_,_,_,_,rfl,by simp[hl],VG ht ?_⟩
  ·simp only[Z4];simp at b0 b1 b2 c3;simp[c3,b0,b1,b2,qm,hz,t3]
  ·unfold fS;simp only[Bool.and_eq_true,decide_eq_true_eq];omega
 obtain⟨ρh,S2,hs,x5',x9,rfl,lh,hh⟩:=S1;have hrh:(jK 0 nh.toNat).length=nh.toNat:=by simp[jK]
 rw[hrh]at lh;obtain⟨ws,W1,W2⟩:∃ws:List Int,JD (gN 0) jM (d2 jk (d2 jb (dV 1) (d2 jk (dK (.int 16)) (d2 jI (d2 yx (dK (.int 5)) (dV 0)) (dK (.int 9))))) (d2 yx (dK (.int 7)) (dV 0))) (jK 0 36) [.un,.bo (.lst (ds.map .int))]=some (ws.map D.int)/\ws.length=36:=by
  have:=Jk (g:=gN 0) (dc:=jM) (de:=d2 jk (d2 jb (dV 1) (d2 jk (dK (.int 16)) (d2 jI (d2 yx (dK (.int 5)) (dV 0)) (dK (.int 9))))) (d2 yx (dK (.int 7)) (dV 0))) (ρ:=[.un,.bo (.lst (ds.map .int))]) (fun i:Nat=>D.int (0+(i:Int))) (fun i:Nat=>D.int (ds.getD (16+5 * (0+(i:Int)) % 9).toNat 0+7 * (0+(i:Int)))) (xs:=List.range 36) fun i hi=>by
   have hi:=List.mem_range.mp hi;have d9:=jO (a:=5 * (0+(i:Int))) (b:=9) (by decide);have a:=yR (f:=D.int) (xs:=ds) (d:=0) (k:=16+5 * (0+(i:Int)) % 9) (by omega) (by omega);have c5:uh 5 (0+(i:Int))=true:=Zo (by decide) (by decide);have c7:uh 7 (0+(i:Int))=true:=Zo (by decide) (by decide);refine⟨_,rfl,rfl,?_⟩;simp at a c5 c7;simp[c5,c7,a]
  refine⟨(List.range 36).map fun(i:Nat)=>ds.getD (16+5 * (0+(i:Int)) % 9).toNat 0+7 * (0+(i:Int)),?_,by simp⟩;rw[List.map_map];exact this
 obtain⟨bs,B1,B2,B3⟩:=Zp C m (1+u1 % mo) nb ws m1 (by omega) (by omega) nb0 (by omega) (by rw[W2];omega);have ec:jJ (ds.map D.int) (some 26) (some 35)=(jJ ds (some 26) (some 35)).map D.int:=JV _ _ _ _;have lc:(jJ ds (some 26) (some 35)).length=9:=by
  have:=aM ds 26 35 (by omega) (by omega);rw[show((26:Nat):Int)=26 from rfl,show((35:Nat):Int)=35 from rfl]at this;rw[this,List.length_take,List.length_drop];omega
 have e3:=jO (a:=nd) (b:=3) (by decide);have ek:(ks.length:Int)=m:=by omega
 have fin:∀n:Int,0<=n->n<=3->∀dd:List T3,(dd.length:Int)=n->(∀t∈dd,fB m (1+u1 % mo) t=true)->OkB ⟨1+u1 % mo,ks,hs,bs,dd⟩:=fun n n0 n3 dd hd hd2=>by
  refine⟨by show 1<=1+u1 % mo;omega,by show 1+u1 % mo<=30;omega,by show 1<=ks.length;omega,by show ks.length<=4;omega,by show hs.length<=20;omega,by show bs.length<=12;omega,by show dd.length<=3;omega,hk,?_,?_,?_⟩
  ·show∀t∈hs,fS (ks.length:Int) t=true;rw[ek];exact hh
  ·show∀t∈bs,fB (ks.length:Int) _ t=true;rw[ek];exact B3
  ·show∀t∈dd,fB (ks.length:Int) _ t=true;rw[ek];exact hd2
 have s1:J9 m=true:=JK (by omega) (by omega);have s2:J9 nh=true:=JK (by omega) (by omega);have z36:(36:Nat)<=sizeLine:=by decide
 have s3:J9 36=true:=by decide
 have hrw:(jK 0 36).length=36:=by simp[jK]
 have qmo:0 < mo:=by omega
 rw[List.map_nil]at K2 S2;simp only[vA,vz];simp only[List.map_cons,List.map_nil]at pm ph pb pd;by_cases c1:5 < 1+u1 % mo
 ·by_cases c2:2 < m
  ·obtain⟨dd,D1,D2,D3⟩:=Zp C m (1+u1 % mo) (nd % 3) (jJ ds (some 26) (some 35)) m1 (by omega) (by omega) (by omega) (by omega) (by omega);refine⟨⟨1+u1 % mo,ks,hs,bs,dd⟩,?_,fin _ (by omega) (by omega) dd D2 D3,by show 1+u1 % mo<=mo;omega⟩;simp[a0,a1,a14,a15,a25,pm,ph,pb,pd,qmo,s1,s2,s3,K2,S2,W1,z36,hrw,B1,ec,D1,c1,c2,jf]
  ·obtain⟨dd,D1,D2,D3⟩:=Zp C m (1+u1 % mo) nd (jJ ds (some 26) (some 35)) m1 (by omega) (by omega) (by omega) (by omega) (by omega);refine⟨⟨1+u1 % mo,ks,hs,bs,dd⟩,?_,fin _ (by omega) (by omega) dd D2 D3,by show 1+u1 % mo<=mo;omega⟩;simp[a0,a1,a14,a15,a25,pm,ph,pb,pd,qmo,s1,s2,s3,K2,S2,W1,z36,hrw,B1,ec,D1,c1,c2,jf]
 ·obtain⟨dd,D1,D2,D3⟩:=Zp C m (1+u1 % mo) nd (jJ ds (some 26) (some 35)) m1 (by omega) (by omega) (by omega) (by omega) (by omega);refine⟨⟨1+u1 % mo,ks,hs,bs,dd⟩,?_,fin _ (by omega) (by omega) dd D2 D3,by show 1+u1 % mo<=mo;omega⟩;simp[a0,a1,a14,a15,a25,pm,ph,pb,pd,qmo,s1,s2,s3,K2,S2,W1,z36,hrw,B1,ec,D1,c1,jf]
theorem wU(C:Addr)(b:Bk)(ok:OkB b):YZ C [jf b]=some (j0 (jN b)):=by
 have c1:JD (gN 0) jM (dK (.int 0)) (b.kinds.map t3) [.un]=some (b.kinds.map fun _=>D.int 0):=Jk t3 _ fun t _=>⟨_,rfl,rfl,rfl⟩
 have c2:JD (gN 0) jM (dK (.bl false)) (b.dues.map t3) [.un]=some (b.dues.map fun _=>D.bl false):=Jk t3 _ fun t _=>⟨_,rfl,rfl,rfl⟩
 have h1:b.kinds.length<=sizeLine:=wQa (jq (by have:=ok.k2;omega));have h2:b.dues.length<=sizeLine:=wQa (jq (by have:=ok.d2;omega));simp only[YZ,ZF];simp[c1,c2,h1,h2,jN,j0];exact⟨List.map_const' ..,List.map_const' ..⟩
structure Form (b:Bk) (s:Sd):Prop extends Fit b s where
 wn:∀x∈s.waits,0<=x
def VH(b:Bk)(s:Sd)(k:Int):Bool:=yH b s k||(yN b s k||(zR s k||vj b s k))
theorem wV{xs:List Int}{k:Int}(h0:0<=k)(h1:k < (xs.length:Int)):xs.getD k.toNat 0∈xs:=by
 have hk:k.toNat < xs.length:=by omega
 rw[List.getD_eq_getElem?_getD,List.getElem?_eq_getElem hk];exact List.getElem_mem hk
theorem e8(s:Sd):YT (j0 s) (some 1) (some 5)=some (.tup [.int s.kind,.int s.len,.int s.before,.tup (s.waits.map .int)]):=by
 have sh:HT.sIx 6 0 (some 1)=1:=by decide
 have sh2:HT.sIx 6 6 (some 5)=5:=by decide
 simp[YT,j0,jJ,sh,sh2]
theorem xT(C:Addr)(b:Bk)(s:Sd)(k:Int)(ok:OkB b)(X:Form b s)(h:Yr b k):Ye C [jf b,j0 s,.int k]=some (.bl (VH b s k)):=by
 have hw:k < (s.waits.length:Int):=by rw[X.w];exact h.2
 have hx:=X.wn _ (wV h.1 hw);have ew:=yR (f:=D.int) (xs:=s.waits) (d:=0) h.1 hw;have ea:zR s k=(!decide (s.kind=k)&&decide (0 < s.waits.getD k.toNat 0)):=by
  unfold zR;by_cases z:s.waits.getD k.toNat 0=0
  ·rw[z];rfl
  ·rw[decide_eq_false z,decide_eq_true (show 0 < s.waits.getD k.toNat 0 by omega)];rfl
 have ek:=zo h.1 h.2;revert hx ew ea;generalize s.waits.getD k.toNat 0=wv;intro hx ew ea;have L:=ZC (g:=yD) (s:=JM C) (items:=b.shuns.map t3) (fun ρ=>∃x y z,ρ=[.bo (jf b),.bo (j0 s),.bo (.int k),.cl (.int s.kind),.cl (.int s.len),.cl (.int s.before),.cl (.tup (s.waits.map .int)),x,y,z]) (qp (ZS s k)) (.rt (.bl true)) (.inl ⟨_,rfl⟩) ?_ ⟨.un,.un,.un,rfl⟩
 ·rw[V8 t3 _ (ZS s k) (zf _)]at L;simp only[Ye,Yd];unfold VH;rw[ea];have L':∃r,jS yD (JM C) (b.shuns.map t3) [.bo (jf b),.bo (j0 s),.bo (.int k),.cl (.int s.kind),.cl (.int s.len),.cl (.int s.before),.cl (.tup (s.waits.map .int)),.un,.un,.un]=some r/\((vj b s k=true/\r=.rt (.bl true))∨(vj b s k=false/\∃ρ,r=.nx ρ)):=by
   rcases L with⟨L1,L2⟩ | ⟨L1,ρ',_,L2⟩
   ·exact⟨_,L2,.inl ⟨L1,rfl⟩⟩
   ·exact⟨_,L2,.inr ⟨L1,_,rfl⟩⟩
  obtain⟨r,L1,L2⟩:=L';simp only[J7,Z3,K_,Q_];have cutE':=e8 s
  conv=>lhs;simp[cutE',ek]
  by_cases e:s.kind=k
  ·by_cases e1:(Zf b.kinds k).2.1<=s.len
   ·simp[cutE',e,e1,ek,yH]
   ·rcases L2 with⟨L2,rfl⟩ | ⟨L2,ρ,rfl⟩ <;> simp[e]at L1 <;> simp[cutE',e,e1,ek,yH,yN,L1,L2]
  ·have e':¬k=s.kind:=fun z=>e z.symm
   conv=>lhs;simp[e,e']
   by_cases e2:s.kind=-1
   ·have e2':¬(-1:Int)=k:=fun z=>e (e2.trans z);have e2'':¬k=(-1:Int):=fun z=>e2' z.symm;by_cases e3:0 < wv
    ·simp[cutE',e,e',e2,e2',e2'',e3,ek,ew,yH,yN]
    ·rcases L2 with⟨L2,rfl⟩ | ⟨L2,ρ,rfl⟩ <;> simp[e2]at L1 <;> simp[cutE',e,e',e2,e2',e2'',e3,ek,ew,yH,yN,L1,L2]
   ·have ek2:=zo (ks:=b.kinds) (k:=s.kind) (by have:=X.c0;omega) X.c1
    conv=>lhs;simp[e2,ek2]
    by_cases e4:s.len < (Zf b.kinds s.kind).1
    ·simp[cutE',e,e',e2,e4,ek,ek2,yH,yN]
    ·by_cases e3:0 < wv
     ·simp[cutE',e,e',e2,e3,e4,ek,ek2,ew,yH,yN]
     ·rcases L2 with⟨L2,rfl⟩ | ⟨L2,ρ,rfl⟩ <;> simp[cutE',e,e',e2,e3,e4,ek,ek2,ew,yH,yN,L1,L2]
 ·rintro d hd ρ ⟨x,y,z,rfl⟩;obtain⟨t,ht,rfl⟩:=List.mem_map.mp hd;have hf:=ok.hs t ht;obtain⟨u,v,w⟩:=t;unfold fS at hf;simp only[Bool.and_eq_true,decide_eq_true_eq]at hf;refine⟨_,rfl,?_⟩;rw[zf];unfold ZS;simp only[JM];have a1:atI [D.int s.kind,D.int s.before] (1 - 1)=some (.int s.kind):=rfl;have a2:atI [D.int s.kind,D.int s.before] (2 - 1)=some (.int s.before):=rfl;by_cases h1:w=1
  ·subst h1;by_cases h2:v=k
   ·by_cases h3:s.kind=u <;> simp[h2,h3] <;> simp[atI,yt,h3]
   ·simp[h2]
  ·have h1:w=2:=by omega
   subst h1;by_cases h2:v=k
   ·by_cases h3:s.before=u <;> simp[h2,h3] <;> simp[atI,yt,h3]
   ·simp[h2]
theorem wW{b:Bk}{s:Sd}{k:Int}{i:Nat}{t:T3}{m:Bool}(ht:b.dues[i]?=some t)(hm:s.met[i]?=some m):(Jr b s k)[i]?=some (m||Yy k (s.place+1) t):=by
 unfold Jr;rw[List.getElem?_zipWith,ht,hm]
theorem wX{l:List T3}{i:Nat}{d:D}(h:(yi 0 (l.map t3))[i]?=some d):∃t,l[i]?=some t/\d=.tup [.int (i:Int),t3 t]:=by
 obtain⟨d',h1,h2⟩:=Z_ 0 _ i d h;rw[List.getElem?_map]at h1;cases q:l[i]? with
 | none=>rw[q]at h1;cases h1
 | some t=>
  rw[q]at h1;cases h1;exact⟨t,rfl,by rw[h2,Nat.zero_add]⟩
theorem Bu(C:Addr)(b:Bk)(s:Sd)(k:Int)(ok:OkB b)(X:Fit b s):Vw C [jf b,.int (s.place+1),.tup (s.met.map .bl),.int k]=some (if zA b s k=true then .non else .lst ((Jr b s k).map .bl)):=by
 have hl:=UW (k:=k) X;have hd2:=ok.d2;have L:=Vu (r:=.nx []) (g:=uC) (s:=Yg C) (items:=yi 0 (b.dues.map t3)) (fun i ρ=>(∃x5 x6 x7 x8,ρ=[.bo (jf b),.bo (.int (s.place+1)),.bo (.tup (s.met.map .bl)),.bo (.int k),.ow none (.lst (((Jr b s k).take i).map .bl)),x5,x6,x7,x8])/\∀j,j < i->∀t m,b.dues[j]?=some t->(Jr b s k)[j]?=some m->(decide (t.2.2=s.place+1)&&!m)=false)
  (fun i r=>r=.rt .non/\∃t m,b.dues[i]?=some t/\(Jr b s k)[i]?=some m/\(decide (t.2.2=s.place+1)&&!m)=true) ?_ ⟨⟨.un,.un,.un,.un,rfl⟩,fun j hj=>by omega⟩
 ·have hz:∀i t m,b.dues[i]?=some t->(Jr b s k)[i]?=some m->(t,m)∈List.zip b.dues (Jr b s k):=fun i t m h1 h2=>wYa (i:=i) (by rw[List.getElem?_zip_eq_some];exact⟨h1,h2⟩);simp only[Vw,Vv];rcases L with⟨ρ',L1,⟨x5,x6,x7,x8,rfl⟩,L2⟩ | ⟨i,d',hi,L1,L2,t,m,h1,h2,h3⟩
  ·rw[Y8,List.length_map,<-hl,List.take_length]at L1;have hd:zA b s k=false:=by
    unfold zA;rw[List.any_eq_false];rintro⟨t,m⟩ hm;obtain⟨i,hi⟩:=List.mem_iff_getElem?.mp hm;rw[List.getElem?_zip_eq_some]at hi;have hi':i < b.dues.length:=(List.getElem?_eq_some_iff.mp hi.1).1;have:=L2 i (by rw[Y8,List.length_map];exact hi') t m hi.1 hi.2;rw[this];exact vNa
   rw[hd];rw[List.take_zero,List.map_nil]at L1;simp[L1]
  ·cases L2;have hd:zA b s k=true:=by
    unfold zA;rw[List.any_eq_true];exact⟨(t,m),hz i t m h1 h2,h3⟩
   rw[hd];rw[List.take_zero,List.map_nil]at L1;simp[L1]
 ·rintro i d ρ hi ⟨⟨x5,x6,x7,x8,rfl⟩,hj⟩;obtain⟨t,ht,rfl⟩:=wX hi;have hlt:i < b.dues.length:=(List.getElem?_eq_some_iff.mp ht).1;have hm:s.met[i]?=some (s.met[i]'(by have:=X.m;omega)):=by simp
  revert hm;generalize s.met[i]'(by have:=X.m;omega)=m;intro hm;have hg:=wW (k:=k) ht hm;have ea:atI (s.met.map D.bl) (i:Int)=some (.bl m):=ZD (by omega) (by rw[List.getElem?_map];simp[hm]);have lenT:((Jr b s k).take i).length=i:=by rw[List.length_take];omega
  revert lenT;generalize hT:(Jr b s k).take i=L;intro lenT;have hz':L.length < sizeLine:=jq (by omega);have eb:∀c:Bool,atI (L.map D.bl++[.bl c]) (i:Int)=some (.bl c):=fun c=>ZD (by omega) (by
   rw[List.getElem?_append_right (by rw[List.length_map];omega),List.length_map];have:(i:Int).toNat - L.length=0:=by omega
   rw[this];rfl)
  obtain⟨p,q,r⟩:=t;have key:∀c:Bool,(m||Yy k (s.place+1) (p,q,r))=c->(((r=s.place+1/\c=false)/\Yg C [.bo (jf b),.bo (.int (s.place+1)),.bo (.tup (s.met.map .bl)),.bo (.int k),.ow none (.lst (L.map .bl)),.cl (.int (i:Int)),.cl (.int p),.cl (.int q),.cl (.int r)]=some (.rt .non))∨(¬(r=s.place+1/\c=false)/\Yg C [.bo (jf b),.bo (.int (s.place+1)),.bo (.tup (s.met.map .bl)),.bo (.int k),.ow none (.lst (L.map .bl)),.cl (.int (i:Int)),.cl (.int p),.cl (.int q),.cl (.int r)]=some (.nx [.bo (jf b),.bo (.int (s.place+1)),.bo (.tup (s.met.map .bl)),.bo (.int k),.ow none (.lst ((L++[c]).map .bl)),.cl (.int (i:Int)),.cl (.int p),.cl (.int q),.cl (.int r)]))):=by
   intro c hc;simp only[Yg];by_cases e0:r=s.place+1
   ·cases m with
    | true=>
     cases hc;right;refine⟨by simp,?_⟩;simp[ea,eb,hz',e0]
    | false=>
     unfold Yy at hc;by_cases e1:p=k
     ·by_cases e2:q<=s.place+1
      ·have e3:s.place+1<=r:=by omega
       simp[e1,e2,e3]at hc;subst hc;right;refine⟨by simp,?_⟩;simp[ea,eb,hz',e0,e1,e2,e3]
      ·simp[e1,e2]at hc;subst hc;left;refine⟨⟨e0,rfl⟩,?_⟩;simp[ea,eb,hz',e0,e1,e2]
     ·simp[e1]at hc;subst hc;left;refine⟨⟨e0,rfl⟩,?_⟩;simp[ea,eb,hz',e0,e1]
   ·right;refine⟨fun z=>e0 z.1,?_⟩;cases m with
    | true=>cases hc;simp[ea,eb,hz',e0]
    | false=>
     unfold Yy at hc;by_cases e1:p=k
     ·by_cases e2:q<=s.place+1
      ·by_cases e3:s.place+1<=r <;> simp[e1,e2,e3]at hc <;> subst hc <;> simp[ea,eb,hz',e0,e1,e2,e3]
      ·simp[e1,e2]at hc;subst hc;simp[ea,eb,hz',e0,e1,e2]
     ·simp[e1]at hc;subst hc;simp[ea,eb,hz',e0,e1]
  refine⟨_,rfl,?_⟩;rcases key _ rfl with⟨⟨e1,e2⟩,e3⟩ | ⟨e1,e3⟩
  ·exact .inr ⟨_,e3,rfl,_,_,ht,hg,by rw[e2];simp[e1]⟩
  ·refine .inl ⟨_,e3,⟨_,_,_,_,by rw[uJ hg,hT]⟩,fun j hj' t m h1 h2=>?_⟩;by_cases ej:j < i
   ·exact hj j ej t m h1 h2
   ·have ej:j=i:=by omega
    subst ej;rw[ht]at h1;rw[hg]at h2;cases h1;cases h2;rw[Bool.eq_false_iff];intro z;simp only[Bool.and_eq_true,decide_eq_true_eq,Bool.not_eq_true']at z;exact e1 z
def Jm(b:Bk)(s:Sd)(k:Int):Option Sd:=if s.place>=b.size then none else if (Je b s k).isSome=true then none else some (JH b s k)
def Yj:Option Sd->D
 | none=>.non
 | some s=>j0 s
noncomputable def uK(b:Bk)(s:Sd)(k:Int)(i:Nat)(t:T3)(x:Int):Int:=if (i:Int)=k then 0 else mx ((if (i:Int)=s.kind then t.2.2 else x) - 1) 0
theorem qr{b:Bk}{s:Sd}{k:Int}{i:Nat}{t:T3}{x:Int}(X:Fit b s)(h:Yr b k)(ht:b.kinds[i]?=some t)(hx:s.waits[i]?=some x):(JG b s k)[i]?=some (uK b s k i t x):=by
 have hi:i < s.waits.length:=(List.getElem?_eq_some_iff.mp hx).1;have k0:=h.1;have e3:∀j:Int,0<=j->j.toNat=i->Zf b.kinds j=t:=fun j h0 h1=>by
  unfold Zf;rw[h1,List.getD_eq_getElem?_getD,ht];rfl
 unfold JG uK;by_cases e1:(i:Int)=k
 ·have e1':k.toNat=i:=by omega
  rw[if_pos e1,e1',List.getElem?_set];rw[if_pos rfl,if_pos (by split <;> simp <;> omega)]
 ·have e1':k.toNat≠i:=by omega
  rw[if_neg e1,List.getElem?_set,if_neg e1'];by_cases e2:s.kind=-1
  ·rw[if_pos e2,if_neg (by omega),List.getElem?_map,hx];rfl
  ·have c0:=X.c0;rw[if_neg e2,List.getElem?_set];by_cases e4:(i:Int)=s.kind
   ·have e4':s.kind.toNat=i:=by omega
    rw[if_pos e4',if_pos e4,if_pos (by rw[List.length_map];omega),e3 s.kind (by omega) e4']
   ·have e4':¬s.kind.toNat=i:=by omega
    rw[if_neg e4',if_neg e4,List.getElem?_map,hx];rfl
theorem xU(w:Int):(if w - 1 > 0 then w - 1 else 0)=mx (w - 1) 0:=by
 unfold mx;split <;> split <;> omega
theorem Up(b:Bk)(s:Sd)(k:Int):(Je b s k).isSome=(YQ b s k||(VH b s k||(zA b s k||vS b s k))):=by
 unfold Je VH;cases YQ b s k <;> cases yH b s k <;> cases yN b s k <;> cases zR s k <;> cases vj b s k <;> cases zA b s k <;> cases vS b s k <;> rfl
theorem ZT(C:Addr)(b:Bk)(s:Sd)(k:Int)(ok:OkB b)(X:Form b s)(h:Yr b k):JB C [jf b,j0 s,.int k]=some (Yj (Jm b s k)):=by
 have ek:=zo h.1 h.2;have e1:=xT C b s k ok X h;have e2:=Bu C b s k ok X.toFit;have hk2:=ok.k2;have er:∀ρ:j9,(uj (jj (d2 jG (dV 2) (dV 4))) (d2 jk (dV 5) (dK (.int 1))) (dK (.int 1))) (.bo (jf b)::.cl (j0 s)::.cl (.int k)::.cl (.int s.place)::.cl (.int s.kind)::.cl (.int s.len)::ρ)=some (.int (yg s k)):=fun ρ=>by
  unfold yg;by_cases z:s.kind=k
  ·simp[z]
  ·have z':¬k=s.kind:=fun y=>z y.symm;simp[z,z']
 have L:=ZC (g:=VT) (s:=Z7 C) (items:=b.bars.map t3) (fun ρ=>∃x y z,ρ=[.bo (jf b),.cl (j0 s),.cl (.int k),.cl (.int s.place),.cl (.int s.kind),.cl (.int s.len),.cl (.int s.before),.cl (.tup (s.waits.map .int)),.cl (.tup (s.met.map .bl)),.cl (.int (s.place+1)),.cl (.int (yg s k)),x,y,z,.un,.un,.un,.un,.un,.un,.un]) (qp (Yy k (s.place+1))) (.rt .non) (.inl ⟨_,rfl⟩) ?_ ⟨.un,.un,.un,rfl⟩
 ·rw[V8 t3 _ (Yy k (s.place+1)) (zf _)]at L;have L2:=fun(x y z:Sl)=>JF (g:=VU) (s:=JY C) (items:=yi 0 (b.kinds.map t3)) (fun i ρ=>∃x16 x17 x18 x19 x20,ρ=[.bo (jf b),.cl (j0 s),.cl (.int k),.cl (.int s.place),.cl (.int s.kind),.cl (.int s.len),.cl (.int s.before),.cl (.tup (s.waits.map .int)),.cl (.tup (s.met.map .bl)),.cl (.int (s.place+1)),.cl (.int (yg s k)),x,y,z,.cl (.lst ((Jr b s k).map .bl)),.ow none (.lst (((JG b s k).take i).map .int)),x16,x17,x18,x19,x20]) (by
   rintro i d ρ hi ⟨x16,x17,x18,x19,x20,rfl⟩;obtain⟨t,ht,rfl⟩:=wX hi;have hlt:i < b.kinds.length:=(List.getElem?_eq_some_iff.mp ht).1;have hw:s.waits[i]?=some (s.waits[i]'(by have:=X.w;omega)):=by simp
   revert hw;generalize s.waits[i]'(by have:=X.w;omega)=w;intro hw;have hg:=qr X.toFit h ht hw;have ea:atI (s.waits.map D.int) (i:Int)=some (.int w):=ZD (by omega) (by rw[List.getElem?_map];simp[hw]);have lenT:((JG b s k).take i).length<=i:=by rw[List.length_take];omega
   rw[uJ hg];revert lenT;generalize (JG b s k).take i=T;intro lenT;have hz':T.length < sizeLine:=jq (by omega);obtain⟨p,q,r⟩:=t;unfold uK;by_cases c1:(i:Int)=s.kind
   ·by_cases c2:(i:Int)=k
    ·refine⟨_,[.bo (jf b),.cl (j0 s),.cl (.int k),.cl (.int s.place),.cl (.int s.kind),.cl (.int s.len),.cl (.int s.before),.cl (.tup (s.waits.map .int)),.cl (.tup (s.met.map .bl)),.cl (.int (s.place+1)),.cl (.int (yg s k)),x,y,z,.cl (.lst ((Jr b s k).map .bl)),.ow none (.lst ((T++[0]).map .int)),.cl (.int (i:Int)),.cl (.int p),.cl (.int q),.cl (.int r),.cl (.int r)],rfl,?_,_,_,_,_,_,by rw[if_pos c2]⟩;simp only[JY];rw[<-c2]at *;rw[<-c1]at *;simp[ea,hz']
    ·refine⟨_,[.bo (jf b),.cl (j0 s),.cl (.int k),.cl (.int s.place),.cl (.int s.kind),.cl (.int s.len),.cl (.int s.before),.cl (.tup (s.waits.map .int)),.cl (.tup (s.met.map .bl)),.cl (.int (s.place+1)),.cl (.int (yg s k)),x,y,z,.cl (.lst ((Jr b s k).map .bl)),.ow none (.lst ((T++[mx (r - 1) 0]).map .int)),.cl (.int (i:Int)),.cl (.int p),.cl (.int q),.cl (.int r),.cl (.int r)],rfl,?_,_,_,_,_,_,by rw[if_neg c2,if_pos c1]⟩;simp only[JY];rw[<-c1];have em:=xU r;simp at em;simp[ea,hz',c2,em]
   ·by_cases c2:(i:Int)=k
    ·refine⟨_,[.bo (jf b),.cl (j0 s),.cl (.int k),.cl (.int s.place),.cl (.int s.kind),.cl (.int s.len),.cl (.int s.before),.cl (.tup (s.waits.map .int)),.cl (.tup (s.met.map .bl)),.cl (.int (s.place+1)),.cl (.int (yg s k)),x,y,z,.cl (.lst ((Jr b s k).map .bl)),.ow none (.lst ((T++[0]).map .int)),.cl (.int (i:Int)),.cl (.int p),.cl (.int q),.cl (.int r),.cl (.int w)],rfl,?_,_,_,_,_,_,by rw[if_pos c2]⟩;simp only[JY];rw[<-c2];simp[ea,hz',c1]
    ·refine⟨_,[.bo (jf b),.cl (j0 s),.cl (.int k),.cl (.int s.place),.cl (.int s.kind),.cl (.int s.len),.cl (.int s.before),.cl (.tup (s.waits.map .int)),.cl (.tup (s.met.map .bl)),.cl (.int (s.place+1)),.cl (.int (yg s k)),x,y,z,.cl (.lst ((Jr b s k).map .bl)),.ow none (.lst ((T++[mx (w - 1) 0]).map .int)),.cl (.int (i:Int)),.cl (.int p),.cl (.int q),.cl (.int r),.cl (.int w)],rfl,?_,_,_,_,_,_,by rw[if_neg c2,if_neg c1]⟩;simp only[JY];have em:=xU w;simp at em;simp[ea,hz',c1,c2,em]) ⟨.un,.un,.un,.un,.un,rfl⟩
  have hwl:(yi 0 (b.kinds.map t3)).length=(JG b s k).length:=by rw[Y8,List.length_map,Gb,X.w]
  unfold Jm;rw[Up];have g6:∀(gs:VQ) (ρ:j9),gT 6 gs (j0 s) ρ=gs [.int s.place,.int s.kind,.int s.len,.int s.before,.tup (s.waits.map .int),.tup (s.met.map .bl)] ρ:=fun gs ρ=>by simp[j0]
  have hb0:YQ b s k=b.bars.any (Yy k (s.place+1)):=rfl;simp only[JB,vJ];simp only[J7,Z3,List.zipWith_cons_cons,List.zipWith_nil_left,if_true,Bool.false_eq_true,if_false,List.cons_append,List.nil_append,List.replicate];have first:∀sx:DS.DS,j5 (ZB (dC 1) (gT 6 (gC (gN 3) (gC (gN 4) (gC (gN 5) (gC (gN 6) (gC (gN 7) (gC (gN 8) gZ)))))))) (j5 (jl 9 (d2 jk (dV 3) (dK (.int 1)))) (j5 (jl 10 (uj (jj (d2 jG (dV 2) (dV 4))) (d2 jk (dV 5) (dK (.int 1))) (dK (.int 1)))) sx)) [.bo (jf b),.cl (j0 s),.cl (.int k),.un,.un,.un,.un,.un,.un,.un,.un,.un,.un,.un,.un,.un,.un,.un,.un,.un,.un]=sx [.bo (jf b),.cl (j0 s),.cl (.int k),.cl (.int s.place),.cl (.int s.kind),.cl (.int s.len),.cl (.int s.before),.cl (.tup (s.waits.map .int)),.cl (.tup (s.met.map .bl)),.cl (.int (s.place+1)),.cl (.int (yg s k)),.un,.un,.un,.un,.un,.un,.un,.un,.un,.un]:=fun sx=>by
   have er':=er;simp only[K_,Q_,Hq];simp[-HP,g6];simp at er';simp[er']
  rw[first];by_cases c0:s.place>=b.size
  ·rw[if_pos c0];have c0':b.size < s.place+1:=by omega
   simp[c0',Yj]
  ·rw[if_neg c0];have c0':¬b.size < s.place+1:=by omega
   conv=>lhs;simp[c0']
   rcases L with⟨L1,Lb⟩ | ⟨L1,ρ',⟨x,y,z,rfl⟩,Lb⟩
   ·rw[hb0,L1];simp[c0',Lb,Yj]
   ·rw[hb0,L1]
    conv=>lhs;simp[Lb]
    cases ht:VH b s k with
    | true=>
     rw[ht]at e1;simp[c0',Lb,e1,Yj]
    | false=>
     rw[ht]at e1
     conv=>lhs;simp[e1]
     cases hd:zA b s k with
     | true=>
      rw[hd]at e2;simp at e2;simp[c0',Lb,e1,e2,Yj]
     | false=>
      rw[hd]at e2;simp at e2
      conv=>lhs;simp[e2]
      obtain⟨ρ2,M1,x16,x17,x18,x19,x20,rfl⟩:=L2 x y z;rw[hwl,List.take_length,List.take_zero,List.map_nil]at M1;cases hc:vS b s k with
      | true=>
       unfold vS at hc;simp only[Bool.and_eq_true,decide_eq_true_eq]at hc;have q:=hc.1.symm;simp[q,Lb,e1,e2,ek,hc.2,Yj]
      | false=>
       unfold vS at hc;have hc':¬(s.place+1=b.size/\yg s k < (Zf b.kinds k).1):=fun zz=>by
        rw[decide_eq_true zz.1,decide_eq_true zz.2]at hc;cases hc
       by_cases c5:s.place+1=b.size
       ·have c6:¬yg s k < (Zf b.kinds k).1:=fun zz=>hc' ⟨c5,zz⟩;have q:=c5.symm;simp[q,Lb,e1,e2,ek,c6,M1,Yj];rfl
       ·simp[c0',Lb,e1,e2,ek,c5,M1,Yj];rfl
 ·rintro d hd ρ ⟨x,y,z,rfl⟩;obtain⟨t,_,rfl⟩:=List.mem_map.mp hd;obtain⟨u,v,w⟩:=t;refine⟨_,rfl,?_⟩;rw[zf];unfold Yy;simp only[Z7];by_cases h1:u=k
  ·by_cases h2:v<=s.place+1
   ·by_cases h3:s.place+1<=w <;> simp[h1,h2,h3]
   ·simp[h1,h2]
  ·simp[h1]
theorem uL:∀l:List Int,JL (l.map D.int)=0
 | []=>rfl
 | x::l=>by rw[List.map_cons,JL,uL l];rfl
theorem uM:∀l m:List Int,l.length=m.length->yf (l.map D.int) (m.map D.int)=some (decide (l=m))
 | [],[],_=>rfl
 | [],_::_,h=>by simp at h
 | _::_,[],h=>by simp at h
 | x::l,y::m,h=>by
  rw[List.map_cons,List.map_cons,yf,uM l m (by simpa using h),yZ];simp only[Option.bind_some,Option.some.injEq];by_cases h1:x=y <;> by_cases h2:l=m <;> simp[h1,h2]
theorem qt(l m:List Int):J6 (.lst (l.map D.int)) (.lst (m.map D.int))=some (.bl (!decide (l=m))):=by
 have e:dep (.lst (l.map D.int))<=20:=by rw[dep,uL];decide
 have e0:Z2 (D.lst (l.map D.int)) (D.lst (m.map D.int))=true:=rfl;unfold J6;rw[if_pos e0];unfold vq;rw[if_pos ⟨e0,e⟩,yZ];by_cases h:l.length=m.length
 ·rw[if_pos (by simpa using h),uM l m h];rfl
 ·have h':¬l=m:=fun z=>h (by rw[z]);rw[if_neg (by simpa using h),decide_eq_false h'];rfl
theorem xV(l:List Int):J6 (.lst (l.map D.int)) (.lst [])=some (.bl (!decide (l=[]))):=qt l []
theorem VI{l:List D}{d:D}:atI (l++[d]) (-1)=some d:=by
 unfold atI yt;rw[if_neg (by decide),if_pos (by simp;omega),List.length_append,List.length_singleton];have:(-1+((l.length+1:Nat):Int)).toNat=l.length:=by omega
 simp only[Option.bind_some];rw[this];simp[getElem?_pos]
theorem ba(x:Int):0<=mx x 0:=by unfold mx;split <;> omega
theorem VJ{xs:List Int}{i:Nat}{x y:Int}(h:y∈xs.set i x):y∈xs∨y=x:=List.mem_or_eq_of_mem_set h
theorem Form.next{b:Bk}{s:Sd}(X:Form b s){k:Int}(h:Yr b k):Form b (JH b s k):=by
 refine⟨X.toFit.next h,fun x hx=>?_⟩;have hx:x∈JG b s k:=hx;unfold JG at hx;have hm:∀x∈s.waits.map (fun x=>mx (x - 1) 0),0<=x:=fun x hx=>by
  obtain⟨y,_,rfl⟩:=List.mem_map.mp hx;exact ba _
 rcases VJ hx with hx | rfl
 ·split at hx
  ·exact hm x hx
  ·rcases VJ hx with hx | rfl
   ·exact hm x hx
   ·exact ba _
 ·omega
theorem Form.empty(b:Bk):Form b (jN b):=⟨Fit.empty b,fun x hx=>by
 have:=List.eq_of_mem_replicate hx;omega⟩
theorem Gc{b:Bk}{k:Int}:∀{row:List Int} {s0 s:Sd},jV b s0 row=(s,none)->Je b s k=none->jV b s0 (row++[k])=(JH b s k,none)
 | [],s0,s,h,hb=>by
  cases h;rw[List.nil_append,jV,hb];rfl
 | n::row,s0,s,h,hb=>by
  rw[jV]at h;rw[List.cons_append,jV];cases q:Je b s0 n with
  | some w=>rw[q]at h;cases h
  | none=>rw[q]at h;exact Gc h hb
theorem Zq{b:Bk}{s s':Sd}{k:Int}(h:Jm b s k=some s'):Je b s k=none/\s'=JH b s k/\s.place < b.size:=by
 unfold Jm at h;split at h
 ·cases h
 ·split at h
  ·cases h
  ·rename_i h1 h2;cases h;refine⟨?_,rfl,by omega⟩;cases q:Je b s k with
   | none=>rfl
   | some w=>rw[q]at h2;exact vDa rfl h2
structure Walked (b:Bk) (row:List Int) (s:Sd):Prop where
 ks:∀n∈row,Yr b n
 st:jV b (jN b) row=(s,none)
 fo:Form b s
 pl:s.place=row.length
 sz:(row.length:Int)<=b.size
theorem Bv(C:Addr)(b:Bk)(s:Sd)(ok:OkB b)(X:Form b s)(ρ:j9):JD (gN 0) (jj (d2 Ym (ja (JB C) [(false,(dV 1)),(true,(dC 2)),(true,(dC 0))]) (dK .non))) (dC 0) (jK 0 b.kinds.length) [.un,.bo (jf b),.cl (j0 s)]=some ((((List.range b.kinds.length).filter fun(i:Nat)=>(Jm b s (0+(i:Int))).isSome).map fun(i:Nat)=>0+(i:Int)).map D.int):=by
 have:=Um (g:=gN 0) (dc:=jj (d2 Ym (ja (JB C) [(false,(dV 1)),(true,(dC 2)),(true,(dC 0))]) (dK .non))) (de:=dC 0) (ρ:=[.un,.bo (jf b),.cl (j0 s)]) (fun i:Nat=>D.int (0+(i:Int))) (fun i:Nat=>(Jm b s (0+(i:Int))).isSome) (fun i:Nat=>D.int (0+(i:Int))) (xs:=List.range b.kinds.length) fun i hi=>by
  have hi:=List.mem_range.mp hi;have e:=ZT C b s (0+(i:Int)) ok X ⟨by omega,by omega⟩;refine⟨_,rfl,?_,rfl⟩;cases q:Jm b s (0+(i:Int))with
  | none=>rw[q]at e;simp at e⊢;simp[e,Yj]
  | some s'=>rw[q]at e;simp at e⊢;simp[e,Yj]
 rw[List.map_map];exact this
theorem xW(C:Addr)(b:Bk)(ds row:List Int)(s:Sd)(x4 x5:Sl)(x:Int)(i:Nat)(ok:OkB b)(W:Walked b row s)(hl:row.length<=i)(hi:i<=1000):∃ρ2,yL C [.bo (jf b),.bo (.lst (ds.map .int)),.ow none (.lst (row.map .int)),.cl (j0 s),.cl (.int x),x5]=some (.nx ρ2)/\∃(row:List Int) (s:Sd) (x4 x5:Sl),ρ2=[.bo (jf b),.bo (.lst (ds.map .int)),.ow none (.lst (row.map .int)),.cl (j0 s),x4,x5]/\Walked b row s/\row.length<=i+1:=by
 have hk2:=ok.k2;have c:=Bv C b s ok W.fo [];have hso:∀e∈((List.range b.kinds.length).filter fun(i:Nat)=>(Jm b s (0+(i:Int))).isSome).map (fun(i:Nat)=>0+(i:Int)),Yr b e/\(Jm b s e).isSome=true:=fun e he=>by
  obtain⟨j,hj,rfl⟩:=List.mem_map.mp he;obtain⟨h1,h2⟩:=List.mem_filter.mp hj;have:=List.mem_range.mp h1;exact⟨⟨by omega,by omega⟩,h2⟩
 revert c hso;generalize ((List.range b.kinds.length).filter fun(i:Nat)=>(Jm b s (0+(i:Int))).isSome).map (fun(i:Nat)=>0+(i:Int))=so;intro c hso;have z1:J9 (b.kinds.length:Int)=true:=JK (by omega) (by omega);have z2:(jK 0 b.kinds.length).length<=sizeLine:=wQa (jq (by simp[jK];omega));have hz:row.length < sizeLine:=jq (by omega);by_cases hs:so=[]
 ·subst hs;have en:=xV [];rw[List.map_nil]at en c;refine⟨[.bo (jf b),.bo (.lst (ds.map .int)),.ow none (.lst (row.map .int)),.cl (j0 s),.cl (.int x),.cl (.lst [])],?_,row,s,_,_,rfl,W,by omega⟩;simp only[yL];simp[-J6,c,z1,z2,en]
 ·have en:=xV so;rw[decide_eq_false hs]at en;have hsl:0 < (so.length:Int):=by
   cases so with
   | nil=>exact vDa rfl hs
   | cons _ _=>simp
  have hm:=jO (a:=x) (b:=(so.length:Int)) hsl;have ea:=yR (f:=D.int) (xs:=so) (d:=0) hm.1 hm.2;have hmem:=wV hm.1 hm.2;revert ea hmem;generalize so.getD (x % (so.length:Int)).toNat 0=e;intro ea hmem;obtain⟨hk,hst⟩:=hso e hmem;obtain⟨s',hs'⟩:=Option.isSome_iff_exists.mp hst;obtain⟨hb,rfl,hp⟩:=Zq hs';have e2:=ZT C b s e ok W.fo hk;rw[hs']at e2;have el:atI (row.map D.int++[D.int e]) (-1)=some (.int e):=VI;refine⟨[.bo (jf b),.bo (.lst (ds.map .int)),.ow none (.lst ((row++[e]).map .int)),.cl (j0 (JH b s e)),.cl (.int x),.cl (.lst (so.map .int))],?_,row++[e],JH b s e,_,_,rfl,⟨VG W.ks hk,Gc W.st hb,W.fo.next hk,?_,?_⟩,by simp;omega⟩
  ·simp only[yL];have hsl':0 < so.length:=by omega
   simp[-J6,c,z1,z2,en,hsl,hsl',ea,hz,el,e2,Yj]
  ·show s.place+1=_;rw[W.pl];simp
  ·have:=W.pl;simp;omega
theorem Bw(C:Addr)(b:Bk)(ds:List Int)(ok:OkB b)(hd:ds.length<=1000):∃(row:List Int) (s:Sd),vL C [jf b,.lst (ds.map .int)]=some (.lst (row.map .int))/\Walked b row s/\row.length<=ds.length:=by
 have L:=JF (g:=VV) (s:=yL C) (items:=ds.map D.int) (fun i ρ=>∃(row:List Int) (s:Sd) (x4 x5:Sl),ρ=[.bo (jf b),.bo (.lst (ds.map .int)),.ow none (.lst (row.map .int)),.cl (j0 s),x4,x5]/\Walked b row s/\row.length<=i) ?_ ⟨[],jN b,.un,.un,rfl,⟨(fun _ h=>by cases h),rfl,Form.empty b,rfl,(by have:=ok.s1;show(0:Int)<=b.size;omega)⟩,wPa _⟩
 ·obtain⟨ρ',L1,row,s,x4,x5,rfl,W,hl⟩:=L;rw[List.length_map]at hl;refine⟨row,s,?_,W,hl⟩;have e:=wU C b ok;rw[List.map_nil]at L1;simp only[vL,vK];simp[e,L1]
 ·rintro i d ρ hi ⟨row,s,x4,x5,rfl,W,hl⟩;have hlt:i < ds.length:=by have:=(List.getElem?_eq_some_iff.mp hi).1;rwa [List.length_map]at this
  obtain⟨x,rfl⟩:∃x,d=D.int x:=by
   rw[List.getElem?_map]at hi;cases q:ds[i]? with
   | none=>rw[q]at hi;cases hi
   | some z=>rw[q]at hi;exact⟨z,(vFa hi).symm⟩
  obtain⟨ρ2,e1,e2⟩:=xW C b ds row s x4 x5 x i ok W hl (by omega);exact⟨_,ρ2,rfl,e1,e2⟩
noncomputable def ra(row:List Int)(i:Nat):Int:=row.getD i 0
theorem xX{row:List Int}{i:Nat}(h:i < row.length):row[i]?=some (ra row i):=by
 unfold ra;rw[List.getD_eq_getElem?_getD,List.getElem?_eq_getElem h];rfl
noncomputable def wY(row:List Int):Nat->Nat
 | 0=>1
 | i+1=>if ra row (i+1)=ra row i then wY row i+1 else 1
noncomputable def yP(row:List Int):Nat->Int->Option Nat
 | 0,_=>none
 | i+1,c=>if ra row i=c then some i else yP row i c
def Gd(b:Bk)(row:List Int)(i:Nat)(c:Int):Int:=match yP row i c with
 | none=>0
 | some j=>if j+1=i then 0 else mx ((Zf b.kinds c).2.2 - ((i:Int) - 1 - (j:Int))) 0
def aN(row:List Int):Nat->T3->Bool
 | 0,_=>false
 | i+1,t=>aN row i t||Yy (ra row i) ((i:Int)+1) t
theorem xY{row:List Int}:∀{i j:Nat} {c:Int},yP row i c=some j->j < i/\ra row j=c
 | 0,j,c,h=>by cases h
 | i+1,j,c,h=>by
  unfold yP at h;split at h
  ·cases h;exact⟨by omega,by assumption⟩
  ·have:=xY h;exact⟨by omega,this.2⟩
theorem wZ{row:List Int}:∀{i:Nat} {c:Int},yP row i c=none->∀j,j < i->ra row j≠c
 | 0,c,h,j,hj=>by omega
 | i+1,c,h,j,hj=>by
  unfold yP at h;split at h
  ·cases h
  ·by_cases e:j=i
   ·rw[e];assumption
   ·exact wZ h j (by omega)
theorem w_{row:List Int}:∀{i j:Nat} {c:Int},yP row i c=some j->∀m,j < m->m < i->ra row m≠c
 | 0,j,c,h,m,h1,h2=>by omega
 | i+1,j,c,h,m,h1,h2=>by
  unfold yP at h;split at h
  ·cases h;omega
  ·by_cases e:m=i
   ·rw[e];assumption
   ·exact w_ h m h1 (by omega)
structure StOf (b:Bk) (row:List Int) (i:Nat) (s:Sd):Prop where
 pl:s.place=(i:Int)
 kd:s.kind=if i=0 then -1 else ra row (i - 1)
 ln:s.len=if i=0 then 0 else(wY row (i - 1):Int)
 bf:s.before=if i < 2 then -1 else ra row (i - 2)
 ws:∀c:Nat,c < b.kinds.length->s.waits[c]?=some (Gd b row i (c:Int))
 ms:∀(j:Nat) (t:T3),b.dues[j]?=some t->s.met[j]?=some (aN row i t)
 fo:Form b s
theorem StOf.empty(b:Bk)(row:List Int):StOf b row 0 (jN b):=⟨rfl,rfl,rfl,rfl,fun c hc=>by simp[jN,hc,Gd,yP],fun j t ht=>by
 have:=(List.getElem?_eq_some_iff.mp ht).1;simp[jN,this,aN],Form.empty b⟩
theorem StOf.run{b:Bk}{row:List Int}{i:Nat}{s:Sd}(R:StOf b row i s)(h0:0<=ra row i):yg s (ra row i)=(wY row i:Int):=by
 unfold yg;rw[R.kd,R.ln];cases i with
 | zero=>
  rw[if_pos rfl,if_neg (show¬(-1:Int)=ra row 0 by omega)];rfl
 | succ i=>
  have er:wY row (i+1)=if ra row (i+1)=ra row i then wY row i+1 else 1:=rfl
  simp only[Nat.add_sub_cancel,if_neg (Nat.succ_ne_zero i)];rw[er];by_cases e:ra row i=ra row (i+1)
  ·rw[if_pos e,if_pos e.symm];omega
  ·rw[if_neg e,if_neg (fun z=>e z.symm)];rfl
theorem xZ(b:Bk)(row:List Int)(i:Nat)(s:Sd)(R:StOf b row i s)(c:Nat)(t:T3)(ht:b.kinds[c]?=some t):uK b s (ra row i) c t (Gd b row i (c:Int))=Gd b row (i+1) (c:Int):=by
 have e3:Zf b.kinds (c:Int)=t:=by
  unfold Zf;rw[Int.toNat_natCast,List.getD_eq_getElem?_getD,ht];rfl
 have el:yP row (i+1) (c:Int)=if ra row i=(c:Int)then some i else yP row i (c:Int):=rfl
 unfold uK Gd;rw[e3,el];by_cases e1:(c:Int)=ra row i
 ·rw[if_pos e1,if_pos (show ra row i=(c:Int) from e1.symm)];simp
 ·rw[if_neg e1,if_neg (show¬ra row i=(c:Int) from fun z=>e1 z.symm)];rw[R.kd];cases hl:yP row i (c:Int)with
  | none=>
   have hn:=wZ hl;by_cases e2:i=0
   ·subst e2;simp[mx]
   ·have h2:=hn (i - 1) (by omega);rw[if_neg e2];rw[if_neg (fun z=>h2 z.symm)];simp[mx]
  | some j=>
   obtain⟨h1,h2⟩:=xY hl;have e2:¬i=0:=by omega
   rw[if_neg e2];by_cases e4:j+1=i
   ·have e5:(c:Int)=ra row (i - 1):=by rw[<-h2];congr 1;omega
    simp only[if_pos e5,if_neg (show¬j+1=i+1 by omega)];congr 1;omega
   ·have e5:¬(c:Int)=ra row (i - 1):=fun z=>w_ hl (i - 1) (by omega) (by omega) z.symm;simp only[if_neg e5,if_neg e4,if_neg (show¬j+1=i+1 by omega)];unfold mx;split <;> split <;> split <;> omega
theorem StOf.next{b:Bk}{row:List Int}{i:Nat}{s:Sd}(R:StOf b row i s)(h:Yr b (ra row i)):StOf b row (i+1) (JH b s (ra row i)) where
 pl:=by show s.place+1=_;rw[R.pl];omega
 kd:=by simp;rfl
 ln:=by simp;exact R.run h.1
 bf:=by
  show s.kind=_;rw[R.kd];by_cases e:i=0
  ·rw[if_pos e,if_pos (by omega)]
  ·rw[if_neg e,if_neg (by omega)];rfl
 ws:=fun c hc=>by
  have hx:=R.ws c hc;have ht:b.kinds[c]?=some b.kinds[c]:=by simp[hc]
  rw[<-xZ b row i s R c _ ht];exact qr R.fo.toFit h ht hx
 ms:=fun j t ht=>by
  have:=wW (k:=ra row i) ht (R.ms j t ht);rw[R.pl]at this;exact this
 fo:=R.fo.next h
theorem W0{b:Bk}{k:Int}(h:Yr b k)(ok:OkB b):fK (Zf b.kinds k)=true:=by
 refine ok.ks _ ?_;unfold Zf;have hk:k.toNat < b.kinds.length:=by have:=h.1;have:=h.2;omega
 rw[List.getD_eq_getElem?_getD,List.getElem?_eq_getElem hk];exact List.getElem_mem hk
theorem aO{b:Bk}{row:List Int}{i:Nat}{s:Sd}(hi:i < row.length):jV b s (row.drop i)=match Je b s (ra row i)with
  | some w=>(s,some w)
  | none=>jV b (JH b s (ra row i)) (row.drop (i+1)):=by
 have e:row.drop i=ra row i::row.drop (i+1):=by
  have h:=xX hi;rw[List.drop_eq_getElem_cons hi];rw[List.getElem?_eq_getElem hi]at h;rw[Option.some.inj h]
 rw[e,jV];all_goals (cases Je b s (ra row i) <;> rfl)
theorem VL{n i:Nat}{d:D}(h:(jK 0 n)[i]?=some d):i < n/\d=.int (i:Int):=by
 unfold jK at h;rw[List.getElem?_map]at h;by_cases z:i < n
 ·rw[List.getElem?_range z]at h;refine⟨z,?_⟩;have:=vFa h;rw[<-this];simp
 ·rw[List.getElem?_eq_none (by simp;omega)]at h;cases h
theorem StOf.walk{b:Bk}{row:List Int}(hr:∀n∈row,Yr b n){s':Sd}:∀(m i:Nat) (s:Sd),row.length - i=m->i<=row.length->StOf b row i s->jV b s (row.drop i)=(s',none)->StOf b row row.length s'
 | 0,i,s,hm,hi,R,hw=>by
  have e:i=row.length:=by omega
  subst e;rw[List.drop_length]at hw;cases hw;exact R
 | m+1,i,s,hm,hi,R,hw=>by
  have hlt:i < row.length:=by omega
  rw[aO hlt]at hw;have hk:=hr (ra row i) (wYa (xX hlt));cases hb:Je b s (ra row i)with
  | some w=>rw[hb]at hw;cases hw
  | none=>
   rw[hb]at hw;exact StOf.walk hr m (i+1) _ (by omega) hlt (R.next hk) hw
theorem StOf.all{b:Bk}{row:List Int}(hr:∀n∈row,Yr b n){s:Sd}(hw:jV b (jN b) row=(s,none)):StOf b row row.length s:=
 StOf.walk hr _ 0 (jN b) rfl (Nat.zero_le _) (StOf.empty b row) hw
theorem Wv(C:Addr)(b:Bk)(row:List Int)(ok:OkB b)(h:vi b row){s:Sd}(hw:jV b (jN b) row=(s,none)):VF C [jz C b,.lst (row.map .int)]=some (j0 s):=by
 have e1:=wS C b row ok h;have e2:=xR C b row ok h.1;rw[hw]at e2;simp only[VF,VE];simp[e1,e2,oS]
theorem kN(C:Addr)(b:Bk)(row:List Int)(ok:OkB b)(h:vi b row){s:Sd}(hw:jV b (jN b) row=(s,none)):yp C [jf b,.lst (row.map .int)]=some (j0 s):=by
 have key:∀(r:List Int) (s0:Sd) (x:Sl),Form b s0->(∀n∈r,Yr b n)->s0.place+(r.length:Int)<=b.size->jV b s0 r=(s,none)->∃x',jS zu (zw C) (r.map D.int) [.bo (jf b),.bo (.lst (row.map .int)),.cl (j0 s0),x]=some (.nx [.bo (jf b),.bo (.lst (row.map .int)),.cl (j0 s),x']):=by
  intro r;induction r with
  | nil=>intro s0 x _ _ _ hw;cases hw;exact⟨x,rfl⟩
  | cons k r ih=>
   intro s0 x X hr hp hw;have hk:=hr k wNa;rw[jV]at hw;cases hb:Je b s0 k with
   | some w=>rw[hb]at hw;cases hw
   | none=>
    rw[hb]at hw;have e:=ZT C b s0 k ok X hk;have es:Jm b s0 k=some (JH b s0 k):=by
     unfold Jm;rw[List.length_cons]at hp;rw[if_neg (by omega),hb];rfl
    rw[es]at e;obtain⟨x',q⟩:=ih (JH b s0 k) (.cl (.int k)) (X.next hk) (fun n hn=>hr n (wMa _ hn)) (by show s0.place+1+_<=_;rw[List.length_cons]at hp;omega) hw;refine⟨x',?_⟩;rw[<-q];simp[jS,zu,zw,e,Yj]
 obtain⟨x',q⟩:=key row (jN b) .un (Form.empty b) h.1 (by have:=h.2;show(0:Int)+_<=_;omega) hw;have e0:=wU C b ok;simp only[yp,ZG];simp[e0,q]
theorem W3:∀l:List Bool,JL (l.map D.bl)=0
 | []=>rfl
 | x::l=>by rw[List.map_cons,JL,W3 l];rfl
theorem W4:∀l m:List Bool,l.length=m.length->yf (l.map D.bl) (m.map D.bl)=some (decide (l=m))
 | [],[],_=>rfl
 | [],_::_,h=>by simp at h
 | _::_,[],h=>by simp at h
 | x::l,y::m,h=>by
  rw[List.map_cons,List.map_cons,yf,W4 l m (by simpa using h),yZ];simp only[Option.bind_some,Option.some.injEq];by_cases h1:x=y <;> by_cases h2:l=m <;> simp[h1,h2]
noncomputable def GV(s t:Sd):Bool:=(s.place==t.place)&&((s.kind==t.kind)&&((s.len==t.len)&&((s.before==t.before)&&(decide (s.waits=t.waits)&&decide (s.met=t.met)))))
theorem UY{s t:Sd}:GV s t=true↔s=t:=by
 unfold GV;simp only[Bool.and_eq_true,beq_iff_eq,decide_eq_true_eq];constructor
 ·rintro⟨h1,h2,h3,h4,h5,h6⟩;obtain⟨a1,a2,a3,a4,a5,a6⟩:=s;obtain⟨b1,b2,b3,b4,b5,b6⟩:=t;simp only at h1 h2 h3 h4 h5 h6;subst h1 h2 h3 h4 h5 h6;rfl
 ·rintro rfl;exact⟨rfl,rfl,rfl,rfl,rfl,rfl⟩
theorem x_{s t:Sd}(hw:s.waits.length=t.waits.length)(hm:s.met.length=t.met.length):yZ (j0 s) (j0 t)=some (GV s t):=by
 unfold j0 GV;simp only[yZ,yf,uM _ _ hw,W4 _ _ hm,Option.bind_some,List.length_cons,List.length_nil,List.length_map,hw,hm,beq_self_eq_true,Bool.and_true]
theorem Qk(C:Addr)(b:Bk)(s:Sd)(k:Int)(ok:OkB b)(X:Fit b s)(h:Yr b k):uI C [jz C b,j0 s,.int k]=some (Yj (Jm b s k)):=by
 have e1:=kM C b s k ok X h;have e2:=wT C b s k ok X h;unfold Jm;simp only[uI,uH];by_cases c:s.place>=b.size
 ·have c':b.size<=s.place:=c;rw[if_pos c];simp[c',Yj]
 ·have c':¬b.size<=s.place:=c;rw[if_neg c];cases hb:Je b s k with
  | none=>rw[hb]at e1;simp[c',e1,e2,oS,Yj]
  | some w=>rw[hb]at e1;simp[c',e1,oS,Yj]
noncomputable instance:DecidableEq Sd:=fun _ _=>Classical.propDecidable _
noncomputable def kB(b:Bool):KD:=.i (if b then 1 else 0)
noncomputable def kS(s:Sd):KD:=.t [.i s.place,.i s.kind,.i s.len,.i s.before,.t (s.waits.map .i),.t (s.met.map kB)]
theorem W5:∀l:List Int,YD (l.map D.int)=some (l.map KD.i)
 | []=>by rw[List.map_nil,YD];rfl
 | x::l=>by rw[List.map_cons,YD,yT,W5 l];rfl
theorem qu:∀l:List Bool,YD (l.map D.bl)=some (l.map kB)
 | []=>by rw[List.map_nil,YD];rfl
 | x::l=>by rw[List.map_cons,YD,yT,qu l];rfl
theorem qv:∀l:List Int,Yk (l.map KD.i)=0
 | []=>rfl
 | x::l=>by rw[List.map_cons,Yk,qv l];rfl
theorem qw:∀l:List Bool,Yk (l.map kB)=0
 | []=>rfl
 | x::l=>by rw[List.map_cons,Yk,qw l];rfl
theorem Ge(s:Sd):yc (j0 s)=some (kS s):=by
 have e:yT (j0 s)=some (kS s):=by
  unfold j0 kS;simp[yT,YD,W5,qu]
 have d:(kS s).dep<=8:=by
  unfold kS;simp[KD.dep,Yk,qv,qw]
 show(yT (j0 s)).bind _=_;rw[e];simp[d]
theorem VM{α β:Type}{f:α->β}(h:∀a b,f a=f b->a=b):∀{l m:List α},l.map f=m.map f->l=m
 | [],[],_=>rfl
 | [],_::_,e=>by cases e
 | _::_,[],e=>by cases e
 | a::l,b::m,e=>by
  rw[List.map_cons,List.map_cons]at e;injection e with e1 e2;rw[h _ _ e1,VM h e2]
theorem X0{s t:Sd}(h:kS s=kS t):s=t:=by
 unfold kS at h;simp only[KD.t.injEq,List.cons.injEq,KD.i.injEq]at h;obtain⟨h1,h2,h3,h4,h5,h6,_⟩:=h;have e5:=VM (fun a b e=>by injection e) h5;have e6:=VM (fun a b e=>by cases a <;> cases b <;> first | rfl | (unfold kB at e;simp at e)) h6;obtain⟨a1,a2,a3,a4,a5,a6⟩:=s;obtain⟨b1,b2,b3,b4,b5,b6⟩:=t;simp only at h1 h2 h3 h4 e5 e6;subst h1 h2 h3 h4 e5 e6;rfl
theorem U8:∀l:List Sd,jX (l.map j0)=some (l.map kS)
 | []=>rfl
 | s::l=>by rw[List.map_cons,jX,Ge,U8 l];rfl
theorem YB{l:List Sd}{s:Sd}:kS s∈l.map kS↔s∈l:=by
 rw[List.mem_map];constructor
 ·rintro⟨t,h,e⟩;rw[<-X0 e];exact h
 ·exact fun h=>⟨s,h,rfl⟩
theorem UZ{f:Sd->D}{s:Sd}:∀l:List Sd,ut (l.map kS) (l.map f) (kS s) (f s)=l.map f
 | []=>by rw[List.map_nil,List.map_nil,ut];all_goals (intros;contradiction)
 | t::l=>by
  rw[List.map_cons,List.map_cons,ut,UZ l];by_cases e:t=s
  ·rw[if_pos (by rw[e]),e]
  ·rw[if_neg (fun z=>e (X0 z))]
noncomputable def jP(l:List Sd)(s:Sd):List Sd:=if s∈l then l else l++[s]
theorem eg{i:Nat}{q:Option Addr}{l:List Sd}{f:Sd->D}{s:Sd}{dk de:DE}{ρ:j9}(h:ρ[i]?=some (.ow q (.dct (l.map j0) (l.map f))))(hd:de ρ=some (f s))(hk:dk ρ=some (j0 s))(hl:l.length < sizeLine):
  GE i dk de ρ=some (.nx (ρ.set i (.ow q (.dct ((jP l s).map j0) ((jP l s).map f))))):=by
 rw[xj,h];simp only[hd,hk,Option.bind_some,Ge,U8,List.length_map,hl,if_true];unfold vc Vm jP;by_cases e:s∈l
 ·rw[if_pos (YB.mpr e),if_pos (YB.mpr e),if_pos e,UZ]
 ·rw[if_neg (fun z=>e (YB.mp z)),if_neg (fun z=>e (YB.mp z)),if_neg e,List.map_append,List.map_append];rfl
theorem aP{l:List Sd}{s t:Sd}:t∈jP l s↔t∈l∨t=s:=by
 unfold jP;split
 ·constructor
  ·exact .inl
  ·rintro(h | rfl)
   ·exact h
   ·assumption
 ·simp
theorem W6(l:List Sd)(s:Sd):l.length<=(jP l s).length/\(jP l s).length<=l.length+1:=by
 unfold jP;split <;> simp
theorem Bx{l:List Sd}{s:Sd}(h:l.Nodup):(jP l s).Nodup:=by
 unfold jP;split
 ·exact h
 ·rename_i e;exact List.nodup_append.mpr ⟨h,by simp,fun a ha b hb z=>by simp at hb;rw[hb]at z;exact e (z▸ha)⟩
theorem U_{t:Sd}:∀{xs l:List Sd},t∈xs.foldl jP l↔t∈l∨t∈xs
 | [],l=>by simp
 | x::xs,l=>by
  rw[List.foldl_cons,U_,aP,List.mem_cons];constructor
  ·rintro((h | h) | h)
   ·exact .inl h
   ·exact .inr (.inl h)
   ·exact .inr (.inr h)
  ·rintro(h | h | h)
   ·exact .inl (.inl h)
   ·exact .inl (.inr h)
   ·exact .inr h
theorem ga:∀(xs l:List Sd),l.length<=(xs.foldl jP l).length/\(xs.foldl jP l).length<=l.length+xs.length
 | [],l=>by simp
 | x::xs,l=>by
  have h1:=ga xs (jP l x);have h2:=W6 l x;rw[List.foldl_cons,List.length_cons];omega
theorem qx:∀{xs l:List Sd},l.Nodup->(xs.foldl jP l).Nodup
 | [],_,h=>h
 | x::xs,l,h=>qx (xs:=xs) (Bx h)
def zS(b:Bk)(s:Sd)(n:Nat):List (Int×Sd):=(List.range n).filterMap fun(c:Nat)=>(Jm b s (c:Int)).map fun t=>((c:Int),t)
def J1(b:Bk)(s:Sd):List (Int×Sd):=zS b s b.kinds.length
def pD(p:Int×Sd):D:=.tup [.int p.1,j0 p.2]
theorem gb(b:Bk)(s:Sd)(n:Nat):zS b s (n+1)=zS b s n++(match Jm b s (n:Int)with | some t=>[((n:Int),t)] | none=>[]):=by
 unfold zS;rw[List.range_succ,List.filterMap_append];cases e:Jm b s (n:Int) <;> simp[e]
theorem GW(b:Bk)(s:Sd)(n:Nat):(zS b s n).length<=n:=by
 unfold zS;exact wSa (List.length_filterMap_le _ _) (by simp)
theorem U9{b:Bk}{s:Sd}{n:Nat}{p:Int×Sd}(h:p∈zS b s n):∃c:Nat,c < n/\p.1=(c:Int)/\Jm b s (c:Int)=some p.2:=by
 unfold zS at h;obtain⟨c,hc,e⟩:=List.mem_filterMap.mp h;obtain⟨t,e1,rfl⟩:=Option.map_eq_some_iff.mp e;exact⟨c,List.mem_range.mp hc,rfl,e1⟩
theorem aQ(C:Addr)(b:Bk)(s:Sd)(ok:OkB b)(X:Fit b s):ZR C [jz C b,j0 s]=some (.lst ((J1 b s).map pD)):=by
 have k2:=ok.k2;have z1:J9 (b.kinds.length:Int)=true:=JK (by omega) (by omega);obtain⟨ρ1,L1,y3,y4,rfl⟩:=JF (g:=V7) (s:=Yq C) (items:=jK 0 b.kinds.length) (fun i ρ=>∃y3 y4:Sl,ρ=[.bo (jz C b),.bo (j0 s),.ow none (.lst ((zS b s i).map pD)),y3,y4]) (by
  rintro i d ρ hd ⟨y3,y4,rfl⟩;obtain⟨hi,rfl⟩:=VL hd;have e1:=Qk C b s (i:Int) ok X ⟨by omega,by omega⟩;have hl:=GW b s i;have z3:(zS b s i).length < sizeLine:=jq (by omega);cases hs:Jm b s (i:Int)with
  | none=>
   rw[hs]at e1;refine⟨_,_,rfl,?_,.cl (.int (i:Int)),.cl .non,rfl⟩;rw[gb,hs,List.append_nil];simp only[Yq];simp[e1,Yj]
  | some t=>
   rw[hs]at e1;refine⟨_,_,rfl,?_,.cl (.int (i:Int)),.cl (j0 t),rfl⟩;rw[gb,hs,List.map_append];have en:ZY (j0 t)=false:=rfl;simp only[Yq];simp[e1,Yj,en,z3,pD]) (ρ:=[.bo (jz C b),.bo (j0 s),.ow none (.lst ((zS b s 0).map pD)),.un,.un]) ⟨.un,.un,rfl⟩
 rw[show(jK 0 b.kinds.length).length=b.kinds.length by simp[jK]]at L1;simp only[ZR,ZQ];have e0:(zS b s 0).map pD=[]:=rfl;rw[e0]at L1;simp[z1,L1];rfl
def zM(b:Bk)(ss:List Sd):List Sd:=(ss.flatMap fun s=>(J1 b s).map (·.2)).foldl jP []
def jB(b:Bk)(s:Sd):Nat->List Sd
 | 0=>[s]
 | n+1=>zM b (jB b s n)
noncomputable def yu:Sd->D:=fun _=>.bl true
theorem W7{b:Bk}{s t:Sd}{c:Nat}(X:Fit b s)(hc:c < b.kinds.length)(h:Jm b s (c:Int)=some t):Fit b t/\t.place=s.place+1/\s.place < b.size:=by
 obtain⟨_,rfl,h3⟩:=Zq h;exact⟨X.next ⟨by omega,by omega⟩,rfl,h3⟩
theorem gc{b:Bk}{ss:List Sd}{t:Sd}:t∈zM b ss↔∃s∈ss,∃p∈J1 b s,p.2=t:=by
 unfold zM;rw[U_];simp[List.mem_flatMap]
theorem Bz(b:Bk)(ss:List Sd):(zM b ss).Nodup:=qx List.nodup_nil
theorem eA(b:Bk)(s:Sd):∀n,(jB b s n).Nodup
 | 0=>by simp[jB]
 | n+1=>Bz b _
theorem Ua{b:Bk}{s:Sd}(X:Fit b s):∀n,∀t∈jB b s n,Fit b t/\t.place=s.place+n/\(0 < n->t.place<=b.size)
 | 0,t,h=>by
  simp[jB]at h;subst h;exact⟨X,by simp,fun z=>vDa z (by omega)⟩
 | n+1,t,h=>by
  obtain⟨u,hu,p,hp,rfl⟩:=gc.mp h;obtain⟨c,hc,e1,e2⟩:=U9 hp;obtain⟨f1,f2,f3⟩:=Ua X n u hu;obtain⟨g1,g2,g3⟩:=W7 f1 hc e2;exact⟨g1,by rw[g2,f2];omega,fun _=>by rw[g2];omega⟩
theorem qy{b:Bk}{s:Sd}(X:Fit b s){n:Nat}(h:b.size < s.place+n):jB b s (n+1)=[]:=by
 rw[List.eq_nil_iff_forall_not_mem];intro t ht;have:=(Ua X (n+1) t ht).2;have h1:=this.1;have h2:=this.2 (by omega);omega
theorem aR(xs ys l:List Sd):(xs.foldl jP l).length<=((xs++ys).foldl jP l).length:=by
 rw[List.foldl_append];exact(ga ys _).1
structure Lim (b:Bk) (s:Sd):Prop where
 fit:Fit b s
 p0:0<=s.place
 p1:s.place<=b.size
 tot:∀n,((List.range n).flatMap (jB b s)).length < 10000000
theorem Lim.len{b:Bk}{s:Sd}(L:Lim b s)(n:Nat):(jB b s n).length < 10000000:=by
 have:=L.tot (n+1);rw[List.range_succ,List.flatMap_append]at this;simp at this;omega
theorem W8:∀(N:Nat) (l:List Nat),l.Nodup->(∀x∈l,x < N)->l.length<=N
 | 0,l,_,h=>by
  cases l with
  | nil=>simp
  | cons x l=>exact vDa (h x wNa) (Nat.not_lt_zero _)
 | N+1,l,nd,h=>by
  by_cases e:N∈l
  ·have h1:=W8 N (l.erase N) (nd.erase N) fun x hx=>by
    have h2:=(nd.mem_erase_iff).mp hx;have h3:=h x h2.2;have h4:=h2.1;omega
   rw[List.length_erase_of_mem e]at h1;omega
  ·have h1:=W8 N l nd fun x hx=>by
    have h3:=h x hx;by_cases q:x=N
    ·rw[q]at hx;exact vDa hx e
    ·omega
   omega
noncomputable def ZU(B:Nat):List Nat->Nat
 | []=>0
 | x::l=>x+B * ZU B l
theorem W9{B:Nat}(hB:0 < B):∀{l:List Nat},(∀x∈l,x < B)->ZU B l < B ^ l.length
 | [],_=>by simp[ZU]
 | x::l,h=>by
  have h1:=h x wNa;have h2:=W9 hB fun y hy=>h y (wMa _ hy);rw[ZU,List.length_cons,Nat.pow_succ,Nat.mul_comm _ B];have h3:B * (ZU B l+1)<=B * B ^ l.length:=Nat.mul_le_mul_left B h2;rw[Nat.mul_add]at h3;omega
theorem GX{B:Nat}(hB:0 < B):∀{l m:List Nat},(∀x∈l,x < B)->(∀x∈m,x < B)->l.length=m.length->ZU B l=ZU B m->l=m
 | [],[],_,_,_,_=>rfl
 | [],_::_,_,_,h,_=>by simp at h
 | _::_,[],_,_,h,_=>by simp at h
 | x::l,y::m,hl,hm,h,e=>by
  rw[ZU,ZU]at e;have h1:=hl x wNa;have h2:=hm y wNa;have ex:x=y:=by
   have e1:(x+B * ZU B l) % B=x:=by rw[Nat.add_mul_mod_self_left,Nat.mod_eq_of_lt h1]
   have e2:(y+B * ZU B m) % B=y:=by rw[Nat.add_mul_mod_self_left,Nat.mod_eq_of_lt h2]
   rw[<-e1,<-e2,e]
  subst ex;have el:ZU B l=ZU B m:=Nat.eq_of_mul_eq_mul_left hB (Nat.add_left_cancel e);rw[GX hB (fun y hy=>hl y (List.mem_cons_of_mem _ hy)) (fun y hy=>hm y (List.mem_cons_of_mem _ hy)) (by simpa using h) el]
structure Sm (b:Bk) (s:Sd):Prop where
 fit:Fit b s
 l0:0<=s.len
 l1:s.len<=4
 b0:-1<=s.before
 b1:s.before < 4
 ws:∀x∈s.waits,0<=x/\x<=3
def FZ(s:Sd):Nat:=ZU 4 (s.waits.map Int.toNat)
def F_(s:Sd):Nat:=ZU 2 (s.met.map fun x=>if x=true then 1 else 0)
def qz(s:Sd):Nat:=((((s.kind+1).toNat * 5+s.len.toNat) * 5+(s.before+1).toNat) * 256+FZ s) * 8+F_ s
theorem Sm.w{b:Bk}{s:Sd}(S:Sm b s):∀x∈s.waits.map Int.toNat,x < 4:=fun x hx=>by
 obtain⟨y,hy,rfl⟩:=List.mem_map.mp hx;have:=S.ws y hy;omega
theorem aS(s:Sd):∀x∈s.met.map fun x=>if x=true then 1 else 0,x < 2:=fun x hx=>by
 obtain⟨y,hy,rfl⟩:=List.mem_map.mp hx;cases y <;> decide
theorem Wa{b:Bk}(ok:OkB b){s:Sd}(S:Sm b s):FZ s < 256:=by
 have h:=W9 (B:=4) (by decide) S.w;rw[List.length_map,S.fit.w]at h;have h1:4 ^ b.kinds.length<=4 ^ 4:=Nat.pow_le_pow_right (by decide) ok.k2;exact Nat.lt_of_lt_of_le h h1
theorem Wb{b:Bk}(ok:OkB b){s:Sd}(S:Sm b s):F_ s < 8:=by
 have h:=W9 (B:=2) (by decide) (aS s);rw[List.length_map,S.fit.m]at h;have h1:2 ^ b.dues.length<=2 ^ 3:=Nat.pow_le_pow_right (by decide) ok.d2;exact Nat.lt_of_lt_of_le h h1
theorem eB{b:Bk}(ok:OkB b){s:Sd}(S:Sm b s):qz s < 256000:=by
 have h1:=Wa ok S;have h2:=Wb ok S;have h3:=S.fit.c0;have h4:=S.fit.c1;have h5:=ok.k2;have h6:=S.l0;have h7:=S.l1;have h8:=S.b0;have h9:=S.b1;unfold qz;omega
theorem Ks{m a b c d:Nat}(h1:b < m)(h2:d < m)(e:a * m+b=c * m+d):a=c/\b=d:=by
 have e1:=congrArg (· % m) e;have e2:=congrArg (· / m) e;have p:0 < m:=wRa (Nat.zero_le _) h1;simp only[Nat.mul_comm a m,Nat.mul_comm c m,Nat.mul_add_mod,Nat.mul_add_div p,Nat.mod_eq_of_lt h1,Nat.mod_eq_of_lt h2,Nat.div_eq_of_lt h1,Nat.div_eq_of_lt h2,Nat.add_zero]at e1 e2;exact⟨e2,e1⟩
theorem qA{x y:Int}(hx:-1<=x)(hy:-1<=y)(e:(x+1).toNat=(y+1).toNat):x=y:=by omega
theorem aU{x y:Int}(hx:0<=x)(hy:0<=y)(e:x.toNat=y.toNat):x=y:=by omega
theorem X8{x:Int}(h:x < 4):(x+1).toNat < 5:=by omega
theorem qB{x:Int}(h:x<=4):x.toNat < 5:=by omega
theorem BA{b:Bk}(ok:OkB b){s t:Sd}(S:Sm b s)(T:Sm b t)(hp:s.place=t.place)(e:qz s=qz t):s=t:=by
 unfold qz at e;obtain⟨e,em⟩:=Ks (Wb ok S) (Wb ok T) e;obtain⟨e,ew⟩:=Ks (Wa ok S) (Wa ok T) e;obtain⟨e,e5⟩:=Ks (X8 S.b1) (X8 T.b1) e;obtain⟨e6,e7⟩:=Ks (qB S.l1) (qB T.l1) e;have eb:=qA S.b0 T.b0 e5;have ek:=qA S.fit.c0 T.fit.c0 e6;have el:=aU S.l0 T.l0 e7;have w1:=GX (by decide) S.w T.w (by rw[List.length_map,List.length_map,S.fit.w,T.fit.w]) ew;have m1:=GX (by decide) (aS s) (aS t) (by rw[List.length_map,List.length_map,S.fit.m,T.fit.m]) em;have m2:s.met=t.met:=VM (fun a b e=>by cases a <;> cases b <;> first | rfl | (simp at e)) m1;have w2:s.waits=t.waits:=by
  have key:∀l m:List Int,(∀x∈l,0<=x/\x<=3)->(∀x∈m,0<=x/\x<=3)->l.map Int.toNat=m.map Int.toNat->l=m:=by
   intro l;induction l with
   | nil=>intro m _ _ h;cases m with | nil=>rfl | cons _ _=>simp at h
   | cons x l ih=>
    intro m hl hm h;cases m with
    | nil=>simp at h
    | cons y m=>
     rw[List.map_cons,List.map_cons]at h;injection h with h1 h2;have a1:=hl x wNa;have a2:=hm y wNa;rw[ih m (fun z hz=>hl z (List.mem_cons_of_mem _ hz)) (fun z hz=>hm z (List.mem_cons_of_mem _ hz)) h2,show x=y by omega]
  exact key _ _ S.ws T.ws w1
 obtain⟨a1,a2,a3,a4,a5,a6⟩:=s;obtain⟨c1,c2,c3,c4,c5,c6⟩:=t;simp only at hp ek el eb w2 m2;subst hp ek el eb w2 m2;rfl
theorem Sm.empty(b:Bk):Sm b (jN b):=⟨Fit.empty b,by show(0:Int)<=0;decide,by show(0:Int)<=4;decide,by show(-1:Int)<=-1;decide,by show(-1:Int) < 4;decide,fun x hx=>by
 simp[jN]at hx;omega⟩
theorem Sm.stand{b:Bk}(ok:OkB b){s:Sd}(S:Sm b s){k:Int}(h:Yr b k)(hb:Je b s k=none):Sm b (JH b s k):=by
 have hk:=S.fit.c0;have hk1:=S.fit.c1;have k2:=ok.k2;have nl:yH b s k=false:=by
  have:=Up b s k;rw[hb]at this;have this:(YQ b s k||(VH b s k||(zA b s k||vS b s k)))=false:=this.symm;simp only[VH,Bool.or_eq_false_iff]at this;exact this.2.1.1
 have f1:=W0 h ok;unfold fK at f1;simp only[Bool.and_eq_true,decide_eq_true_eq]at f1;refine⟨S.fit.next h,?_,?_,hk,by show s.kind < 4;omega,?_⟩
 ·show 0<=yg s k;unfold yg;have:=S.l0;split <;> omega
 ·show yg s k<=4;unfold yg;split
  ·rename_i e;unfold yH at nl;rw[decide_eq_true e,Bool.true_and,decide_eq_false_iff_not]at nl;omega
  ·omega
 ·intro x hx;have hx:x∈JG b s k:=hx;unfold JG at hx;have base:∀y∈s.waits.map (fun x=>mx (x - 1) 0),0<=y/\y<=3:=fun y hy=>by
   obtain⟨z,hz,rfl⟩:=List.mem_map.mp hy;have:=S.ws z hz;unfold mx;split <;> omega
  rcases VJ hx with hx | hx
  ·by_cases e:s.kind=-1
   ·rw[if_pos e]at hx;exact base x hx
   ·rw[if_neg e]at hx;rcases VJ hx with hx | hx
    ·exact base x hx
    ·have f2:=W0 (k:=s.kind) ⟨by omega,hk1⟩ ok;unfold fK at f2;simp only[Bool.and_eq_true,decide_eq_true_eq]at f2;rw[hx];unfold mx;split <;> omega
  ·omega
theorem Sm.walk{b:Bk}(ok:OkB b):∀{row:List Int} {s s':Sd},Sm b s->(∀n∈row,Yr b n)->jV b s row=(s',none)->Sm b s'
 | [],s,s',S,_,h=>by cases h;exact S
 | x::row,s,s',S,hr,h=>by
  rw[jV]at h;cases hb:Je b s x with
  | some w=>rw[hb]at h;cases h
  | none=>
   rw[hb]at h;exact Sm.walk ok (S.stand ok (hr x wNa) hb) (fun n hn=>hr n (wMa _ hn)) h
theorem Wc{b:Bk}(ok:OkB b){s:Sd}(S:Sm b s):∀n,∀t∈jB b s n,Sm b t
 | 0,t,h=>by
  simp[jB]at h;subst h;exact S
 | n+1,t,h=>by
  obtain⟨u,hu,p,hp,rfl⟩:=gc.mp h;obtain⟨c,hc,e1,e2⟩:=U9 hp;obtain⟨h1,h2,h3⟩:=Zq e2;rw[h2];exact(Wc ok S n u hu).stand ok ⟨by omega,by omega⟩ h1
theorem qC{b:Bk}(ok:OkB b){s:Sd}(S:Sm b s)(n:Nat):(jB b s n).length<=256000:=by
 have h:=W8 256000 ((jB b s n).map qz) (by
  have nd:=eA b s n;have hs:=Wc ok S n;have hp:∀t∈jB b s n,t.place=s.place+n:=fun t ht=>(Ua S.fit n t ht).2.1;revert nd hs hp;generalize jB b s n=l;intro nd hs hp;induction l with
  | nil=>simp
  | cons x l ih=>
   rw[List.nodup_cons]at nd;rw[List.map_cons,List.nodup_cons];refine⟨fun z=>?_,ih nd.2 (fun t ht=>hs t (wMa _ ht)) (fun t ht=>hp t (wMa _ ht))⟩;obtain⟨y,hy,e⟩:=List.mem_map.mp z;have:=BA ok (hs y (wMa _ hy)) (hs x wNa) (by rw[hp y (List.mem_cons_of_mem _ hy),hp x List.mem_cons_self]) e;subst this;exact nd.1 hy) (fun x hx=>by
   obtain⟨y,hy,rfl⟩:=List.mem_map.mp hx;exact eB ok (Wc ok S n y hy))
 rw[List.length_map]at h;exact h
theorem bb{b:Bk}(ok:OkB b){s:Sd}(S:Sm b s)(p0:0<=s.place):∀n,((List.range n).flatMap (jB b s)).length<=256000 * (min n 32)
 | 0=>by simp
 | n+1=>by
  have ih:=bb ok S p0 n;have s2:=ok.s2;rw[List.range_succ,List.flatMap_append,List.length_append];simp only[List.flatMap_cons,List.flatMap_nil,List.append_nil];by_cases hn:n+1<=32
  ·have h1:=qC ok S n;omega
  ·obtain⟨m,rfl⟩:∃m,n=m+1:=⟨n - 1,by omega⟩
   rw[qy S.fit (n:=m) (by omega)];simp only[List.length_nil];omega
theorem X9{b:Bk}(ok:OkB b){row:List Int}(h:vi b row){s:Sd}(hw:jV b (jN b) row=(s,none)):Lim b s:=by
 have R:=StOf.all h.1 hw;have pl:=R.pl;have h2:=h.2;have S:=Sm.walk ok (Sm.empty b) h.1 hw;refine⟨R.fo.toFit,by omega,by omega,fun n=>?_⟩;have h1:=bb ok S (by omega) n;omega
def JN(b:Bk)(s:Sd)(n:Nat):List D:=(List.range n).map fun j=>D.lst ((jB b s j).map j0)
theorem ZV(b:Bk)(s:Sd)(n:Nat):JN b s (n+1)=JN b s n++[.lst ((jB b s n).map j0)]:=by
 unfold JN;rw[List.range_succ,List.map_append];rfl
theorem Va(b:Bk)(s:Sd)(n:Nat):(JN b s n).length=n:=by simp[JN]
theorem Zu:∀l:List Sd,JL (l.map j0)<=5
 | []=>by simp
 | s::l=>by
  have:=Zu l;have e:dep (j0 s)<=5:=by simp[j0,dep,JL,uL,W3]
  rw[List.map_cons,JL];omega
theorem kO(l:List Sd):J6 (.lst (l.map j0)) (.lst [])=some (.bl (!decide (l=[]))):=by
 have e:dep (.lst (l.map j0))<=20:=by rw[dep];have:=Zu l;omega
 have e0:Z2 (D.lst (l.map j0)) (D.lst [])=true:=rfl;unfold J6;rw[if_pos e0];unfold vq;rw[if_pos ⟨e0,e⟩,yZ];cases l with
 | nil=>rfl
 | cons s l=>rw[if_neg (by simp),decide_eq_false (by simp)];rfl
theorem ge{b:Bk}{s:Sd}(X:Form b s):∀n,∀t∈jB b s n,Form b t
 | 0,t,h=>by
  simp[jB]at h;subst h;exact X
 | n+1,t,h=>by
  obtain⟨u,hu,p,hp,rfl⟩:=gc.mp h;obtain⟨c,hc,e1,e2⟩:=U9 hp;obtain⟨_,e,_⟩:=Zq e2;rw[e];exact(ge X n u hu).next ⟨by omega,by omega⟩
theorem Fj(C:Addr)(b:Bk)(ok:OkB b)(r1 r2:Sl)(t:Sd)(X:Form b t)(l:List Sd)(hl:l.length < 10000000)(x5 x6:Sl):∃y5 y6:Sl,
  jS Y_ (JE C) (jK 0 b.kinds.length) [.bo (jf b),r1,r2,.ow none (.dct (l.map j0) (l.map yu)),.cl (j0 t),x5,x6]=
  some (.nx [.bo (jf b),r1,r2,.ow none (.dct ((((J1 b t).map (·.2)).foldl jP l).map j0) ((((J1 b t).map (·.2)).foldl jP l).map yu)),.cl (j0 t),y5,y6]):=by
 have k2:=ok.k2;obtain⟨ρ1,L1,y5,y6,rfl⟩:=JF (g:=Y_) (s:=JE C) (items:=jK 0 b.kinds.length) (fun i ρ=>∃y5 y6:Sl,ρ=[.bo (jf b),r1,r2,.ow none (.dct ((((zS b t i).map (·.2)).foldl jP l).map j0) ((((zS b t i).map (·.2)).foldl jP l).map yu)),.cl (j0 t),y5,y6]) (by
  rintro i d ρ hd ⟨y5,y6,rfl⟩;obtain⟨hi,rfl⟩:=VL hd;have e1:=ZT C b t (i:Int) ok X ⟨by omega,by omega⟩;have h1:=GW b t i;have h2:=ga ((zS b t i).map (·.2)) l;rw[List.length_map]at h2;have z:(10001000:Nat) < sizeLine:=by decide
  rw[gb];revert h2;generalize ef:((zS b t i).map (·.2)).foldl jP l=m;intro h2;cases hs:Jm b t (i:Int)with
  | none=>
   rw[hs]at e1;refine⟨_,_,rfl,?_,.cl (.int (i:Int)),.cl .non,rfl⟩;rw[List.append_nil,ef];simp only[JE];simp[e1,Yj]
  | some u=>
   rw[hs]at e1;have e2:JE C [.bo (jf b),r1,r2,.ow none (.dct (m.map j0) (m.map yu)),.cl (j0 t),.cl (.int (i:Int)),y6]=some (.nx [.bo (jf b),r1,r2,.ow none (.dct ((jP m u).map j0) ((jP m u).map yu)),.cl (j0 t),.cl (.int (i:Int)),.cl (j0 u)]):=by
    have p:=eg (i:=3) (q:=none) (l:=m) (f:=yu) (s:=u) (dk:=dC 6) (de:=dK (.bl true)) (ρ:=[.bo (jf b),r1,r2,.ow none (.dct (m.map j0) (m.map yu)),.cl (j0 t),.cl (.int (i:Int)),.cl (j0 u)]) rfl rfl rfl (by omega);simp only[JE];simp[e1,Yj,-xj,p]
   refine⟨_,_,rfl,e2,.cl (.int (i:Int)),.cl (j0 u),?_⟩;rw[List.map_append,List.foldl_append,ef];rfl) (ρ:=[.bo (jf b),r1,r2,.ow none (.dct (l.map j0) (l.map yu)),.cl (j0 t),x5,x6]) ⟨x5,x6,rfl⟩
 rw[show(jK 0 b.kinds.length).length=b.kinds.length by simp[jK]]at L1;exact⟨y5,y6,L1⟩
theorem Fk(C:Addr)(b:Bk)(ok:OkB b)(r1 r2:Sl)(all:List Sd)(hf:∀t∈all,Form b t)(hb:(zM b all).length < 10000000):∀(ss pre:List Sd),pre++ss=all->∀x4 x5 x6:Sl,∃y4 y5 y6:Sl,
  jS za (y_ C) (ss.map j0) [.bo (jf b),r1,r2,.ow none (.dct (((pre.flatMap fun s=>(J1 b s).map (·.2)).foldl jP []).map j0) (((pre.flatMap fun s=>(J1 b s).map (·.2)).foldl jP []).map yu)),x4,x5,x6]=
  some (.nx [.bo (jf b),r1,r2,.ow none (.dct ((zM b all).map j0) ((zM b all).map yu)),y4,y5,y6]):=by
 have k2:=ok.k2;have z1:J9 (b.kinds.length:Int)=true:=JK (by omega) (by omega);intro ss;induction ss with
 | nil=>
  intro pre e x4 x5 x6;rw[List.append_nil]at e;subst e;exact⟨x4,x5,x6,rfl⟩
 | cons s ss ih=>
  intro pre e x4 x5 x6;have hs:s∈all:=by rw[<-e];simp
  have hfo:(((J1 b s).map (·.2)).foldl jP ((pre.flatMap fun s=>(J1 b s).map (·.2)).foldl jP []))=(((pre++[s]).flatMap fun s=>(J1 b s).map (·.2)).foldl jP []):=by
   rw[List.flatMap_append,List.foldl_append];simp
  have hle:((pre.flatMap fun s=>(J1 b s).map (·.2)).foldl jP []).length < 10000000:=by
   refine wRa ?_ hb;unfold zM;rw[<-e,List.flatMap_append];exact aR _ _ _
  obtain⟨y5,y6,e2⟩:=Fj C b ok r1 r2 s (hf s hs) _ hle x5 x6;rw[hfo]at e2;obtain⟨z4,z5,z6,e3⟩:=ih (pre++[s]) (by rw[<-e];simp) (.cl (j0 s)) y5 y6;refine⟨z4,z5,z6,?_⟩;rw[List.map_cons,jS];generalize (pre.flatMap fun s=>(J1 b s).map (·.2)).foldl jP []=m at e2⊢;have e5:za (j0 s) [.bo (jf b),r1,r2,.ow none (.dct (m.map j0) (m.map yu)),x4,x5,x6]=some [.bo (jf b),r1,r2,.ow none (.dct (m.map j0) (m.map yu)),.cl (j0 s),x5,x6]:=rfl;rw[e5,Option.bind_some];have e4:y_ C [.bo (jf b),r1,r2,.ow none (.dct (m.map j0) (m.map yu)),.cl (j0 s),x5,x6]=some (.nx [.bo (jf b),r1,r2,.ow none (.dct ((((pre++[s]).flatMap fun s=>(J1 b s).map (·.2)).foldl jP []).map j0) ((((pre++[s]).flatMap fun s=>(J1 b s).map (·.2)).foldl jP []).map yu)),.cl (j0 s),y5,y6]):=by
   rw[<-e2];simp only[y_];simp[z1]
  rw[e4];exact e3
theorem Fl(C:Addr)(b:Bk)(ok:OkB b)(s:Sd)(X:Form b s)(L:Lim b s)(n:Nat)(hn:n<=1000)(x3 x4 x5 x6:Sl):∃y3 y4 y5 y6:Sl,Y1 C [.bo (jf b),.cl (j0 s),.ow none (.lst (JN b s (n+1))),x3,x4,x5,x6]=
  some (.nx [.bo (jf b),.cl (j0 s),.ow none (.lst (JN b s (n+1+1))),y3,y4,y5,y6]):=by
 obtain⟨y4,y5,y6,e⟩:=Fk C b ok (.cl (j0 s)) (.ow none (.lst (JN b s (n+1)))) (jB b s n) (ge X n) (L.len (n+1)) (jB b s n) [] rfl x4 x5 x6;have z:(JN b s (n+1)).length < sizeLine:=by rw[Va];exact jq (by omega)
 have el:atI (JN b s (n+1)) (-1)=some (.lst ((jB b s n).map j0)):=by rw[ZV];exact VI
 simp only[List.map_nil,List.flatMap_nil,List.foldl_nil]at e;refine⟨.ow none (.dct ((zM b (jB b s n)).map j0) ((zM b (jB b s n)).map yu)),y4,y5,y6,?_⟩;rw[ZV b s (n+1)];simp only[Y1];simp[e,z,el,V2,jB]
noncomputable def ic(ρ:j9):Nat:=match ρ[2]? with
 | some (Sl.ow _ (OD.lst l))=>100 - l.length
 | _=>0
theorem Xa(C:Addr)(b:Bk)(ok:OkB b)(s:Sd)(X:Form b s)(L:Lim b s):∃n,YF C [jf b,j0 s]=some (.lst (JN b s n))/\n<=32/\jB b s n=[]/\∀j,j < n->jB b s j≠[]:=by
 have s2:=ok.s2;have hQ:∀(n:Nat) (x3 x4 x5 x6:Sl),Y0 C [.bo (jf b),.cl (j0 s),.ow none (.lst (JN b s (n+1))),x3,x4,x5,x6]=some (!decide (jB b s n=[])):=fun n x3 x4 x5 x6=>by
  have el:atI (JN b s (n+1)) (-1)=some (.lst ((jB b s n).map j0)):=by rw[ZV];exact VI
  have ne:=kO (jB b s n);simp only[Y0];simp[el,-J6,ne]
 obtain⟨ρ1,W1,⟨n,hn,hne,y3,y4,y5,y6,rfl⟩,hq⟩:=wJ (dt:=Y0 C) (s:=Y1 C)
  (fun ρ=>∃n,n<=32/\(∀j,j < n->jB b s j≠[])/\∃y3 y4 y5 y6:Sl,ρ=[.bo (jf b),.cl (j0 s),.ow none (.lst (JN b s (n+1))),y3,y4,y5,y6])
  (fun ρ=>ic ρ) (by
   rintro ρ ⟨n,hn,hne,y3,y4,y5,y6,rfl⟩;rw[hQ];by_cases h:jB b s n=[]
   ·left;simp[h]
   ·right;have hn':n < 32:=by
     have h1:=L.p0;by_cases q:n < 32
     ·exact q
     ·have e:n=31+1:=by omega
      subst e;exact vDa (qy L.fit (by omega)) h
    obtain⟨z3,z4,z5,z6,e⟩:=Fl C b ok s X L n (by omega) y3 y4 y5 y6;refine⟨by simp[h],_,e,⟨n+1,by omega,(fun j hj=>by
     by_cases q:j < n
     ·exact hne j q
     ·rw[show j=n by omega];exact h),z3,z4,z5,z6,rfl⟩,?_⟩
    show 100 - (JN b s (n+1+1)).length < 100 - (JN b s (n+1)).length;rw[Va,Va];omega) (n:=20000) (ρ:=[.bo (jf b),.cl (j0 s),.ow none (.lst (JN b s (0+1))),.un,.un,.un,.un]) ⟨0,by omega,(fun j hj=>vDa hj (Nat.not_lt_zero _)),.un,.un,.un,.un,rfl⟩ (by show 100 - (JN b s (0+1)).length < 20000;omega)
 rw[hQ]at hq;have e:jB b s n=[]:=by simpa using hq
 refine⟨n,?_,hn,e,hne⟩;have e0:JN b s (0+1)=[.lst [j0 s]]:=rfl;rw[e0]at W1;have ec:jJ (JN b s (n+1)) none (some (-1))=JN b s n:=by
  rw[xn,Va,ZV];simp[Va]
 simp only[YF,Z8];simp[W1,ec]
def JI(b:Bk)(k:Int)(l:List Sd)(s:Sd):Bool:=decide (s.place=k)&&(decide (k < b.size)&&(J1 b s).all fun p=>decide (p.2∈l))
theorem eC{l:List Sd}{s:Sd}:UL false (j0 s) (.dct (l.map j0) (l.map yu))=some (.bl (decide (s∈l))):=by
 show((yc (j0 s)).bind fun q=>(jX (l.map j0)).bind fun qs=>some (D.bl (xor false (decide (q∈qs)))))=_;rw[Ge,U8];simp only[Option.bind_some];by_cases h:s∈l
 ·rw[decide_eq_true h,decide_eq_true (YB.mpr h)];rfl
 ·rw[decide_eq_false h,decide_eq_false fun z=>h (YB.mp z)];rfl
theorem Xb(C:Addr)(b:Bk)(ok:OkB b)(s:Sd)(X:Fit b s)(k:Int)(l:List Sd):YA C [jz C b,j0 s,.int k,.dct (l.map j0) (l.map yu)]=some (.bl (JI b k l s)):=by
 have e1:=aQ C b s ok X;have ef:Jn C "size" (jz C b)=some (.int b.size):=by simp[Jn,jz]
 have hc:=Jk (g:=gT 2 (gC (gN 0) (gC (gN 1) gZ))) (dc:=jM) (de:=d2 (UL false) (dV 1) (dV 2)) (ρ:=[.un,.un,.bo (.dct (l.map j0) (l.map yu))]) pD (fun p:Int×Sd=>D.bl (decide (p.2∈l))) (xs:=J1 b s) (fun p hp=>by
  refine⟨_,rfl,rfl,?_⟩;simp[eC])
 have ha:=yG (fun p:Int×Sd=>decide (p.2∈l)) (J1 b s);have k2:=ok.k2;have zl:(J1 b s).length<=sizeLine:=wQa (jq (by have:=GW b s b.kinds.length;unfold J1;omega));unfold JI;simp only[YA,vR];by_cases h1:s.place=k
 ·by_cases h2:k < b.size
  ·have h2':¬b.size<=k:=by omega
   simp[h1,h2,h2',ef,e1,hc,ha,YN,zl]
  ·have h2':b.size<=k:=by omega
   simp[h1,h2,h2',ef]
 ·simp[h1]
def jr(tb:List (List Sd)):List D:=tb.map fun l=>D.lst (l.map j0)
theorem Wd{b:Bk}{s:Sd}(X:Fit b s):∀{l:List Sd},(∀t∈l,Fit b t)->vd (j0 s) (l.map j0)=some (l.map fun t=>GV t s)
 | [],_=>rfl
 | t::l,h=>by
  have T:=h t wNa;rw[List.map_cons,vd,x_ (by rw[T.w,X.w]) (by rw[T.m,X.m]),Wd X fun u hu=>h u (List.mem_cons_of_mem _ hu)];rfl
theorem We{b:Bk}{s:Sd}(X:Fit b s){l:List Sd}(h:∀t∈l,Fit b t):Vr true (j0 s) (.lst (l.map j0))=some (.bl (!decide (s∈l))):=by
 have hd:JL (l.map j0)<=20:=by have:=Zu l;omega
 rw[YY,if_pos hd,Wd X h];simp only[Option.bind_some,Bool.true_bne,Option.some.injEq,D.bl.injEq];congr 1;by_cases q:s∈l
 ·rw[decide_eq_true q,List.any_eq_true];exact⟨true,List.mem_map.mpr ⟨s,q,UY.mpr rfl⟩,rfl⟩
 ·rw[decide_eq_false q];rw[Bool.eq_false_iff];intro z;obtain⟨x,hx,rfl⟩:=List.any_eq_true.mp z;obtain⟨t,ht,e⟩:=List.mem_map.mp hx;exact q (UY.mp e▸ht)
theorem BB{α:Type}(xs:List α)(n:Nat):jJ xs (some ((n:Int)+1)) (some ((n:Int)+2))=(xs.drop (n+1)).take 1:=by
 unfold jJ;rw[show(n:Int)+1=((n+1:Nat):Int) by omega,show(n:Int)+2=((n+2:Nat):Int) by omega,HT.sIx_nat,HT.sIx_nat];by_cases h:n+1<=xs.length
 ·rw[Nat.min_eq_left h];by_cases h2:n+2<=xs.length
  ·rw[Nat.min_eq_left h2];congr 1;omega
  ·rw[Nat.min_eq_right (by omega),List.drop_of_length_le (by omega)];simp
 ·rw[Nat.min_eq_right (by omega),Nat.min_eq_right (by omega),List.drop_of_length_le (by omega),List.drop_of_length_le (by omega)];simp
theorem bc:∀(l m:List Sd) (x:Sl) (d:D),(m++l).length < 10000000->∃y:Sl,kE (gN 1) (dC 1) (dK (.bl true)) (l.map j0) [.cl d,x] (m.map j0) (m.map yu)=some ([.cl d,y],(l.foldl jP m).map j0,(l.foldl jP m).map yu)
 | [],m,x,d,_=>⟨x,rfl⟩
 | s::l,m,x,d,h=>by
  have z:(10001000:Nat) < sizeLine:=by decide
  have hm:m.length < sizeLine:=by simp at h;omega
  obtain⟨y,e⟩:=bc l (jP m s) (.cl (j0 s)) d (by
   have:=W6 m s;simp at h⊢;omega)
  refine⟨y,?_⟩;rw[List.foldl_cons,<-e,List.map_cons,kE];have g:gN 1 (j0 s) [.cl d,x]=some [.cl d,.cl (j0 s)]:=rfl;have g1:dC 1 [.cl d,.cl (j0 s)]=some (j0 s):=rfl;have g2:dK (.bl true) [.cl d,.cl (j0 s)]=some (.bl true):=rfl;have g3:([.cl d,.cl (j0 s)]:j9).all Zi=true:=rfl;rw[g,Option.bind_some,g1,Option.bind_some,g2,Option.bind_some,Ge,Option.bind_some,U8,Option.bind_some,if_pos ⟨by rw[List.length_map];exact hm,g3⟩];congr 1
  ·unfold vc jP;by_cases q:s∈m
   ·rw[if_pos (YB.mpr q),if_pos q]
   ·rw[if_neg (fun z=>q (YB.mp z)),if_neg q,List.map_append];rfl
  ·unfold Vm jP;by_cases q:s∈m
   ·rw[if_pos (YB.mpr q),if_pos q];exact UZ (f:=yu) m
   ·rw[if_neg (fun z=>q (YB.mp z)),if_neg q,List.map_append];rfl
def Js(tb:List (List Sd))(i:Nat):List Sd:=(tb.getD (i+1) []).foldl jP []
theorem BC{tb:List (List Sd)}{i:Nat}{t:Sd}:t∈Js tb i↔t∈tb.getD (i+1) []:=by
 unfold Js;rw[U_];simp
theorem Fm(tb:List (List Sd))(i:Nat)(hs:∀l∈tb,l.length < 10000000)(r0 r1 r3 r5 r6:Sl):xl 2 [] (jR (dL (Jp (dV 2) (fun ρ=>((d2 jk (dV 4) (dK (.int 1))) ρ).bind J4) (fun ρ=>((d2 jk (dV 4) (dK (.int 2))) ρ).bind J4)))) (gN 0) (jR (dP 0)) (gN 1) (dC 1) (dK (.bl true)) [r0,r1,.bo (.lst (jr tb)),r3,.cl (.int (i:Int)),r5,r6]=some (.dct ((Js tb i).map j0) ((Js tb i).map yu)):=by
 have e0:jR (dL (Jp (dV 2) (fun ρ=>((d2 jk (dV 4) (dK (.int 1))) ρ).bind J4) (fun ρ=>((d2 jk (dV 4) (dK (.int 2))) ρ).bind J4))) [r0,r1,.bo (.lst (jr tb)),r3,.cl (.int (i:Int)),r5,r6]=some (((tb.drop (i+1)).take 1).map fun l=>D.lst (l.map j0)):=by
  have:=BB (jr tb) i;unfold jr at this⊢;rw[<-List.map_drop,<-List.map_take]at this;simp[this,J4]
 unfold xl;have e1:YU 2 [] [r0,r1,.bo (.lst (jr tb)),r3,.cl (.int (i:Int)),r5,r6]=[.un,.un]:=rfl;rw[e0,Option.bind_some,e1,if_pos (show([.un,.un]:j9).all Zi=true from rfl)];have eb:Js tb i=(((tb.drop (i+1)).take 1).flatMap id).foldl jP []:=by
  unfold Js;rw[List.getD_eq_getElem?_getD];cases h:tb[i+1]? with
  | none=>rw[List.drop_of_length_le (List.getElem?_eq_none_iff.mp h)];rfl
  | some l=>
   obtain⟨hl,he⟩:=List.getElem?_eq_some_iff.mp h;rw[List.drop_eq_getElem_cons hl,he];simp
 rw[eb];cases h:(tb.drop (i+1)).take 1 with
 | nil=>rfl
 | cons l r=>
  have hr:r=[]:=by
   have:=congrArg List.length h;rw[List.length_take,List.length_cons]at this;have:r.length=0:=by omega
   exact List.eq_nil_of_length_eq_zero this
  subst hr;have hl:l∈tb:=List.mem_of_mem_drop (vVa (h▸wNa));obtain⟨y,e⟩:=bc l [] .un (.lst (l.map j0)) (by simpa using hs l hl);have g:gN 0 (.lst (l.map j0)) [.un,.un]=some [.cl (.lst (l.map j0)),.un]:=rfl;have g1:jR (dP 0) [.cl (.lst (l.map j0)),.un]=some (l.map j0):=rfl;have g2:([.cl (.lst (l.map j0)),.un]:j9).all Zi=true:=rfl;rw[List.map_cons,List.map_nil,kG,g,Option.bind_some,g1,Option.bind_some,if_pos g2];rw[List.map_nil,List.map_nil]at e;rw[e];simp[kG]
def be(b:Bk)(k:Int)(tb:List (List Sd)):Prop:=∀(i:Nat) (f:List Sd),tb[i]?=some f->∀t∈f,JI b (k+(i:Int)) (Js tb i) t=true
structure TbW (b:Bk) (tb:List (List Sd)):Prop where
 fit:∀l∈tb,∀t∈l,Fit b t
 len:∀l∈tb,l.length < 10000000
 few:tb.length<=1000
theorem qD{tb:List (List Sd)}{i:Nat}{d:D}(h:(yi 0 (jr tb))[i]?=some d):∃f,tb[i]?=some f/\d=.tup [.int (i:Int),.lst (f.map j0)]:=by
 obtain⟨d',h1,h2⟩:=Z_ 0 _ i d h;unfold jr at h1;rw[List.getElem?_map]at h1;obtain⟨t,e1,e2⟩:=Option.map_eq_some_iff.mp h1;refine⟨t,e1,?_⟩;rw[h2,<-e2];simp
theorem BD(C:Addr)(b:Bk)(ok:OkB b)(row:List Int)(tb:List (List Sd))(T:TbW b tb)(i:Nat)(f:List Sd)(hf:tb[i]?=some f)(r3 x6:Sl):∃y6:Sl,ze C [.bo (jz C b),.bo (.lst (row.map .int)),.bo (.lst (jr tb)),r3,.cl (.int (i:Int)),.cl (.lst (f.map j0)),x6]=
  if f.all (JI b ((row.length:Int)+(i:Int)) (Js tb i))=true then some (.nx [.bo (jz C b),.bo (.lst (row.map .int)),.bo (.lst (jr tb)),r3,.cl (.int (i:Int)),.cl (.lst (f.map j0)),y6])else some (.rt (.bl false)):=by
 have hm:=wYa hf;have e1:=Fm tb i T.len (.bo (jz C b)) (.bo (.lst (row.map .int))) r3 (.cl (.lst (f.map j0))) x6;have hc:=Jk (g:=gN 0) (dc:=jM) (de:=ja (YA C) [(false,(dV 1)),(false,(dV 0)),(false,(d2 jk (ja jU [(false,(dV 2))]) (dV 3))),(false,(dV 4))]) (ρ:=[.un,.bo (jz C b),.bo (.lst (row.map .int)),.cl (.int (i:Int)),.cl (.dct ((Js tb i).map j0) ((Js tb i).map yu))]) j0 (fun t:Sd=>D.bl (JI b ((row.length:Int)+(i:Int)) (Js tb i) t)) (xs:=f) (fun t ht=>by
  have e:=Xb C b ok t (T.fit f hm t ht) ((row.length:Int)+(i:Int)) (Js tb i);refine⟨_,rfl,rfl,?_⟩;simp[e])
 have ha:=yG (fun t:Sd=>JI b ((row.length:Int)+(i:Int)) (Js tb i) t) f;have z:(10001000:Nat) < sizeLine:=by decide
 have zl:f.length<=sizeLine:=by have:=T.len f hm;omega
 refine⟨.cl (.dct ((Js tb i).map j0) ((Js tb i).map yu)),?_⟩;have key:∀Z:DS.DO,Z [.bo (jz C b),.bo (.lst (row.map .int)),.bo (.lst (jr tb)),r3,.cl (.int (i:Int)),.cl (.lst (f.map j0)),x6]=some (.dct ((Js tb i).map j0) ((Js tb i).map yu))->(j5 (jl 6 (dL Z)) (ji (Jl (Jg (ja ZA [(false,(dL (yY 1 [0,1,4,6] (jR (dP 5)) (gN 0) jM (ja (YA C) [(false,(dV 1)),(false,(dV 0)),(false,(d2 jk (ja jU [(false,(dV 2))]) (dV 3))),(false,(dV 4))]))))]))) (jg (dK (.bl false))) js)) [.bo (jz C b),.bo (.lst (row.map .int)),.bo (.lst (jr tb)),r3,.cl (.int (i:Int)),.cl (.lst (f.map j0)),x6]=
   if f.all (JI b ((row.length:Int)+(i:Int)) (Js tb i))=true then some (.nx [.bo (jz C b),.bo (.lst (row.map .int)),.bo (.lst (jr tb)),r3,.cl (.int (i:Int)),.cl (.lst (f.map j0)),.cl (.dct ((Js tb i).map j0) ((Js tb i).map yu))])else some (.rt (.bl false)):=fun Z hZ=>by
  cases q:f.all (JI b ((row.length:Int)+(i:Int)) (Js tb i))with
  | true=>simp[hZ,hc,ha,YN,zl,q]
  | false=>simp[hZ,hc,ha,YN,zl,q]
 exact key _ e1
theorem Wf(C:Addr)(b:Bk)(ok:OkB b)(row:List Int)(h:vi b row){s:Sd}(hw:jV b (jN b) row=(s,none))(tb:List (List Sd))(T:TbW b tb):∃x:Bool,Ju C [jz C b,.lst (row.map .int),.lst (jr tb)]=some (.bl x)/\(x=true↔s∈tb.getD 0 []/\be b row.length tb):=by
 have X:=(StOf.all h.1 hw).fo.toFit;have e1:=Wv C b row ok h hw;cases tb with
 | nil=>
  refine⟨false,?_,by simp⟩;simp only[Ju,y8];simp[e1,jr]
 | cons f0 r=>
  have e2:=We X (T.fit f0 wNa);have ei:atI (jr (f0::r)) 0=some (.lst (f0.map j0)):=by
   unfold jr atI yt;simp
  have et:(jr (f0::r)).isEmpty=false:=rfl;by_cases q:s∈f0
  ·have zl:(jr (f0::r)).length<=sizeLine:=wQa (jq (by have:=T.few;simp[jr]at this⊢;omega));rcases Vu (g:=vh) (s:=ze C) (items:=yi 0 (jr (f0::r))) (r:=.nx []) (fun i ρ=>(∀(j:Nat) (f:List Sd),j < i->(f0::r)[j]?=some f->∀t∈f,JI b ((row.length:Int)+(j:Int)) (Js (f0::r) j) t=true)/\∃y4 y5 y6:Sl,ρ=[.bo (jz C b),.bo (.lst (row.map .int)),.bo (.lst (jr (f0::r))),.cl (j0 s),y4,y5,y6]) (fun i z=>z=.rt (.bl false)/\¬be b row.length (f0::r)) (by
    rintro i d ρ hd ⟨hI,y4,y5,y6,rfl⟩;obtain⟨f,hf,rfl⟩:=qD hd;obtain⟨z6,e⟩:=BD C b ok row (f0::r) T i f hf (.cl (j0 s)) y6;refine⟨_,rfl,?_⟩;by_cases qf:f.all (JI b ((row.length:Int)+(i:Int)) (Js (f0::r) i))=true
    ·left;rw[if_pos qf]at e;refine⟨_,e,fun j g hj hg=>?_,_,_,_,rfl⟩;by_cases ej:j < i
     ·exact hI j g ej hg
     ·have:j=i:=by omega
      subst this;rw[hf]at hg;cases hg;exact List.all_eq_true.mp qf
    ·right;rw[if_neg qf]at e;exact⟨_,e,rfl,fun z=>qf (List.all_eq_true.mpr (z i f hf))⟩) (ρ:=[.bo (jz C b),.bo (.lst (row.map .int)),.bo (.lst (jr (f0::r))),.cl (j0 s),.un,.un,.un]) ⟨fun j f hj=>vDa hj (Nat.not_lt_zero _),.un,.un,.un,rfl⟩with⟨ρ',L1,hI,y4,y5,y6,rfl⟩ | ⟨i,d',_,L1,z1,z2⟩
   ·refine⟨true,?_,?_⟩
    ·rw[decide_eq_true q]at e2;simp only[Ju,y8];simp[-YY,e1,e2,ei,et,L1,zl]
    ·refine⟨fun _=>⟨q,fun i f hf=>hI i f ?_ hf⟩,fun _=>rfl⟩;have:=(List.getElem?_eq_some_iff.mp hf).1;rw[Y8];unfold jr;rw[List.length_map];exact this
   ·cases z1;refine⟨false,?_,by simp[z2]⟩;rw[decide_eq_true q]at e2;simp only[Ju,y8];simp[-YY,e1,e2,ei,et,L1,zl]
  ·refine⟨false,?_,by simp[q]⟩;rw[decide_eq_false q]at e2;simp only[Ju,y8];simp[-YY,e1,e2,ei,et]
def JO(b:Bk)(s:Sd)(n:Nat):List (List Sd):=(List.range n).map (jB b s)
theorem Xc(b:Bk)(s:Sd)(n:Nat):jr (JO b s n)=JN b s n:=by
 unfold jr JO JN;rw[List.map_map];rfl
theorem gf{b:Bk}{s:Sd}{n i:Nat}{f:List Sd}(h:(JO b s n)[i]?=some f):i < n/\f=jB b s i:=by
 unfold JO at h;rw[List.getElem?_map]at h;obtain⟨j,e1,e2⟩:=Option.map_eq_some_iff.mp h;obtain⟨e3,e4⟩:=List.getElem?_eq_some_iff.mp e1;rw[List.length_range]at e3;rw[List.getElem_range]at e4;exact⟨e3,by rw[<-e2,e4]⟩
theorem qE(C:Addr)(b:Bk)(ds:List Int)(ok:OkB b)(hn:16<=ds.length)(hn2:ds.length<=1000):∃s:Sd,zL C [jf b,.lst (ds.map .int)]=some (j0 s)/\Form b s:=by
 have s1:=ok.s1;have k1:=ok.k1;have k2:=ok.k2;have hd2:=ok.d2;obtain⟨v0,a0⟩:=yO (ds:=ds) (k:=0) (by decide) (by omega);obtain⟨v1,a1⟩:=yO (ds:=ds) (k:=1) (by decide) (by omega);obtain⟨v2,a2⟩:=yO (ds:=ds) (k:=2) (by decide) (by omega);obtain⟨v3,a3⟩:=yO (ds:=ds) (k:=3) (by decide) (by omega);have z1:J9 (b.kinds.length:Int)=true:=JK (by omega) (by omega);have z2:J9 (b.dues.length:Int)=true:=JK (by omega) (by omega);have z3:(jK 0 b.kinds.length).length<=sizeLine:=wQa (jq (by simp[jK];omega));have z4:(jK 0 b.dues.length).length<=sizeLine:=wQa (jq (by simp[jK];omega));have h1:=Jk (g:=gN 0) (dc:=jM) (de:=d2 jI (d2 jb (dV 1) (d2 jk (dK (.int 4)) (dV 0))) (dK (.int 5))) (ρ:=[.un,.bo (.lst (ds.map .int))]) (fun i:Nat=>D.int (0+(i:Int))) (fun i:Nat=>D.int (ds.getD (4+(i:Int)).toNat 0 % 5)) (xs:=List.range b.kinds.length) (fun i hi=>by
  have hi:=List.mem_range.mp hi;have a:=yR (f:=D.int) (xs:=ds) (d:=0) (k:=4+(i:Int)) (by omega) (by omega);refine⟨_,rfl,rfl,?_⟩;simp[a])
 have h2:=Jk (g:=gN 0) (dc:=jM) (de:=d2 jG (d2 jI (d2 jb (dV 1) (d2 jk (dK (.int 8)) (dV 0))) (dK (.int 2))) (dK (.int 1))) (ρ:=[.un,.bo (.lst (ds.map .int))]) (fun i:Nat=>D.int (0+(i:Int))) (fun i:Nat=>D.bl (decide (ds.getD (8+(i:Int)).toNat 0 % 2=1))) (xs:=List.range b.dues.length) (fun i hi=>by
  have hi:=List.mem_range.mp hi;have a:=yR (f:=D.int) (xs:=ds) (d:=0) (k:=8+(i:Int)) (by omega) (by omega);refine⟨_,rfl,rfl,?_⟩;simp[a])
 have r1:(List.range b.kinds.length).map (fun i:Nat=>D.int (0+(i:Int)))=jK 0 b.kinds.length:=rfl;have r2:(List.range b.dues.length).map (fun i:Nat=>D.int (0+(i:Int)))=jK 0 b.dues.length:=rfl;rw[r1]at h1;rw[r2]at h2;have q1:(List.range b.kinds.length).map (fun i:Nat=>D.int (ds.getD (4+(i:Int)).toNat 0 % 5))=((List.range b.kinds.length).map fun i:Nat=>ds.getD (4+(i:Int)).toNat 0 % 5).map D.int:=by rw[List.map_map];rfl
 have q2:(List.range b.dues.length).map (fun i:Nat=>D.bl (decide (ds.getD (8+(i:Int)).toNat 0 % 2=1)))=((List.range b.dues.length).map fun i:Nat=>decide (ds.getD (8+(i:Int)).toNat 0 % 2=1)).map D.bl:=by rw[List.map_map];rfl
 rw[q1]at h1;rw[q2]at h2;have w1:((List.range b.kinds.length).map fun i:Nat=>ds.getD (4+(i:Int)).toNat 0 % 5).length=b.kinds.length:=by simp
 have w2:((List.range b.dues.length).map fun i:Nat=>decide (ds.getD (8+(i:Int)).toNat 0 % 2=1)).length=b.dues.length:=by simp
 have wn:∀x∈((List.range b.kinds.length).map fun i:Nat=>ds.getD (4+(i:Int)).toNat 0 % 5),0<=x:=fun x hx=>by
  obtain⟨i,_,rfl⟩:=List.mem_map.mp hx;exact(jO (by decide)).1
 revert h1 h2 w1 w2 wn;generalize ((List.range b.kinds.length).map fun i:Nat=>ds.getD (4+(i:Int)).toNat 0 % 5)=ws;generalize ((List.range b.dues.length).map fun i:Nat=>decide (ds.getD (8+(i:Int)).toNat 0 % 2=1))=ms;intro h1 h2 w1 w2 wn;have m1:0 < b.size+1:=by omega
 have m2:0 < (b.kinds.length:Int)+1:=by omega
 have t1:=jO (a:=v1) (b:=(b.kinds.length:Int)+1) m2;refine⟨⟨v0 % (b.size+1),v1 % ((b.kinds.length:Int)+1) - 1,v2 % 5,v3 % ((b.kinds.length:Int)+1) - 1,ws,ms⟩,?_,⟨by show -1<=v1 % ((b.kinds.length:Int)+1) - 1;omega,by show v1 % ((b.kinds.length:Int)+1) - 1 < _;omega,w1,w2⟩,wn⟩;simp only[zL,vM];simp[z1,z2,z3,z4,YU,h1,h2,a0,a1,a2,a3,m1,m2,j0]
def J3(tb:List (List Sd)):List (List D):=tb.map fun l=>l.map j0
theorem zg(tb:List (List Sd)):(J3 tb).map D.lst=jr tb:=by
 unfold J3 jr;rw[List.map_map];rfl
theorem zT(tb:List (List Sd)):(J3 tb).length=tb.length:=by simp[J3]
theorem Xd:∀tb:List (List Sd),ww (jr tb)=some (J3 tb)
 | []=>rfl
 | l::tb=>by
  have e:=Xd tb;show(ww (jr tb)).map (fun ls=>l.map j0::ls)=_;rw[e];rfl
theorem qF(p:Nat->Int):∀(tb:List (List Sd)) (k:Nat),(∀(i:Nat) (f:List Sd),tb[i]?=some f->f≠[]/\∀t∈f,t.place=p (k+i))->gO (J3 tb)=some ((List.range tb.length).map fun i=>p (k+i))
 | [],_,_=>rfl
 | f::tb,k,h=>by
  have e:=qF p tb (k+1) (fun i g hg=>by
   have:=h (i+1) g (by simpa using hg);rw[show k+1+i=k+(i+1) by omega];exact this)
  obtain⟨h1,h2⟩:=h 0 f rfl;cases f with
  | nil=>exact vDa rfl h1
  | cons t r=>
   have h3:=h2 t wNa;show(GF (j0 t::r.map j0)).bind (fun a=>(gO (J3 tb)).map fun as=>a::as)=_;have h4:GF (j0 t::r.map j0)=some t.place:=rfl;rw[h4,e,List.length_cons,List.range_succ_eq_map,List.map_cons,List.map_map,h3];show some (p (k+0)::_)=some (p (k+0)::_);congr 2;refine List.map_congr_left fun i _=>?_;show p (k+1+i)=p (k+(i+1));rw[show k+1+i=k+(i+1) by omega]
theorem qG:∀l:List T3,YW (l.map t3)=true
 | []=>rfl
 | t::l=>by rw[List.map_cons,YW,qG l];simp[t3]
theorem eD:∀l:List T3,kH (l.map t3)=true
 | []=>rfl
 | t::l=>rfl
theorem kP:∀l:List Int,YW (l.map D.int)=true
 | []=>rfl
 | t::l=>by rw[List.map_cons,YW,kP l];simp
theorem Wg:∀l:List Bool,YW (l.map D.bl)=true
 | []=>rfl
 | t::l=>by rw[List.map_cons,YW,Wg l];simp
theorem uN:∀l:List Int,YI (l.map D.int)=true
 | []=>rfl
 | t::l=>by rw[List.map_cons,YI,uN l];simp
theorem gg:∀l:List Bool,YI (l.map D.bl)=true
 | []=>rfl
 | t::l=>by rw[List.map_cons,YI,gg l];simp
theorem GY:∀l:List Sd,YI (l.map j0)=true
 | []=>rfl
 | t::l=>by rw[List.map_cons,YI,GY l];simp[j0,uN,gg]
theorem BE(tb:List (List Sd)):(J3 tb).all YI=true:=by
 unfold J3;rw[List.all_map,List.all_eq_true];intro l _;exact GY l
theorem BF(b:Bk)(s:Sd):YW [jf b,j0 s]=true:=by
 simp[jf,j0,qG,eD,kP,Wg]
theorem Fo(C:Addr)(b:Bk)(ok:OkB b)(row:List Int)(h:vi b row){s:Sd}(hw:jV b (jN b) row=(s,none))(r0 r1 r3:Sl)(r:j9):∃n,qe (YF C) [(true,(dC 2)),(true,(ja (yp C) [(false,(dV 2)),(false,(dV 4))]))] (r0::r1::.cl (jf b)::r3::.cl (.lst (row.map .int))::r)=some (J3 (JO b s (n+1)))/\n+1<=32/\jB b s (n+1)=[]/\jB b s n≠[]:=by
 have L:=X9 ok h hw;have R:=StOf.all h.1 hw;obtain⟨n,e1,hn,he,hne⟩:=Xa C b ok s R.fo L;have hn0:n≠0:=fun z=>by subst z;simp[jB]at he
 obtain⟨m,rfl⟩:∃m,n=m+1:=⟨n - 1,by omega⟩
 have e2:=kN C b row ok h hw;refine⟨m,?_,hn,he,hne m (by omega)⟩;have ea:yh [(true,(dC 2)),(true,(ja (yp C) [(false,(dV 2)),(false,(dV 4))]))] (r0::r1::.cl (jf b)::r3::.cl (.lst (row.map .int))::r)=some [jf b,j0 s]:=by
  simp[e2]
 unfold qe;rw[ea,Option.bind_some,e1,Option.bind_some];show(ww (JN b s (m+1))).bind _=_;rw[<-Xc,Xd,Option.bind_some];have ek:=qF (fun i=>s.place+(i:Int)) (JO b s (m+1)) 0 (fun i f hf=>by
  obtain⟨hi,rfl⟩:=gf hf;refine⟨hne i hi,fun t ht=>?_⟩;rw[(Ua L.fit i t ht).2.1,Nat.zero_add])
 have nd:((List.range (JO b s (m+1)).length).map fun i=>s.place+((0+i:Nat):Int)).Nodup:=by
  refine List.Pairwise.map _ (fun a c hac=>?_) List.nodup_range;have:a≠c:=hac;omega
 have ne:(J3 (JO b s (m+1))).isEmpty=false:=by
  rw[<-Bool.not_eq_true,List.isEmpty_iff];intro z;have:=congrArg List.length z;simp[J3,JO]at this
 rw[ek,Option.bind_some];exact if_pos ⟨BF b s,ne,nd,BE _⟩
theorem IB:gw Kd.i "int" = some true:=rfl
theorem IC:gw Kd.i "bool" = some false:=rfl
theorem IE:gw Kd.b "bool" = some true:=rfl
theorem Wh:gw Kd.l "list" = some true:=rfl
theorem Ww(C:Addr)(b:Bk)(s:Sd)(ok:OkB b)(X:Fit b s):zc C [jf b,j0 s]=some (.bl true):=by
 have k2:=ok.k2;have d2':=ok.d2;have hw:=X.w;have hm:=X.m;obtain⟨ρ1,L1,y,rfl⟩:=JF (g:=Yv) (s:=yl C) (items:=([s.place,s.kind,s.len,s.before]++s.waits).map D.int) (fun i ρ=>∃y:Sl,ρ=[.bo (jf b),.bo (j0 s),y]) (by
  rintro i d ρ hd ⟨y,rfl⟩;rw[List.getElem?_map]at hd;obtain⟨x,_,rfl⟩:=Option.map_eq_some_iff.mp hd;refine⟨_,[.bo (jf b),.bo (j0 s),.cl (.int x)],rfl,?_,_,rfl⟩;simp only[yl];simp[IB,IC]) (ρ:=[.bo (jf b),.bo (j0 s),.un]) ⟨_,rfl⟩
 have hc:=Jk (g:=gN 0) (dc:=jM) (de:=d1 (YH "bool") (dV 0)) (ρ:=[.un]) D.bl (fun _:Bool=>D.bl true) (xs:=s.met) (fun x _=>by
  refine⟨_,rfl,rfl,?_⟩;simp[IE])
 have ha:=yG (fun _:Bool=>true) s.met;have zl:s.met.length<=sizeLine:=wQa (jq (by omega));have zl2:b.dues.length<=sizeLine:=wQa (jq (by omega));have i1:YH "tuple" (j0 s)=some (.bl true):=rfl;have i2:jU [j0 s]=some (.int 6):=rfl;have i3:YT (j0 s) none (some 4)=some (.tup [.int s.place,.int s.kind,.int s.len,.int s.before]):=rfl;have z5:(4:Nat)+b.kinds.length<=sizeLine:=wQa (jq (by omega));have L1':jS Yv (yl C) (D.int s.place::D.int s.kind::D.int s.len::D.int s.before::s.waits.map D.int) [.bo (jf b),.bo (j0 s),.un]=some (.nx [.bo (jf b),.bo (j0 s),y]):=by
  simpa using L1
 have f1:∀l:List D,YH "tuple" (.tup l)=some (.bl true):=fun _=>rfl;have f2:∀l:List D,jU [.tup l]=some (.int l.length):=fun _=>rfl;have f3:∀l:List D,jU [.lst l]=some (.int l.length):=fun _=>rfl;simp only[zc,zb];simp[-YH,-jU,f1,f2,f3,i1,i2,i3,hw,hm,z5,L1',hc,ha,zl2]
theorem kQ{b:Bk}{t:Sd}{l:List Sd}:((J1 b t).all fun p=>decide (p.2∈l))=true↔∀c:Nat,c < b.kinds.length->∀u,Jm b t (c:Int)=some u->u∈l:=by
 rw[List.all_eq_true];constructor
 ·intro h c hc u hu;exact vCa (h ((c:Int),u) (by
   unfold J1 zS;exact List.mem_filterMap.mpr ⟨c,List.mem_range.mpr hc,by rw[hu];rfl⟩))
 ·intro h p hp;obtain⟨c,hc,_,e⟩:=U9 hp;exact vAa (h c hc p.2 e)
theorem aV(C:Addr)(b:Bk)(ok:OkB b)(t:Sd)(X:Form b t)(l:List Sd)(hl:∀u∈l,Fit b u)(r1 r2 x5 x6:Sl):∃y5 y6:Sl,jS yE (Ja C) (jK 0 b.kinds.length) [.bo (jf b),r1,r2,.bo (.lst (l.map j0)),.cl (j0 t),x5,x6]=
  if ((J1 b t).all fun p=>decide (p.2∈l))=true then some (.nx [.bo (jf b),r1,r2,.bo (.lst (l.map j0)),.cl (j0 t),y5,y6])else some (.rt (.bl false)):=by
 rcases Vu (g:=yE) (s:=Ja C) (items:=jK 0 b.kinds.length) (r:=.nx []) (fun i ρ=>(∀c:Nat,c < i->∀u,Jm b t (c:Int)=some u->u∈l)/\∃y5 y6:Sl,ρ=[.bo (jf b),r1,r2,.bo (.lst (l.map j0)),.cl (j0 t),y5,y6]) (fun i z=>z=.rt (.bl false)/\¬((J1 b t).all fun p=>decide (p.2∈l))=true) (by
  rintro i d ρ hd ⟨hI,y5,y6,rfl⟩;obtain⟨hi,rfl⟩:=VL hd;have e1:=ZT C b t (i:Int) ok X ⟨by omega,by omega⟩;refine⟨_,rfl,?_⟩;cases hs:Jm b t (i:Int)with
  | none=>
   rw[hs]at e1;left;refine⟨[.bo (jf b),r1,r2,.bo (.lst (l.map j0)),.cl (j0 t),.cl (.int (i:Int)),.cl .non],?_,fun c hc u hu=>?_,_,_,rfl⟩
   ·simp only[Ja];simp[e1,Yj]
   ·by_cases q:c < i
    ·exact hI c q u hu
    ·have:c=i:=by omega
     subst this;rw[hs]at hu;cases hu
  | some v=>
   rw[hs]at e1;have V:=(W7 X.toFit hi hs).1;have e2:=We V hl;by_cases q:v∈l
   ·rw[decide_eq_true q]at e2;left;refine⟨[.bo (jf b),r1,r2,.bo (.lst (l.map j0)),.cl (j0 t),.cl (.int (i:Int)),.cl (j0 v)],?_,fun c hc u hu=>?_,_,_,rfl⟩
    ·simp only[Ja];simp[-YY,e1,Yj,e2]
    ·by_cases q':c < i
     ·exact hI c q' u hu
     ·have:c=i:=by omega
      subst this;rw[hs]at hu;cases hu;exact q
   ·rw[decide_eq_false q]at e2;right;refine⟨.bl false,?_,rfl,fun z=>q (kQ.mp z i hi v hs)⟩;simp only[Ja];simp[-YY,e1,Yj,e2]) (ρ:=[.bo (jf b),r1,r2,.bo (.lst (l.map j0)),.cl (j0 t),x5,x6]) ⟨fun c hc=>vDa hc (Nat.not_lt_zero _),x5,x6,rfl⟩with⟨ρ',L1,hI,y5,y6,rfl⟩ | ⟨i,d',_,L1,z1,z2⟩
 ·refine⟨y5,y6,?_⟩;rw[L1,if_pos];exact kQ.mpr fun c hc=>hI c (by simp[jK];exact hc)
 ·cases z1;refine⟨.un,.un,?_⟩;rw[L1,if_neg z2]
theorem kR(C:Addr)(b:Bk)(ok:OkB b)(k:Int)(hk:k < b.size)(l:List Sd)(hl:∀u∈l,Fit b u)(r1:Sl):∀(f:List Sd),(∀t∈f,Form b t)->∀x4 x5 x6:Sl,∃y4 y5 y6:Sl,jS yF (jL C) (f.map j0) [.bo (jf b),r1,.bo (.int k),.bo (.lst (l.map j0)),x4,x5,x6]=
  if f.all (JI b k l)=true then some (.nx [.bo (jf b),r1,.bo (.int k),.bo (.lst (l.map j0)),y4,y5,y6])else some (.rt (.bl false))
 | [],_,x4,x5,x6=>⟨x4,x5,x6,rfl⟩
 | t::f,h,x4,x5,x6=>by
  have X:=h t wNa;have k2:=ok.k2;have z1:J9 (b.kinds.length:Int)=true:=JK (by omega) (by omega);have e1:=Ww C b t ok X.toFit;obtain⟨y5,y6,e2⟩:=aV C b ok t X l hl r1 (.bo (.int k)) x5 x6;obtain⟨z4,z5,z6,e3⟩:=kR C b ok k hk l hl r1 f (fun u hu=>h u (wMa _ hu)) (.cl (j0 t)) y5 y6;refine⟨z4,z5,z6,?_⟩;rw[List.map_cons,jS];have g:yF (j0 t) [.bo (jf b),r1,.bo (.int k),.bo (.lst (l.map j0)),x4,x5,x6]=some [.bo (jf b),r1,.bo (.int k),.bo (.lst (l.map j0)),.cl (j0 t),x5,x6]:=rfl;rw[g,Option.bind_some];by_cases q:t.place=k
  ·cases qa:(J1 b t).all fun p=>decide (p.2∈l)with
   | true=>
    rw[qa,if_pos rfl]at e2;have e4:jL C [.bo (jf b),r1,.bo (.int k),.bo (.lst (l.map j0)),.cl (j0 t),x5,x6]=some (.nx [.bo (jf b),r1,.bo (.int k),.bo (.lst (l.map j0)),.cl (j0 t),y5,y6]):=by
     simp only[jL];simp[e1,q,z1,e2]
    have ec:JI b k l t=true:=by unfold JI;rw[qa,decide_eq_true q,decide_eq_true hk];rfl
    rw[e4,List.all_cons,ec,Bool.true_and];exact e3
   | false=>
    rw[qa,if_neg (by simp)]at e2;have e4:jL C [.bo (jf b),r1,.bo (.int k),.bo (.lst (l.map j0)),.cl (j0 t),x5,x6]=some (.rt (.bl false)):=by
     simp only[jL];simp[e1,q,z1,e2]
    have ec:JI b k l t=false:=by unfold JI;rw[qa];simp
    rw[e4,List.all_cons,ec];rfl
  ·have e4:jL C [.bo (jf b),r1,.bo (.int k),.bo (.lst (l.map j0)),.cl (j0 t),x5,x6]=some (.rt (.bl false)):=by
    simp only[jL];simp[e1,q]
   have ec:JI b k l t=false:=by unfold JI;rw[decide_eq_false q];rfl
   rw[e4,List.all_cons,ec];rfl
theorem kT(l:List Sd):jG (.lst (l.map j0)) (.lst [])=some (.bl (decide (l=[]))):=by
 have e:dep (.lst (l.map j0))<=20:=by rw[dep];have:=Zu l;omega
 have e0:Z2 (D.lst (l.map j0)) (D.lst [])=true:=rfl;unfold jG;rw[if_pos e0];unfold vq;rw[if_pos ⟨e0,e⟩,yZ];cases l with
 | nil=>rfl
 | cons s l=>rw[if_neg (by simp),decide_eq_false (by simp)];rfl
theorem GZ(C:Addr)(b:Bk)(ok:OkB b)(k:Int)(l f:List Sd)(hl:∀u∈l,Fit b u)(hf:∀t∈f,Form b t):Yi C [jf b,.lst (f.map j0),.int k,.lst (l.map j0)]=some (.bl (f.all (JI b k l))):=by
 simp only[Yi,Yh];by_cases hk:k < b.size
 ·have hk':¬b.size<=k:=by omega
  obtain⟨y4,y5,y6,e⟩:=kR C b ok k hk l hl (.bo (.lst (f.map j0))) f hf .un .un .un;cases q:f.all (JI b k l)with
  | true=>rw[q,if_pos rfl]at e;simp[Wh,hk',e]
  | false=>rw[q,if_neg (by simp)]at e;simp[Wh,hk',e]
 ·have hk':b.size<=k:=by omega
  have en:=kT f;have ef:f.all (JI b k l)=decide (f=[]):=by
   cases f with
   | nil=>rfl
   | cons t r=>
    have:JI b k l t=false:=by unfold JI;rw[decide_eq_false hk];simp
    rw[List.all_cons,this,decide_eq_false (by simp)];rfl
  rw[ef];simp[-jG,Wh,hk',en]
theorem Xe{b:Bk}{k:Int}{l l':List Sd}(h:∀t,t∈l↔t∈l')(s:Sd):JI b k l s=JI b k l' s:=by
 unfold JI;have:∀p:Int×Sd,decide (p.2∈l)=decide (p.2∈l'):=fun p=>decide_eq_decide.mpr (h p.2);simp only[this]
structure Tf (b:Bk) (tb:List (List Sd)):Prop extends TbW b tb where
 form:∀l∈tb,∀t∈l,Form b t
theorem aW{b:Bk}{tb:List (List Sd)}(T:TbW b tb)(i:Nat):∀t∈tb.getD i [],Fit b t:=fun t h=>by
 rw[List.getD_eq_getElem?_getD]at h;cases e:tb[i]? with
 | none=>rw[e]at h;cases h
 | some f=>rw[e]at h;exact T.fit f (wYa e) t h
theorem Fp(C:Addr)(b:Bk)(ok:OkB b)(row:List Int)(tb:List (List Sd))(T:Tf b tb)(i:Nat)(f:List Sd)(hf:tb[i]?=some f)(x5:Sl):∃y5:Sl,Y2 C [.bo (jf b),.bo (.lst (row.map .int)),.bo (.lst (jr tb)),.cl (.int (i:Int)),.cl (.lst (f.map j0)),x5]=
  if f.all (JI b ((row.length:Int)+(i:Int)) (Js tb i))=true then some (.nx [.bo (jf b),.bo (.lst (row.map .int)),.bo (.lst (jr tb)),.cl (.int (i:Int)),.cl (.lst (f.map j0)),y5])else some (.rt (.bl false)):=by
 have hm:=wYa hf;have hi:=(List.getElem?_eq_some_iff.mp hf).1;have hfew:=T.few;have e1:=GZ C b ok ((row.length:Int)+(i:Int)) (tb.getD (i+1) []) f (aW T.toTbW _) (T.form f hm);have ec:f.all (JI b ((row.length:Int)+(i:Int)) (tb.getD (i+1) []))=f.all (JI b ((row.length:Int)+(i:Int)) (Js tb i)):=by
  have:JI b ((row.length:Int)+(i:Int)) (tb.getD (i+1) [])=JI b ((row.length:Int)+(i:Int)) (Js tb i):=funext fun s=>Xe (fun t=>BC.symm) s;rw[this]
 rw[ec]at e1;clear ec;have ea:atI (jr tb++[.lst []]) ((i:Int)+1)=some (.lst ((tb.getD (i+1) []).map j0)):=by
  refine ZD (by omega) ?_;rw[show((i:Int)+1).toNat=i+1 by omega,List.getD_eq_getElem?_getD];unfold jr;by_cases q:i+1 < tb.length
  ·rw[List.getElem?_append_left (by rw[List.length_map];exact q),List.getElem?_map];have:tb[i+1]?=some tb[i+1]:=by simp[q]
   rw[this];rfl
  ·have:tb[i+1]?=none:=List.getElem?_eq_none (by omega);rw[this,List.getElem?_append_right (by rw[List.length_map];omega),List.length_map,show i+1 - tb.length=0 by omega];rfl
 have zl:(jr tb).length+1<=sizeLine:=wQa (jq (by simp[jr];omega));revert e1 ea;generalize tb.getD (i+1) []=l2;intro e1 ea;refine⟨.cl (.lst (l2.map j0)),?_⟩;simp only[Y2];cases q:f.all (JI b ((row.length:Int)+(i:Int)) (Js tb i))with
 | true=>rw[q]at e1;simp[vn,zl,ea,e1]
 | false=>rw[q]at e1;simp[vn,zl,ea,e1]
theorem Ql(C:Addr)(b:Bk)(ok:OkB b)(row:List Int)(h:vi b row){s:Sd}(hw:jV b (jN b) row=(s,none))(tb:List (List Sd))(T:Tf b tb):∃x:Bool,y7 C [jf b,.lst (row.map .int),.lst (jr tb)]=some (.bl x)/\(x=true↔s∈tb.getD 0 []/\be b row.length tb):=by
 have X:=(StOf.all h.1 hw).fo.toFit;have e1:=kN C b row ok h hw;cases tb with
 | nil=>
  refine⟨false,?_,by simp⟩;simp only[y7,J_];have e0:jG (.lst (jr [])) (.lst [])=some (.bl true):=kT [];simp[-jG,e0,Wh]
 | cons f0 r=>
  have e2:=We X (T.fit f0 wNa);have ei:atI (jr (f0::r)) 0=some (.lst (f0.map j0)):=by
   unfold jr atI yt;simp
  have e0:jG (.lst (jr (f0::r))) (.lst [])=some (.bl false):=by
   have q0:Z2 (D.lst (jr (f0::r))) (D.lst [])=true:=rfl;have qd:dep (.lst (jr (f0::r)))<=20:=by
    have:∀tb:List (List Sd),JL (jr tb)<=6:=fun tb=>by
     induction tb with
     | nil=>simp[jr]
     | cons l tb ih=>
      show max (JL (l.map j0)+1) (JL (jr tb))<=6;have:=Zu l;omega
    rw[dep];have:=this (f0::r);omega
   unfold jG;rw[if_pos q0];unfold vq;rw[if_pos ⟨q0,qd⟩,yZ,if_neg (by simp[jr])];rfl
  by_cases q:s∈f0
  ·have zl:(jr (f0::r)).length<=sizeLine:=wQa (jq (by have:=T.few;simp[jr]at this⊢;omega));rcases Vu (g:=vf) (s:=Y2 C) (items:=yi 0 (jr (f0::r))) (r:=.nx []) (fun i ρ=>(∀(j:Nat) (f:List Sd),j < i->(f0::r)[j]?=some f->∀t∈f,JI b ((row.length:Int)+(j:Int)) (Js (f0::r) j) t=true)/\∃y3 y4 y5:Sl,ρ=[.bo (jf b),.bo (.lst (row.map .int)),.bo (.lst (jr (f0::r))),y3,y4,y5]) (fun i z=>z=.rt (.bl false)/\¬be b row.length (f0::r)) (by
    rintro i d ρ hd ⟨hI,y3,y4,y5,rfl⟩;obtain⟨f,hf,rfl⟩:=qD hd;obtain⟨z5,e⟩:=Fp C b ok row (f0::r) T i f hf y5;refine⟨_,rfl,?_⟩;by_cases qf:f.all (JI b ((row.length:Int)+(i:Int)) (Js (f0::r) i))=true
    ·left;rw[if_pos qf]at e;refine⟨_,e,fun j g hj hg=>?_,_,_,_,rfl⟩;by_cases ej:j < i
     ·exact hI j g ej hg
     ·have:j=i:=by omega
      subst this;rw[hf]at hg;cases hg;exact List.all_eq_true.mp qf
    ·right;rw[if_neg qf]at e;exact⟨_,e,rfl,fun z=>qf (List.all_eq_true.mpr (z i f hf))⟩) (ρ:=[.bo (jf b),.bo (.lst (row.map .int)),.bo (.lst (jr (f0::r))),.un,.un,.un]) ⟨fun j f hj=>vDa hj (Nat.not_lt_zero _),.un,.un,.un,rfl⟩with⟨ρ',L1,hI,y3,y4,y5,rfl⟩ | ⟨i,d',_,L1,z1,z2⟩
   ·refine⟨true,?_,?_⟩
    ·rw[decide_eq_true q]at e2;simp only[y7,J_];simp[-YY,-jG,Wh,e0,e1,e2,ei,L1,zl]
    ·refine⟨fun _=>⟨q,fun i f hf=>hI i f ?_ hf⟩,fun _=>rfl⟩;have:=(List.getElem?_eq_some_iff.mp hf).1;rw[Y8];unfold jr;rw[List.length_map];exact this
   ·cases z1;refine⟨false,?_,by simp[z2]⟩;rw[decide_eq_true q]at e2;simp only[y7,J_];simp[-YY,-jG,Wh,e0,e1,e2,ei,L1,zl]
  ·refine⟨false,?_,by simp[q]⟩;rw[decide_eq_false q]at e2;simp only[y7,J_];simp[-YY,-jG,Wh,e0,e1,e2,ei]
theorem eE(t:Sd)(k:Int):(YT (j0 t) (some 1) none).bind (fun y=>jk (.tup [.int k]) y)=some (j0 { t with place:=k }):=by
 have:YT (j0 t) (some 1) none=some (.tup [.int t.kind,.int t.len,.int t.before,.tup (t.waits.map .int),.tup (t.met.map .bl)]):=rfl;rw[this];rfl
theorem jY{a c:DS.DS}{ρ ρ':j9}(h:a ρ=some (.nx ρ')):j5 a c ρ=c ρ':=by rw[K_,h];rfl
theorem Qm(C:Addr)(b:Bk)(ok:OkB b)(t:Sd)(X:Form b t)(ds:List Int)(hn:18<=ds.length)(hn2:ds.length<=1000):∃t':Sd,JP C [jf b,j0 t,.lst (ds.map .int)]=some (j0 t')/\Form b t':=by
 have ec:jJ (ds.map D.int) (some 2) none=(ds.drop 2).map D.int:=by
  have:=V9 ds 2;rw[JV,<-this];rfl
 obtain⟨f,ef,F⟩:=qE C b (ds.drop 2) ok (by rw[List.length_drop];omega) (by rw[List.length_drop];omega);revert ec ef;generalize ds.drop 2=ds2;intro ec ef;obtain⟨v0,a0⟩:=yO (ds:=ds) (k:=0) (by decide) (by omega);have m:=jO (a:=v0) (b:=5) (by decide);have key:∀t':Sd,(((YT (j0 t) none (some (1+v0 % 5))).bind fun x=>(YT (j0 f) (some (1+v0 % 5)) (some (1+v0 % 5+1))).bind fun y=>jk x y).bind fun x=>(YT (j0 t) (some (1+v0 % 5+1)) none).bind fun y=>jk x y)=some (j0 t')->JP C [jf b,j0 t,.lst (ds.map .int)]=some (j0 t'):=fun t' h=>by
  have hb:Yp C [.bo (jf b),.bo (j0 t),.bo (.lst (ds.map .int)),.un,.un]=some (.rt (j0 t')):=by
   unfold Yp;refine(jY (ρ':=[.bo (jf b),.bo (j0 t),.bo (.lst (ds.map .int)),.cl (j0 f),.un]) ?_).trans ?_
   ·simp[ec,ef,J4]
   refine(jY (ρ':=[.bo (jf b),.bo (j0 t),.bo (.lst (ds.map .int)),.cl (j0 f),.cl (.int (1+v0 % 5))]) ?_).trans ?_
   ·simp[a0]
   exact congrArg (fun o:Option D=>o.bind fun d=>some (Rs.rt d)) h
  simp[JP,hb]
 have cs:v0 % 5=0∨v0 % 5=1∨v0 % 5=2∨v0 % 5=3∨v0 % 5=4:=by omega
 rcases cs with e | e | e | e | e <;> rw[e]at key
 ·exact⟨{ t with kind:=f.kind },key _ rfl,⟨F.toFit.1,F.toFit.2,X.toFit.3,X.toFit.4⟩,X.2⟩
 ·exact⟨{ t with len:=f.len },key _ rfl,⟨X.toFit.1,X.toFit.2,X.toFit.3,X.toFit.4⟩,X.2⟩
 ·exact⟨{ t with before:=f.before },key _ rfl,⟨X.toFit.1,X.toFit.2,X.toFit.3,X.toFit.4⟩,X.2⟩
 ·exact⟨{ t with waits:=f.waits },key _ rfl,⟨X.toFit.1,X.toFit.2,F.toFit.3,X.toFit.4⟩,F.2⟩
 ·exact⟨{ t with met:=f.met },key _ rfl,⟨X.toFit.1,X.toFit.2,X.toFit.3,F.toFit.4⟩,X.2⟩
structure Tq (b:Bk) (N:Nat) (tb:List (List Sd)):Prop where
 form:∀l∈tb,∀t∈l,Form b t
 len:∀l∈tb,l.length<=300000+N
 few:tb.length<=40+N
theorem Tq.tf{b:Bk}{N:Nat}{tb:List (List Sd)}(T:Tq b N tb)(h:N<=100):Tf b tb:=⟨⟨fun l hl t ht=>(T.form l hl t ht).toFit,fun l hl=>by have:=T.len l hl;omega,by have:=T.few;omega⟩,T.form⟩
theorem Tq.put{b:Bk}{N:Nat}{tb:List (List Sd)}(T:Tq b N tb)(j:Nat){f:List Sd}(h1:∀t∈f,Form b t)(h2:f.length<=300000+N+1):Tq b (N+1) (tb.set j f):=by
 refine⟨fun l hl t ht=>?_,fun l hl=>?_,by rw[List.length_set];have:=T.few;omega⟩
 ·rcases List.mem_or_eq_of_mem_set hl with hl | rfl
  ·exact T.form l hl t ht
  ·exact h1 t ht
 ·rcases List.mem_or_eq_of_mem_set hl with hl | rfl
  ·have:=T.len l hl;omega
  ·omega
theorem Tq.ins{b:Bk}{N:Nat}{tb:List (List Sd)}(T:Tq b N tb)(j:Nat):Tq b (N+1) (tb.take j++[]::tb.drop j):=by
 have hm:∀l∈tb.take j++[]::tb.drop j,l∈tb∨l=[]:=fun l hl=>by
  rcases List.mem_append.mp hl with h | h
  ·exact .inl (vVa h)
  ·rcases List.mem_cons.mp h with h | h
   ·exact .inr h
   ·exact .inl (List.mem_of_mem_drop h)
 refine⟨fun l hl u hu=>?_,fun l hl=>?_,?_⟩
 ·rcases hm l hl with hl | rfl
  ·exact T.form l hl u hu
  ·cases hu
 ·rcases hm l hl with hl | rfl
  ·have:=T.len l hl;omega
  ·simp
 ·have:=T.few;simp;omega
theorem Tq.pop{b:Bk}{N:Nat}{tb:List (List Sd)}(T:Tq b N tb)(j:Nat):Tq b (N+1) (tb.eraseIdx j):=by
 refine⟨fun l hl=>T.form l (List.mem_of_mem_eraseIdx hl),fun l hl=>by have:=T.len l (List.mem_of_mem_eraseIdx hl);omega,?_⟩;have:=T.few;have:=(List.eraseIdx_sublist tb j).length_le;omega
theorem Tq.up{b:Bk}{N:Nat}{tb:List (List Sd)}(T:Tq b N tb):Tq b (N+1) tb:=⟨T.form,fun l hl=>by have:=T.len l hl;omega,by have:=T.few;omega⟩
theorem Y7(tb:List (List Sd))(j:Nat)(f:List Sd):(J3 tb).set j (f.map j0)=J3 (tb.set j f):=by
 unfold J3;rw[List.map_set]
theorem kU(C:Addr)(b:Bk)(ok:OkB b)(ds:List Int)(pl:Int)(hd:25<=ds.length)(hd2:ds.length<=1000)(tb:List (List Sd))(h0:tb≠[])(N:Nat)(hN:N<=2)(T:Tq b N tb):∃tb',yM C (J3 tb) [jf b,.int pl,.lst (ds.map .int)]=some (J3 tb')/\Tq b (N+1) tb':=by
 have hl0:0 < tb.length:=List.length_pos_iff.mpr h0;have hfew:=T.few;obtain⟨v0,a0⟩:=yO (ds:=ds) (k:=0) (by decide) (by omega);obtain⟨v1,a1⟩:=yO (ds:=ds) (k:=1) (by decide) (by omega);obtain⟨v2,a2⟩:=yO (ds:=ds) (k:=2) (by decide) (by omega);have ec4:jJ (ds.map D.int) (some 4) none=(ds.drop 4).map D.int:=by
  have:=V9 ds 4;rw[JV,<-this];rfl
 have ec3:jJ (ds.map D.int) (some 3) none=(ds.drop 3).map D.int:=by
  have:=V9 ds 3;rw[JV,<-this];rfl
 obtain⟨fr,ef,F⟩:=qE C b (ds.drop 4) ok (by rw[List.length_drop];omega) (by rw[List.length_drop];omega);have hch:=fun t (X:Form b t)=>Qm C b ok t X (ds.drop 3) (by rw[List.length_drop];omega) (by rw[List.length_drop];omega);revert ec4 ec3 ef hch;generalize ds.drop 4=d4;generalize ds.drop 3=d3;intro ec4 ec3 ef hch;have m1:(0:Int) < (tb.length:Int):=by omega
 have mi:=jO (a:=v1) m1;revert mi;generalize ea:v1 % (tb.length:Int)=ax;intro mi;have hj:ax.toNat < tb.length:=by omega
 have hf:tb[ax.toNat]?=some tb[ax.toNat]:=by simp[hj]
 revert hf;generalize tb[ax.toNat]=f;intro hf;have hm:=wYa hf;have hl:(J3 tb)[ax.toNat]?=some (f.map j0):=by unfold J3;rw[List.getElem?_map,hf];rfl
 have hx:yt tb.length ax=some ax.toNat:=G8 mi.1 (by omega);have eat:atI (jr tb) ax=some (.lst (f.map j0)):=by
  refine ZD mi.1 ?_;unfold jr;rw[List.getElem?_map,hf];rfl
 have fl:=T.len f hm;have fF:=T.form f hm;have z:(10001000:Nat) < sizeLine:=by decide
 have mxp:(0:Int) < (if (f.length:Int) > 1 then(f.length:Int)else 1):=by split <;> omega
 have mh:=jO (a:=v2) mxp;have hmx:(if (f.length:Int) > 1 then(f.length:Int)else 1)<=(f.length:Int)+1:=by split <;> omega
 have hmx2:f≠[]->(if (f.length:Int) > 1 then(f.length:Int)else 1)<=(f.length:Int):=fun z=>by have:=List.length_pos_iff.mpr z;split <;> omega
 have mxp':0 < (if (1:Int) < (f.length:Int)then(f.length:Int)else 1):=mxp;revert mh;generalize eh:v2 % (if (f.length:Int) > 1 then(f.length:Int)else 1)=hh;intro mh;have eh':v2 % (if (1:Int) < (f.length:Int)then(f.length:Int)else 1)=hh:=eh;generalize ew:v0 % 8=w;have mw:=jO (a:=v0) (b:=8) (by decide);rw[ew]at mw
 let R:List (List Sd)->j9:=fun tb=>[.cl (jf b),.lo (J3 tb),.cl (.int pl),.cl (.lst (ds.map .int)),.cl (.int ax),.cl (.int hh),.cl (j0 fr),.cl (.int w)]
 have no:∀(k:Int) (S:DS.DS) (tb:List (List Sd)),w≠k->ji (jj (d2 jG (dV 7) (dK (.int k)))) S js (R tb)=some (.nx (R tb)):=fun k S tb h=>by
  simp[R,h]
 have yes:∀(k:Int) (S:DS.DS) (tb:List (List Sd)),w=k->ji (jj (d2 jG (dV 7) (dK (.int k)))) S js (R tb)=S (R tb):=fun k S tb h=>by
  simp[R,h]
 have fin:∀X1 X2 X3 X4 X5 X6 X7:List (List Sd),Tq b (N+1) X7->
   ji (jj (d2 jG (dV 7) (dK (.int 1)))) (zG 1 (dV 4) (fun ρ=>((kr vn (dL (Jp (d2 jb (dV 1) (dV 4)) (fun _=>some none) (fun ρ=>((dV 5) ρ).bind J4))) (dL (Jp (d2 jb (dV 1) (dV 4)) (fun ρ=>((d2 jk (dV 5) (dK (.int 1))) ρ).bind J4) (fun _=>some none)))) (frz ρ)).bind zF)) js (R tb)=some (.nx (R X1))->
   ji (jj (d2 jG (dV 7) (dK (.int 2)))) (Vo 1 (dV 4) (dV 5) (d2 jk (yv [(true,(ja KS [(false,(d2 jk (dV 2) (dV 4))),(false,(d2 jb (dV 0) (dK (.int 0))))]))]) (zD (dV 6) (fun ρ=>((dK (.int 1)) ρ).bind J4) (fun _=>some none)))) js (R X1)=some (.nx (R X2))->
   ji (fun ρ=>(Jh (jj (d2 jG (dV 7) (dK (.int 3)))) (jj (d2 J6 (d2 jb (dV 1) (dV 4)) (dL (jT []))))) (frz ρ)) (Vp 1 (dV 4) (dV 5) (fun ρ=>((ja (JP C) [(false,(dV 0)),(false,(d2 jb (d2 jb (dV 1) (dV 4)) (dV 5))),(false,(dL (Jp (dV 3) (fun ρ=>((dK (.int 3)) ρ).bind J4) (fun _=>some none))))]) (frz ρ)).bind DS.Ys)) js (R X2)=some (.nx (R X3))->
   ji (jj (d2 jG (dV 7) (dK (.int 4)))) (Vq 1 (dV 4)) js (R X3)=some (.nx (R X4))->
   ji (jj (d2 jG (dV 7) (dK (.int 5)))) (Vn 1 (dV 4) (jT [])) js (R X4)=some (.nx (R X5))->
   ji (jj (d2 jG (dV 7) (dK (.int 6)))) (zG 1 (dV 4) (fun ρ=>((jT []) (frz ρ)).bind zF)) js (R X5)=some (.nx (R X6))->
   ji (jj (d2 jG (dV 7) (dK (.int 7)))) (U2 1 (dV 4) (dC 6)) js (R X6)=some (.nx (R X7))->∃tb',yM C (J3 tb) [jf b,.int pl,.lst (ds.map .int)]=some (J3 tb')/\Tq b (N+1) tb':=fun X1 X2 X3 X4 X5 X6 X7 T7 s1 s2 s3 s4 s5 s6 s7=>by
  have hb:JZ C [.cl (jf b),.lo (J3 tb),.cl (.int pl),.cl (.lst (ds.map .int)),.un,.un,.un,.un]=some (.nx (R X7)):=by
   unfold JZ;refine(jY (ρ':=[.cl (jf b),.lo (J3 tb),.cl (.int pl),.cl (.lst (ds.map .int)),.cl (.int ax),.un,.un,.un]) ?_).trans ?_
   ·simp[frz,fz,zg,zT,jr,a1,hl0,ea,DS.Ys]
   refine(jY (ρ':=[.cl (jf b),.lo (J3 tb),.cl (.int pl),.cl (.lst (ds.map .int)),.cl (.int ax),.cl (.int hh),.un,.un]) ?_).trans ?_
   ·simp[frz,fz,zg,eat,a2,mxp',eh',DS.Ys]
   refine(jY (ρ':=[.cl (jf b),.lo (J3 tb),.cl (.int pl),.cl (.lst (ds.map .int)),.cl (.int ax),.cl (.int hh),.cl (j0 fr),.un]) ?_).trans ?_
   ·simp[ec4,ef,J4]
   refine(jY (ρ':=R tb) ?_).trans ?_
   ·simp[R,a0,ew]
   exact(jY s1).trans ((jY s2).trans ((jY s3).trans ((jY s4).trans ((jY s5).trans ((jY s6).trans ((jY s7).trans rfl))))))
  refine⟨X7,?_,T7⟩;show(JZ C [.cl (jf b),.lo (J3 tb),.cl (.int pl),.cl (.lst (ds.map .int)),.un,.un,.un,.un]).bind _=_;rw[hb];rfl
 have no3:∀(S:DS.DS) (tb:List (List Sd)),w≠3->ji (fun ρ=>(Jh (jj (d2 jG (dV 7) (dK (.int 3)))) (jj (d2 J6 (d2 jb (dV 1) (dV 4)) (dL (jT []))))) (frz ρ)) S js (R tb)=some (.nx (R tb)):=fun S tb h=>by
  simp[R,frz,fz,h]
 have cs:w=0∨w=1∨w=2∨w=3∨w=4∨w=5∨w=6∨w=7:=by omega
 rcases cs with h | h | h | h | h | h | h | h
 ·exact fin tb tb tb tb tb tb tb T.up (no _ _ _ (by omega)) (no _ _ _ (by omega)) (no3 _ _ (by omega)) (no _ _ _ (by omega)) (no _ _ _ (by omega)) (no _ _ _ (by omega)) (no _ _ _ (by omega))
 ·have c1:jJ (f.map j0) none (some hh)=(f.take hh.toNat).map j0:=by
   have:=xS f hh.toNat
   rw[JV,<-this,Int.toNat_of_nonneg mh.1]
  have c2:jJ (f.map j0) (some (hh+1)) none=(f.drop (hh.toNat+1)).map j0:=by
   have:=V9 f (hh.toNat+1);rw[JV,<-this];congr 3;omega
  have g1:(f.take hh.toNat).length<=f.length:=by rw[List.length_take];omega
  have g2:(f.drop (hh.toNat+1)).length<=f.length:=by rw[List.length_drop];omega
  have g3:(f.take hh.toNat).length+(f.drop (hh.toNat+1)).length<=f.length:=by rw[List.length_take,List.length_drop];omega
  have g4:∀t∈f.take hh.toNat++f.drop (hh.toNat+1),Form b t:=fun t ht=>fF t ((List.mem_append.mp ht).elim vVa List.mem_of_mem_drop);revert c1 c2 g1 g2 g3 g4;generalize f.take hh.toNat=l1;generalize f.drop (hh.toNat+1)=l2;intro c1 c2 g1 g2 g3 g4;have tl:YI (l1.map j0++l2.map j0)=true:=by rw[<-List.map_append];exact GY _
  have es:=Y7 tb ax.toNat (l1++l2)
  rw[List.map_append]at es;have zl:l1.length+l2.length<=sizeLine:=by omega
  exact fin (tb.set ax.toNat (l1++l2)) _ _ _ _ _ _ (T.put _ g4 (by rw[List.length_append];omega)) ((yes _ _ _ h).trans (by
   simp[R,zG,frz,fz,zg,eat,vn,c1,c2,zF,tl,hx,zT,zl,J4];exact es)) (no _ _ _ (by omega)) (no3 _ _ (by omega)) (no _ _ _ (by omega)) (no _ _ _ (by omega)) (no _ _ _ (by omega)) (no _ _ _ (by omega))
 ·have hz:hh<=(f.length:Int)/\f.length < 1000000:=⟨by omega,by omega⟩
  have ep:=eE fr (if b.size < pl+ax then b.size else pl+ax);have es:=Y7 tb ax.toNat (f.take hh.toNat++{ fr with place:=(if b.size < pl+ax then b.size else pl+ax) }::f.drop hh.toNat)
  rw[List.map_append,List.map_cons,List.map_take,List.map_drop]at es;exact fin _ (tb.set ax.toNat (f.take hh.toNat++{ fr with place:=(if b.size < pl+ax then b.size else pl+ax) }::f.drop hh.toNat)) _ _ _ _ _ (T.put _ (fun t ht=>by
    rcases List.mem_append.mp ht with ht | ht
    ·exact fF t (vVa ht)
    ·rcases List.mem_cons.mp ht with rfl | ht
     ·exact⟨⟨F.toFit.1,F.toFit.2,F.toFit.3,F.toFit.4⟩,F.2⟩
     ·exact fF t (List.mem_of_mem_drop ht)) (by rw[List.length_append,List.length_cons,List.length_take,List.length_drop];omega)) (no _ _ _ (by omega)) ((yes _ _ _ h).trans (by
   have hi1:=mh.1;have hz1:=hz.1;have hz2:=hz.2;have key:∀(E:DE) (d:Sd),E (R tb)=some (j0 d)->Vo 1 (dV 4) (dV 5) E (R tb)=some (.nx [.cl (jf b),.lo ((J3 tb).set ax.toNat ((f.map j0).take hh.toNat++j0 d::(f.map j0).drop hh.toNat)),.cl (.int pl),.cl (.lst (ds.map .int)),.cl (.int ax),.cl (.int hh),.cl (j0 fr),.cl (.int w)]):=fun E d hE=>by
    have hE:E [.cl (jf b),.lo (J3 tb),.cl (.int pl),.cl (.lst (ds.map .int)),.cl (.int ax),.cl (.int hh),.cl (j0 fr),.cl (.int w)]=some (j0 d):=hE;simp[R,Vo,hE,hx,hl,zT,hi1,hz1,hz2]
   rw[key _ _ ep,es])) (no3 _ _ (by omega)) (no _ _ _ (by omega)) (no _ _ _ (by omega)) (no _ _ _ (by omega)) (no _ _ _ (by omega))
 ·have ne:=kO f;by_cases hf0:f=[]
  ·rw[decide_eq_true hf0]at ne;exact fin tb tb tb tb tb tb tb T.up (no _ _ _ (by omega)) (no _ _ _ (by omega)) (by simp[-J6,R,frz,fz,zg,eat,h,ne]) (no _ _ _ (by omega)) (no _ _ _ (by omega)) (no _ _ _ (by omega)) (no _ _ _ (by omega))
  ·rw[decide_eq_false hf0]at ne;have hlt:=hmx2 hf0;have hk:hh.toNat < f.length:=by omega
   have hi2:yt f.length hh=some hh.toNat:=G8 mh.1 (by omega);have hft:f[hh.toNat]?=some f[hh.toNat]:=by simp[hk]
   revert hft;generalize f[hh.toNat]=t;intro hft;have tm:=wYa hft;obtain⟨t',ech,X'⟩:=hch t (fF t tm);have eat2:atI (f.map j0) hh=some (j0 t):=by
    refine ZD mh.1 ?_;rw[List.getElem?_map,hft];rfl
   have htn:xf (j0 t')=true:=by simp[j0,uN,gg]
   have es:=Y7 tb ax.toNat (f.set hh.toNat t')
   rw[List.map_set]at es;have yes3:∀S:DS.DS,ji (fun ρ=>(Jh (jj (d2 jG (dV 7) (dK (.int 3)))) (jj (d2 J6 (d2 jb (dV 1) (dV 4)) (dL (jT []))))) (frz ρ)) S js (R tb)=S (R tb):=fun S=>by
    simp[-J6,R,frz,fz,zg,eat,h,ne]
   have key:∀(E:DE),E (R tb)=some (j0 t')->Vp 1 (dV 4) (dV 5) E (R tb)=some (.nx [.cl (jf b),.lo ((J3 tb).set ax.toNat ((f.map j0).set hh.toNat (j0 t'))),.cl (.int pl),.cl (.lst (ds.map .int)),.cl (.int ax),.cl (.int hh),.cl (j0 fr),.cl (.int w)]):=fun E hE=>by
    have hE:E [.cl (jf b),.lo (J3 tb),.cl (.int pl),.cl (.lst (ds.map .int)),.cl (.int ax),.cl (.int hh),.cl (j0 fr),.cl (.int w)]=some (j0 t'):=hE;simp[R,Vp,hE,hx,hl,zT,hi2]
   have ev:(fun ρ=>((ja (JP C) [(false,(dV 0)),(false,(d2 jb (d2 jb (dV 1) (dV 4)) (dV 5))),(false,(dL (Jp (dV 3) (fun ρ=>((dK (.int 3)) ρ).bind J4) (fun _=>some none))))]) (frz ρ)).bind DS.Ys) (R tb)=some (j0 t'):=by
    simp[R,frz,fz,zg,eat,eat2,ec3,ech,DS.Ys,htn,J4]
   exact fin _ _ (tb.set ax.toNat (f.set hh.toNat t')) _ _ _ _ (T.put _ (fun u hu=>by
     rcases List.mem_or_eq_of_mem_set hu with hu | rfl
     ·exact fF u hu
     ·exact X') (by rw[List.length_set];omega)) (no _ _ _ (by omega)) (no _ _ _ (by omega)) ((yes3 _).trans (by rw[key _ ev,es])) (no _ _ _ (by omega)) (no _ _ _ (by omega)) (no _ _ _ (by omega)) (no _ _ _ (by omega))
 ·have es:(J3 tb).eraseIdx ax.toNat=J3 (tb.eraseIdx ax.toNat):=by unfold J3;exact uw _ _ _
  have hz:tb.length < 1000000:=by omega
  have hz2:=mi.2;exact fin _ _ _ (tb.eraseIdx ax.toNat) _ _ _ (T.pop _) (no _ _ _ (by omega)) (no _ _ _ (by omega)) (no3 _ _ (by omega)) ((yes _ _ _ h).trans (by
   simp[R,Vq,zT,mi.1,hz,hz2,es])) (no _ _ _ (by omega)) (no _ _ _ (by omega)) (no _ _ _ (by omega))
 ·have es:(J3 tb).take ax.toNat++[]::(J3 tb).drop ax.toNat=J3 (tb.take ax.toNat++[]::tb.drop ax.toNat):=by
   unfold J3;rw[List.map_append,List.map_cons,List.map_take,List.map_drop];rfl
  have hz:tb.length < 1000000:=by omega
  have hz2:ax<=(tb.length:Int):=by omega
  exact fin _ _ _ _ (tb.take ax.toNat++[]::tb.drop ax.toNat) _ _ (T.ins _) (no _ _ _ (by omega)) (no _ _ _ (by omega)) (no3 _ _ (by omega)) (no _ _ _ (by omega)) ((yes _ _ _ h).trans (by
   simp[R,Vn,zT,mi.1,hz,hz2];exact es)) (no _ _ _ (by omega)) (no _ _ _ (by omega))
 ·have es:=Y7 tb ax.toNat []
  exact fin _ _ _ _ _ (tb.set ax.toNat []) _ (T.put _ (fun t ht=>by cases ht) (by simp)) (no _ _ _ (by omega)) (no _ _ _ (by omega)) (no3 _ _ (by omega)) (no _ _ _ (by omega)) (no _ _ _ (by omega)) ((yes _ _ _ h).trans (by
   simp[R,zG,frz,fz,zF,hx,zT];exact es)) (no _ _ _ (by omega))
 ·have es:=Y7 tb ax.toNat (f++[fr])
  rw[List.map_append]at es;have zl:f.length < sizeLine:=by omega
  exact fin _ _ _ _ _ _ (tb.set ax.toNat (f++[fr])) (T.put _ (fun t ht=>by
    rcases List.mem_append.mp ht with ht | ht
    ·exact fF t ht
    ·rw[List.mem_singleton.mp ht];exact F) (by rw[List.length_append,List.length_singleton];omega)) (no _ _ _ (by omega)) (no _ _ _ (by omega)) (no3 _ _ (by omega)) (no _ _ _ (by omega)) (no _ _ _ (by omega)) (no _ _ _ (by omega)) ((yes _ _ _ h).trans (by
   simp[R,U2,hx,hl,zl,zT];exact es))
theorem G_:∀tb:List (List Sd),JL (jr tb)<=6
 | []=>by simp[jr]
 | l::tb=>by
  have h1:=G_ tb;have h2:=Zu l;show max (JL (l.map j0)+1) (JL (jr tb))<=6;omega
theorem qH:∀l:List Sd,yf (l.map j0) (l.map j0)=some true
 | []=>rfl
 | s::l=>by
  have e:GV s s=true:=UY.mpr rfl;rw[List.map_cons,yf,x_ rfl rfl,qH l,e];rfl
theorem qI:∀tb:List (List Sd),yf (jr tb) (jr tb)=some true
 | []=>rfl
 | l::tb=>by
  have e:=qI tb;show yf (D.lst (l.map j0)::jr tb) (D.lst (l.map j0)::jr tb)=_;rw[yf,yZ,if_pos rfl,qH,e];rfl
theorem Fq(tb:List (List Sd)):J6 (.lst (jr tb)) (.lst (jr tb))=some (.bl false):=by
 have e:dep (.lst (jr tb))<=20:=by rw[dep];have:=G_ tb;omega
 have e0:Z2 (D.lst (jr tb)) (D.lst (jr tb))=true:=rfl;unfold J6;rw[if_pos e0];unfold vq;rw[if_pos ⟨e0,e⟩,yZ,if_pos rfl,qI];rfl
theorem Xf(tb:List (List Sd)):J6 (.lst (jr tb)) (.lst [])=some (.bl (!decide (tb=[]))):=by
 have e:dep (.lst (jr tb))<=20:=by rw[dep];have:=G_ tb;omega
 have e0:Z2 (D.lst (jr tb)) (D.lst [])=true:=rfl;unfold J6;rw[if_pos e0];unfold vq;rw[if_pos ⟨e0,e⟩,yZ];cases tb with
 | nil=>rfl
 | cons s l=>rw[if_neg (by simp[jr]),decide_eq_false (by simp)];rfl
theorem aX(C:Addr)(ns:List Int)(h:ns.length<=63):Kr C [.scr ns]=some (.bl true):=by
 obtain⟨ms,e1,hm⟩:=Qj C ns 140 h (by decide) (by decide);have hml:ms.length=140:=by omega
 obtain⟨b,eb,ok,hbs⟩:=Bt C ms 8 (by omega) (by omega) (by decide) (by decide);have s1:=ok.s1;have s2:=ok.s2;have k2:=ok.k2;have em:=Bo C b ok;have atm:∀k:Int,0<=k->k < 140->∃v:Int,atI (ms.map D.int) k=some (.int v):=fun k h0 h1=>⟨_,yR (f:=D.int) (xs:=ms) (d:=0) h0 (by omega)⟩
 obtain⟨v80,a80⟩:=atm 80 (by decide) (by decide);obtain⟨v81,a81⟩:=atm 81 (by decide) (by decide);obtain⟨v110,a110⟩:=atm 110 (by decide) (by decide);have pb:0 < b.size+1:=by omega
 have tl:∀l:List D,(OD.lst l).toD=.lst l:=fun _=>rfl;have ec:jJ (ms.map D.int) (some 60) (some (60+v80 % (b.size+1)))=(jJ ms (some 60) (some (60+v80 % (b.size+1)))).map D.int:=JV _ _ _ _;have hcl:=UX ms (some 60) (some (60+v80 % (b.size+1)));obtain⟨row,s,er,W,_⟩:=Bw C b (jJ ms (some 60) (some (60+v80 % (b.size+1)))) ok (by omega);revert ec er;generalize jJ ms (some 60) (some (60+v80 % (b.size+1)))=mr;intro ec er;have hr:vi b row:=⟨W.ks,W.sz⟩
 have hr2:=hr.2;have L:=X9 ok hr W.st;have R:=StOf.all hr.1 W.st;have S:Sm b s:=Sm.walk ok (Sm.empty b) hr.1 W.st;obtain⟨n,el,hn,he,hne⟩:=Fo C b ok row hr W.st (.bo (.scr ns)) (.cl (.lst (ms.map .int))) (.cl (jz C b)) [.un,.un,.un,.un,.un,.un];obtain⟨t0,l0,hl0⟩:∃t0 l0,jB b s n=t0::l0:=by
  cases hl:jB b s n with
  | nil=>exact vDa hl hne
  | cons a l=>exact⟨a,l,rfl⟩
 have ea:atI (jr (JO b s (n+1))) (-1)=some (.lst ((jB b s n).map j0)):=by
  rw[Xc,ZV];exact VI
 have ea0:atI ((jB b s n).map j0) 0=some (j0 t0):=by
  rw[hl0];unfold atI yt;simp
 have Tl:Tq b 0 (JO b s (n+1)):=⟨fun l hl t ht=>by
  obtain⟨i,hi⟩:=List.getElem?_of_mem hl;obtain⟨_,rfl⟩:=gf hi;exact ge R.fo i t ht,fun l hl=>by
  obtain⟨i,hi⟩:=List.getElem?_of_mem hl;obtain⟨_,rfl⟩:=gf hi;have:=qC ok S i;omega,by simp[JO];omega⟩
 have eL:(J3 (JO b s (n+1))).length=n+1:=by simp[J3,JO]
 obtain⟨tb,T0,tne,ecut⟩:∃tb,Tq b 0 tb/\tb≠[]/\ji (fun ρ=>(Jh (jj (d2 jG (d2 jI (d2 jb (dV 1) (dK (.int 81))) (dK (.int 2))) (dK (.int 1)))) (jj (d2 jG (d2 jb (d2 jb (d2 jb (dV 5) (yU (dK (.int 1)))) (dK (.int 0))) (dK (.int 0))) (d2 jb (dV 2) (dK (.int 0)))))) (frz ρ)) (U3 5 (fun ρ=>((yU (dK (.int 1))) ρ).bind J4) (jT [])) js [.bo (.scr ns),.cl (.lst (ms.map .int)),.cl (jf b),.cl (jz C b),.cl (.lst (row.map .int)),.lo (J3 (JO b s (n+1))),.un,.un,.un,.un,.un]=some (.nx [.bo (.scr ns),.cl (.lst (ms.map .int)),.cl (jf b),.cl (jz C b),.cl (.lst (row.map .int)),.lo (J3 tb),.un,.un,.un,.un,.un]):=by
  have same:JO b s (n+1)≠[]:=fun z=>by have:=congrArg List.length z;simp[JO]at this
  by_cases q1:v81 % 2=1
  ·by_cases q:t0.place=b.size
   ·have hz:n+1 < 1000000:=by omega
    refine⟨(JO b s (n+1)).take n++[[]],⟨fun l hl t ht=>?_,fun l hl=>?_,by simp[JO];omega⟩,by simp,?_⟩
    ·rcases List.mem_append.mp hl with hl | hl
     ·exact Tl.form l (vVa hl) t ht
     ·rw[List.mem_singleton.mp hl]at ht;cases ht
    ·rcases List.mem_append.mp hl with hl | hl
     ·exact Tl.len l (vVa hl)
     ·rw[List.mem_singleton.mp hl];simp
    ·have et:(J3 (JO b s (n+1))).take n++[[]]=J3 ((JO b s (n+1)).take n++[[]]):=by unfold J3;rw[List.map_append,List.map_take];rfl
     rw[<-et];simp[frz,fz,zg,ea,ea0,q,q1,a81,U3,J4,eL,hz]
   ·refine⟨JO b s (n+1),Tl,same,?_⟩;simp[frz,fz,zg,ea,ea0,q,q1,a81]
  ·refine⟨JO b s (n+1),Tl,same,?_⟩;simp[frz,fz,q1,a81]
 have cl82:jJ (ms.map D.int) (some 82) none=(ms.drop 82).map D.int:=by
  have:=V9 ms 82;rw[JV,<-this];rfl
 have cl111:jJ (ms.map D.int) (some 111) none=(ms.drop 111).map D.int:=by
  have:=V9 ms 111;rw[JV,<-this];rfl
 obtain⟨tb1,sp1,T1⟩:=kU C b ok (ms.drop 82) row.length (by rw[List.length_drop];omega) (by rw[List.length_drop];omega) tb tne 0 (by omega) T0;have sp2:=fun h0=>kU C b ok (ms.drop 111) row.length (by rw[List.length_drop];omega) (by rw[List.length_drop];omega) tb1 h0 1 (by omega) T1;revert cl82 cl111 sp1 sp2;generalize ms.drop 82=m82;generalize ms.drop 111=m111;intro cl82 cl111 sp1 sp2;have nn:=Xf tb1;obtain⟨tb2,T2,eif⟩:∃tb2,Tq b 2 tb2/\ji (fun ρ=>(Jh (jj (d2 jG (d2 jI (d2 jb (dV 1) (dK (.int 110))) (dK (.int 3))) (dK (.int 1)))) (jj (d2 J6 (dV 5) (dL (jT []))))) (frz ρ)) (zP 5 (yM C) (dC 2) (ja jU [(false,(dV 4))]) (dL (Jp (dV 1) (fun ρ=>((dK (.int 111)) ρ).bind J4) (fun _=>some none)))) js [.bo (.scr ns),.cl (.lst (ms.map .int)),.cl (jf b),.cl (jz C b),.cl (.lst (row.map .int)),.lo (J3 tb1),.un,.un,.un,.un,.un]=some (.nx [.bo (.scr ns),.cl (.lst (ms.map .int)),.cl (jf b),.cl (jz C b),.cl (.lst (row.map .int)),.lo (J3 tb2),.un,.un,.un,.un,.un]):=by
  by_cases q1:v110 % 3=1
  ·by_cases q:tb1=[]
   ·rw[decide_eq_true q]at nn;refine⟨tb1,T1.up,?_⟩;simp[-J6,frz,fz,zg,q1,a110,nn]
   ·rw[decide_eq_false q]at nn;obtain⟨tb2,sp,T2⟩:=sp2 q;refine⟨tb2,T2,?_⟩;simp[-J6,frz,fz,zg,q1,a110,nn,zP,cl111,sp,J4]
  ·refine⟨tb1,T1.up,?_⟩;simp[frz,fz,q1,a110]
 have Tf2:=T2.tf (by omega);obtain⟨x,eh,hx⟩:=Wf C b ok row hr W.st tb2 Tf2.toTbW;obtain⟨y,ey,hy⟩:=Ql C b ok row hr W.st tb2 Tf2;have exy:y=x:=by
  have:=hy.trans hx.symm;cases x <;> cases y <;> simp_all
 subst exy;obtain⟨z,ez,hz⟩:=Wf C b ok row hr W.st [] ⟨fun l h=>(by cases h),fun l h=>(by cases h),by simp⟩;have ez0:z=false:=by
  cases z with
  | false=>rfl
  | true=>have:=(hz.mp rfl).1;simp at this
 subst ez0;have zt:(jr tb2).length<=sizeLine:=wQa (jq (by have:=T2.few;simp[jr];omega));have zt':tb2.length<=sizeLine:=by simpa[jr]using zt
 have zrow:row.length<=sizeLine:=wQa (jq (by omega));have hc:=Jk (g:=gN 0) (dc:=jM) (de:=dL (JA Yn [(false,(dV 0))])) (ρ:=[.un]) (fun l:List Sd=>D.lst (l.map j0)) (fun l:List Sd=>D.lst (l.map j0)) (xs:=tb2) (fun l hl=>by
  have z9:(10001000:Nat) < sizeLine:=by decide
  have:l.length<=sizeLine:=by have:=T2.len l hl;omega
  refine⟨_,rfl,rfl,?_⟩;simp[Yn,this])
 have hc':JD (gN 0) jM (dL (JA Yn [(false,(dV 0))])) (jr tb2) [.un]=some (jr tb2):=hc;have net:=Fq tb2;have ner:=qt row row;rw[decide_eq_true rfl]at ner;have ikb:gw Kd.b "bool" = some true:=rfl;obtain⟨ρ3,L3,y9,y10,rfl⟩:=JF (g:=qo) (s:=GQ C) (items:=jK 0 2) (fun i ρ=>∃y9 y10:Sl,ρ=[.bo (.scr ns),.cl (.lst (ms.map .int)),.cl (jf b),.cl (jz C b),.cl (.lst (row.map .int)),.cl (.lst (jr tb2)),.cl (.bl y),.cl (.lst (jr tb2)),.cl (.lst (row.map .int)),y9,y10]) (by
  rintro i d ρ hd ⟨y9,y10,rfl⟩;obtain⟨hi,rfl⟩:=VL hd;refine⟨_,[.bo (.scr ns),.cl (.lst (ms.map .int)),.cl (jf b),.cl (jz C b),.cl (.lst (row.map .int)),.cl (.lst (jr tb2)),.cl (.bl y),.cl (.lst (jr tb2)),.cl (.lst (row.map .int)),.cl (.int (i:Int)),.cl (.bl y)],rfl,?_,_,_,rfl⟩;have nb:J6 (.bl y) (.bl y)=some (.bl false):=by cases y <;> rfl
  simp only[GQ];simp[-J6,eh,ikb,nb,net,ner]) (ρ:=[.bo (.scr ns),.cl (.lst (ms.map .int)),.cl (jf b),.cl (jz C b),.cl (.lst (row.map .int)),.cl (.lst (jr tb2)),.cl (.bl y),.cl (.lst (jr tb2)),.cl (.lst (row.map .int)),.un,.un]) ⟨.un,.un,rfl⟩
 have hb:Ga C [.bo (.scr ns),.un,.un,.un,.un,.un,.un,.un,.un,.un,.un]=some (.rt (.bl true)):=by
  unfold Ga;refine(jY (ρ':=[.bo (.scr ns),.cl (.lst (ms.map .int)),.un,.un,.un,.un,.un,.un,.un,.un,.un]) ?_).trans ?_
  ·simp[-OD.toD,tl,e1]
  refine(jY (ρ':=[.bo (.scr ns),.cl (.lst (ms.map .int)),.cl (jf b),.un,.un,.un,.un,.un,.un,.un,.un]) ?_).trans ?_
  ·simp[eb]
  refine(jY (ρ':=[.bo (.scr ns),.cl (.lst (ms.map .int)),.cl (jf b),.cl (jz C b),.un,.un,.un,.un,.un,.un,.un]) ?_).trans ?_
  ·simp[-OD.toD,em,aF]
  refine(jY (ρ':=[.bo (.scr ns),.cl (.lst (ms.map .int)),.cl (jf b),.cl (jz C b),.cl (.lst (row.map .int)),.un,.un,.un,.un,.un,.un]) ?_).trans ?_
  ·simp[-OD.toD,tl,a80,pb,ec,er,J4]
  refine(jY (ρ':=[.bo (.scr ns),.cl (.lst (ms.map .int)),.cl (jf b),.cl (jz C b),.cl (.lst (row.map .int)),.lo (J3 (JO b s (n+1))),.un,.un,.un,.un,.un]) ?_).trans ?_
  ·unfold gP;rw[el];rfl
  refine(jY ecut).trans ?_;refine(jY (ρ':=[.bo (.scr ns),.cl (.lst (ms.map .int)),.cl (jf b),.cl (jz C b),.cl (.lst (row.map .int)),.lo (J3 tb1),.un,.un,.un,.un,.un]) ?_).trans ?_
  ·simp[zP,cl82,sp1,J4]
  refine(jY eif).trans ?_;refine(jY (ρ':=[.bo (.scr ns),.cl (.lst (ms.map .int)),.cl (jf b),.cl (jz C b),.cl (.lst (row.map .int)),.cl (.lst (jr tb2)),.cl (.bl y),.un,.un,.un,.un]) ?_).trans ?_
  ·simp[frz,fz,zg,ey]
  refine(jY (ρ':=[.bo (.scr ns),.cl (.lst (ms.map .int)),.cl (jf b),.cl (jz C b),.cl (.lst (row.map .int)),.cl (.lst (jr tb2)),.cl (.bl y),.cl (.lst (jr tb2)),.un,.un,.un]) ?_).trans ?_
  ·simp[hc',zt]
  refine(jY (ρ':=[.bo (.scr ns),.cl (.lst (ms.map .int)),.cl (jf b),.cl (jz C b),.cl (.lst (row.map .int)),.cl (.lst (jr tb2)),.cl (.bl y),.cl (.lst (jr tb2)),.cl (.lst (row.map .int)),.un,.un]) ?_).trans ?_
  ·simp[Yn,zrow]
  refine(jY (ρ':=[.bo (.scr ns),.cl (.lst (ms.map .int)),.cl (jf b),.cl (jz C b),.cl (.lst (row.map .int)),.cl (.lst (jr tb2)),.cl (.bl y),.cl (.lst (jr tb2)),.cl (.lst (row.map .int)),y9,y10]) ?_).trans ?_
  ·have z2:J9 2=true:=by decide
   have L3':=L3;simp[z2,L3']
  have ez':Ju C [jz C b,.lst (row.map .int),.lst []]=some (.bl false):=ez;simp[ez']
 simp[Kr,hb]
end M
noncomputable section
namespace M
open PySem L2 DS CP
noncomputable def top(i:Nat):Stmt:=PySem.Challenge.pw_moonseat_k15_tables_judged.main.body.getD i (.Pass ⟨0,0,0,0⟩)
noncomputable def T0(C:Addr):Tb:=⟨C,[("MOST_SIZE",.con 30),("MOST_KINDS",.con 4),("MOST_SHUNS",.con 20),("MOST_BARS",.con 12),("MOST_DUES",.con 3),("MOST_RUN",.con 4),("MOST_REST",.con 4),("MOST_FAR",.con 2),("all",.blt),("bool",.blt),("enumerate",.blt),("int",.blt),("isinstance",.blt),("len",.blt),("list",.blt),("max",.blt),("min",.blt),("range",.blt),("tuple",.blt),("zip",.blt)],[],["size", "kind_rows", "shun_rows", "bar_rows", "due_rows"]⟩
def Vb(C:Addr):De:=⟨"_law_numbers", "_law_numbers",(top 47),["_law_script", "_law_many"],["_law_row", "_law_seed", "_law_cell", "_law_rest", "_law_k"],[false,false],(zp C),[],[],[2]⟩
theorem k6(C:Addr):Ck (T0 C) (Vb C) true:=⟨by kernel_rfl,rfl,fun _ _ _ _ _ _ us hl=>Yu us hl fun _ _=>rfl⟩
def T1(C:Addr):Tb:=(T0 C).ag "_law_numbers" ((Vb C).F 0)
def Vc(C:Addr):De:=⟨"_law_windows", "_law_windows",(top 48),["_law_many", "_law_size", "_law_count", "_law_d"],["_law_rows", "_law_k", "_law_first"],[false,false,false,false],(zr C),[],[],[4]⟩
theorem k8(C:Addr):Ck (T1 C) (Vc C) true:=⟨by kernel_rfl,rfl,fun _ _ _ _ _ _ us hl=>wN us hl fun _ _ _ _=>rfl⟩
def T2(C:Addr):Tb:=(T1 C).ag "_law_windows" ((Vc C).F 2)
def Uq(C:Addr):De:=⟨"_law_book", "_law_book",(top 49),["_law_d", "_law_most"],["_law_many", "_law_size", "_law_kinds", "_law_k", "_law_least", "_law_rest", "_law_shuns", "_law_at", "_law_wide", "_law_bars", "_law_wanted"],[false,false],(vz C),[((238,16,82),[0])],[(243,4),(243,8)],[4,8]⟩
theorem Wx(C:Addr):Ck (T2 C) (Uq C) false:=⟨by kernel_rfl,rfl,fun _ _ _ _ _ _ us hl=>Yu us hl fun _ _=>rfl⟩
def T3(C:Addr):Tb:=(T2 C).ag "_law_book" ((Uq C).E 4)
def VX(C:Addr):De:=⟨"fits_counts", "fits_counts",(top 43),["size", "kinds", "shuns", "bars", "dues"],[],[false,false,false,false,false],(Z5 C),[],[],[]⟩
theorem K6(C:Addr):Ck (T3 C) (VX C) false:=⟨by kernel_rfl,rfl,fun _ _ _ _ _ _ us hl=>DY us hl fun _ _ _ _ _=>rfl⟩
def T4(C:Addr):Tb:=(T3 C).ag "fits_counts" ((VX C).E 6)
def Ur(C:Addr):De:=⟨"fits_kind", "fits_kind",(top 40),["row"],["least", "most", "rest"],[true],(vB C),[],[],[]⟩
theorem Wy(C:Addr):Ck (T4 C) (Ur C) false:=⟨by kernel_rfl,rfl,fun _ _ _ _ _ _ us hl=>wM us hl fun _=>rfl⟩
def T5(C:Addr):Tb:=(T4 C).ag "fits_kind" ((Ur C).E 8)
def Us(C:Addr):De:=⟨"fits_shun", "fits_shun",(top 41),["row", "many"],["one", "other", "far"],[true,false],(vC C),[],[],[]⟩
theorem Wz(C:Addr):Ck (T5 C) (Us C) false:=⟨by kernel_rfl,rfl,fun _ _ _ _ _ _ us hl=>Yu us hl fun _ _=>rfl⟩
def T6(C:Addr):Tb:=(T5 C).ag "fits_shun" ((Us C).E 10)
def Ut(C:Addr):De:=⟨"fits_span", "fits_span",(top 42),["row", "many", "size"],["kind", "first", "last"],[true,false,false],(vE C),[],[],[]⟩
theorem WA(C:Addr):Ck (T6 C) (Ut C) false:=⟨by kernel_rfl,rfl,fun _ _ _ _ _ _ us hl=>Yc us hl fun _ _ _=>rfl⟩
def T7(C:Addr):Tb:=(T6 C).ag "fits_span" ((Ut C).E 12)
def Uu(C:Addr):De:=⟨"fits_rows", "fits_rows",(top 44),["size", "kinds", "shuns", "bars", "dues"],["many"],[false,false,false,false,false],(vF C),[((171,15,54),[5]),((173,54,65),[]),((173,15,66),[5,0])],[],[]⟩
theorem WB(C:Addr):Ck (T7 C) (Uu C) false:=⟨by kernel_rfl,rfl,fun _ _ _ _ _ _ us hl=>DY us hl fun _ _ _ _ _=>rfl⟩
def T8(C:Addr):Tb:=(T7 C).ag "fits_rows" ((Uu C).E 14)
def yI(C:Addr):De:=⟨"__init__", "Rules.__init__",(inClass (top 45) 0),["self", "size", "kinds", "shuns", "bars", "dues"],[],[true,false,false,false,false],(yC C),[],[],[0]⟩
theorem gh(C:Addr):kK (T8 C) (yI C) false=some (yC C):=by kernel_rfl
theorem gi(C:Addr):Bd "__init__" "Rules.__init__" (inClass (top 45) 0) ["self", "size", "kinds", "shuns", "bars", "dues"]:=fun _ _ _ _ _ _ us hl=>i9 us hl fun _ _ _ _ _ _=>rfl
def T9(C:Addr):Tb:=(T8 C).ag "Rules" (.mk 17 (yI C).ps (yI C).ks (yk C) (JU C))
def Uv(C:Addr):De:=⟨"_law_made", "_law_made",(top 50),["_law_book_here"],[],[false],(vH C),[],[],[]⟩
theorem WC(C:Addr):Ck (T9 C) (Uv C) true:=⟨by kernel_rfl,rfl,fun _ _ _ _ _ _ us hl=>wM us hl fun _=>rfl⟩
def eF(C:Addr):Tb:=(T9 C).ag "_law_made" ((Uv C).F 18)
def uO(C:Addr):De:=⟨"_law_start", "_law_start",(top 51),["_law_book_here"],[],[false],(ZF C),[],[],[]⟩
theorem Wi(C:Addr):Ck (eF C) (uO C) false:=⟨by kernel_rfl,rfl,fun _ _ _ _ _ _ us hl=>wM us hl fun _=>rfl⟩
def eG(C:Addr):Tb:=(eF C).ag "_law_start" ((uO C).E 20)
def zU(C:Addr):De:=⟨"_law_turned_away", "_law_turned_away",(top 52),["_law_book_here", "_law_stand_here", "_law_new"],["_law_kind", "_law_length", "_law_before", "_law_waits", "_law_one", "_law_other", "_law_far"],[false,false,false],(Yd C),[((249,54,74),[])],[],[]⟩
theorem uP(C:Addr):Ck (eG C) (zU C) false:=⟨by kernel_rfl,rfl,fun _ _ _ _ _ _ us hl=>Yc us hl fun _ _ _=>rfl⟩
def eH(C:Addr):Tb:=(eG C).ag "_law_turned_away" ((zU C).E 22)
def Gf(C:Addr):De:=⟨"_law_met", "_law_met",(top 53),["_law_book_here", "_law_here", "_law_met_here", "_law_new"],["_law_done", "_law_k", "_law_kind", "_law_first", "_law_last"],[false,false,false,false],(Vv C),[],[],[4]⟩
theorem Qo(C:Addr):Ck (eH C) (Gf C) false:=⟨by kernel_rfl,rfl,fun _ _ _ _ _ _ us hl=>wN us hl fun _ _ _ _=>rfl⟩
def eI(C:Addr):Tb:=(eH C).ag "_law_met" ((Gf C).E 24)
def Uw(C:Addr):De:=⟨"_law_step", "_law_step",(top 54),["_law_book_here", "_law_stand_here", "_law_new"],["_law_place", "_law_kind", "_law_length", "_law_before", "_law_waits", "_law_met_here", "_law_here", "_law_run", "_law_closed_here", "_law_first", "_law_last", "_law_done", "_law_left", "_law_j", "_law_least", "_law_most", "_law_rest", "_law_wait"],[false,true,true],(vJ C),[],[],[15]⟩
theorem WD(C:Addr):Ck (eI C) (Uw C) false:=⟨by kernel_rfl,rfl,fun _ _ _ _ _ _ us hl=>Yc us hl fun _ _ _=>rfl⟩
def eJ(C:Addr):Tb:=(eI C).ag "_law_step" ((Uw C).E 26)
def Ux(C:Addr):De:=⟨"_law_walk", "_law_walk",(top 55),["_law_book_here", "_law_d"],["_law_row", "_law_stand_here", "_law_number", "_law_some"],[false,false],(vK C),[((292,20,138),[0,3])],[],[2]⟩
theorem WE(C:Addr):Ck (eJ C) (Ux C) true:=⟨by kernel_rfl,rfl,fun _ _ _ _ _ _ us hl=>Yu us hl fun _ _=>rfl⟩
def eK(C:Addr):Tb:=(eJ C).ag "_law_walk" ((Ux C).F 28)
def VY(C:Addr):De:=⟨"_law_levels", "_law_levels",(top 56),["_law_book_here", "_law_stand_here"],["_law_floors", "_law_known", "_law_one", "_law_kind", "_law_behind"],[false,true],(Z8 C),[((305,20,43),[]),((306,27,43),[])],[],[2,3]⟩
theorem K7(C:Addr):Ck (eK C) (VY C) false:=⟨by kernel_rfl,rfl,fun _ _ _ _ _ _ us hl=>Yu us hl fun _ _=>rfl⟩
def eN(C:Addr):Tb:=(eK C).ag "_law_levels" ((VY C).E 30)
def uQ(C:Addr):De:=⟨"_law_stand", "_law_stand",(top 57),["_law_book_here", "_law_row"],["_law_stand_here", "_law_kind"],[false,false],(ZG C),[],[],[]⟩
theorem Wj(C:Addr):Ck (eN C) (uQ C) false:=⟨by kernel_rfl,rfl,fun _ _ _ _ _ _ us hl=>Yu us hl fun _ _=>rfl⟩
def eO(C:Addr):Tb:=(eN C).ag "_law_stand" ((uQ C).E 32)
def Uy(C:Addr):De:=⟨"_law_form", "_law_form",(top 61),["_law_book_here", "_law_d"],["_law_many", "_law_waits", "_law_met_here"],[false,false],(vM C),[((345,23,78),[1]),((346,26,99),[1])],[],[]⟩
theorem WF(C:Addr):Ck (eO C) (Uy C) false:=⟨by kernel_rfl,rfl,fun _ _ _ _ _ _ us hl=>Yu us hl fun _ _=>rfl⟩
def eP(C:Addr):Tb:=(eO C).ag "_law_form" ((Uy C).E 34)
def Vd(C:Addr):De:=⟨"_law_changed", "_law_changed",(top 62),["_law_book_here", "_law_stand_here", "_law_d"],["_law_fresh", "_law_at"],[false,false,false],(Yp C),[((351,11,36),[]),((351,39,70),[]),((351,73,102),[])],[],[]⟩
theorem k9(C:Addr):Ck (eP C) (Vd C) false:=⟨by kernel_rfl,rfl,fun _ _ _ _ _ _ us hl=>Yc us hl fun _ _ _=>rfl⟩
def eQ(C:Addr):Tb:=(eP C).ag "_law_changed" ((Vd C).E 36)
def YG(C:Addr):De:=⟨"_law_spoilt", "_law_spoilt",(top 63),["_law_book_here", "_law_table", "_law_place", "_law_d"],["_law_at", "_law_here", "_law_fresh", "_law_way"],[false,true,false,false],(JZ C),[((353,0,9),[]),((354,0,9),[]),((358,0,11),[]),((358,30,99),[]),((360,0,11),[]),((360,96,110),[]),((361,0,9),[]),((362,0,11),[]),((364,0,11),[]),((366,0,9),[]),((368,0,11),[]),((370,0,9),[])],[],[]⟩
theorem K8(C:Addr):aE (eQ C) (YG C)=some (JZ C):=by kernel_rfl
theorem K9(C:Addr):Bd "_law_spoilt" "_law_spoilt" (top 63) ["_law_book_here", "_law_table", "_law_place", "_law_d"]:=fun _ _ _ _ _ _ us hl=>wN us hl fun _ _ _ _=>rfl
def eR(C:Addr):Tb:=(eQ C).ag "_law_spoilt" (.fL 39 (YG C).ps (wz 2 (YG C).lo.length (YG C).b))
def vk(C:Addr):De:=⟨"_law_is_stand", "_law_is_stand",(top 58),["_law_book_here", "_law_stand_here"],["_law_one"],[false,false],(zb C),[((320,20,39),[])],[],[]⟩
theorem Gg(C:Addr):Ck (eR C) (vk C) false:=⟨by kernel_rfl,rfl,fun _ _ _ _ _ _ us hl=>Yu us hl fun _ _=>rfl⟩
def eS(C:Addr):Tb:=(eR C).ag "_law_is_stand" ((vk C).E 40)
def zV(C:Addr):De:=⟨"_law_list_closed", "_law_list_closed",(top 59),["_law_book_here", "_law_stands", "_law_place", "_law_later"],["_law_stand_here", "_law_kind", "_law_behind"],[false,false,false,false],(Yh C),[((332,43,72),[1])],[],[]⟩
theorem uR(C:Addr):Ck (eS C) (zV C) false:=⟨by kernel_rfl,rfl,fun _ _ _ _ _ _ us hl=>wN us hl fun _ _ _ _=>rfl⟩
def eT(C:Addr):Tb:=(eS C).ag "_law_list_closed" ((zV C).E 42)
def VZ(C:Addr):De:=⟨"_law_closed", "_law_closed",(top 60),["_law_book_here", "_law_row", "_law_table"],["_law_at", "_law_stands", "_law_later"],[false,false,false],(J_ C),[((336,63,120),[1]),((339,22,39),[])],[],[]⟩
theorem Ka(C:Addr):Ck (eT C) (VZ C) false:=⟨by kernel_rfl,rfl,fun _ _ _ _ _ _ us hl=>Yc us hl fun _ _ _=>rfl⟩
def eU(C:Addr):Tb:=(eT C).ag "_law_closed" ((VZ C).E 44)
def ZW(C:Addr):De:=⟨"many", "Rules.many",(inClass (top 45) 5),["self"],[],[false],(ZH C),[],[],[]⟩
theorem Wk(C:Addr):Ck (eU C) (ZW C) false:=⟨by kernel_rfl,rfl,fun _ _ _ _ _ _ us hl=>wM us hl fun _=>rfl⟩
def eV(C:Addr):Tb:=(eU C).am "many" ((ZW C).E 46)
def kW(C:Addr):De:=⟨"is_kind", "is_kind",(top 23),["rules", "number"],[],[false,false],(uD C),[],[],[]⟩
theorem Xg(C:Addr):Ck (eV C) (kW C) false:=⟨by kernel_rfl,rfl,fun _ _ _ _ _ _ us hl=>Yu us hl fun _ _=>rfl⟩
def eW(C:Addr):Tb:=(eV C).ag "is_kind" ((kW C).E 48)
def Zg(C:Addr):De:=⟨"has_kinds_alone", "has_kinds_alone",(top 24),["rules", "row"],[],[false,false],(Yw C),[((105,15,57),[0])],[],[]⟩
theorem Uc(C:Addr):Ck (eW C) (Zg C) false:=⟨by kernel_rfl,rfl,fun _ _ _ _ _ _ us hl=>Yu us hl fun _ _=>rfl⟩
def eX(C:Addr):Tb:=(eW C).ag "has_kinds_alone" ((Zg C).E 50)
def Uz(C:Addr):De:=⟨"check_row", "check_row",(top 25),["rules", "row"],[],[false,false],(vN C),[],[],[]⟩
theorem WG(C:Addr):Ck (eX C) (Uz C) false:=⟨by kernel_rfl,rfl,fun _ _ _ _ _ _ us hl=>Yu us hl fun _ _=>rfl⟩
def eY(C:Addr):Tb:=(eX C).ag "check_row" ((Uz C).E 52)
def V_(C:Addr):De:=⟨"empty_stand", "empty_stand",(top 7),["rules"],["waits", "met"],[false],(Z9 C),[],[],[]⟩
theorem Kb(C:Addr):Ck (eY C) (V_ C) false:=⟨by kernel_rfl,rfl,fun _ _ _ _ _ _ us hl=>wM us hl fun _=>rfl⟩
def eZ(C:Addr):Tb:=(eY C).ag "empty_stand" ((V_ C).E 54)
def UA(C:Addr):De:=⟨"is_barred", "is_barred",(top 12),["rules", "stand", "kind"],["place", "barred", "first", "last"],[false,false,false],(vP C),[],[],[]⟩
theorem WH(C:Addr):Ck (eZ C) (UA C) false:=⟨by kernel_rfl,rfl,fun _ _ _ _ _ _ us hl=>Yc us hl fun _ _ _=>rfl⟩
def e_(C:Addr):Tb:=(eZ C).ag "is_barred" ((UA C).E 56)
def kX(C:Addr):De:=⟨"is_long", "is_long",(top 13),["rules", "stand", "kind"],[],[false,false,false],(uE C),[],[],[]⟩
theorem Xh(C:Addr):Ck (e_ C) (kX C) false:=⟨by kernel_rfl,rfl,fun _ _ _ _ _ _ us hl=>Yc us hl fun _ _ _=>rfl⟩
def E1(C:Addr):Tb:=(e_ C).ag "is_long" ((kX C).E 58)
def Gh(C:Addr):De:=⟨"is_short", "is_short",(top 14),["rules", "stand", "kind"],["last"],[false,false,false],(Vx C),[],[],[]⟩
theorem Qp(C:Addr):Ck (E1 C) (Gh C) false:=⟨by kernel_rfl,rfl,fun _ _ _ _ _ _ us hl=>Yc us hl fun _ _ _=>rfl⟩
def E2(C:Addr):Tb:=(E1 C).ag "is_short" ((Gh C).E 60)
def Gi(C:Addr):De:=⟨"is_early", "is_early",(top 15),["stand", "kind"],[],[false,false],(Vz C),[],[],[]⟩
theorem Qq(C:Addr):Ck (E2 C) (Gi C) false:=⟨by kernel_rfl,rfl,fun _ _ _ _ _ _ us hl=>Yu us hl fun _ _=>rfl⟩
def E3(C:Addr):Tb:=(E2 C).ag "is_early" ((Gi C).E 62)
def uS(C:Addr):De:=⟨"is_shunned", "is_shunned",(top 16),["rules", "stand", "kind"],["one", "other", "far", "ahead"],[false,false,false],(ZI C),[],[],[]⟩
theorem Wl(C:Addr):Ck (E3 C) (uS C) false:=⟨by kernel_rfl,rfl,fun _ _ _ _ _ _ us hl=>Yc us hl fun _ _ _=>rfl⟩
def E4(C:Addr):Tb:=(E3 C).ag "is_shunned" ((uS C).E 64)
def Gj(C:Addr):De:=⟨"met_with", "met_with",(top 10),["rules", "stand", "kind"],["place", "met", "due", "is_met", "meant", "first", "last"],[false,false,false],(VB C),[],[],[4]⟩
theorem Qr(C:Addr):Ck (E4 C) (Gj C) false:=⟨by kernel_rfl,rfl,fun _ _ _ _ _ _ us hl=>Yc us hl fun _ _ _=>rfl⟩
def E5(C:Addr):Tb:=(E4 C).ag "met_with" ((Gj C).E 66)
def uT(C:Addr):De:=⟨"misses_due", "misses_due",(top 17),["rules", "stand", "kind"],["place", "due", "is_met"],[false,false,false],(ZL C),[],[],[]⟩
theorem Wm(C:Addr):Ck (E5 C) (uT C) false:=⟨by kernel_rfl,rfl,fun _ _ _ _ _ _ us hl=>Yc us hl fun _ _ _=>rfl⟩
def E6(C:Addr):Tb:=(E5 C).ag "misses_due" ((uT C).E 68)
def Gk(C:Addr):De:=⟨"run_with", "run_with",(top 8),["stand", "kind"],[],[false,false],(VC C),[],[],[]⟩
theorem Qs(C:Addr):Ck (E6 C) (Gk C) false:=⟨by kernel_rfl,rfl,fun _ _ _ _ _ _ us hl=>Yu us hl fun _ _=>rfl⟩
def E7(C:Addr):Tb:=(E6 C).ag "run_with" ((Gk C).E 70)
def Wn(C:Addr):De:=⟨"is_cut", "is_cut",(top 18),["rules", "stand", "kind"],[],[false,false,false],(UQ C),[],[],[]⟩
theorem aY(C:Addr):Ck (E7 C) (Wn C) false:=⟨by kernel_rfl,rfl,fun _ _ _ _ _ _ us hl=>Yc us hl fun _ _ _=>rfl⟩
def E8(C:Addr):Tb:=(E7 C).ag "is_cut" ((Wn C).E 72)
def Wo(C:Addr):De:=⟨"breach", "breach",(top 19),["rules", "stand", "kind"],[],[false,false,false],(US C),[],[],[]⟩
theorem aZ(C:Addr):Ck (E8 C) (Wo C) false:=⟨by kernel_rfl,rfl,fun _ _ _ _ _ _ us hl=>Yc us hl fun _ _ _=>rfl⟩
def E9(C:Addr):Tb:=(E8 C).ag "breach" ((Wo C).E 74)
def uU(C:Addr):De:=⟨"waits_with", "waits_with",(top 9),["rules", "stand", "kind"],["last", "waits"],[false,false,false],(ZN C),[],[],[4]⟩
theorem Wp(C:Addr):Ck (E9 C) (uU C) false:=⟨by kernel_rfl,rfl,fun _ _ _ _ _ _ us hl=>Yc us hl fun _ _ _=>rfl⟩
def Ea(C:Addr):Tb:=(E9 C).ag "waits_with" ((uU C).E 76)
def uV(C:Addr):De:=⟨"stand_with", "stand_with",(top 11),["rules", "stand", "kind"],["length", "waits", "met"],[false,false,true],(ZP C),[],[],[]⟩
theorem Wq(C:Addr):Ck (Ea C) (uV C) false:=⟨by kernel_rfl,rfl,fun _ _ _ _ _ _ us hl=>Yc us hl fun _ _ _=>rfl⟩
def Eb(C:Addr):Tb:=(Ea C).ag "stand_with" ((uV C).E 78)
def Wr(C:Addr):De:=⟨"walked", "walked",(top 26),["rules", "row"],["stand", "kind", "word"],[false,false],(UT C),[],[],[]⟩
theorem a_(C:Addr):Ck (Eb C) (Wr C) false:=⟨by kernel_rfl,rfl,fun _ _ _ _ _ _ us hl=>Yu us hl fun _ _=>rfl⟩
def Ec(C:Addr):Tb:=(Eb C).ag "walked" ((Wr C).E 80)
def Gn(C:Addr):De:=⟨"stand_of", "stand_of",(top 27),["rules", "row"],["stand", "word"],[false,false],(VE C),[],[],[]⟩
theorem Qt(C:Addr):Ck (Ec C) (Gn C) false:=⟨by kernel_rfl,rfl,fun _ _ _ _ _ _ us hl=>Yu us hl fun _ _=>rfl⟩
def Ed(C:Addr):Tb:=(Ec C).ag "stand_of" ((Gn C).E 82)
def kY(C:Addr):De:=⟨"stepped", "stepped",(top 20),["rules", "stand", "kind"],[],[false,false,true],(uH C),[],[],[]⟩
theorem Xi(C:Addr):Ck (Ed C) (kY C) false:=⟨by kernel_rfl,rfl,fun _ _ _ _ _ _ us hl=>Yc us hl fun _ _ _=>rfl⟩
def Ee(C:Addr):Tb:=(Ed C).ag "stepped" ((kY C).E 84)
def uW(C:Addr):De:=⟨"steps_from", "steps_from",(top 21),["rules", "stand"],["steps", "kind", "after"],[false,false],(ZQ C),[],[],[2]⟩
theorem Ws(C:Addr):Ck (Ee C) (uW C) true:=⟨by kernel_rfl,rfl,fun _ _ _ _ _ _ us hl=>Yu us hl fun _ _=>rfl⟩
def Ef(C:Addr):Tb:=(Ee C).ag "steps_from" ((uW C).F 86)
def UB(C:Addr):De:=⟨"is_closed", "is_closed",(top 29),["rules", "stand", "place", "behind"],[],[false,false,false,false],(vR C),[((129,16,31),[]),((129,15,76),[3])],[],[]⟩
theorem WI(C:Addr):Ck (Ef C) (UB C) false:=⟨by kernel_rfl,rfl,fun _ _ _ _ _ _ us hl=>wN us hl fun _ _ _ _=>rfl⟩
def Eg(C:Addr):Tb:=(Ef C).ag "is_closed" ((UB C).E 88)
def u4(C:Addr):De:=⟨"table_holds", "table_holds",(top 30),["rules", "row", "table"],["first", "at", "stands", "behind"],[false,false,false],(y8 C),[((132,20,41),[1]),((136,19,87),[0,1,4,6])],[],[]⟩
theorem Kc(C:Addr):Ck (Eg C) (u4 C) false:=⟨by kernel_rfl,rfl,fun _ _ _ _ _ _ us hl=>Yc us hl fun _ _ _=>rfl⟩
def hU(C:Addr):Tb:=(Eg C).ag "table_holds" ((u4 C).E 90)
def bg(C:Addr):De:=⟨"law", "law",(top 64),["_law_script"],["_law_numbers_here", "_law_book_here", "_law_rules", "_law_row", "_law_table", "_law_due", "_law_kept", "_law_handed", "_law_turn", "_law_found"],[false],(Ga C),[((377,0,9),[]),((378,0,9),[]),((379,0,11),[]),((380,0,11),[]),((381,0,9),[]),((382,0,11),[]),((383,0,10),[]),((390,11,57),[])],[],[]⟩
theorem Fs(C:Addr):kK (hU C) (bg C) false=some (Ga C):=by kernel_rfl
end M
set_option maxHeartbeats 0
noncomputable def PySem.W.Fast.tw7613093274387476104:PySem.Program:=PySem.Challenge.pw_moonseat_k15_tables_judged
theorem PySem.W.Fast.te7613093274387476104:PySem.Challenge.pw_moonseat_k15_tables_judged=PySem.W.Fast.tw7613093274387476104:=rfl
namespace Hd
noncomputable section
open PySem PySem.W PyProof.Rows L2 M
noncomputable abbrev pw:=PySem.Challenge.pw_moonseat_k15_tables_judged
theorem prm:((fun(_:Params->Obj)=>true) boot_o_0)=true:=by first | k_qdec | rfl
noncomputable def de(P:Params)(x:Str)(t:Nat)(v:Value):DictEntry:=⟨PyData.keyHash P x,.str x t,v⟩
noncomputable def f3(a b:Int)(r:Nat)(l:List Value):List Value:=.int a 0::.int b 0::.ref r::l
noncomputable def fC(n q:Str)(a b c:Nat)(l x1 x2 x3 x4:Int)(r1:Nat)(z:Bool)(k:Int)(r2:Nat)(m:Int)(e:Nat):Data:=.fields #[.str n a,.str q b,.str "/claim/cut.py" c,.int l 0,.int x1 0,.int x2 0,.int x3 0,.int x4 0,.ref r1,.bool z,.int k 0,.ref r2,.none,.none,.none,.none,.int m 0,.int l 0,.str "/claim/cut.py" e]
noncomputable def oU(l:List Value):Obj:=⟨.type "tuple",none,.seq (List.toArray l) 0,#[]⟩
def oF(n q:Str)(s:Stmt)(m:Str)(t cd:Nat):Obj:=⟨.type "function",none,.func (fnOf n q (defArgs s) (defBody s) (defScope s) .none .none .none (.str m t) none (.ref cd) .none),#[]⟩
def oT(n q:Str)(s:Stmt):Obj:=⟨.none,none,.func { name:=n,qualname:=q,params:=defArgs s,body:=.stmts (defBody s),scope:=defScope s,globals:=0,closure:=[],defaults:=.none,kwdefaults:=.none,doc:=.none,pyModule:=.none,annotations:=none,code:=.none,closureTuple:=.none,builtins:=0 },#[]⟩
noncomputable def oS(t:Nat):List Str->List Value
 | []=>[]
 | x::l=>.str x t::oS (t+1) l
noncomputable def oV(t:Nat)(l:List Str):Obj:=oU (oS t l)
noncomputable def oC(n q:Str)(a:Nat)(l x1:Int)(r:Nat)(l':List Value)(m:Nat):Obj:=⟨.type "code",none,.fields (List.toArray (.str n a::.str q (a+1)::.str "/claim/cut.py" (a+2)::.int l 0::.int x1 0::.int 0 0::.int 0 0::.int 3 0::.ref r::.bool true::.int 181 0::.ref (r+1)::.none::List.append l' [.int m 0,.int l 0,.str "/claim/cut.py" (m+1)])),#[]⟩
noncomputable def oc(n:Str)(a:Nat)(l x1:Int)(r m:Nat):Obj:=oC n n a l x1 r [.ref (r+2),.ref (r+3),.ref (r+4)] m
noncomputable def od(n:Str)(a:Nat)(l x1:Int)(r m:Nat):Obj:=oC n n a l x1 r [.none,.none,.ref (r+2)] m
noncomputable def oG(n:Str)(s:Stmt)(c:Nat):Obj:=oF n n s "law_moonseat_k15_tables_judged" 637 c
noncomputable def oH(n:Str)(s:Stmt):Obj:=oT n n s
noncomputable def nz:Nat->List Obj->List (Nat×Obj)
 | _,[]=>[]
 | n,o::l=>(n,o)::nz (n+1) l
noncomputable def ins2:BT->Nat->Obj->BT
 | .nil,_,o=>.node o .nil .nil
 | .node v l r,i,o=>match Nat.beq i 0 with
  | true=>.node o l r
  | false=>match Nat.beq (i % 2) 1 with
   | true=>.node v (ins2 l (i / 2) o) r
   | false=>.node v l (ins2 r (i / 2 - 1) o)
def putAll(t:BT)(l:List (Nat×Obj)):BT:=l.foldl (fun t q=>ins2 t q.1 q.2) t
noncomputable def env:Env:={ scope:=pw.main.scope,locals:=mainNs,globals:=mainNs,cells:=[],code:=.ref 13,frame:=some 14 }
noncomputable def bd:List Stmt:=behindTheImports pw
def cE:Code:=.body bd env
noncomputable def o0:Obj:=oU []
noncomputable def o1:Obj:=⟨.none,none,(.fields #[]),#[]⟩
noncomputable def o2:Obj:=⟨.type "code",none,(fC "<module>" "<module>" 182 183 184 1 0 0 0 0 11 false 181 12 185 186),#[]⟩
noncomputable def o3:Obj:=⟨.type "frame",none,.plain,#[some (.ref 13),some (.ref 3),some (.ref 3),none,some (.str "__main__" 164),none,some (.ref 0)]⟩
noncomputable def c4(P:Params):List Obj:=[boot_o_0 P,boot_o_1 P,boot_o_2 P,boot_o_3 P,boot_o_4 P,boot_o_5 P,boot_o_6 P,boot_o_7 P]
def c5(P:Params):List Obj:=[boot_o_8 P,boot_o_9 P,boot_o_10 P,o0,o1,o2,o3]
noncomputable def c6(P:Params):List (Nat×Obj):=nz 0 [boot_o_0 P,boot_o_1 P,boot_o_2 P,boot_o_3 P,boot_o_4 P,boot_o_5 P,boot_o_6 P,boot_o_7 P]
def c7(P:Params):List (Nat×Obj):=nz 8 [boot_o_8 P,boot_o_9 P,boot_o_10 P,o0,o1,o2,o3]
noncomputable def c8(P:Params):List DictEntry:=[de P "__name__" 165 (.str "moonseat.errors" 187),de P "__doc__" 166 .none,de P "__package__" 167 .none,de P "__loader__" 168 (.builtin "__main__.__loader__#opaque"),de P "__spec__" 169 .none,de P "__annotations__" 170 (.ref 6),de P "__builtins__" 171 (.ref 4),de P "__file__" 173 (.str "/claim/cut.py" 172)]
noncomputable def c9(P:Params):List DictEntry:=[de P "__cached__" 174 .none,de P "VerseError" 206 (.ref 24),de P "BadRules" 222 (.ref 37),de P "NoKind" 238 (.ref 49),de P "TooLong" 254 (.ref 61)]
def o10(P:Params):Obj:=⟨.type "dict",none,(.dict (List.toArray (List.append (c8 P) (c9 P))) 13),#[]⟩
noncomputable def c11:List Value:=f3 2 0 20 (f3 4 0 33 (f3 6 0 45 (f3 8 0 57 ([]))))
def o12:Obj:=⟨.none,none,(.fields (List.toArray (c11))),#[]⟩
noncomputable def o13:Obj:=oU [.type "ValueError"]
noncomputable def o14:Obj:=⟨.type "builtin_function_or_method",none,(.fields #[.builtin "type.__prepare__",.type "type"]),#[]⟩
noncomputable def o15(P:Params):Obj:=⟨.type "dict",none,(.dict (List.toArray [de P "__module__" 196 (.str "moonseat.errors" 187),de P "__qualname__" 198 (.str "VerseError" 197),de P "__firstlineno__" 200 (.int 2 199),de P "__static_attributes__" 201 (.ref 22)]) 4),#[]⟩
noncomputable def o16:Obj:=⟨.type "code",none,(fC "VerseError" "VerseError" 191 192 193 2 0 0 0 0 18 false 181 19 194 195),#[]⟩
noncomputable def o17:Obj:=⟨.type "frame",none,.plain,#[some (.ref 20),some (.ref 3),some (.ref 17),none,some (.str "moonseat.errors" 187),none,some (.ref 0)]⟩
noncomputable def o18(P:Params):Obj:=⟨.type "dict",none,(.dict (List.toArray [de P "__module__" 196 (.str "moonseat.errors" 187),de P "__firstlineno__" 200 (.int 2 199),de P "__static_attributes__" 201 (.ref 22),de P "__weakref__" 203 (.ref 25),de P "__doc__" 204 .none]) 3),#[]⟩
noncomputable def o19:Obj:=⟨.type "type",none,(.cls { name := "VerseError",bases:=[.type "ValueError"],mro:=[.ref 24,.type "ValueError",.type "Exception",.type "BaseException",.type "object"],ns:=23,qualname := "VerseError",hasDict:=true,slotNames:=[],subclasses:=[.ref 37,.ref 49,.ref 61],abstract:=false,collection:=none,hasDel:=false }),#[some (.ref 15),none,some (.str "VerseError" 189),some (.str "VerseError" 197),some (.builtin "ValueError.__new__"),some (.bool true)]⟩
noncomputable def o20:Obj:=⟨.type "getset_descriptor",none,(.fields #[.str "__weakref__" 202,.ref 24,.builtin "ExceptionGroup.__weakref__",.none]),#[]⟩
noncomputable def o21:Obj:=⟨.type "super",none,(.fields #[.ref 24,.ref 24,.ref 24]),#[]⟩
noncomputable def o22:Obj:=⟨.type "builtin_function_or_method",none,(.fields #[.builtin "object.__init_subclass__",.ref 24]),#[]⟩
noncomputable def o23:Obj:=oU [.ref 24]
noncomputable def o24(P:Params):Obj:=⟨.type "dict",none,(.dict (List.toArray [de P "__module__" 214 (.str "moonseat.errors" 187),de P "__qualname__" 216 (.str "BadRules" 215),de P "__firstlineno__" 218 (.int 4 217),de P "__static_attributes__" 219 (.ref 35)]) 4),#[]⟩
noncomputable def o25:Obj:=⟨.type "code",none,(fC "BadRules" "BadRules" 209 210 211 4 0 0 0 0 31 false 181 32 212 213),#[]⟩
noncomputable def o26:Obj:=⟨.type "frame",none,.plain,#[some (.ref 33),some (.ref 3),some (.ref 30),none,some (.str "moonseat.errors" 187),none,some (.ref 0)]⟩
noncomputable def o27(P:Params):Obj:=⟨.type "dict",none,(.dict (List.toArray [de P "__module__" 214 (.str "moonseat.errors" 187),de P "__firstlineno__" 218 (.int 4 217),de P "__static_attributes__" 219 (.ref 35),de P "__doc__" 220 .none]) 2),#[]⟩
noncomputable def o28:Obj:=⟨.type "type",none,(.cls { name := "BadRules",bases:=[.ref 24],mro:=[.ref 37,.ref 24,.type "ValueError",.type "Exception",.type "BaseException",.type "object"],ns:=36,qualname := "BadRules",hasDict:=true,slotNames:=[],subclasses:=[],abstract:=false,collection:=none,hasDel:=false }),#[some (.ref 28),none,some (.str "BadRules" 207),some (.str "BadRules" 215),some (.builtin "ValueError.__new__"),some (.bool true)]⟩
noncomputable def o29:Obj:=⟨.type "super",none,(.fields #[.ref 37,.ref 37,.ref 37]),#[]⟩
noncomputable def o30:Obj:=⟨.type "builtin_function_or_method",none,(.fields #[.builtin "object.__init_subclass__",.ref 37]),#[]⟩
noncomputable def o31(P:Params):Obj:=⟨.type "dict",none,(.dict (List.toArray [de P "__module__" 230 (.str "moonseat.errors" 187),de P "__qualname__" 232 (.str "NoKind" 231),de P "__firstlineno__" 234 (.int 6 233),de P "__static_attributes__" 235 (.ref 47)]) 4),#[]⟩
noncomputable def o32:Obj:=⟨.type "code",none,(fC "NoKind" "NoKind" 225 226 227 6 0 0 0 0 43 false 181 44 228 229),#[]⟩
noncomputable def o33:Obj:=⟨.type "frame",none,.plain,#[some (.ref 45),some (.ref 3),some (.ref 42),none,some (.str "moonseat.errors" 187),none,some (.ref 0)]⟩
noncomputable def o34(P:Params):Obj:=⟨.type "dict",none,(.dict (List.toArray [de P "__module__" 230 (.str "moonseat.errors" 187),de P "__firstlineno__" 234 (.int 6 233),de P "__static_attributes__" 235 (.ref 47),de P "__doc__" 236 .none]) 2),#[]⟩
noncomputable def o35:Obj:=⟨.type "type",none,(.cls { name := "NoKind",bases:=[.ref 24],mro:=[.ref 49,.ref 24,.type "ValueError",.type "Exception",.type "BaseException",.type "object"],ns:=48,qualname := "NoKind",hasDict:=true,slotNames:=[],subclasses:=[],abstract:=false,collection:=none,hasDel:=false }),#[some (.ref 40),none,some (.str "NoKind" 223),some (.str "NoKind" 231),some (.builtin "ValueError.__new__"),some (.bool true)]⟩
noncomputable def o36:Obj:=⟨.type "super",none,(.fields #[.ref 49,.ref 49,.ref 49]),#[]⟩
noncomputable def o37:Obj:=⟨.type "builtin_function_or_method",none,(.fields #[.builtin "object.__init_subclass__",.ref 49]),#[]⟩
noncomputable def o38(P:Params):Obj:=⟨.type "dict",none,(.dict (List.toArray [de P "__module__" 246 (.str "moonseat.errors" 187),de P "__qualname__" 248 (.str "TooLong" 247),de P "__firstlineno__" 250 (.int 8 249),de P "__static_attributes__" 251 (.ref 59)]) 4),#[]⟩
noncomputable def o39:Obj:=⟨.type "code",none,(fC "TooLong" "TooLong" 241 242 243 8 0 0 0 0 55 false 181 56 244 245),#[]⟩
noncomputable def o40:Obj:=⟨.type "frame",none,.plain,#[some (.ref 57),some (.ref 3),some (.ref 54),none,some (.str "moonseat.errors" 187),none,some (.ref 0)]⟩
noncomputable def o41(P:Params):Obj:=⟨.type "dict",none,(.dict (List.toArray [de P "__module__" 246 (.str "moonseat.errors" 187),de P "__firstlineno__" 250 (.int 8 249),de P "__static_attributes__" 251 (.ref 59),de P "__doc__" 252 .none]) 2),#[]⟩
noncomputable def o42:Obj:=⟨.type "type",none,(.cls { name := "TooLong",bases:=[.ref 24],mro:=[.ref 61,.ref 24,.type "ValueError",.type "Exception",.type "BaseException",.type "object"],ns:=60,qualname := "TooLong",hasDict:=true,slotNames:=[],subclasses:=[],abstract:=false,collection:=none,hasDel:=false }),#[some (.ref 52),none,some (.str "TooLong" 239),some (.str "TooLong" 247),some (.builtin "ValueError.__new__"),some (.bool true)]⟩
noncomputable def o43:Obj:=⟨.type "super",none,(.fields #[.ref 61,.ref 61,.ref 61]),#[]⟩
noncomputable def o44:Obj:=⟨.type "builtin_function_or_method",none,(.fields #[.builtin "object.__init_subclass__",.ref 61]),#[]⟩
def c45(P:Params):List (Nat×Obj):=List.append [(3,o10 P),(12,o12)] (nz 15 [o13,o14,o15 P,o0,o1,o16])
def c46(P:Params):List (Nat×Obj):=nz 21 [o17,o0,o18 P,o19,o20,o21,o22,o23]
def c47(P:Params):List (Nat×Obj):=nz 29 [o14,o24 P,o0,o1,o25,o26,o0,o27 P]
def c48(P:Params):List (Nat×Obj):=nz 37 [o28,o29,o30,o23,o14,o31 P,o0,o1]
def c49(P:Params):List (Nat×Obj):=nz 45 [o32,o33,o0,o34 P,o35,o36,o37,o23]
def c50(P:Params):List (Nat×Obj):=nz 53 [o14,o38 P,o0,o1,o39,o40,o0,o41 P]
def c51:List (Nat×Obj):=nz 61 [o42,o43,o44]
noncomputable def c52(P:Params):List DictEntry:=[de P "__name__" 165 (.str "moonseat.rules" 497),de P "__doc__" 166 .none,de P "__package__" 167 .none,de P "__loader__" 168 (.builtin "__main__.__loader__#opaque"),de P "__spec__" 169 .none,de P "__annotations__" 170 (.ref 6),de P "__builtins__" 171 (.ref 4),de P "__file__" 173 (.str "/claim/cut.py" 172)]
noncomputable def c53(P:Params):List DictEntry:=[de P "__cached__" 174 .none,de P "VerseError" 206 (.ref 24),de P "BadRules" 222 (.ref 37),de P "NoKind" 238 (.ref 49),de P "TooLong" 254 (.ref 61),de P "Broken" 281 (.ref 80),de P "empty_stand" 292 (.ref 89),de P "run_with" 300 (.ref 96)]
noncomputable def c54(P:Params):List DictEntry:=[de P "waits_with" 306 (.ref 101),de P "met_with" 322 (.ref 108),de P "stand_with" 334 (.ref 115),de P "is_barred" 347 (.ref 122),de P "is_long" 356 (.ref 129),de P "is_short" 366 (.ref 136),de P "is_early" 374 (.ref 143),de P "is_shunned" 387 (.ref 150)]
noncomputable def c55(P:Params):List DictEntry:=[de P "misses_due" 399 (.ref 157),de P "is_cut" 408 (.ref 164),de P "breach" 417 (.ref 171),de P "stepped" 426 (.ref 178),de P "steps_from" 437 (.ref 185),de P "is_kind" 447 (.ref 192),de P "has_kinds_alone" 453 (.ref 197),de P "check_row" 461 (.ref 204)]
noncomputable def c56(P:Params):List DictEntry:=[de P "walked" 472 (.ref 211),de P "stand_of" 482 (.ref 218),de P "is_closed" 490 (.ref 223),de P "table_holds" 496 (.ref 228),de P "MOST_SIZE" 500 (.int 30 499),de P "MOST_KINDS" 502 (.int 4 501),de P "MOST_SHUNS" 504 (.int 20 503)]
def o57(P:Params):Obj:=⟨.type "dict",none,(.dict (List.toArray (List.append (c52 P) (List.append (c53 P) (List.append (c54 P) (List.append (c55 P) (c56 P)))))) 39),#[]⟩
noncomputable def c58:List Value:=f3 2 0 20 (f3 4 0 33 (f3 6 0 45 (f3 8 0 57 (f3 10 0 69 (f3 16 0 88 (f3 20 0 95 (f3 24 0 100 ([]))))))))
noncomputable def c59:List Value:=f3 31 0 107 (f3 38 0 114 (f3 43 0 121 (f3 49 0 128 (f3 51 0 135 (f3 56 0 142 (f3 58 0 149 (f3 64 0 156 ([]))))))))
noncomputable def c60:List Value:=f3 70 0 163 (f3 74 0 170 (f3 90 0 177 (f3 94 0 184 (f3 102 0 191 (f3 104 0 196 (f3 106 0 203 (f3 111 0 210 ([]))))))))
noncomputable def c61:List Value:=f3 119 0 217 (f3 126 0 222 (f3 130 0 227 ([])))
def o62:Obj:=⟨.none,none,(.fields (List.toArray (List.append (c58) (List.append (c59) (List.append (c60) (c61)))))),#[]⟩
noncomputable def o63:Obj:=⟨.type "type",none,(.cls { name := "VerseError",bases:=[.type "ValueError"],mro:=[.ref 24,.type "ValueError",.type "Exception",.type "BaseException",.type "object"],ns:=23,qualname := "VerseError",hasDict:=true,slotNames:=[],subclasses:=[.ref 37,.ref 49,.ref 61,.ref 80],abstract:=false,collection:=none,hasDel:=false }),#[some (.ref 15),none,some (.str "VerseError" 189),some (.str "VerseError" 197),some (.builtin "ValueError.__new__"),some (.bool true)]⟩
noncomputable def o64(P:Params):Obj:=⟨.type "dict",none,(.dict (List.toArray [de P "__module__" 262 (.str "moonseat.errors" 187),de P "__qualname__" 264 (.str "Broken" 263),de P "__firstlineno__" 266 (.int 10 265),de P "__init__" 275 (.ref 77),de P "__static_attributes__" 278 (.ref 78)]) 5),#[]⟩
noncomputable def o65:Obj:=⟨.none,none,(.fields #[.int 12 0,.int 4 0,.ref 76]),#[]⟩
noncomputable def o66:Obj:=⟨.type "code",none,(fC "Broken" "Broken" 257 258 259 10 0 0 0 0 67 false 181 68 260 261),#[]⟩
noncomputable def o67:Obj:=⟨.type "frame",none,.plain,#[some (.ref 69),some (.ref 3),some (.ref 66),none,some (.str "moonseat.errors" 187),none,some (.ref 0)]⟩
noncomputable def o68:Obj:=oV 270 ["self", "place", "word"]
def o69:Obj:=oT "__init__" "Broken.__init__" (inClass (top 5) 0)
noncomputable def o70:Obj:=oC "__init__" "Broken.__init__" 267 12 3 71 [.ref 73,.ref 74,.ref 75] 273
def o71:Obj:=oF "__init__" "Broken.__init__" (inClass (top 5) 0) "moonseat.errors" 187 76
noncomputable def o72:Obj:=oV 276 ["place", "word"]
noncomputable def o73(P:Params):Obj:=⟨.type "dict",none,(.dict (List.toArray [de P "__module__" 262 (.str "moonseat.errors" 187),de P "__firstlineno__" 266 (.int 10 265),de P "__init__" 275 (.ref 77),de P "__static_attributes__" 278 (.ref 78),de P "__doc__" 279 .none]) 2),#[]⟩
noncomputable def o74:Obj:=⟨.type "type",none,(.cls { name := "Broken",bases:=[.ref 24],mro:=[.ref 80,.ref 24,.type "ValueError",.type "Exception",.type "BaseException",.type "object"],ns:=79,qualname := "Broken",hasDict:=true,slotNames:=[],subclasses:=[],abstract:=false,collection:=none,hasDel:=false }),#[some (.ref 64),none,some (.str "Broken" 255),some (.str "Broken" 263),some (.builtin "ValueError.__new__"),some (.bool true)]⟩
noncomputable def o75:Obj:=⟨.type "super",none,(.fields #[.ref 80,.ref 80,.ref 80]),#[]⟩
noncomputable def o76:Obj:=⟨.type "builtin_function_or_method",none,(.fields #[.builtin "object.__init_subclass__",.ref 80]),#[]⟩
noncomputable def o77:Obj:=oV 287 ["rules", "waits", "met"]
def o78:Obj:=oH "empty_stand" (top 7)
noncomputable def o79:Obj:=oc "empty_stand" 284 16 1 83 290
def o80:Obj:=oF "empty_stand" "empty_stand" (top 7) "moonseat.stands" 282 88
noncomputable def o81:Obj:=oV 296 ["stand", "kind"]
def o82:Obj:=oH "run_with" (top 8)
noncomputable def o83:Obj:=oc "run_with" 293 20 2 90 298
def o84:Obj:=oF "run_with" "run_with" (top 8) "moonseat.stands" 282 95
def o85:Obj:=oH "waits_with" (top 9)
noncomputable def o86:Obj:=od "waits_with" 301 24 3 97 304
def o87:Obj:=oF "waits_with" "waits_with" (top 9) "moonseat.stands" 282 100
noncomputable def o88:Obj:=oV 310 ["rules", "stand", "kind", "place", "met", "due", "is_met", "meant", "first", "last"]
def o89:Obj:=oH "met_with" (top 10)
noncomputable def o90:Obj:=oc "met_with" 307 31 3 102 320
def o91:Obj:=oF "met_with" "met_with" (top 10) "moonseat.stands" 282 107
noncomputable def o92:Obj:=oV 326 ["rules", "stand", "kind", "length", "waits", "met"]
def o93:Obj:=oH "stand_with" (top 11)
noncomputable def o94:Obj:=oc "stand_with" 323 38 3 109 332
def o95:Obj:=oF "stand_with" "stand_with" (top 11) "moonseat.stands" 282 114
noncomputable def o96:Obj:=oV 338 ["rules", "stand", "kind", "place", "barred", "first", "last"]
def o97:Obj:=oH "is_barred" (top 12)
noncomputable def o98:Obj:=oc "is_barred" 335 43 3 116 345
def o99:Obj:=oF "is_barred" "is_barred" (top 12) "moonseat.stands" 282 121
noncomputable def o100:Obj:=oV 351 ["rules", "stand", "kind"]
def o101:Obj:=oH "is_long" (top 13)
noncomputable def o102:Obj:=oc "is_long" 348 49 3 123 354
def o103:Obj:=oF "is_long" "is_long" (top 13) "moonseat.stands" 282 128
noncomputable def o104:Obj:=oV 360 ["rules", "stand", "kind", "last"]
def o105:Obj:=oH "is_short" (top 14)
noncomputable def o106:Obj:=oc "is_short" 357 51 3 130 364
def o107:Obj:=oF "is_short" "is_short" (top 14) "moonseat.stands" 282 135
noncomputable def o108:Obj:=oV 370 ["stand", "kind"]
def o109:Obj:=oH "is_early" (top 15)
noncomputable def o110:Obj:=oc "is_early" 367 56 2 137 372
def o111:Obj:=oF "is_early" "is_early" (top 15) "moonseat.stands" 282 142
noncomputable def o112:Obj:=oV 378 ["rules", "stand", "kind", "one", "other", "far", "ahead"]
def o113:Obj:=oH "is_shunned" (top 16)
noncomputable def o114:Obj:=oc "is_shunned" 375 58 3 144 385
def o115:Obj:=oF "is_shunned" "is_shunned" (top 16) "moonseat.stands" 282 149
noncomputable def o116:Obj:=oV 391 ["rules", "stand", "kind", "place", "due", "is_met"]
def o117:Obj:=oH "misses_due" (top 17)
noncomputable def o118:Obj:=oc "misses_due" 388 64 3 151 397
def o119:Obj:=oF "misses_due" "misses_due" (top 17) "moonseat.stands" 282 156
noncomputable def o120:Obj:=oV 403 ["rules", "stand", "kind"]
def o121:Obj:=oH "is_cut" (top 18)
noncomputable def o122:Obj:=oc "is_cut" 400 70 3 158 406
def o123:Obj:=oF "is_cut" "is_cut" (top 18) "moonseat.stands" 282 163
noncomputable def o124:Obj:=oV 412 ["rules", "stand", "kind"]
def o125:Obj:=oH "breach" (top 19)
noncomputable def o126:Obj:=oc "breach" 409 74 3 165 415
def o127:Obj:=oF "breach" "breach" (top 19) "moonseat.stands" 282 170
noncomputable def o128:Obj:=oV 421 ["rules", "stand", "kind"]
def o129:Obj:=oH "stepped" (top 20)
noncomputable def o130:Obj:=oc "stepped" 418 90 3 172 424
def o131:Obj:=oF "stepped" "stepped" (top 20) "moonseat.stands" 282 177
noncomputable def o132:Obj:=oV 430 ["rules", "stand", "steps", "kind", "after"]
def o133:Obj:=oH "steps_from" (top 21)
noncomputable def o134:Obj:=oc "steps_from" 427 94 2 179 435
def o135:Obj:=oF "steps_from" "steps_from" (top 21) "moonseat.stands" 282 184
noncomputable def o136:Obj:=oV 443 ["rules", "number"]
def o137:Obj:=oH "is_kind" (top 23)
noncomputable def o138:Obj:=oc "is_kind" 440 102 2 186 445
def o139:Obj:=oF "is_kind" "is_kind" (top 23) "moonseat.sheets" 438 191
def o140:Obj:=oH "has_kinds_alone" (top 24)
noncomputable def o141:Obj:=od "has_kinds_alone" 448 104 2 193 451
def o142:Obj:=oF "has_kinds_alone" "has_kinds_alone" (top 24) "moonseat.sheets" 438 196
noncomputable def o143:Obj:=oV 457 ["rules", "row"]
def o144:Obj:=oH "check_row" (top 25)
noncomputable def o145:Obj:=oc "check_row" 454 106 2 198 459
def o146:Obj:=oF "check_row" "check_row" (top 25) "moonseat.sheets" 438 203
noncomputable def o147:Obj:=oV 465 ["rules", "row", "stand", "kind", "word"]
def o148:Obj:=oH "walked" (top 26)
noncomputable def o149:Obj:=oc "walked" 462 111 2 205 470
def o150:Obj:=oF "walked" "walked" (top 26) "moonseat.sheets" 438 210
noncomputable def o151:Obj:=oV 476 ["rules", "row", "stand", "word"]
def o152:Obj:=oH "stand_of" (top 27)
noncomputable def o153:Obj:=oc "stand_of" 473 119 2 212 480
def o154:Obj:=oF "stand_of" "stand_of" (top 27) "moonseat.sheets" 438 217
def o155:Obj:=oH "is_closed" (top 29)
noncomputable def o156:Obj:=od "is_closed" 485 126 4 219 488
def o157:Obj:=oF "is_closed" "is_closed" (top 29) "moonseat.tables" 483 222
def o158:Obj:=oH "table_holds" (top 30)
noncomputable def o159:Obj:=od "table_holds" 491 130 3 224 494
def o160:Obj:=oF "table_holds" "table_holds" (top 30) "moonseat.tables" 483 227
def c161(P:Params):List (Nat×Obj):=List.append [(3,o57 P),(12,o62),(24,o63)] (nz 64 [o23,o14,o64 P,o0,o65])
def c162:List (Nat×Obj):=nz 69 [o66,o67,o0,o1,o68,o0,o69,o70]
def c163(P:Params):List (Nat×Obj):=nz 77 [o71,o72,o73 P,o74,o75,o76,o0,o1]
def c164:List (Nat×Obj):=nz 85 [o77,o0,o78,o79,o80,o0,o1,o81]
def c165:List (Nat×Obj):=nz 93 [o0,o82,o83,o84,o0,o1,o85,o86]
def c166:List (Nat×Obj):=nz 101 [o87,o0,o1,o88,o0,o89,o90,o91]
def c167:List (Nat×Obj):=nz 109 [o0,o1,o92,o0,o93,o94,o95,o0]
def c168:List (Nat×Obj):=nz 117 [o1,o96,o0,o97,o98,o99,o0,o1]
def c169:List (Nat×Obj):=nz 125 [o100,o0,o101,o102,o103,o0,o1,o104]
def c170:List (Nat×Obj):=nz 133 [o0,o105,o106,o107,o0,o1,o108,o0]
def c171:List (Nat×Obj):=nz 141 [o109,o110,o111,o0,o1,o112,o0,o113]
def c172:List (Nat×Obj):=nz 149 [o114,o115,o0,o1,o116,o0,o117,o118]
def c173:List (Nat×Obj):=nz 157 [o119,o0,o1,o120,o0,o121,o122,o123]
def c174:List (Nat×Obj):=nz 165 [o0,o1,o124,o0,o125,o126,o127,o0]
def c175:List (Nat×Obj):=nz 173 [o1,o128,o0,o129,o130,o131,o0,o1]
def c176:List (Nat×Obj):=nz 181 [o132,o0,o133,o134,o135,o0,o1,o136]
def c177:List (Nat×Obj):=nz 189 [o0,o137,o138,o139,o0,o1,o140,o141]
def c178:List (Nat×Obj):=nz 197 [o142,o0,o1,o143,o0,o144,o145,o146]
def c179:List (Nat×Obj):=nz 205 [o0,o1,o147,o0,o148,o149,o150,o0]
def c180:List (Nat×Obj):=nz 213 [o1,o151,o0,o152,o153,o154,o0,o1]
def c181:List (Nat×Obj):=nz 221 [o155,o156,o157,o0,o1,o158,o159,o160]
noncomputable def c182(P:Params):List DictEntry:=[de P "__name__" 165 (.str "law_moonseat_k15_tables_judged" 637),de P "__doc__" 166 .none,de P "__package__" 167 .none,de P "__loader__" 168 (.builtin "__main__.__loader__#opaque"),de P "__spec__" 169 .none,de P "__annotations__" 170 (.ref 6),de P "__builtins__" 171 (.ref 4),de P "__file__" 173 (.str "/claim/cut.py" 172)]
noncomputable def c183(P:Params):List DictEntry:=[de P "walked" 472 (.ref 211),de P "stand_of" 482 (.ref 218),de P "is_closed" 490 (.ref 223),de P "table_holds" 496 (.ref 228),de P "MOST_SIZE" 500 (.int 30 499),de P "MOST_KINDS" 502 (.int 4 501),de P "MOST_SHUNS" 504 (.int 20 503),de P "MOST_BARS" 506 (.int 12 505)]
noncomputable def c184(P:Params):List DictEntry:=[de P "MOST_DUES" 508 (.int 3 507),de P "MOST_RUN" 510 (.int 4 509),de P "MOST_REST" 512 (.int 4 511),de P "MOST_FAR" 514 (.int 2 513),de P "fits_kind" 524 (.ref 235),de P "fits_shun" 535 (.ref 242),de P "fits_span" 547 (.ref 249),de P "fits_counts" 558 (.ref 256)]
noncomputable def c185(P:Params):List DictEntry:=[de P "fits_rows" 564 (.ref 261),de P "Rules" 636 (.ref 313),de P "_law_numbers" 651 (.ref 324),de P "_law_windows" 664 (.ref 331),de P "_law_book" 670 (.ref 336),de P "_law_made" 677 (.ref 343),de P "_law_start" 683 (.ref 348),de P "_law_turned_away" 699 (.ref 355)]
noncomputable def c186(P:Params):List DictEntry:=[de P "_law_met" 714 (.ref 362),de P "_law_step" 741 (.ref 369),de P "_law_walk" 747 (.ref 374),de P "_law_levels" 760 (.ref 381),de P "_law_stand" 770 (.ref 388),de P "_law_is_stand" 776 (.ref 393)]
def o187(P:Params):Obj:=⟨.type "dict",none,(.dict (List.toArray (List.append (c182 P) (List.append (c53 P) (List.append (c54 P) (List.append (c55 P) (List.append (c183 P) (List.append (c184 P) (List.append (c185 P) (c186 P))))))))) 62),#[]⟩
noncomputable def c188:List Value:=f3 119 0 217 (f3 126 0 222 (f3 130 0 227 (f3 148 0 234 (f3 153 0 241 (f3 158 0 248 (f3 163 0 255 (f3 167 0 260 ([]))))))))
noncomputable def c189:List Value:=f3 174 0 267 (f3 202 0 323 (f3 218 0 330 (f3 224 0 335 (f3 244 0 342 (f3 246 0 347 (f3 248 0 354 (f3 258 0 361 ([]))))))))
noncomputable def c190:List Value:=f3 265 0 368 (f3 288 0 373 (f3 297 0 380 (f3 308 0 387 (f3 313 0 392 ([])))))
def o191:Obj:=⟨.none,none,(.fields (List.toArray (List.append (c58) (List.append (c59) (List.append (c60) (List.append (c188) (List.append (c189) (c190)))))))),#[]⟩
noncomputable def o192:Obj:=oV 518 ["row", "least", "most", "rest"]
def o193:Obj:=oH "fits_kind" (top 40)
noncomputable def o194:Obj:=oc "fits_kind" 515 148 1 229 522
def o195:Obj:=oF "fits_kind" "fits_kind" (top 40) "moonseat.rules" 497 234
noncomputable def o196:Obj:=oV 528 ["row", "many", "one", "other", "far"]
def o197:Obj:=oH "fits_shun" (top 41)
noncomputable def o198:Obj:=oc "fits_shun" 525 153 2 236 533
def o199:Obj:=oF "fits_shun" "fits_shun" (top 41) "moonseat.rules" 497 241
noncomputable def o200:Obj:=oV 539 ["row", "many", "size", "kind", "first", "last"]
def o201:Obj:=oH "fits_span" (top 42)
noncomputable def o202:Obj:=oc "fits_span" 536 158 3 243 545
def o203:Obj:=oF "fits_span" "fits_span" (top 42) "moonseat.rules" 497 248
noncomputable def o204:Obj:=oV 551 ["size", "kinds", "shuns", "bars", "dues"]
def o205:Obj:=oH "fits_counts" (top 43)
noncomputable def o206:Obj:=oc "fits_counts" 548 163 5 250 556
def o207:Obj:=oF "fits_counts" "fits_counts" (top 43) "moonseat.rules" 497 255
def o208:Obj:=oH "fits_rows" (top 44)
noncomputable def o209:Obj:=od "fits_rows" 559 167 5 257 562
def o210:Obj:=oF "fits_rows" "fits_rows" (top 44) "moonseat.rules" 497 260
noncomputable def c211(P:Params):List DictEntry:=[de P "__module__" 572 (.str "moonseat.rules" 497),de P "__qualname__" 574 (.str "Rules" 573),de P "__firstlineno__" 576 (.int 174 575),de P "__init__" 588 (.ref 275),de P "kinds" 595 (.ref 282),de P "shuns" 602 (.ref 289),de P "bars" 609 (.ref 296),de P "dues" 616 (.ref 303)]
noncomputable def c212(P:Params):List DictEntry:=[de P "many" 623 (.ref 310),de P "__static_attributes__" 629 (.ref 311)]
def o213(P:Params):Obj:=⟨.type "dict",none,(.dict (List.toArray (List.append (c211 P) (c212 P))) 10),#[]⟩
noncomputable def c214:List Value:=f3 176 4 274 (f3 187 4 281 (f3 190 4 288 (f3 193 4 295 (f3 196 4 302 (f3 199 4 309 ([]))))))
def o215:Obj:=⟨.none,none,(.fields (List.toArray (c214))),#[]⟩
noncomputable def o216:Obj:=⟨.type "code",none,(fC "Rules" "Rules" 567 568 569 174 0 0 0 0 265 false 181 266 570 571),#[]⟩
noncomputable def o217:Obj:=⟨.type "frame",none,.plain,#[some (.ref 267),some (.ref 3),some (.ref 264),none,some (.str "moonseat.rules" 497),none,some (.ref 0)]⟩
noncomputable def o218:Obj:=oV 580 ["self", "size", "kinds", "shuns", "bars", "dues"]
def o219:Obj:=oT "__init__" "Rules.__init__" (inClass (top 45) 0)
noncomputable def o220:Obj:=oC "__init__" "Rules.__init__" 577 176 6 269 [.ref 271,.ref 272,.ref 273] 586
def o221:Obj:=oF "__init__" "Rules.__init__" (inClass (top 45) 0) "moonseat.rules" 497 274
noncomputable def o222:Obj:=oV 592 ["self"]
def o223:Obj:=oT "kinds" "Rules.kinds" (inClass (top 45) 1)
noncomputable def o224:Obj:=oC "kinds" "Rules.kinds" 589 187 1 276 [.ref 278,.ref 279,.ref 280] 593
def o225:Obj:=oF "kinds" "Rules.kinds" (inClass (top 45) 1) "moonseat.rules" 497 281
noncomputable def o226:Obj:=oV 599 ["self"]
def o227:Obj:=oT "shuns" "Rules.shuns" (inClass (top 45) 2)
noncomputable def o228:Obj:=oC "shuns" "Rules.shuns" 596 190 1 283 [.ref 285,.ref 286,.ref 287] 600
def o229:Obj:=oF "shuns" "Rules.shuns" (inClass (top 45) 2) "moonseat.rules" 497 288
noncomputable def o230:Obj:=oV 606 ["self"]
def o231:Obj:=oT "bars" "Rules.bars" (inClass (top 45) 3)
noncomputable def o232:Obj:=oC "bars" "Rules.bars" 603 193 1 290 [.ref 292,.ref 293,.ref 294] 607
def o233:Obj:=oF "bars" "Rules.bars" (inClass (top 45) 3) "moonseat.rules" 497 295
noncomputable def o234:Obj:=oV 613 ["self"]
def o235:Obj:=oT "dues" "Rules.dues" (inClass (top 45) 4)
noncomputable def o236:Obj:=oC "dues" "Rules.dues" 610 196 1 297 [.ref 299,.ref 300,.ref 301] 614
def o237:Obj:=oF "dues" "Rules.dues" (inClass (top 45) 4) "moonseat.rules" 497 302
noncomputable def o238:Obj:=oV 620 ["self"]
def o239:Obj:=oT "many" "Rules.many" (inClass (top 45) 5)
noncomputable def o240:Obj:=oC "many" "Rules.many" 617 199 1 304 [.ref 306,.ref 307,.ref 308] 621
def o241:Obj:=oF "many" "Rules.many" (inClass (top 45) 5) "moonseat.rules" 497 309
noncomputable def o242:Obj:=oV 624 ["bar_rows", "due_rows", "kind_rows", "shun_rows", "size"]
noncomputable def c243(P:Params):List DictEntry:=[de P "__module__" 572 (.str "moonseat.rules" 497),de P "__firstlineno__" 576 (.int 174 575),de P "__init__" 588 (.ref 275),de P "kinds" 595 (.ref 282),de P "shuns" 602 (.ref 289),de P "bars" 609 (.ref 296),de P "dues" 616 (.ref 303),de P "many" 623 (.ref 310)]
noncomputable def c244(P:Params):List DictEntry:=[de P "__static_attributes__" 629 (.ref 311),de P "__dict__" 631 (.ref 314),de P "__weakref__" 633 (.ref 315),de P "__doc__" 634 .none]
def o245(P:Params):Obj:=⟨.type "dict",none,(.dict (List.toArray (List.append (c243 P) (c244 P))) 4),#[]⟩
noncomputable def o246:Obj:=⟨.type "type",none,(.cls { name := "Rules",bases:=[.type "object"],mro:=[.ref 313,.type "object"],ns:=312,qualname := "Rules",hasDict:=true,slotNames:=[],subclasses:=[],abstract:=false,collection:=none,hasDel:=false }),#[none,none,some (.str "Rules" 565),some (.str "Rules" 573),some (.builtin "object.__new__"),some (.bool true)]⟩
noncomputable def o247:Obj:=⟨.type "getset_descriptor",none,(.fields #[.str "__dict__" 630,.ref 313,.builtin "function.__dict__",.builtin "function.__dict__#set"]),#[]⟩
noncomputable def o248:Obj:=⟨.type "getset_descriptor",none,(.fields #[.str "__weakref__" 632,.ref 313,.builtin "ExceptionGroup.__weakref__",.none]),#[]⟩
noncomputable def o249:Obj:=⟨.type "super",none,(.fields #[.ref 313,.ref 313,.ref 313]),#[]⟩
noncomputable def o250:Obj:=⟨.type "builtin_function_or_method",none,(.fields #[.builtin "object.__init_subclass__",.ref 313]),#[]⟩
noncomputable def o251:Obj:=oV 642 ["_law_script", "_law_many", "_law_row", "_law_seed", "_law_cell", "_law_rest", "_law_k"]
def o252:Obj:=oH "_law_numbers" (top 47)
noncomputable def o253:Obj:=oc "_law_numbers" 639 202 2 318 649
def o254:Obj:=oG "_law_numbers" (top 47) 323
noncomputable def o255:Obj:=oV 655 ["_law_many", "_law_size", "_law_count", "_law_d", "_law_rows", "_law_k", "_law_first"]
def o256:Obj:=oH "_law_windows" (top 48)
noncomputable def o257:Obj:=oc "_law_windows" 652 218 4 325 662
def o258:Obj:=oG "_law_windows" (top 48) 330
def o259:Obj:=oH "_law_book" (top 49)
noncomputable def o260:Obj:=od "_law_book" 665 224 2 332 668
def o261:Obj:=oG "_law_book" (top 49) 335
noncomputable def o262:Obj:=oV 674 ["_law_book_here"]
def o263:Obj:=oH "_law_made" (top 50)
noncomputable def o264:Obj:=oc "_law_made" 671 244 1 337 675
def o265:Obj:=oG "_law_made" (top 50) 342
def o266:Obj:=oH "_law_start" (top 51)
noncomputable def o267:Obj:=od "_law_start" 678 246 1 344 681
def o268:Obj:=oG "_law_start" (top 51) 347
noncomputable def o269:Obj:=oV 687 ["_law_book_here", "_law_stand_here", "_law_new", "_law_kind", "_law_length", "_law_before", "_law_waits", "_law_one", "_law_other", "_law_far"]
def o270:Obj:=oH "_law_turned_away" (top 52)
noncomputable def o271:Obj:=oc "_law_turned_away" 684 248 3 349 697
def o272:Obj:=oG "_law_turned_away" (top 52) 354
noncomputable def o273:Obj:=oV 703 ["_law_book_here", "_law_here", "_law_met_here", "_law_new", "_law_done", "_law_k", "_law_kind", "_law_first", "_law_last"]
def o274:Obj:=oH "_law_met" (top 53)
noncomputable def o275:Obj:=oc "_law_met" 700 258 4 356 712
def o276:Obj:=oG "_law_met" (top 53) 361
noncomputable def o277:Obj:=oV 718 ["_law_book_here", "_law_stand_here", "_law_new", "_law_place", "_law_kind", "_law_length", "_law_before", "_law_waits", "_law_met_here", "_law_here", "_law_run", "_law_closed_here", "_law_first", "_law_last", "_law_done", "_law_left", "_law_j", "_law_least", "_law_most", "_law_rest", "_law_wait"]
def o278:Obj:=oH "_law_step" (top 54)
noncomputable def o279:Obj:=oc "_law_step" 715 265 3 363 739
def o280:Obj:=oG "_law_step" (top 54) 368
def o281:Obj:=oH "_law_walk" (top 55)
noncomputable def o282:Obj:=od "_law_walk" 742 288 2 370 745
def o283:Obj:=oG "_law_walk" (top 55) 373
noncomputable def o284:Obj:=oV 751 ["_law_book_here", "_law_stand_here", "_law_floors", "_law_known", "_law_one", "_law_kind", "_law_behind"]
def o285:Obj:=oH "_law_levels" (top 56)
noncomputable def o286:Obj:=oc "_law_levels" 748 297 2 375 758
def o287:Obj:=oG "_law_levels" (top 56) 380
noncomputable def o288:Obj:=oV 764 ["_law_book_here", "_law_row", "_law_stand_here", "_law_kind"]
def o289:Obj:=oH "_law_stand" (top 57)
noncomputable def o290:Obj:=oc "_law_stand" 761 308 2 382 768
def o291:Obj:=oG "_law_stand" (top 57) 387
def o292:Obj:=oH "_law_is_stand" (top 58)
noncomputable def o293:Obj:=od "_law_is_stand" 771 313 2 389 774
def o294:Obj:=oG "_law_is_stand" (top 58) 392
def c295(P:Params):List (Nat×Obj):=List.append [(3,o187 P),(12,o191)] (nz 229 [o0,o1,o192,o0,o193,o194])
def c296:List (Nat×Obj):=nz 235 [o195,o0,o1,o196,o0,o197,o198,o199]
def c297:List (Nat×Obj):=nz 243 [o0,o1,o200,o0,o201,o202,o203,o0]
def c298:List (Nat×Obj):=nz 251 [o1,o204,o0,o205,o206,o207,o0,o1]
def c299(P:Params):List (Nat×Obj):=nz 259 [o208,o209,o210,o0,o14,o213 P,o0,o215]
def c300:List (Nat×Obj):=nz 267 [o216,o217,o0,o1,o218,o0,o219,o220]
def c301:List (Nat×Obj):=nz 275 [o221,o0,o1,o222,o0,o223,o224,o225]
def c302:List (Nat×Obj):=nz 283 [o0,o1,o226,o0,o227,o228,o229,o0]
def c303:List (Nat×Obj):=nz 291 [o1,o230,o0,o231,o232,o233,o0,o1]
def c304:List (Nat×Obj):=nz 299 [o234,o0,o235,o236,o237,o0,o1,o238]
def c305(P:Params):List (Nat×Obj):=nz 307 [o0,o239,o240,o241,o242,o245 P,o246,o247]
def c306:List (Nat×Obj):=nz 315 [o248,o249,o250,o0,o1,o251,o0,o252]
def c307:List (Nat×Obj):=nz 323 [o253,o254,o0,o1,o255,o0,o256,o257]
def c308:List (Nat×Obj):=nz 331 [o258,o0,o1,o259,o260,o261,o0,o1]
def c309:List (Nat×Obj):=nz 339 [o262,o0,o263,o264,o265,o0,o1,o266]
def c310:List (Nat×Obj):=nz 347 [o267,o268,o0,o1,o269,o0,o270,o271]
def c311:List (Nat×Obj):=nz 355 [o272,o0,o1,o273,o0,o274,o275,o276]
def c312:List (Nat×Obj):=nz 363 [o0,o1,o277,o0,o278,o279,o280,o0]
def c313:List (Nat×Obj):=nz 371 [o1,o281,o282,o283,o0,o1,o284,o0]
def c314:List (Nat×Obj):=nz 379 [o285,o286,o287,o0,o1,o288,o0,o289]
def c315:List (Nat×Obj):=nz 387 [o290,o291,o0,o1,o292,o293,o294]
noncomputable def c316(P:Params):List DictEntry:=[de P "_law_met" 714 (.ref 362),de P "_law_step" 741 (.ref 369),de P "_law_walk" 747 (.ref 374),de P "_law_levels" 760 (.ref 381),de P "_law_stand" 770 (.ref 388),de P "_law_is_stand" 776 (.ref 393),de P "_law_list_closed" 789 (.ref 400),de P "_law_closed" 801 (.ref 407)]
noncomputable def c317(P:Params):List DictEntry:=[de P "_law_form" 807 (.ref 412),de P "_law_changed" 818 (.ref 419),de P "_law_spoilt" 832 (.ref 426),de P "law" 838 (.ref 431)]
def o318(P:Params):Obj:=⟨.type "dict",none,(.dict (List.toArray (List.append (c182 P) (List.append (c53 P) (List.append (c54 P) (List.append (c55 P) (List.append (c183 P) (List.append (c184 P) (List.append (c185 P) (List.append (c316 P) (c317 P)))))))))) 68),#[]⟩
noncomputable def c319:List Value:=f3 265 0 368 (f3 288 0 373 (f3 297 0 380 (f3 308 0 387 (f3 313 0 392 (f3 324 0 399 (f3 335 0 406 (f3 343 0 411 ([]))))))))
noncomputable def c320:List Value:=f3 348 0 418 (f3 352 0 425 (f3 372 0 430 ([])))
def o321:Obj:=⟨.none,none,(.fields (List.toArray (List.append (c58) (List.append (c59) (List.append (c60) (List.append (c188) (List.append (c189) (List.append (c319) (c320))))))))),#[]⟩
noncomputable def o322:Obj:=oV 780 ["_law_book_here", "_law_stands", "_law_place", "_law_later", "_law_stand_here", "_law_kind", "_law_behind"]
def o323:Obj:=oH "_law_list_closed" (top 59)
noncomputable def o324:Obj:=oc "_law_list_closed" 777 324 4 394 787
def o325:Obj:=oG "_law_list_closed" (top 59) 399
noncomputable def o326:Obj:=oV 793 ["_law_book_here", "_law_row", "_law_table", "_law_at", "_law_stands", "_law_later"]
def o327:Obj:=oH "_law_closed" (top 60)
noncomputable def o328:Obj:=oc "_law_closed" 790 335 3 401 799
def o329:Obj:=oG "_law_closed" (top 60) 406
def o330:Obj:=oH "_law_form" (top 61)
noncomputable def o331:Obj:=od "_law_form" 802 343 2 408 805
def o332:Obj:=oG "_law_form" (top 61) 411
noncomputable def o333:Obj:=oV 811 ["_law_book_here", "_law_stand_here", "_law_d", "_law_fresh", "_law_at"]
def o334:Obj:=oH "_law_changed" (top 62)
noncomputable def o335:Obj:=oc "_law_changed" 808 348 3 413 816
def o336:Obj:=oG "_law_changed" (top 62) 418
noncomputable def o337:Obj:=oV 822 ["_law_book_here", "_law_table", "_law_place", "_law_d", "_law_at", "_law_here", "_law_fresh", "_law_way"]
def o338:Obj:=oH "_law_spoilt" (top 63)
noncomputable def o339:Obj:=oc "_law_spoilt" 819 352 4 420 830
def o340:Obj:=oG "_law_spoilt" (top 63) 425
def o341:Obj:=oH "law" (top 64)
noncomputable def o342:Obj:=od "law" 833 372 1 427 836
def o343:Obj:=oG "law" (top 64) 430
def c344(P:Params):List (Nat×Obj):=List.append [(3,o318 P),(12,o321)] (nz 394 [o0,o1,o322,o0,o323,o324])
def c345:List (Nat×Obj):=nz 400 [o325,o0,o1,o326,o0,o327,o328,o329]
def c346:List (Nat×Obj):=nz 408 [o0,o1,o330,o331,o332,o0,o1,o333]
def c347:List (Nat×Obj):=nz 416 [o0,o334,o335,o336,o0,o1,o337,o0]
def c348:List (Nat×Obj):=nz 424 [o338,o339,o340,o0,o1,o341,o342,o343]
def c349(P:Params):List Obj:=[boot_o_0 P,boot_o_1 P,boot_o_2 P,o318 P,boot_o_4 P,boot_o_5 P,boot_o_6 P,boot_o_7 P]
def c350(P:Params):List Obj:=[boot_o_8 P,boot_o_9 P,boot_o_10 P,o0,o321,o2,o3,o13]
def c351(P:Params):List Obj:=[o14,o15 P,o0,o1,o16,o17,o0,o18 P]
def c352(P:Params):List Obj:=[o63,o20,o21,o22,o23,o14,o24 P,o0]
def c353(P:Params):List Obj:=[o1,o25,o26,o0,o27 P,o28,o29,o30]
def c354(P:Params):List Obj:=[o23,o14,o31 P,o0,o1,o32,o33,o0]
def c355(P:Params):List Obj:=[o34 P,o35,o36,o37,o23,o14,o38 P,o0]
def c356(P:Params):List Obj:=[o1,o39,o40,o0,o41 P,o42,o43,o44]
def c357(P:Params):List Obj:=[o23,o14,o64 P,o0,o65,o66,o67,o0]
def c358(P:Params):List Obj:=[o1,o68,o0,o69,o70,o71,o72,o73 P]
def c359:List Obj:=[o74,o75,o76,o0,o1,o77,o0,o78]
def c360:List Obj:=[o79,o80,o0,o1,o81,o0,o82,o83]
def c361:List Obj:=[o84,o0,o1,o85,o86,o87,o0,o1]
def c362:List Obj:=[o88,o0,o89,o90,o91,o0,o1,o92]
def c363:List Obj:=[o0,o93,o94,o95,o0,o1,o96,o0]
def c364:List Obj:=[o97,o98,o99,o0,o1,o100,o0,o101]
def c365:List Obj:=[o102,o103,o0,o1,o104,o0,o105,o106]
def c366:List Obj:=[o107,o0,o1,o108,o0,o109,o110,o111]
def c367:List Obj:=[o0,o1,o112,o0,o113,o114,o115,o0]
def c368:List Obj:=[o1,o116,o0,o117,o118,o119,o0,o1]
def c369:List Obj:=[o120,o0,o121,o122,o123,o0,o1,o124]
def c370:List Obj:=[o0,o125,o126,o127,o0,o1,o128,o0]
def c371:List Obj:=[o129,o130,o131,o0,o1,o132,o0,o133]
def c372:List Obj:=[o134,o135,o0,o1,o136,o0,o137,o138]
def c373:List Obj:=[o139,o0,o1,o140,o141,o142,o0,o1]
def c374:List Obj:=[o143,o0,o144,o145,o146,o0,o1,o147]
def c375:List Obj:=[o0,o148,o149,o150,o0,o1,o151,o0]
def c376:List Obj:=[o152,o153,o154,o0,o1,o155,o156,o157]
def c377:List Obj:=[o0,o1,o158,o159,o160,o0,o1,o192]
def c378:List Obj:=[o0,o193,o194,o195,o0,o1,o196,o0]
def c379:List Obj:=[o197,o198,o199,o0,o1,o200,o0,o201]
def c380:List Obj:=[o202,o203,o0,o1,o204,o0,o205,o206]
def c381:List Obj:=[o207,o0,o1,o208,o209,o210,o0,o14]
def c382(P:Params):List Obj:=[o213 P,o0,o215,o216,o217,o0,o1,o218]
def c383:List Obj:=[o0,o219,o220,o221,o0,o1,o222,o0]
def c384:List Obj:=[o223,o224,o225,o0,o1,o226,o0,o227]
def c385:List Obj:=[o228,o229,o0,o1,o230,o0,o231,o232]
def c386:List Obj:=[o233,o0,o1,o234,o0,o235,o236,o237]
def c387:List Obj:=[o0,o1,o238,o0,o239,o240,o241,o242]
def c388(P:Params):List Obj:=[o245 P,o246,o247,o248,o249,o250,o0,o1]
def c389:List Obj:=[o251,o0,o252,o253,o254,o0,o1,o255]
def c390:List Obj:=[o0,o256,o257,o258,o0,o1,o259,o260]
def c391:List Obj:=[o261,o0,o1,o262,o0,o263,o264,o265]
def c392:List Obj:=[o0,o1,o266,o267,o268,o0,o1,o269]
def c393:List Obj:=[o0,o270,o271,o272,o0,o1,o273,o0]
def c394:List Obj:=[o274,o275,o276,o0,o1,o277,o0,o278]
def c395:List Obj:=[o279,o280,o0,o1,o281,o282,o283,o0]
def c396:List Obj:=[o1,o284,o0,o285,o286,o287,o0,o1]
def c397:List Obj:=[o288,o0,o289,o290,o291,o0,o1,o292]
def c398:List Obj:=[o293,o294,o0,o1,o322,o0,o323,o324]
def c399:List Obj:=[o325,o0,o1,o326,o0,o327,o328,o329]
def c400:List Obj:=[o0,o1,o330,o331,o332,o0,o1,o333]
def c401:List Obj:=[o0,o334,o335,o336,o0,o1,o337,o0]
def c402:List Obj:=[o338,o339,o340,o0,o1,o341,o342,o343]
noncomputable def o403:Obj:=⟨.none,none,(.dict (List.toArray []) 0),#[]⟩
def hA(P:Params):Heap:=⟨⟨(List.append (c4 P) (c5 P))⟩,{}⟩
def t0(P:Params):BT:=putAll .nil (List.append (c6 P) (c7 P))
def t1(P:Params):BT:=putAll (t0 P) (List.append (c45 P) (List.append (c46 P) (List.append (c47 P) (List.append (c48 P) (List.append (c49 P) (List.append (c50 P) (c51)))))))
def t2(P:Params):BT:=putAll (t1 P) (List.append (c161 P) (List.append (c162) (List.append (c163 P) (List.append (c164) (List.append (c165) (List.append (c166) (List.append (c167) (List.append (c168) (List.append (c169) (List.append (c170) (List.append (c171) (List.append (c172) (List.append (c173) (List.append (c174) (List.append (c175) (List.append (c176) (List.append (c177) (List.append (c178) (List.append (c179) (List.append (c180) (c181)))))))))))))))))))))
def t3(P:Params):BT:=putAll (t2 P) (List.append (c295 P) (List.append (c296) (List.append (c297) (List.append (c298) (List.append (c299 P) (List.append (c300) (List.append (c301) (List.append (c302) (List.append (c303) (List.append (c304) (List.append (c305 P) (List.append (c306) (List.append (c307) (List.append (c308) (List.append (c309) (List.append (c310) (List.append (c311) (List.append (c312) (List.append (c313) (List.append (c314) (c315)))))))))))))))))))))
def t4(P:Params):BT:=putAll (t3 P) (List.append (c344 P) (List.append (c345) (List.append (c346) (List.append (c347) (c348)))))
def sts0:List Stmt:=[top 0,top 1,top 2,top 3,top 4]
def sts1:List Stmt:=[top 5,top 6,top 7,top 8,top 9,top 10,top 11,top 12,top 13,top 14,top 15,top 16,top 17,top 18,top 19,top 20,top 21,top 22,top 23,top 24,top 25,top 26,top 27,top 28,top 29,top 30,top 31,top 32,top 33,top 34]
def sts2:List Stmt:=[top 35,top 36,top 37,top 38,top 39,top 40,top 41,top 42,top 43,top 44,top 45,top 46,top 47,top 48,top 49,top 50,top 51,top 52,top 53,top 54,top 55,top 56,top 57,top 58]
def sts3:List Stmt:=[top 59,top 60,top 61,top 62,top 63,top 64]
def hF(P:Params):Heap:=⟨⟨(List.append (c349 P) (List.append (c350 P) (List.append (c351 P) (List.append (c352 P) (List.append (c353 P) (List.append (c354 P) (List.append (c355 P) (List.append (c356 P) (List.append (c357 P) (List.append (c358 P) (List.append (c359) (List.append (c360) (List.append (c361) (List.append (c362) (List.append (c363) (List.append (c364) (List.append (c365) (List.append (c366) (List.append (c367) (List.append (c368) (List.append (c369) (List.append (c370) (List.append (c371) (List.append (c372) (List.append (c373) (List.append (c374) (List.append (c375) (List.append (c376) (List.append (c377) (List.append (c378) (List.append (c379) (List.append (c380) (List.append (c381) (List.append (c382 P) (List.append (c383) (List.append (c384) (List.append (c385) (List.append (c386) (List.append (c387) (List.append (c388 P) (List.append (c389) (List.append (c390) (List.append (c391) (List.append (c392) (List.append (c393) (List.append (c394) (List.append (c395) (List.append (c396) (List.append (c397) (List.append (c398) (List.append (c399) (List.append (c400) (List.append (c401) (c402))))))))))))))))))))))))))))))))))))))))))))))))))))))⟩,{}⟩
def K(P:Params):Frag:=((nat_lit 2,o403)::(nat_lit 3,o318 P)::(nat_lit 15,o13)::(nat_lit 22,o0)::(nat_lit 23,o18 P)::(nat_lit 24,o63)::(nat_lit 25,o20)::(nat_lit 28,o23)::(nat_lit 35,o0)::(nat_lit 36,o27 P)::(nat_lit 37,o28)::(nat_lit 40,o23)::(nat_lit 47,o0)::(nat_lit 48,o34 P)::(nat_lit 49,o35)::(nat_lit 52,o23)::(nat_lit 59,o0)::(nat_lit 60,o41 P)::(nat_lit 61,o42)::(nat_lit 64,o23)::(nat_lit 71,o0)::(nat_lit 73,o68)::(nat_lit 74,o0)::(nat_lit 76,o70)::(nat_lit 77,o71)::(nat_lit 78,o72)::(nat_lit 79,o73 P)::(nat_lit 80,o74)::(nat_lit 83,o0)::(nat_lit 85,o77)::(nat_lit 86,o0)::(nat_lit 88,o79)::(nat_lit 89,o80)::(nat_lit 90,o0)::(nat_lit 92,o81)::(nat_lit 93,o0)::(nat_lit 95,o83)::(nat_lit 96,o84)::(nat_lit 97,o0)::(nat_lit 100,o86)::(nat_lit 101,o87)::(nat_lit 102,o0)::(nat_lit 104,o88)::(nat_lit 105,o0)::(nat_lit 107,o90)::(nat_lit 108,o91)::(nat_lit 109,o0)::(nat_lit 111,o92)::(nat_lit 112,o0)::(nat_lit 114,o94)::(nat_lit 115,o95)::(nat_lit 116,o0)::(nat_lit 118,o96)::(nat_lit 119,o0)::(nat_lit 121,o98)::(nat_lit 122,o99)::(nat_lit 123,o0)::(nat_lit 125,o100)::(nat_lit 126,o0)::(nat_lit 128,o102)::(nat_lit 129,o103)::(nat_lit 130,o0)::(nat_lit 132,o104)::(nat_lit 133,o0)::(nat_lit 135,o106)::(nat_lit 136,o107)::(nat_lit 137,o0)::(nat_lit 139,o108)::(nat_lit 140,o0)::(nat_lit 142,o110)::(nat_lit 143,o111)::(nat_lit 144,o0)::(nat_lit 146,o112)::(nat_lit 147,o0)::(nat_lit 149,o114)::(nat_lit 150,o115)::(nat_lit 151,o0)::(nat_lit 153,o116)::(nat_lit 154,o0)::(nat_lit 156,o118)::(nat_lit 157,o119)::(nat_lit 158,o0)::(nat_lit 160,o120)::(nat_lit 161,o0)::(nat_lit 163,o122)::(nat_lit 164,o123)::(nat_lit 165,o0)::(nat_lit 167,o124)::(nat_lit 168,o0)::(nat_lit 170,o126)::(nat_lit 171,o127)::(nat_lit 172,o0)::(nat_lit 174,o128)::(nat_lit 175,o0)::(nat_lit 177,o130)::(nat_lit 178,o131)::(nat_lit 179,o0)::(nat_lit 181,o132)::(nat_lit 182,o0)::(nat_lit 184,o134)::(nat_lit 185,o135)::(nat_lit 186,o0)::(nat_lit 188,o136)::(nat_lit 189,o0)::(nat_lit 191,o138)::(nat_lit 192,o139)::(nat_lit 193,o0)::(nat_lit 196,o141)::(nat_lit 197,o142)::(nat_lit 198,o0)::(nat_lit 200,o143)::(nat_lit 201,o0)::(nat_lit 203,o145)::(nat_lit 204,o146)::(nat_lit 205,o0)::(nat_lit 207,o147)::(nat_lit 208,o0)::(nat_lit 210,o149)::(nat_lit 211,o150)::(nat_lit 212,o0)::(nat_lit 214,o151)::(nat_lit 215,o0)::(nat_lit 217,o153)::(nat_lit 218,o154)::(nat_lit 219,o0)::(nat_lit 222,o156)::(nat_lit 223,o157)::(nat_lit 224,o0)::(nat_lit 227,o159)::(nat_lit 228,o160)::(nat_lit 229,o0)::(nat_lit 231,o192)::(nat_lit 232,o0)::(nat_lit 234,o194)::(nat_lit 235,o195)::(nat_lit 236,o0)::(nat_lit 238,o196)::(nat_lit 239,o0)::(nat_lit 241,o198)::(nat_lit 242,o199)::(nat_lit 243,o0)::(nat_lit 245,o200)::(nat_lit 246,o0)::(nat_lit 248,o202)::(nat_lit 249,o203)::(nat_lit 250,o0)::(nat_lit 252,o204)::(nat_lit 253,o0)::(nat_lit 255,o206)::(nat_lit 256,o207)::(nat_lit 257,o0)::(nat_lit 260,o209)::(nat_lit 261,o210)::(nat_lit 269,o0)::(nat_lit 271,o218)::(nat_lit 272,o0)::(nat_lit 274,o220)::(nat_lit 275,o221)::(nat_lit 276,o0)::(nat_lit 278,o222)::(nat_lit 279,o0)::(nat_lit 281,o224)::(nat_lit 282,o225)::(nat_lit 283,o0)::(nat_lit 285,o226)::(nat_lit 286,o0)::(nat_lit 288,o228)::(nat_lit 289,o229)::(nat_lit 290,o0)::(nat_lit 292,o230)::(nat_lit 293,o0)::(nat_lit 295,o232)::(nat_lit 296,o233)::(nat_lit 297,o0)::(nat_lit 299,o234)::(nat_lit 300,o0)::(nat_lit 302,o236)::(nat_lit 303,o237)::(nat_lit 304,o0)::(nat_lit 306,o238)::(nat_lit 307,o0)::(nat_lit 309,o240)::(nat_lit 310,o241)::(nat_lit 311,o242)::(nat_lit 312,o245 P)::(nat_lit 313,o246)::(nat_lit 314,o247)::(nat_lit 315,o248)::(nat_lit 318,o0)::(nat_lit 320,o251)::(nat_lit 321,o0)::(nat_lit 323,o253)::(nat_lit 324,o254)::(nat_lit 325,o0)::(nat_lit 327,o255)::(nat_lit 328,o0)::(nat_lit 330,o257)::(nat_lit 331,o258)::(nat_lit 332,o0)::(nat_lit 335,o260)::(nat_lit 336,o261)::(nat_lit 337,o0)::(nat_lit 339,o262)::(nat_lit 340,o0)::(nat_lit 342,o264)::(nat_lit 343,o265)::(nat_lit 344,o0)::(nat_lit 347,o267)::(nat_lit 348,o268)::(nat_lit 349,o0)::(nat_lit 351,o269)::(nat_lit 352,o0)::(nat_lit 354,o271)::(nat_lit 355,o272)::(nat_lit 356,o0)::(nat_lit 358,o273)::(nat_lit 359,o0)::(nat_lit 361,o275)::(nat_lit 362,o276)::(nat_lit 363,o0)::(nat_lit 365,o277)::(nat_lit 366,o0)::(nat_lit 368,o279)::(nat_lit 369,o280)::(nat_lit 370,o0)::(nat_lit 373,o282)::(nat_lit 374,o283)::(nat_lit 375,o0)::(nat_lit 377,o284)::(nat_lit 378,o0)::(nat_lit 380,o286)::(nat_lit 381,o287)::(nat_lit 382,o0)::(nat_lit 384,o288)::(nat_lit 385,o0)::(nat_lit 387,o290)::(nat_lit 388,o291)::(nat_lit 389,o0)::(nat_lit 392,o293)::(nat_lit 393,o294)::(nat_lit 394,o0)::(nat_lit 396,o322)::(nat_lit 397,o0)::(nat_lit 399,o324)::(nat_lit 400,o325)::(nat_lit 401,o0)::(nat_lit 403,o326)::(nat_lit 404,o0)::(nat_lit 406,o328)::(nat_lit 407,o329)::(nat_lit 408,o0)::(nat_lit 411,o331)::(nat_lit 412,o332)::(nat_lit 413,o0)::(nat_lit 415,o333)::(nat_lit 416,o0)::(nat_lit 418,o335)::(nat_lit 419,o336)::(nat_lit 420,o0)::(nat_lit 422,o337)::(nat_lit 423,o0)::(nat_lit 425,o339)::(nat_lit 426,o340)::(nat_lit 427,o0)::(nat_lit 430,o342)::(nat_lit 431,o343)::[])
noncomputable def kA:List Addr:=(2::3::15::22::23::24::25::28::35::36::37::40::47::48::49::52::59::60::61::64::71::73::74::76::77::78::79::80::83::85::86::88::89::90::92::93::95::96::97::100::101::102::104::105::107::108::109::111::112::114::115::116::118::119::121::122::123::125::126::128::129::130::132::133::135::136::137::139::140::142::143::144::146::147::149::150::151::153::154::156::157::158::160::161::163::164::165::167::168::170::171::172::174::175::177::178::179::181::182::184::185::186::188::189::191::192::193::196::197::198::200::201::203::204::205::207::208::210::211::212::214::215::217::218::219::222::223::224::227::228::229::231::232::234::235::236::238::239::241::242::243::245::246::248::249::250::252::253::255::256::257::260::261::269::271::272::274::275::276::278::279::281::282::283::285::286::288::289::290::292::293::295::296::297::299::300::302::303::304::306::307::309::310::311::312::313::314::315::318::320::321::323::324::325::327::328::330::331::332::335::336::337::339::340::342::343::344::347::348::349::351::352::354::355::356::358::359::361::362::363::365::366::368::369::370::373::374::375::377::378::380::381::382::384::385::387::388::389::392::393::394::396::397::399::400::401::403::404::406::407::408::411::412::413::415::416::418::419::420::422::423::425::426::427::430::431::[])
theorem kOk:∀P,kA=(K P).map (·.1):=fun _=>by kernel_rfl
def q:Program:={ pw with main:={ pw.main with body:=(top 1::top 2::top 3::top 4::top 5::top 7::top 8::top 9::top 10::top 11::top 12::top 13::top 14::top 15::top 16::top 17::top 18::top 19::top 20::top 21::top 23::top 24::top 25::top 26::top 27::top 29::top 30::top 32::top 33::top 34::top 35::top 36::top 37::top 38::top 39::top 40::top 41::top 42::top 43::top 44::top 45::top 47::top 48::top 49::top 50::top 51::top 52::top 53::top 54::top 55::top 56::top 57::top 58::top 59::top 60::top 61::top 62::top 63::top 64::[]) } }
noncomputable abbrev Xt:Shared->Bool:=fun s=>xlAt q [] s&&recOk (RowW.records (OpenRow.toRowW (OpenLaw.row PySem.Challenge.rw_moonseat_k15_tables_judged))) s
noncomputable def G2(p:Program)(w:World)(m:Nat)(an:Option Value)(n:Nat)(s:Shared)(t:Thread):=segRun treeTable p w m an 1 n s t
lay_quick G2
theorem g2{p:Program}{w:World}{m:Nat}{an:Option Value}{n:Nat}{s:Shared}{t:Thread}{r}(e:PySem.W.Fast.tw10880070632800087129 p w m an n s t=r):segRun treeTable p w m an 1 n s t=r:=by rw[<-PySem.W.Fast.te10880070632800087129]at e;exact e
noncomputable def G3(p:Program)(w:World)(m:Nat)(an:Option Value)(n:Nat)(s:SharedT)(t:Thread):=segRunT treeTable p w m an 1 n s t
lay_quick G3
theorem g3{p:Program}{w:World}{m:Nat}{an:Option Value}{n:Nat}{s:SharedT}{t:Thread}{r}(e:PySem.W.Fast.tw4145583888436359099 p w m an n s t=r):segRunT treeTable p w m an 1 n s t=r:=by rw[<-PySem.W.Fast.te4145583888436359099]at e;exact e
noncomputable def G4(p:Program)(w:World)(m:Nat)(an:Option Value)(n:Nat)(s:Shared)(t:Thread):=topRun treeTable p w m an n s t
lay_quick G4
theorem g4{p:Program}{w:World}{m:Nat}{an:Option Value}{n:Nat}{s:Shared}{t:Thread}{r}(e:PySem.W.Fast.tw6531939937263253831 p w m an n s t=r):topRun treeTable p w m an n s t=r:=by rw[<-PySem.W.Fast.te6531939937263253831]at e;exact e
noncomputable def G7(p:Program)(g h:Heap)(s:Shared):=(staticsOk (importedModules p.main.body) g h&&namesBound p h&&gensDone s&&laidKept g h)
lay_quick G7
theorem g7{p:Program}{g h:Heap}{s:Shared}{r}(e:PySem.W.Fast.tw9566738594451217396 p g h s=r):(staticsOk (importedModules p.main.body) g h&&namesBound p h&&gensDone s&&laidKept g h)=r:=by rw[<-PySem.W.Fast.te9566738594451217396]at e;exact e
noncomputable def G9(h:Heap):=(h.isNs mainGlobals&&(Array.mk []:Array GenState).size==0,h.objs.size,h.nsMap mainGlobals "__annotations__")
lay_quick G9
theorem g9{h:Heap}{r}(e:PySem.W.Fast.tw14578262778655688011 h=r):(h.isNs mainGlobals&&(Array.mk []:Array GenState).size==0,h.objs.size,h.nsMap mainGlobals "__annotations__")=r:=by rw[<-PySem.W.Fast.te14578262778655688011]at e;exact e
noncomputable def G5(q:Program)(R:WRecords)(md:List Str)(s:Shared):=(openSeen q [] md (fun s=>xlAt q [] s&&recOk R s) true s)
noncomputable def G6(q:Program):=openGood q []
lay_quick G5 G6
theorem g5{q:Program}{R:WRecords}{md:List Str}{s:Shared}{α:Type}(f:_->α)(e:f (PySem.W.Fast.tw5989712690265804088 q R md s)=f (PySem.W.Fast.tw12956129408465502666 q)):f (openSeen q [] md (fun s=>xlAt q [] s&&recOk R s) true s)=f (openGood q []):=by rw[<-PySem.W.Fast.te5989712690265804088,<-PySem.W.Fast.te12956129408465502666]at e;exact e
noncomputable def Lpre(w:World)(os:OsState):=topGo treeTable pw w 11 (some (.ref 6)) 12 (⟨boot_heap w.params,Array.mk [],boot_drawn,boot_toks,os⟩:Shared) (topStub pw)
def Rpre(w:World)(os:OsState):=some ((⟨hA w.params,Array.mk [],{},187,os⟩:Shared),(⟨denote treeTable cE,cE,(⟨0,0,0,0⟩:Pos),[topFrame (⟨0,0,0,0⟩:Pos)]⟩:Thread))
lay_quick Lpre Rpre
theorem Qpre:Lpre=Rpre:=PySem.W.Fast.te10476676399240795362.trans ((by kernel_rfl:PySem.W.Fast.tw10476676399240795362=PySem.W.Fast.tw9996742816549557572).trans PySem.W.Fast.te9996742816549557572.symm)
theorem Ppre(w:World)(os:OsState):topGo treeTable pw w 11 (some (.ref 6)) 12 (⟨boot_heap w.params,Array.mk [],boot_drawn,boot_toks,os⟩:Shared) (topStub pw)=some ((⟨hA w.params,Array.mk [],{},187,os⟩:Shared),(⟨denote treeTable cE,cE,(⟨0,0,0,0⟩:Pos),[topFrame (⟨0,0,0,0⟩:Pos)]⟩:Thread)):=congrFun (congrFun Qpre w) os
theorem Pblk(w:World)(os:OsState):segRun treeTable pw w 11 (some (.ref 6)) 1 1 (⟨hA w.params,Array.mk [],{},187,os⟩:Shared) (blockOf bd env cE (⟨0,0,0,0⟩:Pos) [topFrame (⟨0,0,0,0⟩:Pos)])=some (Flow.next,SharedT.abs (⟨t0 w.params,15,{},Array.mk [],{},187,os⟩:SharedT),cE,(⟨0,0,0,0⟩:Pos)):=g2 (by kernel_rfl)
theorem P0(w:World)(os:OsState):segRunT treeTable pw w 11 (some (.ref 6)) 1 835 (⟨t0 w.params,15,{},Array.mk [],{},187,os⟩:SharedT) (piecesOf sts0 env cE (⟨0,0,0,0⟩:Pos) [topFrame (⟨0,0,0,0⟩:Pos)])=some (Flow.next,(⟨t1 w.params,64,{},Array.mk [],{},255,os⟩:SharedT),cE,(⟨8,0,9,8⟩:Pos)):=g3 (by kernel_rfl)
theorem P1(w:World)(os:OsState):segRunT treeTable pw w 11 (some (.ref 6)) 1 996 (⟨t1 w.params,64,{},Array.mk [],{},255,os⟩:SharedT) (piecesOf sts1 env cE (⟨8,0,9,8⟩:Pos) [topFrame (⟨0,0,0,0⟩:Pos)])=some (Flow.next,(⟨t2 w.params,229,{},Array.mk [],{},505,os⟩:SharedT),cE,(⟨142,0,142,10⟩:Pos)):=g3 (by kernel_rfl)
theorem P2(w:World)(os:OsState):segRunT treeTable pw w 11 (some (.ref 6)) 1 992 (⟨t2 w.params,229,{},Array.mk [],{},505,os⟩:SharedT) (piecesOf sts2 env cE (⟨142,0,142,10⟩:Pos) [topFrame (⟨0,0,0,0⟩:Pos)])=some (Flow.next,(⟨t3 w.params,394,{},Array.mk [],{},777,os⟩:SharedT),cE,(⟨313,0,323,79⟩:Pos)):=g3 (by kernel_rfl)
theorem P3(w:World)(os:OsState):segRunT treeTable pw w 11 (some (.ref 6)) 1 191 (⟨t3 w.params,394,{},Array.mk [],{},777,os⟩:SharedT) (piecesOf sts3 env cE (⟨313,0,323,79⟩:Pos) [topFrame (⟨0,0,0,0⟩:Pos)])=some (Flow.next,(⟨t4 w.params,432,{},Array.mk [],{},839,os⟩:SharedT),cE,(⟨372,0,390,57⟩:Pos)):=g3 (by kernel_rfl)
theorem Pfin(w:World)(os:OsState):topRun treeTable pw w 11 (some (.ref 6)) 2 (SharedT.abs (⟨t4 w.params,432,{},Array.mk [],{},839,os⟩:SharedT)) (⟨doneF .next,cE,(⟨372,0,390,57⟩:Pos),[topFrame (⟨0,0,0,0⟩:Pos)]⟩:Thread)=some (⟨hF w.params,Array.mk [],{},839,os⟩:Shared):=g4 (by kernel_rfl)
theorem Pc0(w:World)(os:OsState):(openSeen q [] (importedModules pw.main.body) Xt true (⟨hF w.params,Array.mk [],{},839,os⟩:Shared)).1=(openGood q []).1:=g5 (·.1) (by kernel_rfl)
theorem Pc1(w:World)(os:OsState):(openSeen q [] (importedModules pw.main.body) Xt true (⟨hF w.params,Array.mk [],{},839,os⟩:Shared)).2.1=(openGood q []).2.1:=g5 (·.2.1) (by kernel_rfl)
theorem Pc2(w:World)(os:OsState):(openSeen q [] (importedModules pw.main.body) Xt true (⟨hF w.params,Array.mk [],{},839,os⟩:Shared)).2.2.1=(openGood q []).2.2.1:=g5 (·.2.2.1) (by kernel_rfl)
theorem Pc3(w:World)(os:OsState):(openSeen q [] (importedModules pw.main.body) Xt true (⟨hF w.params,Array.mk [],{},839,os⟩:Shared)).2.2.2.1=(openGood q []).2.2.2.1:=g5 (·.2.2.2.1) (by kernel_rfl)
theorem Pc4(w:World)(os:OsState):(openSeen q [] (importedModules pw.main.body) Xt true (⟨hF w.params,Array.mk [],{},839,os⟩:Shared)).2.2.2.2.1=(openGood q []).2.2.2.2.1:=g5 (·.2.2.2.2.1) (by kernel_rfl)
theorem Pc5(w:World)(os:OsState):(openSeen q [] (importedModules pw.main.body) Xt true (⟨hF w.params,Array.mk [],{},839,os⟩:Shared)).2.2.2.2.2.1=(openGood q []).2.2.2.2.2.1:=g5 (·.2.2.2.2.2.1) (by kernel_rfl)
theorem Pc6(w:World)(os:OsState):(openSeen q [] (importedModules pw.main.body) Xt true (⟨hF w.params,Array.mk [],{},839,os⟩:Shared)).2.2.2.2.2.2.1=(openGood q []).2.2.2.2.2.2.1:=g5 (·.2.2.2.2.2.2.1) (by kernel_rfl)
theorem Pc7(w:World)(os:OsState):(openSeen q [] (importedModules pw.main.body) Xt true (⟨hF w.params,Array.mk [],{},839,os⟩:Shared)).2.2.2.2.2.2.2.1=(openGood q []).2.2.2.2.2.2.2.1:=g5 (·.2.2.2.2.2.2.2.1) (by kernel_rfl)
theorem Pc8(w:World)(os:OsState):(openSeen q [] (importedModules pw.main.body) Xt true (⟨hF w.params,Array.mk [],{},839,os⟩:Shared)).2.2.2.2.2.2.2.2=(openGood q []).2.2.2.2.2.2.2.2:=g5 (·.2.2.2.2.2.2.2.2) (by kernel_rfl)
theorem Pa(w:World)(os:OsState):(staticsOk (importedModules pw.main.body) (boot_heap w.params) (hF w.params)&&namesBound pw (hF w.params)&&gensDone (⟨hF w.params,Array.mk [],{},839,os⟩:Shared)&&laidKept (boot_heap w.params) (hF w.params))=true:=g7 (by kernel_rfl)
theorem Py(w:World)(os:OsState):kA.map ((⟨hF w.params,Array.mk [],{},839,os⟩:Shared)).heap.get?=(K w.params).map fun p=>some p.2:=by kernel_rfl
theorem Pz(w:World):((boot_heap w.params).isNs mainGlobals&&(Array.mk []:Array GenState).size==0,(boot_heap w.params).objs.size,(boot_heap w.params).nsMap mainGlobals "__annotations__")=(true,11,(some (.ref 6))):=g9 (by kernel_rfl)
theorem run(w:World)(os:OsState):topRun treeTable pw w 11 (some (.ref 6)) (12+(1+(835+(996+(992+(191+2)))))) (⟨boot_heap w.params,Array.mk [],boot_drawn,boot_toks,os⟩:Shared) (topStub pw)=some (⟨hF w.params,Array.mk [],{},839,os⟩:Shared):=
 go_top (Ppre w os) (piece_block (Pblk w os) (piece_app (l:=sts0) (segRun_of (P0 w os)) (piece_app (l:=sts1) (segRun_of (P1 w os)) (piece_app (l:=sts2) (segRun_of (P2 w os)) (piece_app (l:=sts3) (segRun_of (P3 w os)) (piece_nil (Pfin w os)))))))
theorem opn:opening pw=plainProg pw.main.scope.names:=by kernel_rfl
theorem fen(s:Shared):fenceModules? pw s=some s:=by kernel_rfl
theorem left:LeftO pw q [] Xt (Hook.obs (kHook K kA kOk)) (Hook.val (kHook K kA kOk)) 6146:=
 LeftO.of_pieces (H₀:=boot_heap) (H₁:=hF) (boot_open opn (by decide) fen) Pz run (by decide) fun w=>funext fun os=>Prod.ext (Pa w os) (Prod.ext (Prod.ext (Pc0 w os) (Prod.ext (Pc1 w os) (Prod.ext (Pc2 w os) (Prod.ext (Pc3 w os) (Prod.ext (Pc4 w os) (Prod.ext (Pc5 w os) (Prod.ext (Pc6 w os) (Prod.ext (Pc7 w os) (Pc8 w os))))))))) (Py w os))
end
end Hd
namespace M
open PySem L2 DS CP
def Go(K:W.Frag):Sp:=fun vs H Q _=>∃(a:Addr) (ns:List Int),vs=[.ref a]/\jC K H a (ns.map V.int)/\ns.length<=63/\∀H',Q (.bl true) H'
theorem BG{K:W.Frag}{C:Addr}(vs:List V)(H:Hp)(Q:VK)(E:XK)(h:Go K vs H Q E):ky K [false] (Kr C) vs H Q E:=by
 obtain⟨a,ns,rfl,hS,hl,q⟩:=h;have e:j6 H []=H:=by funext b;rfl
 exact⟨[],[.scr ns],.bl true,(fun a h=>by cases h),⟨.inl (by rw[e];show DS.j7 K H (.scr ns) _;rw[DS.j7];exact⟨a,rfl,hS⟩),trivial⟩,aX C ns hl,fun v H' _ r=>by rw[DS.j7]at r;rw[r];exact q H'⟩
theorem Eh{l:W.OpenLaw}{w:World}{K:W.Frag}{h:Heap}{mg:Str->Option Value}{fa C:Addr}(X:K.In h)(G:h.Ns mainGlobals mg)(hfa:mg "law" = some (.ref fa))
 (aC:W.nsIn K mainGlobals "Rules" = some (some (.ref C)))
 (pg:W.plainGet K C Str.empty=true)
 (hd:W.hasDictIn K C=true)
 (po:W.plainOver K C=true)
 (sa:W.findIn K (.ref C) "__setattr__" = some (some (.builtin "object.__setattr__")))
 (mk:W.makesIn K C=true)
 (kc:W.keepIn K (.ref C)=true)
 (h__law_numbers:At K "_law_numbers" "_law_numbers" (top 47))
 (h__law_windows:At K "_law_windows" "_law_windows" (top 48))
 (h__law_book:At K "_law_book" "_law_book" (top 49))
 (h_fits_counts:At K "fits_counts" "fits_counts" (top 43))
 (h_fits_kind:At K "fits_kind" "fits_kind" (top 40))
 (h_fits_shun:At K "fits_shun" "fits_shun" (top 41))
 (h_fits_span:At K "fits_span" "fits_span" (top 42))
 (h_fits_rows:At K "fits_rows" "fits_rows" (top 44))
 (h_Rules___init__:xK K C "__init__" "Rules.__init__" (inClass (top 45) 0))
 (h__law_made:At K "_law_made" "_law_made" (top 50))
 (h__law_start:At K "_law_start" "_law_start" (top 51))
 (h__law_turned_away:At K "_law_turned_away" "_law_turned_away" (top 52))
 (h__law_met:At K "_law_met" "_law_met" (top 53))
 (h__law_step:At K "_law_step" "_law_step" (top 54))
 (h__law_walk:At K "_law_walk" "_law_walk" (top 55))
 (h__law_levels:At K "_law_levels" "_law_levels" (top 56))
 (h__law_stand:At K "_law_stand" "_law_stand" (top 57))
 (h__law_form:At K "_law_form" "_law_form" (top 61))
 (h__law_changed:At K "_law_changed" "_law_changed" (top 62))
 (h__law_spoilt:At K "_law_spoilt" "_law_spoilt" (top 63))
 (h__law_is_stand:At K "_law_is_stand" "_law_is_stand" (top 58))
 (h__law_list_closed:At K "_law_list_closed" "_law_list_closed" (top 59))
 (h__law_closed:At K "_law_closed" "_law_closed" (top 60))
 (h_Rules_many:xK K C "many" "Rules.many" (inClass (top 45) 5))
 (h_is_kind:At K "is_kind" "is_kind" (top 23))
 (h_has_kinds_alone:At K "has_kinds_alone" "has_kinds_alone" (top 24))
 (h_check_row:At K "check_row" "check_row" (top 25))
 (h_empty_stand:At K "empty_stand" "empty_stand" (top 7))
 (h_is_barred:At K "is_barred" "is_barred" (top 12))
 (h_is_long:At K "is_long" "is_long" (top 13))
 (h_is_short:At K "is_short" "is_short" (top 14))
 (h_is_early:At K "is_early" "is_early" (top 15))
 (h_is_shunned:At K "is_shunned" "is_shunned" (top 16))
 (h_met_with:At K "met_with" "met_with" (top 10))
 (h_misses_due:At K "misses_due" "misses_due" (top 17))
 (h_run_with:At K "run_with" "run_with" (top 8))
 (h_is_cut:At K "is_cut" "is_cut" (top 18))
 (h_breach:At K "breach" "breach" (top 19))
 (h_waits_with:At K "waits_with" "waits_with" (top 9))
 (h_stand_with:At K "stand_with" "stand_with" (top 11))
 (h_walked:At K "walked" "walked" (top 26))
 (h_stand_of:At K "stand_of" "stand_of" (top 27))
 (h_stepped:At K "stepped" "stepped" (top 20))
 (h_steps_from:At K "steps_from" "steps_from" (top 21))
 (h_is_closed:At K "is_closed" "is_closed" (top 29))
 (h_table_holds:At K "table_holds" "table_holds" (top 30))
 (h_law:At K "law" "law" (top 64))
 (hF:∀f∈(T0 C).fl,Y4 K C f)
 (hG:∀p∈(T0 C).gs,G0 K p.1 p.2):
  ∃fd:FuncData,(∀(s:Shared) (v:Value),BindsTo s fd ⟨[v],[]⟩ [("_law_script",v)])/\∀base:Heap,K.In base->base.Ns mainGlobals mg->FnOk l.prog w K mg base Y5 93 fa fd ["_law_script"] (Go K):=by
 have XG:∀x v,W.nsIn K mainGlobals x=some (some v)->mg x=some v:=fun x v a=>W.mg_of X G a;obtain⟨f_law,Kr,a_law,F_law⟩:=h_law;have e:=hfa.symm.trans (XG _ _ a_law);cases e;obtain⟨_,_,kV,dc,pm,an,cd,ct,_,rfl,_,_⟩:=F_law.ex;refine⟨W.fnOf "law" "law" (defArgs (top 64)) (defBody (top 64)) (defScope (top 64)) .none kV dc pm an cd ct,fun s v=>.of_eq rfl,fun base _ _=>?_⟩;have h:TOk l.prog w K mg base 0 (T0 C):=⟨fun p hp=>Fh XG (fun x a=>W.mg_none_of X G a) (hG p hp),(fun _ h=>by cases h),⟨pg,hd,po,sa⟩,hF⟩
 have h:TOk l.prog w K mg base 2 (T1 C):=TOk.F XG h h__law_numbers (k6 C);have h:TOk l.prog w K mg base 4 (T2 C):=TOk.F XG h h__law_windows (k8 C);have h:TOk l.prog w K mg base 6 (T3 C):=TOk.E XG h h__law_book (Wx C);have h:TOk l.prog w K mg base 8 (T4 C):=TOk.E XG h h_fits_counts (K6 C);have h:TOk l.prog w K mg base 10 (T5 C):=TOk.E XG h h_fits_kind (Wy C);have h:TOk l.prog w K mg base 12 (T6 C):=TOk.E XG h h_fits_shun (Wz C);have h:TOk l.prog w K mg base 14 (T7 C):=TOk.E XG h h_fits_span (WA C);have h:TOk l.prog w K mg base 16 (T8 C):=TOk.E XG h h_fits_rows (WB C);have h:TOk l.prog w K mg base 18 (T9 C):=TOk.I XG (d:=yI C) h h_Rules___init__ rfl (gh C) rfl (gi C) mk kc aC (Ub C);have h:TOk l.prog w K mg base 20 (eF C):=TOk.F XG h h__law_made (WC C);have h:TOk l.prog w K mg base 22 (eG C):=TOk.E XG h h__law_start (Wi C);have h:TOk l.prog w K mg base 24 (eH C):=TOk.E XG h h__law_turned_away (uP C);have h:TOk l.prog w K mg base 26 (eI C):=TOk.E XG h h__law_met (Qo C);have h:TOk l.prog w K mg base 28 (eJ C):=TOk.E XG h h__law_step (WD C);have h:TOk l.prog w K mg base 30 (eK C):=TOk.F XG h h__law_walk (WE C);have h:TOk l.prog w K mg base 32 (eN C):=TOk.E XG h h__law_levels (K7 C);have h:TOk l.prog w K mg base 34 (eO C):=TOk.E XG h h__law_stand (Wj C);have h:TOk l.prog w K mg base 36 (eP C):=TOk.E XG h h__law_form (WF C);have h:TOk l.prog w K mg base 38 (eQ C):=TOk.E XG h h__law_changed (k9 C);have h:TOk l.prog w K mg base 40 (eR C):=TOk.L XG h h__law_spoilt (K8 C) rfl (K9 C);have h:TOk l.prog w K mg base 42 (eS C):=TOk.E XG h h__law_is_stand (Gg C);have h:TOk l.prog w K mg base 44 (eT C):=TOk.E XG h h__law_list_closed (uR C);have h:TOk l.prog w K mg base 46 (eU C):=TOk.E XG h h__law_closed (Ka C);have h:TOk l.prog w K mg base 48 (eV C):=TOk.mE (d:=ZW C) h h_Rules_many (Wk C) rfl;have h:TOk l.prog w K mg base 50 (eW C):=TOk.E XG h h_is_kind (Xg C);have h:TOk l.prog w K mg base 52 (eX C):=TOk.E XG h h_has_kinds_alone (Uc C);have h:TOk l.prog w K mg base 54 (eY C):=TOk.E XG h h_check_row (WG C);have h:TOk l.prog w K mg base 56 (eZ C):=TOk.E XG h h_empty_stand (Kb C);have h:TOk l.prog w K mg base 58 (e_ C):=TOk.E XG h h_is_barred (WH C);have h:TOk l.prog w K mg base 60 (E1 C):=TOk.E XG h h_is_long (Xh C);have h:TOk l.prog w K mg base 62 (E2 C):=TOk.E XG h h_is_short (Qp C);have h:TOk l.prog w K mg base 64 (E3 C):=TOk.E XG h h_is_early (Qq C);have h:TOk l.prog w K mg base 66 (E4 C):=TOk.E XG h h_is_shunned (Wl C);have h:TOk l.prog w K mg base 68 (E5 C):=TOk.E XG h h_met_with (Qr C)
 have h:TOk l.prog w K mg base 70 (E6 C):=TOk.E XG h h_misses_due (Wm C);have h:TOk l.prog w K mg base 72 (E7 C):=TOk.E XG h h_run_with (Qs C)
 have h:TOk l.prog w K mg base 74 (E8 C):=TOk.E XG h h_is_cut (aY C);have h:TOk l.prog w K mg base 76 (E9 C):=TOk.E XG h h_breach (aZ C);have h:TOk l.prog w K mg base 78 (Ea C):=TOk.E XG h h_waits_with (Wp C)
 have h:TOk l.prog w K mg base 80 (Eb C):=TOk.E XG h h_stand_with (Wq C)
 have h:TOk l.prog w K mg base 82 (Ec C):=TOk.E XG h h_walked (a_ C);have h:TOk l.prog w K mg base 84 (Ed C):=TOk.E XG h h_stand_of (Qt C);have h:TOk l.prog w K mg base 86 (Ee C):=TOk.E XG h h_stepped (Xi C);have h:TOk l.prog w K mg base 88 (Ef C):=TOk.F XG h h_steps_from (Ws C)
 have h:TOk l.prog w K mg base 90 (Eg C):=TOk.E XG h h_is_closed (WI C);have h:TOk l.prog w K mg base 92 (hU C):=TOk.E XG h h_table_holds (Kc C);exact(DU (d:=bg C) h F_law (Fs C) rfl).imp BG
theorem walk{l:W.OpenLaw}{q:Program}{loose:List Str}{XP:(Str->Option Value)->Heap->Prop}{YP:World->Heap->Prop}{d:DefRec}{K:Params->W.Frag}(hn:l.most=some 63)(hdf:d.params.defaults=[])
  (hY:∀(w:World) (h:Heap),YP w h->(K w.params).In h)
  (F:∀(w:World) (mg:Str->Option Value) (fa:Addr) (h:Heap),(K w.params).In h->h.Ns mainGlobals mg->mg d.name=some (.ref fa)->
   ∃fd:FuncData,(∀(s:Shared) (u:Value),BindsTo s fd ⟨[u],[]⟩ [("_law_script",u)])/\∀base:Heap,(K w.params).In base->base.Ns mainGlobals mg->FnOk l.prog w (K w.params) mg base Y5 93 fa fd ["_law_script"] (Go (K w.params))):
  W.WalkO q loose XP YP l.row.toRowW d [] (fun f vs=>PySem.call f vs):=
 L2.bG (n:=63) (k:=93) (x := "_law_script") (CX:=fun _=>Y5) (sp:=fun w=>Go (K w.params)) hn (by decide) hdf ⟨rfl,by decide,by decide⟩ hY F (fun _ _ a ns hl _ hS=>⟨a,ns,rfl,hS,hl,fun _=>rfl⟩) fun _ _ _ _ _ z=>z
end M
open PySem PySem.W PyProof.Rows
set_option maxRecDepth 100000 in
set_option maxHeartbeats 0 in
theorem PySem.Challenge.cw_moonseat_k15_tables_judged_holds : PySem.Challenge.rw_moonseat_k15_tables_judged.Holds := by
 w_on;o_law
 refine holds_open (q:=Hd.q) (loose:=[]) (Xt:=Hd.Xt) (XP:=XL Hd.q []) (Yf:=Hook.obs (kHook Hd.K Hd.kA Hd.kOk)) (Ya:=Hook.val (kHook Hd.K Hd.kA Hd.kOk)) (YP:=Hook.says (kHook Hd.K Hd.kA Hd.kOk)) (N:=6146) Hd.left (Hook.of _) (Hook.keeps _) (fun s e=>xl_of s (Bool.and_eq_true_iff.mp e).1) XL.keeps (by rfl) (by rfl) (by rfl) (fun s e=>recFacts_of (Bool.and_eq_true_iff.mp e).2) (by rfl) (by assumption) (by decide +kernel) ⟨rfl,rfl,rfl,rfl,rfl,by decide +kernel⟩ ?hw ?hc
 case hw=>w_witness2
 k_fill
 refine M.walk (l:=PySem.Challenge.rw_moonseat_k15_tables_judged) rfl rfl (fun w h Y=>kIn_of Y) ?F
 case F=>
  intro w mg fa h KX G hmg;refine' M.Eh KX G hmg ?_ ?_ ?_ ?_ ?_ ?_ ?_ ?_ ?_ ?_ ?_ ?_ ?_ ?_ ?_ ?_ ?_ ?_ ?_ ?_ ?_ ?_ ?_ ?_ ?_ ?_ ?_ ?_ ?_ ?_ ?_ ?_ ?_ ?_ ?_ ?_ ?_ ?_ ?_ ?_ ?_ ?_ ?_ ?_ ?_ ?_ ?_ ?_ ?_ ?_ ?_ ?_ ?_ ?_ ?_ ?_
  rotate_left 1
  iterate 7 (next=>k_is)
  iterate 8 (next=>exact CP.Qh (by k_is) (L2.ud (by k_is) (by k_is) (by k_is)))
  iterate 1 (next=>exact CP.xL (by k_is) (by k_is) (L2.ud (by k_is) (by k_is) (by k_is)))
  iterate 14 (next=>exact CP.Qh (by k_is) (L2.ud (by k_is) (by k_is) (by k_is)))
  iterate 1 (next=>exact CP.xL (by k_is) (by k_is) (L2.ud (by k_is) (by k_is) (by k_is)))
  iterate 23 (next=>exact CP.Qh (by k_is) (L2.ud (by k_is) (by k_is) (by k_is)))
  iterate 1 (next=>exact CP.yK (show W.findIn _ _ _=_ by k_is) (CP.yK (show W.findIn _ _ _=_ by k_is) (CP.yK (show W.findIn _ _ _=_ by k_is) (CP.yK (show W.findIn _ _ _=_ by k_is) (CP.yK (show W.findIn _ _ _=_ by k_is) (CP.FY))))))
  iterate 1 (next=>exact CP.yK ⟨_,by k_is⟩ (CP.yK ⟨_,by k_is⟩ (CP.yK ⟨_,by k_is⟩ (CP.yK ⟨_,by k_is⟩ (CP.yK ⟨_,by k_is⟩ (CP.yK ⟨_,by k_is⟩ (CP.yK ⟨_,by k_is⟩ (CP.yK ⟨_,by k_is⟩ (CP.yK (show W.nsIn _ _ _=_ by k_is) (CP.yK (show W.nsIn _ _ _=_ by k_is) (CP.yK (show W.nsIn _ _ _=_ by k_is) (CP.yK (show W.nsIn _ _ _=_ by k_is) (CP.yK (show W.nsIn _ _ _=_ by k_is) (CP.yK (show W.nsIn _ _ _=_ by k_is) (CP.yK (show W.nsIn _ _ _=_ by k_is) (CP.yK (show W.nsIn _ _ _=_ by k_is) (CP.yK (show W.nsIn _ _ _=_ by k_is) (CP.yK (show W.nsIn _ _ _=_ by k_is) (CP.yK (show W.nsIn _ _ _=_ by k_is) (CP.yK (show W.nsIn _ _ _=_ by k_is) (CP.FY)))))))))))))))))))))
