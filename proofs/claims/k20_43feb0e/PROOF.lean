import PyProof.Rows.All
import Wide.All
import OpenK.AllK
import Wide.FinOn
import Lean
import PyProof.EqAt
import PyProof.EqKinds
import PyProof.TupleCall
import PyProof.NeKinds
import PyProof.IsiTupleOf
import PyProof.IsiPairs
import PyProof.IsiHeapPairs
import PyProof.ConsumeWalk
import PyProof.EnumFor
import PyProof.EnumMake
import PyProof.AutoSeq1
import PyProof.MinMaxWalk
import PyProof.FactsAll.list_3
import PyProof.AutoListH
import KE.KMinBuiltin
import PyProof.Rows.CallKwBuiltin
import KE.KTryMore
import PyProof.ExcArgsOwn
import PyProof.FactsAll.list_2
import PyProof.ListRange
import KE.KRevIter
import PyProof.SumWalkG
import PySem.Challenge.RW_moonseat_k20_mends_refused
section
open PySem PySem.Spec PyProof.Rows
def wAa:=@wpAny_bind
def wBa:=@wpAny_pure
def wCa:=@wpAny_mono
def wDa:=@wpAny_holding
def wFa:=@wpAny_letGo
def wGa:=@wpAny_execs_cons
def wIa:=@Heap.get?_push_of_some
def wJa:=@Heap.get?_push_size
def wKa:=@Heap.get?_update_other
def wLa:=@Heap.lt_size
def wMa:=@List.mem_cons_of_mem
def wNa:=@List.mem_cons_self
def wPa:=@Nat.le_refl
def wQa:=@Nat.le_of_lt
def wSa:=@Nat.le_trans
def wTa:=@Nat.ne_of_lt
def wUa:=@Nat.lt_irrefl
def vBa:=@decide_eq_false
def vCa:=@of_decide_eq_true
def vDa:=@absurd
def vEa:=@Int.le_refl
def vFa:=@Option.some.inj
def vIa:=@List.mem_append_left
def vJa:=@List.mem_append_right
def vKa:=@Nat.le_add_right
def vLa:=@eq_of_beq
def vMa:=@Nat.le_succ
def vNa:=@Bool.false_ne_true
def vOa:=@wpAny_standAt
def vPa:=@wpAny_tryCatch
def vRa:=@plainId_quiet
def vSa:=@codeAny_builtin
def vTa:=@wpAny_newObj_type
def vUa:=@Heap.get?_update_self
end
noncomputable section
set_option Elab.async false
set_option linter.all false
set_option maxRecDepth 100000
set_option maxHeartbeats 1000000
namespace L2
open PySem PySem.Spec PyProof.Rows
inductive KD where
 | i (n:Int) | s (x:Str) | t (l:List KD)
noncomputable instance:DecidableEq KD:=fun _ _=>Classical.propDecidable _
mutual
noncomputable def jE(h:Heap):KD->Value->Prop
 | .i n,v=>(∃t,v=.int n t)∨∃b:Bool,v=.bool b/\n=(if b then 1 else 0)
 | .s x,v=>∃t,v=.str x t
 | .t l,v=>∃a its,v=.ref a/\h.IsTuple a its/\jQ h l its.toList
noncomputable def jQ(h:Heap):List KD->List Value->Prop
 | [],vs=>vs=[]
 | k::ks,vs=>∃v r,vs=v::r/\jE h k v/\jQ h ks r
end
mutual
noncomputable def KD.dep:KD->Nat
 | .i _=>0
 | .s _=>0
 | .t l=>yY l+1
noncomputable def yY:List KD->Nat
 | []=>0
 | k::ks=>max k.dep (yY ks)
end
mutual
noncomputable def KD.drw:KD->Nat
 | .i _=>1
 | .s _=>1
 | .t l=>UK l+1
noncomputable def UK:List KD->Nat
 | []=>0
 | k::ks=>k.drw+UK ks
end
mutual
noncomputable def uE(w:World):KD->Int
 | .i n=>hashInt n
 | .s x=>hashStr w x
 | .t l=>reduceHash (Builtin.Tuple.tupleHashOf (VL w l))
noncomputable def VL(w:World):List KD->List Int
 | []=>[]
 | k::ks=>uE w k::VL w ks
end
mutual
theorem jE.inj{h:Heap}:∀{x y:KD} {v:Value},jE h x v->jE h y v->x=y
 | .i n,.i m,v,p,q=>by
  rw[jE]at p; rw[jE]at q
  rcases p with⟨t,rfl⟩ | ⟨b,rfl,rfl⟩
  ·rcases q with⟨t,e⟩ | ⟨b,e,_⟩ <;> cases e
   rfl
  ·rcases q with⟨t,e⟩ | ⟨b,e,rfl⟩ <;> cases e
   rfl
 | .s n,.s m,v,p,q=>by
  rw[jE]at p; rw[jE]at q
  obtain⟨t,rfl⟩:=p
  obtain⟨t,e⟩:=q
  cases e
  rfl
 | .t n,.t m,v,p,q=>by
  rw[jE]at p; rw[jE]at q
  obtain⟨a,its,rfl,o1,p⟩:=p
  obtain⟨a',its',e,o2,q⟩:=q
  cases e
  obtain⟨o,g,_,_,d⟩:=o1
  obtain⟨o',g',_,_,d'⟩:=o2
  rw[g]at g'
  cases g'
  rw[d]at d'
  cases d'
  rw[jQ.inj p q]
 | .i n,.s m,v,p,q=>by
  rw[jE]at p; rw[jE]at q
  obtain⟨t,rfl⟩:=q
  rcases p with⟨t,e⟩ | ⟨b,e,_⟩ <;> cases e
 | .i n,.t m,v,p,q=>by
  rw[jE]at p; rw[jE]at q
  obtain⟨_,_,rfl,_⟩:=q
  rcases p with⟨t,e⟩ | ⟨b,e,_⟩ <;> cases e
 | .s n,.i m,v,p,q=>by
  rw[jE]at p; rw[jE]at q
  obtain⟨t,rfl⟩:=p
  rcases q with⟨t,e⟩ | ⟨b,e,_⟩ <;> cases e
 | .s n,.t m,v,p,q=>by
  rw[jE]at p; rw[jE]at q
  obtain⟨t,rfl⟩:=p
  obtain⟨_,_,e,_⟩:=q
  cases e
 | .t n,.i m,v,p,q=>by
  rw[jE]at p; rw[jE]at q
  obtain⟨_,_,rfl,_⟩:=p
  rcases q with⟨t,e⟩ | ⟨b,e,_⟩ <;> cases e
 | .t n,.s m,v,p,q=>by
  rw[jE]at p; rw[jE]at q
  obtain⟨_,_,rfl,_⟩:=p
  obtain⟨t,e⟩:=q
  cases e
theorem jQ.inj{h:Heap}:∀{x y:List KD} {v:List Value},jQ h x v->jQ h y v->x=y
 | [],[],_,_,_=>rfl
 | [],_::_,_,p,q=>by
  rw[jQ]at p; rw[jQ]at q
  subst p
  obtain⟨_,_,e,_⟩:=q
  cases e
 | _::_,[],_,p,q=>by
  rw[jQ]at p; rw[jQ]at q
  subst q
  obtain⟨_,_,e,_⟩:=p
  cases e
 | x::xs,y::ys,_,p,q=>by
  rw[jQ]at p; rw[jQ]at q
  obtain⟨v,r,rfl,p1,p2⟩:=p
  obtain⟨v',r',e,q1,q2⟩:=q
  cases e
  rw[jE.inj p1 q1,jQ.inj p2 q2]
end
mutual
theorem jE.keep{h h':Heap}(m:∀a its,h.IsTuple a its->h'.IsTuple a its):∀{k:KD} {v:Value},jE h k v->jE h' k v
 | .i _,_,p=>by rw[jE]at p⊢; exact p
 | .s _,_,p=>by rw[jE]at p⊢; exact p
 | .t l,_,p=>by
  rw[jE]at p⊢
  obtain⟨a,its,rfl,o,p⟩:=p
  exact⟨a,its,rfl,m a its o,jQ.keep m p⟩
theorem jQ.keep{h h':Heap}(m:∀a its,h.IsTuple a its->h'.IsTuple a its):∀{k:List KD} {v:List Value},jQ h k v->jQ h' k v
 | [],_,p=>by rw[jQ]at p⊢; exact p
 | k::ks,_,p=>by
  rw[jQ]at p⊢
  obtain⟨v,r,rfl,p1,p2⟩:=p
  exact⟨v,r,rfl,jE.keep m p1,jQ.keep m p2⟩
end
section
variable {prog:Program} {w:World} {E:Value->Shared->Prop}
theorem qO{A:Around}{s:Shared}{b:Bool}{Q:Int->Shared->Prop}(hu:A.units < cLine)(h:Q (hashInt (if b then 1 else 0)) { s with toks:=s.toks+1 }):wpAny (model prog w) A (pyHash (.bool b)) Q E s:=by
 refine PySem.W.pyHash_slot (v:=.bool b) (T := "bool") rfl F.slot_bool_hash entry_int_hash (args_int_hash _) (beq_builtin_none _) (.inr hu) ?_
 cases b
 ·exact(show wpAny _ _ (do ret (<-mkInt 0)) _ _ s from wAa (wpAny_mkInt (wBa ⟨_,_,rfl,by
    have e:reduceHash 0=hashInt 0:=by decide
    rw[e]; exact h⟩)))
 ·exact(show wpAny _ _ (do ret (<-mkInt 1)) _ _ s from wAa (wpAny_mkInt (wBa ⟨_,_,rfl,by
    have e:reduceHash 1=hashInt 1:=by decide
    rw[e]; exact h⟩)))
mutual
theorem wP:∀(k:KD) (v:Value) (A:Around) (s:Shared) (Q:Int->Shared->Prop),jE s.heap k v->A.units+k.dep < cLine->Q (uE w k) { s with toks:=s.toks+k.drw }->wpAny (model prog w) A (pyHash v) Q E s
 | .i n,v,A,s,Q,p,hu,h=>by
  rw[jE]at p
  rw[uE,KD.drw]at h
  rcases p with⟨t,rfl⟩ | ⟨b,rfl,rfl⟩
  ·exact wpAny_pyHash_int h
  ·exact qO (by rw[KD.dep]at hu; exact hu) h
 | .s x,v,A,s,Q,p,hu,h=>by
  rw[jE]at p
  rw[uE,KD.drw]at h
  obtain⟨t,rfl⟩:=p
  exact wpAny_pyHash_str h
 | .t l,v,A,s,Q,p,hu,h=>by
  rw[jE]at p
  rw[uE,KD.drw]at h
  rw[KD.dep]at hu
  obtain⟨a,its,rfl,o,p⟩:=p
  obtain⟨ob,g,c,n,dt⟩:=o
  refine PySem.W.pyHash_slot (v:=.ref a) (T := "tuple") ⟨_,g,c⟩ F.slot_tuple_hash F.entry_tuple_hash (F.args_tuple_hash_1 _) (beq_builtin_none _) (.inr (by omega)) ?_
  refine(show wpAny _ _ (Builtin.Tuple.tupleItemsOf (.ref a) >>= _) _ _ s from wAa (wpAny_tupleItemsOf g dt (wAa ?_)))
  rw[<-Array.forIn_toList]
  refine kz l its.toList A.in1 s #[] _ p (by rw[Around.in1_units]; omega) fun b' hb=>?_
  show wpAny _ _ (retInt (Builtin.Tuple.tupleHashOf b'.toList)) _ _ _
  rw[hb]
  exact wAa (wpAny_mkInt (wBa ⟨_,_,rfl,by simpa[Nat.add_assoc]using h⟩))
theorem kz:∀(ks:List KD) (vs:List Value) (A:Around) (s:Shared) (b:Array Int) (Q:Array Int->Shared->Prop),jQ s.heap ks vs->A.units+yY ks < cLine->(∀b':Array Int,b'.toList=b.toList++VL w ks->Q b' { s with toks:=s.toks+UK ks })->
  wpAny (model prog w) A (forIn vs b fun x r=>do let h<-pyHash x; pure (ForInStep.yield (r.push h))) Q E s
 | [],vs,A,s,b,Q,p,hu,h=>by
  rw[jQ]at p
  subst p
  rw[List.forIn_nil]
  exact wBa (by simpa[UK,VL]using h b)
 | k::ks,vs,A,s,b,Q,p,hu,h=>by
  rw[jQ]at p
  rw[yY]at hu
  obtain⟨v,r,rfl,p1,p2⟩:=p
  rw[List.forIn_cons]
  refine wAa (wAa (wP k v A s _ p1 (by omega) (wBa ?_)))
  refine kz ks r A _ _ Q p2 (by omega) fun b' hb=>?_
  have:=h b' (by rw[hb,VL]; simp)
  rw[UK]at this
  simpa[Nat.add_assoc]using this
end
end
section
open SeqAt
variable {s:Shared}
theorem vt{α:Type}[DecidableEq α]{a b:α}{c:Bool}(h:c=true↔a=b):decide (a=b)=c:=by
 cases c with
 | true=>exact decide_eq_true (h.mp rfl)
 | false=>exact vBa fun z=>by have:=h.mpr z; cases this
theorem jQ.len{h:Heap}:∀{ks:List KD} {vs:List Value},jQ h ks vs->vs.length=ks.length
 | [],_,p=>by rw[jQ]at p; subst p; rfl
 | k::ks,_,p=>by
  rw[jQ]at p
  obtain⟨v,r,rfl,_,p2⟩:=p
  simp[p2.len]
theorem jQ.get{h:Heap}:∀{ks:List KD} {vs:List Value} {j:Nat} {v:Value},jQ h ks vs->vs[j]?=some v->∃k,ks[j]?=some k/\jE h k v
 | [],_,_,_,p,e=>by rw[jQ]at p; subst p; simp at e
 | k::ks,_,j,v',p,e=>by
  rw[jQ]at p
  obtain⟨v,r,rfl,p1,p2⟩:=p
  cases j with
  | zero=>cases e; exact⟨k,rfl,p1⟩
  | succ j=>exact p2.get (j:=j) e
theorem Gv:∀{ks:List KD} {k:KD},k∈ks->k.dep<=yY ks
 | [],_,h=>by cases h
 | x::xs,k,h=>by
  rw[yY]
  rcases List.mem_cons.mp h with rfl | h
  ·omega
  ·have:=Gv h
   omega
theorem av:∀(n:Nat) (x y:KD) (u v:Value) (A:Around),x.dep<=n->jE s.heap x u->jE s.heap y v->A.units+n < cLine->EqAt A s u v (decide (x=y))
 | n,.i a,.i b,u,v,A,hn,p,q,hu=>by
  rw[jE]at p; rw[jE]at q
  rcases p with⟨t,rfl⟩ | ⟨c,rfl,rfl⟩
  ·rcases q with⟨t',rfl⟩ | ⟨c',rfl,rfl⟩
   ·rw[vt (c:=(a==b)) (by simp)]; exact .int_int a t b t'
   ·rw[vt (c:=(a==if c' then 1 else 0)) (by simp)]; exact .int_bool a t c'
  ·rcases q with⟨t',rfl⟩ | ⟨c',rfl,rfl⟩
   ·rw[vt (c:=((if c then 1 else 0)==b)) (by simp)]; exact .bool_int c b t'
   ·rw[vt (c:=(c==c')) (by cases c <;> cases c' <;> simp)]; exact .bool_bool c c'
 | n,.s a,.s b,u,v,A,hn,p,q,hu=>by
  rw[jE]at p; rw[jE]at q
  obtain⟨t,rfl⟩:=p
  obtain⟨t',rfl⟩:=q
  rw[vt (c:=(a==b)) (by simp)]; exact .str_str a t b t'
 | n,.i a,.s b,u,v,A,hn,p,q,hu=>by
  rw[jE]at p; rw[jE]at q
  obtain⟨t',rfl⟩:=q
  rw[decide_eq_false (by intro z; cases z)]
  rcases p with⟨t,rfl⟩ | ⟨c,rfl,rfl⟩
  ·exact .int_str a t b t'
  ·exact .bool_str c b t'
 | n,.s a,.i b,u,v,A,hn,p,q,hu=>by
  rw[jE]at p; rw[jE]at q
  obtain⟨t',rfl⟩:=p
  rw[decide_eq_false (by intro z; cases z)]
  rcases q with⟨t,rfl⟩ | ⟨c,rfl,rfl⟩
  ·exact .str_int a t' b t
  ·exact .str_bool a t' c
 | n,.i a,.t b,u,v,A,hn,p,q,hu=>by
  rw[jE]at p; rw[jE]at q
  obtain⟨e,its,rfl,o,_⟩:=q
  rw[decide_eq_false (by intro z; cases z)]
  rcases p with⟨t,rfl⟩ | ⟨c,rfl,rfl⟩
  ·exact .int_tuple a t o (by omega)
  ·exact .bool_tuple c o (by omega)
 | n,.t a,.i b,u,v,A,hn,p,q,hu=>by
  rw[jE]at p; rw[jE]at q
  obtain⟨e,its,rfl,o,_⟩:=p
  rw[decide_eq_false (by intro z; cases z)]
  rcases q with⟨t,rfl⟩ | ⟨c,rfl,rfl⟩
  ·exact .tuple_int b t o (by omega)
  ·exact .tuple_bool c o (by omega)
 | n,.s a,.t b,u,v,A,hn,p,q,hu=>by
  rw[jE]at p; rw[jE]at q
  obtain⟨e,its,rfl,o,_⟩:=q
  obtain⟨t,rfl⟩:=p
  rw[decide_eq_false (by intro z; cases z)]
  exact .str_tuple a t o (by omega)
 | n,.t a,.s b,u,v,A,hn,p,q,hu=>by
  rw[jE]at p; rw[jE]at q
  obtain⟨e,its,rfl,o,_⟩:=p
  obtain⟨t,rfl⟩:=q
  rw[decide_eq_false (by intro z; cases z)]
  exact .tuple_str b t o (by omega)
 | 0,.t a,.t b,u,v,A,hn,p,q,hu=>by rw[KD.dep]at hn; omega
 | n+1,.t a,.t b,u,v,A,hn,p,q,hu=>by
  rw[KD.dep]at hn
  rw[jE]at p; rw[jE]at q
  obtain⟨l,its,rfl,o,p⟩:=p
  obtain⟨l',its',rfl,o',q⟩:=q
  by_cases hl:l=l'
  ·subst hl
   obtain⟨z,g,_,_,d⟩:=o
   obtain⟨z',g',_,_,d'⟩:=o'
   rw[g]at g'
   cases g'
   rw[d]at d'
   cases d'
   rw[jQ.inj p q,decide_eq_true rfl]
   exact .same _
  ·have l1:=p.len
   have l2:=q.len
   have ev:=RcAt.tuples (A:=A) (e:=fun j=>decide (a[j]?=b[j]?)) o o' (by omega) fun j h1 h2=>by
    have g1:its.toList[j]?=some its[j]:=by simp[h1]
    have g2:its'.toList[j]?=some its'[j]:=by simp[h2]
    obtain⟨k1,e1,r1⟩:=p.get g1
    obtain⟨k2,e2,r2⟩:=q.get g2
    have:=av n k1 k2 _ _ A.in1 (wSa (Gv (List.mem_of_getElem? e1)) (by omega)) r1 r2 (by rw[Around.in1_units]; omega)
    rw[e1,e2]
    have ee:decide (some k1=some k2)=decide (k1=k2):=by
     by_cases z:k1=k2
     ·rw[decide_eq_true z,decide_eq_true (by rw[z])]
     ·rw[decide_eq_false z,decide_eq_false (fun y=>z (Option.some.inj y))]
    rw[ee]
    exact this
   refine .of_refs hl ?_
   rw[vt (c:=((List.range (min its.size its'.size)).all (fun j=>decide (a[j]?=b[j]?))&&its.size==its'.size))]
   ·exact ev
   ·rw[Bool.and_eq_true,beq_iff_eq,List.all_eq_true]
    have z1:its.size=a.length:=by rw[<-l1]; simp
    have z2:its'.size=b.length:=by rw[<-l2]; simp
    rw[z1,z2]
    constructor
    ·rintro⟨h1,h2⟩
     congr 1
     refine List.ext_getElem? fun j=>?_
     by_cases hj:j < a.length
     ·exact vCa (h1 j (by simp; omega))
     ·rw[List.getElem?_eq_none (by omega),List.getElem?_eq_none (by omega)]
    ·intro h
     cases h
     exact⟨fun j _=>by simp,rfl⟩
end
section
variable {prog:Program} {w:World} {E:Value->Shared->Prop} {s:Shared}
theorem kC:∀(n:Nat) (k:KD) (v:Value) (A:Around) (Q:Bool->Shared->Prop),k.dep<=n->jE s.heap k v->Q true s->wpAny (model prog w) A (eqIsQuiet n v) Q E s
 | n,.i _,v,A,Q,_,p,h=>by
  rw[jE]at p
  rcases p with⟨t,rfl⟩ | ⟨b,rfl,_⟩
  ·rw[eqIsQuiet_byValue n (v:=.int _ t) rfl]; exact wBa h
  ·rw[eqIsQuiet_byValue n (v:=.bool b) rfl]; exact wBa h
 | n,.s x,v,A,Q,_,p,h=>by
  rw[jE]at p
  obtain⟨t,rfl⟩:=p
  rw[eqIsQuiet_byValue n (v:=.str x t) rfl]; exact wBa h
 | 0,.t l,v,A,Q,hn,p,h=>by rw[KD.dep]at hn; omega
 | n+1,.t l,v,A,Q,hn,p,h=>by
  rw[KD.dep]at hn
  rw[jE]at p
  obtain⟨a,its,rfl,o,p⟩:=p
  obtain⟨ob,g,c,m,dt⟩:=o
  have ty:s.TypeIs (.ref a) "tuple" := ⟨ob,g,c⟩
  unfold eqIsQuiet
  refine wAa (wpAny_specialOf ty F.slot_tuple_eq.lookup ?_)
  refine(show wpAny _ _ (isInstance (.ref a) (.type "tuple") >>= _) _ _ s from wAa (wpAny_isInstance ty isSubtype_tuple_tuple ?_))
  rw[if_neg (by decide)]
  refine wAa (wpAny_seqItems g dt (wAa ?_))
  rw[Option.getD_some,<-Array.forIn_toList]
  have ql:∀(rest:List Value),(∃ks,jQ s.heap ks rest/\yY ks<=n)->wpAny (model prog w) A (forIn rest ((none:Option Bool),PUnit.unit) fun y r=>do
    if (!(<-eqIsQuiet n y))=true then pure (ForInStep.done (some false,PUnit.unit))else do pure PUnit.unit; pure (ForInStep.yield (none,PUnit.unit))) (fun r s'=>r=(none,PUnit.unit)/\s'=s) E s:=by
   intro rest
   induction rest with
   | nil=>intro _; rw[List.forIn_nil]; exact wBa ⟨rfl,rfl⟩
   | cons y rest ih=>
    rintro⟨ks,hk,hd⟩
    cases ks with
    | nil=>rw[jQ]at hk; cases hk
    | cons k ks=>
     rw[jQ]at hk
     obtain⟨_,_,e,k1,k2⟩:=hk
     cases e
     rw[yY]at hd
     rw[List.forIn_cons]
     refine wAa (wAa (kC n k y A _ (by omega) k1 ?_))
     rw[if_neg (by decide)]
     exact wBa (ih ⟨ks,k2,by omega⟩)
  refine wCa (ql its.toList ⟨l,p,by omega⟩) ?_ fun _ _ x=>x
  rintro r s' ⟨rfl,rfl⟩
  exact wBa h
end
def JM(prog:Program)(w:World):HeapKind prog w KD where
 is:=fun h k a=>jE h k (.ref a)/\k.dep<=8
 hash:=uE w
 draws:=KD.drw
 room:=fun A=>A.units+8 < cLine
 inj:=fun p q=>p.1.inj q.1
 keeps:=fun p ho hd hs=>by
  refine⟨p.1.keep fun b its t=>?_,p.2⟩
  obtain⟨ob,g,c,m,dt⟩:=t
  refine⟨ob,(hs.2 b ?_).trans g,c,m,dt⟩
  rintro rfl
  rw[ho]at g
  cases g
  rw[hd]at dt
  cases dt
 pyHash:=fun hu p h=>wP _ _ _ _ _ p.1 (by have:=p.2; omega) h
 eqBool:=fun hu p q h=>av 8 _ _ _ _ _ p.2 p.1 q.1 hu _ _ _ _ h
 quiet:=fun p h=>kC 8 _ _ _ _ p.2 p.1 h
end L2
namespace L2
open PySem PySem.Spec PyProof.Rows
noncomputable abbrev zP:=Sum Int Str
noncomputable def aw:zP->Value->Bool
 | .inl k,v=>Value.isInt k v
 | .inr x,v=>Value.isStrOf x v
noncomputable def FV(w:World):zP->Int
 | .inl k=>hashInt k
 | .inr x=>hashStr w x
theorem Jo:∀{k:zP} {v:Value},aw k v=true->(∃i t,k=Sum.inl i/\v=Value.int i t)∨(∃x t,k=Sum.inr x/\v=Value.str x t)
 | .inl i,v,h=>by
  obtain⟨t,e⟩:=Value.isInt_shape (k:=i) (v:=v) h
  exact .inl ⟨i,t,rfl,e⟩
 | .inr x,v,h=>by
  obtain⟨t,e⟩:=Value.isStrOf_shape (x:=x) (v:=v) h
  exact .inr ⟨x,t,rfl,e⟩
theorem BO(a b:Int):decide ((Sum.inl a:zP)=Sum.inl b)=(a==b):=by
 by_cases e:a=b
 ·subst e; simp
 ·have h:¬(Sum.inl a:zP)=Sum.inl b:=fun q=>e (Sum.inl.inj q)
  rw[decide_eq_false h]
  exact(beq_eq_false_iff_ne.mpr e).symm
theorem BP(a b:Str):decide ((Sum.inr a:zP)=Sum.inr b)=decide (a=b):=by
 by_cases e:a=b
 ·subst e; simp
 ·have h:¬(Sum.inr a:zP)=Sum.inr b:=fun q=>e (Sum.inr.inj q)
  rw[decide_eq_false h,decide_eq_false e]
theorem BQ(a:Int)(b:Str):decide ((Sum.inl a:zP)=Sum.inr b)=false:=vBa (fun q=>nomatch q)
theorem BR(a:Str)(b:Int):decide ((Sum.inr a:zP)=Sum.inl b)=false:=vBa (fun q=>nomatch q)
def gG(prog:Program)(w:World):PySem.KeyKind prog w zP where
 is:=aw
 hash:=FV w
 inj:=fun v a b ha hb=>by
  rcases Jo ha with⟨i,t,rfl,rfl⟩ | ⟨x,t,rfl,rfl⟩
  ·rcases Jo hb with⟨j,u,rfl,e⟩ | ⟨y,u,rfl,e⟩
   ·injection e with e1 _; rw[e1]
   ·exact nomatch e
  ·rcases Jo hb with⟨j,u,rfl,e⟩ | ⟨y,u,rfl,e⟩
   ·exact nomatch e
   ·injection e with e1 _; rw[e1]
 byValue:=fun k v h=>by
  rcases Jo h with⟨i,t,rfl,rfl⟩ | ⟨x,t,rfl,rfl⟩ <;> rfl
 pyHash:=fun hv h=>by
  rcases Jo hv with⟨i,t,rfl,rfl⟩ | ⟨x,t,rfl,rfl⟩
  ·exact wpAny_pyHash_int h
  ·exact wpAny_pyHash_str h
 eqBool:=fun hu hv h=>by
  rcases Jo hu with⟨i,t,rfl,rfl⟩ | ⟨x,t,rfl,rfl⟩
  ·rcases Jo hv with⟨j,u,rfl,rfl⟩ | ⟨y,u,rfl,rfl⟩
   ·rw[BO]at h; exact wpAny_eqBool_int h
   ·rw[BQ]at h; exact SeqAt.EqAt.int_str i t y u _ _ _ _ h
  ·rcases Jo hv with⟨j,u,rfl,rfl⟩ | ⟨y,u,rfl,rfl⟩
   ·rw[BR]at h; exact SeqAt.EqAt.str_int x t j u _ _ _ _ h
   ·rw[BP]at h; exact wpAny_eqBool_str h
 «strs»:=fun k x t v h=>by
  rcases Jo h with⟨i,u,rfl,e⟩ | ⟨y,u,rfl,e⟩
  ·exact nomatch e
  ·injection e with e1 _
   subst e1
   cases v <;> rfl
end L2
namespace L2
open PySem PySem.Spec PyProof.Rows
inductive V where
 | non | bl (b:Bool) | int (i:Int) | str (x:Str) | byt (b:Array UInt8) | flt (b:UInt64) | ref (a:Addr) | ty (n:String)
 deriving DecidableEq
def jm:V->Value->Prop
 | .non,u=>u=Value.none
 | .bl b,u=>u=Value.bool b
 | .int i,u=>∃t,u=Value.int i t
 | .str x,u=>∃t,u=Value.str x t
 | .byt b,u=>∃t,u=Value.bytes b t
 | .flt b,u=>∃t,u=Value.float b t
 | .ref a,u=>u=Value.ref a
 | .ty n,u=>u=Value.type n
abbrev je:List V->List Value->Prop:=Paired jm
theorem je.length{xs:List V}{us:List Value}(r:je xs us):xs.length=us.length:=Paired.length r
theorem je.get:∀{xs:List V} {us:List Value} {i:Nat} {x:V},je xs us->xs[i]?=some x->∃u,us[i]?=some u/\jm x u
 | _,_,_,_,.nil,e=>by simp at e
 | _,_,0,_,.cons r _,e=>by simp at e; subst e; exact⟨_,rfl,r⟩
 | _,_,i+1,x,.cons _ t,e=>by
  obtain⟨u,h1,h2⟩:=je.get (i:=i) (x:=x) t (by simpa using e)
  exact⟨u,by simpa using h1,h2⟩
theorem je.set{x:V}{u:Value}(r:jm x u):∀{xs:List V} {us:List Value} (i:Nat),je xs us->je (xs.set i x) (us.set i u)
 | _,_,_,.nil=>.nil
 | _,_,0,.cons _ t=>.cons r t
 | _,_,i+1,.cons q t=>.cons q (je.set r i t)
theorem je.append:∀{xs ys:List V} {us ws:List Value},je xs us->je ys ws->je (xs++ys) (us++ws)
 | _,_,_,_,.nil,s=>s
 | _,_,_,_,.cons r t,s=>.cons r (je.append t s)
theorem je.take:∀{xs:List V} {us:List Value} (n:Nat),je xs us->je (xs.take n) (us.take n)
 | _,_,0,_=>.nil
 | _,_,_+1,.nil=>.nil
 | _,_,n+1,.cons r t=>.cons r (je.take n t)
theorem je.drop:∀{xs:List V} {us:List Value} (n:Nat),je xs us->je (xs.drop n) (us.drop n)
 | _,_,0,r=>r
 | _,_,_+1,.nil=>.nil
 | _,_,n+1,.cons _ t=>je.drop n t
def v6:Option V->Option Value->Prop
 | some v,some u=>jm v u
 | none,none=>True
 | _,_=>False
def KV{κ:Type}:List (κ×V)->List (κ×Value)->Prop:=Paired fun(p:κ×V) (q:κ×Value)=>p.1=q.1/\jm p.2 q.2
noncomputable def kV:zP->V
 | .inl i=>.int i
 | .inr x=>.str x
inductive HO where
 | lst (xs:List V)
 | tup (xs:List V)
 | dK (kvs:List (zP×V)) | dT (kvs:List (List zP×V))
 | dD (kvs:List (KD×Addr×V)) (ep:Nat)
 | set (S:Int->Bool) (n:Nat)
 | ins (C dx:Addr) (fs:List (Str×V))
 | own (x:Addr)
 | xd (fs:List (Str×V))
 | met (f x:Addr)
 | rng (lo hi:Int)
 | frz (o:Obj) (u:HO)
 | tbl (ps:Array Value)
 | ext (φ:Heap->Prop)
noncomputable abbrev Hp:=Addr->Option HO
noncomputable def upd(H:Hp)(a:Addr)(o:HO):Hp:=fun b=>if b=a then some o else H b
theorem J2{H:Hp}{a:Addr}{o:HO}:upd H a o a=some o:=by unfold upd; rw[if_pos rfl]
theorem jl{H:Hp}{a b:Addr}{o:HO}(h:b≠a):upd H a o b=H b:=by unfold upd; rw[if_neg h]
theorem jy{H:Hp}{a b:Addr}{o:HO}(h:H a=some o)(h':H b=none):a≠b:=by
 intro e; subst e; rw[h]at h'; cases h'
section
variable (P:Program) (w:World)
def JJ(H:Hp)(h:Heap)(a:Addr):HO->Prop
 | .lst xs=>xs.length<=sizeLine/\∃(its:List Value) (n:Nat),je xs its/\h.get? a=some { cls:=.type "list",data:=.seq its.toArray n }
 | .tup xs=>xs.length<=sizeLine/\∃its:List Value,je xs its/\IsTup h a its.toArray
 | .dK kvs=>kvs.length<=sizeLine/\(a==sysModules)=false/\∃vs,KV kvs vs/\h.DictOf (gG P w) a vs
 | .dT kvs=>kvs.length<=sizeLine/\(a==sysModules)=false/\∃xs:List (List zP×Addr×Value),
   Paired (fun(p:List zP×V) (q:List zP×Addr×Value)=>p.1=q.1/\H q.2.1=some (.tup (p.1.map kV))/\jm p.2 q.2.2) kvs xs/\
   ∃o es ep,h.get? a=some o/\o.ExactDict/\o.data=.dict es ep/\es.toList=xs.map (entryOfKey (tupleKind (gG P w)))/\(xs.map (·.1)).Nodup
 | .dD kvs ep=>kvs.length<=sizeLine/\(a==sysModules)=false/\(kvs.map (·.1)).Nodup/\∃xs:List (KD×Addr×Value),
   Paired (fun(p:KD×Addr×V) (q:KD×Addr×Value)=>p.1=q.1/\p.2.1=q.2.1/\jm p.2.2 q.2.2) kvs xs/\
   ∃o es,h.get? a=some o/\o.ExactDict/\o.data=.dict es ep/\es.toList=xs.map (entryOfKey (JM P w))
 | .set S n=>h.SetOf (intKind P w) a S n
 | .ins C dx fs=>H dx=some (.own a)/\fs.length<=1000/\dx≠a/\h.get? a=some (PySem.W.instObj C dx)/\
   ∃mA,h.Ns1 dx mA/\(∀f,v6 (fs.lookup f) (mA f))/\PySem.Within mA (fs.map (·.1))
 | .own _=>∃o,h.get? a=some o
 | .xd fs=>∃mA,h.Ns1 a mA/\∀f,v6 (fs.lookup f) (mA f)
 | .rng lo hi=>∃t u v,h.get? a=some { cls:=.type "range",data:=.fields #[.int lo t,.int hi u,.int 1 v] }
 | .frz o u=>h.get? a=some o/\JJ H h a u
 | .tbl ps=>h.get? a=some { cls:=.none,data:=.fields ps }
 | .met f x=>h.get? a=some (PySem.W.methodObj (.ref f) (.ref x))
 | .ext φ=>φ h/\(∃o,h.get? a=some o)/\∀h1 h2:Heap,φ h1->(∀o,h1.get? a=some o->h2.get? a=some o)->φ h2
def JY(H:Hp)(h:Heap):Prop:=∀a o,H a=some o->JJ P w H h a o
end
section
variable {P:Program} {w:World} {H H':Hp} {h h':Heap} {a:Addr} {o:HO}
theorem JJ.lt(x:JJ P w H h a o):a < h.objs.size:=by
 cases o with
 | lst xs=>obtain⟨_,_,_,_,e⟩:=x; exact wLa e
 | tup xs=>obtain⟨_,_,_,p⟩:=x; exact p.lt
 | dK kvs=>obtain⟨_,_,_,_,o,_,_,e,_⟩:=x; exact wLa e
 | dT kvs=>obtain⟨_,_,_,_,o,_,_,e,_⟩:=x; exact wLa e
 | dD kvs ep=>obtain⟨_,_,_,_,_,o,_,e,_⟩:=x; exact wLa e
 | set S n=>obtain⟨o,_,_,_,e,_⟩:=x; exact wLa e
 | ins C dx fs=>obtain⟨_,_,_,e,_⟩:=x; exact wLa e
 | own y=>obtain⟨_,e⟩:=x; exact wLa e
 | xd fs=>obtain⟨_,⟨_,_,_,e,_⟩,_⟩:=x; exact wLa e
 | rng lo hi=>obtain⟨_,_,_,e⟩:=x; exact wLa e
 | frz ob u=>obtain⟨e,_⟩:=x; exact wLa e
 | tbl ps=>exact wLa (show h.get? a=some _ from x)
 | met f y=>exact wLa (show h.get? a=some _ from x)
 | ext φ=>obtain⟨_,⟨_,e⟩,_⟩:=x; exact wLa e
theorem Paired.mapP{α β:Type}{F G:α->β->Prop}:∀{l₁:List α} {l₂:List β},Paired F l₁ l₂->(∀a b,F a b->G a b)->Paired G l₁ l₂
 | _,_,.nil,_=>.nil
 | _,_,.cons r t,f=>.cons (f _ _ r) (Paired.mapP t f)
theorem JJ.stay(x:JJ P w H h a o)(k:∀b u,(b=a∨H b=some (.own a))->h.get? b=some u->h'.get? b=some u)
  (ho:∀b,H b=some (.own a)->H' b=some (.own a)) (ht:∀b xs,H b=some (.tup xs)->H' b=some (.tup xs)):JJ P w H' h' a o:=by
 induction o with
 | lst xs=>obtain⟨z,its,n,r,e⟩:=x; exact⟨z,its,n,r,k _ _ (.inl rfl) e⟩
 | tup xs=>obtain⟨z,its,r,ob,e,c⟩:=x; exact⟨z,its,r,ob,k _ _ (.inl rfl) e,c⟩
 | dK kvs=>obtain⟨z,y,vs,r,ob,es,ep,e,c⟩:=x; exact⟨z,y,vs,r,ob,es,ep,k _ _ (.inl rfl) e,c⟩
 | dT kvs=>
  obtain⟨z,y,xs,r,ob,es,ep,e,c⟩:=x
  exact⟨z,y,xs,Paired.mapP r fun p q z=>⟨z.1,ht _ _ z.2.1,z.2.2⟩,ob,es,ep,k _ _ (.inl rfl) e,c⟩
 | dD kvs ep=>obtain⟨z,y,nd,xs,r,ob,es,e,c⟩:=x; exact⟨z,y,nd,xs,r,ob,es,k _ _ (.inl rfl) e,c⟩
 | set S n=>obtain⟨ob,es,ep,t,e,c⟩:=x; exact⟨ob,es,ep,t,k _ _ (.inl rfl) e,c⟩
 | ins C dx fs=>
  obtain⟨d,z,ne,e,mA,⟨od,es,ep,e2,c⟩,r⟩:=x
  exact⟨ho _ d,z,ne,k _ _ (.inl rfl) e,mA,⟨od,es,ep,k _ _ (.inr d) e2,c⟩,r⟩
 | own y=>obtain⟨ob,e⟩:=x; exact⟨ob,k _ _ (.inl rfl) e⟩
 | xd fs=>obtain⟨mA,⟨od,es,ep,e,c⟩,r⟩:=x; exact⟨mA,⟨od,es,ep,k _ _ (.inl rfl) e,c⟩,r⟩
 | rng lo hi=>obtain⟨t,u,v,e⟩:=x; exact⟨t,u,v,k _ _ (.inl rfl) e⟩
 | frz ob u ih=>obtain⟨e,q⟩:=x; exact⟨k _ _ (.inl rfl) e,ih q⟩
 | tbl ps=>
  have e:h.get? a=some { cls:=.none,data:=.fields ps }:=x
  show h'.get? a=some { cls:=.none,data:=.fields ps }
  exact k a _ (.inl rfl) e
 | met f y=>
  have e:h.get? a=some (PySem.W.methodObj (.ref f) (.ref y)):=x
  show h'.get? a=some (PySem.W.methodObj (.ref f) (.ref y))
  exact k a _ (.inl rfl) e
 | ext φ=>obtain⟨p,⟨o,e⟩,st⟩:=x; exact⟨st _ _ p fun o q=>k _ _ (.inl rfl) q,⟨o,k _ _ (.inl rfl) e⟩,st⟩
theorem JY.lt(x:JY P w H h)(e:H a=some o):a < h.objs.size:=(x a o e).lt
theorem JY.fresh(x:JY P w H h)(e:h.objs.size<=a):H a=none:=by
 cases q:H a with
 | none=>rfl
 | some u=>exact vDa (Nat.lt_of_lt_of_le (x.lt q) e) (wUa _)
theorem JY.kept(x:JY P w H h)(k:∀b u,h.get? b=some u->h'.get? b=some u):JY P w H h':=fun a o e=>
 (x a o e).stay (fun b u _ q=>k b u q) (fun _ q=>q) fun _ _ q=>q
theorem JY.laid(x:JY P w H h)(k:∀b u,h.get? b=some u->h'.get? b=some u)(hp:h.objs.size<=a)(new:JJ P w (upd H a o) h' a o):JY P w (upd H a o) h':=fun b u e=>by
 have hn:=x.fresh hp
 by_cases hb:b=a
 ·subst hb; rw[J2]at e; cases e; exact new
 ·rw[jl hb]at e
  exact(x b u e).stay (fun c v _ q=>k c v q) (fun c q=>by rw[jl (jy q hn)]; exact q) fun c xs q=>by rw[jl (jy q hn)]; exact q
end
def Rd(H:Hp)(a:Addr)(u:HO):Prop:=H a=some u∨∃o,H a=some (.frz o u)
theorem Rd.ok{P:Program}{w:World}{H:Hp}{h:Heap}{a:Addr}{u:HO}(r:Rd H a u)(x:JY P w H h):JJ P w H h a u:=by
 rcases r with r | ⟨o,r⟩
 ·exact x a u r
 ·obtain⟨_,q⟩:=x a _ r
  exact q
def ax:Option HO->Prop
 | some (.lst _)=>True
 | some (.dK _)=>True
 | some (.dT _)=>True
 | some (.dD _ _)=>True
 | some (.set _ _)=>True
 | some (.ins _ _ _)=>True
 | some (.ext _)=>True
 | _=>False
section
variable {P:Program} {w:World} {H:Hp} {h h':Heap} {x e:Addr} {o':HO}
theorem JY.write(ok:JY P w H h)(mu:ax (H x))(he:e=x∨H e=some (.own x))(k:∀b u,b≠e->h.get? b=some u->h'.get? b=some u)(heo:∃u,h'.get? e=some u)
  (new:JJ P w (upd H x o') h' x o'):JY P w (upd H x o') h':=fun b u q=>by
 have nown:∀c y,H c=some (.own y)->c≠x:=fun c y r z=>by subst z; rw[r]at mu; exact mu
 have ntup:∀c xs,H c=some (.tup xs)->c≠x:=fun c xs r z=>by subst z; rw[r]at mu; exact mu
 by_cases hb:b=x
 ·subst hb; rw[J2]at q; cases q; exact new
 ·rw[jl hb]at q
  by_cases hbe:b=e
  ·have q':H b=some (.own x):=by
    rcases he with z | z
    ·exact vDa (hbe.trans z) hb
    ·rw[hbe]; exact z
   rw[q]at q'; cases q'
   obtain⟨v,hv⟩:=heo
   exact⟨v,by rw[hbe]; exact hv⟩
  ·refine(ok b u q).stay (fun c v hc r=>k c v ?_ r) (fun c r=>by rw[jl (nown c b r)]; exact r) fun c xs r=>by rw[jl (ntup c xs r)]; exact r
   rcases hc with rfl | hc
   ·exact hbe
   ·rintro rfl
    rcases he with z | z
    ·exact nown c b hc z
    ·rw[hc]at z; cases z; exact hb rfl
end
structure Un (fs ex:List Addr) (H H':Hp) (h h':Heap):Prop where
 keep:∀b o,h.get? b=some o->H b=none->b∉fs->b∉ex->h'.get? b=some o
 slot:∀b o,h.get? b=some o->H b=none->b∈fs->b∉ex->∃sl,h'.get? b=some { o with slots:=sl }
 free:∀b o,h.get? b=some o->H b=none->b∉ex->H' b=none
 there:∀b o,h.get? b=some o->b∉ex->∃o',h'.get? b=some o'
 tups:∀b xs,H b=some (.tup xs)->H' b=some (.tup xs)
 frzs:∀b o u,H b=some (.frz o u)->H' b=some (.frz o u)
 tbls:∀b ps,H b=some (.tbl ps)->∃more,H' b=some (.tbl (ps++more))
section
variable {fs fs' ex ex':List Addr} {H H1 H2:Hp} {h h1 h2 h':Heap} {a x e:Addr} {o:HO}
theorem Un.any(u:Un fs ex H H1 h h1){b:Addr}{ob:Obj}(q:h.get? b=some ob)(n:H b=none)(hx:b∉ex):∃sl,h1.get? b=some { ob with slots:=sl }:=by
 by_cases hb:b∈fs
 ·exact u.slot b ob q n hb hx
 ·exact⟨ob.slots,u.keep b ob q n hb hx⟩
theorem Un.kept(k:∀b u,h.get? b=some u->h'.get? b=some u):Un fs ex H H h h':=
 ⟨fun b ob q _ _ _=>k b ob q,fun b ob q _ _ _=>⟨ob.slots,k b ob q⟩,fun _ _ _ n _=>n,fun b ob q _=>⟨ob,k b ob q⟩,fun _ _ q=>q,fun _ _ _ q=>q,fun _ ps q=>⟨#[],by rw[q]; simp⟩⟩
theorem Un.refl:Un fs ex H H h h:=Un.kept fun _ _ q=>q
theorem Un.laid(k:∀b u,h.get? b=some u->h'.get? b=some u)(hp:h.objs.size<=a)(hn:H a=none):Un fs ex H (upd H a o) h h' where
 keep:=fun b u q _ _ _=>k b u q
 slot:=fun b u q _ _ _=>⟨u.slots,k b u q⟩
 free:=fun b u q n _=>by rw[jl (Nat.ne_of_lt (Nat.lt_of_lt_of_le (Heap.lt_size q) hp))]; exact n
 there:=fun b u q _=>⟨u,k b u q⟩
 tups:=fun b xs q=>by rw[jl (jy q hn)]; exact q
 frzs:=fun b u xs q=>by rw[jl (jy q hn)]; exact q
 tbls:=fun b ps q=>⟨#[],by rw[jl (jy q hn),q]; simp⟩
theorem Un.write(mu:ax (H x))(he:e=x∨H e=some (.own x))(k:∀b u,b≠e->h.get? b=some u->h'.get? b=some u)(heo:∃u,h'.get? e=some u):Un fs ex H (upd H x o) h h':=by
 have hx:∀b,H b=none->b≠x:=fun b n z=>by subst z; rw[n]at mu; exact mu
 have hb:∀b,H b=none->b≠e:=fun b n z=>by
  subst z
  rcases he with r | r
  ·exact hx b n r
  ·rw[n]at r; cases r
 have hm:∀b u,H b=some u->¬ax (some u)->b≠x:=fun b u q nm z=>by subst z; rw[q]at mu; exact nm mu
 refine⟨fun b u q n _ _=>k b u (hb b n) q,fun b u q n _ _=>⟨u.slots,k b u (hb b n) q⟩,fun b u q n _=>by rw[jl (hx b n)]; exact n,fun b u q _=>?_,
  fun b xs q=>by rw[jl (hm b _ q fun z=>z)]; exact q,fun b u xs q=>by rw[jl (hm b _ q fun z=>z)]; exact q,fun b ps q=>⟨#[],by rw[jl (hm b _ q fun z=>z),q]; simp⟩⟩
 by_cases hbe:b=e
 ·subst hbe; exact heo
 ·exact⟨u,k b u hbe q⟩
end
noncomputable def VM(h:Heap)(H:Hp):List Addr:=(List.range h.objs.size).filter fun a=>(H a).isSome
def V0(h:Heap)(H:Hp):Heap:=PySem.W.hideAll h (VM h H)
theorem qP(h:Heap)(H:Hp):(V0 h H).objs.size=h.objs.size:=PySem.W.hideAll_size _ _
theorem xD{h:Heap}{H:Hp}{b:Addr}{o:Obj}(e:h.get? b=some o)(n:H b=none):(V0 h H).get? b=some o:=
 PySem.W.hideAll_get _ e fun hm=>by
  have q:(H b).isSome=true:=(List.mem_filter.mp hm).2
  rw[n]at q; simp at q
theorem b8{h:Heap}{H:Hp}{b:Addr}{o:Obj}(e:(V0 h H).get? b=some o):h.get? b=some o/\H b=none:=by
 have e':h.get? b=some o:=PySem.W.of_hideAll (VM h H) e
 refine⟨e',?_⟩
 cases q:H b with
 | none=>rfl
 | some x=>
  have hm:b∈VM h H:=List.mem_filter.mpr ⟨List.mem_range.mpr (wLa e'),by simp[q]⟩
  have z:(V0 h H).get? b=none:=PySem.W.hideAll_none (VM h H) hm
  rw[z]at e; cases e
end L2
namespace L2
open PySem PySem.Spec PyProof.Rows
structure Mod (K:PySem.W.Frag) (mg:Str->Option Value) (base:Heap):Prop where
 kin:K.In base
 glob:base.Ns mainGlobals mg
 blt:∃mb,base.Ns builtinsNs mb/\∀x:Str,x≠ "__name__" ->mb x=bootBuiltins x
 nolimit:base.NoLimit
structure Cx where
 prog:Program
 w:World
 K:PySem.W.Frag
 mg:Str->Option Value
 base:Heap
 A:Around
 N:List Str
 s₀:Shared
 H₀:Hp
 env:Env
 outer:List Env
 stack:List Env
 ex:List Addr
 fn:Str->Bool
 calm:Bool
 pn:List (Addr×Obj)
 xe:Value->Shared->Prop
noncomputable def Jd(l:List Env):List Addr:=l.filterMap (·.frame)
abbrev Cx.fs(X:Cx):List Addr:=Jd X.outer
def kD(sc:Scope)(x:Str):Prop:=sc.names.lookup x=some .local∨sc.names.lookup x=some .cell∨sc.names.lookup x=some .free
def VN(sc:Scope)(x:Str):Prop:=sc.names.lookup x=some .local∨sc.names.lookup x=some .cell
def FW(env:Env)(h:Heap)(m:Str->Option Value)(x:Str)(u:Value):Prop:=
 (env.kindOf x=some .local/\m x=some u)∨((env.kindOf x=some .cell∨env.kindOf x=some .free)/\∃c,env.cells.lookup x=some c/\h.IsCell c (some u))
structure Cx.Ok (X:Cx):Prop where
 mod:Mod X.K X.mg X.base
 kind:X.env.scope.kind=.function
 glob:X.env.globals=mainGlobals
 blt:X.env.builtins=builtinsNs
 above:X.s₀.heap.objs.size<=X.env.locals
 inj:∀x y c,X.env.cells.lookup x=some c->X.env.cells.lookup y=some c->x=y
 has:∀x,(X.env.kindOf x=some .cell∨X.env.kindOf x=some .free)->∃c,X.env.cells.lookup x=some c
 cab:∀x c,X.fn x=true->X.env.cells.lookup x=some c->X.s₀.heap.objs.size<=c
 hd:X.calm=true->X.A.handled=none
 frames:X.A.frames=some X.stack
 stk:X.stack=X.outer∨(X.stack=X.env::X.outer/\X.env.frame=some X.env.locals)
 exf:∀b∈X.ex,b≠X.env.locals/\∀x c,X.env.cells.lookup x=some c->c≠b
 bs:∀b o,X.base.get? b=some o->X.s₀.heap.get? b=some o/\X.H₀ b=none
 bsz:X.base.objs.size<=X.s₀.heap.objs.size
 noex:∀b o,X.base.get? b=some o->b∉X.ex
 exfs:∀b∈X.ex,b∉X.fs
 funs:X.s₀.heap.FunFrames X.base X.outer
 frf:∀b∈X.fs,X.H₀ b=none
structure Inv (X:Cx) (pins:List (Addr×Obj)) (σ:List (Option V)) (H:Hp) (s:Shared):Prop where
 ok:X.Ok
 os:s.os=X.s₀.os
 bare:AllBare s.gens
 base:Un X.fs X.ex X.H₀ H X.s₀.heap s.heap
 loc:∃m,s.heap.Ns X.env.locals m/\∀(i:Nat) (x:Str) (v:V),X.N[i]?=some x->σ[i]?=some (some v)->kD X.env.scope x->∃u,jm v u/\FW X.env s.heap m x u
 cell:∀x c,X.env.cells.lookup x=some c->∃v,s.heap.IsCell c v
 free:H X.env.locals=none
 freeC:∀x c,X.env.cells.lookup x=some c->H c=none
 pin:∀p∈X.pn++pins,s.heap.get? p.1=some p.2/\H p.1=none/\p.1≠X.env.locals/\p.1∉X.fs/\∀v,p.2.data≠.cell v
 hok:JY X.prog X.w H s.heap
 len:σ.length=X.N.length
section
variable {X:Cx} {pins:List (Addr×Obj)} {σ:List (Option V)} {H H':Hp} {s:Shared} {h':Heap}
theorem Cx.Ok.nofr(ok:X.Ok){b:Addr}{o:Obj}(e:X.base.get? b=some o):b∉X.fs:=fun hb=>by
 have:=(ok.funs.mem hb).1
 rw[e]at this; cases this
theorem Inv.bs(I:Inv X pins σ H s):∀b o,X.base.get? b=some o->s.heap.get? b=some o/\H b=none:=fun b o e=>
 ⟨I.base.keep b o (I.ok.bs b o e).1 (I.ok.bs b o e).2 (I.ok.nofr e) (I.ok.noex b o e),I.base.free b o (I.ok.bs b o e).1 (I.ok.bs b o e).2 (I.ok.noex b o e)⟩
theorem Inv.bk(I:Inv X pins σ H s):∀b o,X.base.get? b=some o->s.heap.get? b=some o:=fun b o e=>(I.bs b o e).1
theorem Inv.mod(I:Inv X pins σ H s):Mod X.K X.mg X.base:=I.ok.mod
theorem Inv.kIn(I:Inv X pins σ H s):X.K.In s.heap:=I.ok.mod.kin.keeps I.bk
theorem Inv.fr(I:Inv X pins σ H s):∃m,Fr X.base X.env.locals s.heap m:=
 let ⟨m,hn,_⟩:=I.loc
 ⟨m,hn,I.bk,wSa I.ok.bsz I.ok.above⟩
theorem Inv.lt(I:Inv X pins σ H s):X.env.locals < s.heap.objs.size:=let ⟨_,hn,_⟩:=I.loc; hn.lt
theorem Inv.sz(I:Inv X pins σ H s):X.s₀.heap.objs.size<=s.heap.objs.size:=wSa I.ok.above (wQa I.lt)
theorem Inv.nofs(I:Inv X pins σ H s){a:Addr}(h:s.heap.objs.size<=a):a∉X.fs:=fun hb=>by
 obtain⟨_,o,ho,_⟩:=I.ok.funs.mem hb
 exact vDa (Nat.lt_of_lt_of_le (wLa ho) (wSa I.sz h)) (wUa _)
theorem Inv.cne(I:Inv X pins σ H s):∀x c,X.env.cells.lookup x=some c->c≠X.env.locals:=fun x c e z=>by
 obtain⟨v,o,ho,hd⟩:=I.cell x c e
 obtain⟨m,⟨o',es,ep,ho',hd',_⟩,_⟩:=I.loc
 rw[z,ho']at ho; cases ho; rw[hd']at hd; cases hd
theorem Inv.funs(I:Inv X pins σ H s):s.heap.FunFrames X.base X.outer:=by
 have all:∀(l:List Env),(∀b∈Jd l,b∈X.fs)->X.s₀.heap.FunFrames X.base l->s.heap.FunFrames X.base l:=by
  intro l
  induction l with
  | nil=>intro _ _; trivial
  | cons env r ih=>
   intro hs hl
   obtain⟨hk,⟨L,o,hf,hn,ho,hd⟩,hr⟩:=hl
   have hL:L∈X.fs:=hs L (by unfold Jd; rw[List.filterMap_cons,hf]; exact wNa)
   obtain⟨sl,e⟩:=I.base.slot L o ho (I.ok.frf L hL) hL fun z=>I.ok.exfs L z hL
   exact⟨hk,⟨L,_,hf,hn,e,hd⟩,ih (fun b hb=>hs b (by unfold Jd; rw[List.filterMap_cons,hf]; exact wMa _ hb)) hr⟩
 exact all X.outer (fun _ hb=>hb) I.ok.funs
theorem Inv.stack(I:Inv X pins σ H s):s.heap.FunFrames X.base X.stack:=by
 rcases I.ok.stk with e | ⟨e,hf⟩
 ·rw[e]; exact I.funs
 ·rw[e]
  obtain⟨m,hn,_⟩:=I.loc
  refine .cons (by rw[I.ok.kind]; decide) hf hn ?_ I.funs
  exact Heap.get?_none_of_le (wSa I.ok.bsz I.ok.above)
theorem Inv.stkSub(I:Inv X pins σ H s):∀b∈Jd X.stack,b∈X.env.locals::X.fs:=fun b hb=>by
 rcases I.ok.stk with e | ⟨e,hf⟩
 ·rw[e]at hb; exact wMa _ hb
 ·rw[e]at hb
  unfold Jd at hb
  rw[List.filterMap_cons,hf]at hb
  exact hb
theorem Inv.stkFree(I:Inv X pins σ H s):∀b∈Jd X.stack,H b=none:=fun b hb=>by
 rcases List.mem_cons.mp (I.stkSub b hb)with e | hb
 ·rw[e]; exact I.free
 ·obtain⟨_,o,ho,_⟩:=I.ok.funs.mem hb
  exact I.base.free b o ho (I.ok.frf b hb) fun z=>I.ok.exfs b z hb
theorem Inv.step{g':Array GenState}{t':Nat}{d':Drawn}{ch:List Addr}(I:Inv X pins σ H s)
  (hch:∀b∈ch,(b∈X.ex∨X.s₀.heap.objs.size<=b)/\b≠X.env.locals/\(∀x c,X.env.cells.lookup x=some c->c≠b)/\∀p∈X.pn++pins,p.1≠b)
  (keep:∀b o,b≠X.env.locals->b∉X.fs->b∉ch->s.heap.get? b=some o->H b=none->h'.get? b=some o)
  (slot:∀b o,b≠X.env.locals->b∈X.fs->b∉ch->s.heap.get? b=some o->H b=none->∃sl,h'.get? b=some { o with slots:=sl }) (free:∀b o,b∉ch->s.heap.get? b=some o->H b=none->H' b=none)
  (there:∀b o,b∉ch->s.heap.get? b=some o->∃o',h'.get? b=some o')
  (tups:∀b xs,H b=some (.tup xs)->H' b=some (.tup xs)) (frzs:∀b o u,H b=some (.frz o u)->H' b=some (.frz o u)) (tbls:∀b ps,H b=some (.tbl ps)->∃more,H' b=some (.tbl (ps++more)))
  (ns:∀m,s.heap.Ns X.env.locals m->h'.Ns X.env.locals m) (hok:JY X.prog X.w H' h') (hg:AllBare g'):
  Inv X pins σ H' { s with heap:=h',gens:=g',drawn:=d',toks:=t' }:=by
 have neL:∀b o,X.s₀.heap.get? b=some o->b≠X.env.locals:=fun b o e=>wTa (Nat.lt_of_lt_of_le (wLa e) I.ok.above)
 have neC:∀b o,X.s₀.heap.get? b=some o->b∉X.ex->b∉ch:=fun b o e hx hb=>by
  rcases(hch b hb).1 with z | z
  ·exact hx z
  ·exact vDa (Nat.lt_of_lt_of_le (wLa e) z) (wUa _)
 have cellK:∀x c,X.env.cells.lookup x=some c->∀v,s.heap.IsCell c v->h'.IsCell c v:=fun x c e v ⟨o,ho,hd⟩=>by
  have nch:c∉ch:=fun z=>(hch c z).2.2.1 x c e rfl
  by_cases hc:c∈X.fs
  ·obtain⟨sl,q⟩:=slot c o (I.cne x c e) hc nch ho (I.freeC x c e)
   exact⟨_,q,hd⟩
  ·exact⟨o,keep c o (I.cne x c e) hc nch ho (I.freeC x c e),hd⟩
 refine⟨I.ok,I.os,hg,⟨fun b o e n hb hx=>?_,fun b o e n hb hx=>?_,fun b o e n hx=>?_,fun b o e hx=>?_,fun b xs e=>tups b xs (I.base.tups b xs e),fun b o xs e=>frzs b o xs (I.base.frzs b o xs e),fun b ps e=>?_⟩,?_,fun x c e=>?_,?_,fun x c e=>?_,fun p hp=>?_,hok,I.len⟩
 ·exact keep b o (neL b o e) hb (neC b o e hx) (I.base.keep b o e n hb hx) (I.base.free b o e n hx)
 ·obtain⟨sl,e1⟩:=I.base.slot b o e n hb hx
  obtain⟨sl',e2⟩:=slot b _ (neL b o e) hb (neC b o e hx) e1 (I.base.free b o e n hx)
  exact⟨sl',e2⟩
 ·obtain⟨o',e1⟩:=I.base.there b o e hx
  exact free b o' (neC b o e hx) e1 (I.base.free b o e n hx)
 ·obtain⟨o',e1⟩:=I.base.there b o e hx
  exact there b o' (neC b o e hx) e1
 ·obtain⟨m1,e1⟩:=I.base.tbls b ps e
  obtain⟨m2,e2⟩:=tbls b _ e1
  exact⟨m1++m2,by rw[e2,Array.append_assoc]⟩
 ·obtain⟨m,hn,hl⟩:=I.loc
  refine⟨m,ns m hn,fun i x v e1 e2 e3=>?_⟩
  obtain⟨u,r,l⟩:=hl i x v e1 e2 e3
  refine⟨u,r,?_⟩
  rcases l with l | ⟨k,c,e,z⟩
  ·exact .inl l
  ·exact .inr ⟨k,c,e,cellK x c e _ z⟩
 ·obtain⟨v,z⟩:=I.cell x c e
  exact⟨v,cellK x c e v z⟩
 ·obtain⟨m,⟨o,_,_,ho,_⟩,_⟩:=I.loc
  exact free _ o (fun z=>(hch _ z).2.1 rfl) ho I.free
 ·obtain⟨v,o,ho,hd⟩:=I.cell x c e
  exact free c o (fun z=>(hch c z).2.2.1 x c e rfl) ho (I.freeC x c e)
 ·obtain⟨e,n,ne,nf,d⟩:=I.pin p hp
  have nch:p.1∉ch:=fun z=>(hch p.1 z).2.2.2 p hp rfl
  exact⟨keep p.1 p.2 ne nf nch e n,free p.1 p.2 nch e n,ne,nf,d⟩
theorem Inv.un{t':Nat}(I:Inv X pins σ H s)(u:Un X.fs [] H H' s.heap h')(hok:JY X.prog X.w H' h'):Inv X pins σ H' { s with heap:=h',toks:=t' }:=by
 obtain⟨m,⟨o,es,ep,ho,r⟩,_⟩:=id I.loc
 obtain⟨sl,hL⟩:=u.any ho I.free (by simp)
 exact I.step (g':=s.gens) (d':=s.drawn) (ch:=[]) (fun _ z=>nomatch z) (fun b o _ hb _ e n=>u.keep b o e n hb (by simp)) (fun b o _ hb _ e n=>u.slot b o e n hb (by simp)) (fun b o _ e n=>u.free b o e n (by simp)) (fun b o _ e=>u.there b o e (by simp)) u.tups u.frzs u.tbls (fun m' hm=>by
  obtain⟨o',es',ep',ho',r'⟩:=hm
  rw[ho]at ho'; cases ho'
  exact⟨_,es',ep',hL,r'⟩) hok I.bare
theorem Inv.call{g':Array GenState}{t':Nat}{d':Drawn}{ch:List Addr}(I:Inv X pins σ H s)(u:Un (Jd X.stack) ch H H' s.heap h')(hok:JY X.prog X.w H' h')(hg:AllBare g')
  (hch:∀b∈ch,(b∈X.ex∨X.s₀.heap.objs.size<=b)/\b≠X.env.locals/\(∀x c,X.env.cells.lookup x=some c->c≠b)/\∀p∈X.pn++pins,p.1≠b):
  Inv X pins σ H' { s with heap:=h',gens:=g',drawn:=d',toks:=t' }:=by
 obtain⟨m,⟨o,es,ep,ho,r⟩,_⟩:=id I.loc
 obtain⟨sl,hL⟩:=u.any ho I.free fun z=>(hch _ z).2.1 rfl
 exact I.step (ch:=ch) hch (fun b o hL hb hc e n=>u.keep b o e n (fun z=>(List.mem_cons.mp (I.stkSub b z)).elim hL hb) hc) (fun b o _ _ hc e n=>u.any e n hc) (fun b o hc e n=>u.free b o e n hc) (fun b o hc e=>u.there b o e hc) u.tups u.frzs u.tbls (fun m' hm=>by
  obtain⟨o',es',ep',ho',r'⟩:=hm
  rw[ho]at ho'; cases ho'
  exact⟨_,es',ep',hL,r'⟩) hok hg
theorem Inv.turned{t':Nat}{it:Addr}(I:Inv X pins σ H s)(k:∀b o,b≠it->s.heap.get? b=some o->h'.get? b=some o)(hn:H it=none)(hL:it≠X.env.locals)
  (h1:it∈X.ex∨X.s₀.heap.objs.size<=it) (h2:∀x c,X.env.cells.lookup x=some c->c≠it) (h3:∀p∈X.pn++pins,p.1≠it):Inv X pins σ H { s with heap:=h',toks:=t' }:=by
 have nit:∀b u,H b=some u->b≠it:=fun b u e z=>by rw[z,hn]at e; cases e
 refine I.step (g':=s.gens) (d':=s.drawn) (ch:=[it]) (fun b hb=>?_) (fun b o _ _ hc e _=>k b o (fun z=>hc (by simp[z])) e) (fun b o _ _ hc e _=>⟨o.slots,k b o (fun z=>hc (by simp[z])) e⟩) (fun _ _ _ _ n=>n)
  (fun b o hc e=>⟨o,k b o (fun z=>hc (by simp[z])) e⟩) (fun _ _ e=>e) (fun _ _ _ e=>e) (fun b ps e=>⟨#[],by rw[e]; simp⟩) (fun m hm=>?_) (fun b u e=>?_) I.bare
 ·have e:b=it:=by simpa using hb
  subst e
  exact⟨h1,hL,h2,h3⟩
 ·obtain⟨o,es,ep,ho,r⟩:=hm
  exact⟨o,es,ep,k _ o (Ne.symm hL) ho,r⟩
 ·refine(I.hok b u e).stay (fun c v hc q=>k c v ?_ q) (fun _ q=>q) fun _ _ q=>q
  rcases hc with z | z
  ·rw[z]; exact nit b u e
  ·exact nit c _ z
theorem Inv.tok(I:Inv X pins σ H s)(t:Nat):Inv X pins σ H { s with toks:=t }:=I.un (h':=s.heap) (t':=t) Un.refl I.hok
theorem Inv.kept{t':Nat}(I:Inv X pins σ H s)(k:∀b u,s.heap.get? b=some u->h'.get? b=some u):Inv X pins σ H { s with heap:=h',toks:=t' }:=I.un (Un.kept k) (I.hok.kept k)
theorem Inv.laid{a:Addr}{o:HO}{t':Nat}(I:Inv X pins σ H s)(k:∀b u,s.heap.get? b=some u->h'.get? b=some u)(hp:s.heap.objs.size<=a)(new:JJ X.prog X.w (upd H a o) h' a o):
  Inv X pins σ (upd H a o) { s with heap:=h',toks:=t' }:=I.un (Un.laid k hp (I.hok.fresh hp)) (I.hok.laid k hp new)
theorem Inv.write{x e:Addr}{o:HO}{t':Nat}(I:Inv X pins σ H s)(mu:ax (H x))(he:e=x∨H e=some (.own x))(k:∀b u,b≠e->s.heap.get? b=some u->h'.get? b=some u)(heo:∃u,h'.get? e=some u)
  (new:JJ X.prog X.w (upd H x o) h' x o):Inv X pins σ (upd H x o) { s with heap:=h',toks:=t' }:=I.un (Un.write mu he k heo) (I.hok.write mu he k heo new)
theorem Inv.weak{σ':List (Option V)}(I:Inv X pins σ H s)(hl:σ'.length=σ.length)(w:∀(i:Nat) v,σ'[i]?=some (some v)->σ[i]?=some (some v)):Inv X pins σ' H s:=
 ⟨I.ok,I.os,I.bare,I.base,let ⟨m,hn,hl'⟩:=I.loc; ⟨m,hn,fun i x v e1 e2 e3=>hl' i x v e1 (w i v e2) e3⟩,I.cell,I.free,I.freeC,I.pin,I.hok,hl.trans I.len⟩
theorem Inv.pins_of{pins':List (Addr×Obj)}(I:Inv X pins σ H s)(h:∀p∈pins',s.heap.get? p.1=some p.2/\H p.1=none/\p.1≠X.env.locals/\p.1∉X.fs/\∀v,p.2.data≠.cell v):Inv X pins' σ H s:=
 ⟨I.ok,I.os,I.bare,I.base,I.loc,I.cell,I.free,I.freeC,fun p hp=>(List.mem_append.mp hp).elim (fun z=>I.pin p (vIa _ z)) (h p),I.hok,I.len⟩
theorem Ug{N:List Str}(hN:N.Nodup){i j:Nat}{x:Str}(a:N[i]?=some x)(b:N[j]?=some x):i=j:=by
 obtain⟨h1,e1⟩:=List.getElem?_eq_some_iff.mp a
 obtain⟨h2,e2⟩:=List.getElem?_eq_some_iff.mp b
 exact(List.getElem_inj hN).mp (e1.trans e2.symm)
theorem Gw{M:Model}{A:Around}{E:Value->Shared->Prop}{i:Nat}{x:Str}{v:V}{u:Value}{Q:Unit->Shared->Prop}(I:Inv X pins σ H s)(hN:X.N.Nodup)(hi:X.N[i]?=some x)(hx:VN X.env.scope x)(r:jm v u)
  (h:∀s',Inv X pins (σ.set i (some v)) H s'->(∃a,Heap.SameBut a s.heap s'.heap/\(a=X.env.locals∨X.env.cells.lookup x=some a))->Q () s') (hf:X.fn x=true∨X.env.scope.names.lookup x=some .local:=by first | exact .inl rfl | exact .inr rfl | assumption):wpAny M A (storeName X.env x u) Q E s:=by
 obtain⟨m,hn,hl⟩:=id I.loc
 have hcls:(X.env.scope.kind==.class||(X.env.scope.kind==.module&&X.env.locals != X.env.globals))=false:=by rw[I.ok.kind]; rfl
 have hiσ:i < σ.length:=by rw[I.len]; exact(List.getElem?_eq_some_iff.mp hi).1
 have cne:=I.cne
 have tracked:∀{a:Addr} {h':Heap},(∃o,s.heap.get? a=some o/\H a=none)->Heap.SameBut a s.heap h'->JY X.prog X.w H h':=fun {a h'} ha hs b ob e=>by
  obtain⟨_,_,hfree⟩:=ha
  refine(I.hok b ob e).stay (fun c w' hc q=>(hs.2 c ?_).trans q) (fun _ q=>q) fun _ _ q=>q
  rintro rfl
  rcases hc with rfl | hc
  ·rw[hfree]at e; cases e
  ·rw[hfree]at hc; cases hc
 rcases hx with hk | hk
 ·refine wpAny_storeName_local hk hn (fun h' hn' hs=>?_) hcls
  obtain⟨oL,_,_,hoL,_⟩:=id hn
  refine h _ ⟨I.ok,I.os,I.bare,⟨fun b o e n hb hx=>?_,fun b o e n hb hx=>?_,I.base.free,fun b o e hx=>?_,I.base.tups,I.base.frzs,I.base.tbls⟩,⟨_,hn',fun j y v' e1 e2 e3=>?_⟩,fun y c e=>?_,I.free,I.freeC,fun p hp=>?_,tracked ⟨oL,hoL,I.free⟩ hs,by simpa using I.len⟩ ⟨_,hs,.inl rfl⟩
  ·exact(hs.2 b (wTa (Nat.lt_of_lt_of_le (wLa e) I.ok.above))).trans (I.base.keep b o e n hb hx)
  ·obtain⟨sl,e1⟩:=I.base.slot b o e n hb hx
   exact⟨sl,(hs.2 b (wTa (Nat.lt_of_lt_of_le (wLa e) I.ok.above))).trans e1⟩
  ·obtain⟨o',e1⟩:=I.base.there b o e hx
   exact⟨o',(hs.2 b (wTa (Nat.lt_of_lt_of_le (wLa e) I.ok.above))).trans e1⟩
  ·by_cases hj:j=i
   ·subst hj
    rw[hi]at e1; cases e1
    rw[List.getElem?_set_self hiσ]at e2
    cases e2
    exact⟨u,r,.inl ⟨hk,by simp⟩⟩
   ·rw[List.getElem?_set_ne (Ne.symm hj)]at e2
    obtain⟨u',r',q⟩:=hl j y v' e1 e2 e3
    refine⟨u',r',?_⟩
    rcases q with⟨k,e⟩ | ⟨k,c,e,z⟩
    ·refine .inl ⟨k,?_⟩
     have:y≠x:=fun e=>hj (Ug hN e1 (e▸hi))
     simp[this,e]
    ·exact .inr ⟨k,c,e,z.sameBut hs (cne y c e)⟩
  ·obtain⟨w',z⟩:=I.cell y c e
   exact⟨w',z.sameBut hs (cne y c e)⟩
  ·obtain⟨e,n,ne,nf,d⟩:=I.pin p hp
   exact⟨(hs.2 p.1 ne).trans e,n,ne,nf,d⟩
 ·have hfn:X.fn x=true:=by
   rcases hf with z | z
   ·exact z
   ·rw[z]at hk; cases hk
  obtain⟨c,hc⟩:=I.ok.has x (.inl hk)
  obtain⟨w',z⟩:=I.cell x c hc
  refine wpAny_storeName_cell I.ok.kind hk hc z (fun h' hc' hs=>?_)
  obtain⟨oc,hoc,hocd⟩:=id z
  refine h { s with heap:=h' } ⟨I.ok,I.os,I.bare,⟨fun b o e n hb hx=>?_,fun b o e n hb hx=>?_,I.base.free,fun b o e hx=>?_,I.base.tups,I.base.frzs,I.base.tbls⟩,⟨m,hn.sameBut hs (Ne.symm (cne x c hc)),fun j y v' e1 e2 e3=>?_⟩,fun y c' e=>?_,I.free,I.freeC,fun p hp=>?_,tracked ⟨oc,hoc,I.freeC x c hc⟩ hs,by simpa using I.len⟩ ⟨c,hs,.inr hc⟩
  ·exact(hs.2 b (wTa (Nat.lt_of_lt_of_le (wLa e) (I.ok.cab x c hfn hc)))).trans (I.base.keep b o e n hb hx)
  ·obtain⟨sl,e1⟩:=I.base.slot b o e n hb hx
   exact⟨sl,(hs.2 b (wTa (Nat.lt_of_lt_of_le (wLa e) (I.ok.cab x c hfn hc)))).trans e1⟩
  ·obtain⟨o',e1⟩:=I.base.there b o e hx
   exact⟨o',(hs.2 b (wTa (Nat.lt_of_lt_of_le (wLa e) (I.ok.cab x c hfn hc)))).trans e1⟩
  ·by_cases hj:j=i
   ·subst hj
    rw[hi]at e1; cases e1
    rw[List.getElem?_set_self hiσ]at e2
    cases e2
    exact⟨u,r,.inr ⟨.inl hk,c,hc,hc'⟩⟩
   ·rw[List.getElem?_set_ne (Ne.symm hj)]at e2
    obtain⟨u',r',q⟩:=hl j y v' e1 e2 e3
    refine⟨u',r',?_⟩
    rcases q with q | ⟨k,c',e,z'⟩
    ·exact .inl q
    ·refine .inr ⟨k,c',e,z'.sameBut hs ?_⟩
     rintro rfl
     exact hj (Ug hN e1 (I.ok.inj _ _ _ e hc▸hi))
  ·by_cases hcc:c'=c
   ·subst hcc; exact⟨_,hc'⟩
   ·obtain⟨w2,z2⟩:=I.cell y c' e
    exact⟨w2,z2.sameBut hs hcc⟩
  ·obtain⟨e,n,ne,nf,d⟩:=I.pin p hp
   refine⟨(hs.2 p.1 ?_).trans e,n,ne,nf,d⟩
   intro q
   rw[q,hoc]at e
   have q':oc=p.2:=vFa e
   exact d w' (by rw[<-q']; exact hocd)
theorem Zb{M:Model}{A:Around}{E:Value->Shared->Prop}{i:Nat}{x:Str}{v:V}{u:Value}{Q:Unit->Shared->Prop}(I:Inv X pins σ H s)(hN:X.N.Nodup)(hi:X.N[i]?=some x)(hx:VN X.env.scope x)(r:jm v u)
  (h:∀s',Inv X pins (σ.set i (some v)) H s'->Q () s') (hf:X.fn x=true∨X.env.scope.names.lookup x=some .local:=by first | exact .inl rfl | exact .inr rfl | assumption):wpAny M A (storeName X.env x u) Q E s:=
 Gw I hN hi hx r (fun s' I' _=>h s' I') hf
theorem Inv.call'{s':Shared}{ch:List Addr}(I:Inv X pins σ H s)(ho:s'.os=s.os)(u:Un (Jd X.stack) ch H H' s.heap s'.heap)(hok:JY X.prog X.w H' s'.heap)(hg:AllBare s'.gens)
  (hch:∀b∈ch,(b∈X.ex∨X.s₀.heap.objs.size<=b)/\b≠X.env.locals/\(∀x c,X.env.cells.lookup x=some c->c≠b)/\∀p∈X.pn++pins,p.1≠b):Inv X pins σ H' s':=by
 obtain⟨h',g',d',t',o'⟩:=s'
 have e:o'=s.os:=ho
 subst e
 exact I.call (g':=g') (t':=t') (d':=d') u hok hg hch
end
noncomputable abbrev XK:=Value->Option Addr->Hp->Prop
noncomputable abbrev St:=List (Option V)
noncomputable abbrev VK:=V->Hp->Prop
noncomputable abbrev TE:=St->Hp->VK->Prop
noncomputable abbrev TT:=St->Hp->(Bool->Hp->Prop)->Prop
noncomputable abbrev TA:=St->Hp->(List V->Hp->Prop)->Prop
structure Ends where
 nx:St->Hp->Prop
 rt:VK
 bk:St->Hp->Prop:=fun _ _=>False
 ct:St->Hp->Prop:=fun _ _=>False
noncomputable abbrev TS:=Ends->St->Hp->Prop
def EP(X:Cx)(pins:List (Addr×Obj))(σ:St)(Q:VK)(u:Value)(s':Shared):Prop:=∃v H',Inv X pins σ H' s'/\jm v u/\Q v H'
def TP(X:Cx)(pins:List (Addr×Obj))(σ:St)(Q:Bool->Hp->Prop)(b:Bool)(s':Shared):Prop:=∃H',Inv X pins σ H' s'/\Q b H'
def AP(X:Cx)(pins:List (Addr×Obj))(σ:St)(Q:List V->Hp->Prop)(us:List Value)(s':Shared):Prop:=∃vs H',Inv X pins σ H' s'/\je vs us/\Q vs H'
def SP(X:Cx)(pins:List (Addr×Obj))(D:Ends)(f:Flow)(s':Shared):Prop:=
 match f with
 | .next=>∃σ' H',Inv X pins σ' H' s'/\D.nx σ' H'
 | .brk=>∃σ' H',Inv X pins σ' H' s'/\D.bk σ' H'
 | .cont=>∃σ' H',Inv X pins σ' H' s'/\D.ct σ' H'
 | .ret u=>∃v σ' H',Inv X pins σ' H' s'/\jm v u/\D.rt v H'
def PE(X:Cx)(e:Expr)(t:TE):Prop:=
 ∀(pins:List (Addr×Obj)) (s:Shared) (σ:St) (H:Hp) (Q:VK),Inv X pins σ H s->t σ H Q->wpAny (model X.prog X.w) X.A (eval e X.env) (EP X pins σ Q) X.xe s
def PT(X:Cx)(e:Expr)(t:TT):Prop:=
 ∀(pins:List (Addr×Obj)) (s:Shared) (σ:St) (H:Hp) (Q:Bool->Hp->Prop),Inv X pins σ H s->t σ H Q->wpAny (model X.prog X.w) X.A (isTrue e X.env (eval e X.env)) (TP X pins σ Q) X.xe s
def PW(X:Cx)(e:Expr)(t:TT):Prop:=
 ∀(whole:Sem Value) (pins:List (Addr×Obj)) (s:Shared) (σ:St) (H:Hp) (Q:Bool->Hp->Prop),Inv X pins σ H s->t σ H Q->wpAny (model X.prog X.w) X.A (isTrue e X.env whole) (TP X pins σ Q) X.xe s
theorem PW.pt{X:Cx}{e:Expr}{t:TT}(h:PW X e t):PT X e t:=h _
def PA(X:Cx)(es:List Expr)(t:TA):Prop:=
 ∀(pos:Pos) (pins:List (Addr×Obj)) (s:Shared) (σ:St) (H:Hp) (Q:List V->Hp->Prop),Inv X pins σ H s->t σ H Q->wpAny (model X.prog X.w) X.A (spliced (backTo pos (starEach es X.env))) (AP X pins σ Q) X.xe s
def PS(X:Cx)(st:Stmt)(t:TS):Prop:=
 ∀(pins:List (Addr×Obj)) (s:Shared) (σ:St) (H:Hp) (D:Ends),Inv X pins σ H s->t D σ H->wpAny (model X.prog X.w) X.A (exec st X.env) (SP X pins D) X.xe s
def jL(X:Cx)(st:List Stmt)(t:TS):Prop:=
 ∀(pins:List (Addr×Obj)) (s:Shared) (σ:St) (H:Hp) (D:Ends),Inv X pins σ H s->t D σ H->wpAny (model X.prog X.w) X.A (execs st X.env) (SP X pins D) X.xe s
theorem jk{α:Type}{t:Sem α}{Q Q':α->Shared->Prop}{M:Model}{A:Around}{E:Value->Shared->Prop}{s:Shared}(h:wpAny M A t Q E s)(hQ:∀a s,Q a s->Q' a s):wpAny M A t Q' E s:=wCa h hQ fun _ _ x=>x
end L2
namespace L2
open PySem PySem.Spec PyProof.Rows
section
variable {X:Cx}
def YY(i:Nat):TE:=fun σ H Q=>∃v,σ[i]?=some (some v)/\Q v H
def tC(v:V):TE:=fun _ H Q=>Q v H
theorem BS{i:Nat}{x:Str}{pos:Pos}(hN:X.N[i]?=some x)(hv:kD X.env.scope x)(hd:(x==("__debug__" : Str))=false:=by decide)(hcd:(x==("__classdict__" : Str))=false:=by decide):PE X (.Name x pos) (YY i):=by
 intro pins s σ H Q I h
 obtain⟨v,e,h⟩:=h
 obtain⟨m,hn,hl⟩:=I.loc
 obtain⟨u,r,l⟩:=hl i x v hN e hv
 have fin:EP X pins σ Q u s:=⟨v,H,I,r,h⟩
 rcases l with⟨hk,hm⟩ | ⟨hk,c,hc,hcell⟩
 ·exact wpAny_Name (wpAny_loadName_local I.ok.kind hk hn hm fin) hd
 ·rcases hk with hk | hk
  ·exact wpAny_Name (wpAny_loadName_cell I.ok.kind hk hc hcell fin) hd
  ·exact wpAny_Name (wpAny_loadName_free I.ok.kind hk hc hcell fin hcd) hd
theorem BU{i j pos}:PE X (.Constant (.int i) j pos) (tC (.int i)):=fun _ _ _ H _ I h=>wpAny_Constant_int ⟨.int i,H,I.tok _,⟨_,rfl⟩,h⟩
theorem Ef{b j pos}:PE X (.Constant (.bool b) j pos) (tC (.bl b)):=fun _ _ _ H _ I h=>Constant_bool ⟨.bl b,H,I,rfl,h⟩
theorem BV{j pos}:PE X (.Constant .none j pos) (tC .non):=fun _ _ _ H _ I h=>Constant_none ⟨.non,H,I,rfl,h⟩
theorem qQ{x j pos}:PE X (.Constant (.str x) j pos) (tC (.str x)):=fun _ _ _ H _ I h=>Calls.Constant_str ⟨.str x,H,I.tok _,⟨_,rfl⟩,h⟩
def Gl(X:Cx)(x:Str):Prop:=X.env.kindOf x=some .globalImplicit
theorem vv{E:Value->Shared->Prop}{pins:List (Addr×Obj)}{s:Shared}{σ:St}{H:Hp}{x:Str}{u:Value}{pos:Pos}{Q:Value->Shared->Prop}(I:Inv X pins σ H s)(hg:Gl X x)(hm:X.mg x=some u)(h:Q u s)
  (hd:(x==("__debug__" : Str))=false:=by decide):wpAny (model X.prog X.w) X.A (eval (.Name x pos) X.env) Q E s:=
 Calls.Name_function_global I.ok.kind hg (Calls.loadGlobal_global (by rw[I.ok.glob]; exact I.mod.glob.keeps I.bk) hm h) hd
theorem Yc{E:Value->Shared->Prop}{pins:List (Addr×Obj)}{s:Shared}{σ:St}{H:Hp}{x:Str}{u:Value}{pos:Pos}{Q:Value->Shared->Prop}(I:Inv X pins σ H s)(hg:Gl X x)(hm:X.mg x=none)(hv:bootBuiltins x=some u)(h:Q u s)
  (hn:x≠ "__name__" := by decide) (hd:(x==("__debug__" : Str))=false:=by decide):wpAny (model X.prog X.w) X.A (eval (.Name x pos) X.env) Q E s:=by
 obtain⟨mb,h1,h2⟩:=I.mod.blt
 exact Calls.Name_function_global I.ok.kind hg (Calls.loadGlobal_builtin (by rw[I.ok.glob]; exact I.mod.glob.keeps I.bk) hm (by rw[I.ok.blt]; exact h1.keeps I.bk) ((h2 x hn).trans hv) h) hd
theorem wQ{x:Str}{v:V}{u:Value}{pos:Pos}(hg:Gl X x)(hm:X.mg x=some u)(r:jm v u)(hd:(x==("__debug__" : Str))=false:=by decide):PE X (.Name x pos) (tC v):=
 fun _ _ _ H _ I h=>vv I hg hm ⟨v,H,I,r,h⟩ hd
theorem gH{x:Str}{v:V}{u:Value}{pos:Pos}(hg:Gl X x)(hm:X.mg x=none)(hv:bootBuiltins x=some u)(r:jm v u)(hn:x≠ "__name__" := by decide)(hd:(x==("__debug__" : Str))=false:=by decide):PE X (.Name x pos) (tC v):=
 fun _ _ _ H _ I h=>Yc I hg hm hv ⟨v,H,I,r,h⟩ hn hd
variable {a b:Expr} {ta tb:TE} {pos:Pos}
variable {tA tB':TT} {rest:List Expr}
def FX(t u:TT):TT:=fun σ H Q=>t σ H fun c H1=>if c=true then u σ H1 Q else Q false H1
def iS(t u:TT):TT:=fun σ H Q=>t σ H fun c H1=>if c=true then Q true H1 else u σ H1 Q
def FY(t:TT):TT:=fun σ H Q=>t σ H fun c H1=>Q (!c) H1
theorem b9(ha:PT X a tA):PW X (.BoolOp .And [a] pos) tA:=by
 intro wh pins s σ H Q I h
 refine isTrue_and (jk (ha pins s σ H Q I h) fun c s1 e=>?_)
 cases c with
 | true=>exact isTrue_and_nil e
 | false=>exact e
theorem BW(ha:PT X a tA):PW X (.BoolOp .Or [a] pos) tA:=by
 intro wh pins s σ H Q I h
 refine isTrue_or (jk (ha pins s σ H Q I h) fun c s1 e=>?_)
 cases c with
 | false=>exact isTrue_or_nil e
 | true=>exact e
theorem BX(ha:PT X a tA)(hb:PW X (.BoolOp .And (b::rest) pos) tB'):PW X (.BoolOp .And (a::b::rest) pos) (FX tA tB'):=by
 intro wh pins s σ H Q I h
 refine isTrue_and (jk (ha pins s σ H _ I h) fun c s1 ⟨H1,I1,q1⟩=>?_)
 cases c with
 | true=>exact hb wh pins s1 σ H1 Q I1 q1
 | false=>exact⟨H1,I1,q1⟩
theorem Eg(ha:PT X a tA)(hb:PW X (.BoolOp .Or (b::rest) pos) tB'):PW X (.BoolOp .Or (a::b::rest) pos) (iS tA tB'):=by
 intro wh pins s σ H Q I h
 refine isTrue_or (jk (ha pins s σ H _ I h) fun c s1 ⟨H1,I1,q1⟩=>?_)
 cases c with
 | true=>exact⟨H1,I1,q1⟩
 | false=>exact hb wh pins s1 σ H1 Q I1 q1
theorem BZ(ha:PT X a tA):PT X (.UnaryOp .Not a pos) (FY tA):=by
 intro pins s σ H Q I h
 exact isTrue_not (ha pins s σ H (fun c H1=>Q (!c) H1) I h)
def Eh(ta tb:TE):TE:=fun σ H Q=>ta σ H fun x H1=>∃c,x=.bl c/\if c=true then tb σ H1 Q else Q (.bl false) H1
def FZ(ta tb:TE):TE:=fun σ H Q=>ta σ H fun x H1=>∃c,x=.bl c/\if c=true then Q (.bl true) H1 else tb σ H1 Q
def Ei(ta:TE):TE:=fun σ H Q=>ta σ H fun x H1=>∃c,x=.bl c/\Q (.bl (!c)) H1
theorem B_{op}{t:TE}(h:PE X a t):PE X (.BoolOp op [a] pos) t:=fun pins s σ H Q I hw=>BoolOp_one (h pins s σ H Q I hw)
theorem cb(ha:PE X a ta)(hb:PE X (.BoolOp .And (b::rest) pos) tb):PE X (.BoolOp .And (a::b::rest) pos) (Eh ta tb):=by
 intro pins s σ H Q I h
 refine BoolOp_and (jk (ha pins s σ H _ I h) fun v s1 ⟨x,H1,I1,r1,q1⟩=>?_)
 obtain⟨c,rfl,q1⟩:=q1
 cases r1
 refine wpAny_truthy_bool ?_
 cases c with
 | true=>exact hb pins s1 σ H1 Q I1 q1
 | false=>exact⟨.bl false,H1,I1,rfl,q1⟩
theorem Ej(ha:PE X a ta)(hb:PE X (.BoolOp .Or (b::rest) pos) tb):PE X (.BoolOp .Or (a::b::rest) pos) (FZ ta tb):=by
 intro pins s σ H Q I h
 refine BoolOp_or (jk (ha pins s σ H _ I h) fun v s1 ⟨x,H1,I1,r1,q1⟩=>?_)
 obtain⟨c,rfl,q1⟩:=q1
 cases r1
 refine wpAny_truthy_bool ?_
 cases c with
 | false=>exact hb pins s1 σ H1 Q I1 q1
 | true=>exact⟨.bl true,H1,I1,rfl,q1⟩
theorem ce(ha:PE X a ta):PE X (.UnaryOp .Not a pos) (Ei ta):=by
 intro pins s σ H Q I h
 refine UnaryOp_ (jk (ha pins s σ H _ I h) fun v s1 ⟨x,H1,I1,r1,q1⟩=>?_)
 obtain⟨c,rfl,q1⟩:=q1
 cases r1
 exact not_of (wpAny_truthy_bool ⟨.bl (!c),H1,I1,rfl,q1⟩)
def iT(t:TT)(ta tb:TE):TE:=fun σ H Q=>t σ H fun c H1=>if c=true then ta σ H1 Q else tb σ H1 Q
theorem xE{c:Expr}(hc:PT X c tA)(ha:PE X a ta)(hb:PE X b tb):PE X (.IfExp c a b pos) (iT tA ta tb):=by
 intro pins s σ H Q I h
 refine wpAny_IfExp (jk (hc pins s σ H _ I h) fun d s1 ⟨H1,I1,q1⟩=>?_)
 cases d with
 | true=>exact ha pins s1 σ H1 Q I1 q1
 | false=>exact hb pins s1 σ H1 Q I1 q1
end
end L2
namespace L2
open PySem PySem.Spec PyProof.Rows
def jt(K:PySem.W.Frag)(H:Hp)(a:Addr)(xs:List V):Prop:=
 Rd H a (.lst xs)∨
  ∃(o:Obj) (its:Array Value) (n:Nat),K.lookup a=some o/\o.cls=.type "list" /\o.dict=none/\o.data=.seq its n/\its.size<=sizeLine/\je xs its.toList
def JB(K:PySem.W.Frag)(H:Hp)(a:Addr)(xs:List V):Prop:=
 Rd H a (.tup xs)∨
  ∃(o:Obj) (its:Array Value) (n:Nat),K.lookup a=some o/\o.cls=.type "tuple" /\o.data=.seq its n/\its.size<=sizeLine/\je xs its.toList
noncomputable def F_:Value->Option V
 | .none=>some .non
 | .bool b=>some (.bl b)
 | .int i _=>some (.int i)
 | .str x _=>some (.str x)
 | .bytes b _=>some (.byt b)
 | .float b _=>some (.flt b)
 | .ref a=>some (.ref a)
 | .type n=>some (.ty n)
 | _=>none
theorem jm.abs{x:V}{u:Value}(r:jm x u):F_ u=some x:=by
 cases x with
 | non=>cases r; rfl
 | bl _=>cases r; rfl
 | int _=>obtain⟨t,rfl⟩:=r; rfl
 | str _=>obtain⟨t,rfl⟩:=r; rfl
 | byt _=>obtain⟨t,rfl⟩:=r; rfl
 | flt _=>obtain⟨t,rfl⟩:=r; rfl
 | ref _=>cases r; rfl
 | ty _=>cases r; rfl
theorem jm.inj{x y:V}{u:Value}(r:jm x u)(q:jm y u):x=y:=vFa (r.abs.symm.trans q.abs)
theorem je.inj:∀{xs ys:List V} {us:List Value},je xs us->je ys us->xs=ys
 | _,_,_,.nil,.nil=>rfl
 | _,_,_,.cons r t,.cons r' t'=>by rw[r.inj r',je.inj t t']
section
variable {X:Cx} {pins:List (Addr×Obj)} {σ:St} {H:Hp} {s:Shared} {a:Addr} {xs ys:List V}
theorem jt.of{K:PySem.W.Frag}(h:H a=some (.lst xs)):jt K H a xs:=.inl (.inl h)
theorem JB.of{K:PySem.W.Frag}(h:H a=some (.tup xs)):JB K H a xs:=.inl (.inl h)
theorem Inv.list(I:Inv X pins σ H s)(h:jt X.K H a xs):∃its:List Value,je xs its/\PlainL s.heap a its.toArray/\xs.length<=sizeLine:=by
 rcases h with h | ⟨o,its,n,hk,hc,hd,hs,hz,r⟩
 ·obtain⟨z,its,n,r,e⟩:=h.ok I.hok
  exact⟨its,r,⟨_,n,e,rfl,rfl,rfl⟩,z⟩
 ·refine⟨its.toList,r,⟨o,n,I.kIn a o hk,hc,hd,by simpa using hs⟩,?_⟩
  have e:=r.length
  simp only[Array.length_toList]at e
  omega
theorem Inv.tuple(I:Inv X pins σ H s)(h:JB X.K H a xs):∃its:List Value,je xs its/\IsTup s.heap a its.toArray/\xs.length<=sizeLine:=by
 rcases h with h | ⟨o,its,n,hk,hc,hs,hz,r⟩
 ·obtain⟨z,its,r,p⟩:=h.ok I.hok
  exact⟨its,r,p,z⟩
 ·refine⟨its.toList,r,⟨o,I.kIn a o hk,hc,n,by simpa using hs⟩,?_⟩
  have e:=r.length
  simp only[Array.length_toList]at e
  omega
theorem Inv.list_inj(I:Inv X pins σ H s)(h:jt X.K H a xs)(h':jt X.K H a ys):xs=ys:=by
 obtain⟨its,r,⟨o,n,e,_,_,d⟩,_⟩:=I.list h
 obtain⟨its',r',⟨o',n',e',_,_,d'⟩,_⟩:=I.list h'
 rw[e]at e'; cases e'
 rw[d]at d'
 injection d' with d1 _
 have:its=its':=by simpa using congrArg Array.toList d1
 subst this
 exact r.inj r'
theorem Inv.tuple_inj(I:Inv X pins σ H s)(h:JB X.K H a xs)(h':JB X.K H a ys):xs=ys:=by
 obtain⟨its,r,⟨o,e,_,n,d⟩,_⟩:=I.tuple h
 obtain⟨its',r',⟨o',e',_,n',d'⟩,_⟩:=I.tuple h'
 rw[e]at e'; cases e'
 rw[d]at d'
 injection d' with d1 _
 have:its=its':=by simpa using congrArg Array.toList d1
 subst this
 exact r.inj r'
end
noncomputable abbrev Cx.wish(X:Cx)(E:Value->Shared->Prop):Cx:={ X with xe:=E }
abbrev Cx.nox(X:Cx):Cx:=X.wish fun _ _=>False
theorem Cx.Ok.wish{X:Cx}(ok:X.Ok)(E:Value->Shared->Prop):(X.wish E).Ok:=
 ⟨ok.mod,ok.kind,ok.glob,ok.blt,ok.above,ok.inj,ok.has,ok.cab,ok.hd,ok.frames,ok.stk,ok.exf,ok.bs,ok.bsz,ok.noex,ok.exfs,ok.funs,ok.frf⟩
theorem Cx.Ok.unwish{X:Cx}{E:Value->Shared->Prop}(ok:(X.wish E).Ok):X.Ok:=
 ⟨ok.mod,ok.kind,ok.glob,ok.blt,ok.above,ok.inj,ok.has,ok.cab,ok.hd,ok.frames,ok.stk,ok.exf,ok.bs,ok.bsz,ok.noex,ok.exfs,ok.funs,ok.frf⟩
section
variable {X:Cx} {pins:List (Addr×Obj)} {σ:St} {H:Hp} {s:Shared} {E:Value->Shared->Prop}
theorem Inv.wish(I:Inv X pins σ H s)(E:Value->Shared->Prop):Inv (X.wish E) pins σ H s:=⟨I.ok.wish E,I.os,I.bare,I.base,I.loc,I.cell,I.free,I.freeC,I.pin,I.hok,I.len⟩
theorem Inv.unwish(I:Inv (X.wish E) pins σ H s):Inv X pins σ H s:=⟨I.ok.unwish,I.os,I.bare,I.base,I.loc,I.cell,I.free,I.freeC,I.pin,I.hok,I.len⟩
theorem SP.unwish{D:Ends}{f:Flow}{s':Shared}(h:SP (X.wish E) pins D f s'):SP X pins D f s':=by
 cases f with
 | next=>obtain⟨σ',H',I,q⟩:=h; exact⟨σ',H',I.unwish,q⟩
 | brk=>obtain⟨σ',H',I,q⟩:=h; exact⟨σ',H',I.unwish,q⟩
 | cont=>obtain⟨σ',H',I,q⟩:=h; exact⟨σ',H',I.unwish,q⟩
 | ret u=>obtain⟨v,σ',H',I,r,q⟩:=h; exact⟨v,σ',H',I.unwish,r,q⟩
theorem PT.nox{e:Expr}{t:TT}(h:PT X.nox e t):PT X e t:=fun pins s σ H Q I hw=>
 wCa (h pins s σ H Q (I.wish _) hw) (fun _ _ ⟨H',I',q⟩=>⟨H',I'.unwish,q⟩) fun _ _ z=>False.elim z
theorem jL.nox{st:List Stmt}{t:TS}(h:jL X.nox st t):jL X st t:=fun pins s σ H D I hw=>
 wCa (h pins s σ H D (I.wish _) hw) (fun _ _ q=>q.unwish) fun _ _ z=>False.elim z
end
section
variable {X:Cx} {st:Stmt} {rest:List Stmt} {t u:TS} {e:Expr} {te:TE} {pos:Pos}
def ay:TS:=fun D σ H=>D.nx σ H
def hI(t u:TS):TS:=fun D σ H=>t { D with nx:=u D } σ H
theorem ba:jL X [] ay:=fun _ _ σ H _ I h=>wpAny_execs_nil ⟨σ,H,I,h⟩
theorem Uh(h1:PS X st t)(h2:jL X rest u):jL X (st::rest) (hI t u):=by
 intro pins s σ H D I h
 refine wGa (jk (h1 pins s σ H { D with nx:=u D } I h) fun f s1 q=>?_)
 cases f with
 | next=>
  obtain⟨σ',H',I',q⟩:=q
  exact h2 pins s1 σ' H' D I' q
 | ret v=>exact q
 | brk=>exact q
 | cont=>exact q
theorem wR(h1:PS X st t):jL X [st] t:=by
 intro pins s σ H D I h
 refine wGa (jk (h1 pins s σ H D I h) fun f s1 q=>?_)
 cases f with
 | next=>exact wpAny_execs_nil q
 | ret v=>exact q
 | brk=>exact q
 | cont=>exact q
def cf:TS:=fun D σ H=>D.bk σ H
def Ek:TS:=fun D σ H=>D.ct σ H
theorem bb:PS X (.Pass pos) ay:=fun _ _ σ H _ I h=>wpAny_Pass ⟨σ,H,I,h⟩
theorem xF:PS X (.Break pos) cf:=fun _ _ σ H _ I h=>wpAny_Break ⟨σ,H,I,h⟩
theorem wF:PS X (.Continue pos) Ek:=fun _ _ σ H _ I h=>wpAny_Continue ⟨σ,H,I,h⟩
theorem Inv.quiet{pins:List (Addr×Obj)}{σ:St}{H:Hp}{s:Shared}(I:Inv X pins σ H s):interactive X.env=false:=by simp[interactive,I.ok.kind]
def kj(te:TE):TS:=fun D σ H=>te σ H fun _ H1=>D.nx σ H1
theorem vz(he:PE X e te)(hs:swapsWith e none pos.line X.env=pure false:=by rfl):PS X (.Expr e pos) (kj te):=by
 intro pins s σ H D I h
 exact wpAny_Expr_any (jk (he pins s σ H _ I h) fun v s1 ⟨x,H1,I1,r1,q1⟩=>⟨σ,H1,I1,q1⟩) I.quiet hs
def hU(te:TE):TS:=fun D σ H=>te σ H D.rt
theorem kE(he:PE X e te):PS X (.Return (some e) pos) (hU te):=by
 intro pins s σ H D I h
 exact wpAny_Return_some (jk (he pins s σ H _ I h) fun v s1 ⟨x,H1,I1,r1,q1⟩=>⟨x,σ,H1,I1,r1,q1⟩)
def El:TS:=fun D _ H=>D.rt .non H
theorem bc:PS X (.Return none pos) El:=fun _ _ σ H _ I h=>wpAny_Return_none ⟨.non,σ,H,I,rfl,h⟩
def hV(c:TT)(t u:TS):TS:=fun D σ H=>c σ H fun b H1=>if b=true then t D σ H1 else u D σ H1
theorem az{c:Expr}{a b:List Stmt}{tc:TT}(hc:PT X c tc)(ha:jL X a t)(hb:jL X b u):PS X (.If c a b pos) (hV tc t u):=by
 intro pins s σ H D I h
 refine wpAny_If (jk (hc pins s σ H _ I h) fun d s1 ⟨H1,I1,q1⟩=>?_)
 cases d with
 | true=>exact ha pins s1 σ H1 D I1 q1
 | false=>exact hb pins s1 σ H1 D I1 q1
def cg:TS:=fun _ _ _=>False
theorem Gx{sts:List Stmt}:jL X sts cg:=fun _ _ _ _ _ _ h=>h.elim
end
noncomputable abbrev TG:=V->St->Hp->(St->Hp->Prop)->Prop
noncomputable abbrev UL:=List V->St->Hp->(St->Hp->Prop)->Prop
def PG(X:Cx)(target:Expr)(t:TG):Prop:=
 ∀(pins:List (Addr×Obj)) (s:Shared) (σ:St) (H:Hp) (v:V) (u:Value) (Q:St->Hp->Prop),Inv X pins σ H s->jm v u->t v σ H Q->
  wpAny (model X.prog X.w) X.A (assign target X.env u) (fun _ s'=>∃σ' H',Inv X pins σ' H' s'/\Q σ' H') X.xe s
def VO(X:Cx)(ts:List Expr)(t:UL):Prop:=
 ∀(pins:List (Addr×Obj)) (s:Shared) (σ:St) (H:Hp) (vs:List V) (us:List Value) (Q:St->Hp->Prop),Inv X pins σ H s->je vs us->t vs σ H Q->
  wpAny (model X.prog X.w) X.A (assignInOrder ((assignEach ts X.env).map (·.2)) us) (fun _ s'=>∃σ' H',Inv X pins σ' H' s'/\Q σ' H') X.xe s
noncomputable abbrev xG:=V->V->V->Hp->(Hp->Prop)->Prop
def xH(X:Cx)(t:xG):Prop:=
 ∀(pins:List (Addr×Obj)) (s:Shared) (σ:St) (H:Hp) (o i v:V) (ov iv u:Value) (Q:Hp->Prop),Inv X pins σ H s->jm o ov->jm i iv->jm v u->t o i v H Q->
  wpAny (model X.prog X.w) X.A (setItem ov iv u) (fun _ s'=>∃H',Inv X pins σ H' s'/\Q H') X.xe s
noncomputable abbrev aA:=V->V->Hp->VK->Prop
def ci(X:Cx)(op:Operator)(t:aA):Prop:=
 ∀(pins:List (Addr×Obj)) (s:Shared) (σ:St) (H:Hp) (x y:V) (v u:Value) (Q:VK),Inv X pins σ H s->jm x v->jm y u->t x y H Q->
  wpAny (model X.prog X.w) X.A (inplaceOp op v u) (EP X pins σ Q) X.xe s
section
variable {X:Cx} {pos:Pos}
def ZM(i:Nat):TG:=fun v σ H Q=>Q (σ.set i (some v)) H
theorem bg{i:Nat}{x:Str}(hN:X.N.Nodup)(hi:X.N[i]?=some x)(hx:VN X.env.scope x)(hf:X.fn x=true∨X.env.scope.names.lookup x=some .local:=by first | exact .inl rfl | exact .inr rfl | assumption):PG X (.Name x pos) (ZM i):=by
 intro pins s σ H v u Q I r h
 exact wpAny_assign_Name (Zb I hN hi hx r (fun s' I'=>⟨_,H,I',h⟩) hf)
def hW:UL:=fun vs σ H Q=>vs=[]/\Q σ H
def Em(t:TG)(u:UL):UL:=fun vs σ H Q=>∃v r,vs=v::r/\t v σ H fun σ' H'=>u r σ' H' Q
theorem bh:VO X [] hW:=by
 intro pins s σ H vs us Q I r h
 obtain⟨e,h⟩:=h
 subst e
 cases r
 exact assignInOrder_nil ⟨σ,H,I,h⟩
theorem xI{e:Expr}{es:List Expr}{t:TG}{u:UL}(h1:PG X e t)(h2:VO X es u)
  (hs:(assignEach (e::es) X.env).map (·.2)=assign e X.env::(assignEach es X.env).map (·.2):=by rfl):VO X (e::es) (Em t u):=by
 intro pins s σ H vs us Q I r h
 obtain⟨v,vr,e1,h⟩:=h
 subst e1
 cases r with
 | cons r rr=>
  rw[hs]
  refine assignInOrder_cons (jk (h1 pins s σ H _ _ _ I r h) fun _ s1 ⟨σ1,H1,I1,q1⟩=>?_)
  exact h2 pins s1 σ1 H1 _ _ Q I1 rr q1
def hX(K:PySem.W.Frag)(n:Nat)(t:UL):TG:=fun v σ H Q=>∃a xs,v=.ref a/\JB K H a xs/\xs.length=n/\t xs σ H Q
theorem cj{es:List Expr}{k:Nat}{t:UL}{n:Nat}(hc:X.calm=true)(h:VO X es t)
  (hn:(assignEach es X.env).length=n:=by rfl) (hst:(assignEach es X.env).findIdx? (·.1)=none:=by rfl):PG X (.Tuple es k pos) (hX X.K n t):=by
 intro pins s σ H v u Q I r hw
 obtain⟨a,xs,e1,hq,hl,hw⟩:=hw
 subst e1
 cases r
 obtain⟨its,rv,ht,hz⟩:=I.tuple hq
 refine assign_Tuple_tuple (I.ok.hd hc) ht (by simp[hn,<-hl,rv.length]) hst fun h' hx=>?_
 have I1:Inv X pins σ H { s with heap:=h' }:=I.kept (t':=s.toks) fun b o e=>hx b o (wTa (wLa e)) e
 exact h pins _ σ H xs _ Q I1 (by simpa using rv) hw
def xJ(to ti:TE)(t:xG):TG:=fun v σ H Q=>to σ H fun o H1=>ti σ H1 fun i H2=>t o i v H2 fun H3=>Q σ H3
theorem qR{o i:Expr}{to ti:TE}{t:xG}(ho:PE X o to)(hi:PE X i ti)(hs:xH X t)
  (ha:∀v,assign (.Subscript o i pos) X.env v=(do
   let ov<-holding [v] (eval o X.env)
   let iv<-holding [v,ov] (eval i X.env)
   standAt pos
   holding [v,ov,iv] (setItem ov iv v)
   release [v,ov,iv] []):=by intro _; rfl):PG X (.Subscript o i pos) (xJ to ti t):=by
 intro pins s σ H v u Q I r h
 rw[ha]
 refine wAa (wDa (jk (ho pins s σ H _ I h) fun ov s1 ⟨x,H1,I1,r1,q1⟩=>?_))
 refine wAa (wDa (jk (hi pins s1 σ H1 _ I1 q1) fun iv s2 ⟨y,H2,I2,r2,q2⟩=>?_))
 refine wAa (vOa (wAa (wDa (jk (hs pins s2 σ H2 x y v ov iv u _ I2 r1 r2 r q2) fun _ s3 ⟨H3,I3,q3⟩=>?_))))
 exact wpAny_release ⟨σ,H3,I3,q3⟩
def zC(te:TE)(g:TG):TS:=fun D σ H=>te σ H fun x H1=>g x σ H1 D.nx
theorem kG{tg e:Expr}{te:TE}{g:TG}(he:PE X e te)(hg:PG X tg g)(hs:swapsWithSole [tg] e pos.line X.env=pure false:=by rfl)(hw:swappedStores [tg] e X.env=pure none:=by rfl)
  (h1:(assignEach [tg] X.env).map (·.2)=[assign tg X.env]:=by rfl):PS X (.Assign [tg] e pos) (zC te g):=by
 intro pins s σ H D I h
 refine wpAny_Assign_stores (jk (he pins s σ H _ I h) fun v s1 ⟨x,H1,I1,r1,q1⟩=>?_) hs hw
 rw[h1]
 exact jk (hg pins s1 σ H1 x v _ I1 r1 q1) fun _ s2 q=>q
theorem UM{i:Nat}{x:Str}{e:Expr}{te:TE}{pos':Pos}(hN:X.N.Nodup)(hi:X.N[i]?=some x)(hx:VN X.env.scope x)(he:PE X e te)(hs:swapsWith e (some (.Name x pos')) pos.line X.env=pure false:=by rfl)(hf:X.fn x=true∨X.env.scope.names.lookup x=some .local:=by first | exact .inl rfl | exact .inr rfl | assumption):
  PS X (.Assign [.Name x pos'] e pos) (zC te (ZM i)):=by
 intro pins s σ H D I h
 refine wpAny_Assign_Name (jk (he pins s σ H _ I h) fun v s1 ⟨y,H1,I1,r1,q1⟩=>?_) hs
 exact Zb I1 hN hi hx r1 (fun s2 I2=>⟨_,H1,I2,q1⟩) hf
def ck(i:Nat)(te:TE)(ti:aA):TS:=fun D σ H=>∃x,σ[i]?=some (some x)/\te σ H fun y H1=>ti x y H1 fun z H2=>D.nx (σ.set i (some z)) H2
theorem qS{i:Nat}{x:Str}{e:Expr}{te:TE}{op:Operator}{ti:aA}{pos':Pos}(hN:X.N.Nodup)(hi:X.N[i]?=some x)(hx:VN X.env.scope x)(he:PE X e te)(ho:ci X op ti)(hf:X.fn x=true∨X.env.scope.names.lookup x=some .local:=by first | exact .inl rfl | exact .inr rfl | assumption):
  PS X (.AugAssign (.Name x pos') op e pos) (ck i te ti):=by
 intro pins s σ H D I h
 obtain⟨v,e1,h⟩:=h
 obtain⟨m,hn,hl⟩:=I.loc
 have vis:kD X.env.scope x:=by rcases hx with k | k; exact .inl k; exact .inr (.inl k)
 obtain⟨u,r,l⟩:=hl i x v hi e1 vis
 refine wpAny_AugAssign_Name ?_
 have go:wpAny (model X.prog X.w) X.A (eval e X.env) (fun w s₂=>wpAny (model X.prog X.w) X.A (inplaceOp op u w) (fun r s₃=>wpAny (model X.prog X.w) X.A (storeName X.env x r) (fun _=>SP X pins D .next) X.xe s₃) X.xe s₂) X.xe s:=by
  refine jk (he pins s σ H _ I h) fun w s1 ⟨y,H1,I1,r1,q1⟩=>?_
  refine jk (ho pins s1 σ H1 v y u w _ I1 r r1 q1) fun z s2 ⟨zv,H2,I2,r2,q2⟩=>?_
  exact Zb I2 hN hi hx r2 (fun s3 I3=>⟨_,H2,I3,q2⟩) hf
 rcases l with⟨hk,hm⟩ | ⟨hk,c,hc,hcell⟩
 ·exact wpAny_loadName_local I.ok.kind hk hn hm go
 ·rcases hk with hk | hk
  ·exact wpAny_loadName_cell I.ok.kind hk hc hcell go
  ·rcases hx with k | k
   ·have:X.env.scope.names.lookup x=some .free:=hk
    rw[k]at this; cases this
   ·have:X.env.scope.names.lookup x=some .free:=hk
    rw[k]at this; cases this
noncomputable def cm(f:Int->Int->Int):aA:=fun x y H Q=>∃i j,x=.int i/\y=.int j/\Q (.int (f i j)) H
theorem cn:ci X .Add (cm fun i j=>i+j):=by
 intro pins s σ H x y v u Q I r1 r2 h
 obtain⟨i,j,e1,e2,q⟩:=h
 subst e1; subst e2
 obtain⟨t,rfl⟩:=r1
 obtain⟨t',rfl⟩:=r2
 exact iadd_int ⟨.int _,H,I.tok _,⟨_,rfl⟩,q⟩
theorem cq:ci X .Sub (cm fun i j=>i - j):=by
 intro pins s σ H x y v u Q I r1 r2 h
 obtain⟨i,j,e1,e2,q⟩:=h
 subst e1; subst e2
 obtain⟨t,rfl⟩:=r1
 obtain⟨t',rfl⟩:=r2
 exact isub_int ⟨.int _,H,I.tok _,⟨_,rfl⟩,q⟩
end
section
variable {X:Cx} {pos:Pos}
def cr(c:TT)(tb:TS):TS:=fun D σ H=>∃W:Nat->St->Hp->Prop,(∃m,W m σ H)/\∀m σ H,W m σ H->
 c σ H fun b H1=>if b=true then∃N:St->Hp->Prop,(∀σ' H',N σ' H'->∃m',m' < m/\W m' σ' H')/\tb { D with nx:=N,ct:=N,bk:=D.nx } σ H1 else D.nx σ H1
theorem xK{c:Expr}{body:List Stmt}{tc:TT}{tb:TS}(hp:PassesOwn (model X.prog X.w) X.A X.env X.xe)(hc:PT X c tc)(hb:jL X body tb):PS X (.While c body [] pos) (cr tc tb):=by
 intro pins s σ H D I h
 obtain⟨W,⟨m0,w0⟩,turn⟩:=h
 refine wpAny_While (codeAny_whileLoop (fun n s'=>∃σ' H',Inv X pins σ' H' s'/\W n σ' H') ?_ m0 ⟨σ,H,I,w0⟩)
 rintro n s1 ⟨σ1,H1,I1,w1⟩
 refine wpAny_passesOwn hp (jk (hc pins s1 σ1 H1 _ I1 (turn n σ1 H1 w1)) fun b s2 ⟨H2,I2,q2⟩=>?_)
 cases b with
 | true=>
  obtain⟨N,hN,q2⟩:=q2
  rw[if_pos rfl]
  refine wpAny_passesOwn hp (jk (hb pins s2 σ1 H2 _ I2 q2) fun f s3 q3=>?_)
  cases f with
  | next=>
   obtain⟨σ3,H3,I3,n3⟩:=q3
   obtain⟨m',hm,w3⟩:=hN σ3 H3 n3
   exact⟨m',hm,σ3,H3,I3,w3⟩
  | cont=>
   obtain⟨σ3,H3,I3,n3⟩:=q3
   obtain⟨m',hm,w3⟩:=hN σ3 H3 n3
   exact⟨m',hm,σ3,H3,I3,w3⟩
  | brk=>exact q3
  | ret v=>exact q3
 | false=>
  rw[if_neg Bool.false_ne_true]
  exact wpAny_execs_nil ⟨σ1,H2,I2,q2⟩
end
structure It where
 go:Nat->Hp->Prop
 yld:Nat->Hp->V->Hp->Prop
 stop:Nat->Hp->Prop
def Jt(X:Cx)(pins:List (Addr×Obj))(H:Hp)(b:Addr):Prop:=
 H b=none/\b≠X.env.locals/\b∉X.fs/\(b∈X.ex∨X.s₀.heap.objs.size<=b)/\(∀x c,X.env.cells.lookup x=some c->c≠b)/\∀p∈X.pn++pins,p.1≠b
theorem Inv.fpOk{X:Cx}{pins:List (Addr×Obj)}{σ:St}{H H':Hp}{s:Shared}{b:Addr}(I:Inv X pins σ H s)(hb:s.heap.objs.size<=b)(hn:H' b=none):Jt X pins H' b:=by
 refine⟨hn,Nat.ne_of_gt (Nat.lt_of_lt_of_le I.lt hb),I.nofs hb,.inr (wSa I.sz hb),fun x c e z=>?_,fun p hp z=>?_⟩
 ·obtain⟨v,q⟩:=I.cell x c e
  exact vDa (Nat.lt_of_lt_of_le q.lt (by rw[z]; exact hb)) (wUa _)
 ·exact vDa (Nat.lt_of_lt_of_le (wLa (I.pin p hp).1) (by rw[z]; exact hb)) (wUa _)
structure Turn (P:Program) (w:World) (K:PySem.W.Frag) (tg:Expr) (J:It) (fp:List Addr) (it:Addr) (tn:Nat->Heap->Prop):Prop where
 mem:it∈fp
 obj:∀i h,tn i h->∀b∈fp,∃o,h.get? b=some o/\∀v,o.data≠.cell v
 keep:∀i h h',tn i h->(∀b∈fp,∀o,h.get? b=some o->h'.get? b=some o)->tn i h'
 item:∀(X:Cx),X.prog=P->X.w=w->X.K=K->X.calm=true->∀(i:Nat) (pins:List (Addr×Obj)) (s:Shared) (σ:St) (H:Hp) (E:Value->Shared->Prop),Inv X pins σ H s->(∀b∈fp,Jt X pins H b)->tn i s.heap->J.go i H->
  wpAny (model P w) X.A (pyNext (.ref it)) (fun r s1=>∃u,r=some u/\
   wpAny (model P w) X.A (letOwnedTupleGo tg (.ref it) u) (fun _ s2=>∃x H',Inv X pins σ H' s2/\jm x u/\J.yld i H x H'/\tn (i+1) s2.heap/\∀b∈fp,H' b=none) E s1) E s
 done:∀(X:Cx),X.prog=P->X.w=w->X.K=K->X.calm=true->∀(i:Nat) (pins:List (Addr×Obj)) (s:Shared) (σ:St) (H:Hp) (E:Value->Shared->Prop),Inv X pins σ H s->(∀b∈fp,Jt X pins H b)->tn i s.heap->J.stop i H->
  wpAny (model P w) X.A (pyNext (.ref it)) (fun r s1=>r=none/\Inv X pins σ H s1) E s
 self:∀(A:Around) (i:Nat) (s:Shared) (Q:Value->Shared->Prop) (E:Value->Shared->Prop),tn i s.heap->Q (.ref it) s->wpAny (model P w) A (pyIter (.ref it)) Q E s
noncomputable abbrev TI:=St->Hp->(It->Hp->Prop)->Prop
def Fq(X:Cx)(pins:List (Addr×Obj))(σ:St)(tg:Expr)(R:It->Hp->Prop)(itv:Value)(s2:Shared):Prop:=
 ∃(it:Addr) (fp:List Addr) (tn:Nat->Heap->Prop) (J:It) (H':Hp),itv=.ref it/\Inv X pins σ H' s2/\Turn X.prog X.w X.K tg J fp it tn/\tn 0 s2.heap/\(∀b∈fp,Jt X pins H' b)/\R J H'
def PI(X:Cx)(tg iter:Expr)(wi:TI):Prop:=
 ∀(pins:List (Addr×Obj)) (s:Shared) (σ:St) (H:Hp) (R:It->Hp->Prop),Inv X pins σ H s->wi σ H R->
  wpAny (model X.prog X.w) X.A (eval iter X.env) (fun v s1=>wpAny (model X.prog X.w) X.A (pyIter v) (Fq X pins σ tg R) X.xe s1) X.xe s
theorem UN{M:Model}{A:Around}{E:Value->Shared->Prop}{s:Shared}{tg:Expr}{it:Addr}{u:Value}{o:Obj}{n:String}{vs:Array Value}{Q:Unit->Shared->Prop}(ho:s.heap.get? it=some o)(hc:o.cls=.type n)(hd:o.data=.fields vs)
  (hn:["enumerate", "zip", "dict_itemiterator", "dict_reverseitemiterator", "odict_iterator", "itertools.zip_longest", "itertools.pairwise"].contains n=false) (hQ:Q () s):wpAny M A (letOwnedTupleGo tg (.ref it) u) Q E s:=by
 unfold letOwnedTupleGo
 cases tg <;> first
  | exact wBa hQ
  | (cases u <;> first
    | exact wBa hQ
    | (refine wAa (wpAny_load ho ?_)
       rw[hc,hd]
       show wpAny M A (if (["enumerate", "zip", "dict_itemiterator", "dict_reverseitemiterator", "odict_iterator", "itertools.zip_longest", "itertools.pairwise"].contains n&&vs[0]?==some (rawInt _))=true then _ else _) Q E s
       rw[if_neg (by intro h; rw[hn,Bool.false_and]at h; cases h)]
       exact wBa hQ))
def cu(K:PySem.W.Frag)(a:Addr):It:=
 ⟨fun i H=>∃xs x,jt K H a xs/\xs[i]?=some x,fun i H x H'=>H'=H/\∀xs,jt K H a xs->xs[i]?=some x,fun i H=>∃xs,jt K H a xs/\xs.length<=i⟩
def cw(K:PySem.W.Frag)(a:Addr):It:=
 ⟨fun i H=>∃xs x,JB K H a xs/\xs[i]?=some x,fun i H x H'=>H'=H/\∀xs,JB K H a xs->xs[i]?=some x,fun i H=>∃xs,JB K H a xs/\xs.length<=i⟩
def qT(lo:Int)(n:Nat):It:=⟨fun i _=>i < n,fun i H x H'=>H'=H/\x=.int (lo+i),fun i _=>n<=i⟩
theorem qU{P:Program}{w:World}{K:PySem.W.Frag}{tg:Expr}(a it:Addr):Turn P w K tg (cu K a) [it] it (fun i h=>h.IsListIter it a i) where
 mem:=by simp
 obj:=fun i h st b hb=>by
  have e:b=it:=by simpa using hb
  subst e
  obtain⟨o,e,c,d⟩:=st
  exact⟨o,e,fun v z=>by rw[d]at z; cases z⟩
 keep:=fun i h h' st k=>st.at fun o e=>k it (by simp) o e
 item:=by
  intro X hP hw hK hc i pins s σ H E I hf st hg
  subst hP hw hK
  obtain⟨xs,x,hq,hx⟩:=hg
  obtain⟨its,rv,p,hz⟩:=I.list hq
  obtain⟨u,hu,ru⟩:=rv.get hx
  obtain⟨f0,f1,f2,f3,f4,f5⟩:=hf it (by simp)
  refine wpAny_pyNext_list_item st p.isList (x:=u) (by simpa using hu) fun h' st' sb=>?_
  have I1:Inv X pins σ H { s with heap:=h' }:=I.turned (t':=s.toks) (fun b o hb e=>(sb.2 b hb).trans e) f0 f1 f3 f4 f5
  obtain⟨o,e,c,d⟩:=id st'
  exact⟨u,rfl,UN (s:={ s with heap:=h' }) e c d (by decide) ⟨x,H,I1,ru,⟨rfl,fun ys hy=>by rw[I.list_inj hy hq]; exact hx⟩,st',fun b hb=>(hf b hb).1⟩⟩
 done:=by
  intro X hP hw hK hc i pins s σ H E I hf st hg
  subst hP hw hK
  obtain⟨xs,hq,hx⟩:=hg
  obtain⟨its,rv,p,hz⟩:=I.list hq
  obtain⟨f0,f1,f2,f3,f4,f5⟩:=hf it (by simp)
  have hl:=rv.length
  exact wpAny_pyNext_list_end (I.ok.hd hc) st p.isList (by simp; omega) fun h' eb=>⟨rfl,I.turned (t':=s.toks) (fun b o hb e=>eb b o hb e) f0 f1 f3 f4 f5⟩
 self:=fun _ _ _ _ _ st h=>wpAny_pyIter_listiter st h
theorem WG{P:Program}{w:World}{K:PySem.W.Frag}{tg:Expr}(a it:Addr):Turn P w K tg (cw K a) [it] it (fun i h=>h.IsTupleIter it a i) where
 mem:=by simp
 obj:=fun i h st b hb=>by
  have e:b=it:=by simpa using hb
  subst e
  obtain⟨o,e,c,d⟩:=st
  exact⟨o,e,fun v z=>by rw[d]at z; cases z⟩
 keep:=fun i h h' st k=>st.at fun o e=>k it (by simp) o e
 item:=by
  intro X hP hw hK hc i pins s σ H E I hf st hg
  subst hP hw hK
  obtain⟨xs,x,hq,hx⟩:=hg
  obtain⟨its,rv,p,hz⟩:=I.tuple hq
  obtain⟨u,hu,ru⟩:=rv.get hx
  obtain⟨f0,f1,f2,f3,f4,f5⟩:=hf it (by simp)
  refine wpAny_pyNext_tuple_item st (show s.heap.IsTuple a its.toArray from p) (x:=u) (by simpa using hu) fun h' st' sb=>?_
  have I1:Inv X pins σ H { s with heap:=h' }:=I.turned (t':=s.toks) (fun b o hb e=>(sb.2 b hb).trans e) f0 f1 f3 f4 f5
  obtain⟨o,e,c,d⟩:=id st'
  exact⟨u,rfl,UN (s:={ s with heap:=h' }) e c d (by decide) ⟨x,H,I1,ru,⟨rfl,fun ys hy=>by rw[I.tuple_inj hy hq]; exact hx⟩,st',fun b hb=>(hf b hb).1⟩⟩
 done:=by
  intro X hP hw hK hc i pins s σ H E I hf st hg
  subst hP hw hK
  obtain⟨xs,hq,hx⟩:=hg
  obtain⟨its,rv,p,hz⟩:=I.tuple hq
  obtain⟨f0,f1,f2,f3,f4,f5⟩:=hf it (by simp)
  have hl:=rv.length
  exact wpAny_pyNext_tuple_end (I.ok.hd hc) st (show s.heap.IsTuple a its.toArray from p) (by simp; omega) fun h' eb=>⟨rfl,I.turned (t':=s.toks) (fun b o hb e=>eb b o hb e) f0 f1 f3 f4 f5⟩
 self:=fun _ _ _ _ _ st h=>wpAny_pyIter_tupleiter st h
theorem WH{P:Program}{w:World}{K:PySem.W.Frag}{tg:Expr}(it:Addr)(lo:Int)(n:Nat):Turn P w K tg (qT lo n) [it] it (fun i h=>IsRangeIter h it (lo+(i:Nat) * 1) ((n:Int) - (i:Nat)) 1) where
 mem:=by simp
 obj:=fun i h st b hb=>by
  have e:b=it:=by simpa using hb
  subst e
  exact⟨_,st,fun v z=>by
   have z':Data.fields _=Data.cell v:=z
   cases z'⟩
 keep:=fun i h h' st k=>k it (by simp) _ st
 item:=by
  intro X hP hw hK hc i pins s σ H E I hf st hg
  subst hP hw hK
  obtain⟨f0,f1,f2,f3,f4,f5⟩:=hf it (by simp)
  have W:=Walks.range (prog:=X.prog) (w:=X.w) (I.ok.hd hc) it lo 1 n
  refine W.item i s _ _ hg st fun v h' tk hv st' kk=>?_
  obtain⟨t,rfl⟩:=hv
  have I1:Inv X pins σ H { s with heap:=h',toks:=tk }:=I.turned (fun b o hb e=>kk b o (by simpa using hb) e) f0 f1 f3 f4 f5
  refine⟨_,rfl,UN (s:={ s with heap:=h',toks:=tk }) (n := "range_iterator") st' rfl rfl (by decide) ⟨.int (lo+i),H,I1,⟨t,?_⟩,⟨rfl,rfl⟩,st',fun b hb=>(hf b hb).1⟩⟩
  rw[Int.mul_one]
 done:=by
  intro X hP hw hK hc i pins s σ H E I hf st hg
  subst hP hw hK
  obtain⟨f0,f1,f2,f3,f4,f5⟩:=hf it (by simp)
  exact wpAny_pyNext_range_end (I.ok.hd hc) st (by have:n<=i:=hg; omega) fun h' eb=>⟨rfl,I.turned (t':=s.toks) (fun b o hb e=>eb b o hb e) f0 f1 f3 f4 f5⟩
 self:=fun _ _ _ _ _ st h=>wpAny_pyIter_rangeiter st h
end L2
namespace L2
open PySem PySem.Spec PyProof.Rows
section
variable {X:Cx} {tg:Expr}
theorem kH{pins:List (Addr×Obj)}{σ:St}{H:Hp}{s:Shared}{R:It->Hp->Prop}{E:Value->Shared->Prop}{lo hi:Int}{t u v:Tok}{tk:Nat}(I:Inv X pins σ H s)(h1:-(2 ^ 62)<=lo)(h2:lo < 2 ^ 62)(h3:-(2 ^ 62)<=hi)(h4:hi < 2 ^ 62)
  (q:R (qT lo (hi - lo).toNat) H):wpAny (model X.prog X.w) X.A (pyIter (.ref s.heap.objs.size)) (Fq X pins σ tg R) E { s with heap:=s.heap.push { cls:=.type "range",data:=.fields #[.int lo t,.int hi u,.int 1 v] },toks:=tk }:=by
 refine wpAny_pyIter_range (IsRange.new ..) (small_one h1 h2 h3 h4) ?_
 have I1:Inv X pins σ H { s with heap:=s.heap.push { cls:=.type "range",data:=.fields #[.int lo t,.int hi u,.int 1 v] },toks:=tk }:=I.kept fun b o e=>wIa _ e
 refine⟨(s.heap.push { cls:=.type "range",data:=.fields #[.int lo t,.int hi u,.int 1 v] }).objs.size,[(s.heap.push { cls:=.type "range",data:=.fields #[.int lo t,.int hi u,.int 1 v] }).objs.size],_,_,H,rfl,
  I1.kept (t':=tk) fun b o e=>wIa _ e,WH _ lo (hi - lo).toNat,?_,fun b hb=>?_,q⟩
 ·have e1:lo+((0:Nat):Int) * 1=lo:=by simp
  have e2:(((hi - lo).toNat:Nat):Int) - ((0:Nat):Int)=Builtin.Range.rangeSize lo hi 1:=by rw[rangeSize_one]; split <;> omega
  show IsRangeIter _ _ (lo+((0:Nat):Int) * 1) ((((hi - lo).toNat:Nat):Int) - ((0:Nat):Int)) 1
  rw[e1,e2]
  exact wJa _ rfl
 ·have e:b=(s.heap.push { cls:=.type "range",data:=.fields #[.int lo t,.int hi u,.int 1 v] }).objs.size:=by simpa using hb
  subst e
  exact I1.fpOk (wPa _) (I1.hok.fresh (wPa _))
def En(ta:TA):TI:=fun σ H R=>ta σ H fun vs H1=>∃j:Int,vs=[.int j]/\-(2 ^ 62)<=j/\j < 2 ^ 62/\R (qT 0 j.toNat) H1
def Eo(ta:TA):TI:=fun σ H R=>ta σ H fun vs H1=>∃i j:Int,vs=[.int i,.int j]/\(-(2 ^ 62)<=i/\i < 2 ^ 62/\-(2 ^ 62)<=j/\j < 2 ^ 62)/\R (qT i (j - i).toNat) H1
theorem qV{a:Expr}{ta:TA}{p pos:Pos}(hg:Gl X "range")(hm:X.mg "range" = none)(ha:PA X [a] ta)(hs:starEach [a] X.env=[(false,eval a X.env)]:=by rfl):PI X tg (.Call (.Name "range" p) [a] [] pos) (En ta):=by
 intro pins s σ H R I h
 refine Call_ (Yc I hg hm boot_range (PyProof.Rows.callWith_type1 (jk (ha pos pins s σ H _ I h) fun us s1 ⟨vs,H1,I1,r1,q1⟩=>?_) hs rfl))
 obtain⟨j,e,q1,q2,q⟩:=q1
 subst e
 cases r1 with
 | cons r rr=>
  cases rr
  obtain⟨t,rfl⟩:=r
  exact call_range_1 (kH I1 (by omega) (by omega) q1 q2 (by simpa using q))
theorem qW{a b:Expr}{ta:TA}{p pos:Pos}(hg:Gl X "range")(hm:X.mg "range" = none)(ha:PA X [a,b] ta)(hs:starEach [a,b] X.env=[(false,eval a X.env),(false,eval b X.env)]:=by rfl)(hs2:starEach [b] X.env=[(false,eval b X.env)]:=by rfl):
  PI X tg (.Call (.Name "range" p) [a,b] [] pos) (Eo ta):=by
 intro pins s σ H R I h
 refine Call_ (Yc I hg hm boot_range (PyProof.Rows.callWith_type1 (jk (ha pos pins s σ H _ I h) fun us s1 ⟨vs,H1,I1,r1,q1⟩=>?_) (by rw[hs,hs2]) (by rw[hs2]; rfl)))
 obtain⟨i,j,e,⟨q1,q2,q3,q4⟩,q⟩:=q1
 subst e
 cases r1 with
 | cons r rr=>
  cases rr with
  | cons r' rr=>
   cases rr
   obtain⟨t,rfl⟩:=r
   obtain⟨t',rfl⟩:=r'
   exact call_range_2 (kH I1 q1 q2 q3 q4 q)
def hZ(wi:TI)(g:TG)(tb:TS):TS:=fun D σ H=>wi σ H fun J H1=>∃W:Nat->Nat->St->Hp->Prop,(∃m,W 0 m σ H1)/\∀i m σ H,W i m σ H->
 (J.stop i H/\D.nx σ H)∨(J.go i H/\∃N:St->Hp->Prop,(∀σ' H',N σ' H'->∃m',m' < m/\W (i+1) m' σ' H')/\∀x H',J.yld i H x H'->g x σ H' fun σ2 H2=>tb { D with nx:=N,ct:=N,bk:=D.nx } σ2 H2)
noncomputable def VP(fp:List Addr)(h:Heap):List (Addr×Obj):=fp.filterMap fun b=>(h.get? b).map fun o=>(b,o)
theorem zY{fp:List Addr}{h:Heap}{b:Addr}{o:Obj}(hb:b∈fp)(e:h.get? b=some o):(b,o)∈VP fp h:=List.mem_filterMap.mpr ⟨b,hb,by rw[e]; rfl⟩
theorem qX{fp:List Addr}{h:Heap}{p:Addr×Obj}(hp:p∈VP fp h):p.1∈fp/\h.get? p.1=some p.2:=by
 obtain⟨b,hb,e⟩:=List.mem_filterMap.mp hp
 cases q:h.get? b with
 | none=>rw[q]at e; cases e
 | some o=>
  rw[q]at e
  have e':(b,o)=p:=vFa e
  subst e'
  exact⟨hb,q⟩
theorem Inv.pinned{pins:List (Addr×Obj)}{σ:St}{H:Hp}{s:Shared}{fp:List Addr}(I:Inv X pins σ H s)(hf:∀b∈fp,Jt X pins H b)(ho:∀b∈fp,∃o,s.heap.get? b=some o/\∀v,o.data≠.cell v):Inv X (pins++VP fp s.heap) σ H s:=
 I.pins_of fun p hp=>(List.mem_append.mp hp).elim (fun z=>I.pin p (vJa _ z)) fun z=>by
  obtain⟨hb,e⟩:=qX z
  obtain⟨f0,f1,f2,_⟩:=hf p.1 hb
  obtain⟨o,e',d⟩:=ho p.1 hb
  rw[e]at e'; cases e'
  exact⟨e,f0,f1,f2,d⟩
theorem Inv.unpinned{pins pl:List (Addr×Obj)}{σ:St}{H:Hp}{s:Shared}(I:Inv X (pins++pl) σ H s):Inv X pins σ H s:=I.pins_of fun p hp=>I.pin p (vJa _ (vIa _ hp))
theorem cx{iter:Expr}{body:List Stmt}{wi:TI}{g:TG}{tb:TS}{pos:Pos}(hp:PassesOwn (model X.prog X.w) X.A X.env X.xe)(hc:X.calm=true)(hi:PI X tg iter wi)(hg:PG X tg g)(hb:jL X body tb)
  (hs:∀x,foldedSetIterable iter X.env x=pure x:=by intro _; rfl):PS X (.For tg iter body [] pos) (hZ wi g tb):=by
 intro pins s σ H D I h
 refine wpAny_For (jk (hi pins s σ H _ I h) fun v s1 h1=>jk h1 fun itv s2 h2=>?_) hs
 obtain⟨it,fp,tn,J,H2,e,I2,T,WF,f2,W,⟨m0,w0⟩,turn⟩:=h2
 subst e
 have stat:∀{H':Hp},(∀b∈fp,H' b=none)->∀b∈fp,Jt X pins H' b:=fun hn b hb=>⟨hn b hb,(f2 b hb).2⟩
 refine codeAny_forLoop_any (fun n s'=>∃i σ' H',Inv X pins σ' H' s'/\tn i s'.heap/\(∀b∈fp,H' b=none)/\W i n σ' H') ?_ m0 ⟨0,σ,H2,I2,WF,fun b hb=>(f2 b hb).1,w0⟩
 rintro n s3 ⟨i,σ3,H3,I3,U6,fr3,w3⟩
 rcases turn i n σ3 H3 w3 with⟨stop,qn⟩ | ⟨go,N,hN,step⟩
 ·refine wpAny_passesOwn hp (jk (T.done X rfl rfl rfl hc i pins s3 σ3 H3 X.xe I3 (stat fr3) U6 stop) fun r s4 ⟨hr,I4⟩=>?_)
  subst hr
  exact wpAny_execs_nil ⟨σ3,H3,I4,qn⟩
 ·refine wpAny_passesOwn hp (jk (T.item X rfl rfl rfl hc i pins s3 σ3 H3 X.xe I3 (stat fr3) U6 go) fun r s4 ⟨u,hr,h4⟩=>?_)
  subst hr
  refine wpAny_passesOwn hp (jk h4 fun _ s5 ⟨x,H5,I5,r5,y5,GW,fr5⟩=>?_)
  have I5':=I5.pinned (stat fr5) (T.obj _ _ GW)
  refine wpAny_passesOwn hp (jk (hg _ s5 σ3 H5 x u _ I5' r5 (step x H5 y5)) fun _ s6 ⟨σ6,H6,I6,q6⟩=>?_)
  refine wpAny_passesOwn hp (jk (hb _ s6 σ6 H6 _ I6 q6) fun f s7 q7=>?_)
  have again:∀{σ7:St} {H7:Hp},Inv X (pins++VP fp s5.heap) σ7 H7 s7->N σ7 H7->∃m,m < n/\∃i σ' H',Inv X pins σ' H' s7/\tn i s7.heap/\(∀b∈fp,H' b=none)/\W i m σ' H':=fun {σ7 H7} I7 n7=>by
   obtain⟨m',hm,w7⟩:=hN σ7 H7 n7
   refine⟨m',hm,i+1,σ7,H7,I7.unpinned,T.keep _ _ _ GW fun b hb o e=>(I7.pin (b,o) (vJa _ (vJa _ (zY hb e)))).1,fun b hb=>?_,w7⟩
   obtain⟨o,e,d⟩:=T.obj _ _ GW b hb
   exact(I7.pin (b,o) (vJa _ (vJa _ (zY hb e)))).2.1
  cases f with
  | next=>obtain⟨σ7,H7,I7,n7⟩:=q7; exact again I7 n7
  | cont=>obtain⟨σ7,H7,I7,n7⟩:=q7; exact again I7 n7
  | brk=>obtain⟨σ7,H7,I7,q7⟩:=q7; exact⟨σ7,H7,I7.unpinned,q7⟩
  | ret v=>obtain⟨x7,σ7,H7,I7,r7,q7⟩:=q7; exact⟨x7,σ7,H7,I7.unpinned,r7,q7⟩
end
end L2
namespace L2
open PySem PySem.Spec PyProof.Rows
noncomputable abbrev R2:=V->V->Hp->VK->Prop
def jI(X:Cx)(f:Value->Value->Sem Value)(r:R2):Prop:=
 ∀(pins:List (Addr×Obj)) (s:Shared) (σ:St) (H:Hp) (x y:V) (v u:Value) (Q:VK),Inv X pins σ H s->jm x v->jm y u->r x y H Q->
  wpAny (model X.prog X.w) X.A (f v u) (EP X pins σ Q) X.xe s
def cy(X:Cx)(f:Value->Sem Value)(r:V->Hp->VK->Prop):Prop:=
 ∀(pins:List (Addr×Obj)) (s:Shared) (σ:St) (H:Hp) (x:V) (v:Value) (Q:VK),Inv X pins σ H s->jm x v->r x H Q->
  wpAny (model X.prog X.w) X.A (f v) (EP X pins σ Q) X.xe s
def yj(X:Cx)(f:Value)(r:List V->Hp->VK->Prop):Prop:=
 ∀(pins:List (Addr×Obj)) (s:Shared) (σ:St) (H:Hp) (xs:List V) (us:List Value) (Q:VK),Inv X pins σ H s->je xs us->r xs H Q->
  wpAny (model X.prog X.w) X.A (call f us) (EP X pins σ Q) X.xe s
def h_(X:Cx)(r:V->Hp->(Bool->Hp->Prop)->Prop):Prop:=
 ∀(pins:List (Addr×Obj)) (s:Shared) (σ:St) (H:Hp) (x:V) (v:Value) (Q:Bool->Hp->Prop),Inv X pins σ H s->jm x v->r x H Q->
  wpAny (model X.prog X.w) X.A (truthy v) (TP X pins σ Q) X.xe s
def qY(r:R2)(ta tb:TE):TE:=fun σ H Q=>ta σ H fun x H1=>tb σ H1 fun y H2=>r x y H2 Q
def iU(r:V->Hp->VK->Prop)(ta:TE):TE:=fun σ H Q=>ta σ H fun x H1=>r x H1 Q
def rI(C:Int->Int->Prop)(g:Int->Int->V):R2:=fun x y H Q=>∃i j,x=.int i/\y=.int j/\C i j/\Q (g i j) H
def zR(g:Int->Int->V):R2:=fun x y H Q=>∃i j,x=.int i/\y=.int j/\Q (g i j) H
def rU(g:Int->V):V->Hp->VK->Prop:=fun x H Q=>∃i,x=.int i/\Q (g i) H
section
variable {X:Cx} {a b c:Expr} {ta tb tc:TE} {pos:Pos}
theorem xL(ha:PE X a ta)(hb:PE X b tb){pins:List (Addr×Obj)}{s:Shared}{σ:St}{H:Hp}{R:V->V->Hp->Prop}(I:Inv X pins σ H s)
  (h:ta σ H fun x H1=>tb σ H1 fun y H2=>R x y H2) {Q:Value->Shared->Prop} {f:Value->Value->Sem Value}
  (hf:∀v u s2 x y H2,Inv X pins σ H2 s2->jm x v->jm y u->R x y H2->wpAny (model X.prog X.w) X.A (f v u) Q X.xe s2):
  wpAny (model X.prog X.w) X.A (eval a X.env) (fun v s₁=>wpAny (model X.prog X.w) X.A (eval b X.env) (fun u s₂=>wpAny (model X.prog X.w) X.A (f v u) Q X.xe s₂) X.xe s₁) X.xe s:=by
 refine jk (ha pins s σ H _ I h) fun v s1 ⟨x,H1,I1,r1,q1⟩=>?_
 refine jk (hb pins s1 σ H1 _ I1 q1) fun u s2 ⟨y,H2,I2,r2,q2⟩=>?_
 exact hf v u s2 x y H2 I2 r1 r2 q2
theorem aB{op:Operator}{r:R2}(ho:jI X (binaryOp op) r)(ha:PE X a ta)(hb:PE X b tb):PE X (.BinOp a op b pos) (qY r ta tb):=by
 intro pins s σ H Q I h
 exact wpAny_BinOp (xL ha hb I h fun v u s2 x y H2 I2 rx ry q=>ho pins s2 σ H2 x y v u Q I2 rx ry q)
theorem Ep{op:UnaryOp}{r:V->Hp->VK->Prop}(ho:cy X (unaryOp op) r)(ha:PE X a ta):PE X (.UnaryOp op a pos) (iU r ta):=by
 intro pins s σ H Q I h
 exact UnaryOp_ (jk (ha pins s σ H _ I h) fun v s1 ⟨x,H1,I1,r1,q1⟩=>ho pins s1 σ H1 x v Q I1 r1 q1)
theorem aD{f:Value->Value->Sem Value}{C:Int->Int->Prop}{g:Int->Int->Int}
  (rule:∀(i j:Int) (t u:Tok) (s:Shared) (Q:Value->Shared->Prop) (E:Value->Shared->Prop),C i j->Q (.int (g i j) s.toks) { s with toks:=s.toks+1 }->wpAny (model X.prog X.w) X.A (f (.int i t) (.int j u)) Q E s):
  jI X f (rI C fun i j=>.int (g i j)):=by
 intro pins s σ H x y v u Q I rx ry h
 obtain⟨i,j,rfl,rfl,hc,q⟩:=h
 obtain⟨t,rfl⟩:=rx
 obtain⟨t',rfl⟩:=ry
 exact rule i j t t' s _ _ hc ⟨.int (g i j),H,I.tok _,⟨_,rfl⟩,q⟩
theorem cz{f:Value->Value->Sem Value}{g:Int->Int->Int}
  (rule:∀(i j:Int) (t u:Tok) (s:Shared) (Q:Value->Shared->Prop) (E:Value->Shared->Prop),Q (.int (g i j) s.toks) { s with toks:=s.toks+1 }->wpAny (model X.prog X.w) X.A (f (.int i t) (.int j u)) Q E s):
  jI X f (zR fun i j=>.int (g i j)):=by
 intro pins s σ H x y v u Q I rx ry h
 obtain⟨i,j,rfl,rfl,q⟩:=h
 obtain⟨t,rfl⟩:=rx
 obtain⟨t',rfl⟩:=ry
 exact rule i j t t' s _ _ ⟨.int (g i j),H,I.tok _,⟨_,rfl⟩,q⟩
theorem WI{f:Value->Value->Sem Value}{g:Int->Int->Bool}
  (rule:∀(i j:Int) (t u:Tok) (s:Shared) (Q:Value->Shared->Prop) (E:Value->Shared->Prop),Q (.bool (g i j)) s->wpAny (model X.prog X.w) X.A (f (.int i t) (.int j u)) Q E s):
  jI X f (zR fun i j=>.bl (g i j)):=by
 intro pins s σ H x y v u Q I rx ry h
 obtain⟨i,j,rfl,rfl,q⟩:=h
 obtain⟨t,rfl⟩:=rx
 obtain⟨t',rfl⟩:=ry
 exact rule i j t t' s _ _ ⟨.bl (g i j),H,I,rfl,q⟩
def xM(i j:Int):Prop:=0 < j/\j < 1073741824
def xN(i j:Int):Prop:=0<=j/\j<=1000000/\i.natAbs < 2 ^ 64
def Ui(i j:Int):Prop:=(-(2 ^ 64) < i/\i < 2 ^ 64)∨(-(2 ^ 64) < j/\j < 2 ^ 64)
theorem Ui.ok{i j:Int}(h:Ui i j):IntMulOk i j:=by
 rcases h with⟨h1,h2⟩ | ⟨h1,h2⟩
 ·exact .of_left (intBits_le_64 h1 h2)
 ·exact .of_right (intBits_le_64 h1 h2)
theorem cD:jI X (binaryOp .Add) (zR fun i j=>.int (i+j)):=cz fun _ _ _ _ _ _ _ q=>add_int q
theorem cH:jI X (binaryOp .Sub) (zR fun i j=>.int (i - j)):=cz fun _ _ _ _ _ _ _ q=>sub_int q
theorem cJ:jI X (binaryOp .Mult) (rI Ui fun i j=>.int (i * j)):=aD fun _ _ _ _ _ _ _ hc q=>mul_int q hc.ok
theorem bi:jI X (binaryOp .FloorDiv) (rI xM fun i j=>.int (i / j)):=aD fun i j _ _ _ _ _ hc q=>by
 have h1:(0:Int) < j:=hc.1
 have h2:j < 1073741824:=hc.2
 exact floordiv_int (by omega) (by rw[Int.fdiv_eq_ediv_of_nonneg i (by omega)]; exact q) (.inl (PyProof.noPylong_small (by omega)))
theorem cK:jI X (binaryOp .Mod) (rI (fun _ j=>0 < j) fun i j=>.int (i % j)):=aD fun i j _ _ _ _ _ hc q=>by
 have h1:(0:Int) < j:=hc
 exact mod_int' (by omega) (by rw[Int.fmod_eq_emod_of_nonneg i (by omega)]; exact q)
theorem cL:jI X (binaryOp .Pow) (rI xN fun i j=>.int (i ^ j.toNat)):=aD fun _ _ _ _ _ _ _ hc q=>pow_int_small hc.1 hc.2.1 hc.2.2 q
theorem iV{f:Value->Sem Value}{g:Int->Int}
  (rule:∀(i:Int) (t:Tok) (s:Shared) (Q:Value->Shared->Prop) (E:Value->Shared->Prop),Q (.int (g i) s.toks) { s with toks:=s.toks+1 }->wpAny (model X.prog X.w) X.A (f (.int i t)) Q E s):
  cy X f (rU fun i=>.int (g i)):=by
 intro pins s σ H x v Q I rx h
 obtain⟨i,rfl,q⟩:=h
 obtain⟨t,rfl⟩:=rx
 exact rule i t s _ _ ⟨.int (g i),H,I.tok _,⟨_,rfl⟩,q⟩
theorem cM:cy X (unaryOp .USub) (rU fun i=>.int (-i)):=iV fun _ _ _ _ _ q=>neg_int q
end
noncomputable def cO:V->V->Bool
 | .non,.non=>true | .non,.int _=>true | .int _,.non=>true | .non,.bl _=>true | .bl _,.non=>true | .non,.str _=>true | .str _,.non=>true
 | .int _,.int _=>true | .bl _,.bl _=>true | .str _,.str _=>true | .byt _,.byt _=>true
 | .int _,.str _=>true | .str _,.int _=>true | .bl _,.str _=>true | .str _,.bl _=>true
 | _,_=>false
def aE:R2:=fun x y H Q=>cO x y=true/\Q (.bl (decide (x=y))) H
def aF:R2:=fun x y H Q=>cO x y=true/\Q (.bl (!decide (x=y))) H
theorem vA{i j:Int}:decide (V.int i=V.int j)=(i==j):=by
 rw[Bool.eq_iff_iff]
 simp
theorem VQ{i j:Bool}:decide (V.bl i=V.bl j)=(i==j):=by
 rw[Bool.eq_iff_iff]
 simp
theorem vB{i j:Str}:decide (V.str i=V.str j)=(i==j):=by
 rw[Bool.eq_iff_iff]
 simp
theorem wS{i j:Array UInt8}:decide (V.byt i=V.byt j)=(i.toList==j.toList):=by
 rw[Bool.eq_iff_iff]
 cases i
 cases j
 simp
section
variable {X:Cx} {a b c:Expr} {ta tb tc:TE} {pos:Pos}
theorem jF{pins:List (Addr×Obj)}{σ:St}{H:Hp}{s:Shared}{Q:VK}{k k':Bool}(I:Inv X pins σ H s)(q:Q (.bl k) H)(e:k=k'):EP X pins σ Q (.bool k') s:=by
 subst e
 exact⟨.bl k,H,I,rfl,q⟩
theorem Es:jI X (compareOp .Eq) aE:=by
 intro pins s σ H x y v u Q I rx ry h
 obtain⟨hs,q⟩:=h
 cases x with
 | non=>
  cases rx
  cases y with
  | non=>cases ry; exact PySem.EqNone.eq_none_none (jF I q (by simp))
  | bl j=>cases ry; exact PySem.EqNone.eq_none_bool (jF I q (by simp))
  | int j=>obtain⟨t',rfl⟩:=ry; exact PySem.EqNone.eq_none_int (jF I q (by simp))
  | str j=>obtain⟨t',rfl⟩:=ry; exact PySem.EqNone.eq_none_str (jF I q (by simp))
  | _=>exact vDa (show false=true from hs) vNa
 | bl i=>
  cases rx
  cases y with
  | non=>cases ry; exact PySem.EqNone.eq_bool_none (jF I q (by simp))
  | bl j=>cases ry; exact eq_bool (jF I q VQ)
  | str j=>obtain⟨t',rfl⟩:=ry; exact PySem.EqMixed.eq_bool_str (jF I q (by simp))
  | _=>exact vDa (show false=true from hs) vNa
 | int i=>
  obtain⟨t,rfl⟩:=rx
  cases y with
  | non=>cases ry; exact PySem.EqNone.eq_int_none (jF I q (by simp))
  | int j=>obtain⟨t',rfl⟩:=ry; exact eq_int (jF I q vA)
  | str j=>obtain⟨t',rfl⟩:=ry; exact PySem.EqMixed.eq_int_str (jF I q (by simp))
  | _=>exact vDa (show false=true from hs) vNa
 | str i=>
  obtain⟨t,rfl⟩:=rx
  cases y with
  | non=>cases ry; exact PySem.EqNone.eq_str_none (jF I q (by simp))
  | bl j=>cases ry; exact PySem.EqMixed.eq_str_bool (jF I q (by simp))
  | int j=>obtain⟨t',rfl⟩:=ry; exact PySem.EqMixed.eq_str_int (jF I q (by simp))
  | str j=>obtain⟨t',rfl⟩:=ry; exact eq_str (jF I q vB)
  | _=>exact vDa (show false=true from hs) vNa
 | byt i=>
  obtain⟨t,rfl⟩:=rx
  cases y with
  | byt j=>obtain⟨t',rfl⟩:=ry; exact PySem.W.eq_bytes (jF I q wS)
  | _=>exact vDa (show false=true from hs) vNa
 | _=>cases y <;> exact vDa (show false=true from hs) vNa
theorem Et:jI X (compareOp .NotEq) aF:=by
 intro pins s σ H x y v u Q I rx ry h
 obtain⟨hs,q⟩:=h
 cases x with
 | non=>
  cases rx
  cases y with
  | non=>cases ry; exact PySem.EqNone.ne_none_none (jF I q (by simp))
  | bl j=>cases ry; exact PySem.EqNone.ne_none_bool (jF I q (by simp))
  | int j=>obtain⟨t',rfl⟩:=ry; exact PySem.EqNone.ne_none_int (jF I q (by simp))
  | str j=>obtain⟨t',rfl⟩:=ry; exact PySem.EqNone.ne_none_str (jF I q (by simp))
  | _=>exact vDa (show false=true from hs) vNa
 | bl i=>
  cases rx
  cases y with
  | non=>cases ry; exact PySem.EqNone.ne_bool_none (jF I q (by simp))
  | bl j=>cases ry; exact ne_bool (jF I q (congrArg not VQ))
  | str j=>obtain⟨t',rfl⟩:=ry; exact PySem.EqMixed.ne_bool_str (jF I q (by simp))
  | _=>exact vDa (show false=true from hs) vNa
 | int i=>
  obtain⟨t,rfl⟩:=rx
  cases y with
  | non=>cases ry; exact PySem.EqNone.ne_int_none (jF I q (by simp))
  | int j=>obtain⟨t',rfl⟩:=ry; exact ne_int (jF I q (congrArg not vA))
  | str j=>obtain⟨t',rfl⟩:=ry; exact PySem.EqMixed.ne_int_str (jF I q (by simp))
  | _=>exact vDa (show false=true from hs) vNa
 | str i=>
  obtain⟨t,rfl⟩:=rx
  cases y with
  | non=>cases ry; exact PySem.EqNone.ne_str_none (jF I q (by simp))
  | bl j=>cases ry; exact PySem.EqMixed.ne_str_bool (jF I q (by simp))
  | int j=>obtain⟨t',rfl⟩:=ry; exact PySem.EqMixed.ne_str_int (jF I q (by simp))
  | str j=>obtain⟨t',rfl⟩:=ry; exact ne_str (jF I q (congrArg not vB))
  | _=>exact vDa (show false=true from hs) vNa
 | byt i=>
  obtain⟨t,rfl⟩:=rx
  cases y with
  | byt j=>obtain⟨t',rfl⟩:=ry; exact PySem.W.ne_bytes (jF I q (congrArg not wS))
  | _=>exact vDa (show false=true from hs) vNa
 | _=>cases y <;> exact vDa (show false=true from hs) vNa
theorem Eu:jI X (compareOp .Lt) (zR fun i j=>.bl (decide (i < j))):=WI fun _ _ _ _ _ _ _ q=>lt_int q
theorem Ev:jI X (compareOp .LtE) (zR fun i j=>.bl (decide (i<=j))):=WI fun _ _ _ _ _ _ _ q=>le_int q
theorem Ew:jI X (compareOp .Gt) (zR fun i j=>.bl (decide (j < i))):=WI fun _ _ _ _ _ _ _ q=>gt_int q
theorem Ex:jI X (compareOp .GtE) (zR fun i j=>.bl (decide (j<=i))):=WI fun _ _ _ _ _ _ _ q=>ge_int q
theorem cP:jI X (compareOp .Is) (fun x y H Q=>y=.non/\Q (.bl (decide (x=.non))) H):=by
 intro pins s σ H x y v u Q I rx ry h
 obtain⟨rfl,q⟩:=h
 cases ry
 refine is_none_gen (jF I q ?_)
 cases x <;> first
  | (cases rx; rfl)
  | (obtain⟨t,rfl⟩:=rx; rfl)
theorem bj:jI X (compareOp .IsNot) (fun x y H Q=>y=.non/\Q (.bl (!decide (x=.non))) H):=by
 intro pins s σ H x y v u Q I rx ry h
 obtain⟨rfl,q⟩:=h
 cases ry
 refine isnot_none_gen (jF I q ?_)
 cases x <;> first
  | (cases rx; rfl)
  | (obtain⟨t,rfl⟩:=rx; rfl)
theorem jI.or{f:Value->Value->Sem Value}{r r':R2}(h:jI X f r)(h':jI X f r'):jI X f (fun x y H Q=>r x y H Q∨r' x y H Q):=by
 intro pins s σ H x y v u Q I rx ry q
 rcases q with q | q
 ·exact h pins s σ H x y v u Q I rx ry q
 ·exact h' pins s σ H x y v u Q I rx ry q
theorem bn{op:CmpOp}{r:R2}(ho:jI X (compareOp op) r)(ha:PE X a ta)(hb:PE X b tb)(hm:behindInMarks op b=false):PE X (.Compare a [op] [b] pos) (qY r ta tb):=by
 intro pins s σ H Q I h
 exact wpAny_Compare1 (xL ha hb I h fun v u s2 x y H2 I2 rx ry q=>ho pins s2 σ H2 x y v u Q I2 rx ry q) hm
def aG(t:TE):TT:=fun σ H Q=>t σ H fun x H'=>∃k,x=.bl k/\Q k H'
theorem bp{op:CmpOp}{r:R2}(ho:jI X (compareOp op) r)(ha:PE X a ta)(hb:PE X b tb)(hm:behindInMarks op b=false):PT X (.Compare a [op] [b] pos) (aG (qY r ta tb)):=by
 intro pins s σ H Q I h
 refine wpAny_isTrue_Compare1 (jk (ha pins s σ H _ I h) fun v s1 ⟨x,H1,I1,r1,q1⟩=>jk (hb pins s1 σ H1 _ I1 q1) fun u s2 ⟨y,H2,I2,r2,q2⟩=>
  jk (ho pins s2 σ H2 x y v u _ I2 r1 r2 q2) fun c s3 ⟨z,H3,I3,r3,k,e,q3⟩=>?_) hm
 subst e
 cases r3
 exact wpAny_truthy_bool ⟨H3,I3,q3⟩
def kI(r r':R2)(ta tb tc:TE):TE:=fun σ H Q=>ta σ H fun x H1=>tb σ H1 fun y H2=>r x y H2 fun z H3=>∃k,z=.bl k/\
 (if k=true then tc σ H3 fun w' H4=>r' y w' H4 Q else Q (.bl false) H3)
theorem xO{op op':CmpOp}{r r':R2}(ho:jI X (compareOp op) r)(ho':jI X (compareOp op') r')(ha:PE X a ta)(hb:PE X b tb)(hc:PE X c tc)
  (hm:lastMarks [op,op'] [b,c]=false:=by with_unfolding_all rfl):PE X (.Compare a [op,op'] [b,c] pos) (kI r r' ta tb tc):=by
 intro pins s σ H Q I h
 refine Compare_chain (jk (ha pins s σ H _ I h) fun v s1 ⟨x,H1,I1,r1,q1⟩=>chain_link (jk (hb pins s1 σ H1 _ I1 q1) fun u s2 ⟨y,H2,I2,r2,q2⟩=>
  jk (ho pins s2 σ H2 x y v u _ I2 r1 r2 q2) fun d s3 ⟨z,H3,I3,r3,k,e,q3⟩=>?_)) hm
 subst e
 cases r3
 refine wpAny_truthy_bool ?_
 cases k with
 | false=>exact ite_ff ⟨.bl false,H3,I3,rfl,q3⟩
 | true=>exact ite_tt (chain_last (jk (hc pins s3 σ H3 _ I3 q3) fun w' s4 ⟨z',H4,I4,r4,q4⟩=>ho' pins s4 σ H4 y z' u w' Q I4 r2 r4 q4))
theorem xP{op op':CmpOp}{r r':R2}(ho:jI X (compareOp op) r)(ho':jI X (compareOp op') r')(ha:PE X a ta)(hb:PE X b tb)(hc:PE X c tc)
  (hm:lastMarks [op,op'] [b,c]=false:=by with_unfolding_all rfl):PT X (.Compare a [op,op'] [b,c] pos) (aG (kI r r' ta tb tc)):=by
 intro pins s σ H Q I h
 refine isTrue_chain (jk (ha pins s σ H _ I h) fun v s1 ⟨x,H1,I1,r1,q1⟩=>test_link (jk (hb pins s1 σ H1 _ I1 q1) fun u s2 ⟨y,H2,I2,r2,q2⟩=>
  jk (ho pins s2 σ H2 x y v u _ I2 r1 r2 q2) fun d s3 ⟨z,H3,I3,r3,k,e,q3⟩=>?_)) hm
 subst e
 cases r3
 refine wpAny_truthy_bool ?_
 cases k with
 | false=>
  obtain⟨k',e',q'⟩:=q3
  cases e'
  exact ite_ff ⟨H3,I3,q'⟩
 | true=>
  refine ite_tt (test_last (jk (hc pins s3 σ H3 _ I3 q3) fun w' s4 ⟨z',H4,I4,r4,q4⟩=>jk (ho' pins s4 σ H4 y z' u w' _ I4 r2 r4 q4) fun d' s5 ⟨z2,H5,I5,r5,k2,e2,q5⟩=>?_))
  subst e2
  cases r5
  exact wpAny_truthy_bool ⟨H5,I5,q5⟩
def xQ(K:PySem.W.Frag)(x:V)(H:Hp)(k:Bool):Prop:=
 match x with
 | .non=>k=false
 | .bl b=>k=b
 | .int i=>k=(i != 0)
 | .str y=>y.length<=sizeLine/\k=((y.length:Int) != 0)
 | .byt y=>y.size<=sizeLine/\k=((y.size:Int) != 0)
 | .ref p=>(∃xs,jt K H p xs/\k=!xs.isEmpty)∨(∃xs,JB K H p xs/\k=!xs.isEmpty)∨∃kvs,H p=some (.dK kvs)/\k=!kvs.isEmpty
 | _=>False
theorem WJ{κ:Type}{kvs:List (κ×V)}{vs:List (κ×Value)}(r:KV kvs vs):(!vs.isEmpty)=!kvs.isEmpty:=by
 cases r <;> rfl
theorem UO{xs:List V}{its:List Value}(r:je xs its):(!its.toArray.isEmpty)=!xs.isEmpty:=by
 cases r <;> simp
theorem vC:(sizeLine:Nat) < 2 ^ 63:=by rw[sizeLine_eq]; decide
theorem cR:h_ X (fun x H Q=>∃k,xQ X.K x H k/\Q k H):=by
 intro pins s σ H x v Q I rx h
 obtain⟨k,e,q⟩:=h
 have hl:=vC
 have hs:sizeLine=16777216:=sizeLine_eq
 cases x with
 | non=>
  cases rx
  have e':k=false:=e
  subst e'
  exact truthy_none ⟨H,I,q⟩
 | bl b=>
  cases rx
  have e':k=b:=e
  subst e'
  exact wpAny_truthy_bool ⟨H,I,q⟩
 | int i=>
  obtain⟨t,rfl⟩:=rx
  have e':k=(i != 0):=e
  subst e'
  exact PySem.P.truthy_int ⟨H,I,q⟩
 | str y=>
  obtain⟨t,rfl⟩:=rx
  obtain⟨hy,e'⟩:y.length<=sizeLine/\k=((y.length:Int) != 0):=e
  subst e'
  exact PySem.P.truthy_str (by omega) ⟨H,I.tok _,q⟩
 | byt y=>
  obtain⟨t,rfl⟩:=rx
  obtain⟨hy,e'⟩:y.size<=sizeLine/\k=((y.size:Int) != 0):=e
  subst e'
  exact PySem.W.truthy_bytes (by omega) ⟨H,I.tok _,q⟩
 | ref p=>
  cases rx
  have e':(∃xs,jt X.K H p xs/\k=!xs.isEmpty)∨(∃xs,JB X.K H p xs/\k=!xs.isEmpty)∨∃kvs,H p=some (.dK kvs)/\k=!kvs.isEmpty:=e
  rcases e' with⟨xs,hx,e'⟩ | ⟨xs,hx,e'⟩ | ⟨kvs,hx,e'⟩
  ·subst e'
   obtain⟨its,r,pl,hz⟩:=I.list hx
   have hlen:=r.length
   exact wpAny_truthy_list pl.isList (by simp only[List.size_toArray]; omega) ⟨H,I.tok _,by rw[UO r]; exact q⟩
  ·subst e'
   obtain⟨its,r,pl,hz⟩:=I.tuple hx
   have hlen:=r.length
   exact truthy_tuple pl (by simp only[List.size_toArray]; omega) ⟨H,I.tok _,by rw[UO r]; exact q⟩
  ·subst e'
   obtain⟨hz,hS,vs,r,m⟩:kvs.length<=sizeLine/\(p==sysModules)=false/\∃vs,KV kvs vs/\s.heap.DictOf (gG X.prog X.w) p vs:=I.hok p _ hx
   have hlen:kvs.length=vs.length:=Paired.length r
   exact wpAny_truthy_dict hS m (by omega) ⟨H,I.tok _,by rw[WJ r]; exact q⟩
 | _=>exact(show False from e).elim
theorem xR(ha:PE X a ta)(he:∀whole,isTrue a X.env whole=(do let v<-whole; standAt a.pos; holding [v] (truthy v))):
  PT X a (fun σ H Q=>ta σ H fun x H'=>∃k,xQ X.K x H' k/\Q k H'):=by
 intro pins s σ H Q I h
 exact isTrue_plain (jk (ha pins s σ H _ I h) fun v s1 ⟨x,H1,I1,r1,q1⟩=>cR pins s1 σ H1 x v Q I1 r1 q1) (he _)
theorem WK:jI X (binaryOp .Add) (fun x y H Q=>∃i j,x=.str i/\y=.str j/\i.length+j.length<=sizeLine/\Q (.str (i++j)) H):=by
 intro pins s σ H x y v u Q I rx ry h
 obtain⟨i,j,rfl,rfl,hz,q⟩:=h
 obtain⟨t,rfl⟩:=rx
 obtain⟨t',rfl⟩:=ry
 exact add_str (fun t' tk=>⟨.str (i++j),H,I.tok _,⟨_,rfl⟩,q⟩) hz
theorem UP{x:V}{us:List Value}(r:je [x] us):∃u,us=[u]/\jm x u:=by
 cases r with
 | cons r1 r2=>cases r2; exact⟨_,rfl,r1⟩
theorem aH{x y:V}{us:List Value}(r:je [x,y] us):∃u w',us=[u,w']/\jm x u/\jm y w':=by
 cases r with
 | cons r1 r2=>
  cases r2 with
  | cons r3 r4=>cases r4; exact⟨_,_,rfl,r1,r3⟩
theorem qZ(hc:X.calm=true):yj X (.builtin "max") (fun xs H Q=>∃i j,xs=[.int i,.int j]/\Q (.int (if j > i then j else i)) H):=by
 intro pins s σ H xs us Q I r h
 obtain⟨i,j,rfl,q⟩:=h
 obtain⟨u,w',rfl,⟨t,rfl⟩,⟨t',rfl⟩⟩:=aH r
 refine max_two_ints (I.ok.hd hc) fun h' tk k=>⟨_,H,I.kept k,?_,q⟩
 by_cases hj:j > i
 ·rw[if_pos hj,if_pos hj]; exact⟨_,rfl⟩
 ·rw[if_neg hj,if_neg hj]; exact⟨_,rfl⟩
theorem q_(hc:X.calm=true):yj X (.builtin "min") (fun xs H Q=>∃i j,xs=[.int i,.int j]/\Q (.int (if j < i then j else i)) H):=by
 intro pins s σ H xs us Q I r h
 obtain⟨i,j,rfl,q⟩:=h
 obtain⟨u,w',rfl,⟨t,rfl⟩,⟨t',rfl⟩⟩:=aH r
 refine min_two_ints (I.ok.hd hc) fun h' tk k=>⟨_,H,I.kept k,?_,q⟩
 by_cases hj:j < i
 ·rw[if_pos hj,if_pos hj]; exact⟨_,rfl⟩
 ·rw[if_neg hj,if_neg hj]; exact⟨_,rfl⟩
theorem Q0:yj X (.type "int") (fun xs H Q=>(∃i,xs=[.int i]/\Q (.int i) H)∨∃k,xs=[.bl k]/\Q (.int (if k then 1 else 0)) H):=by
 intro pins s σ H xs us Q I r h
 rcases h with⟨i,rfl,q⟩ | ⟨k,rfl,q⟩
 ·obtain⟨u,rfl,t,rfl⟩:=UP r
  exact call_int_int ⟨.int i,H,I,⟨_,rfl⟩,q⟩
 ·obtain⟨u,rfl,r1⟩:=UP r
  cases r1
  exact call_int_bool ⟨.int (if k then 1 else 0),H,I.tok _,⟨_,rfl⟩,q⟩
end
end L2
namespace L2
open PySem PySem.Spec PyProof.Rows
structure ObjM (h:Heap) (x dx C:Addr) (mA:Str->Option Value):Prop where
 obj:h.get? x=some (PySem.W.instObj C dx)
 ns:h.Ns1 dx mA
 ne:dx≠x
theorem Q1{h:Heap}{dx:Addr}{mA:Str->Option Value}(n:h.Ns1 dx mA):∃od,h.get? dx=some od/\∀name,PySem.W.lookIn name od=some (mA name):=by
 obtain⟨o,es,ep,ho,hd,hk,_,hm⟩:=n
 refine⟨o,ho,fun name=>?_⟩
 have e:=hm name
 unfold nsFind findBy at e
 rw[<-Array.find?_toList]at e
 unfold PySem.W.lookIn
 rw[hd]
 dsimp only
 split
 ·rename_i y q
  rw[q]at e
  exact congrArg some e
 ·rename_i q
  rw[q]at e
  have a:es.toList.any (·.refKey)=false:=by
   rw[List.any_eq_false]
   intro y hy
   obtain⟨z,t,hkey⟩:=hk y (Array.mem_toList_iff.mp hy)
   simp[DictEntry.refKey,hkey]
  have a':¬es.toList.any (·.refKey)=true:=by rw[a]; exact vNa
  rw[if_neg a']
  exact congrArg some e
theorem ObjM.look{h:Heap}{x dx C:Addr}{mA:Str->Option Value}(I:ObjM h x dx C mA):∃od,PySem.W.InstAt h x (PySem.W.instObj C dx) C (some od)/\∀name,PySem.W.lookIn name od=some (mA name):=
 let ⟨od,ho,hl⟩:=Q1 I.ns
 ⟨od,⟨I.obj,rfl,rfl,ho⟩,hl⟩
section
variable {prog:Program} {w:World} {A:Around} {E:Value->Shared->Prop} {s:Shared} {K:PySem.W.Frag} {x dx C f:Addr} {mA:Str->Option Value} {name:Str} {v:Value}
theorem bq{expr:Bool}{Q:Value->Shared->Prop}(X:K.In s.heap)(I:ObjM s.heap x dx C mA)(hg:PySem.W.plainGet K C name=true)(hh:PySem.W.hasDictIn K C=true)
  (ha:PySem.W.findIn K (.ref C) name=some none) (hv:mA name=some v) (hv':PySem.W.handedIn v=true) (h:Q v { s with toks:=s.toks+1 }):
  wpAny (model prog w) A (getAttr (.ref x) name expr) Q E s:=by
 obtain⟨od,J,hl⟩:=I.look
 exact PySem.W.get_value X J (PySem.W.plainGet_of hg).1 (PySem.W.findObj_own hh ha rfl (by rw[hl,hv])) hv' h
theorem xS{pl:Sem Bool}{Q:Value×List Value->Shared->Prop}(X:K.In s.heap)(I:ObjM s.heap x dx C mA)(hg:PySem.W.plainGet K C name=true)
  (hf:PySem.W.findIn K (.ref C) name=some (some (.ref f))) (ht:PySem.W.isFn K (.ref f)=true) (hv:mA name=none) (h:Q (.ref f,[.ref x]) s):
  wpAny (model prog w) A (getMethod (.ref x) name pl) Q E s:=by
 obtain⟨od,J,hl⟩:=I.look
 exact PySem.W.method_fn X J (PySem.W.plainGet_of hg).1 (PySem.W.plainGet_of hg).2 hf (beq_iff_eq.mp ht) (by show(PySem.W.lookIn name od).map (·.isSome)=some false; rw[hl,hv]; rfl) h
theorem br{ns:List Str}{Q:Unit->Shared->Prop}(X:K.In s.heap)(I:ObjM s.heap x dx C mA)
  (hs:PySem.W.findIn K (.ref C) "__setattr__" = some (some (.builtin "object.__setattr__"))) (hp:PySem.W.plainOver K C=true) (ht:PySem.W.takerIn K C name=some none) (hh:PySem.W.hasDictIn K C=true)
  (hw:PySem.Within mA ns) (hsz:ns.length<=sizeLine)
  (h:∀h',ObjM h' x dx C (fun y=>if y=name then some v else mA y)->Heap.SameBut dx s.heap h'->Q () { s with heap:=h',toks:=s.toks+2 }):
  wpAny (model prog w) A (setAttr (.ref x) name v) Q E s:=by
 obtain⟨od,J,hl⟩:=I.look
 refine PySem.W.set_plain X J hs (PySem.W.osa_open (s:={ s with toks:=s.toks+1 }) (r:=none) X J hp ht fun b=>?_)
 obtain⟨cd,hc,hd'⟩:=PySem.W.any_some hh
 have hx:s.heap.get? x=some ⟨.ref C,some dx,.plain,#[]⟩:=I.obj
 refine wAa (wBa (wAa (wAa (wpAny_loadPart hx (wAa (PySem.W.Looks.here (s:={ s with toks:=s.toks+1 }) (PySem.W.looks_clsIn X hc) ?_))))))
 rw[hd']
 refine wBa (a:=some dx) (wAa (wBa (wAa ?_)))
 refine wpAny_nsSet1 (s:={ s with toks:=s.toks+1 }) I.ns fun h' hn2 hs2=>?_
 obtain⟨oD,esD,epD,hoD,hdD,hcD⟩:=hn2.count (PySem.Within.cons name v hw)
 refine wAa (wpAny_lookBehind hoD (by rw[hdD]; exact pastItsLine_dict (wSa hcD (by rw[List.length_cons]; omega))) ?_)
 exact wBa (h _ ⟨(hs2.2 _ (Ne.symm I.ne)).trans I.obj,hn2,I.ne⟩ hs2)
theorem xT{R:Result->Shared->Prop}{vs:List Value}{kw:List (Str×Value)}(X:K.In s.heap)(hm:PySem.W.makesIn K C=true)
  (hi:PySem.W.findIn K (.ref C) "__init__" = some (some (.ref f))) (hf:PySem.W.typeIn K (.ref f)=some (.type "function"))
  (h:codeAny (model prog w) (A.under (.builtin "type.__call__" ⟨.ref C::vs,kw⟩)) (.call (.ref f) ⟨.ref (s.heap.objs.size+1)::vs,kw⟩) (PySem.W.InitBack (s.heap.objs.size+1) R)
   { s with heap:=(s.heap.push PySem.W.emptyDict).push (PySem.W.instObj C s.heap.objs.size) }):
  codeAny (model prog w) A (.call (.ref C) ⟨vs,kw⟩) R s:=by
 obtain⟨hh,g,d,t,os⟩:=s
 exact PySem.W.make_core (PySem.W.makes_of X hm) (PySem.W.looks_findIn X hi) (fun self=>PySem.W.bind_fn X self hf) (.inl rfl) h
end
noncomputable def yH(f:Str)(v:V):List (Str×V)->List (Str×V)
 | []=>[(f,v)]
 | (g,x)::r=>if g=f then(g,v)::r else(g,x)::yH f v r
theorem uX(f g:Str)(v:V):∀fs:List (Str×V),(yH f v fs).lookup g=if g=f then some v else fs.lookup g
 | []=>by
  show List.lookup g [(f,v)]=_
  by_cases h:g=f
  ·have hb:(g==f)=true:=beq_iff_eq.mpr h
   simp only[List.lookup,hb,if_pos h]
  ·have hb:(g==f)=false:=beq_eq_false_iff_ne.mpr h
   simp only[List.lookup,hb,if_neg h]
 | (k,x)::r=>by
  have ih:=uX f g v r
  rw[show yH f v ((k,x)::r)=(if k=f then(k,v)::r else(k,x)::yH f v r) from rfl]
  by_cases hk:k=f
  ·rw[if_pos hk]
   by_cases h:g=k
   ·have hb:(g==k)=true:=beq_iff_eq.mpr h
    simp only[List.lookup,hb,if_pos (h.trans hk)]
   ·have hb:(g==k)=false:=beq_eq_false_iff_ne.mpr h
    simp only[List.lookup,hb,if_neg (fun e:g=f=>h (e.trans hk.symm))]
  ·rw[if_neg hk]
   by_cases h:g=k
   ·have hb:(g==k)=true:=beq_iff_eq.mpr h
    simp only[List.lookup,hb,if_neg (fun e:g=f=>hk (h.symm.trans e))]
   ·have hb:(g==k)=false:=beq_eq_false_iff_ne.mpr h
    simp only[List.lookup,hb]
    exact ih
theorem VR(f:Str)(v:V):∀fs:List (Str×V),f∈(yH f v fs).map (·.1)/\∀g,g∈fs.map (·.1)->g∈(yH f v fs).map (·.1)
 | []=>⟨by simp[yH],fun g h=>by simp at h⟩
 | (k,x)::r=>by
  obtain⟨i1,i2⟩:=VR f v r
  rw[show yH f v ((k,x)::r)=(if k=f then(k,v)::r else(k,x)::yH f v r) from rfl]
  by_cases hk:k=f
  ·rw[if_pos hk]
   subst hk
   exact⟨by simp,fun g h=>by simpa using h⟩
  ·rw[if_neg hk]
   refine⟨?_,fun g h=>?_⟩
   ·rw[List.map_cons]
    exact wMa _ i1
   ·rw[List.map_cons]at h⊢
    rcases List.mem_cons.mp h with e | e
    ·exact List.mem_cons.mpr (.inl e)
    ·exact wMa _ (i2 g e)
theorem uY(f:Str)(v:V):∀fs:List (Str×V),(yH f v fs).length<=fs.length+1
 | []=>by simp[yH]
 | (k,x)::r=>by
  have ih:=uY f v r
  rw[show yH f v ((k,x)::r)=(if k=f then(k,v)::r else(k,x)::yH f v r) from rfl]
  by_cases hk:k=f
  ·rw[if_pos hk,List.length_cons,List.length_cons]; omega
  ·rw[if_neg hk,List.length_cons,List.length_cons]; omega
theorem v6.some_of{v:V}{o:Option Value}(r:v6 (some v) o):∃u,o=some u/\jm v u:=by
 cases o with
 | none=>exact(show False from r).elim
 | some u=>exact⟨u,rfl,r⟩
theorem v6.none_of{o:Option Value}(r:v6 none o):o=none:=by
 cases o with
 | none=>rfl
 | some u=>exact(show False from r).elim
theorem Q2{v:V}{u:Value}(r:jm v u):PySem.W.handedIn u=true:=by
 cases v with
 | non=>cases (show u=Value.none from r); rfl
 | bl b=>cases (show u=Value.bool b from r); rfl
 | int i=>obtain⟨t,e⟩:=(show∃t,u=Value.int i t from r); cases e; rfl
 | str x=>obtain⟨t,e⟩:=(show∃t,u=Value.str x t from r); cases e; rfl
 | byt b=>obtain⟨t,e⟩:=(show∃t,u=Value.bytes b t from r); cases e; rfl
 | flt b=>obtain⟨t,e⟩:=(show∃t,u=Value.float b t from r); cases e; rfl
 | ref a=>cases (show u=Value.ref a from r); rfl
 | ty n=>cases (show u=Value.type n from r); rfl
section
variable {P:Program} {w:World} {H H':Hp} {h h':Heap} {a C dx:Addr} {fs fs':List (Str×V)}
theorem gJ(hok:JY P w H h)(e:H a=some (.ins C dx fs)):∃mA,ObjM h a dx C mA/\(∀f,v6 (fs.lookup f) (mA f))/\PySem.Within mA (fs.map (·.1))/\fs.length<=1000/\H dx=some (.own a):=by
 obtain⟨d,z,ne,ob,mA,n,r,q⟩:=(show JJ P w H h a (.ins C dx fs) from hok a _ e)
 exact⟨mA,⟨ob,n,ne⟩,r,q,z,d⟩
end
structure Cls (K:PySem.W.Frag) (C:Addr):Prop where
 pg:PySem.W.plainGet K C Str.empty=true
 hd:PySem.W.hasDictIn K C=true
 po:PySem.W.plainOver K C=true
 sa:PySem.W.findIn K (.ref C) "__setattr__" = some (some (.builtin "object.__setattr__"))
theorem Cls.get{K:PySem.W.Frag}{C:Addr}(c:Cls K C)(f:Str):PySem.W.plainGet K C f=true:=c.pg
def yS(K:PySem.W.Frag)(C:Addr)(f:Str):Prop:=PySem.W.findIn K (.ref C) f=some none
theorem yS.taker{K:PySem.W.Frag}{C:Addr}{f:Str}(n:yS K C f):PySem.W.takerIn K C f=some none:=by
 unfold PySem.W.takerIn
 rw[show PySem.W.findIn K (.ref C) f=some none from n]
 rfl
structure Meth (K:PySem.W.Frag) (C:Addr) (m:Str) (f:Addr):Prop where
 at_:PySem.W.findIn K (.ref C) m=some (some (.ref f))
 fn:PySem.W.isFn K (.ref f)=true
 kp:PySem.W.keepIn K (.ref f)=true
section
variable {X:Cx} {pins:List (Addr×Obj)} {σ:St} {H:Hp} {s:Shared} {a C dx:Addr} {fs:List (Str×V)} {f:Str} {v:V} {A:Around} {E:Value->Shared->Prop}
theorem WL{b:Bool}{Q:Value->Shared->Prop}(I:Inv X pins σ H s)(e:H a=some (.ins C dx fs))(c:Cls X.K C)(n:yS X.K C f)(l:fs.lookup f=some v)
  (h:∀u s',Inv X pins σ H s'->jm v u->Q u s'):wpAny (model X.prog X.w) A (getAttr (.ref a) f b) Q E s:=by
 obtain⟨mA,O,r,_,_,_⟩:=gJ I.hok e
 obtain⟨u,hu,ru⟩:=v6.some_of (v:=v) (o:=mA f) (by rw[<-l]; exact r f)
 exact bq I.kIn O (c.get f) c.hd n hu (Q2 ru) (h u _ (I.tok _) ru)
theorem WM{m:Str}{g:Addr}{pl:Sem Bool}{Q:Value×List Value->Shared->Prop}(I:Inv X pins σ H s)(e:H a=some (.ins C dx fs))(c:Cls X.K C)(k:Meth X.K C m g)(l:fs.lookup m=none)
  (h:Q (.ref g,[.ref a]) s):wpAny (model X.prog X.w) A (getMethod (.ref a) m pl) Q E s:=by
 obtain⟨mA,O,r,_,_,_⟩:=gJ I.hok e
 have hn:mA m=none:=v6.none_of (by rw[<-l]; exact r m)
 exact xS I.kIn O (c.get m) k.at_ k.fn hn h
theorem WN{y:V}{u:Value}{Q:Unit->Shared->Prop}(I:Inv X pins σ H s)(e:H a=some (.ins C dx fs))(c:Cls X.K C)(n:yS X.K C f)(hl:fs.length < 1000)(ry:jm y u)
  (h:∀s',Inv X pins σ (upd H a (.ins C dx (yH f y fs))) s'->Q () s'):wpAny (model X.prog X.w) A (setAttr (.ref a) f u) Q E s:=by
 obtain⟨mA,O,r,wi,_,ho⟩:=gJ I.hok e
 have hz:(fs.map (·.1)).length<=sizeLine:=by rw[List.length_map,sizeLine_eq]; omega
 refine br I.kIn O c.sa c.po n.taker c.hd wi hz fun h' O' sb=>h _ ?_
 have hd:∃o,h'.get? dx=some o:=let ⟨o,_,_,e',_⟩:=O'.ns; ⟨o,e'⟩
 refine I.write (x:=a) (e:=dx) (by rw[e]; exact True.intro) (.inr ho) (fun b q hb z=>(sb.2 b hb).trans z) hd ?_
 refine⟨by rw[jl O.ne]; exact ho,?_,O.ne,O'.obj,_,O'.ns,fun g=>?_,fun g hg=>?_⟩
 ·have:=uY f y fs; omega
 ·show v6 ((yH f y fs).lookup g) (if g=f then some u else mA g)
  rw[uX]
  by_cases q:g=f
  ·rw[if_pos q,if_pos q]; exact ry
  ·rw[if_neg q,if_neg q]; exact r g
 ·by_cases q:g=f
  ·rw[q]; exact(VR f y fs).1
  ·refine(VR f y fs).2 g (wi g fun z=>hg ?_)
   show(if g=f then some u else mA g)=none
   rw[if_neg q]; exact z
theorem Inv.made(I:Inv X pins σ H s):Inv X pins σ (upd (upd H s.heap.objs.size (.own (s.heap.objs.size+1))) (s.heap.objs.size+1) (.ins C s.heap.objs.size []))
  { s with heap:=(s.heap.push PySem.W.emptyDict).push (PySem.W.instObj C s.heap.objs.size) }:=by
 have e1:(s.heap.push PySem.W.emptyDict).get? s.heap.objs.size=some PySem.W.emptyDict:=wJa s.heap rfl
 have e2:((s.heap.push PySem.W.emptyDict).push (PySem.W.instObj C s.heap.objs.size)).get? (s.heap.objs.size+1)=some (PySem.W.instObj C s.heap.objs.size):=by
  have:=wJa (s.heap.push PySem.W.emptyDict) (o:=PySem.W.instObj C s.heap.objs.size) rfl
  rwa [Heap.size_push]at this
 have e3:(s.heap.push PySem.W.emptyDict).Ns s.heap.objs.size (fun _=>none):=⟨PySem.W.emptyDict,#[],_,e1,rfl,(fun e he=>vDa he (by simp)),fun _=>rfl⟩
 have I1:=I.laid (a:=s.heap.objs.size) (o:=.own (s.heap.objs.size+1)) (h':=s.heap.push PySem.W.emptyDict) (t':=s.toks) (fun b u q=>wIa _ q) (wPa _) ⟨_,e1⟩
 refine I1.laid (a:=s.heap.objs.size+1) (o:=.ins C s.heap.objs.size []) (t':=s.toks) (fun b u q=>wIa _ q) (Nat.le_of_eq (Heap.size_push _ _)) ?_
 have ne:s.heap.objs.size≠s.heap.objs.size+1:=wTa (Nat.lt_succ_self _)
 refine⟨by rw[jl ne,J2],Nat.zero_le _,ne,e2,fun _=>none,(Heap.Ns1.of_empty e3).at fun o q=>wIa _ q,fun _=>True.intro,fun y hy=>vDa rfl hy⟩
theorem uF{prog:Program}{w:World}{env:Env}{e:Expr}{f:Str}{pos:Pos}{s:Shared}{Q:Value->Shared->Prop}(hb:attributeBase e f env (eval e env)=eval e env)
  (h:wpAny (model prog w) A (eval e env) (fun o s₁=>wpAny (model prog w) A (getAttr o f true) Q E s₁) E s):wpAny (model prog w) A (eval (.Attribute e f pos) env) Q E s:=
 Attribute_any_ h (by rw[arm_eval_Attribute,hb])
end
def Ha(K:PySem.W.Frag)(ta:TE)(f:Str):TE:=fun σ H Q=>ta σ H fun x H1=>∃a C dx fs v,x=.ref a/\H1 a=some (.ins C dx fs)/\Cls K C/\yS K C f/\fs.lookup f=some v/\Q v H1
def cU(K:PySem.W.Frag)(ta tv:TE)(f:Str):TS:=fun D σ H=>tv σ H fun y H1=>ta σ H1 fun x H2=>∃a C dx fs,x=.ref a/\H2 a=some (.ins C dx fs)/\Cls K C/\yS K C f/\fs.length < 1000/\
 D.nx σ (upd H2 a (.ins C dx (yH f y fs)))
section
variable {X:Cx} {o e value:Expr} {f:Str} {pos pos' tpos:Pos} {ta tv:TE}
theorem cX(he:PE X e ta)(hb:attributeBase e f X.env (eval e X.env)=eval e X.env):PE X (.Attribute e f pos) (Ha X.K ta f):=by
 intro pins s σ H Q I h
 refine uF hb (jk (he pins s σ H _ I h) fun u s1 ⟨x,H1,I1,rx,a,C,dx,fs,v,ex,ea,c,n,l,q⟩=>?_)
 subst ex
 obtain rfl:u=Value.ref a:=rx
 exact WL I1 ea c n l fun u' s2 I2 ru=>⟨v,H1,I2,ru,q⟩
theorem cY(ha:PE X o ta)(hv:PE X value tv)(hs:swapsWith value (some (.Attribute o f pos')) pos.line X.env=pure false):PS X (.Assign [.Attribute o f pos'] value pos) (cU X.K ta tv f):=by
 intro pins s σ H D I h
 refine plainObj_wpAny_Assign_Attribute (jk (hv pins s σ H _ I h) fun u s1 ⟨y,H1,I1,ry,q⟩=>jk (ha pins s1 σ H1 _ I1 q) fun ov s2 ⟨x,H2,I2,rx,a,C,dx,fs,ex,ea,c,n,l,q2⟩=>?_) hs
 subst ex
 obtain rfl:ov=Value.ref a:=rx
 exact WN I2 ea c n l ry fun s3 I3=>⟨σ,_,I3,q2⟩
end
end L2
namespace L2
open PySem PySem.Spec PyProof.Rows
structure Room (k:Nat) (A:Around):Prop where
 hd:A.handled=none
 dp:A.depth+3 * k+5 < recursionLimit
 un:A.units+16 * k+200 < cLine
theorem Room.mono{j k:Nat}{A:Around}(r:Room k A)(h:j<=k):Room j A:=⟨r.hd,by have:=r.dp; omega,by have:=r.un; omega⟩
theorem Room.deeper{k:Nat}{A:Around}(r:Room (k+1) A)(env:Env):Room k (A.deeper env):=
 ⟨r.hd,by have:=r.dp; show A.depth+1+3 * k+5 < _; omega,by have:=r.un; show A.units+3+16 * k+200 < _; omega⟩
theorem WO{A:Around}{C:Addr}{us:List Value}{kw:List (Str×Value)}:(A.under (.builtin "type.__call__" ⟨.ref C::us,kw⟩)).depth=A.depth+1:=by
 first | rfl | simp[Around.under,Code.weight,Code.isCreation,Code.isGuard,Code.isCaller,Code.frames,Code.isFrame,guardIds]
theorem WP{A:Around}{C:Addr}{us:List Value}{kw:List (Str×Value)}:(A.under (.builtin "type.__call__" ⟨.ref C::us,kw⟩)).units=A.units+1:=by
 first | rfl | simp[Around.under,Code.cUnits,Code.frames,Code.isFrame]
theorem Room.make{k:Nat}{A:Around}(r:Room (k+1) A)(C:Addr)(us:List Value)(kw:List (Str×Value)):Room k (A.under (.builtin "type.__call__" ⟨.ref C::us,kw⟩)):=
 ⟨r.hd,by have:=r.dp; rw[WO]; omega,by have:=r.un; rw[WP]; omega⟩
theorem Room.depth{k:Nat}{A:Around}(r:Room k A):A.depth < recursionLimit:=by have:=r.dp; omega
theorem Room.units{k:Nat}{A:Around}(r:Room k A):A.units+64 < cLine:=by have:=r.un; omega
def VS:TA:=fun _ H Q=>Q [] H
def zZ(ta:TE)(tr:TA):TA:=fun σ H Q=>ta σ H fun x H1=>tr σ H1 fun xs H2=>Q (x::xs) H2
section
variable {X:Cx} {e:Expr} {es:List Expr} {te:TE} {t:TA} {pos:Pos}
theorem JN:PA X [] VS:=fun _ _ _ _ H Q I h=>Calls.spliced_nil ⟨[],H,I,.nil,h⟩
theorem jU(ha:PE X e te)(hr:PA X es t)(hs:starEach (e::es) X.env=(false,eval e X.env)::starEach es X.env:=by rfl):PA X (e::es) (zZ te t):=by
 intro pos pins s σ H Q I h
 rw[hs]
 show wpAny _ _ (spliced ((false,eval e X.env)::backTo pos (starEach es X.env))) _ _ s
 refine Calls.spliced_cons (jk (ha pins s σ H _ I h) fun u s1 ⟨x,H1,I1,r1,q1⟩=>?_)
 exact jk (hr pos pins s1 σ H1 _ I1 q1) fun us s2 ⟨xs,H2,I2,r2,q2⟩=>⟨x::xs,H2,I2,.cons r1 r2,q2⟩
def Hb(t:TA):TE:=fun σ H Q=>t σ H fun xs H1=>xs.length<=sizeLine/\∀p,H1 p=none->Q (.ref p) (upd H1 p (.tup xs))
def Hc(t:TA):TE:=fun σ H Q=>t σ H fun xs H1=>xs.length<=sizeLine/\∀p,H1 p=none->Q (.ref p) (upd H1 p (.lst xs))
theorem cZ{x1}(h:PA X es t):PE X (.Tuple es x1 pos) (Hb t):=by
 intro pins s σ H Q I hq
 refine wpAny_Tuple_spliced (jk (h pos pins s σ H _ I hq) fun us s1 ⟨xs,H1,I1,r,z,q⟩=>⟨by rw[<-r.length]; exact z,?_⟩)
 have hf:H1 s1.heap.objs.size=none:=I1.hok.fresh (wPa _)
 refine⟨.ref s1.heap.objs.size,upd H1 s1.heap.objs.size (.tup xs),I1.laid (t':=s1.toks) (fun b u e=>wIa _ e) (wPa _) ?_,rfl,q _ hf⟩
 exact⟨z,us,r,⟨_,wJa _ rfl,rfl,_,rfl⟩⟩
theorem Q3(h:PA X es t):PE X (.List es pos) (Hc t):=by
 intro pins s σ H Q I hq
 refine wpAny_List_spliced (jk (h pos pins s σ H _ I hq) fun us s1 ⟨xs,H1,I1,r,z,q⟩=>⟨by rw[<-r.length]; exact z,?_⟩)
 have hf:H1 s1.heap.objs.size=none:=I1.hok.fresh (wPa _)
 refine⟨.ref s1.heap.objs.size,upd H1 s1.heap.objs.size (.lst xs),I1.laid (t':=s1.toks) (fun b u e=>wIa _ e) (wPa _) ?_,rfl,q _ hf⟩
 exact⟨z,us,0,r,wJa _ rfl⟩
end
noncomputable abbrev Sp:=List V->Hp->VK->XK->Prop
noncomputable abbrev vE:=List Env->Hp->Shared->XK->Value->Shared->Prop
structure Env0 (P:Program) (w:World) (K:PySem.W.Frag) (mg:Str->Option Value) (base:Heap) (A:Around) (outer:List Env) (s:Shared) (H:Hp):Prop where
 frames:A.frames=some outer
 mod:Mod K mg base
 bs:∀b o,base.get? b=some o->s.heap.get? b=some o/\H b=none
 bsz:base.objs.size<=s.heap.objs.size
 funs:s.heap.FunFrames base outer
 frf:∀b∈Jd outer,H b=none
 hok:JY P w H s.heap
 bare:AllBare s.gens
def CE(outer:List Env)(P:Program)(w:World)(H:Hp)(s:Shared)(Q:VK)(u:Value)(s':Shared):Prop:=
 ∃v H',s'.os=s.os/\AllBare s'.gens/\Un (Jd outer) [] H H' s.heap s'.heap/\JY P w H' s'.heap/\jm v u/\Q v H'
def CR(CX:vE)(outer:List Env)(P:Program)(w:World)(H:Hp)(s:Shared)(Q:VK)(E:XK)(r:Result)(s':Shared):Prop:=
 match r with
 | .ok (.ret u)=>CE outer P w H s Q u s'
 | .ok _=>False
 | .error e=>CX outer H s E e s'
structure FnOk (P:Program) (w:World) (K:PySem.W.Frag) (mg:Str->Option Value) (base:Heap) (CX:vE) (k:Nat) (f:Addr) (fd:FuncData) (ps:List Str) (sp:Sp):Prop where
 len:∀vs H Q E,sp vs H Q E->vs.length=ps.length
 run:∀(A:Around) (outer:List Env) (s:Shared) (H:Hp) (args:Args) (us:List Value) (vs:List V) (Q:VK) (E:XK),Room k A->Env0 P w K mg base A outer s H->BindsTo s fd args (ps.zip us)->je vs us->sp vs H Q E->
  codeAny (model P w) A (.call (.ref f) args) (CR CX outer P w H s Q E) s
theorem FnOk.imp{P:Program}{w:World}{K:PySem.W.Frag}{mg:Str->Option Value}{base:Heap}{CX:vE}{k:Nat}{f:Addr}{fd:FuncData}{ps:List Str}{sp sp':Sp}(F:FnOk P w K mg base CX k f fd ps sp)
  (h:∀vs H Q E,sp' vs H Q E->sp vs H Q E):FnOk P w K mg base CX k f fd ps sp':=
 ⟨fun vs H Q E q=>F.len vs H Q E (h _ _ _ _ q),fun A outer s H args us vs Q E hr he hb hv hs=>F.run A outer s H args us vs Q E hr he hb hv (h _ _ _ _ hs)⟩
theorem Env0.make{P:Program}{w:World}{K:PySem.W.Frag}{mg:Str->Option Value}{base:Heap}{A:Around}{outer:List Env}{s:Shared}{H:Hp}(e:Env0 P w K mg base A outer s H)(C:Addr)(us:List Value)(kw:List (Str×Value)):
  Env0 P w K mg base (A.under (.builtin "type.__call__" ⟨.ref C::us,kw⟩)) outer s H:=⟨by first | exact e.frames | (simpa[Around.under,Code.envs,Code.isFrame,pushEnvs]using e.frames),e.mod,e.bs,e.bsz,e.funs,e.frf,e.hok,e.bare⟩
section
variable {X:Cx} {pins:List (Addr×Obj)} {σ:St} {H:Hp} {s s':Shared}
theorem Inv.env0(I:Inv X pins σ H s):Env0 X.prog X.w X.K X.mg X.base X.A X.stack s H:=
 ⟨I.ok.frames,I.ok.mod,I.bs,wSa I.ok.bsz I.sz,I.stack,I.stkFree,I.hok,I.bare⟩
theorem Inv.after{Q:VK}{u:Value}(I:Inv X pins σ H s)(h:CE X.stack X.prog X.w H s Q u s'):EP X pins σ Q u s':=by
 obtain⟨v,H',os,bare,un,hok,r,q⟩:=h
 obtain⟨hh,g,d,t,os'⟩:=s'
 obtain rfl:os'=s.os:=os
 exact⟨v,H',I.call (h':=hh) (g':=g) (d':=d) (t':=t) (ch:=[]) un hok bare (fun b z=>vDa z (by simp)),r,q⟩
end
def aI(sp:Sp)(dvs:List V)(E:XK)(t:TA):TE:=fun σ H Q=>t σ H fun vs H1=>sp (vs++dvs) H1 Q E
def aJ(C:Addr)(m:Str)(sp:Sp)(dvs:List V)(E:XK)(ta:TE)(t:TA):TE:=fun σ H Q=>ta σ H fun x H1=>∃a dx fs,x=.ref a/\H1 a=some (.ins C dx fs)/\fs.lookup m=none/\
 t σ H1 fun vs H2=>sp (x::(vs++dvs)) H2 Q E
def aK(C:Addr)(sp:Sp)(dvs:List V)(E:XK)(t:TA):TE:=fun σ H Q=>t σ H fun vs H1=>∀x dx,H1 x=none->H1 dx=none->dx≠x->
 sp (.ref x::(vs++dvs)) (upd (upd H1 dx (.own x)) x (.ins C dx [])) (fun v H2=>v=.non/\Q (.ref x) H2) E
def J_(K:PySem.W.Frag)(fd:FuncData)(ps:List Str)(ds:List Value):Prop:=
 ∀(s:Shared) (us:List Value),K.In s.heap->(us++ds).length=ps.length->BindsTo s fd ⟨us,[]⟩ (ps.zip (us++ds))
theorem J_.all{K:PySem.W.Frag}{fd:FuncData}{ps:List Str}(h:∀us:List Value,us.length=ps.length->bindArgs fd ⟨us,[]⟩=pure (ps.zip us)):J_ K fd ps []:=fun s us _ hl=>by
 rw[List.append_nil]at hl⊢
 exact .of_eq (h us hl)
def YF(CX:vE)(X:Cx)(E:XK):Prop:=∀(pins:List (Addr×Obj)) (σ:St) (H:Hp) (s:Shared) (e:Value) (s':Shared),Inv X pins σ H s->CX X.stack H s E e s'->X.xe e s'
section
variable {X:Cx} {CX:vE} {k:Nat} {f C:Addr} {fd:FuncData} {ps:List Str} {sp:Sp} {dvs:List V} {ds:List Value} {E:XK} {x m:Str} {p pos apos:Pos} {e o:Expr} {es:List Expr} {ta:TE} {t:TA}
theorem Q4{pins:List (Addr×Obj)}{σ:St}{H:Hp}{s:Shared}{Q:VK}{us:List Value}{vs:List V}(F:FnOk X.prog X.w X.K X.mg X.base CX k f fd ps sp)(hr:Room k X.A)(hb:J_ X.K fd ps ds)(hd:je dvs ds)(hx:YF CX X E)
  (I:Inv X pins σ H s) (r:je vs us) (h:sp (vs++dvs) H Q E):wpAny (model X.prog X.w) X.A (call (.ref f) us) (EP X pins σ Q) X.xe s:=by
 have r2:je (vs++dvs) (us++ds):=r.append hd
 have hl:(us++ds).length=ps.length:=by rw[<-r2.length]; exact F.len _ _ _ _ h
 refine wpAny_call (codeAny_mono (F.run X.A X.stack s H ⟨us,[]⟩ (us++ds) (vs++dvs) Q E hr I.env0 (hb s us I.kIn hl) r2 h) fun r s' hq=>?_)
 cases r with
 | error e=>exact hx pins σ H s e s' I hq
 | ok fl=>
  cases fl with
  | ret u=>exact I.after hq
  | next=>exact False.elim hq
  | brk=>exact False.elim hq
  | cont=>exact False.elim hq
theorem wT(F:FnOk X.prog X.w X.K X.mg X.base CX k f fd ps sp)(hr:Room k X.A)(hg:Gl X x)(hm:X.mg x=some (.ref f))(hk:PySem.W.keepIn X.K (.ref f)=true)(hb:J_ X.K fd ps ds)(hd:je dvs ds)(hx:YF CX X E)
  (ha:PA X (e::es) t) (hdb:(x==("__debug__" : Str))=false:=by decide) (he:starEach (e::es) X.env=(false,eval e X.env)::starEach es X.env:=by rfl) (hpl:(backTo pos (starEach es X.env)).any (·.1)=false:=by rfl):
  PE X (.Call (.Name x p) (e::es) [] pos) (aI sp dvs E t):=by
 intro pins s σ H Q I h
 refine wpAny_Call_Name_kw (vv I hg hm ?_ hdb)
 refine PySem.W.callWith_K (h₀:=X.base) I.ok.mod.kin hk (jk (ha pos pins s σ H _ I h) fun us s1 ⟨vs,H1,I1,r,q⟩=>⟨I1.kIn,?_⟩) he hpl
 exact Q4 F hr hb hd hx I1 r q
theorem xU{pl:Sem Bool}(he:PE X o ta)(c:Cls X.K C)(hm:Meth X.K C m f)(F:FnOk X.prog X.w X.K X.mg X.base CX k f fd ps sp)(hr:Room k X.A)(hb:J_ X.K fd ps ds)(hd:je dvs ds)(hx:YF CX X E)
  (ht:eval (.Call (.Attribute o m apos) [] [] pos) X.env=(do
   let ov<-eval o X.env
   standAt apos.atName
   let (f,first)<-holding [ov] (getMethod ov m pl)
   callWith pos f first (backTo pos (starEach [] X.env)) (backToKw pos (keywordEach [] X.env))):=by rfl):
  PE X (.Call (.Attribute o m apos) [] [] pos) (aJ C m sp dvs E ta VS):=by
 intro pins s σ H Q I h
 refine PySem.W.methodCall_KW (pl:=pl) (jk (he pins s σ H _ I h) fun u s1 ⟨x,H1,I1,rx,a,dx,fs,ex,ea,l,q⟩=>?_) ht
 subst ex
 obtain rfl:u=Value.ref a:=rx
 refine WM I1 ea c hm l ?_
 exact PySem.W.callWith_K0 (first:=[.ref a]) I1.kIn hm.kp (Q4 (us:=[.ref a]) (vs:=[.ref a]) F hr hb hd hx I1 (.cons rfl .nil) q)
structure Mk (K:PySem.W.Frag) (C f:Addr):Prop where
 makes:PySem.W.makesIn K C=true
 init:PySem.W.findIn K (.ref C) "__init__" = some (some (.ref f))
 fn:PySem.W.isFn K (.ref f)=true
 kp:PySem.W.keepIn K (.ref C)=true
theorem xV{pins:List (Addr×Obj)}{σ:St}{H:Hp}{s:Shared}{Q:VK}{us:List Value}{vs:List V}(M:Mk X.K C f)(F:FnOk X.prog X.w X.K X.mg X.base CX k f fd ps sp)(hr:Room (k+1) X.A)(hb:J_ X.K fd ps ds)(hd:je dvs ds)
  (hx:YF CX X E) (I:Inv X pins σ H s) (r:je vs us)
  (h:∀x dx,H x=none->H dx=none->dx≠x->sp (.ref x::(vs++dvs)) (upd (upd H dx (.own x)) x (.ins C dx [])) (fun v H2=>v=.non/\Q (.ref x) H2) E):
  wpAny (model X.prog X.w) X.A (call (.ref C) us) (EP X pins σ Q) X.xe s:=by
 have hq:=h (s.heap.objs.size+1) s.heap.objs.size (I.hok.fresh (vMa _)) (I.hok.fresh (wPa _)) (wTa (Nat.lt_succ_self _))
 have I2:=Inv.made (C:=C) I
 have r2:je (V.ref (s.heap.objs.size+1)::(vs++dvs)) (Value.ref (s.heap.objs.size+1)::(us++ds)):=.cons rfl (r.append hd)
 have hl:(Value.ref (s.heap.objs.size+1)::us++ds).length=ps.length:=by
  have e:=r2.length
  rw[F.len _ _ _ _ hq]at e
  exact e.symm
 refine wpAny_call (xT (f:=f) I.kIn M.makes M.init (beq_iff_eq.mp M.fn) (codeAny_mono (F.run _ X.stack _ _ ⟨Value.ref (s.heap.objs.size+1)::us,[]⟩ (Value.ref (s.heap.objs.size+1)::(us++ds)) _ _ E (hr.make C us [])
  (I2.env0.make C us []) (hb _ (Value.ref (s.heap.objs.size+1)::us) I2.kIn hl) r2 hq) fun r s' hq'=>?_))
 cases r with
 | error e=>exact hx pins σ _ _ e s' I2 hq'
 | ok fl=>
  cases fl with
  | ret u=>
   obtain⟨v,H',I3,rv,ev,q3⟩:=I2.after hq'
   subst ev
   exact⟨rv,⟨V.ref (s.heap.objs.size+1),H',I3,rfl,q3⟩⟩
  | next=>exact False.elim hq'
  | brk=>exact False.elim hq'
  | cont=>exact False.elim hq'
theorem bt(M:Mk X.K C f)(F:FnOk X.prog X.w X.K X.mg X.base CX k f fd ps sp)(hr:Room (k+1) X.A)(hg:Gl X x)(hm:X.mg x=some (.ref C))(hb:J_ X.K fd ps ds)(hd:je dvs ds)(hx:YF CX X E)
  (ha:PA X (e::es) t) (hdb:(x==("__debug__" : Str))=false:=by decide) (he:starEach (e::es) X.env=(false,eval e X.env)::starEach es X.env:=by rfl) (hpl:(backTo pos (starEach es X.env)).any (·.1)=false:=by rfl):
  PE X (.Call (.Name x p) (e::es) [] pos) (aK C sp dvs E t):=by
 intro pins s σ H Q I h
 refine wpAny_Call_Name_kw (vv I hg hm ?_ hdb)
 refine PySem.W.callWith_K (h₀:=X.base) I.ok.mod.kin M.kp (jk (ha pos pins s σ H _ I h) fun us s1 ⟨vs,H1,I1,r,q⟩=>⟨I1.kIn,?_⟩) he hpl
 exact xV M F hr hb hd hx I1 r q
end
def PK(X:Cx)(kws:List Keyword)(t:TA):Prop:=
 ∀(pos:Pos) (pins:List (Addr×Obj)) (s:Shared) (σ:St) (H:Hp) (Q:List V->Hp->Prop),Inv X pins σ H s->t σ H Q->wpAny (model X.prog X.w) X.A (evalAll ((backToKw pos (keywordEach kws X.env)).map (·.2))) (AP X pins σ Q) X.xe s
section
variable {X:Cx} {CX:vE} {k:Nat} {f C:Addr} {fd:FuncData} {ps ks:List Str} {sp:Sp} {E:XK} {x m:Str} {p pos apos kpos:Pos} {e o:Expr} {es:List Expr} {kws:List Keyword} {te ta:TE} {t tk:TA} {nm:Option Str}
theorem c_:PK X [] VS:=fun _ _ _ _ H Q I h=>wpAny_evalAll_nil ⟨[],H,I,.nil,h⟩
theorem bu(ha:PE X e te)(hr:PK X kws t):PK X (⟨nm,e,kpos⟩::kws) (zZ te t):=by
 intro pos pins s σ H Q I h
 show wpAny _ _ (evalAll ((do let v<-eval e X.env; standAt pos; pure v)::(backToKw pos (keywordEach kws X.env)).map (·.2))) _ _ s
 refine wpAny_evalAll_cons (wAa (jk (ha pins s σ H _ I h) fun u s1 ⟨x,H1,I1,r1,q1⟩=>wAa (vOa (wBa ?_))))
 exact jk (hr pos pins s1 σ H1 _ I1 q1) fun us s2 ⟨xs,H2,I2,r2,q2⟩=>⟨x::xs,H2,I2,.cons r1 r2,q2⟩
variable {g:List Value->List Value->List Value} {gV:List V->List V->List V}
end
structure FnScope (N P:List Str) (sc:Scope):Prop where
 kind:sc.kind=.function
 co:sc.isCoroutine=false
 gen:sc.isGenerator=false
 nd:N.Nodup
 pre:N.take P.length=P
 par:∀x∈P,sc.names.lookup x=some .local∨sc.names.lookup x=some .cell
 nofree:∀y∈sc.names,y.2≠.free
theorem Gy{kindOf:Str->Option NameKind}{x:Str}:∀{binds:List (Str×Value)} {m:Str->Option Value},(∀v,(x,v)∉binds)->bindL kindOf binds m x=m x
 | [],_,_=>rfl
 | (n,v)::r,m,h=>by
  unfold bindL
  rw[Gy fun w hw=>h w (List.mem_cons_of_mem _ hw)]
  split
  ·have:x≠n:=by rintro rfl; exact h v wNa
   simp[this]
  ·rfl
theorem Gz{kindOf:Str->Option NameKind}{x:Str}:∀{binds:List (Str×Value)} {m:Str->Option Value},(∀v,(x,v)∉binds)->bindC kindOf binds m x=m x
 | [],_,_=>rfl
 | (n,v)::r,m,h=>by
  unfold bindC
  rw[Gz fun w hw=>h w (List.mem_cons_of_mem _ hw)]
  split
  ·rfl
  ·have:x≠n:=by rintro rfl; exact h v wNa
   simp[this]
theorem GA{kindOf:Str->Option NameKind}{x:Str}{v:Value}:∀{P:List Str} {vs:List Value} {i:Nat} {m:Str->Option Value},P.Nodup->P[i]?=some x->vs[i]?=some v->kindOf x=some .local->
  bindL kindOf (P.zip vs) m x=some v
 | [],_,_,_,_,h,_,_=>by simp at h
 | _::_,[],_,_,_,_,h,_=>by simp at h
 | p::P,w::vs,0,m,nd,h1,h2,hk=>by
  simp at h1 h2; subst h1; subst h2
  show bindL kindOf ((p,w)::P.zip vs) m p=_
  unfold bindL
  rw[Gy fun v hv=>(List.nodup_cons.mp nd).1 (List.of_mem_zip hv).1,if_pos hk]
  simp
 | p::P,w::vs,i+1,m,nd,h1,h2,hk=>by
  show bindL kindOf ((p,w)::P.zip vs) m x=_
  unfold bindL
  exact GA (i:=i) (List.nodup_cons.mp nd).2 (by simpa using h1) (by simpa using h2) hk
theorem GB{kindOf:Str->Option NameKind}{x:Str}{v:Value}:∀{P:List Str} {vs:List Value} {i:Nat} {m:Str->Option Value},P.Nodup->P[i]?=some x->vs[i]?=some v->kindOf x≠some .local->
  bindC kindOf (P.zip vs) m x=some v
 | [],_,_,_,_,h,_,_=>by simp at h
 | _::_,[],_,_,_,_,h,_=>by simp at h
 | p::P,w::vs,0,m,nd,h1,h2,hk=>by
  simp at h1 h2; subst h1; subst h2
  show bindC kindOf ((p,w)::P.zip vs) m p=_
  unfold bindC
  rw[Gz fun v hv=>(List.nodup_cons.mp nd).1 (List.of_mem_zip hv).1,if_neg hk]
  simp
 | p::P,w::vs,i+1,m,nd,h1,h2,hk=>by
  show bindC kindOf ((p,w)::P.zip vs) m x=_
  unfold bindC
  exact GB (i:=i) (List.nodup_cons.mp nd).2 (by simpa using h1) (by simpa using h2) hk
noncomputable def Yh(N:List Str)(vs:List V):St:=vs.map some++List.replicate (N.length - vs.length) none
noncomputable def Ju(CX:vE)(P:Program)(w:World)(K:PySem.W.Frag)(mg:Str->Option Value)(base:Heap)(N:List Str)(qual:Str)(scope:Scope)(f:Addr)(cd:Value)(A:Around)(outer:List Env)(s:Shared)(H:Hp)(E:XK):Cx where
 prog:=P
 w:=w
 K:=K
 mg:=mg
 base:=base
 A:=A.deeper (envOfC qual scope s.heap.objs.size f cd)
 N:=N
 s₀:=s
 H₀:=H
 env:=envOfC qual scope s.heap.objs.size f cd
 outer:=outer
 stack:=envOfC qual scope s.heap.objs.size f cd::outer
 ex:=[]
 calm:=true
 fn:=fun _=>true
 pn:=[]
 xe:=fun e s'=>wpAny (model P w) (A.deeper (envOfC qual scope s.heap.objs.size f cd)) (leaving (envOfC qual scope s.heap.objs.size f cd) e) (fun _ s''=>CX outer H s E e s'') (fun e' s''=>CX outer H s E e' s'') s'
theorem kJ{sc:Scope}{n:Nat}{x:Str}(h:sc.names.lookup x=some .cell):∃c,(cellsFrom n sc.names []).lookup x=some c:=by
 have q:=PySem.W.cellsFrom_some sc.names n [] (.inl h)
 exact Option.isSome_iff_exists.mp q
theorem Q5{CX:vE}{P:Program}{w:World}{K:PySem.W.Frag}{mg:Str->Option Value}{base:Heap}{N ps:List Str}{qual:Str}{scope:Scope}{f:Addr}{cd:Value}{A:Around}{outer:List Env}{s s1:Shared}{H:Hp}{E:XK}{us:List Value}{vs:List V}
  (S:FnScope N ps scope) (hd:A.handled=none) (e0:Env0 P w K mg base A outer s H) (hl:vs.length=ps.length) (r:je vs us)
  (x:InCallC s s.heap.objs.size (bindL (envOfC qual scope s.heap.objs.size f cd).kindOf (ps.zip us) fun _=>none) (cellsFrom (s.heap.objs.size+1) scope.names []) (bindC (envOfC qual scope s.heap.objs.size f cd).kindOf (ps.zip us) fun _=>none) s1):
  Inv (Ju CX P w K mg base N qual scope f cd A outer s H E) [] (Yh N vs) H s1:=by
 have hpl:ps.length<=N.length:=by have:=congrArg List.length S.pre; rw[List.length_take]at this; omega
 obtain⟨h1,tk,rfl,hk⟩:=x.done
 have noA:∀b:Addr,b∉(Ju CX P w K mg base N qual scope f cd A outer s H E).ex:=fun b z=>vDa (show b∈([]:List Addr) from z) (by simp)
 refine⟨⟨e0.mod,S.kind,rfl,rfl,wPa _,fun y z c h1 h2=>?_,fun y hy=>?_,fun y c _ h=>?_,fun _=>hd,Around.frames_deeper e0.frames,.inr ⟨rfl,rfl⟩,fun b z=>vDa z (noA b),e0.bs,e0.bsz,fun b _ _=>noA b,fun b z=>vDa z (noA b),e0.funs,e0.frf⟩,
  rfl,e0.bare,Un.kept hk,⟨_,x.toInCall.ns,fun i y v h1 h2 h3=>?_⟩,fun y c h=>⟨_,x.cell y c h⟩,e0.hok.fresh (wPa _),fun y c h=>?_,fun p hp=>vDa (show p∈([]:List (Addr×Obj)) from hp) (by simp),e0.hok.kept hk,?_⟩
 ·exact name_of_addr x.apart (PySem.mem_of_lookup h1) (PySem.mem_of_lookup h2)
 ·have hy:scope.names.lookup y=some .cell∨scope.names.lookup y=some .free:=hy
  rcases hy with hy | hy
  ·exact kJ hy
  ·exact vDa rfl (S.nofree _ (PySem.mem_of_lookup hy))
 ·exact wQa (x.above y c (PySem.mem_of_lookup h))
 ·have hi:i < vs.length:=by
   unfold Yh at h2
   by_cases hi:i < vs.length
   ·exact hi
   ·rw[List.getElem?_append_right (by simpa using hi)]at h2
    rw[List.getElem?_replicate]at h2
    split at h2 <;> cases h2
  have ha:vs[i]?=some v:=by
   unfold Yh at h2
   rw[List.getElem?_append_left (by simpa using hi),List.getElem?_map]at h2
   cases e:vs[i]? with
   | none=>rw[e]at h2; cases h2
   | some a=>rw[e]at h2; cases h2; rfl
  obtain⟨u,hu,rv⟩:=r.get ha
  have hp:ps[i]?=some y:=by
   rw[<-S.pre,List.getElem?_take_of_lt (by omega)]; exact h1
  have ndP:ps.Nodup:=by rw[<-S.pre]; exact S.nd.sublist (List.take_sublist _ _)
  refine⟨u,rv,?_⟩
  rcases S.par y (List.mem_of_getElem? hp)with k | k
  ·exact .inl ⟨k,GA ndP hp hu k⟩
  ·obtain⟨c,e⟩:=kJ (n:=s.heap.objs.size+1) k
   refine .inr ⟨.inl k,c,e,?_⟩
   have q:=x.cell y c e
   rw[GB ndP hp hu (by show scope.names.lookup y≠_; rw[k]; decide)]at q
   exact q
 ·exact e0.hok.fresh (wQa (x.above y c (PySem.mem_of_lookup h)))
 ·unfold Yh
  show _=N.length
  rw[List.length_append,List.length_map,List.length_replicate]
  omega
theorem aL{CX:vE}{P:Program}{w:World}{K:PySem.W.Frag}{mg:Str->Option Value}{base:Heap}{k:Nat}{f:Addr}{name qual:Str}{params:Arguments}{body:List Stmt}{scope:Scope}{dV kV doc pm cdv ct oc:Value}{an od:Option Addr}
  {osl:Array (Option Value)} {N ps:List Str} {sp:Sp} (lk:K.lookup f=some ⟨oc,od,.func (PySem.W.fnOf name qual params body scope dV kV doc pm an cdv ct),osl⟩) (hcd:PySem.W.codeIn K cdv qual=true) (S:FnScope N ps scope)
  (len:∀vs H Q E,sp vs H Q E->vs.length=ps.length)
  (hbody:∀(A:Around) (outer:List Env) (s:Shared) (H:Hp) (vs:List V) (Q:VK) (E:XK),Room k (A.deeper (envOfC qual scope s.heap.objs.size f cdv))->sp vs H Q E->
   ∃t,jL (Ju CX P w K mg base N qual scope f cdv A outer s H E) body t/\t { nx:=fun _ H'=>Q .non H',rt:=Q } (Yh N vs) H):
  FnOk P w K mg base CX (k+1) f (PySem.W.fnOf name qual params body scope dV kV doc pm an cdv ct) ps sp:=by
 refine⟨len,fun A outer s H args us vs Q E hr e0 hb r hsp=>?_⟩
 have hl:=len _ _ _ _ hsp
 have KX:K.In s.heap:=e0.mod.kin.keeps fun b o e=>(e0.bs b o e).1
 have lim:s.heap.NoLimit:=e0.mod.nolimit.keeps fun b o e=>(e0.bs b o e).1
 have hkind:∀y∈ps.zip us,scope.names.lookup y.1=some .local∨(scope.names.lookup y.1=some .cell/\((cellsFrom (s.heap.objs.size+1) scope.names []).lookup y.1).isSome=true):=fun⟨n,v⟩ hy=>by
  rcases S.par n (List.of_mem_zip hy).1 with q | q
  ·exact .inl q
  ·exact .inr ⟨q,PySem.W.cellsFrom_some _ _ _ (.inl q)⟩
 refine codeAny_call_function hr.depth (KX _ _ lk) rfl S.co S.gen rfl (PySem.W.codeRec_of KX hcd) (hb _ _ _ _ ?_)
 refine wpAny_newFunctionEnv_cells S.kind hkind fun env he s1 x=>?_
 subst he
 refine⟨lim.keeps x.toInCall.keep,codeAny_func ?_⟩
 obtain⟨t,ht,hq⟩:=hbody A outer s H vs Q E (hr.deeper _) hsp
 have I:Inv (Ju CX P w K mg base N qual scope f cdv A outer s H E) [] (Yh N vs) H s1:=Q5 S hr.hd e0 hl r x
 refine wCa (ht [] s1 (Yh N vs) H _ I hq) (fun fl s' hs=>?_) fun e s' hs=>hs
 have fin:∀{σ':St} {H':Hp} {v:V} {u:Value},Inv (Ju CX P w K mg base N qual scope f cdv A outer s H E) [] σ' H' s'->jm v u->Q v H'->CE outer P w H s Q u s':=
  fun {σ' H' v u} J rv q=>⟨v,H',J.os,J.bare,J.base,J.hok,rv,q⟩
 cases fl with
 | ret u=>
  obtain⟨v,σ',H',J,rv,q⟩:=hs
  exact fin J rv q
 | next=>
  obtain⟨σ',H',J,q⟩:=hs
  exact fin (v:=V.non) (u:=Value.none) J rfl q
 | brk=>
  obtain⟨_,_,_,q⟩:=hs
  exact False.elim q
 | cont=>
  obtain⟨_,_,_,q⟩:=hs
  exact False.elim q
end L2
namespace L2
open PySem PySem.Spec PyProof.Rows
section
variable {X:Cx} {x:Str} {p pos:Pos} {e:Expr} {es:List Expr} {t:TA} {id T:String} {r:List V->Hp->VK->Prop}
def Q6(r:List V->Hp->VK->Prop)(t:TA):TE:=fun σ H Q=>t σ H fun vs H1=>r vs H1 Q
theorem yk(hc:yj X (.builtin id) r)(hg:Gl X x)(hm:X.mg x=none)(hv:bootBuiltins x=some (.builtin id))(ha:PA X (e::es) t)(hn:x≠ "__name__" := by decide)(hdb:(x==("__debug__" : Str))=false:=by decide)
  (he:starEach (e::es) X.env=(false,eval e X.env)::starEach es X.env:=by rfl) (hpl:(backTo pos (starEach es X.env)).any (·.1)=false:=by rfl):PE X (.Call (.Name x p) (e::es) [] pos) (Q6 r t):=by
 intro pins s σ H Q I h
 refine wpAny_Call_Name_kw (Yc I hg hm hv ?_ hn hdb)
 exact PyProof.Rows.callWith_builtin1 (jk (ha pos pins s σ H _ I h) fun us s1 ⟨vs,H1,I1,r1,q1⟩=>hc pins s1 σ H1 vs us Q I1 r1 q1) he hpl
theorem ZN(hc:yj X (.type T) r)(hg:Gl X x)(hm:X.mg x=none)(hv:bootBuiltins x=some (.type T))(ha:PA X (e::es) t)(hn:x≠ "__name__" := by decide)(hdb:(x==("__debug__" : Str))=false:=by decide)
  (he:starEach (e::es) X.env=(false,eval e X.env)::starEach es X.env:=by rfl) (hpl:(backTo pos (starEach es X.env)).any (·.1)=false:=by rfl):PE X (.Call (.Name x p) (e::es) [] pos) (Q6 r t):=by
 intro pins s σ H Q I h
 refine wpAny_Call_Name_kw (Yc I hg hm hv ?_ hn hdb)
 exact PyProof.Rows.callWith_type1 (jk (ha pos pins s σ H _ I h) fun us s1 ⟨vs,H1,I1,r1,q1⟩=>hc pins s1 σ H1 vs us Q I1 r1 q1) he hpl
end
end L2
namespace HT
open PySem PyProof.Rows
section
open PySem.SeqAt
open PySem.AutoSeq1 (wpAny_loadPart')
open PySem.MeetsSeq PySem.MeetsSeq2 PySem.MeetsSeq3
end
section
variable {prog:Program} {w:World} {A:Around} {E:Value->Shared->Prop} {s:Shared}
theorem cat_tup{t b:Addr}{vs ws:List Value}{Q:Value->Shared->Prop}(ht:IsTup s.heap t vs.toArray)(hb:IsTup s.heap b ws.toArray)(hv:vs≠[])
  (h1:ws=[]->Q (.ref t) s) (h2:ws≠[]->Q (.ref s.heap.objs.size) { s with heap:=s.heap.push { cls:=.type "tuple",data:=.seq (vs++ws).toArray } })
  (hsz:vs.length+ws.length<=sizeLine):wpAny (model prog w) A (binaryOp .Add (.ref t) (.ref b)) Q E s:=by
 obtain⟨⟨cls,dd,data,sl⟩,ho,hc,n,hd⟩:=id ht
 obtain⟨⟨cls2,dd2,data2,sl2⟩,ho2,hc2,n2,hd2⟩:=id hb
 simp only at hc hd hc2 hd2
 subst hc hd hc2 hd2
 have e:vs.toArray++ws.toArray=(vs++ws).toArray:=by simp
 by_cases hw:ws=[]
 ·exact concat_meets ⟨_,ho,rfl⟩ ⟨_,ho2,rfl⟩ noFill_tuple_add seq_tuple_add PySem.F.slot_tuple_add PySem.F.entry_tuple_add (PySem.F.args_tuple_add_2 _ _)
   (tuple_addW1 t b vs.toArray ws.toArray n n2 dd dd2 sl sl2 (by simpa using hv) (by simp[hw])) ⟨ho,ho2,h1 hw⟩
 ·refine concat_meets ⟨_,ho,rfl⟩ ⟨_,ho2,rfl⟩ noFill_tuple_add seq_tuple_add PySem.F.slot_tuple_add PySem.F.entry_tuple_add (PySem.F.args_tuple_add_2 _ _)
   (tuple_addW2 t b vs.toArray ws.toArray n n2 dd dd2 sl sl2 (by simpa using hv) (by simpa using hw) (by rw[List.size_toArray,List.size_toArray]; exact hsz)) ⟨ho,ho2,?_⟩
  rw[e]
  exact h2 hw
noncomputable def sIx(n d:Nat):Option Int->Nat
 | none=>d
 | some v=>if v < 0 then(v+(n:Int)).toNat else min v.toNat n
theorem sIx_nat(n d k:Nat):sIx n d (some (k:Int))=min k n:=by
 show(if (k:Int) < 0 then((k:Int)+(n:Int)).toNat else min (k:Int).toNat n)=min k n
 rw[if_neg (by omega),Int.toNat_natCast]
theorem sIx_le(n d:Nat)(hd:d<=n)(o:Option Int):sIx n d o<=n:=by
 cases o with
 | none=>exact hd
 | some v=>
  show(if v < 0 then(v+(n:Int)).toNat else min v.toNat n)<=n
  by_cases hv:v < 0
  ·rw[if_pos hv]; omega
  ·rw[if_neg hv]; exact Nat.min_le_right _ _
theorem clip_eq(v:Int)(n d:Nat):(if v < 0 then max (v+(n:Int)) 0 else min v (n:Int))=((sIx n d (some v):Nat):Int):=by
 show(if v < 0 then max (v+(n:Int)) 0 else min v (n:Int))=(((if v < 0 then(v+(n:Int)).toNat else min v.toNat n):Nat):Int)
 by_cases hv:v < 0
 ·simp only[if_pos hv]; omega
 ·simp only[if_neg hv]; omega
theorem adjust_gen(lo hi:Option Int)(n:Nat):Builtin.Slice.sliceAdjust lo hi 1 (n:Int)=(((sIx n 0 lo:Nat):Int),((sIx n n hi:Nat):Int)):=by
 have h1:¬((1:Int) < 0):=by omega
 unfold Builtin.Slice.sliceAdjust
 simp only[h1,if_false]
 refine Prod.ext ?_ ?_
 ·cases lo with
  | none=>rfl
  | some v=>exact clip_eq v n 0
 ·cases hi with
  | none=>rfl
  | some v=>exact clip_eq v n n
theorem places_gen(i j:Nat):Builtin.Slice.slicePlaces (i:Int) (j:Int) 1=j - i:=by
 unfold Builtin.Slice.slicePlaces
 have h1:(1:Int) > 0:=by omega
 simp only[h1,if_true,Int.ediv_one]
 split <;> omega
theorem slicePart_{v:Value}{o:Option Int}{Q:Option Int->Shared->Prop}(p:IsPart v o)(h:Q o s):wpAny (model prog w) A (Builtin.Slice.slicePartIndex v) Q E s:=by
 cases p with
 | none=>exact slicePart_none h
 | int i t=>exact slicePart_int h
theorem sliceApplied_gen{sl:Addr}{vl vu:Value}{lo hi:Option Int}{n:Nat}{Q:Int×Int×Nat->Shared->Prop}(hs:s.heap.IsSliceOf sl vl vu .none)(pl:IsPart vl lo)(pu:IsPart vu hi)
  (h:Q (((sIx n 0 lo:Nat):Int),1,sIx n n hi - sIx n 0 lo) s):wpAny (model prog w) A (Builtin.Slice.sliceApplied (.ref sl) (pure (n:Int))) Q E s:=by
 obtain⟨os,hos,hcs,hds⟩:=id hs
 unfold Builtin.Slice.sliceApplied Builtin.Slice.sliceFields
 refine wAa (wAa (wpAny_field hos hds (x:=vl) rfl (wAa (wpAny_field hos hds (x:=vu) rfl (wAa (wpAny_field hos hds (x:=.none) rfl (wBa ?_)))))))
 refine wAa (slicePart_none ?_)
 show wpAny _ _ (if ((1:Int)==0)=true then _ else _) _ _ s
 rw[if_neg (by decide)]
 refine wAa (slicePart_ pl (wAa (slicePart_ pu (wAa (wBa ?_)))))
 show wpAny _ _ (match Builtin.Slice.sliceAdjust lo hi 1 (n:Int)with | (lo,hi)=>pure (lo,(1:Int),Builtin.Slice.slicePlaces lo hi 1)) _ _ s
 rw[adjust_gen lo hi n]
 show wpAny _ _ (pure (((sIx n 0 lo:Nat):Int),(1:Int),Builtin.Slice.slicePlaces ((sIx n 0 lo:Nat):Int) ((sIx n n hi:Nat):Int) 1)) _ _ s
 rw[places_gen]
 exact wBa h
theorem pick_gen(xs:Array Value)(i k:Nat):((List.range k).filterMap fun(m:Nat)=>xs[((i:Int)+(m:Int) * 1).toNat]?).toArray=((xs.toList.drop i).take k).toArray:=by
 have e:(fun(m:Nat)=>xs[((i:Int)+(m:Int) * 1).toNat]?)=fun m=>xs[i+m]?:=by
  funext m
  have:((i:Int)+(m:Int) * 1).toNat=i+m:=by omega
  rw[this]
 rw[e]
 have:=pick_run xs i k
 rw[List.filterMap_map]at this
 have e2:((fun x=>xs[x]?)∘fun x=>i+x)=fun m=>xs[i+m]?:=rfl
 rw[e2]at this
 rw[this]
theorem getItem_tuple_cut{t sl:Addr}{items:Array Value}{vl vu:Value}{lo hi:Option Int}{Q:Value->Shared->Prop}(ht:IsTup s.heap t items)(hs:s.heap.IsSliceOf sl vl vu .none)(pl:IsPart vl lo)(pu:IsPart vu hi)
  (hw:¬(sIx items.size 0 lo=0/\sIx items.size items.size hi=items.size))
  (h:Q (.ref s.heap.objs.size) { s with heap:=s.heap.push { cls:=.type "tuple",data:=.seq ((items.toList.drop (sIx items.size 0 lo)).take (sIx items.size items.size hi - sIx items.size 0 lo)).toArray } })
  (hsz:items.size<=sizeLine):wpAny (model prog w) A (getItem (.ref t) (.ref sl)) Q E s:=by
 have htake:sizeOk (.seq ((items.toList.drop (sIx items.size 0 lo)).take (sIx items.size items.size hi - sIx items.size 0 lo)).toArray):=by
  show((items.toList.drop (sIx items.size 0 lo)).take (sIx items.size items.size hi - sIx items.size 0 lo)).toArray.size<=sizeLine
  rw[List.size_toArray,List.length_take,List.length_drop,Array.length_toList]
  omega
 have hj:sIx items.size items.size hi<=items.size:=sIx_le _ _ (wPa _) hi
 obtain⟨os,hos,hcs,hds⟩:=id hs
 have hTs:s.TypeIs (.ref sl) "slice" := ⟨os,hos,hcs⟩
 unfold getItem
 try with_reducible refine wDa ?_
 first | refine wAa (wBa ?_) | skip
 refine wAa (wpAny_sequenceKey ht.typeIs (by decide) ?_)
 refine wAa (wpAny_callSpecial?_slot (name:=Str.ofString "__getitem__") ht.typeIs PyProof.Rows.slot_tuple_getitem
  (wpAny_call_entry PyProof.Rows.slot_tuple_getitem ht.typeIs entry_tuple_getitem ?_ (args_tuple_getitem _ _)))
 show wpAny _ _ (Builtin.Tuple.tupleItemsOf (.ref t) >>= _) _ _ s
 refine wAa (tupleItemsOf_ ht ?_)
 refine wAa (wpAny_typeOf hTs ?_)
 rw[if_pos (by decide)]
 refine wAa (sliceApplied_gen hs pl pu ?_)
 have hno:¬((((sIx items.size 0 lo:Nat):Int)==0&&(1:Int)==1&&(sIx items.size items.size hi - sIx items.size 0 lo)==items.size)=true):=by
  intro q
  rw[Bool.and_eq_true,Bool.and_eq_true]at q
  have q1:((sIx items.size 0 lo:Nat):Int)=0:=vLa q.1.1
  have q2:sIx items.size items.size hi - sIx items.size 0 lo=items.size:=vLa q.2
  exact hw ⟨by omega,by omega⟩
 show wpAny _ _ (if (((sIx items.size 0 lo:Nat):Int)==0&&(1:Int)==1&&(sIx items.size items.size hi - sIx items.size 0 lo)==items.size)=true then _ else _) _ _ s
 rw[if_neg hno,pick_gen]
 first
  | exact wAa (m:=Builtin.Tuple.tupleExact _) (vTa (wBa ⟨_,rfl,wBa h⟩) htake)
  | exact wAa (m:=Builtin.Tuple.tupleExact _) (vTa (wAa (wBa (wBa ⟨_,rfl,wBa h⟩))) htake)
  | exact wAa (wAa (m:=Builtin.Tuple.tupleExact _) (vTa (wBa (wBa ⟨_,rfl,wBa h⟩)) htake))
  | exact wAa (wAa (m:=Builtin.Tuple.tupleExact _) (vTa (wBa ⟨_,rfl,wBa h⟩) htake))
end
end HT
namespace L2
open PySem PySem.Spec PyProof.Rows
noncomputable abbrev TO:=St->Hp->(Option Int->Hp->Prop)->Prop
def PO(X:Cx)(e:Option Expr)(t:TO):Prop:=
 ∀(pins:List (Addr×Obj)) (s:Shared) (σ:St) (H:Hp) (Q:Option Int->Hp->Prop),Inv X pins σ H s->t σ H Q->
  wpAny (model X.prog X.w) X.A (evalPart e X.env) (fun u s'=>∃o H',Inv X pins σ H' s'/\IsPart u o/\Q o H') X.xe s
noncomputable def bv:TO:=fun _ H Q=>Q none H
noncomputable def Ey(t:TE):TO:=fun σ H Q=>t σ H fun x H1=>∃i,x=.int i/\Q (some i) H1
section
variable {X:Cx} {e:Expr} {te:TE} {lo hi:Option Expr} {tl th:TO} {pos p2:Pos}
theorem bw:PO X none bv:=by
 intro pins s σ H Q I h
 rw[evalPart_none]
 exact wBa ⟨none,H,I,.none,h⟩
theorem bx(h:PE X e te):PO X (some e) (Ey te):=by
 intro pins s σ H Q I hw
 rw[evalPart_some]
 refine jk (h pins s σ H _ I hw) fun u s1 ⟨x,H1,I1,r1,q1⟩=>?_
 obtain⟨i,rfl,q⟩:=q1
 obtain⟨t,rfl⟩:=r1
 exact⟨some i,H1,I1,.int i t,q⟩
def C0(X:Cx)(r:V->Option Int->Option Int->Hp->VK->Prop):Prop:=
 ∀(pins:List (Addr×Obj)) (s:Shared) (σ:St) (H:Hp) (x:V) (v vl vu:Value) (lo hi:Option Int) (sl:Addr) (Q:VK),Inv X pins σ H s->jm x v->s.heap.IsSliceOf sl vl vu .none->IsPart vl lo->IsPart vu hi->r x lo hi H Q->
  ∃T id,typeLookup (.type T) "__getitem__" = pure (some (.builtin id))/\s.TypeIs v T/\wpAny (model X.prog X.w) X.A (getItem v (.ref sl)) (EP X pins σ Q) X.xe s
def iW(r:V->Option Int->Option Int->Hp->VK->Prop)(te:TE)(tl th:TO):TE:=fun σ H Q=>te σ H fun x H1=>tl σ H1 fun l H2=>th σ H2 fun u H3=>r x l u H3 Q
theorem kK{r:V->Option Int->Option Int->Hp->VK->Prop}(hr:C0 X r)(he:PE X e te)(hl:PO X lo tl)(hu:PO X hi th):PE X (.Subscript e (.Slice lo hi none p2) pos) (iW r te tl th):=by
 intro pins s σ H Q I h
 refine Subscript_ (jk (he pins s σ H _ I h) fun v s1 ⟨x,H1,I1,r1,q1⟩=>?_)
 refine wpAny_Slice (jk (hl pins s1 σ H1 _ I1 q1) fun vl s2 ⟨l,H2,I2,pl,q2⟩=>jk (hu pins s2 σ H2 _ I2 q2) fun vu s3 ⟨u,H3,I3,pu,q3⟩=>?_)
 rw[evalPart_none]
 refine wBa ?_
 have I4:Inv X pins σ H3 { s3 with heap:=s3.heap.push { cls:=.type "slice",data:=.fields #[vl,vu,.none] } }:=I3.kept (t':=s3.toks) fun b ob q=>wIa _ q
 obtain⟨T,id,hT,ht,hg⟩:=hr pins { s3 with heap:=s3.heap.push { cls:=.type "slice",data:=.fields #[vl,vu,.none] } } σ H3 x v vl vu l u s3.heap.objs.size Q I4 r1 (Heap.IsSliceOf.new ..) pl pu q3
 show wpAny (model X.prog X.w) X.A (subscriptTail e (.Slice lo hi none p2) v (.ref s3.heap.objs.size)) (EP X pins σ Q) X.xe { s3 with heap:=s3.heap.push { cls:=.type "slice",data:=.fields #[vl,vu,.none] } }
 exact tail_any (ops:=[.ref s3.heap.objs.size,v]) ht hT hg (by with_unfolding_all rfl)
def VT(xs:List V)(lo hi:Option Int):List V:=(xs.drop (HT.sIx xs.length 0 lo)).take (HT.sIx xs.length xs.length hi - HT.sIx xs.length 0 lo)
theorem uZ(xs:List V)(lo hi:Option Int):(VT xs lo hi).length<=xs.length:=by
 unfold VT
 rw[List.length_take,List.length_drop]
 omega
def He(K:PySem.W.Frag):V->Option Int->Option Int->Hp->VK->Prop:=fun x lo hi H Q=>∃a xs,x=.ref a/\JB K H a xs/\
 ¬(HT.sIx xs.length 0 lo=0/\HT.sIx xs.length xs.length hi=xs.length)/\∀p,H p=none->Q (.ref p) (upd H p (.tup (VT xs lo hi)))
theorem C2:C0 X (He X.K):=by
 intro pins s σ H x v vl vu lo hi sl Q I rx hs pl pu h
 obtain⟨a,xs,rfl,hx,hw,q⟩:=h
 cases rx
 obtain⟨its,r,ht,hz⟩:=I.tuple hx
 have hlen:its.toArray.size=xs.length:=by rw[List.size_toArray]; exact r.length.symm
 refine⟨"tuple",_,PyProof.Rows.slot_tuple_getitem.lookup,ht.typeIs,?_⟩
 refine HT.getItem_tuple_cut ht hs pl pu (by rw[hlen]; exact hw) ?_ (by rw[hlen]; exact hz)
 rw[hlen]
 refine⟨.ref s.heap.objs.size,_,I.laid (t':=s.toks) (o:=.tup (VT xs lo hi)) (fun b ob q=>wIa _ q) (wPa _) ?_,rfl,q _ (I.hok.fresh (wPa _))⟩
 exact⟨wSa (uZ xs lo hi) hz,_,(r.drop (HT.sIx xs.length 0 lo)).take (HT.sIx xs.length xs.length hi - HT.sIx xs.length 0 lo),IsTup.new _ _⟩
def WQ(K:PySem.W.Frag):R2:=fun x y H Q=>∃a b xs ys,x=.ref a/\y=.ref b/\JB K H a xs/\JB K H b ys/\xs≠[]/\xs.length+ys.length<=sizeLine/\
 (ys=[]->Q (.ref a) H)/\(ys≠[]->∀p,H p=none->Q (.ref p) (upd H p (.tup (xs++ys))))
theorem je.nil_iff{xs:List V}{us:List Value}(r:je xs us):us=[]↔xs=[]:=by
 cases r with
 | nil=>simp
 | cons _ _=>simp
theorem bA:jI X (binaryOp .Add) (WQ X.K):=by
 intro pins s σ H x y v u Q I rx ry h
 obtain⟨a,b,xs,ys,rfl,rfl,ha,hb,hx,hz,q1,q2⟩:=h
 cases rx
 cases ry
 obtain⟨its,r1,p1,_⟩:=I.tuple ha
 obtain⟨its2,r2,p2,_⟩:=I.tuple hb
 refine HT.cat_tup p1 p2 (fun z=>hx (r1.nil_iff.mp z)) (fun z=>⟨.ref a,H,I,rfl,q1 (r2.nil_iff.mp z)⟩) (fun z=>?_) (by rw[<-r1.length,<-r2.length]; exact hz)
 refine⟨.ref s.heap.objs.size,_,I.laid (t':=s.toks) (o:=.tup (xs++ys)) (fun b ob q=>wIa _ q) (wPa _) ?_,rfl,q2 (fun w=>z (r2.nil_iff.mpr w)) _ (I.hok.fresh (wPa _))⟩
 exact⟨by rw[List.length_append]; exact hz,_,r1.append r2,IsTup.new _ _⟩
end
end L2
namespace L2
open PySem PySem.Spec PyProof.Rows
noncomputable def vF(n:Nat)(i:Int):Option Nat:=if 0<=i then(if i < n then some i.toNat else none)else if -(n:Int)<=i then some (i+n).toNat else none
def atI{α:Type}(xs:List α)(i:Int):Option α:=(vF xs.length i).bind fun j=>xs[j]?
theorem wU{n:Nat}{i:Int}{j:Nat}(h:vF n i=some j):seqIndex? i n=some j/\j < n/\-(n:Int)<=i/\i < n:=by
 unfold vF at h
 by_cases h0:0<=i
 ·rw[if_pos h0]at h
  by_cases h1:i < n
  ·rw[if_pos h1]at h
   have e:i.toNat=j:=vFa h
   exact⟨by rw[seqIndex_of h0 h1,e],by omega,by omega,h1⟩
  ·rw[if_neg h1]at h; cases h
 ·rw[if_neg h0]at h
  by_cases h1:-(n:Int)<=i
  ·rw[if_pos h1]at h
   have e:(i+n).toNat=j:=vFa h
   exact⟨by rw[seqIndex_neg (by omega) h1,e],by omega,h1,by omega⟩
  ·rw[if_neg h1]at h; cases h
theorem gK{α:Type}{xs:List α}{i:Int}{v:α}(h:atI xs i=some v):∃j,seqIndex? i xs.length=some j/\xs[j]?=some v/\j < xs.length/\-(xs.length:Int)<=i/\i < xs.length:=by
 unfold atI at h
 cases e:vF xs.length i with
 | none=>rw[e]at h; cases h
 | some j=>
  rw[e]at h
  obtain⟨h1,h2,h3,h4⟩:=wU e
  exact⟨j,h1,h,h2,h3,h4⟩
def gM(b:Expr):Prop:=∀o i,subscripted b false o i=operate [o,i] (getItem o i)
def VU(X:Cx)(r:R2):Prop:=
 ∀(value slice:Expr) (pins:List (Addr×Obj)) (s:Shared) (σ:St) (H:Hp) (x y:V) (v u:Value) (Q:VK),Inv X pins σ H s->jm x v->jm y u->r x y H Q->
  subscripted slice false v u=operate [v,u] (getItem v u)->wpAny (model X.prog X.w) X.A (subscriptTail value slice v u) (EP X pins σ Q) X.xe s
def iX(X:Cx)(id:String)(r:V->List V->Hp->VK->Prop):Prop:=
 ∀(pins:List (Addr×Obj)) (s:Shared) (σ:St) (H:Hp) (x:V) (xs:List V) (v:Value) (us:List Value) (Q:VK),Inv X pins σ H s->jm x v->je xs us->r x xs H Q->
  wpAny (model X.prog X.w) X.A (call (.builtin id) (v::us)) (EP X pins σ Q) X.xe s
section
variable {X:Cx} {a b:Expr} {ta tb:TE} {pos:Pos}
theorem VU.or{r r':R2}(h:VU X r)(h':VU X r'):VU X (fun x y H Q=>r x y H Q∨r' x y H Q):=by
 intro value slice pins s σ H x y v u Q I rx ry q hs
 rcases q with q | q
 ·exact h value slice pins s σ H x y v u Q I rx ry q hs
 ·exact h' value slice pins s σ H x y v u Q I rx ry q hs
theorem Ez{r:R2}(hr:VU X r)(ha:PE X a ta)(hb:PE X b tb)(hs:gM b):PE X (.Subscript a b pos) (qY r ta tb):=by
 intro pins s σ H Q I h
 exact Subscript_ (xL ha hb I h fun v u s2 x y H2 I2 rx ry q=>hr a b pins s2 σ H2 x y v u Q I2 rx ry q (hs _ _))
def C3(K:PySem.W.Frag):R2:=fun x y H Q=>∃p xs i v,x=.ref p/\y=.int i/\jt K H p xs/\atI xs i=some v/\Q v H
def C4(K:PySem.W.Frag):R2:=fun x y H Q=>∃p xs i v,x=.ref p/\y=.int i/\JB K H p xs/\atI xs i=some v/\Q v H
def C5:R2:=fun x y H Q=>∃z i c,x=.str z/\y=.int i/\z.length<=sizeLine/\atI z.cps.toList i=some c/\Q (.str ⟨#[c]⟩) H
theorem bB:VU X (C3 X.K):=by
 intro value slice pins s σ H x y v u Q I rx ry h hs
 obtain⟨p,xs,i,z,rfl,rfl,hq,he,q⟩:=h
 cases rx
 obtain⟨t,rfl⟩:=ry
 obtain⟨its,r,pl,hz⟩:=I.list hq
 obtain⟨j,h1,h2,h3,h4,h5⟩:=gK he
 obtain⟨w,ew,rw'⟩:=r.get h2
 have hl:=r.length
 have hn:=vC
 have fin:EP X pins σ Q w s:=⟨z,H,I,rw',q⟩
 by_cases h0:0<=i
 ·have hj:i.toNat=j:=by
   rw[seqIndex_of h0 h5]at h1
   exact vFa h1
  exact item_listR pl.isList h0 (by omega) (by rw[hj]; simpa using ew) fin hs
 ·have hj:(i+(its.toArray.size:Int)).toNat=j:=by
   rw[seqIndex_neg (by omega) h4]at h1
   rw[List.size_toArray,<-hl]
   exact vFa h1
  exact subscriptTail_builtinR (x:=w) pl.isList.typeIs slot_list_getitem.lookup
   (wpAny_getItem_list_neg (Q:=fun r s'=>r=w/\EP X pins σ Q r s') pl.isList (by omega) (by rw[List.size_toArray] <;> omega) (by omega) (by rw[hj]; simpa using ew) ⟨rfl,fin⟩) hs
theorem C6:VU X (C4 X.K):=by
 intro value slice pins s σ H x y v u Q I rx ry h hs
 obtain⟨p,xs,i,z,rfl,rfl,hq,he,q⟩:=h
 cases rx
 obtain⟨t,rfl⟩:=ry
 obtain⟨its,r,pl,hz⟩:=I.tuple hq
 obtain⟨j,h1,h2,h3,h4,h5⟩:=gK he
 obtain⟨w,ew,rw'⟩:=r.get h2
 have hl:=r.length
 have hn:=vC
 have fin:EP X pins σ Q w s:=⟨z,H,I,rw',q⟩
 exact subscriptTail_builtinR (x:=w) pl.typeIs slot_tuple_getitem.lookup
  (getItem_tuple (j:=j) (Q:=fun r s'=>r=w/\EP X pins σ Q r s') pl (by omega) (by omega) (by rw[List.size_toArray,<-hl]; exact h1) (by simpa using ew) ⟨rfl,fin⟩) hs
theorem C7:VU X C5:=by
 intro value slice pins s σ H x y v u Q I rx ry h hs
 obtain⟨z,i,c,rfl,rfl,hz,he,q⟩:=h
 obtain⟨t,rfl⟩:=rx
 obtain⟨t',rfl⟩:=ry
 obtain⟨j,h1,h2,h3,h4,h5⟩:=gK he
 have hl:z.cps.toList.length=z.length:=by simp[Str.length]
 rw[hl]at h1 h4 h5
 have hn:=vC
 exact tail_any (typeIs_str s z t) slot_str_getitem.lookup (getItem_str (c:=c) (by
  have e1:decide (i < -(2 ^ 63:Int))=false:=vBa (by omega)
  have e2:decide (i>=2 ^ 63)=false:=vBa (by omega)
  rw[e1,e2,Bool.or_false]) (by rw[h1]; simpa using h2) ⟨.str ⟨#[c]⟩,H,I.tok _,⟨_,rfl⟩,q⟩) hs
def Fs(K:PySem.W.Frag):R2:=fun x y H Q=>C3 K x y H Q∨C4 K x y H Q∨C5 x y H Q
theorem C8:VU X (Fs X.K):=bB.or (C6.or C7)
theorem WR(its:List Value)(n j:Nat)(u:Value):Obj.mapSeq (·.setIfInBounds j u) { cls:=.type "list",data:=.seq its.toArray n }={ cls:=.type "list",data:=.seq (its.set j u).toArray n }:=by
 simp[Obj.mapSeq]
theorem Inv.lst{pins:List (Addr×Obj)}{σ:St}{H:Hp}{s:Shared}{p:Addr}{xs:List V}(I:Inv X pins σ H s)(h:H p=some (.lst xs)):
  ∃(its:List Value) (n:Nat),je xs its/\s.heap.get? p=some { cls:=.type "list",data:=.seq its.toArray n }/\xs.length<=sizeLine:=by
 obtain⟨z,its,n,r,e⟩:=I.hok p _ h
 exact⟨its,n,r,e,z⟩
theorem Inv.lstUpd{pins:List (Addr×Obj)}{σ:St}{H:Hp}{s:Shared}{p:Addr}{xs ys:List V}{its its':List Value}{n n':Nat}{f:Obj->Obj}(I:Inv X pins σ H s)(h:H p=some (.lst xs))
  (ho:s.heap.get? p=some { cls:=.type "list",data:=.seq its.toArray n }) (hf:f { cls:=.type "list",data:=.seq its.toArray n }={ cls:=.type "list",data:=.seq its'.toArray n' }) (r:je ys its') (hz:ys.length<=sizeLine) (t:Nat):
  Inv X pins σ (upd H p (.lst ys)) { s with heap:=s.heap.update p f,toks:=t }:=by
 have e:(s.heap.update p f).get? p=some { cls:=.type "list",data:=.seq its'.toArray n' }:=by
  rw[Heap.get?_update_self f ho (by rw[hf] <;> rfl),hf]
 refine I.write (x:=p) (e:=p) (by rw[h]; trivial) (.inl rfl) (fun b u hb q=>(wKa _ _ (Ne.symm hb)).trans q) ⟨_,e⟩ ?_
 exact⟨hz,its',n',r,e⟩
def aM:V->V->V->Hp->(Hp->Prop)->Prop:=fun o i v H Q=>∃p xs k j,o=.ref p/\i=.int k/\H p=some (.lst xs)/\vF xs.length k=some j/\Q (upd H p (.lst (xs.set j v)))
theorem xW:xH X aM:=by
 intro pins s σ H o i v ov iv u Q I ro ri rv h
 obtain⟨p,xs,k,j,rfl,rfl,hp,hj,q⟩:=h
 cases ro
 obtain⟨t,rfl⟩:=ri
 obtain⟨its,n,r,ho,hz⟩:=I.lst hp
 obtain⟨h1,h2,h3,h4⟩:=wU hj
 have hl:=r.length
 have hn:=vC
 have I':Inv X pins σ (upd H p (.lst (xs.set j v))) { s with heap:=s.heap.update p (Obj.mapSeq (·.setIfInBounds j u)) }:=
  I.lstUpd hp ho (WR its n j u) (r.set rv j) (by rw[List.length_set]; exact hz) s.toks
 by_cases h0:0<=k
 ·have hk:k.toNat=j:=by
   rw[seqIndex_of h0 h4]at h1
   exact vFa h1
  exact PySem.W.ki_setAt ho h0 (by omega) (by rw[List.size_toArray,<-hl]; exact h4) (by rw[hk]; exact⟨_,I',q⟩)
 ·have hk:(k+(its.toArray.size:Int)).toNat=j:=by
   rw[seqIndex_neg (by omega) h3]at h1
   rw[List.size_toArray,<-hl]
   exact vFa h1
  exact PySem.W.ki_setBack ho (by omega) (by rw[List.size_toArray,<-hl]; exact h3) (by omega) (by rw[hk]; exact⟨_,I',q⟩)
theorem kL(lo hi:Option Int)(n:Nat):(sliceBounds lo hi none n).1=((HT.sIx n 0 lo:Nat):Int)/\(sliceBounds lo hi none n).2.1=((HT.sIx n n hi:Nat):Int)/\(sliceBounds lo hi none n).2.2=1:=by
 refine⟨?_,?_,rfl⟩
 ·cases lo with
  | none=>simp[sliceBounds,HT.sIx]
  | some i=>
   simp only[sliceBounds,HT.sIx,Option.getD_none,show(1:Int) > 0 by decide,if_true]
   by_cases h:i < 0
   ·simp only[h,if_true] <;> omega
   ·simp only[h,if_false] <;> omega
 ·cases hi with
  | none=>simp[sliceBounds,HT.sIx]
  | some i=>
   simp only[sliceBounds,HT.sIx,Option.getD_none,show(1:Int) > 0 by decide,if_true]
   by_cases h:i < 0
   ·simp only[h,if_true] <;> omega
   ·simp only[h,if_false] <;> omega
theorem G_(its:List Value)(lo hi:Option Int):slicePick its.toArray lo hi none=((its.drop (HT.sIx its.length 0 lo)).take (HT.sIx its.length its.length hi - HT.sIx its.length 0 lo)).toArray:=by
 obtain⟨h1,h2,h3⟩:=kL lo hi its.toArray.size
 unfold slicePick
 rw[h1,h2,h3]
 simp only[sliceRange_one,pick_run,List.size_toArray] <;> rfl
def Hf(K:PySem.W.Frag):V->Option Int->Option Int->Hp->VK->Prop:=fun x lo hi H Q=>∃a xs,x=.ref a/\jt K H a xs/\∀p,H p=none->Q (.ref p) (upd H p (.lst (VT xs lo hi)))
theorem bC:C0 X (Hf X.K):=by
 intro pins s σ H x v vl vu lo hi sl Q I rx hs pl pu h
 obtain⟨a,xs,rfl,hx,q⟩:=h
 cases rx
 obtain⟨its,r,ht,hz⟩:=I.list hx
 have hlen:=r.length
 refine⟨"list",_,slot_list_getitem.lookup,ht.isList.typeIs,?_⟩
 refine wpAny_getItem_list_slice ht.isList hs pl pu .none (by simp) ?_ (by rw[List.size_toArray] <;> omega)
 rw[G_,<-hlen]
 refine⟨.ref s.heap.objs.size,_,I.laid (t':=s.toks) (o:=.lst (VT xs lo hi)) (fun b ob q=>wIa _ q) (wPa _) ?_,rfl,q _ (I.hok.fresh (wPa _))⟩
 exact⟨wSa (uZ xs lo hi) hz,_,0,(r.drop (HT.sIx xs.length 0 lo)).take (HT.sIx xs.length xs.length hi - HT.sIx xs.length 0 lo),wJa _ rfl⟩
noncomputable def zh:V->Bool
 | .non=>true
 | .bl _=>true
 | .int _=>true
 | .str _=>true
 | _=>false
noncomputable def GC:V->V->Bool
 | .non,.non=>true
 | .bl a,.bl b=>a==b
 | .bl a,.int b=>(if a then 1 else 0)==b
 | .int a,.bl b=>a==(if b then 1 else 0)
 | .int a,.int b=>a==b
 | .str a,.str b=>a==b
 | _,_=>false
theorem C9{A:Around}{s:Shared}{y x:V}{u v:Value}(ry:jm y u)(rx:jm x v)(fy:zh y=true)(fx:zh x=true):SeqAt.EqAt A s u v (GC y x):=by
 cases y with
 | non=>
  cases ry
  cases x with
  | non=>cases rx; exact SeqAt.EqAt.same _
  | bl b=>cases rx; exact SeqAt.EqAt.none_bool b
  | int b=>obtain⟨t,rfl⟩:=rx; exact SeqAt.EqAt.none_int b t
  | str b=>obtain⟨t,rfl⟩:=rx; exact SeqAt.EqAt.none_str b t
  | _=>exact vDa (show false=true from fx) vNa
 | bl a=>
  cases ry
  cases x with
  | non=>cases rx; exact SeqAt.EqAt.bool_none a
  | bl b=>cases rx; exact SeqAt.EqAt.bool_bool a b
  | int b=>obtain⟨t,rfl⟩:=rx; exact SeqAt.EqAt.bool_int a b t
  | str b=>obtain⟨t,rfl⟩:=rx; exact SeqAt.EqAt.bool_str a b t
  | _=>exact vDa (show false=true from fx) vNa
 | int a=>
  obtain⟨t',rfl⟩:=ry
  cases x with
  | non=>cases rx; exact SeqAt.EqAt.int_none a t'
  | bl b=>cases rx; exact SeqAt.EqAt.int_bool a t' b
  | int b=>obtain⟨t,rfl⟩:=rx; exact SeqAt.EqAt.int_int a t' b t
  | str b=>obtain⟨t,rfl⟩:=rx; exact SeqAt.EqAt.int_str a t' b t
  | _=>exact vDa (show false=true from fx) vNa
 | str a=>
  obtain⟨t',rfl⟩:=ry
  cases x with
  | non=>cases rx; exact SeqAt.EqAt.str_none a t'
  | bl b=>cases rx; exact SeqAt.EqAt.str_bool a t' b
  | int b=>obtain⟨t,rfl⟩:=rx; exact SeqAt.EqAt.str_int a t' b t
  | str b=>obtain⟨t,rfl⟩:=rx; exact SeqAt.EqAt.str_str a t' b t
  | _=>exact vDa (show false=true from fx) vNa
 | _=>exact vDa (show false=true from fy) vNa
def Zc(x:V)(u:Value):Bool:=match u with
 | .none=>GC .non x
 | .bool b=>GC (.bl b) x
 | .int i _=>GC (.int i) x
 | .str z _=>GC (.str z) x
 | _=>false
theorem Q7{x y:V}{u:Value}(r:jm y u)(f:zh y=true):Zc x u=GC y x:=by
 cases y with
 | non=>cases r; rfl
 | bl b=>cases r; rfl
 | int i=>obtain⟨t,rfl⟩:=r; rfl
 | str z=>obtain⟨t,rfl⟩:=r; rfl
 | _=>exact vDa (show false=true from f) vNa
theorem vG{x:V}:∀{xs:List V} {us:List Value},je xs us->xs.all zh=true->us.any (Zc x)=xs.any fun y=>GC y x
 | _,_,.nil,_=>rfl
 | y::xs,u::us,.cons r t,f=>by
  rw[List.all_cons,Bool.and_eq_true]at f
  rw[List.any_cons,List.any_cons,Q7 r f.1,vG t f.2]
theorem Zd{A:Around}{s:Shared}{x:V}{v:Value}(rx:jm x v)(fx:zh x=true):∀{xs:List V} {us:List Value},je xs us->xs.all zh=true->∀u∈us,SeqAt.EqAt A s u v (Zc x u)
 | _,_,.nil,_=>fun u hu=>by cases hu
 | y::xs,u::us,.cons r t,f=>fun u' hu=>by
  rw[List.all_cons,Bool.and_eq_true]at f
  rcases List.mem_cons.mp hu with rfl | hu
  ·rw[Q7 r f.1]; exact C9 r rx f.1 fx
  ·exact Zd rx fx t f.2 u' hu
def aN(x:V)(xs:List V):Bool:=xs.any fun y=>GC y x
def Ca(K:PySem.W.Frag)(neg:Bool):R2:=fun x y H Q=>∃p xs,y=.ref p/\(jt K H p xs∨JB K H p xs)/\zh x=true/\xs.all zh=true/\Q (.bl (if neg then !aN x xs else aN x xs)) H
theorem Q8:jI X (compareOp .In) (Ca X.K false):=by
 intro pins s σ H x y v u Q I rx ry h
 obtain⟨p,xs,rfl,hq,fx,fs,q⟩:=h
 cases ry
 rcases hq with hq | hq
 ·obtain⟨its,r,pl,hz⟩:=I.list hq
  refine SeqAt.in_listAt (Zc x) pl.isList (fun w hw=>Zd rx fx r fs w (by simpa using hw)) ⟨.bl _,H,I,rfl,?_⟩
  rw[show its.toArray.any (Zc x)=its.any (Zc x) by simp,vG r fs]
  exact q
 ·obtain⟨its,r,pl,hz⟩:=I.tuple hq
  refine SeqAt.in_tupleAt (Zc x) pl (fun w hw=>Zd rx fx r fs w (by simpa using hw)) ⟨.bl _,H,I,rfl,?_⟩
  rw[show its.toArray.any (Zc x)=its.any (Zc x) by simp,vG r fs]
  exact q
theorem kM:jI X (compareOp .NotIn) (Ca X.K true):=by
 intro pins s σ H x y v u Q I rx ry h
 obtain⟨p,xs,rfl,hq,fx,fs,q⟩:=h
 cases ry
 rcases hq with hq | hq
 ·obtain⟨its,r,pl,hz⟩:=I.list hq
  refine SeqAt.notIn_listAt (Zc x) pl.isList (fun w hw=>Zd rx fx r fs w (by simpa using hw)) ⟨.bl _,H,I,rfl,?_⟩
  rw[show its.toArray.any (Zc x)=its.any (Zc x) by simp,vG r fs]
  exact q
 ·obtain⟨its,r,pl,hz⟩:=I.tuple hq
  refine SeqAt.notIn_tupleAt (Zc x) pl (fun w hw=>Zd rx fx r fs w (by simpa using hw)) ⟨.bl _,H,I,rfl,?_⟩
  rw[show its.toArray.any (Zc x)=its.any (Zc x) by simp,vG r fs]
  exact q
theorem kN:yj X (.builtin "len") (fun xs H Q=>∃p ys,xs=[.ref p]/\(jt X.K H p ys∨JB X.K H p ys)/\Q (.int ys.length) H):=by
 intro pins s σ H xs us Q I r h
 obtain⟨p,ys,rfl,hq,q⟩:=h
 obtain⟨u,rfl,rx⟩:=UP r
 cases rx
 have hn:=vC
 rcases hq with hq | hq
 ·obtain⟨its,r',pl,hz⟩:=I.list hq
  have hlen:=r'.length
  exact Calls.call_len_list pl.isList (by simp only[List.size_toArray] <;> omega) ⟨.int ys.length,H,I.tok _,⟨s.toks+1,by rw[List.size_toArray,hlen]⟩,q⟩
 ·obtain⟨its,r',pl,hz⟩:=I.tuple hq
  have hlen:=r'.length
  exact len_tuple pl (by simp only[List.size_toArray] <;> omega) ⟨.int ys.length,H,I.tok _,⟨s.toks+1,by rw[List.size_toArray,hlen]⟩,q⟩
theorem kO:yj X (.type "list") (fun xs H Q=>∃p ys,xs=[.ref p]/\(jt X.K H p ys∨JB X.K H p ys)/\∀l,H l=none->Q (.ref l) (upd H l (.lst ys))):=by
 intro pins s σ H xs us Q I r h
 obtain⟨p,ys,rfl,hq,q⟩:=h
 obtain⟨u,rfl,rx⟩:=UP r
 cases rx
 have fin:∀(its:List Value),je ys its->ys.length<=sizeLine->∀(h':Heap) (c':Nat),(∀b o',s.heap.get? b=some o'->h'.get? b=some o')->
   h'.get? s.heap.objs.size=some { cls:=.type "list",dict:=none,data:=.seq its.toArray c',slots:=#[] }->EP X pins σ Q (.ref s.heap.objs.size) { s with heap:=h' }:=fun its r' hz h' c' kp e=>
  ⟨.ref s.heap.objs.size,_,I.laid (t':=s.toks) kp (wPa _) (show JJ X.prog X.w _ h' _ (.lst ys) from⟨hz,its,c',r',e⟩),rfl,q _ (I.hok.fresh (wPa _))⟩
 rcases hq with hq | hq
 ·obtain⟨its,r',pl,hz⟩:=I.list hq
  have hlen:=r'.length
  obtain⟨o,ho,hc,n,hd⟩:=pl.isList
  exact call_list_seq p (.inl rfl) ho hc hd (fun h' c' kp e=>fin its r' hz h' c' kp e) (by simp only[List.size_toArray] <;> omega)
 ·obtain⟨its,r',pl,hz⟩:=I.tuple hq
  have hlen:=r'.length
  obtain⟨o,ho,hc,n,hd⟩:=pl
  exact call_list_seq p (.inr rfl) ho hc hd (fun h' c' kp e=>fin its r' hz h' c' kp e) (by simp only[List.size_toArray] <;> omega)
theorem k6:yj X (.type "tuple") (fun xs H Q=>∃p ys,xs=[.ref p]/\((jt X.K H p ys/\∀l,H l=none->Q (.ref l) (upd H l (.tup ys)))∨(JB X.K H p ys/\Q (.ref p) H))):=by
 intro pins s σ H xs us Q I r h
 obtain⟨p,ys,rfl,h⟩:=h
 obtain⟨u,rfl,rx⟩:=UP r
 cases rx
 rcases h with⟨hq,q⟩ | ⟨hq,q⟩
 ·obtain⟨its,r',pl,hz⟩:=I.list hq
  have hlen:=r'.length
  refine call_tuple_list pl.isList (fun h' kp=>?_) (by simp only[List.size_toArray] <;> omega)
  have I1:Inv X pins σ H { s with heap:=h' }:=I.kept (t':=s.toks) kp
  have I2:Inv X pins σ (upd H h'.objs.size (.tup ys)) { s with heap:=h'.push { cls:=.type "tuple",data:=.seq its.toArray } }:=
   I1.laid (t':=s.toks) (fun b o e=>wIa _ e) (wPa _) (show JJ X.prog X.w _ _ _ (.tup ys) from⟨hz,its,r',IsTup.new _ _⟩)
  exact⟨.ref h'.objs.size,_,I2,rfl,q _ (I1.hok.fresh (wPa _))⟩
 ·obtain⟨its,r',pl,hz⟩:=I.tuple hq
  exact call_tuple_same pl ⟨.ref p,H,I,rfl,q⟩
def Ft(K:PySem.W.Frag)(T:String)(x:V)(H:Hp):Prop:=match x with
 | .str _=>T = "str"
 | .int _=>T = "int"
 | .ref p=>(T = "list" /\∃xs,jt K H p xs)∨(T = "tuple" /\∃o,K.lookup p=some o/\o.cls=.type "tuple" /\o.dict=none)∨
   (T = "dict" /\((∃kvs,H p=some (.dK kvs))∨∃kvs,H p=some (.dT kvs)))∨(T = "set" /\∃S n,H p=some (.set S n))
 | _=>False
theorem Cb{pins:List (Addr×Obj)}{σ:St}{H:Hp}{s:Shared}{T:String}{x:V}{v:Value}(I:Inv X pins σ H s)(r:jm x v)(ty:Ft X.K T x H):
  s.TypeIs v T/\∀a,v=.ref a->∃ob,s.heap.get? a=some ob/\ob.dict=none:=by
 cases x with
 | str z=>
  obtain⟨t,rfl⟩:=r
  cases (show T = "str" from ty)
  exact⟨typeIs_str s z t,fun _ e=>nomatch e⟩
 | int i=>
  obtain⟨t,rfl⟩:=r
  cases (show T = "int" from ty)
  exact⟨typeIs_int s i t,fun _ e=>nomatch e⟩
 | ref p=>
  cases r
  rcases ty with⟨rfl,xs,hq⟩ | ⟨rfl,o,hk,hc,hd⟩ | ⟨rfl,hk⟩ | ⟨rfl,S,n,hk⟩
  ·obtain⟨its,_,pl,_⟩:=I.list hq
   refine⟨pl.isList.typeIs,fun a e=>?_⟩
   cases e
   obtain⟨o,n,e,c,hd,_⟩:=pl
   exact⟨o,e,hd⟩
  ·refine⟨⟨o,I.kIn p o hk,hc⟩,fun a e=>?_⟩
   cases e
   exact⟨o,I.kIn _ o hk,hd⟩
  ·have z:∃o,s.heap.get? p=some o/\o.ExactDict:=by
    rcases hk with⟨kvs,hk⟩ | ⟨kvs,hk⟩
    ·obtain⟨_,_,_,_,o,_,_,e,ex,_⟩:=I.hok p _ hk
     exact⟨o,e,ex⟩
    ·obtain⟨_,_,_,_,o,_,_,e,ex,_⟩:=I.hok p _ hk
     exact⟨o,e,ex⟩
   obtain⟨o,e,ex⟩:=z
   refine⟨⟨o,e,ex.1⟩,fun a e2=>?_⟩
   cases e2
   exact⟨o,e,ex.2.1⟩
  ·obtain⟨o,_,_,_,e,ex,_⟩:=I.hok p _ hk
   refine⟨⟨o,e,ex.1⟩,fun a e2=>?_⟩
   cases e2
   exact⟨o,e,ex.2.1⟩
 | _=>exact False.elim ty
def Q9(K:PySem.W.Frag)(T:String)(r:V->List V->Hp->VK->Prop)(to:TE)(t:TA):TE:=fun σ H Q=>to σ H fun x H1=>Ft K T x H1/\t σ H1 fun xs H2=>r x xs H2 Q
variable {o e:Expr} {es:List Expr} {to:TE} {t:TA} {name:Str} {apos cpos:Pos} {T id:String} {r:V->List V->Hp->VK->Prop}
theorem aO(pa:PlainAttrs T)(slot:Slot T name id)(hty:typeOf (.builtin id)=pure (.type "method_descriptor"))(hm:iX X id r)(ho:PE X o to)(ha:PA X (e::es) t)
  (hbase:attributeBase o name X.env (eval o X.env)=eval o X.env:=by rfl)
  (hfew:((backTo cpos (starEach (e::es) X.env)).all (fun x=>!x.1)&&(backToKw cpos (keywordEach [] X.env)).all (fun x=>x.1.isSome)
   && decide ((e::es).length+([]:List Keyword).length+(if ([]:List Keyword).isEmpty then 0 else 1) < 30))=true:=by rfl)
  (hline:(apos.endLine==cpos.line)=true:=by rfl) (hs:starEach (e::es) X.env=(false,eval e X.env)::starEach es X.env:=by rfl) (hplain:(backTo cpos (starEach es X.env)).any (·.1)=false:=by rfl):
  PE X (.Call (.Attribute o name apos) (e::es) [] cpos) (Q9 X.K T r to t):=by
 intro pins s σ H Q I h
 refine wpAny_Call_method_late hbase hfew hline rfl (jk (ho pins s σ H _ I h) fun v s1 ⟨x,H1,I1,r1,ty,q1⟩=>?_)
 obtain⟨h1,h2⟩:=Cb I1 r1 ty
 refine⟨T,id,pa,slot,hty,h1,h2,?_⟩
 have hA:=ha cpos pins s1 σ H1 _ I1 q1
 rw[hs]at hA⊢
 refine Calls.callWith_builtin (by show(false||(backTo cpos (starEach es X.env)).any (·.1))=false; rw[hplain] <;> rfl) (Calls.evalArgs_plain ?_)
 exact jk hA fun us s2 ⟨vs,H2,I2,r2,q2⟩=>hm pins s2 σ H2 x vs v us Q I2 r1 r2 q2
end
end L2
namespace L2
open PySem PySem.Spec PyProof.Rows
def Fu(X:Cx)(id:String)(r:V->List V->Hp->VK->Prop):Prop:=
 ∀(pins:List (Addr×Obj)) (s:Shared) (σ:St) (H:Hp) (x:V) (xs:List V) (v:Value) (us:List Value) (Q:VK),Inv X pins σ H s->jm x v->je xs us->r x xs H Q->
  wpAny (model X.prog X.w) X.A (call (.builtin id) (v::us)) (EP X pins σ Q) X.xe s
theorem je.one:∀{x:V} {us:List Value},je [x] us->∃u,us=[u]/\jm x u
 | _,_,.cons r .nil=>⟨_,rfl,r⟩
theorem je.rep{xs:List V}{us:List Value}(h:je xs us):∀k:Nat,je (List.replicate k xs).flatten (List.replicate k us).flatten
 | 0=>.nil
 | k+1=>by
  rw[List.replicate_succ,List.replicate_succ,List.flatten_cons,List.flatten_cons]
  exact je.append h (je.rep h k)
theorem GD(its:List Value):∀(k:Nat) (acc:List Value),
  List.foldl (fun x1 x2=>x1++x2) acc.toArray (List.replicate k its.toArray)=(acc++(List.replicate k its).flatten).toArray
 | 0,acc=>by simp
 | k+1,acc=>by
  have e:acc.toArray++its.toArray=(acc++its).toArray:=by simp
  have e2:(acc++its)++(List.replicate k its).flatten=acc++(List.replicate (k+1) its).flatten:=by
   rw[List.replicate_succ,List.flatten_cons,List.append_assoc]
  rw[<-e2,<-GD its k (acc++its),<-e,List.replicate_succ,List.foldl_cons]
section
variable {X:Cx} {pins:List (Addr×Obj)} {σ:St} {H:Hp} {s:Shared} {l b:Addr} {xs ys zs:List V}
theorem Inv.lset{its its':List Value}{n:Nat}{f:Array Value->Array Value}{t':Nat}(I:Inv X pins σ H s)(hH:H l=some (.lst xs))
  (e:s.heap.get? l=some { cls:=.type "list",data:=.seq its.toArray n }) (hf:f its.toArray=its'.toArray) (hv:je ys its') (hz:ys.length<=sizeLine):
  Inv X pins σ (upd H l (.lst ys)) { s with heap:=s.heap.update l (Obj.mapSeq f),toks:=t' }:=by
 have q:=PySem.IsL.update e f
 rw[hf]at q
 refine I.write (x:=l) (e:=l) (by rw[hH]; exact trivial) (.inl rfl) (fun b' u hb hu=>(wKa s.heap (Obj.mapSeq f) (Ne.symm hb)).trans hu) ⟨_,q⟩ ?_
 exact⟨hz,its',_,hv,q⟩
theorem Inv.lnew{its:List Value}{t':Nat}(I:Inv X pins σ H s)(hv:je ys its)(hz:ys.length<=sizeLine):
  Inv X pins σ (upd H s.heap.objs.size (.lst ys)) { s with heap:=s.heap.push { cls:=.type "list",data:=.seq its.toArray },toks:=t' }:=
 I.laid (fun _ _ q=>wIa _ q) (wPa _) ⟨hz,its,0,hv,wJa _ rfl⟩
theorem Inv.fresh(I:Inv X pins σ H s):H s.heap.objs.size=none:=I.hok.fresh (wPa _)
theorem Inv.lstM(I:Inv X pins σ H s)(hH:H l=some (.lst xs)):xs.length<=sizeLine/\∃(its:List Value) (n:Nat),je xs its/\xs.length=its.length/\s.heap.get? l=some { cls:=.type "list",data:=.seq its.toArray n }:=by
 obtain⟨z,its,n,r,e⟩:=I.hok l _ hH
 exact⟨z,its,n,r,r.length,e⟩
theorem xX{n:Nat}(h:n<=sizeLine):Builtin.List.listTooLong n=false:=by
 unfold Builtin.List.listTooLong
 exact vBa (by omega)
end
section
variable {X:Cx}
def gO:V->List V->Hp->VK->Prop:=fun x vs H Q=>∃l xs y,x=.ref l/\vs=[y]/\H l=some (.lst xs)/\xs.length < sizeLine/\Q .non (upd H l (.lst (xs++[y])))
theorem Qa:Fu X "list.append" gO:=by
 intro pins s σ H x vs v us Q I rx rv h
 obtain⟨l,xs,y,rfl,rfl,hH,hz,q⟩:=h
 cases rx
 obtain⟨u,rfl,ru⟩:=rv.one
 obtain⟨z,its,n,r,hl,e⟩:=I.lstM hH
 refine call_meets F.slot_list_append ⟨_,e,rfl⟩ F.entry_list_append (F.args_list_append_2 _ _) (PySem.list_append l its.toArray n u (by rw[List.size_toArray]; omega)) ⟨e,?_⟩
 refine⟨.non,_,I.lset (its':=its++[u]) hH e (by simp) (r.append (.cons ru .nil)) ?_,rfl,q⟩
 rw[List.length_append,List.length_singleton]
 omega
def Cd:R2:=fun x y H Q=>∃l b xs zs,x=.ref l/\y=.ref b/\H l=some (.lst xs)/\H b=some (.lst zs)/\xs.length+zs.length<=sizeLine/\∀p,H p=none->Q (.ref p) (upd H p (.lst (xs++zs)))
theorem Ce:jI X (binaryOp .Add) Cd:=by
 intro pins s σ H x y v u Q I rx ry h
 obtain⟨l,b,xs,zs,rfl,rfl,hH,hB,hz,q⟩:=h
 cases rx
 cases ry
 obtain⟨z,its,n,r,hl,e⟩:=I.lstM hH
 obtain⟨z2,its2,n2,r2,hl2,e2⟩:=I.lstM hB
 refine PySem.P.add_list e e2 ?_ (by rw[List.size_toArray,List.size_toArray]; omega)
 have ea:its.toArray++its2.toArray=(its++its2).toArray:=by simp
 rw[ea]
 exact⟨.ref _,_,I.lnew (t':=s.toks) (r.append r2) (by rw[List.length_append]; omega),rfl,q _ I.fresh⟩
def Cf:R2:=fun x y H Q=>∃l k xs,x=.ref l/\y=.int k/\H l=some (.lst xs)/\-(2 ^ 63)<=k/\k < 2 ^ 63/\xs.length * k.toNat<=sizeLine/\
 ∀p,H p=none->Q (.ref p) (upd H p (.lst (List.replicate k.toNat xs).flatten))
theorem bD{α:Type}(xs:List α)(k:Nat):(List.replicate k xs).flatten.length=k * xs.length:=by
 induction k with
 | zero=>simp
 | succ k ih=>rw[List.replicate_succ,List.flatten_cons,List.length_append,ih,Nat.succ_mul,Nat.add_comm]
theorem Cg:jI X (binaryOp .Mult) Cf:=by
 intro pins s σ H x y v u Q I rx ry h
 obtain⟨l,k,xs,rfl,rfl,hH,h1,h2,hz,q⟩:=h
 cases rx
 obtain⟨t,rfl⟩:=ry
 obtain⟨z,its,n,r,hl,e⟩:=I.lstM hH
 have hlen:its.toArray.size * k.toNat<=sizeLine:=by rw[List.size_toArray,<-hl]; exact hz
 have hcap:¬its.toArray.size * k.toNat > (2 ^ 63 - 1) / 8:=by
  have:(sizeLine:Nat)<=(2 ^ 63 - 1) / 8:=by decide
  omega
 have hfit:¬(!Builtin.List.listFitsIndex k)=true:=by
  rw[fitsIndex_both h1 h2]
  exact vNa
 have hlong:¬Builtin.List.listTooLong (its.toArray.size * k.toNat)=true:=by
  rw[xX hlen]
  exact vNa
 have hnew:List.foldl (fun x1 x2=>x1++x2) #[] (List.replicate (if its.toArray.isEmpty=true then 0 else k.toNat) its.toArray)=(List.replicate k.toNat its).flatten.toArray:=by
  have f0:∀m:Nat,List.foldl (fun x1 x2=>x1++x2) #[] (List.replicate m its.toArray)=(List.replicate m its).flatten.toArray:=fun m=>by
   have:=GD its m []
   rw[List.nil_append]at this
   exact this
  rw[f0]
  cases its with
  | nil=>simp
  | cons a r'=>rw[if_neg (by simp)]
 refine wpAny_binaryOp_repeat_ref (T := "list") (U := "int") (by decide) ⟨_,e,rfl⟩ (fun s'=>typeIs_int s' k t) noFill_list_mul F.fills_int_mul F.slot_int_rmul repeat_list F.slot_int_index.lookup
  (call_meets F.slot_int_rmul (typeIs_int s k t) F.entry_int_rmul (F.args_int_rmul_2 _ _) (int___rmul___int_list k t l its.toArray n)
   ⟨e,rfl,⟨_,e,rfl⟩,call_meets F.slot_list_mul ⟨_,e,rfl⟩ F.entry_list_mul (F.args_list_mul_2 _ _) (AutoListH.list___mul___list_int_3 l its.toArray n k t hfit hcap hlong) ⟨e,?_⟩⟩)
 rw[hnew]
 exact⟨.ref _,_,I.lnew (t':=s.toks) (r.rep k.toNat) (by rw[bD,Nat.mul_comm]; exact hz),rfl,q _ I.fresh⟩
end
end L2
namespace Att
open PySem PySem.W PySem.Calls PyProof.Rows
theorem ints_of_wellAll{P:Params}{h:Heap}:∀(ns:List Int) (vs:List Value),WellAll P h vs (ns.map WData.int)->IntsAre vs ns:=by
 intro ns
 induction ns with
 | nil=>
  intro vs w
  rw[List.map_nil]at w
  cases w
  exact .nil
 | cons n ns ih=>
  intro vs w
  rw[List.map_cons]at w
  cases w with
  | cons a b=>
   cases a
   exact .cons _ _ (ih _ b)
theorem script_of{l:OpenLaw}{n:Nat}(hn:l.most=some n){P:Params}{h:Heap}{args:List WData}{vals:List Value}
  (hpre:l.row.toRowW.claim.pre args=true) (hwl:WellAll P h vals args):
  ∃a vs ns,vals=[Value.ref a]/\args=[WData.list (ns.map WData.int)]/\h.get? a=some { cls:=.type "list",data:=.seq vs.toArray }/\IntsAre vs ns/\ns.length<=n:=by
 have hsh:WShape.hasAll [] args [.list .int]=true:=(pre_splitW hpre).1
 have hc:l.pre.holds [] { args:=args }=true:=(pre_splitW hpre).2
 obtain⟨d,r,rfl,h1,h2⟩:=hasAllW_cons hsh
 obtain rfl:=hasAllW_nil h2
 obtain⟨xs,rfl,h3⟩:=hasW_list h1
 obtain⟨ns,rfl⟩:=items_int h3
 have hlen:ns.length<=n:=by
  unfold OpenLaw.pre at hc
  have h4:(WTm.not (.lt (.lit (.int (n:Int))) (.len (.arg 0)))).holds [] { args:=[.list (ns.map .int)] }=true:=by
   have h4:=(holds_andW hc).1
   rw[hn]at h4
   exact h4
  have h5:=condW_of h4 (w_not (w_lt w_lit (w_len_list (w_arg rfl))))
  rw[List.length_map]at h5
  refine Nat.le_of_not_lt fun q=>?_
  have q':(n:Int) < ((ns.length:Nat):Int):=by omega
  first
   | (rw[decide_eq_true q']at h5; exact vDa h5 (by decide))
   | (simp at h5; omega)
 cases hwl with
 | cons w1 w2=>
  cases w2
  cases w1 with
  | list ho hall=>exact⟨_,_,ns,rfl,rfl,ho,ints_of_wellAll ns _ hall,hlen⟩
theorem post_true(l:OpenLaw)(args:List WData):l.row.toRowW.claim.post args (.bool true) args=true:=
 postW_of (r:=l.row.toRowW) (X:=(true==true))
  (show WShape.has [] (.bool true) .bool=true by first | rfl | decide | simp[WShape.has,WShape.arms,WShape.armsAll])
  (show(WTm.eq .res (.lit (.bool true))).value [] { args:=args,res:=some (.bool true),after:=args }=some (.bool (true==true)) from w_eq_bool (w_res rfl) w_lit) rfl
theorem attach_call{l:OpenLaw}{n:Nat}{q:Program}{loose:List Str}{XP:(Str->Option Value)->Heap->Prop}{YP:World->Heap->Prop}{d:DefRec}
  (hn:l.most=some n) (hdf:d.params.defaults=[])
  (call:∀(w:World) (s₀ s₁:Shared) (mg mb:Str->Option Value) (fa:Addr) (o:Obj) (pm cd doc:Value) (a:Addr) (vs:List Value) (ns:List Int),
   Ground q loose [] XP w s₀ mg mb s₁.heap->YP w s₁.heap->
   s₁.heap.get? fa=some o->o.data=.func (docDef d.name d.params d.body d.scope pm cd doc)->s₁.heap.CodeRec cd d.name->mg d.name=some (.ref fa)->
   s₁.heap.get? a=some { cls:=.type "list",data:=.seq vs.toArray }->IntsAre vs ns->ns.length<=n->s₁.gens=#[]->
   codeAny (model l.prog w) callerA (.call (.ref fa) ⟨[.ref a],[]⟩) (fun r s'=>r=.ok (.ret (.bool true))/\OldK s₁.heap s'.heap/\s'.os=s₁.os/\AllBare s'.gens) s₁):
  WalkO q loose XP YP l.row.toRowW d [] (fun f vs=>PySem.call f vs):=by
 intro w s₀ s₁ mg mb G Y fa o pm cd doc dV kV ho hd hcd hD hmg hg args vals as hpre hlay hrd hwl hlo
 obtain rfl:dV=.none:=Dflts.none hD hdf
 obtain rfl:kV=.none:=Dflts.noKw hD
 obtain⟨a,vs,ns,rfl,rfl,hobj,hints,hlen⟩:=script_of hn hpre hwl
 refine enter_call (codeAny_mono (call w s₀ s₁ mg mb fa o pm cd doc a vs ns G Y ho (fd_plain hd) hcd hmg hobj hints hlen hg) fun r s' hq=>?_)
 obtain⟨rfl,h2,h3,h4⟩:=hq
 exact⟨.inl ⟨.bool true,.bool true,[],rfl,fun _=>rfl,.bool true,post_true l _,fun _=>⟨List.Pairwise.nil,fun _ hm=>(nomatch hm)⟩⟩,h2,h3,h4⟩
end Att
namespace L2
open PySem PySem.Spec PyProof.Rows
theorem GE:∀{vs:List Value} {ns:List Int},IntsAre vs ns->je (ns.map V.int) vs
 | _,_,.nil=>.nil
 | _,_,.cons n t h=>.cons ⟨t,rfl⟩ (GE h)
def xY(H:Hp):Prop:=∀b,H b=none∨∃o xs,H b=some (.frz o (.lst xs))
theorem xZ{P:Program}{w:World}{K:PySem.W.Frag}{mg mb:Str->Option Value}{CX:vE}{k:Nat}{fa a:Addr}{fd:FuncData}{x:Str}{sp:Sp}{s₁:Shared}{vs:List Value}{ns:List Int}
  (KX:K.In s₁.heap) (hns:s₁.heap.Ns mainGlobals mg) (hb:s₁.heap.Ns builtinsNs mb) (hbb:∀x:Str,x≠ "__name__" ->mb x=bootBuiltins x) (hlim:s₁.heap.NoLimit) (hg:s₁.gens=#[])
  (ha:s₁.heap.get? a=some { cls:=.type "list",data:=.seq vs.toArray }) (hi:IntsAre vs ns) (hl:ns.length<=sizeLine) (hr:Room k callerA)
  (F:∀base:Heap,K.In base->base.Ns mainGlobals mg->FnOk P w K mg base CX k fa fd [x] sp) (hbind:∀(s:Shared) (u:Value),BindsTo s fd ⟨[u],[]⟩ [(x,u)])
  (hsp:∀H:Hp,xY H->jt K H a (ns.map V.int)->sp [.ref a] H (fun v _=>v=.bl true) fun _ _ _=>False)
  (hCX:∀H e s',CX [] H s₁ (fun _ _ _=>False) e s'->False):
  codeAny (model P w) callerA (.call (.ref fa) ⟨[.ref a],[]⟩) (fun r s'=>r=.ok (.ret (.bool true))/\OldK s₁.heap s'.heap/\s'.os=s₁.os/\AllBare s'.gens) s₁:=by
 have rv:=GE hi
 have lenV:=hi.length
 have core:∀H:Hp,xY H->jt K H a (ns.map V.int)->JY P w H s₁.heap->(∀b,H b≠none->b=a)->(H a≠none->K.lookup a=none)->
   codeAny (model P w) callerA (.call (.ref fa) ⟨[.ref a],[]⟩) (fun r s'=>r=.ok (.ret (.bool true))/\OldK s₁.heap s'.heap/\s'.os=s₁.os/\AllBare s'.gens) s₁:=by
  intro H hO hS hok hA hK
  have base_of:∀{b:Addr} {o:Obj},s₁.heap.get? b=some o->H b=none->(V0 s₁.heap H).get? b=some o:=fun e n=>xD e n
  have noA:∀{b:Addr} {o:Obj} {es:Array DictEntry} {ep:Nat},s₁.heap.get? b=some o->o.data=.dict es ep->H b=none:=fun {b o es ep} e d=>by
   cases q:H b with
   | none=>rfl
   | some u=>
    have e':b=a:=hA b (by rw[q]; simp)
    subst e'
    rw[ha]at e; cases e
    have d':Data.seq vs.toArray _=Data.dict es ep:=d
    cases d'
  have nsK:∀{b:Addr} {m:Str->Option Value},s₁.heap.Ns b m->(V0 s₁.heap H).Ns b m:=fun {b m} ⟨o,es,ep,e,d,r⟩=>⟨o,es,ep,base_of e (noA e d),d,r⟩
  have hKb:K.In (V0 s₁.heap H):=fun b o e=>base_of (KX b o e) (by
   cases q:H b with
   | none=>rfl
   | some u=>
    have e':b=a:=hA b (by rw[q]; simp)
    subst e'
    rw[hK (by rw[q]; simp)]at e; cases e)
  have hM:Mod K mg (V0 s₁.heap H):=⟨hKb,nsK hns,⟨mb,nsK hb,hbb⟩,let ⟨mc,h1,h2⟩:=hlim; ⟨mc,nsK h1,h2⟩⟩
  have e0:Env0 P w K mg (V0 s₁.heap H) callerA [] s₁ H:=⟨rfl,hM,fun b o e=>b8 e,Nat.le_of_eq (qP _ _),trivial,fun b hb=>vDa (show b∈([]:List Addr) from hb) (by simp),hok,.of_eq hg⟩
  refine codeAny_mono ((F _ hKb (nsK hns)).run callerA [] s₁ H ⟨[.ref a],[]⟩ [.ref a] [.ref a] _ _ hr e0 (hbind s₁ (.ref a)) (.cons rfl .nil) (hsp H hO hS)) fun r s' h=>?_
  cases r with
  | error e=>exact(hCX H e s' h).elim
  | ok fl=>
   cases fl with
   | next=>exact False.elim h
   | brk=>exact False.elim h
   | cont=>exact False.elim h
   | ret u=>
    obtain⟨v,H',os,bare,un,hok',r',q⟩:=h
    have q':v=.bl true:=q
    subst q'
    obtain rfl:u=Value.bool true:=r'
    refine⟨rfl,OldK.of_keep fun b o e=>?_,os,bare⟩
    cases q:H b with
    | none=>exact un.keep b o e q (by intro z; exact vDa (show b∈([]:List Addr) from z) (by simp)) (by simp)
    | some u=>
     rcases hO b with z | ⟨ob,xs,z⟩
     ·rw[q]at z; cases z
     ·have z2:=un.frzs b ob _ z
      obtain⟨e1,_⟩:=hok b _ z
      obtain⟨e2,_⟩:=hok' b _ z2
      rw[e]at e1; cases e1
      exact e2
 cases hk:K.lookup a with
 | some o=>
  have e:=KX a o hk
  rw[ha]at e
  cases e
  refine core (fun _=>none) (fun _=>.inl rfl) (.inr ⟨_,vs.toArray,_,hk,rfl,rfl,rfl,by rw[List.size_toArray,lenV]; exact hl,by simpa using rv⟩) (fun b u z=>by have z':(none:Option HO)=some u:=z; cases z') (fun b z=>vDa rfl z) fun z=>vDa rfl z
 | none=>
  refine core (fun b=>if b=a then some (.frz { cls:=.type "list",data:=.seq vs.toArray } (.lst (ns.map V.int)))else none) (fun b=>?_) (.inl (.inr ⟨{ cls:=.type "list",data:=.seq vs.toArray },if_pos rfl⟩)) (fun b u z=>?_) (fun b z=>?_) fun _=>hk
  ·by_cases hb:b=a
   ·exact .inr ⟨_,_,if_pos hb⟩
   ·exact .inl (if_neg hb)
  ·by_cases hb:b=a
   ·have z':=(if_pos hb).symm.trans z
    cases z'
    subst hb
    exact⟨ha,by rw[List.length_map]; exact hl,vs,_,rv,ha⟩
   ·have z':=(if_neg hb).symm.trans z
    cases z'
  ·by_cases hb:b=a
   ·exact hb
   ·exact vDa (if_neg hb) z
end L2
namespace L2
open PySem PySem.Spec PyProof.Rows
noncomputable abbrev lO{K:PySem.W.Frag}{h:Heap}(_:K.In h):PySem.W.Frag:=K
theorem bE{l:PySem.W.OpenLaw}{n k:Nat}{q:Program}{loose:List Str}{XP:(Str->Option Value)->Heap->Prop}{YP:World->Heap->Prop}{d:DefRec}{K:Params->PySem.W.Frag}{CX:World->vE}{sp:World->Sp}{x:Str}
  (hn:l.most=some n) (hn2:n<=sizeLine) (hdf:d.params.defaults=[]) (hr:Room k callerA)
  (hY:∀(w:World) (h:Heap),YP w h->(K w.params).In h)
  (F:∀(w:World) (mg:Str->Option Value) (fa:Addr) (h:Heap),(K w.params).In h->h.Ns mainGlobals mg->mg d.name=some (.ref fa)->
   ∃fd:FuncData,(∀(s:Shared) (u:Value),BindsTo s fd ⟨[u],[]⟩ [(x,u)])/\
    ∀base:Heap,(K w.params).In base->base.Ns mainGlobals mg->FnOk l.prog w (K w.params) mg base (CX w) k fa fd [x] (sp w))
  (hsp:∀(w:World) (H:Hp) (a:Addr) (ns:List Int),ns.length<=n->xY H->jt (K w.params) H a (ns.map V.int)->sp w [.ref a] H (fun v _=>v=.bl true) fun _ _ _=>False)
  (hCX:∀(w:World) (H:Hp) (s:Shared) (e:Value) (s':Shared),CX w [] H s (fun _ _ _=>False) e s'->False):
  PySem.W.WalkO q loose XP YP l.row.toRowW d [] (fun f vs=>PySem.call f vs):=by
 refine Att.attach_call hn hdf fun w s₀ s₁ mg mb fa o pm cd doc a vs ns G Y ho hd hcd hmg hobj hints hlen hg=>?_
 have KX:=hY w _ Y
 obtain⟨fd,hb,hF⟩:=F w mg fa _ KX G.T.g hmg
 exact xZ KX G.T.g G.T.b G.T.builtins G.T.nolimit hg hobj hints (wSa hlen hn2) hr hF hb (fun H hO hS=>hsp w H a ns hlen hO hS) fun H e s'=>hCX w H s₁ e s'
end L2
namespace L2
open PySem PySem.Spec PyProof.Rows
noncomputable def inClass(s:Stmt)(j:Nat):Stmt:=match s with
 | .ClassDef _ _ _ body _ _ _ _ _ _ _=>body.getD j (.Pass ⟨0,0,0,0⟩)
 | _=>.Pass ⟨0,0,0,0⟩
noncomputable def defArgs(s:Stmt):Arguments:=match s with
 | .FunctionDef _ a _ _ _ _ _ _ _ _=>a
 | _=>{ posonlyargs:=[],args:=[],vararg:=none,kwonlyargs:=[],kw_defaults:=[],kwarg:=none,defaults:=[] }
noncomputable def defBody(s:Stmt):List Stmt:=match s with
 | .FunctionDef _ _ b _ _ _ _ _ _ _=>b
 | _=>[]
noncomputable def defScope(s:Stmt):Scope:=match s with
 | .FunctionDef _ _ _ _ _ _ sc _ _ _=>sc
 | _=>{ kind:=.function,names:=[],isGenerator:=false,isCoroutine:=false }
abbrev Yd:vE:=fun _ _ _ _ _ _=>False
abbrev E0:XK:=fun _ _ _=>False
theorem WS{X:Cx}:YF Yd X E0:=fun _ _ _ _ _ _ _ h=>h.elim
structure Fun (K:PySem.W.Frag) (x qual:Str) (st:Stmt) (f:Addr) (fd:FuncData):Prop where
 ex:∃(oc:Value) (od:Option Addr) (kV doc pm:Value) (an:Option Addr) (cdv ct:Value) (osl:Array (Option Value)),
  fd=PySem.W.fnOf x qual (defArgs st) (defBody st) (defScope st) .none kV doc pm an cdv ct/\K.lookup f=some ⟨oc,od,.func fd,osl⟩/\PySem.W.codeIn K cdv qual=true
 kp:PySem.W.keepIn K (.ref f)=true
section
variable {P:Program} {w:World} {K:PySem.W.Frag} {mg:Str->Option Value} {base:Heap}
theorem Fun.ok{x qual:Str}{st:Stmt}{f:Addr}{fd:FuncData}{N ps:List Str}{k:Nat}{sp:Sp}(F:Fun K x qual st f fd)(S:FnScope N ps (defScope st))(len:∀vs H Q E,sp vs H Q E->vs.length=ps.length)
  (hbody:∀(cdv:Value) (A:Around) (outer:List Env) (s:Shared) (H:Hp) (vs:List V) (Q:VK) (E:XK),Room k (A.deeper (envOfC qual (defScope st) s.heap.objs.size f cdv))->sp vs H Q E->
   ∃t,jL (Ju Yd P w K mg base N qual (defScope st) f cdv A outer s H E).nox (defBody st) t/\t { nx:=fun _ H'=>Q .non H',rt:=Q } (Yh N vs) H):FnOk P w K mg base Yd (k+1) f fd ps sp:=by
 obtain⟨oc,od,kV,doc,pm,an,cdv,ct,osl,rfl,lk,hcd⟩:=F.ex
 refine aL lk hcd S len fun A outer s H vs Q E hr hsp=>?_
 obtain⟨t,h,q⟩:=hbody cdv A outer s H vs Q E hr hsp
 exact⟨t,h.nox,q⟩
theorem Fun.binds{x qual:Str}{st:Stmt}{f:Addr}{fd:FuncData}{ps:List Str}(F:Fun K x qual st f fd)
  (h:∀(kV doc pm:Value) (an:Option Addr) (cdv ct:Value) (us:List Value),us.length=ps.length->bindArgs (PySem.W.fnOf x qual (defArgs st) (defBody st) (defScope st) .none kV doc pm an cdv ct) ⟨us,[]⟩=pure (ps.zip us)):J_ K fd ps []:=by
 obtain⟨oc,od,kV,doc,pm,an,cdv,ct,osl,rfl,lk,hcd⟩:=F.ex
 exact .all (h kV doc pm an cdv ct)
theorem VV{x qual:Str}{st:Stmt}{f:Addr}{oc:Value}{od an:Option Addr}{osl:Array (Option Value)}{kV doc pm cdv ct:Value}(l:K.lookup f=some ⟨oc,od,.func (PySem.W.fnOf x qual (defArgs st) (defBody st) (defScope st) .none kV doc pm an cdv ct),osl⟩)
  (c:PySem.W.codeIn K cdv qual=true) (k:PySem.W.keepIn K (.ref f)=true):Fun K x qual st f (PySem.W.fnOf x qual (defArgs st) (defBody st) (defScope st) .none kV doc pm an cdv ct):=⟨⟨oc,od,kV,doc,pm,an,cdv,ct,osl,rfl,l,c⟩,k⟩
end
theorem Qb{n:Nat}(h:n<=1000):n < sizeLine:=Nat.lt_of_le_of_lt h (by decide)
section
variable {X:Cx}
theorem pv(i:Nat){x:Str}{pos:Pos}(hN:X.N[i]?=some x:=by rfl)(hv:kD X.env.scope x:=by first | exact Or.inl rfl | exact Or.inr (Or.inl rfl) | exact Or.inr (Or.inr rfl))(hd:(x==("__debug__" : Str))=false:=by decide)
  (hcd:(x==("__classdict__" : Str))=false:=by decide):PE X (.Name x pos) (YY i):=BS hN hv hd hcd
end
theorem YG{A B:Prop}(h:B):if false=true then A else B:=by
 rw[if_neg Bool.false_ne_true]
 exact h
theorem YH{A B:Prop}(h:A):if true=true then A else B:=by
 rw[if_pos rfl]
 exact h
def j4(H H':Hp):Prop:=∀b o,H b=some o->H' b=some o
theorem j4.refl(H:Hp):j4 H H:=fun _ _ h=>h
theorem j4.trans{H H1 H2:Hp}(a:j4 H H1)(b:j4 H1 H2):j4 H H2:=fun c o h=>b c o (a c o h)
theorem j4.free{H H':Hp}(e:j4 H H'){l:Addr}(h:H' l=Option.none):H l=Option.none:=by
 cases q:H l with
 | none=>rfl
 | some o=>
  rw[e l o q]at h
  cases h
theorem j4.seq{K:PySem.W.Frag}{H H':Hp}{a:Addr}{xs:List V}(e:j4 H H')(h:jt K H a xs):jt K H' a xs:=by
 rcases h with(h | ⟨o,h⟩) | h
 ·exact .inl (.inl (e _ _ h))
 ·exact .inl (.inr ⟨o,e _ _ h⟩)
 ·exact .inr h
end L2
set_option maxHeartbeats 4000000
namespace L2
open PySem PySem.Spec PyProof.Rows
noncomputable def Y6(env:Env):List (Str×NameKind)->List (Str×Addr)->List (Str×Addr)
 | [],cs=>cs
 | (n,k)::r,cs=>Y6 env r (if k==.free then(match env.cells.lookup n with | some a=>(n,a)::cs | none=>cs)else cs)
theorem gP{env:Env}:∀{ns:List (Str×NameKind)} {cs:List (Str×Addr)},(∀x c,cs.lookup x=some c->env.cells.lookup x=some c)->∀x c,(Y6 env ns cs).lookup x=some c->env.cells.lookup x=some c
 | [],_,h,x,c,e=>h x c e
 | (n,k)::r,cs,h,x,c,e=>by
  refine gP (ns:=r) ?_ x c e
  intro y d q
  by_cases hk:(k==NameKind.free)=true
  ·rw[if_pos hk]at q
   cases hl:env.cells.lookup n with
   | none=>rw[hl]at q; exact h y d q
   | some a=>
    rw[hl]at q
    have q:((n,a)::cs).lookup y=some d:=q
    rw[List.lookup_cons]at q
    cases hy:(y==n)with
    | true=>
     rw[hy]at q
     have e1:y=n:=by simpa using hy
     have e2:a=d:=by simpa using q
     rw[e1,hl,e2]
    | false=>rw[hy]at q; exact h y d q
  ·rw[if_neg hk]at q; exact h y d q
theorem GF{env:Env}:∀{ns:List (Str×NameKind)} {cs:List (Str×Addr)} {x:Str},(∃c,cs.lookup x=some c)->∃c,(Y6 env ns cs).lookup x=some c
 | [],_,_,h=>h
 | (n,k)::r,cs,x,h=>by
  refine GF (ns:=r) ?_
  by_cases hk:(k==NameKind.free)=true
  ·rw[if_pos hk]
   cases hl:env.cells.lookup n with
   | none=>exact h
   | some a=>
    show∃c,((n,a)::cs).lookup x=some c
    rw[List.lookup_cons]
    cases hy:(x==n)with
    | true=>exact⟨a,rfl⟩
    | false=>exact h
  ·rw[if_neg hk]; exact h
theorem Uj{env:Env}:∀{ns:List (Str×NameKind)} {cs:List (Str×Addr)} {x:Str},(x,NameKind.free)∈ns->(∃c,env.cells.lookup x=some c)->∃c,(Y6 env ns cs).lookup x=some c
 | (n,k)::r,cs,x,hm,hc=>by
  rcases List.mem_cons.mp hm with e | hm
  ·cases e
   obtain⟨c,hc⟩:=hc
   refine GF (ns:=r) ?_
   rw[if_pos (by rfl)]
   rw[hc]
   exact⟨c,by rw[List.lookup_cons]; simp⟩
  ·exact Uj (ns:=r) hm hc
theorem wV{scope:Scope}{env:Env}(h:∀y∈scope.names,y.2=.free->∃c,env.cells.lookup y.1=some c):closureFor scope env=pure (Y6 env scope.names []):=by
 unfold closureFor
 have go:∀(ns:List (Str×NameKind)) (cs:List (Str×Addr)),(∀y∈ns,y.2=.free->∃c,env.cells.lookup y.1=some c)->
   (forIn ns cs fun(x:Str×NameKind) (r:List (Str×Addr))=>(match x with
    | (name,kind)=>if (kind==NameKind.free)=true then(do let a<-cellOf env name; pure (ForInStep.yield ((name,a)::r)))else pure (ForInStep.yield r):Sem (ForInStep (List (Str×Addr)))))=pure (Y6 env ns cs):=by
  intro ns
  induction ns with
  | nil=>intro cs _; rfl
  | cons p r ih=>
   obtain⟨n,k⟩:=p
   intro cs hh
   rw[List.forIn_cons]
   by_cases hk:(k==NameKind.free)=true
   ·obtain⟨c,hc⟩:=hh (n,k) wNa (by simpa using hk)
    have hc:env.cells.lookup n=some c:=hc
    have e1:cellOf env n=pure c:=by unfold cellOf; rw[hc]
    have e2:Y6 env ((n,k)::r) cs=Y6 env r ((n,c)::cs):=by
     show Y6 env r (if (k==NameKind.free)=true then _ else _)=_
     rw[if_pos hk,hc]
    dsimp only
    rw[if_pos hk,e1,e2,<-ih ((n,c)::cs) fun y hy=>hh y (List.mem_cons_of_mem _ hy)]
    rfl
   ·have e2:Y6 env ((n,k)::r) cs=Y6 env r cs:=by
     show Y6 env r (if (k==NameKind.free)=true then _ else _)=_
     rw[if_neg hk]
    dsimp only
    rw[if_neg hk,e2,<-ih cs fun y hy=>hh y (List.mem_cons_of_mem _ hy)]
    rfl
 exact(congrArg (fun m=>m >>= fun r=>(pure r:Sem (List (Str×Addr)))) (go scope.names [] h)).trans rfl
def Cx.comp(X:Cx)(N':List Str)(scope:Scope)(s3:Shared)(H3:Hp)(ex':List Addr):Cx:=
 { X with N:=N',s₀:=s3,H₀:=H3,env:=compEnvC scope (Y6 X.env scope.names []) s3.heap.objs.size X.env,outer:=X.stack,stack:=X.stack,ex:=ex',fn:=fun _=>false,pn:=[],xe:=fun _ _=>False }
inductive Caps (X:Cx) (scope:Scope):List (Str×Nat)->Prop
 | nil:Caps X scope []
 | cons {y:Str} {j:Nat} {r:List (Str×Nat)}:X.N[j]?=some y->(X.env.kindOf y=some .cell∨X.env.kindOf y=some .free)->scope.names.lookup y=some .free->Caps X scope r->Caps X scope ((y,j)::r)
theorem Caps.get{X:Cx}{scope:Scope}:∀{caps:List (Str×Nat)} {k:Nat} {y:Str} {j:Nat},Caps X scope caps->caps[k]?=some (y,j)->
  X.N[j]?=some y/\(X.env.kindOf y=some .cell∨X.env.kindOf y=some .free)/\scope.names.lookup y=some .free
 | _,_,_,_,.nil,e=>by simp at e
 | _,0,_,_,.cons a b c _,e=>by simp at e; obtain⟨rfl,rfl⟩:=e; exact⟨a,b,c⟩
 | _,k+1,_,_,.cons _ _ _ t,e=>Caps.get (k:=k) t (by simpa using e)
noncomputable abbrev cN(own:List Str)(caps:List (Str×Nat)):List Str:=own++caps.map (·.1)
noncomputable abbrev ZO(own:List Str)(caps:List (Str×Nat))(σ:St):St:=own.map (fun _=>none)++caps.map fun p=>(σ[p.2]?).join
def zD(X:Cx)(ifs:List Expr)(t:TT):Prop:=
 ∀(pins:List (Addr×Obj)) (s:Shared) (σ:St) (H:Hp) (Q:Bool->Hp->Prop),Inv X pins σ H s->t σ H Q->
  wpAny (model X.prog X.w) X.A (forIn ifs true fun c r=>if r=true then do let ok<-isTrue c X.env (eval c X.env); pure (ForInStep.yield ok)else pure (ForInStep.yield r)) (TP X pins σ Q) X.xe s
def EA:TT:=fun _ H Q=>Q true H
theorem bF{X:Cx}:zD X [] EA:=fun _ _ _ H _ I h=>wpAny_tests_nil ⟨H,I,h⟩
theorem bG{X:Cx}{c:Expr}{t:TT}(h:PT X c t):zD X [c] t:=fun pins s σ H Q I q=>wpAny_tests_one (h pins s σ H Q I q)
theorem VW{scope:Scope}{env:Env}{x:Str}{k:NameKind}(h:(relabel scope env).names.lookup x=some k):∃k0,scope.names.lookup x=some k0/\(k=k0∨(k0=.free/\k=.cell)):=by
 have go:∀ns:List (Str×NameKind),(ns.map fun(n,k)=>if (k==NameKind.free&&env.scope.kind==.function&&env.kindOf n==some .cell)then(n,NameKind.cell)else(n,k)).lookup x=some k->
   ∃k0,ns.lookup x=some k0/\(k=k0∨(k0=.free/\k=.cell)):=by
  intro ns
  induction ns with
  | nil=>intro q; simp at q
  | cons p r ih=>
   obtain⟨n,k1⟩:=p
   intro q
   have q:List.lookup x ((if (k1==NameKind.free&&env.scope.kind==.function&&env.kindOf n==some .cell)=true then(n,NameKind.cell)else(n,k1))::(r.map fun(n,k)=>if (k==NameKind.free&&env.scope.kind==.function&&env.kindOf n==some .cell)then(n,NameKind.cell)else(n,k)))=some k:=q
   by_cases hc:(k1==NameKind.free&&env.scope.kind==.function&&env.kindOf n==some .cell)=true
   ·rw[if_pos hc,List.lookup_cons]at q
    rw[List.lookup_cons]
    cases hx:(x==n)with
    | true=>
     rw[hx]at q
     have e:NameKind.cell=k:=by simpa using q
     refine⟨k1,rfl,.inr ⟨?_,e.symm⟩⟩
     simp only[Bool.and_eq_true]at hc
     simpa using hc.1.1
    | false=>rw[hx]at q; exact ih q
   ·rw[if_neg hc,List.lookup_cons]at q
    rw[List.lookup_cons]
    cases hx:(x==n)with
    | true=>
     rw[hx]at q
     have e:k1=k:=by simpa using q
     exact⟨k1,rfl,.inl e.symm⟩
    | false=>rw[hx]at q; exact ih q
 exact go scope.names h
def kP(k:Nat)(J:It)(σ0:St)(g:TG)(tc:TT)(te:TE)(Qv:VK)(W:Nat->Nat->List V->Hp->Prop):Prop:=∀i m vs H,W i m vs H->
  (J.stop i H/\vs.length<=sizeLine/\∀D,H D=none->Qv (.ref D) (upd H D (.lst vs)))∨
  (J.go i H/\vs.length < sizeLine/\∃N:List V->Hp->Prop,(∀vs' H',N vs' H'->∃m',m' < m/\W (i+1) m' vs' H')/\
   ∀x H',J.yld i H x H'->g x σ0 H' fun σ2 H2=>σ2.drop k=σ0.drop k/\tc σ2 H2 fun b H3=>if b=true then te σ2 H3 fun y H4=>N (vs++[y]) H4 else N vs H3)
section
variable {X:Cx} {elt tg iter:Expr} {ifs:List Expr} {scope:Scope} {pos:Pos} {own:List Str} {caps:List (Str×Nat)} {g:TG} {tc:TT} {te:TE} {pins:List (Addr×Obj)} {σ:St} {H:Hp} {s2:Shared} {J:It} {fp:List Addr} {it:Addr} {tn:Nat->Heap->Prop} {Qv:VK}
theorem bH(hcell:∀y∈scope.names,y.2≠.cell)(hkind:scope.kind=.function)
  (hfr:∀y∈scope.names,y.2=.free->X.env.kindOf y.1=some .cell∨X.env.kindOf y.1=some .free)
  (I:Inv X pins σ H s2) {ex':List Addr} (hf:∀b∈ex',b < s2.heap.objs.size/\Jt X pins H b):(X.comp (cN own caps) scope s2 H ex').Ok:=by
 have cin:∀x c,(Y6 X.env scope.names []).lookup x=some c->X.env.cells.lookup x=some c:=gP fun _ _ e=>by simp at e
 refine⟨I.ok.mod,hkind,I.ok.glob,I.ok.blt,wPa _,fun x y c h1 h2=>I.ok.inj x y c (cin x c h1) (cin y c h2),fun x hx=>?_,fun _ _ z=>(by cases z),I.ok.hd,I.ok.frames,.inl rfl,fun b hb=>⟨wTa (hf b hb).1,fun x c h=>(hf b hb).2.2.2.2.2.1 x c (cin x c h)⟩,
  I.bs,wSa I.ok.bsz I.sz,fun b o e hb=>?_,fun b hb hs=>?_,I.stack,I.stkFree⟩
 ·have q:∃k,(relabel scope X.env).names.lookup x=some k/\(k=.cell∨k=.free):=by
   rcases hx with hx | hx
   ·exact⟨_,hx,.inl rfl⟩
   ·exact⟨_,hx,.inr rfl⟩
  obtain⟨k,q,hk⟩:=q
  obtain⟨k0,q0,hk0⟩:=VW q
  have m0:=PySem.mem_of_lookup q0
  have e0:k0=.free:=by
   rcases hk0 with e | e
   ·rcases hk with z | z
    ·exact vDa (e.symm.trans z) (hcell _ m0)
    ·exact e.symm.trans z
   ·exact e.1
  subst e0
  exact Uj m0 (I.ok.has x (hfr _ m0 rfl))
 ·rcases(hf b hb).2.2.2.2.1 with z | z
  ·exact I.ok.noex b o e z
  ·exact vDa (Nat.lt_of_lt_of_le (wLa e) (wSa I.ok.bsz z)) (wUa _)
 ·rcases List.mem_cons.mp (I.stkSub b hs)with z | z
  ·exact(hf b hb).2.2.1 z
  ·exact(hf b hb).2.2.2.1 z
theorem WT(hcell:∀y∈scope.names,y.2≠.cell)(hkind:scope.kind=.function)
  (hfr:∀y∈scope.names,y.2=.free->X.env.kindOf y.1=some .cell∨X.env.kindOf y.1=some .free) (hcap:Caps X scope caps)
  (I:Inv X pins σ H s2) {ex':List Addr} (hf:∀b∈ex',b < s2.heap.objs.size/\Jt X pins H b) {h1:Heap} {t:Nat} {m:Str->Option Value} (hn:h1.Ns s2.heap.objs.size m) (hk:∀b o,s2.heap.get? b=some o->h1.get? b=some o):
  Inv (X.comp (cN own caps) scope s2 H ex') [] (ZO own caps σ) H { s2 with heap:=h1,toks:=t }:=by
 have cin:∀x c,(Y6 X.env scope.names []).lookup x=some c->X.env.cells.lookup x=some c:=gP fun _ _ e=>by simp at e
 have ok:=bH (own:=own) (caps:=caps) hcell hkind hfr I hf
 refine⟨ok,rfl,I.bare,Un.kept hk,⟨m,hn,fun i x v e1 e2 e3=>?_⟩,fun x c e=>?_,I.hok.fresh (wPa _),fun x c e=>I.freeC x c (cin x c e),fun p hp=>vDa (show p∈([]:List (Addr×Obj)) from hp) (by simp),I.hok.kept hk,by simp[Cx.comp,cN,ZO]⟩
 ·by_cases hi:i < own.length
  ·have e2:(own.map (fun _=>(none:Option V))++caps.map fun p=>(σ[p.2]?).join)[i]?=some (some v):=e2
   rw[List.getElem?_append_left (by simpa using hi),List.getElem?_map]at e2
   cases q:own[i]? with
   | none=>rw[q]at e2; cases e2
   | some _=>rw[q]at e2; cases e2
  ·have e2:(own.map (fun _=>(none:Option V))++caps.map fun p=>(σ[p.2]?).join)[i]?=some (some v):=e2
   have e1:(own++caps.map (·.1))[i]?=some x:=e1
   rw[List.getElem?_append_right (by simpa using hi),List.getElem?_map]at e2
   rw[List.getElem?_append_right (by simpa using hi),List.getElem?_map]at e1
   rw[List.length_map]at e2
   cases q:caps[i - own.length]? with
   | none=>rw[q]at e1; cases e1
   | some p=>
    obtain⟨y,j⟩:=p
    rw[q]at e1 e2
    have e1:y=x:=vFa e1
    subst e1
    have e2:(σ[j]?).join=some v:=vFa e2
    obtain⟨a1,a2,a3⟩:=hcap.get q
    have sj:σ[j]?=some (some v):=by
     cases z:σ[j]? with
     | none=>rw[z]at e2; cases e2
     | some z'=>rw[z]at e2; exact congrArg some e2
    obtain⟨m0,hn0,hl0⟩:=I.loc
    have vis:kD X.env.scope y:=by
     rcases a2 with z | z
     ·exact .inr (.inl z)
     ·exact .inr (.inr z)
    obtain⟨u,r,l⟩:=hl0 j y v a1 sj vis
    refine⟨u,r,.inr ⟨?_,?_⟩⟩
    ·rcases e3 with z | z
     ·obtain⟨k0,q0,hk0⟩:=VW z
      rw[a3]at q0
      cases q0
      rcases hk0 with z' | z'
      ·cases z'
      ·cases z'.2
     ·exact z
    ·rcases l with⟨hk',_⟩ | ⟨_,c,hc,z⟩
     ·rcases a2 with z | z <;> rw[hk']at z <;> cases z
     ·obtain⟨c',hc'⟩:=Uj (cs:=[]) (PySem.mem_of_lookup a3) ⟨c,hc⟩
      have:=cin y c' hc'
      rw[hc]at this
      cases this
      obtain⟨o,ho,hd⟩:=z
      exact⟨c,hc',o,hk c o ho,hd⟩
 ·obtain⟨v,o,ho,hd⟩:=I.cell x c (cin x c e)
  exact⟨v,o,hk c o ho,hd⟩
end
end L2
namespace L2
open PySem PySem.Spec PyProof.Rows
section
variable {X:Cx} {elt tg iter:Expr} {ifs:List Expr} {scope:Scope} {pos:Pos} {own:List Str} {caps:List (Str×Nat)} {g:TG} {tc:TT} {te:TE} {pins:List (Addr×Obj)} {σ:St} {H:Hp} {s2:Shared} {J:It} {fp:List Addr} {it:Addr} {tn:Nat->Heap->Prop} {Qv:VK}
theorem JY.adopt{P:Program}{w:World}{H:Hp}{h:Heap}{D:Addr}{vs:List V}{ys:List Value}{k:Nat}(x:JY P w H h)(hn:H D=none)(hl:vs.length<=sizeLine)(r:je vs ys)(e:h.get? D=some { cls:=.type "list",data:=.seq ys.toArray k }):JY P w (upd H D (.lst vs)) h:=fun b u q=>by
 by_cases hb:b=D
 ·subst hb
  rw[J2]at q
  cases q
  exact⟨hl,ys,k,r,e⟩
 ·rw[jl hb]at q
  exact(x b u q).stay (fun _ _ _ z=>z) (fun c z=>by rw[jl (jy z hn)]; exact z) fun c xs z=>by rw[jl (jy z hn)]; exact z
theorem Qc{N':List Str}{σ':St}{H':Hp}{s':Shared}{D:Addr}{vs:List V}{ys:List Value}{k:Nat}(I:Inv X pins σ H s2)(hD:D < s2.heap.objs.size)(fD:Jt X pins H D)(hf:∀b∈fp,Jt X pins H b)
  (J':Inv (X.comp N' scope s2 H (D::fp)) [] σ' H' s') (hn:H' D=none) (hl:vs.length<=sizeLine) (r:je vs ys) (e:s'.heap.get? D=some { cls:=.type "list",data:=.seq ys.toArray k }):
  Inv X pins σ (upd H' D (.lst vs)) s':=by
 have u:Un (Jd X.stack) (D::fp) H H' s2.heap s'.heap:=J'.base
 have nD:∀b,b∉D::fp->b≠D:=fun b hb z=>hb (by rw[z]; exact wNa)
 refine I.call' (ch:=D::fp) J'.os ⟨u.keep,u.slot,fun b o q n hx=>?_,u.there,fun b xs q=>?_,fun b o v q=>?_,fun b ps q=>?_⟩ (J'.hok.adopt hn hl r e) J'.bare fun b hb=>?_
 ·rw[jl (nD b hx)]; exact u.free b o q n hx
 ·rw[jl (jy q fD.1)]; exact u.tups b xs q
 ·rw[jl (jy q fD.1)]; exact u.frzs b o v q
 ·rw[jl (jy q fD.1)]; exact u.tbls b ps q
 ·have F:Jt X pins H b:=by
   rcases List.mem_cons.mp hb with z | z
   ·rw[z]; exact fD
   ·exact hf b z
  exact⟨F.2.2.2.1,F.2.1,F.2.2.2.2.1,F.2.2.2.2.2⟩
theorem bI{C:Addr}{D:Addr}{W:Nat->Nat->List V->Hp->Prop}(hc:X.calm=true)
  (hg:∀s3 H3 ex',PG (X.comp (cN own caps) scope s3 H3 ex') tg g) (ht:∀s3 H3 ex',zD (X.comp (cN own caps) scope s3 H3 ex') ifs tc) (he:∀s3 H3 ex',PE (X.comp (cN own caps) scope s3 H3 ex') elt te)
  (I:Inv X pins σ H s2) (hD:D < s2.heap.objs.size) (fD:Jt X pins H D) (nDf:D∉fp) (hfl:∀b∈fp,b < s2.heap.objs.size) (hf:∀b∈fp,Jt X pins H b) (T:Turn X.prog X.w X.K tg J fp it tn) (turn:kP own.length J (ZO own caps σ) g tc te Qv W)
  (R:Result->Shared->Prop) (hR:∀s',(∃H' m,Inv X pins σ H' s'/\s'.heap.Ns s2.heap.objs.size m/\Jt X pins H' s2.heap.objs.size/\Qv (.ref D) H')->R (.ok .next) s')
  (n:Nat) (s4:Shared) (st:∃i vs H' ys k,Inv (X.comp (cN own caps) scope s2 H (D::fp)) [] (ZO own caps σ) H' s4/\tn i s4.heap/\(∀b∈fp,H' b=none)/\H' D=none/\
   s4.heap.get? D=some { cls:=.type "list",data:=.seq (ys:List Value).toArray k }/\je vs ys/\W i n vs H'):
  codeAny (model X.prog X.w) X.A (.compLoop (.ListComp elt [⟨tg,iter,ifs,0⟩] scope pos) 0 (.ref it) (.ref D) (X.comp (cN own caps) scope s2 H (D::fp)).env) R s4:=by
 let Y:=X.comp (cN own caps) scope s2 H (D::fp)
 have stat:∀{H':Hp},H' D=none->(∀b∈fp,H' b=none)->∀s':Shared,∀σ',Inv Y [] σ' H' s'->∀b∈D::fp,Jt Y [] H' b:=fun {H'} h0 h1 s' σ' I' b hb=>by
  have hb':b < s2.heap.objs.size:=by
   rcases List.mem_cons.mp hb with z | z
   ·rw[z]; exact hD
   ·exact hfl b z
  refine⟨?_,wTa hb',I'.ok.exfs b hb,.inl hb,(I'.ok.exf b hb).2,fun p hp=>vDa (show p∈([]:List (Addr×Obj)) from hp) (by simp)⟩
  rcases List.mem_cons.mp hb with z | z
  ·rw[z]; exact h0
  ·exact h1 b z
 refine codeAny_loop rfl (fun n s'=>∃i vs H' ys k,Inv Y [] (ZO own caps σ) H' s'/\tn i s'.heap/\(∀b∈fp,H' b=none)/\H' D=none/\
   s'.heap.get? D=some { cls:=.type "list",data:=.seq (ys:List Value).toArray k }/\je vs ys/\W i n vs H') ?_ n st
 rintro n s3 ⟨i,vs,H3,ys,k,I3,U6,fr3,n3,g3,r3,w3⟩
 show wpAny _ _ ((compTurn (.ListComp elt [⟨tg,iter,ifs,0⟩] scope pos) 0 (.ref it) (.ref D) Y.env).onRaise (fun x=>do noteFrame x Y.env; theTreesLotGoes x)) _ _ s3
 refine wpAny_noted ?_
 rw[compTurn_list]
 have F0:=stat n3 fr3 s3 _ I3
 have pinD:∀{σ':St} {H':Hp} {s':Shared} {ps:List (Addr×Obj)} {zs:List Value} {kk:Nat},Inv Y ps σ' H' s'->H' D=none->s'.heap.get? D=some { cls:=.type "list",data:=.seq zs.toArray kk }->Inv Y (ps++[(D,{ cls:=.type "list",data:=.seq zs.toArray kk })]) σ' H' s':=fun {σ' H' s' ps zs kk} I' hn hg'=>
  I'.pins_of fun p hp=>(List.mem_append.mp hp).elim (fun z=>I'.pin p (vJa _ z)) fun z=>by
   have e:p=(D,{ cls:=.type "list",data:=.seq zs.toArray kk }):=by simpa using z
   subst e
   have f:=(stat n3 fr3 s3 _ I3) D wNa
   exact⟨hg',hn,f.2.1,f.2.2.1,fun v z=>by cases z⟩
 have I3p:=pinD I3 n3 g3
 have F3:∀b∈fp,Jt Y ([]++[(D,{ cls:=.type "list",data:=.seq ys.toArray k })]) H3 b:=fun b hb=>by
  obtain⟨f0,f1,f2,f3,f4,f5⟩:=F0 b (wMa _ hb)
  refine⟨f0,f1,f2,f3,f4,fun p hp z=>?_⟩
  have e:p=(D,{ cls:=.type "list",data:=.seq ys.toArray k }):=by simpa[Y,Cx.comp]using hp
  subst e
  exact nDf (by rw[show D=b from z]; exact hb)
 rcases turn i n vs H3 w3 with⟨stop,hl,q⟩ | ⟨go,hl,N,hN,step⟩
 ·refine wAa (vOa (wAa (wCa (T.done Y rfl rfl rfl hc i _ s3 _ H3 (fun _ _=>False) I3p F3 U6 stop) (fun r s5 h5=>?_) fun _ _ z=>z.elim)))
  obtain⟨hr,I5p⟩:=h5
  subst hr
  refine wBa (hR s5 ?_)
  have g5:s5.heap.get? D=some { cls:=.type "list",data:=.seq ys.toArray k }:=(I5p.pin (D,_) (by simp)).1
  have I5:Inv Y [] (ZO own caps σ) H3 s5:=I5p.unpinned (pins:=[])
  obtain⟨m5,hm5,_⟩:=id I5.loc
  refine⟨_,m5,Qc I hD fD hf I5 n3 hl r3 g5,hm5,I.fpOk (wPa _) ?_,q D n3⟩
  rw[jl (Nat.ne_of_gt hD)]
  exact I5.free
 ·refine wAa (vOa (wAa (wCa (T.item Y rfl rfl rfl hc i _ s3 _ H3 (fun _ _=>False) I3p F3 U6 go) (fun r s5 h5=>?_) fun _ _ z=>z.elim)))
  obtain⟨u,hr,h5⟩:=h5
  subst hr
  refine wAa (wCa h5 (fun _ s6 h6=>?_) fun _ _ z=>z.elim)
  obtain⟨x,H6,I6,r6,y6,gw,fr6⟩:=h6
  have F6:∀b∈fp,Jt Y ([]++[(D,{ cls:=.type "list",data:=.seq ys.toArray k })]) H6 b:=fun b hb=>⟨fr6 b hb,(F3 b hb).2⟩
  have I6':=I6.pinned F6 (T.obj _ _ gw)
  refine wAa (wCa (hg s2 H (D::fp) _ s6 _ H6 x u _ I6' r6 (step x H6 y6)) (fun _ s7 h7=>?_) fun _ _ z=>z.elim)
  obtain⟨σ7,H7,I7,d7,q7⟩:=h7
  refine wAa (wCa (ht s2 H (D::fp) _ s7 σ7 H7 _ I7 q7) (fun b s8 h8=>?_) fun _ _ z=>z.elim)
  obtain⟨H8,I8,q8⟩:=h8
  have fin:∀{s9:Shared} {H9:Hp} {vs':List V} {zs:List Value} {kk:Nat},Inv Y [] σ7 H9 s9->tn (i+1) s9.heap->(∀b∈fp,H9 b=none)->H9 D=none->s9.heap.get? D=some { cls:=.type "list",data:=.seq zs.toArray kk }->je vs' zs->N vs' H9->
    ∃m,m < n/\∃i vs H' ys k,Inv Y [] (ZO own caps σ) H' s9/\tn i s9.heap/\(∀b∈fp,H' b=none)/\H' D=none/\s9.heap.get? D=some { cls:=.type "list",data:=.seq (ys:List Value).toArray k }/\je vs ys/\W i m vs H':=fun {s9 H9 vs' zs kk} I9 st9 fr9 n9 g9 r9 w9=>by
   obtain⟨m',hm,w'⟩:=hN vs' H9 w9
   refine⟨m',hm,i+1,vs',H9,zs,kk,?_,st9,fr9,n9,g9,r9,w'⟩
   have l9:σ7.length=(ZO own caps σ).length:=I9.len.trans (by simp[Y,Cx.comp,cN,ZO])
   refine I9.weak l9.symm fun j v e=>?_
   by_cases hj:j < own.length
   ·rw[List.getElem?_append_left (by simpa using hj),List.getElem?_map]at e
    cases q:own[j]? with
    | none=>rw[q]at e; cases e
    | some _=>rw[q]at e; cases e
   ·have z:=congrArg (fun l=>l[j - own.length]?) d7
    simp only[List.getElem?_drop]at z
    have ej:own.length+(j - own.length)=j:=by omega
    rw[ej]at z
    exact z.trans e
  have pins8:∀{s9:Shared} {H9:Hp},Inv Y ([]++[(D,{ cls:=.type "list",data:=.seq ys.toArray k })]++VP fp s6.heap) σ7 H9 s9->tn (i+1) s9.heap/\(∀b∈fp,H9 b=none)/\H9 D=none/\s9.heap.get? D=some { cls:=.type "list",data:=.seq ys.toArray k }:=fun {s9 H9} I9=>by
   refine⟨T.keep _ _ _ gw fun b hb o e=>(I9.pin (b,o) (vJa _ (vJa _ (zY hb e)))).1,fun b hb=>?_,(I9.pin (D,{ cls:=.type "list",data:=.seq ys.toArray k }) (vJa _ (vIa _ (by simp)))).2.1,(I9.pin (D,{ cls:=.type "list",data:=.seq ys.toArray k }) (vJa _ (vIa _ (by simp)))).1⟩
   obtain⟨o,e,d⟩:=T.obj _ _ gw b hb
   exact(I9.pin (b,o) (vJa _ (vJa _ (zY hb e)))).2.1
  cases b with
  | false=>
   obtain⟨a1,a2,a3,a4⟩:=pins8 I8
   exact wBa ⟨rfl,fin (I8.unpinned.unpinned) a1 a2 a3 a4 r3 q8⟩
  | true=>
   refine wAa (wAa (wCa (he s2 H (D::fp) _ s8 σ7 H8 _ I8 q8) (fun y s9 h9=>?_) fun _ _ z=>z.elim))
   obtain⟨v9,H9,I9,r9,q9⟩:=h9
   obtain⟨a1,a2,a3,a4⟩:=pins8 I9
   have hlz:ys.toArray.size<=sizeLine:=by
    have:=r3.length
    simp only[List.size_toArray]
    omega
   refine wAa (wpAny_list_append_plain (hsz:=hlz) ⟨k,a4⟩ fun h' hp sb=>wBa (wBa ⟨rfl,?_⟩))
   obtain⟨k',g'⟩:=hp
   have I9':Inv Y [] σ7 H9 s9:=I9.unpinned.unpinned
   have F9:=stat a3 a2 s9 _ I9' D wNa
   obtain⟨f0,f1,f2,f3,f4,f5⟩:=F9
   have I10:Inv Y [] σ7 H9 { s9 with heap:=h' }:=I9'.turned (t':=s9.toks) (fun b o hb e=>(sb.2 b hb).trans e) f0 f1 f3 f4 f5
   refine fin (zs:=ys++[y]) (kk:=k') I10 (T.keep _ _ _ a1 fun b hb o e=>(sb.2 b fun z=>nDf (by rw[<-z]; exact hb)).trans e) a2 a3 ?_ (r3.append (.cons r9 .nil)) q9
   rw[g']
   simp
end
end L2
namespace L2
open PySem PySem.Spec PyProof.Rows
structure CScope (X:Cx) (scope:Scope):Prop where
 kind:scope.kind=.function
 loc:(scope.names.all fun y=>y.2 != .local||scope.names.lookup y.1==some .local)=true
 nocell:(scope.names.all fun y=>y.2 != .cell)=true
 free:(scope.names.all fun y=>y.2 != .free||X.env.scope.names.lookup y.1==some .cell||X.env.scope.names.lookup y.1==some .free)=true
section
variable {X:Cx} {elt tg iter:Expr} {ifs:List Expr} {scope:Scope} {pos:Pos} {own:List Str} {caps:List (Str×Nat)} {g:TG} {tc:TT} {te:TE} {pins:List (Addr×Obj)} {σ:St} {H:Hp} {s2:Shared} {J:It} {fp:List Addr} {it:Addr} {tn:Nat->Heap->Prop} {Qv:VK}
theorem CScope.l(S:CScope X scope):∀x∈scope.names,x.2=.local->scope.names.lookup x.1=some .local:=fun x hx e=>by
 have:=List.all_eq_true.mp S.loc x hx
 rw[e]at this
 simpa using this
theorem CScope.c(S:CScope X scope):∀x∈scope.names,x.2≠.cell:=fun x hx e=>by
 have:=List.all_eq_true.mp S.nocell x hx
 rw[e]at this
 simp at this
theorem CScope.f(S:CScope X scope):∀y∈scope.names,y.2=.free->X.env.kindOf y.1=some .cell∨X.env.kindOf y.1=some .free:=fun x hx e=>by
 have:=List.all_eq_true.mp S.free x hx
 rw[e]at this
 simpa[Env.kindOf]using this
theorem wW{E:Value->Shared->Prop}{RR:Value->Addr->Result->Shared->Prop}(S:CScope X scope)(hcap:Caps X scope caps)(hc:X.calm=true)
  (hg:∀s3 H3 ex',PG (X.comp (cN own caps) scope s3 H3 ex') tg g) (ht:∀s3 H3 ex',zD (X.comp (cN own caps) scope s3 H3 ex') ifs tc) (he:∀s3 H3 ex',PE (X.comp (cN own caps) scope s3 H3 ex') elt te)
  (I:Inv X pins σ H s2) (T:Turn X.prog X.w X.K tg J fp it tn) (st:tn 0 s2.heap) (hf:∀b∈fp,Jt X pins H b)
  (w:∃W,(∃m,W 0 m [] H)/\kP own.length J (ZO own caps σ) g tc te Qv W)
  (hRR:∀D C s' H' m,Inv X pins σ H' s'->s'.heap.Ns C m->Jt X pins H' C->Qv (.ref D) H'->RR (.ref D) C (.ok .next) s'):
  wpAny (model X.prog X.w) X.A (newList []) (fun acc s3=>wpAny (model X.prog X.w) X.A (newFunctionEnv scope X.env.globals (Y6 X.env scope.names []) [] X.env.qual none .none (some X.env)) (fun cenv s4=>
   codeAny (model X.prog X.w) X.A (.compStart (.ListComp elt [⟨tg,iter,ifs,0⟩] scope pos) 0 (.ref it) acc { cenv with scope:=relabel scope X.env }) (RR acc cenv.locals) s4) E s3) E s2:=by
 obtain⟨W,⟨m0,w0⟩,turn⟩:=w
 refine vTa (wpAny_newFunctionEnv S.c (by intro y hy; simp at hy) (fun h1 hns hsb=>?_) S.kind)
 have hlt:∀b∈fp,b < s2.heap.objs.size:=fun b hb=>by
  obtain⟨o,e,_⟩:=T.obj _ _ st b hb
  exact wLa e
 let s3:Shared:={ s2 with heap:=s2.heap.push { cls:=.type "list",dict:=none,data:=.seq ([]:List Value).toArray } }
 have e3:s3.heap.objs.size=s2.heap.objs.size+1:=Heap.size_push ..
 have I3:Inv X pins σ H s3:=I.kept (t':=s2.toks) fun b o e=>wIa _ e
 have fD:Jt X pins H s2.heap.objs.size:=I.fpOk (wPa _) (I.hok.fresh (wPa _))
 have hk:∀b o,s3.heap.get? b=some o->h1.get? b=some o:=fun b o e=>hsb.extBut b o (wTa (wLa e)) (wIa _ e)
 have hD:s2.heap.objs.size < s3.heap.objs.size:=by rw[e3]; exact Nat.lt_succ_self _
 have hl3:∀b∈fp,b < s3.heap.objs.size:=fun b hb=>Nat.lt_trans (hlt b hb) hD
 have I4:Inv (X.comp (cN own caps) scope s3 H (s2.heap.objs.size::fp)) [] (ZO own caps σ) H { s3 with heap:=h1,toks:=s2.toks+([]:List (Str×Value)).length }:=by
  refine WT S.c S.kind S.f hcap I3 (fun b hb=>?_) hns hk
  rcases List.mem_cons.mp hb with z | z
  ·rw[z]; exact⟨hD,fD⟩
  ·exact⟨hl3 b z,hf b z⟩
 have wo:tn 0 h1:=T.keep _ _ _ st fun b hb o e=>hk b o (wIa _ e)
 have g4:h1.get? s2.heap.objs.size=some { cls:=.type "list",data:=.seq ([]:List Value).toArray }:=hk _ _ (wJa _ rfl)
 have loop:=bI (C:=0) (iter:=iter) (pos:=pos) hc hg ht he I3 hD fD (fun z=>wUa _ (hlt _ z)) hl3 hf T turn (RR (.ref s2.heap.objs.size) s3.heap.objs.size) (fun s' ⟨H',m,a1,a2,a3,a4⟩=>hRR _ _ s' H' m a1 a2 a3 a4) m0
  { s3 with heap:=h1,toks:=s2.toks+([]:List (Str×Value)).length } ⟨0,[],H,[],0,I4,wo,fun b hb=>(hf b hb).1,fD.1,g4,.nil,w0⟩
 exact codeAny_compStart_list loop (T.self _ 0 _ _ _ wo loop)
def Ch(own:List Str)(caps:List (Str×Nat))(wi:TI)(g:TG)(tc:TT)(te:TE):TE:=fun σ H Q=>wi σ H fun J H1=>∃W,(∃m,W 0 m [] H1)/\kP own.length J (ZO own caps σ) g tc te Q W
theorem EB{wi:TI}(own:List Str)(caps:List (Str×Nat))(S:CScope X scope)(hcap:Caps X scope caps)(hc:X.calm=true)(hi:PI X tg iter wi)
  (hg:∀s3 H3 ex',PG (X.comp (cN own caps) scope s3 H3 ex') tg g) (ht:∀s3 H3 ex',zD (X.comp (cN own caps) scope s3 H3 ex') ifs tc) (he:∀s3 H3 ex',PE (X.comp (cN own caps) scope s3 H3 ex') elt te)
  (hs:∀x,foldedSetIterable iter X.env x=pure x:=by intro _; rfl):PE X (.ListComp elt [⟨tg,iter,ifs,0⟩] scope pos) (Ch own caps wi g tc te):=by
 intro pins s σ H Q I h
 rw[eval_ListComp]
 refine wpAny_comprehension_free (use:=none) rfl hs (wV fun y hy e=>I.ok.has y.1 (S.f y hy e)) S.kind S.l (jk (hi pins s σ H _ I h) fun xv s1 h1=>jk h1 fun itv s2 h2=>?_)
 obtain⟨it,fp,tn,J,H2,e,I2,T,st,f2,w⟩:=h2
 subst e
 refine wW (RR:=fun acc C=>compPost (model X.prog X.w) X.A X.xe none (EP X pins σ Q) acc C) S hcap hc hg ht he I2 T st f2 w ?_
 intro D C s' H' m I' hn hf' q
 refine⟨m,hn,fun h' sb=>⟨.ref D,H',?_,rfl,q⟩⟩
 obtain⟨f0,f1,f2,f3,f4,f5⟩:=hf'
 exact I'.turned (t':=s'.toks) (fun b o hb e=>(sb.2 b hb).trans e) f0 f1 f3 f4 f5
theorem kQ{wi:TI}(own:List Str)(caps:List (Str×Nat)){i:Nat}{x:Str}{pos' spos:Pos}(hN:X.N.Nodup)(hix:X.N[i]?=some x)(hx:VN X.env.scope x)(S:CScope X scope)(hcap:Caps X scope caps)(hc:X.calm=true)(hi:PI X tg iter wi)
  (hg:∀s3 H3 ex',PG (X.comp (cN own caps) scope s3 H3 ex') tg g) (ht:∀s3 H3 ex',zD (X.comp (cN own caps) scope s3 H3 ex') ifs tc) (he:∀s3 H3 ex',PE (X.comp (cN own caps) scope s3 H3 ex') elt te)
  (hs:∀x,foldedSetIterable iter X.env x=pure x:=by intro _; rfl)
  (hsw:swapsWith (.ListComp elt [⟨tg,iter,ifs,0⟩] scope pos) (some (.Name x pos')) spos.line X.env=pure true:=by rfl) (hf:X.fn x=true∨X.env.scope.names.lookup x=some .local:=by first | exact .inl rfl | exact .inr rfl | assumption):
  PS X (.Assign [.Name x pos'] (.ListComp elt [⟨tg,iter,ifs,0⟩] scope pos) spos) (zC (Ch own caps wi g tc te) (ZM i)):=by
 intro pins s σ H D I h
 rw[exec_Assign_Name_used _ _ _ _ hsw]
 refine wAa (vOa (wAa ?_))
 show wpAny _ _ (do let _<-comprehension (.ListComp elt [⟨tg,iter,ifs,0⟩] scope pos) scope X.env _ (newList []) false (eval iter X.env) (some (assign (.Name x pos') X.env))) _ _ s
 refine wAa (wCa (wpAny_comprehension_free (use:=some (assign (.Name x pos') X.env)) (Q:=fun _ s'=>SP X pins D .next s') rfl hs (wV fun y hy e=>I.ok.has y.1 (S.f y hy e)) S.kind S.l
  (jk (hi pins s σ H _ I h) fun xv s1 h1=>jk h1 fun itv s2 h2=>?_)) (fun _ s' hq=>wBa (wBa hq)) fun _ _ e=>e)
 obtain⟨it,fp,tn,J,H2,e,I2,T,st,f2,w⟩:=h2
 subst e
 refine wW (RR:=fun acc C=>compPost (model X.prog X.w) X.A X.xe (some (assign (.Name x pos') X.env)) (fun _ s'=>SP X pins D .next s') acc C) S hcap hc hg ht he I2 T st f2 w ?_
 intro A C s' H' m I' hn hf' q
 obtain⟨f0,f1,f2,f3,f4,f5⟩:=hf'
 show wpAny _ _ (assign (.Name x pos') X.env (.ref A)) _ _ _
 refine wpAny_assign_Name (Gw (v:=.ref A) I' hN hix hx rfl (fun s'' I'' hsb=>?_) hf)
 obtain⟨a,sb,ha⟩:=hsb
 have aC:C≠a:=by
  rcases ha with z | z
  ·rw[z]; exact f1
  ·exact fun e=>f4 x a z e.symm
 refine⟨m,hn.sameBut sb aC,fun h' sb'=>⟨_,H',?_,q⟩⟩
 exact I''.turned (t':=s''.toks) (fun b o hb e=>(sb'.2 b hb).trans e) f0 f1 f3 f4 f5
end
end L2
namespace L2
open PySem PySem.Spec PyProof.Rows
inductive Sk where
 | l | t
def Vv(K:PySem.W.Frag):Sk->Hp->Addr->List V->Prop
 | .l=>jt K
 | .t=>JB K
def jX:Sk->Heap->Addr->Array Value->Prop
 | .l,h,a,vs=>h.IsList a vs
 | .t,h,a,vs=>h.IsTuple a vs
def jZ:Sk->Heap->Addr->Addr->Nat->Prop
 | .l,h,it,a,i=>h.IsListIter it a i
 | .t,h,it,a,i=>h.IsTupleIter it a i
theorem jX.at{k:Sk}{h h':Heap}{a:Addr}{vs:Array Value}(x:jX k h a vs)(e:∀o,h.get? a=some o->h'.get? a=some o):jX k h' a vs:=by
 cases k
 ·exact Heap.IsList.at x e
 ·obtain⟨o,ho,r⟩:=x; exact⟨o,e o ho,r⟩
theorem jZ.at{k:Sk}{h h':Heap}{it a:Addr}{i:Nat}(x:jZ k h it a i)(e:∀o,h.get? it=some o->h'.get? it=some o):jZ k h' it a i:=by
 cases k <;> (obtain⟨o,ho,r⟩:=x; exact⟨o,e o ho,r⟩)
theorem jZ.obj{k:Sk}{h:Heap}{it a:Addr}{i:Nat}(x:jZ k h it a i):∃o,h.get? it=some o/\∀v,o.data≠.cell v:=by
 cases k <;> (obtain⟨o,ho,_,d⟩:=x; exact⟨o,ho,fun v z=>by rw[d]at z; cases z⟩)
theorem jX.lt{k:Sk}{h:Heap}{a:Addr}{vs:Array Value}(x:jX k h a vs):a < h.objs.size:=by
 cases k <;> (obtain⟨o,ho,_⟩:=x; exact wLa ho)
section
variable {prog:Program} {w:World} {A:Around} {E:Value->Shared->Prop} {s:Shared} {it a:Addr} {i:Nat} {its:Array Value} {x:Value}
theorem k7{Q:Value->Shared->Prop}(hi:s.heap.IsTupleIter it a i)(ht:s.heap.IsTuple a its)(hx:its[i]?=some x)
  (hQ:∀h',h'.IsTupleIter it a (i+1)->Heap.SameBut it s.heap h'->Q x { s with heap:=h' }):wpAny (model prog w) A (Builtin.SmallTypes.nextOf (.ref it)) Q E s:=by
 obtain⟨o,ho,hc,hd⟩:=id hi
 obtain⟨oa,hoa,_,na,hda⟩:=ht
 unfold Builtin.SmallTypes.nextOf
 refine wAa (wpAny_callSpecial?_slot (name:=Str.ofString "__next__") hi.typeIs F.slot_tuple_iterator_next (wpAny_call_entry F.slot_tuple_iterator_next hi.typeIs F.entry_tuple_iterator_next ?_ (F.args_tuple_iterator_next_1 _)))
 show wpAny _ _ (field (.ref it) 0 >>= _) _ _ s
 refine wAa (wpAny_field ho hd (x:=.ref a) rfl ?_)
 show wpAny _ _ (if (Value.ref a==Value.none)=true then _ else _) _ _ s
 have nn:¬((Value.ref a==Value.none)=true):=vNa
 rw[if_neg nn]
 show wpAny _ _ (field (.ref it) 1 >>= _) _ _ s
 refine wAa (wpAny_field ho hd (x:=.int i 0) rfl ?_)
 show wpAny _ _ (seqItems? (.ref a) >>= _) _ _ s
 refine wAa (wpAny_seqItems hoa hda ?_)
 simp only[Int.toNat_natCast,hx]
 refine wAa (wpAny_setField ho hd (by simp) (wBa ⟨x,rfl,wBa (hQ _ ⟨_,vUa _ ho (Obj.isFreed_of_fields (Obj.data_mapFields hd _)),(Obj.cls_mapFields ..).trans hc,?_⟩ (Heap.SameBut.update ..))⟩))
 rw[Obj.data_mapFields hd]
 simp[rawInt]
theorem kR{Q:Value->Shared->Prop}(hh:A.handled=none)(hi:s.heap.IsTupleIter it a i)(ht:s.heap.IsTuple a its)(hx:its[i]?=none)
  (hE:∀h' e,Heap.ExtBut it s.heap h'->(∃o,h'.get? e=some o/\o.cls=.type "StopIteration")->E (.ref e) { s with heap:=h' }):wpAny (model prog w) A (Builtin.SmallTypes.nextOf (.ref it)) Q E s:=by
 obtain⟨o,ho,hc,hd⟩:=id hi
 obtain⟨oa,hoa,_,na,hda⟩:=ht
 unfold Builtin.SmallTypes.nextOf
 refine wAa (wpAny_callSpecial?_slot (name:=Str.ofString "__next__") hi.typeIs F.slot_tuple_iterator_next (wpAny_call_entry F.slot_tuple_iterator_next hi.typeIs F.entry_tuple_iterator_next ?_ (F.args_tuple_iterator_next_1 _)))
 show wpAny _ _ (field (.ref it) 0 >>= _) _ _ s
 refine wAa (wpAny_field ho hd (x:=.ref a) rfl ?_)
 show wpAny _ _ (if (Value.ref a==Value.none)=true then _ else _) _ _ s
 have nn:¬((Value.ref a==Value.none)=true):=vNa
 rw[if_neg nn]
 show wpAny _ _ (field (.ref it) 1 >>= _) _ _ s
 refine wAa (wpAny_field ho hd (x:=.int i 0) rfl ?_)
 show wpAny _ _ (seqItems? (.ref a) >>= _) _ _ s
 refine wAa (wpAny_seqItems hoa hda ?_)
 simp only[Int.toNat_natCast,hx]
 refine wAa (wpAny_rule (wAa (wpAny_setField ho hd (by simp) ?_)))
 show wpAny _ _ (newExc (.type "StopIteration") [] >>= _) _ _ _
 refine wAa ?_
 simp only[newExc,newTuple]
 refine wAa (vTa ?_ (by size_fits))
 refine wAa (m:=firstArgMember _ _) (wpAny_of_eq (a:=Value.none) (by first | rfl | (simp only[firstArgMember]; rfl)) (vTa ?_ (by size_fits)))
 simp only[raiseNew]
 refine wAa (wpAny_handled ?_)
 first | rw[show A.in1.handled=none from hh] | rw[hh]
 exact wAa (wBa (wpAny_throw (hE _ _ (((Heap.SameBut.update ..).extBut.push _).push _) ⟨_,wJa _ rfl,rfl⟩)))
theorem VX{k:Sk}{Q:Value->Shared->Prop}(hi:jZ k s.heap it a i)(ht:jX k s.heap a its)(hx:its[i]?=some x)
  (hQ:∀h',jZ k h' it a (i+1)->Heap.SameBut it s.heap h'->Q x { s with heap:=h' }):wpAny (model prog w) A (Builtin.SmallTypes.nextOf (.ref it)) Q E s:=by
 cases k
 ·exact wpAny_nextOf_list_item hi ht hx hQ
 ·exact k7 hi ht hx hQ
theorem kT{k:Sk}{Q:Value->Shared->Prop}(hh:A.handled=none)(hi:jZ k s.heap it a i)(ht:jX k s.heap a its)(hx:its[i]?=none)
  (hE:∀h' e,Heap.ExtBut it s.heap h'->(∃o,h'.get? e=some o/\o.cls=.type "StopIteration")->E (.ref e) { s with heap:=h' }):wpAny (model prog w) A (Builtin.SmallTypes.nextOf (.ref it)) Q E s:=by
 cases k
 ·exact wpAny_nextOf_list_end hh hi ht hx hE
 ·exact kR hh hi ht hx hE
noncomputable def V1(k:Sk)(a:Addr):Obj:={ cls:=.type (match k with | .l => "list_iterator" | .t => "tuple_iterator"),data:=.fields #[.ref a,.int 0 0] }
theorem UQ{k:Sk}{h:Heap}{it a:Addr}(e:h.get? it=some (V1 k a)):jZ k h it a 0:=by
 cases k <;> exact⟨_,e,rfl,rfl⟩
theorem wX{k:Sk}{Q:Value->Shared->Prop}(ht:jX k s.heap a its)(hQ:Q (.ref s.heap.objs.size) { s with heap:=s.heap.push (V1 k a) }):wpAny (model prog w) A (pyIter (.ref a)) Q E s:=by
 cases k
 ·exact wpAny_pyIter_list ht hQ
 ·exact wpAny_pyIter_tuple ht hQ
end
abbrev aP(k:Sk)(h:Heap)(a:Addr):Heap:=h.push (V1 k a)
abbrev Qd(k j:Sk)(h:Heap)(a b:Addr):Heap:=(aP k h a).push (V1 j b)
abbrev aQ(k j:Sk)(h:Heap)(a b:Addr):Heap:=(Qd k j h a b).push { cls:=.type "tuple",data:=.seq #[.ref h.objs.size,.ref (aP k h a).objs.size] }
abbrev aR(k j:Sk)(h:Heap)(a b:Addr):Heap:=(aQ k j h a b).push { cls:=.type "tuple",data:=.seq #[.none,.none] }
abbrev kU(k j:Sk)(h:Heap)(a b:Addr):Heap:=(aR k j h a b).push { cls:=.type "zip",data:=.fields #[.none,.bool false,.bool false,.ref (Qd k j h a b).objs.size,.ref (aQ k j h a b).objs.size] }
theorem k8(k j:Sk)(a b:Addr)(xs ys:Array Value):
  Meets (Builtin.«zip.__new__» ⟨[.type "zip",.ref a,.ref b],[]⟩) (fun _ R s=>jX k s.heap a xs/\jX j s.heap b ys/\R (.ok (.ret (.ref (aR k j s.heap a b).objs.size))) { s with heap:=kU k j s.heap a b }):=
 .of_wp fun prog w A R s h=>by
  obtain⟨hp,g,d,tk,os⟩:=s
  obtain⟨ha,hb,h⟩:=h
  have hsub:=sub_zip
  have ha':jX k (Shared.heap ⟨hp,g,d,tk,os⟩) a xs:=ha
  have hb':jX j (Shared.heap ⟨hp.push (V1 k a),g,d,tk,os⟩) b ys:=hb.at fun o e=>wIa _ e
  wp_walk using wX ha',wX hb'
  exact⟨_,rfl,h⟩
section
variable {prog:Program} {w:World} {A:Around} {E:Value->Shared->Prop} {s:Shared}
theorem x_{k j:Sk}{a b:Addr}{xs ys:Array Value}{Q:Value->Shared->Prop}(ha:jX k s.heap a xs)(hb:jX j s.heap b ys)
  (h:∀h',IsZip h' (s.heap.objs.size+4) (s.heap.objs.size+2) (s.heap.objs.size+3) .none->IsPair h' (s.heap.objs.size+2) (.ref s.heap.objs.size) (.ref (s.heap.objs.size+1))->
   IsPair h' (s.heap.objs.size+3) .none .none->jZ k h' s.heap.objs.size a 0->jZ j h' (s.heap.objs.size+1) b 0->
   (∀c o,s.heap.get? c=some o->h'.get? c=some o)->Q (.ref (s.heap.objs.size+4)) { s with heap:=h' }):
  wpAny (model prog w) A (call (.type "zip") [.ref a,.ref b]) Q E s:=by
 refine callType_new F.called_zip (by decide) (F.typeCall_zip_2 _ _) (F.newCall_zip_2 _ _) (fun obj=>F.args_object_init_3 obj _ _) F.entry_zip_new (k8 k j a b xs ys) ⟨ha,hb,?_⟩
 have z1:(aP k s.heap a).objs.size=s.heap.objs.size+1:=Heap.size_push ..
 have z2:(Qd k j s.heap a b).objs.size=s.heap.objs.size+2:=by rw[Heap.size_push,z1]
 have z3:(aQ k j s.heap a b).objs.size=s.heap.objs.size+3:=by rw[Heap.size_push,z2]
 have z4:(aR k j s.heap a b).objs.size=s.heap.objs.size+4:=by rw[Heap.size_push,z3]
 have up:∀c o,(Qd k j s.heap a b).get? c=some o->(kU k j s.heap a b).get? c=some o:=fun c o e=>wIa _ (wIa _ (wIa _ e))
 have g5:(kU k j s.heap a b).get? (aR k j s.heap a b).objs.size=some _:=wJa _ rfl
 have g4:(kU k j s.heap a b).get? (aQ k j s.heap a b).objs.size=some _:=wIa _ (wJa _ rfl)
 have g3:(kU k j s.heap a b).get? (Qd k j s.heap a b).objs.size=some _:=wIa _ (wIa _ (wJa _ rfl))
 have g2:(kU k j s.heap a b).get? (aP k s.heap a).objs.size=some (V1 j b):=up _ _ (wJa _ rfl)
 have g1:(kU k j s.heap a b).get? s.heap.objs.size=some (V1 k a):=up _ _ (wIa _ (wJa _ rfl))
 show _/\_
 rw[z2,z3,z4]at g5
 rw[z1,z2]at g3
 rw[z3]at g4
 rw[z1]at g2
 rw[z4]
 exact⟨⟨_,g5,rfl⟩,h _ g5 g3 g4 (UQ g1) (UQ g2) fun c o x=>up c o (wIa _ (wIa _ x))⟩
variable {z TI TO i1 i2 a b:Addr} {k j:Sk} {n1 n2:Nat} {xs ys:Array Value} {x y:Value}
theorem X0{u v:Value}{Q:Value->Shared->Prop}(D:ZipApart z TI TO i1 i2 a b)(hz:IsZip s.heap z TI TO .none)(hTI:IsPair s.heap TI (.ref i1) (.ref i2))(hTO:IsPair s.heap TO u v)
  (h1:jZ k s.heap i1 a n1) (h2:jZ j s.heap i2 b n2) (ha:jX k s.heap a xs) (hb:jX j s.heap b ys) (hx:xs[n1]?=some x) (hy:ys[n2]?=some y)
  (hQ:∀h',IsZip h' z TI TO (rawInt s.heap.objs.size)->IsPair h' TO x y->jZ k h' i1 a (n1+1)->jZ j h' i2 b (n2+1)->IsPair h' s.heap.objs.size x y->
   (∀c o,c≠z->c≠TO->c≠i1->c≠i2->s.heap.get? c=some o->h'.get? c=some o)->Q (.ref s.heap.objs.size) { s with heap:=h' }):
  wpAny (model prog w) A (Builtin.«zip.__next__» ⟨[.ref z],[]⟩) (fun fin s'=>∃v,fin=.done (.ret v)/\Q v s') E s:=by
 show wpAny _ _ (field (.ref z) 2 >>= _) _ _ _
 refine wAa (wpAny_field hz rfl (x:=.bool false) rfl ?_)
 show wpAny _ _ (field (.ref z) 3 >>= _) _ _ _
 refine wAa (wpAny_field hz rfl (x:=.ref TI) rfl (wAa (wpAny_seqItems hTI rfl ?_)))
 show wpAny _ _ (Builtin.SmallTypes.ownedTupleIsFree (.ref z) >>= _) _ _ _
 refine wAa ?_
 unfold Builtin.SmallTypes.ownedTupleIsFree
 refine wAa (wpAny_field hz rfl (x:=.none) rfl (wBa ?_))
 simp only[if_true]
 refine wAa (wpAny_rule (wAa (wpAny_field hz rfl (x:=.ref TO) rfl (wAa (wpAny_setField_rec hz (by simp) fun g1 z1 s1=>?_)))))
 replace z1:IsZip g1 z TI TO .ellipsis:=z1
 refine wAa ?_
 simp only[List.zipIdx_cons,List.zipIdx_nil,List.forIn_cons,List.forIn_nil]
 have e1:∀c o,c≠z->s.heap.get? c=some o->g1.get? c=some o:=fun c o hc e=>s1.extBut c o hc e
 refine wAa (wAa (wpAny_onRaise ?_))
 show wpAny _ _ (Builtin.SmallTypes.nextOf (.ref i1) >>= _) _ _ _
 refine wAa (VX (h1.at fun o e=>e1 _ o D.i1z e) (ha.at fun o e=>e1 _ o D.l1z e) hx fun g2 it2 s2=>wBa ?_)
 have e2:∀c o,c≠z->c≠i1->s.heap.get? c=some o->g2.get? c=some o:=fun c o hc hd e=>s2.extBut c o hd (e1 c o hc e)
 have t2:IsPair g2 TO u v:=e2 _ _ D.TOz D.TOi1 hTO
 refine wAa (wpAny_seqItems t2 rfl (wAa (wpAny_updateSeq_pair t2 fun g3 t3 s3=>?_)))
 replace t3:IsPair g3 TO x v:=t3
 refine wAa (wFa (wBa (wAa (wAa (wpAny_onRaise ?_)))))
 have e3:∀c o,c≠z->c≠i1->c≠TO->s.heap.get? c=some o->g3.get? c=some o:=fun c o hc hd he e=>s3.extBut c o he (e2 c o hc hd e)
 show wpAny _ _ (Builtin.SmallTypes.nextOf (.ref i2) >>= _) _ _ _
 refine wAa (VX (h2.at fun o e=>e3 _ o D.i2z D.i12.symm D.TOi2.symm e) (hb.at fun o e=>e3 _ o D.l2z D.l2i1 D.l2TO e) hy fun g4 it4 s4=>wBa ?_)
 have t4:IsPair g4 TO x v:=s4.extBut _ _ D.TOi2 t3
 refine wAa (wpAny_seqItems t4 rfl (wAa (wpAny_updateSeq_pair t4 fun g5 t5 s5=>?_)))
 replace t5:IsPair g5 TO x y:=t5
 refine wAa (wFa (wBa (wBa (wAa (wpAny_seqItems t5 rfl (wAa (wpAny_newTuple ?_)))))))
 have sz:g5.objs.size=s.heap.objs.size:=by rw[s5.1,s4.1,s3.1,s2.1,s1.1]
 have z5:IsZip g5 z TI TO .ellipsis:=s5.extBut _ _ D.TOz.symm (s4.extBut _ _ D.i2z.symm (s3.extBut _ _ D.TOz.symm (s2.extBut _ _ D.i1z.symm z1)))
 have e5:∀c o,c≠z->c≠TO->c≠i1->c≠i2->s.heap.get? c=some o->g5.get? c=some o:=fun c o c1 c2 c3 c4 e=>s5.extBut _ _ c2 (s4.extBut _ _ c4 (e3 c o c1 c3 c2 e))
 have it5:jZ k g5 i1 a (n1+1):=((it2.at fun o e=>s3.extBut _ o D.TOi1.symm e).at fun o e=>s4.extBut _ o D.i12 e).at fun o e=>s5.extBut _ o D.TOi1.symm e
 have jt5:jZ j g5 i2 b (n2+1):=it4.at fun o e=>s5.extBut _ o D.TOi2.symm e
 have lz:z < g5.objs.size:=wLa z5
 show wpAny _ _ (Builtin.SmallTypes.ownedTupleHandOut (.ref z) (.ref g5.objs.size) >>= _) _ _ _
 refine wAa ?_
 unfold Builtin.SmallTypes.ownedTupleHandOut
 have z6:IsZip (g5.push { cls:=.type "tuple",data:=.seq #[x,y] }) z TI TO .ellipsis:=wIa _ z5
 refine wAa (wpAny_setField_rec z6 (by simp) fun g7 z7 s7=>?_)
 replace z7:IsZip g7 z TI TO (rawInt g5.objs.size):=z7
 refine wpAny_setField_rec z7 (by simp) fun g8 z8 s8=>?_
 replace z8:IsZip g8 z TI TO (rawInt g5.objs.size):=z8
 have up:∀c o,c≠z->g5.get? c=some o->g8.get? c=some o:=fun c o c1 e=>s8.extBut _ _ c1 (s7.extBut _ _ c1 (wIa _ e))
 have t8:IsPair g8 g5.objs.size x y:=s8.extBut _ _ (Nat.ne_of_gt lz) (s7.extBut _ _ (Nat.ne_of_gt lz) (wJa _ rfl))
 rw[sz]at z8 t8
 refine wBa ⟨_,rfl,?_⟩
 show Q (.ref g5.objs.size) _
 rw[sz]
 exact hQ g8 z8 (up _ _ D.TOz t5) (it5.at fun o e=>up _ o D.i1z e) (jt5.at fun o e=>up _ o D.i2z e) t8 fun c o c1 c2 c3 c4 e=>up c o c1 (e5 c o c1 c2 c3 c4 e)
theorem X1{u v:Value}{Q:Fin->Shared->Prop}(hh:A.handled=none)(D:ZipApart z TI TO i1 i2 a b)(hz:IsZip s.heap z TI TO .none)(hTI:IsPair s.heap TI (.ref i1) (.ref i2))(hTO:IsPair s.heap TO u v)
  (h1:jZ k s.heap i1 a n1) (h2:jZ j s.heap i2 b n2) (ha:jX k s.heap a xs) (hb:jX j s.heap b ys) (hend:xs[n1]?=none∨ys[n2]?=none)
  (hE:∀h' e,(∀c o,c≠z->c≠TO->c≠i1->c≠i2->s.heap.get? c=some o->h'.get? c=some o)->(∃o,h'.get? e=some o/\o.cls=.type "StopIteration")->E (.ref e) { s with heap:=h' }):
  wpAny (model prog w) A (Builtin.«zip.__next__» ⟨[.ref z],[]⟩) Q E s:=by
 show wpAny _ _ (field (.ref z) 2 >>= _) _ _ _
 refine wAa (wpAny_field hz rfl (x:=.bool false) rfl ?_)
 show wpAny _ _ (field (.ref z) 3 >>= _) _ _ _
 refine wAa (wpAny_field hz rfl (x:=.ref TI) rfl (wAa (wpAny_seqItems hTI rfl ?_)))
 show wpAny _ _ (Builtin.SmallTypes.ownedTupleIsFree (.ref z) >>= _) _ _ _
 refine wAa ?_
 unfold Builtin.SmallTypes.ownedTupleIsFree
 refine wAa (wpAny_field hz rfl (x:=.none) rfl (wBa ?_))
 simp only[if_true]
 refine wAa (wpAny_rule (wAa (wpAny_field hz rfl (x:=.ref TO) rfl (wAa (wpAny_setField_rec hz (by simp) fun g1 z1 s1=>?_)))))
 replace z1:IsZip g1 z TI TO .ellipsis:=z1
 refine wAa ?_
 simp only[List.zipIdx_cons,List.zipIdx_nil,List.forIn_cons,List.forIn_nil]
 have e1:∀c o,c≠z->s.heap.get? c=some o->g1.get? c=some o:=fun c o hc e=>s1.extBut c o hc e
 refine wAa (wAa (wpAny_onRaise ?_))
 show wpAny _ _ (Builtin.SmallTypes.nextOf (.ref i1) >>= _) _ _ _
 cases hx:xs[n1]? with
 | none=>
  refine wAa (kT hh (h1.at fun o e=>e1 _ o D.i1z e) (ha.at fun o e=>e1 _ o D.l1z e) hx fun g2 e s2 he=>?_)
  obtain⟨oe,hoe,hce⟩:=he
  have z2:IsZip g2 z TI TO .ellipsis:=s2 _ _ D.i1z.symm z1
  have ez:e≠z:=fun q=>by subst q; rw[z2]at hoe; cases hoe; simp at hce
  exact wpAny_setField_rec z2 (by simp) fun g3 _ s3=>hE g3 e (fun c o c1 _ c3 _ q=>s3.extBut _ _ c1 (s2 _ _ c3 (e1 _ _ c1 q))) ⟨oe,s3.extBut _ _ ez hoe,hce⟩
 | some x=>
  have hy:ys[n2]?=none:=by
   rcases hend with q | q
   ·rw[hx]at q; cases q
   ·exact q
  refine wAa (VX (h1.at fun o e=>e1 _ o D.i1z e) (ha.at fun o e=>e1 _ o D.l1z e) hx fun g2 it2 s2=>wBa ?_)
  have e2:∀c o,c≠z->c≠i1->s.heap.get? c=some o->g2.get? c=some o:=fun c o hc hd e=>s2.extBut c o hd (e1 c o hc e)
  have t2:IsPair g2 TO u v:=e2 _ _ D.TOz D.TOi1 hTO
  refine wAa (wpAny_seqItems t2 rfl (wAa (wpAny_updateSeq_pair t2 fun g3 t3 s3=>?_)))
  refine wAa (wFa (wBa (wAa (wAa (wpAny_onRaise ?_)))))
  have e3:∀c o,c≠z->c≠i1->c≠TO->s.heap.get? c=some o->g3.get? c=some o:=fun c o hc hd he e=>s3.extBut c o he (e2 c o hc hd e)
  show wpAny _ _ (Builtin.SmallTypes.nextOf (.ref i2) >>= _) _ _ _
  refine wAa (kT hh (h2.at fun o e=>e3 _ o D.i2z D.i12.symm D.TOi2.symm e) (hb.at fun o e=>e3 _ o D.l2z D.l2i1 D.l2TO e) hy fun g4 e s4 he=>?_)
  obtain⟨oe,hoe,hce⟩:=he
  have z4:IsZip g4 z TI TO .ellipsis:=s4 _ _ D.i2z.symm (s3.extBut _ _ D.TOz.symm (s2.extBut _ _ D.i1z.symm z1))
  have ez:e≠z:=fun q=>by subst q; rw[z4]at hoe; cases hoe; simp at hce
  exact wpAny_setField_rec z4 (by simp) fun g5 _ s5=>hE g5 e (fun c o c1 c2 c3 c4 q=>s5.extBut _ _ c1 (s4 _ _ c4 (e3 c o c1 c3 c2 q))) ⟨oe,s5.extBut _ _ ez hoe,hce⟩
theorem WU{u v:Value}{Q:Option Value->Shared->Prop}(D:ZipApart z TI TO i1 i2 a b)(hz:IsZip s.heap z TI TO .none)(hTI:IsPair s.heap TI (.ref i1) (.ref i2))(hTO:IsPair s.heap TO u v)
  (h1:jZ k s.heap i1 a n1) (h2:jZ j s.heap i2 b n2) (ha:jX k s.heap a xs) (hb:jX j s.heap b ys) (hx:xs[n1]?=some x) (hy:ys[n2]?=some y)
  (hQ:∀h',IsZip h' z TI TO (rawInt s.heap.objs.size)->IsPair h' TO x y->jZ k h' i1 a (n1+1)->jZ j h' i2 b (n2+1)->IsPair h' s.heap.objs.size x y->
   (∀c o,c≠z->c≠TO->c≠i1->c≠i2->s.heap.get? c=some o->h'.get? c=some o)->Q (some (.ref s.heap.objs.size)) { s with heap:=h' }):
  wpAny (model prog w) A (pyNext (.ref z)) Q E s:=by
 have hT:s.TypeIs (.ref z) "zip" := ⟨_,hz,rfl⟩
 unfold pyNext
 exact wAa (wpAny_attempt (wpAny_callSpecial?_slot (name:=Str.ofString "__next__") hT F.slot_zip_next (wpAny_call_entry F.slot_zip_next hT F.entry_zip_next
   (X0 D hz hTI hTO h1 h2 ha hb hx hy fun h' a1 a2 a3 a4 a5 a6=>wBa (hQ h' a1 a2 a3 a4 a5 a6)) (F.args_zip_next_1 _))))
theorem Qe{u v:Value}{Q:Option Value->Shared->Prop}(hh:A.handled=none)(D:ZipApart z TI TO i1 i2 a b)(hz:IsZip s.heap z TI TO .none)(hTI:IsPair s.heap TI (.ref i1) (.ref i2))(hTO:IsPair s.heap TO u v)
  (h1:jZ k s.heap i1 a n1) (h2:jZ j s.heap i2 b n2) (ha:jX k s.heap a xs) (hb:jX j s.heap b ys) (hend:xs[n1]?=none∨ys[n2]?=none)
  (hQ:∀h',(∀c o,c≠z->c≠TO->c≠i1->c≠i2->s.heap.get? c=some o->h'.get? c=some o)->Q none { s with heap:=h' }):wpAny (model prog w) A (pyNext (.ref z)) Q E s:=by
 have hT:s.TypeIs (.ref z) "zip" := ⟨_,hz,rfl⟩
 unfold pyNext
 refine wAa (wpAny_attempt (wpAny_callSpecial?_slot (name:=Str.ofString "__next__") hT F.slot_zip_next (wpAny_call_entry F.slot_zip_next hT F.entry_zip_next (X1 hh D hz hTI hTO h1 h2 ha hb hend fun h' e hk he=>?_) (F.args_zip_next_1 _))))
 obtain⟨o,ho,hc⟩:=he
 exact wAa (wpAny_isInstance (T := "StopIteration") (b:=true) ⟨o,ho,hc⟩ isSubtype_stop (wBa (hQ _ hk)))
end
end L2
namespace L2
open PySem PySem.Spec PyProof.Rows
section
variable {X:Cx} {pins:List (Addr×Obj)} {σ:St} {H:Hp} {s:Shared} {h':Heap}
theorem Inv.turnedL{t':Nat}{ch:List Addr}(I:Inv X pins σ H s)(hch:∀b∈ch,Jt X pins H b)(k:∀c o,c∉ch->s.heap.get? c=some o->h'.get? c=some o):Inv X pins σ H { s with heap:=h',toks:=t' }:=by
 have nit:∀b u,H b=some u->b∉ch:=fun b u e z=>by rw[(hch b z).1]at e; cases e
 refine I.step (g':=s.gens) (d':=s.drawn) (ch:=ch) (fun b hb=>?_) (fun b o _ _ hc e _=>k b o hc e) (fun b o _ _ hc e _=>⟨o.slots,k b o hc e⟩) (fun _ _ _ _ n=>n)
  (fun b o hc e=>⟨o,k b o hc e⟩) (fun _ _ e=>e) (fun _ _ _ e=>e) (fun b ps e=>⟨#[],by rw[e]; simp⟩) (fun m hm=>?_) (fun b u e=>?_) I.bare
 ·obtain⟨f0,f1,f2,f3,f4,f5⟩:=hch b hb
  exact⟨f3,f1,f4,f5⟩
 ·obtain⟨o,es,ep,ho,r⟩:=hm
  exact⟨o,es,ep,k _ o (fun z=>(hch _ z).2.1 rfl) ho,r⟩
 ·refine(I.hok b u e).stay (fun c v hc q=>k c v ?_ q) (fun _ q=>q) fun _ _ q=>q
  rcases hc with z | z
  ·rw[z]; exact nit b u e
  ·exact nit c _ z
theorem Inv.tupled{t':Nat}{ch:List Addr}{T:Addr}{vs:List V}{us:List Value}(I:Inv X pins σ H s)(hT:T=s.heap.objs.size)(hch:∀b∈ch,Jt X pins H b)(k:∀c o,c∉ch->s.heap.get? c=some o->h'.get? c=some o)
  (r:je vs us) (hz:vs.length<=sizeLine) (ht:IsTup h' T us.toArray):Inv X pins σ (upd H T (.tup vs)) { s with heap:=h',toks:=t' }:=by
 have nit:∀b u,H b=some u->b∉ch:=fun b u e z=>by rw[(hch b z).1]at e; cases e
 have nT:∀b o,s.heap.get? b=some o->b≠T:=fun b o e=>by rw[hT]; exact wTa (wLa e)
 have fT:H T=none:=by rw[hT]; exact I.hok.fresh (wPa _)
 refine I.step (g':=s.gens) (d':=s.drawn) (ch:=ch) (fun b hb=>?_) (fun b o _ _ hc e _=>k b o hc e) (fun b o _ _ hc e _=>⟨o.slots,k b o hc e⟩) (fun b o _ e n=>by rw[jl (nT b o e)]; exact n)
  (fun b o hc e=>⟨o,k b o hc e⟩) (fun b xs e=>by rw[jl (jy e fT)]; exact e) (fun b o u e=>by rw[jl (jy e fT)]; exact e) (fun b ps e=>⟨#[],by rw[jl (jy e fT),e]; simp⟩) (fun m hm=>?_) (fun b u e=>?_) I.bare
 ·obtain⟨f0,f1,f2,f3,f4,f5⟩:=hch b hb
  exact⟨f3,f1,f4,f5⟩
 ·obtain⟨o,es,ep,ho,r⟩:=hm
  exact⟨o,es,ep,k _ o (fun z=>(hch _ z).2.1 rfl) ho,r⟩
 ·by_cases hb:b=T
  ·subst hb
   rw[J2]at e
   cases e
   exact⟨hz,us,r,ht⟩
  ·rw[jl hb]at e
   refine(I.hok b u e).stay (fun c v hc q=>k c v ?_ q) (fun c q=>by rw[jl (jy q fT)]; exact q) fun c xs q=>by rw[jl (jy q fT)]; exact q
   rcases hc with z | z
   ·rw[z]; exact nit b u e
   ·exact nit c _ z
theorem Inv.seqK{k:Sk}{a:Addr}{xs:List V}(I:Inv X pins σ H s)(h:Vv X.K k H a xs):∃its:List Value,je xs its/\jX k s.heap a its.toArray/\xs.length<=sizeLine:=by
 cases k
 ·obtain⟨its,r,p,z⟩:=I.list h
  exact⟨its,r,p.isList,z⟩
 ·obtain⟨its,r,p,z⟩:=I.tuple h
  exact⟨its,r,p,z⟩
theorem Inv.seqK_inj{k:Sk}{a:Addr}{xs ys:List V}(I:Inv X pins σ H s)(h:Vv X.K k H a xs)(h':Vv X.K k H a ys):xs=ys:=by
 cases k
 ·exact I.list_inj h h'
 ·exact I.tuple_inj h h'
end
theorem zy:2<=sizeLine:=by decide
def Fv(K:PySem.W.Frag)(k j:Sk)(a b:Addr):It:=
 ⟨fun i H=>∃xs ys x y,Vv K k H a xs/\Vv K j H b ys/\xs[i]?=some x/\ys[i]?=some y,
  fun i H v H'=>∃p,H p=none/\v=.ref p/\∀xs ys x y,Vv K k H a xs->Vv K j H b ys->xs[i]?=some x->ys[i]?=some y->H'=upd H p (.tup [x,y]),
  fun i H=>∃xs ys,Vv K k H a xs/\Vv K j H b ys/\(xs.length<=i∨ys.length<=i)⟩
theorem X3{P:Program}{w:World}{K:PySem.W.Frag}{es:List Expr}{x1:Nat}{tp:Pos}{k j:Sk}{a b z TI TO i1 i2:Addr}(D:ZipApart z TI TO i1 i2 a b):
  Turn P w K (.Tuple es x1 tp) (Fv K k j a b) [z,TI,TO,i1,i2] z (fun i h=>IsZip h z TI TO .none/\IsPair h TI (.ref i1) (.ref i2)/\(∃u v,IsPair h TO u v)/\jZ k h i1 a i/\jZ j h i2 b i) where
 mem:=by simp
 obj:=fun i h st c hc=>by
  obtain⟨s1,s2,⟨u,v,s3⟩,s4,s5⟩:=st
  simp only[List.mem_cons,List.not_mem_nil,or_false]at hc
  rcases hc with rfl | rfl | rfl | rfl | rfl
  ·exact⟨_,s1,fun v z=>by cases z⟩
  ·exact⟨_,s2,fun v z=>by cases z⟩
  ·exact⟨_,s3,fun v z=>by cases z⟩
  ·exact s4.obj
  ·exact s5.obj
 keep:=fun i h h' st kk=>by
  obtain⟨s1,s2,⟨u,v,s3⟩,s4,s5⟩:=st
  exact⟨kk z (by simp) _ s1,kk TI (by simp) _ s2,⟨u,v,kk TO (by simp) _ s3⟩,s4.at fun o e=>kk i1 (by simp) o e,s5.at fun o e=>kk i2 (by simp) o e⟩
 item:=by
  intro X hP hw hK hc i pins s σ H E I hf st hg
  subst hP hw hK
  obtain⟨s1,s2,⟨u,v,s3⟩,s4,s5⟩:=st
  obtain⟨xs,ys,x,y,qa,qb,ex,ey⟩:=hg
  obtain⟨ia,ra,pa,_⟩:=I.seqK qa
  obtain⟨ib,rb,pb,_⟩:=I.seqK qb
  obtain⟨ux,eux,rx⟩:=ra.get ex
  obtain⟨uy,euy,ry⟩:=rb.get ey
  refine WU D s1 s2 s3 s4 s5 pa pb (x:=ux) (y:=uy) (by simpa using eux) (by simpa using euy) fun h' b1 b2 b3 b4 b5 bk=>?_
  refine⟨_,rfl,wpAny_letOwnedTupleGo_zip b1 fun h2 c1 c2=>?_⟩
  have F4:∀c∈[z,TO,i1,i2],Jt X pins H c:=fun c hc=>hf c (by
   simp only[List.mem_cons,List.not_mem_nil,or_false]at hc⊢
   rcases hc with q | q | q | q
   ·exact .inl q
   ·exact .inr (.inr (.inl q))
   ·exact .inr (.inr (.inr (.inl q)))
   ·exact .inr (.inr (.inr (.inr q))))
  have kp:∀c o,c∉[z,TO,i1,i2]->s.heap.get? c=some o->h2.get? c=some o:=fun c o hc e=>by
   simp only[List.mem_cons,List.not_mem_nil,or_false,not_or]at hc
   exact c2.extBut c o hc.1 (bk c o hc.1 hc.2.1 hc.2.2.1 hc.2.2.2 e)
  have nz:s.heap.objs.size≠z:=Nat.ne_of_gt (wLa s1)
  have ht:IsTup h2 s.heap.objs.size ([ux,uy]:List Value).toArray:=⟨_,c2.extBut _ _ nz b5,rfl,_,rfl⟩
  have I2:=I.tupled (t':=s.toks) (h':=h2) rfl F4 kp (vs:=[x,y]) (us:=[ux,uy]) (.cons rx (.cons ry .nil)) zy ht
  refine⟨.ref s.heap.objs.size,_,I2,rfl,⟨s.heap.objs.size,I.hok.fresh (wPa _),rfl,fun xs' ys' x' y' qa' qb' ex' ey'=>?_⟩,⟨c1,kp _ _ (by simp[D.TIz,D.TITO,D.TIi1,D.TIi2]) s2,⟨ux,uy,c2.extBut _ _ D.TOz b2⟩,b3.at fun o e=>c2.extBut _ o D.i1z e,b4.at fun o e=>c2.extBut _ o D.i2z e⟩,fun c hc=>?_⟩
  ·rw[I.seqK_inj qa' qa,ex]at ex'
   rw[I.seqK_inj qb' qb,ey]at ey'
   cases ex'
   cases ey'
   rfl
  ·have q:=(hf c hc).1
   rw[jl ?_]
   ·exact q
   ·intro e
    have:c < s.heap.objs.size:=by
     simp only[List.mem_cons,List.not_mem_nil,or_false]at hc
     rcases hc with rfl | rfl | rfl | rfl | rfl
     ·exact wLa s1
     ·exact wLa s2
     ·exact wLa s3
     ·obtain⟨o,e,_⟩:=s4.obj; exact wLa e
     ·obtain⟨o,e,_⟩:=s5.obj; exact wLa e
    rw[e]at this
    exact wUa _ this
 done:=by
  intro X hP hw hK hc i pins s σ H E I hf st hg
  subst hP hw hK
  obtain⟨s1,s2,⟨u,v,s3⟩,s4,s5⟩:=st
  obtain⟨xs,ys,qa,qb,hend⟩:=hg
  obtain⟨ia,ra,pa,_⟩:=I.seqK qa
  obtain⟨ib,rb,pb,_⟩:=I.seqK qb
  have la:=ra.length
  have lb:=rb.length
  have hend':ia.toArray[i]?=none∨ib.toArray[i]?=none:=by
   rcases hend with q | q
   ·exact .inl (by simp; omega)
   ·exact .inr (by simp; omega)
  refine Qe (I.ok.hd hc) D s1 s2 s3 s4 s5 pa pb hend' fun h' bk=>⟨rfl,?_⟩
  refine I.turnedL (t':=s.toks) (ch:=[z,TI,TO,i1,i2]) hf fun c o hc e=>?_
  simp only[List.mem_cons,List.not_mem_nil,or_false,not_or]at hc
  exact bk c o hc.1 hc.2.2.1 hc.2.2.2.1 hc.2.2.2.2 e
 self:=fun _ _ _ _ _ st h=>wpAny_pyIter_zip st.1 h
end L2
namespace L2
open PySem PySem.Spec PyProof.Rows
theorem j4.tup{K:PySem.W.Frag}{H H':Hp}{a:Addr}{xs:List V}(e:j4 H H')(h:JB K H a xs):JB K H' a xs:=by
 rcases h with(h | ⟨o,h⟩) | h
 ·exact .inl (.inl (e _ _ h))
 ·exact .inl (.inr ⟨o,e _ _ h⟩)
 ·exact .inr h
section
variable {X:Cx}
theorem X4(hc:X.calm=true):yj X (.builtin "all") (fun xs H Q=>∃(p:Addr) (bs:List Bool),xs=[.ref p]/\jt X.K H p (bs.map V.bl)/\Q (.bl (bs.all id)) H):=by
 intro pins s σ H xs us Q I r h
 obtain⟨p,bs,e,hq,q⟩:=h
 subst e
 cases r with
 | cons r rr=>
  cases rr
  cases r
  obtain⟨its,rv,pl,hz⟩:=I.list hq
  refine call_all_walk (wpAny_pyIter_list pl.isList ?_)
  have hp:p < s.heap.objs.size:=by obtain⟨o,ho,_⟩:=pl.isList; exact wLa ho
  have hlen:its.length=bs.length:=by have:=rv.length; simp at this; omega
  refine⟨s.heap.objs.size,_,_,_,_,_,fun i=>(bs[i]?).getD true,rfl,Walks.list (A:=X.A.in1) (I.ok.hd hc) s.heap.objs.size p (wTa hp) its.toArray,⟨⟨_,wJa _ rfl,rfl,rfl⟩,Heap.IsList.at pl.isList fun o e=>wIa _ e⟩,?_,fun h' tk hk=>?_⟩
  ·intro i v s' Q' E' hv hq'
   have hv:its[i]?=some v:=by simpa using hv
   have hi:i < bs.length:=by rw[<-hlen]; exact(List.getElem?_eq_some_iff.mp hv).1
   obtain⟨u,eu,ru⟩:=rv.get (i:=i) (x:=V.bl bs[i]) (by simp[hi])
   rw[hv]at eu
   cases eu
   cases ru
   have e1:(bs[i]?).getD true=bs[i]:=by simp[hi]
   have hq':Q' ((bs[i]?).getD true) s':=hq'
   rw[e1]at hq'
   exact wpAny_truthy_bool hq'
  ·have e:((List.range its.toArray.size).all fun i=>(bs[i]?).getD true)=bs.all id:=by
    rw[List.size_toArray,hlen,Bool.eq_iff_iff]
    simp only[List.all_eq_true,List.mem_range,id]
    constructor
    ·intro hh x hx
     obtain⟨i,hi,rfl⟩:=List.mem_iff_getElem.mp hx
     have:=hh i hi
     simpa[hi]using this
    ·intro hh i hi
     have:=hh bs[i] (List.getElem_mem hi)
     simpa[hi]using this
   rw[e]
   have I':Inv X pins σ H { s with heap:=h',toks:=tk }:=I.turnedL (t':=tk) (ch:=[s.heap.objs.size]) (fun b hb=>by
    have e:b=s.heap.objs.size:=by simpa using hb
    subst e
    exact I.fpOk (wPa _) (I.hok.fresh (wPa _))) (fun c o hc' e'=>hk c o hc' (wIa _ e'))
   exact⟨.bl (bs.all id),H,I',rfl,q⟩
inductive Kd where
 | i | b | s | l | t
def X5(K:PySem.W.Frag)(H:Hp):V->Kd->Prop
 | .int _,.i=>True
 | .bl _,.b=>True
 | .str _,.s=>True
 | .ref a,.l=>∃xs,jt K H a xs
 | .ref a,.t=>∃xs,JB K H a xs
 | _,_=>False
@[simp] noncomputable def Vw:Kd->Nat
 | .i=>0 | .b=>1 | .s=>2 | .l=>3 | .t=>4
def aS(k:Kd)(T:String):Option Bool:=if T = "int" then some (Vw k==0||Vw k==1)else if T = "bool" then some (Vw k==1)else if T = "str" then some (Vw k==2)else if T = "list" then some (Vw k==3)else if T = "tuple" then some (Vw k==4)else none
theorem VY{k:Kd}{T:String}{b:Bool}(h:aS k T=some b):(T = "int" /\(Vw k==0||Vw k==1)=b)∨(T = "bool" /\(Vw k==1)=b)∨(T = "str" /\(Vw k==2)=b)∨(T = "list" /\(Vw k==3)=b)∨(T = "tuple" /\(Vw k==4)=b):=by
 unfold aS at h
 by_cases t1:T = "int"
 ·rw[if_pos t1]at h
  exact .inl ⟨t1,vFa h⟩
 rw[if_neg t1]at h
 by_cases t2:T = "bool"
 ·rw[if_pos t2]at h
  exact .inr (.inl ⟨t2,vFa h⟩)
 rw[if_neg t2]at h
 by_cases t3:T = "str"
 ·rw[if_pos t3]at h
  exact .inr (.inr (.inl ⟨t3,vFa h⟩))
 rw[if_neg t3]at h
 by_cases t4:T = "list"
 ·rw[if_pos t4]at h
  exact .inr (.inr (.inr (.inl ⟨t4,vFa h⟩)))
 rw[if_neg t4]at h
 by_cases t5:T = "tuple"
 ·rw[if_pos t5]at h
  exact .inr (.inr (.inr (.inr ⟨t5,vFa h⟩)))
 rw[if_neg t5]at h
 cases h
def Ci(K:PySem.W.Frag):List V->Hp->VK->Prop:=fun xs H Q=>∃x T k b,xs=[x,.ty T]/\X5 K H x k/\aS k T=some b/\Q (.bl b) H
theorem X6:yj X (.builtin "isinstance") (Ci X.K):=by
 intro pins s σ H xs us Q I r h
 obtain⟨x,T,k,b,e,hk,hb,q⟩:=h
 subst e
 cases r with
 | cons r rr=>
  cases rr with
  | cons r' rr=>
   cases rr
   cases r'
   have fin:∀tk,EP X pins σ Q (.bool b) { s with toks:=tk }:=fun tk=>⟨.bl b,H,I.tok tk,rfl,q⟩
   have fin0:EP X pins σ Q (.bool b) s:=⟨.bl b,H,I,rfl,q⟩
   cases k with
   | i=>
    cases x <;> try exact hk.elim
    obtain⟨t,rfl⟩:=r
    rcases VY hb with⟨rfl,rfl⟩ | ⟨rfl,rfl⟩ | ⟨rfl,rfl⟩ | ⟨rfl,rfl⟩ | ⟨rfl,rfl⟩
    all_goals (first | exact IsiPair.int_int fin0 | exact IsiPair.int_bool (fin _) | exact IsiPair.int_str (fin _) | exact IsiPair.int_list (fin _) | exact IsiPair.int_tuple (fin _))
   | b=>
    cases x <;> try exact hk.elim
    cases r
    rcases VY hb with⟨rfl,rfl⟩ | ⟨rfl,rfl⟩ | ⟨rfl,rfl⟩ | ⟨rfl,rfl⟩ | ⟨rfl,rfl⟩
    all_goals (first | exact IsiPair.bool_int fin0 | exact IsiPair.bool_bool fin0 | exact IsiPair.bool_str (fin _) | exact IsiPair.bool_list (fin _) | exact IsiPair.bool_tuple (fin _))
   | s=>
    cases x <;> try exact hk.elim
    obtain⟨t,rfl⟩:=r
    rcases VY hb with⟨rfl,rfl⟩ | ⟨rfl,rfl⟩ | ⟨rfl,rfl⟩ | ⟨rfl,rfl⟩ | ⟨rfl,rfl⟩
    all_goals (first | exact IsiPair.str_str fin0 | exact IsiPair.str_int (fin _) | exact IsiPair.str_bool (fin _) | exact IsiPair.str_list (fin _) | exact IsiPair.str_tuple (fin _))
   | l=>
    cases x <;> try exact hk.elim
    cases r
    obtain⟨ys,hq⟩:=hk
    obtain⟨its,rv,pl,_⟩:=I.list hq
    obtain⟨o,ho,hc,_⟩:=pl.isList
    rcases VY hb with⟨rfl,rfl⟩ | ⟨rfl,rfl⟩ | ⟨rfl,rfl⟩ | ⟨rfl,rfl⟩ | ⟨rfl,rfl⟩
    all_goals (first | exact IsiPair.list_list ho hc fin0 | exact IsiPair.list_int ho hc (fin _) | exact IsiPair.list_bool ho hc (fin _) | exact IsiPair.list_str ho hc (fin _) | exact IsiPair.list_tuple ho hc (fin _))
   | t=>
    cases x <;> try exact hk.elim
    cases r
    obtain⟨ys,hq⟩:=hk
    obtain⟨its,rv,pl,_⟩:=I.tuple hq
    obtain⟨o,ho,hc,_⟩:=pl
    rcases VY hb with⟨rfl,rfl⟩ | ⟨rfl,rfl⟩ | ⟨rfl,rfl⟩ | ⟨rfl,rfl⟩ | ⟨rfl,rfl⟩
    all_goals (first | exact IsiPair.tuple_tuple ho hc fin0 | exact IsiPair.tuple_int ho hc (fin _) | exact IsiPair.tuple_bool ho hc (fin _) | exact IsiPair.tuple_str ho hc (fin _) | exact IsiPair.tuple_list ho hc (fin _))
noncomputable def WV:Kd->Bool
 | .l=>true
 | .t=>true
 | _=>false
def aU(K:PySem.W.Frag)(te:TE):TE:=fun σ H Q=>te σ H fun x H1=>∃k,X5 K H1 x k/\∀p,H1 p=none->Q (.bl (WV k)) (upd H1 p (.tup [.ty "list",.ty "tuple"]))
theorem bJ{e:Expr}{te:TE}{p p1 p2 tp pos:Pos}{x1:Nat}(hgi:Gl X "isinstance")(hmi:X.mg "isinstance" = none)(hgl:Gl X "list")(hml:X.mg "list" = none)(hgt:Gl X "tuple")(hmt:X.mg "tuple" = none)(he:PE X e te)
  (hs:starEach [e,.Tuple [.Name "list" p1,.Name "tuple" p2] x1 tp] X.env=(false,eval e X.env)::starEach [.Tuple [.Name "list" p1,.Name "tuple" p2] x1 tp] X.env:=by rfl)
  (hs2:starEach [.Tuple [.Name "list" p1,.Name "tuple" p2] x1 tp] X.env=(false,eval (.Tuple [.Name "list" p1,.Name "tuple" p2] x1 tp) X.env)::starEach [] X.env:=by rfl):
  PE X (.Call (.Name "isinstance" p) [e,.Tuple [.Name "list" p1,.Name "tuple" p2] x1 tp] [] pos) (aU X.K te):=by
 intro pins s σ H Q I h
 refine wpAny_Call_Name_kw (Yc I hgi hmi boot_isinstance ?_)
 refine PyProof.Rows.callWith_builtin1 ?_ hs (by rw[hs2]; rfl)
 rw[hs]
 show wpAny _ _ (spliced ((false,eval e X.env)::backTo pos (starEach [.Tuple [.Name "list" p1,.Name "tuple" p2] x1 tp] X.env))) _ _ s
 refine Calls.spliced_cons (jk (he pins s σ H _ I h) fun u s1 ⟨x,H1,I1,r1,k,hk,q⟩=>?_)
 rw[hs2]
 show wpAny _ _ (spliced ((false,eval (.Tuple [.Name "list" p1,.Name "tuple" p2] x1 tp) X.env)::backTo pos (starEach [] X.env))) _ _ s1
 refine Calls.spliced_cons ?_
 have hpa:PA X [.Name "list" p1,.Name "tuple" p2] (zZ (tC (.ty "list")) (zZ (tC (.ty "tuple")) VS)):=jU (gH hgl hml boot_list rfl) (jU (gH hgt hmt boot_tuple rfl) JN)
 refine wpAny_Tuple_spliced (jk (hpa tp pins s1 σ H1 (fun vs H2=>vs=[.ty "list",.ty "tuple"]/\H2=H1) I1 ⟨rfl,rfl⟩) fun us s2 ⟨xs,H2,I2,r2,e1,e2⟩=>?_)
 subst e1 e2
 have eu:us=[.type "list",.type "tuple"]:=by
  cases r2 with
  | cons a b=>
   cases b with
   | cons c d=>
    cases d
    cases a
    cases c
    rfl
 subst eu
 refine⟨zy,Calls.spliced_nil ?_⟩
 have hf:H2 s2.heap.objs.size=none:=I2.hok.fresh (wPa _)
 have I3:=I2.laid (h':=s2.heap.push { cls:=.type "tuple",data:=.seq ([.type "list",.type "tuple"]:List Value).toArray }) (t':=s2.toks) (o:=.tup [.ty "list",.ty "tuple"]) (fun b u e=>wIa _ e) (wPa _)
  ⟨zy,[.type "list",.type "tuple"],.cons rfl (.cons rfl .nil),⟨_,wJa _ rfl,rfl,_,rfl⟩⟩
 have fin:∀b tk,b=WV k->EP X pins σ Q (.bool b) { s2 with heap:=s2.heap.push { cls:=.type "tuple",data:=.seq ([.type "list",.type "tuple"]:List Value).toArray },toks:=tk }:=fun b tk eb=>by
  subst eb
  exact⟨.bl (WV k),_,I3.tok tk,rfl,q _ hf⟩
 have tob:∀a o,s2.heap.get? a=some o->(s2.heap.push { cls:=.type "tuple",data:=.seq ([.type "list",.type "tuple"]:List Value).toArray }).get? a=some o:=fun a o e=>wIa _ e
 cases k with
 | i=>
  cases x <;> try exact hk.elim
  obtain⟨t,rfl⟩:=r1
  exact IsiPair.tupleOf (Tx := "int") (cs:=[.type "list",.type "tuple"]) (vs:=[false,false]) ⟨Answers.of_false_int (by decide +kernel) F.isi_meta_list F.sub_int_list,Answers.of_false_int (by decide +kernel) F.isi_meta_tuple F.sub_int_tuple,trivial⟩ rfl (wJa _ rfl) fun tk=>fin _ tk rfl
 | b=>
  cases x <;> try exact hk.elim
  cases r1
  exact IsiPair.tupleOf (Tx := "bool") (cs:=[.type "list",.type "tuple"]) (vs:=[false,false]) ⟨Answers.of_false_bool (by decide +kernel) F.isi_meta_list F.sub_bool_list,Answers.of_false_bool (by decide +kernel) F.isi_meta_tuple F.sub_bool_tuple,trivial⟩ rfl (wJa _ rfl) fun tk=>fin _ tk rfl
 | s=>
  cases x <;> try exact hk.elim
  obtain⟨t,rfl⟩:=r1
  exact IsiPair.tupleOf (Tx := "str") (cs:=[.type "list",.type "tuple"]) (vs:=[false,false]) ⟨Answers.of_false_str (by decide +kernel) F.isi_meta_list F.sub_str_list,Answers.of_false_str (by decide +kernel) F.isi_meta_tuple F.sub_str_tuple,trivial⟩ rfl (wJa _ rfl) fun tk=>fin _ tk rfl
 | l=>
  cases x <;> try exact hk.elim
  cases r1
  obtain⟨ys,hq⟩:=hk
  obtain⟨its,rv,pl,_⟩:=I2.list hq
  obtain⟨o,ho,hc,_⟩:=pl.isList
  exact IsiPair.tupleOf (Tx := "list") (cs:=[.type "list",.type "tuple"]) (vs:=[true,false]) ⟨Answers.of_true F.isi_meta_list F.sub_list_list,Answers.of_false_list (by decide +kernel) F.isi_meta_tuple F.sub_list_tuple,trivial⟩ ⟨o,tob _ _ ho,hc⟩ (wJa _ rfl) fun tk=>fin _ tk rfl
 | t=>
  cases x <;> try exact hk.elim
  cases r1
  obtain⟨ys,hq⟩:=hk
  obtain⟨its,rv,pl,_⟩:=I2.tuple hq
  obtain⟨o,ho,hc,_⟩:=pl
  exact IsiPair.tupleOf (Tx := "tuple") (cs:=[.type "list",.type "tuple"]) (vs:=[false,true]) ⟨Answers.of_false_tuple (by decide +kernel) F.isi_meta_list F.sub_tuple_list,Answers.of_true F.isi_meta_tuple F.sub_tuple_tuple,trivial⟩ ⟨o,tob _ _ ho,hc⟩ (wJa _ rfl) fun tk=>fin _ tk rfl
end
end L2
namespace L2
open PySem PySem.Spec PyProof.Rows
def bK(r r' r'':R2)(ta tb tc td:TE):TE:=fun σ H Q=>ta σ H fun x H1=>tb σ H1 fun y H2=>r x y H2 fun z H3=>∃k,z=.bl k/\
 (if k=true then tc σ H3 fun w' H4=>r' y w' H4 fun z' H5=>∃k',z'=.bl k'/\(if k'=true then td σ H5 fun q H6=>r'' w' q H6 Q else Q (.bl false) H5)else Q (.bl false) H3)
section
variable {X:Cx} {a b c d:Expr} {ta tb tc td:TE} {pos:Pos}
theorem Qf{op op' op'':CmpOp}{r r' r'':R2}(ho:jI X (compareOp op) r)(ho':jI X (compareOp op') r')(ho'':jI X (compareOp op'') r'')(ha:PE X a ta)(hb:PE X b tb)(hc:PE X c tc)(hd:PE X d td)
  (hm:lastMarks [op,op',op''] [b,c,d]=false:=by with_unfolding_all rfl):PE X (.Compare a [op,op',op''] [b,c,d] pos) (bK r r' r'' ta tb tc td):=by
 intro pins s σ H Q I h
 refine Compare_chain (jk (ha pins s σ H _ I h) fun v s1 ⟨x,H1,I1,r1,q1⟩=>chain_link (jk (hb pins s1 σ H1 _ I1 q1) fun u s2 ⟨y,H2,I2,r2,q2⟩=>
  jk (ho pins s2 σ H2 x y v u _ I2 r1 r2 q2) fun _ s3 ⟨z,H3,I3,r3,k,e,q3⟩=>?_)) hm
 subst e
 cases r3
 refine wpAny_truthy_bool ?_
 cases k with
 | false=>exact ite_ff ⟨.bl false,H3,I3,rfl,q3⟩
 | true=>
  refine ite_tt (chain_link (jk (hc pins s3 σ H3 _ I3 q3) fun w' s4 ⟨z',H4,I4,r4,q4⟩=>jk (ho' pins s4 σ H4 y z' u w' _ I4 r2 r4 q4) fun _ s5 ⟨z5,H5,I5,r5,k5,e5,q5⟩=>?_))
  subst e5
  cases r5
  refine wpAny_truthy_bool ?_
  cases k5 with
  | false=>exact ite_ff ⟨.bl false,H5,I5,rfl,q5⟩
  | true=>exact ite_tt (chain_last (jk (hd pins s5 σ H5 _ I5 q5) fun w6 s6 ⟨z6,H6,I6,r6,q6⟩=>ho'' pins s6 σ H6 z' z6 w' w6 Q I6 r4 r6 q6))
end
section
variable {X:Cx}
open PySem.SeqAt
end
end L2
namespace L2
open PySem PySem.Spec PyProof.Rows
structure FnI (P:Program) (w:World) (K:PySem.W.Frag) (mg:Str->Option Value) (base:Heap) (k:Nat) (x:Str) (ps:List Str) (sp:Sp):Prop where
 ex:∃f fd,FnOk P w K mg base Yd k f fd ps sp/\J_ K fd ps []/\PySem.W.keepIn K (.ref f)=true/\mg x=some (.ref f)
structure MtI (P:Program) (w:World) (K:PySem.W.Frag) (mg:Str->Option Value) (base:Heap) (k:Nat) (C:Addr) (m:Str) (ps:List Str) (sp:Sp):Prop where
 ex:∃f fd,FnOk P w K mg base Yd k f fd ps sp/\J_ K fd ps []/\Meth K C m f
structure MkI (P:Program) (w:World) (K:PySem.W.Frag) (mg:Str->Option Value) (base:Heap) (k:Nat) (C:Addr) (x:Str) (ps:List Str) (sp:Sp):Prop where
 ex:∃f fd,FnOk P w K mg base Yd k f fd ps sp/\J_ K fd ps []/\Mk K C f/\mg x=some (.ref C)
section
variable {X:Cx} {k:Nat} {x m:Str} {ps:List Str} {sp:Sp} {p pos apos:Pos} {e o:Expr} {es:List Expr} {t:TA} {ta:TE} {C:Addr}
theorem aV(F:FnI X.prog X.w X.K X.mg X.base k x ps sp)(hr:Room k X.A)(ha:PA X (e::es) t)(hg:Gl X x:=by rfl)(hdb:(x==("__debug__" : Str))=false:=by decide)
  (he:starEach (e::es) X.env=(false,eval e X.env)::starEach es X.env:=by rfl) (hpl:(backTo pos (starEach es X.env)).any (·.1)=false:=by rfl):PE X (.Call (.Name x p) (e::es) [] pos) (aI sp [] E0 t):=by
 obtain⟨f,fd,G,b,kp,hm⟩:=F.ex
 exact wT G hr hg hm kp b .nil WS ha hdb he hpl
theorem Qg{pl:Sem Bool}(he:PE X o ta)(c:Cls X.K C)(M:MtI X.prog X.w X.K X.mg X.base k C m ps sp)(hr:Room k X.A)
  (ht:eval (.Call (.Attribute o m apos) [] [] pos) X.env=(do
   let ov<-eval o X.env
   standAt apos.atName
   let (f,first)<-holding [ov] (getMethod ov m pl)
   callWith pos f first (backTo pos (starEach [] X.env)) (backToKw pos (keywordEach [] X.env))):=by rfl):
  PE X (.Call (.Attribute o m apos) [] [] pos) (aJ C m sp [] E0 ta VS):=by
 obtain⟨f,fd,G,b,hm⟩:=M.ex
 exact xU he c hm G hr b .nil WS ht
theorem EC(M:MkI X.prog X.w X.K X.mg X.base k C x ps sp)(hr:Room (k+1) X.A)(ha:PA X (e::es) t)(hg:Gl X x:=by rfl)(hdb:(x==("__debug__" : Str))=false:=by decide)
  (he:starEach (e::es) X.env=(false,eval e X.env)::starEach es X.env:=by rfl) (hpl:(backTo pos (starEach es X.env)).any (·.1)=false:=by rfl):PE X (.Call (.Name x p) (e::es) [] pos) (aK C sp [] E0 t):=by
 obtain⟨f,fd,G,b,mk,hm⟩:=M.ex
 exact bt mk G hr hg hm b .nil WS ha hdb he hpl
theorem Hg(ho:PE X o ta)(ha:PA X [e] t)(hbase:attributeBase o "append" X.env (eval o X.env)=eval o X.env:=by rfl)
  (hfew:((backTo pos (starEach [e] X.env)).all (fun x=>!x.1)&&(backToKw pos (keywordEach [] X.env)).all (fun x=>x.1.isSome)
   && decide (([e]:List Expr).length+([]:List Keyword).length+(if ([]:List Keyword).isEmpty then 0 else 1) < 30))=true:=by rfl)
  (hline:(apos.endLine==pos.line)=true:=by rfl) (hs:starEach [e] X.env=(false,eval e X.env)::starEach [] X.env:=by rfl) (hplain:(backTo pos (starEach [] X.env)).any (·.1)=false:=by rfl):
  PE X (.Call (.Attribute o "append" apos) [e] [] pos) (Q9 X.K "list" gO ta t):=
 aO PySem.F.plainAttrs_list PySem.F.slot_list_append PySem.F.type_list_append Qa ho ha hbase hfew hline hs hplain
end
theorem iY{X:Cx}{x:Str}{i:Int}{pos:Pos}(hm:∃t,X.mg x=some (.int i t))(hg:Gl X x:=by rfl)(hd:(x==("__debug__" : Str))=false:=by decide):PE X (.Name x pos) (tC (.int i)):=by
 obtain⟨t,h⟩:=hm
 exact wQ hg h ⟨t,rfl⟩ hd
theorem jK{H:Hp}{p:Addr}(h:H p=none)(o:HO):j4 H (upd H p o):=fun b u q=>by rw[jl (jy q h)]; exact q
theorem j4.upd{H0 H:Hp}{p:Addr}(s:j4 H0 H)(h:H0 p=none)(o:HO):j4 H0 (upd H p o):=fun b u q=>by rw[jl (jy q h)]; exact s b u q
theorem j4.none{H H':Hp}(s:j4 H H'){p:Addr}(h:H' p=Option.none):H p=Option.none:=s.free h
theorem ED{n:Nat}(h:n<=1000):n<=sizeLine:=wQa (Qb h)
noncomputable abbrev T3:=Int×Int×Int
end L2
namespace L2
open PySem PySem.Spec PyProof.Rows
end L2
namespace L2
open PySem PySem.Spec PyProof.Rows
end L2
namespace L2
open PySem PySem.Spec PyProof.Rows
def Fw(K:PySem.W.Frag)(a:Addr):It:=
 ⟨fun i H=>∃xs x,jt K H a xs/\xs[i]?=some x,fun i H v H'=>∃p,H p=none/\v=.ref p/\∀xs x,jt K H a xs->xs[i]?=some x->H'=upd H p (.tup [.int i,x]),fun i H=>∃xs,jt K H a xs/\xs.length<=i⟩
theorem Qh{P:Program}{w:World}{K:PySem.W.Frag}{es:List Expr}{x1:Nat}{tp:Pos}{a e it:Addr}(hei:e≠it)(hle:a≠e)(hli:a≠it):
  Turn P w K (.Tuple es x1 tp) (Fw K a) [e,it] e (fun i h=>(∃old,IsEnum h e it (i:Nat) old)/\h.IsListIter it a i) where
 mem:=by simp
 obj:=fun i h st c hc=>by
  obtain⟨⟨old,s1⟩,s2⟩:=st
  simp only[List.mem_cons,List.not_mem_nil,or_false]at hc
  rcases hc with rfl | rfl
  ·exact⟨_,s1,fun v z=>by cases z⟩
  ·obtain⟨o,ho,_,d⟩:=s2
   exact⟨o,ho,fun v z=>by rw[d]at z; cases z⟩
 keep:=fun i h h' st kk=>by
  obtain⟨⟨old,s1⟩,s2⟩:=st
  exact⟨⟨old,kk e (by simp) _ s1⟩,s2.at fun o z=>kk it (by simp) o z⟩
 item:=by
  intro X hP hw hK hc i pins s σ H E I hf st hg
  subst hP hw hK
  obtain⟨⟨old,s1⟩,s2⟩:=st
  obtain⟨xs,x,qa,ex⟩:=hg
  obtain⟨ia,ra,pa,_⟩:=I.list qa
  obtain⟨ux,eux,rx⟩:=ra.get ex
  refine wpAny_pyNext_enum_item s1 s2 pa.isList (x:=ux) (by simpa using eux) hei fun h' b1 b2 b3 b4 bk=>?_
  refine⟨_,rfl,wpAny_letOwnedTupleGo_enum b1 fun h2 c1 c2=>?_⟩
  have lt1:e < s.heap.objs.size:=wLa s1
  have lt2:it < s.heap.objs.size:=by obtain⟨o,ho,_⟩:=s2; exact wLa ho
  have kp:∀c o,c∉[e,it]->s.heap.get? c=some o->h2.get? c=some o:=fun c o hc z=>by
   simp only[List.mem_cons,List.not_mem_nil,or_false,not_or]at hc
   exact c2.extBut c o hc.1 (bk c o hc.1 hc.2 z)
  have ht:IsTup h2 s.heap.objs.size ([.int i s.toks,ux]:List Value).toArray:=⟨_,c2.extBut _ _ (Nat.ne_of_gt lt1) b3,rfl,_,rfl⟩
  have I2:=I.tupled (t':=s.toks+1) (h':=h2) rfl hf kp (vs:=[.int i,x]) (us:=[.int i s.toks,ux]) (.cons ⟨_,rfl⟩ (.cons rx .nil)) zy ht
  refine⟨.ref s.heap.objs.size,_,I2,rfl,⟨s.heap.objs.size,I.hok.fresh (wPa _),rfl,fun xs' x' qa' ex'=>?_⟩,⟨⟨ux,by simpa using c1⟩,b2.at fun o z=>c2.extBut _ o hei.symm z⟩,fun c hc=>?_⟩
  ·rw[I.list_inj qa' qa,ex]at ex'
   cases ex'
   rfl
  ·have q:=(hf c hc).1
   rw[jl ?_]
   ·exact q
   ·intro z
    simp only[List.mem_cons,List.not_mem_nil,or_false]at hc
    rcases hc with rfl | rfl
    ·rw[z]at lt1; exact wUa _ lt1
    ·rw[z]at lt2; exact wUa _ lt2
 done:=by
  intro X hP hw hK hc i pins s σ H E I hf st hg
  subst hP hw hK
  obtain⟨⟨old,s1⟩,s2⟩:=st
  obtain⟨xs,qa,hend⟩:=hg
  obtain⟨ia,ra,pa,_⟩:=I.list qa
  have la:=ra.length
  refine wpAny_pyNext_enum_end (I.ok.hd hc) s1 s2 pa.isList (by simp; omega) fun h' bk=>⟨rfl,?_⟩
  refine I.turnedL (t':=s.toks) (ch:=[e,it]) hf fun c o hc z=>?_
  simp only[List.mem_cons,List.not_mem_nil,or_false,not_or]at hc
  exact bk c o hc.2 z
 self:=fun _ _ _ _ _ st h=>by
  obtain⟨⟨old,s1⟩,s2⟩:=st
  exact wpAny_pyIter_enum s1 h
theorem Qi:bootBuiltins "enumerate" = some (.type "enumerate"):=by decide +kernel
def EE(K:PySem.W.Frag)(ta:TA):TI:=fun σ H R=>ta σ H fun vs H1=>∃a xs,vs=[.ref a]/\jt K H1 a xs/\R (Fw K a) H1
theorem bL{X:Cx}{es:List Expr}{x1:Nat}{tp:Pos}{e1:Expr}{ta:TA}{p pos:Pos}(hg:Gl X "enumerate")(hm:X.mg "enumerate" = none)(ha:PA X [e1] ta)(hs:starEach [e1] X.env=[(false,eval e1 X.env)]:=by rfl):
  PI X (.Tuple es x1 tp) (.Call (.Name "enumerate" p) [e1] [] pos) (EE X.K ta):=by
 intro pins s σ H R I h
 refine Call_ (Yc I hg hm Qi (PyProof.Rows.callWith_type1 (jk (ha pos pins s σ H _ I h) fun us s1 ⟨vs,H1,I1,r1,q1⟩=>?_) hs rfl))
 obtain⟨a,xs,e,qa,q⟩:=q1
 subst e
 cases r1 with
 | cons r rr=>
  cases rr
  cases r
  obtain⟨ia,ra,pa,_⟩:=I1.list qa
  have lt:a < s1.heap.objs.size:=by obtain⟨o,ho,_⟩:=pa.isList; exact wLa ho
  refine call_enumerate_list pa.isList fun h' b1 b2 b3 bk=>?_
  refine wpAny_pyIter_enum b1 ?_
  have fr:∀m,Jt X pins H1 (s1.heap.objs.size+m):=fun m=>I1.fpOk (vKa _ _) (I1.hok.fresh (vKa _ _))
  refine⟨_,_,_,_,H1,rfl,I1.kept (t':=s1.toks) bk,Qh (a:=a) (e:=s1.heap.objs.size+1) (it:=s1.heap.objs.size) (Nat.ne_of_gt (Nat.lt_succ_self _)) (wTa (Nat.lt_succ_of_lt lt)) (wTa lt),⟨⟨_,b1⟩,b2⟩,fun c hc=>?_,q⟩
  simp only[List.mem_cons,List.not_mem_nil,or_false]at hc
  rcases hc with rfl | rfl
  ·exact fr 1
  ·exact fr 0
end L2
namespace DS
open PySem PySem.Spec PyProof.Rows L2
inductive D where
 | non | bl (b:Bool) | int (i:Int) | str (x:Str) | tup (l:List D) | lst (l:List D) | ins (C:Addr) (ns:List Str) (ds:List D) | scr (ns:List Int) | dct (ks vs:List D)
mutual
noncomputable def yI:D->Option KD
 | .int n=>some (.i n)
 | .bl b=>some (.i (if b then 1 else 0))
 | .str x=>some (.s x)
 | .tup l=>(Yi l).bind fun ks=>some (.t ks)
 | _=>none
noncomputable def Yi:List D->Option (List KD)
 | []=>some []
 | d::ds=>(yI d).bind fun k=>(Yi ds).bind fun ks=>some (k::ks)
end
def JO:D->Option KD
 | .tup l=>(yI (.tup l)).bind fun k=>if k.dep<=8 then some k else none
 | _=>none
def jS:List D->Option (List KD)
 | []=>some []
 | d::ds=>(JO d).bind fun k=>(jS ds).bind fun ks=>some (k::ks)
mutual
noncomputable def j6(K:PySem.W.Frag)(H:Hp):D->V->Prop
 | .non,v=>v=.non
 | .bl b,v=>v=.bl b
 | .int i,v=>v=.int i
 | .str x,v=>v=.str x
 | .tup l,v=>∃a xs,v=.ref a/\JB K H a xs/\j1 K H l xs
 | .lst l,v=>∃a xs,v=.ref a/\H a=some (.lst xs)/\j1 K H l xs
 | .scr ns,v=>∃a,v=.ref a/\jt K H a (ns.map V.int)
 | .ins C ns l,v=>∃a dx xs,v=.ref a/\H a=some (.ins C dx (ns.zip xs))/\ns.length=xs.length/\j1 K H l xs
 | .dct ks vs,v=>∃a kvs ep,v=.ref a/\H a=some (.dD kvs ep)/\jS ks=some (kvs.map (·.1))/\j1 K H ks (kvs.map fun p=>V.ref p.2.1)/\j1 K H vs (kvs.map (·.2.2))
noncomputable def j1(K:PySem.W.Frag)(H:Hp):List D->List V->Prop
 | [],vs=>vs=[]
 | d::ds,vs=>∃v r,vs=v::r/\j6 K H d v/\j1 K H ds r
end
mutual
theorem j6.same{K:PySem.W.Frag}{H H':Hp}(e:j4 H H'):∀{d:D} {v:V},j6 K H d v->j6 K H' d v
 | .non,_,h=>h
 | .bl _,_,h=>h
 | .int _,_,h=>h
 | .str _,_,h=>h
 | .tup l,_,h=>by
  rw[j6]at h⊢
  obtain⟨a,xs,rfl,q,r⟩:=h
  exact⟨a,xs,rfl,e.tup q,j1.same e r⟩
 | .lst l,_,h=>by
  rw[j6]at h⊢
  obtain⟨a,xs,rfl,q,r⟩:=h
  exact⟨a,xs,rfl,e _ _ q,j1.same e r⟩
 | .scr ns,_,h=>by
  rw[j6]at h⊢
  obtain⟨a,rfl,q⟩:=h
  exact⟨a,rfl,e.seq q⟩
 | .ins C ns l,_,h=>by
  rw[j6]at h⊢
  obtain⟨a,dx,xs,rfl,q,n,r⟩:=h
  exact⟨a,dx,xs,rfl,e _ _ q,n,j1.same e r⟩
 | .dct ks vs,_,h=>by
  rw[j6]at h⊢
  obtain⟨a,kvs,ep,rfl,q,n,r1,r2⟩:=h
  exact⟨a,kvs,ep,rfl,e _ _ q,n,j1.same e r1,j1.same e r2⟩
theorem j1.same{K:PySem.W.Frag}{H H':Hp}(e:j4 H H'):∀{ds:List D} {vs:List V},j1 K H ds vs->j1 K H' ds vs
 | [],_,h=>h
 | d::ds,_,h=>by
  rw[j1]at h⊢
  obtain⟨v,r,rfl,a,b⟩:=h
  exact⟨v,r,rfl,j6.same e a,j1.same e b⟩
end
section
variable {K:PySem.W.Frag} {H:Hp}
theorem j1.len:∀{ds:List D} {vs:List V},j1 K H ds vs->vs.length=ds.length
 | [],_,h=>by rw[j1]at h; subst h; rfl
 | d::ds,_,h=>by
  rw[j1]at h
  obtain⟨v,r,rfl,a,b⟩:=h
  rw[List.length_cons,List.length_cons,j1.len b]
theorem j1.get:∀{ds:List D} {vs:List V} {i:Nat} {d:D},j1 K H ds vs->ds[i]?=some d->∃v,vs[i]?=some v/\j6 K H d v
 | [],_,_,_,h,e=>by simp at e
 | d::ds,_,0,_,h,e=>by
  rw[j1]at h
  obtain⟨v,r,rfl,a,b⟩:=h
  simp at e
  subst e
  exact⟨v,rfl,a⟩
 | d::ds,_,i+1,d',h,e=>by
  rw[j1]at h
  obtain⟨v,r,rfl,a,b⟩:=h
  obtain⟨v',e',q⟩:=j1.get (i:=i) b (by simpa using e)
  exact⟨v',by simpa using e',q⟩
theorem j1.nil:j1 K H [] []:=by rw[j1]
theorem j1.cons{d:D}{ds:List D}{v:V}{vs:List V}(a:j6 K H d v)(b:j1 K H ds vs):j1 K H (d::ds) (v::vs):=by rw[j1]; exact⟨v,vs,rfl,a,b⟩
theorem j1.app:∀{ds es:List D} {vs us:List V},j1 K H ds vs->j1 K H es us->j1 K H (ds++es) (vs++us)
 | [],_,_,_,h,g=>by rw[j1]at h; subst h; exact g
 | d::ds,es,_,us,h,g=>by
  rw[j1]at h
  obtain⟨u,r,rfl,a,b⟩:=h
  exact j1.cons a (j1.app b g)
theorem j1.snoc{d:D}{v:V}{ds:List D}{vs:List V}(h:j1 K H ds vs)(q:j6 K H d v):j1 K H (ds++[d]) (vs++[v]):=h.app (j1.cons q j1.nil)
theorem j1.drop:∀{ds:List D} {vs:List V} (n:Nat),j1 K H ds vs->j1 K H (ds.drop n) (vs.drop n)
 | _,_,0,h=>h
 | [],_,n+1,h=>by rw[j1]at h; subst h; exact j1.nil
 | d::ds,_,n+1,h=>by
  rw[j1]at h
  obtain⟨u,r,rfl,a,b⟩:=h
  exact j1.drop n b
theorem j1.take:∀{ds:List D} {vs:List V} (n:Nat),j1 K H ds vs->j1 K H (ds.take n) (vs.take n)
 | _,_,0,h=>j1.nil
 | [],_,n+1,h=>by rw[j1]at h; subst h; exact j1.nil
 | d::ds,_,n+1,h=>by
  rw[j1]at h
  obtain⟨u,r,rfl,a,b⟩:=h
  exact j1.cons a (j1.take n b)
theorem j1.set{d:D}{v:V}(q:j6 K H d v):∀{ds:List D} {vs:List V} (n:Nat),j1 K H ds vs->j1 K H (ds.set n d) (vs.set n v)
 | [],_,n,h=>by rw[j1]at h; subst h; exact j1.nil
 | e::ds,_,0,h=>by
  rw[j1]at h
  obtain⟨u,r,rfl,a,b⟩:=h
  exact j1.cons q b
 | e::ds,_,n+1,h=>by
  rw[j1]at h
  obtain⟨u,r,rfl,a,b⟩:=h
  exact j1.cons a (j1.set q n b)
end
noncomputable def ja(H:Hp)(O:List Addr):Hp:=fun b=>if b∈O then none else H b
theorem uG{H:Hp}{O:List Addr}{b:Addr}(h:b∈O):ja H O b=none:=if_pos h
theorem J3{H:Hp}{O:List Addr}{b:Addr}(h:b∉O):ja H O b=H b:=if_neg h
theorem JP{H:Hp}{O:List Addr}{b:Addr}{o:HO}(h:ja H O b=some o):b∉O/\H b=some o:=by
 by_cases hb:b∈O
 ·rw[uG hb]at h; cases h
 ·rw[J3 hb]at h; exact⟨hb,h⟩
theorem yD{H:Hp}{O:List Addr}:j4 (ja H O) H:=fun b o h=>(JP h).2
theorem yT{H:Hp}{O O':List Addr}(s:∀a∈O',a∈O):j4 (ja H O) (ja H O'):=fun b o h=>by
 obtain⟨h1,h2⟩:=JP h
 rw[J3 (fun z=>h1 (s b z))]; exact h2
theorem jh{H H':Hp}{O:List Addr}(s:j4 H H'):j4 (ja H O) (ja H' O):=fun b o h=>by
 obtain⟨h1,h2⟩:=JP h
 rw[J3 h1]; exact s _ _ h2
theorem ZP{H H':Hp}{O:List Addr}{l:Addr}(s:j4 H H')(hl:H l=none):j4 (ja H O) (ja H' (l::O)):=fun b o h=>by
 obtain⟨h1,h2⟩:=JP h
 have ne:b≠l:=jy h2 hl
 rw[J3 (by intro z; rcases List.mem_cons.mp z with z | z; exact ne z; exact h1 z)]
 exact s _ _ h2
theorem Yo{H:Hp}{O:List Addr}{l:Addr}{o:HO}(h:l∈O):ja (upd H l o) O=ja H O:=by
 funext b
 by_cases hb:b∈O
 ·rw[uG hb,uG hb]
 ·rw[J3 hb,J3 hb,jl (fun e=>hb (by rw[e]; exact h))]
inductive OD where
 | lst (ds:List D) | ins (C:Addr) (ns:List Str) (ds:List D) | dct (ks vs:List D)
@[simp] noncomputable def OD.toD:OD->D
 | .lst ds=>.lst ds
 | .ins C ns ds=>.ins C ns ds
 | .dct ks vs=>.dct ks vs
def JK(K:PySem.W.Frag)(H Hd:Hp)(l:Addr):OD->Prop
 | .lst ds=>∃vs,H l=some (.lst vs)/\j1 K Hd ds vs
 | .ins C ns ds=>∃dx vs,H l=some (.ins C dx (ns.zip vs))/\ns.length=vs.length/\j1 K Hd ds vs
 | .dct ks vs=>∃kvs ep,H l=some (.dD kvs ep)/\jS ks=some (kvs.map (·.1))/\j1 K Hd ks (kvs.map fun p=>V.ref p.2.1)/\j1 K Hd vs (kvs.map (·.2.2))
theorem JK.same{K:PySem.W.Frag}{H H' Hd Hd':Hp}{l:Addr}{o:OD}(s:∀u,H l=some u->H' l=some u)(sd:j4 Hd Hd')(h:JK K H Hd l o):JK K H' Hd' l o:=by
 cases o with
 | lst ds=>obtain⟨vs,a,b⟩:=h; exact⟨vs,s _ a,b.same sd⟩
 | ins C ns ds=>obtain⟨dx,vs,a,n,b⟩:=h; exact⟨dx,vs,s _ a,n,b.same sd⟩
 | dct ks vs=>obtain⟨kvs,ep,a,n,b,c⟩:=h; exact⟨kvs,ep,s _ a,n,b.same sd,c.same sd⟩
theorem JK.there{K:PySem.W.Frag}{H Hd:Hp}{l:Addr}{o:OD}(h:JK K H Hd l o):H l≠none:=by
 cases o with
 | lst ds=>obtain⟨vs,a,b⟩:=h; rw[a]; exact fun z=>nomatch z
 | ins C ns ds=>obtain⟨dx,vs,a,n,b⟩:=h; rw[a]; exact fun z=>nomatch z
 | dct ks vs=>obtain⟨kvs,ep,a,n,b⟩:=h; rw[a]; exact fun z=>nomatch z
theorem JK.rep{K:PySem.W.Frag}{H Hd:Hp}{l:Addr}{o:OD}(s:∀u,H l=some u->Hd l=some u)(h:JK K H Hd l o):j6 K Hd o.toD (.ref l):=by
 cases o with
 | lst ds=>obtain⟨vs,a,b⟩:=h; show j6 K Hd (.lst ds) _; rw[j6]; exact⟨l,vs,rfl,s _ a,b⟩
 | ins C ns ds=>obtain⟨dx,vs,a,n,b⟩:=h; show j6 K Hd (.ins C ns ds) _; rw[j6]; exact⟨l,dx,vs,rfl,s _ a,n,b⟩
 | dct ks vs=>obtain⟨kvs,ep,a,n,b,c⟩:=h; show j6 K Hd (.dct ks vs) _; rw[j6]; exact⟨l,kvs,ep,rfl,s _ a,n,b,c⟩
inductive Sl where
 | un
 | cl (d:D)
 | bo (d:D)
 | ow (q:Option Addr) (o:OD)
noncomputable abbrev j8:=List Sl
def RB(K:PySem.W.Frag)(O:List Addr)(H:Hp)(d:D)(v:V):Prop:=j6 K (ja H O) d v∨∃l o,v=.ref l/\d=OD.toD o/\JK K H (ja H O) l o
theorem RB.same{K:PySem.W.Frag}{O:List Addr}{H H':Hp}{d:D}{v:V}(s:j4 H H')(h:RB K O H d v):RB K O H' d v:=by
 rcases h with h | ⟨l,o,e1,e2,h1⟩
 ·exact .inl (h.same (jh s))
 ·exact .inr ⟨l,o,e1,e2,h1.same (s l) (jh s)⟩
theorem RB.full{K:PySem.W.Frag}{O:List Addr}{H:Hp}{d:D}{v:V}(h:RB K O H d v):j6 K H d v:=by
 rcases h with h | ⟨l,o,rfl,rfl,h1⟩
 ·exact h.same yD
 ·exact(h1.same (fun _ z=>z) yD).rep fun _ z=>z
theorem RB.lst{K:PySem.W.Frag}{O:List Addr}{H:Hp}{ds:List D}{v:V}(h:RB K O H (.lst ds) v):∃p xs,v=.ref p/\H p=some (.lst xs)/\j1 K (ja H O) ds xs:=by
 rcases h with h | ⟨l,o,rfl,e,h1⟩
 ·rw[j6]at h
  obtain⟨a,xs,rfl,q,r⟩:=h
  exact⟨a,xs,rfl,yD _ _ q,r⟩
 ·cases o <;> cases e
  obtain⟨vs,a,b⟩:=h1
  exact⟨l,vs,rfl,a,b⟩
theorem RB.tup{K:PySem.W.Frag}{O:List Addr}{H:Hp}{ds:List D}{v:V}(h:RB K O H (.tup ds) v):∃p xs,v=.ref p/\JB K H p xs/\j1 K (ja H O) ds xs:=by
 rcases h with h | ⟨l,o,rfl,e,h1⟩
 ·rw[j6]at h
  obtain⟨a,xs,rfl,q,r⟩:=h
  exact⟨a,xs,rfl,yD.tup q,r⟩
 ·cases o <;> cases e
theorem RB.int{K:PySem.W.Frag}{O:List Addr}{H:Hp}{i:Int}{v:V}(h:RB K O H (.int i) v):v=.int i:=by have:=h.full; rwa [j6]at this
theorem RB.bl{K:PySem.W.Frag}{O:List Addr}{H:Hp}{i:Bool}{v:V}(h:RB K O H (.bl i) v):v=.bl i:=by have:=h.full; rwa [j6]at this
theorem RB.str{K:PySem.W.Frag}{O:List Addr}{H:Hp}{i:Str}{v:V}(h:RB K O H (.str i) v):v=.str i:=by have:=h.full; rwa [j6]at this
theorem RB.non{K:PySem.W.Frag}{O:List Addr}{H:Hp}{v:V}(h:RB K O H .non v):v=.non:=by have:=h.full; rwa [j6]at this
theorem RB.ins{K:PySem.W.Frag}{O:List Addr}{H:Hp}{C:Addr}{ns:List Str}{ds:List D}{v:V}(h:RB K O H (.ins C ns ds) v):∃a dx xs,v=.ref a/\H a=some (.ins C dx (ns.zip xs))/\ns.length=xs.length/\j1 K (ja H O) ds xs:=by
 rcases h with h | ⟨l,o,rfl,e,h1⟩
 ·rw[j6]at h
  obtain⟨a,dx,xs,rfl,q,n,r⟩:=h
  exact⟨a,dx,xs,rfl,yD _ _ q,n,r⟩
 ·cases o <;> cases e
  obtain⟨dx,vs,a,n,b⟩:=h1
  exact⟨l,dx,vs,rfl,a,n,b⟩
theorem RB.dct{K:PySem.W.Frag}{O:List Addr}{H:Hp}{ks vs:List D}{v:V}(h:RB K O H (.dct ks vs) v):∃a kvs ep,v=.ref a/\H a=some (.dD kvs ep)/\jS ks=some (kvs.map (·.1))/\j1 K (ja H O) ks (kvs.map fun p=>V.ref p.2.1)/\j1 K (ja H O) vs (kvs.map (·.2.2)):=by
 rcases h with h | ⟨l,o,rfl,e,h1⟩
 ·rw[j6]at h
  obtain⟨a,kvs,ep,rfl,q,n,r⟩:=h
  exact⟨a,kvs,ep,rfl,yD _ _ q,n,r⟩
 ·cases o <;> cases e
  obtain⟨kvs,ep,a,n,b⟩:=h1
  exact⟨l,kvs,ep,rfl,a,n,b⟩
structure Rel (K:PySem.W.Frag) (H0:Hp) (O0:List Addr) (ρ:j8) (σ:L2.St) (H:Hp) (O:List Addr):Prop where
 len:σ.length=ρ.length
 sub:∀a∈O0,a∈O
 fr:∀a∈O,a∈O0∨H0 a=none
 al0:∀a∈O0,H0 a≠none
 al:∀a∈O,H a≠none
 keep:j4 H0 H
 cl:∀(i:Nat) (d:D),ρ[i]?=some (.cl d)->∃v,σ[i]?=some (some v)/\j6 K (ja H O) d v
 bo:∀(i:Nat) (d:D),ρ[i]?=some (.bo d)->∃v,σ[i]?=some (some v)/\RB K O0 H0 d v
 ow:∀(i:Nat) (q:Option Addr) (o:OD),ρ[i]?=some (.ow q o)->∃l,(∀p,q=some p->l=p)/\σ[i]?=some (some (.ref l))/\JK K H (ja H O) l o/\l∈O/\H0 l=none
 dist:∀(i j:Nat) (q q':Option Addr) (ds es:OD) (l:Addr),ρ[i]?=some (.ow q ds)->ρ[j]?=some (.ow q' es)->σ[i]?=some (some (.ref l))->σ[j]?=some (some (.ref l))->i=j
section
variable {K:PySem.W.Frag} {H0 H H':Hp} {O0 O:List Addr} {ρ:j8} {σ:L2.St}
theorem Rel.in0(R:Rel K H0 O0 ρ σ H O):j4 (ja H0 O0) (ja H O):=fun b o h=>by
 obtain⟨h1,h2⟩:=JP h
 rw[J3 (fun z=>by rcases R.fr b z with y | y; exact h1 y; rw[h2]at y; cases y)]
 exact R.keep _ _ h2
theorem Rel.grow(R:Rel K H0 O0 ρ σ H O)(s:j4 H H'):Rel K H0 O0 ρ σ H' O where
 len:=R.len
 sub:=R.sub
 fr:=R.fr
 al0:=R.al0
 al:=fun a h z=>R.al a h (s.none z)
 keep:=R.keep.trans s
 cl:=fun i d e=>by obtain⟨v,a,b⟩:=R.cl i d e; exact⟨v,a,b.same (jh s)⟩
 bo:=R.bo
 ow:=fun i q d e=>by obtain⟨l,z,a,b,d,f⟩:=R.ow i q d e; exact⟨l,z,a,b.same (s l) (jh s),d,f⟩
 dist:=R.dist
theorem Rel.new(R:Rel K H0 O0 ρ σ H O){p:Addr}(h:H p=none):p∉O:=fun z=>R.al p z h
theorem jJ{α:Type}{xs:List α}{i j:Nat}{x y:α}(h:(xs.set i x)[j]?=some y):(j=i/\y=x/\i < xs.length)∨(j≠i/\xs[j]?=some y):=by
 rw[List.getElem?_set]at h
 by_cases e:i=j
 ·subst e
  rw[if_pos rfl]at h
  split at h
  ·exact .inl ⟨rfl,(vFa h).symm,by assumption⟩
  ·cases h
 ·rw[if_neg e]at h
  exact .inr ⟨fun z=>e z.symm,h⟩
theorem vH{α:Type}{xs:List α}{i:Nat}{x:α}(h:i < xs.length):(xs.set i x)[i]?=some x:=by simp[h]
theorem Jq{α:Type}{xs:List α}{i j:Nat}{x:α}(h:j≠i):(xs.set i x)[j]?=xs[j]?:=by rw[List.getElem?_set,if_neg (fun z=>h z.symm)]
theorem Rel.set(R:Rel K H0 O0 ρ σ H O){d:D}{v:V}(q:j6 K (ja H O) d v)(i:Nat):Rel K H0 O0 (ρ.set i (.cl d)) (σ.set i (some v)) H O where
 len:=by rw[List.length_set,List.length_set]; exact R.len
 sub:=R.sub
 fr:=R.fr
 al0:=R.al0
 al:=R.al
 keep:=R.keep
 cl:=fun j d' e=>by
  rcases jJ e with⟨rfl,e',hi⟩ | ⟨ne,e'⟩
  ·cases e'; exact⟨v,vH (by rw[R.len]; exact hi),q⟩
  ·rw[Jq ne]; exact R.cl j d' e'
 bo:=fun j d' e=>by
  rcases jJ e with⟨rfl,e',hi⟩ | ⟨ne,e'⟩
  ·cases e'
  ·rw[Jq ne]; exact R.bo j d' e'
 ow:=fun j q' d' e=>by
  rcases jJ e with⟨rfl,e',hi⟩ | ⟨ne,e'⟩
  ·cases e'
  ·rw[Jq ne]; exact R.ow j q' d' e'
 dist:=fun j k q1 q2 ds es l e1 e2 s1 s2=>by
  rcases jJ e1 with⟨rfl,e',hi⟩ | ⟨ne,e1'⟩
  ·cases e'
  ·rcases jJ e2 with⟨rfl,e',hi⟩ | ⟨ne2,e2'⟩
   ·cases e'
   ·rw[Jq ne]at s1; rw[Jq ne2]at s2; exact R.dist j k q1 q2 ds es l e1' e2' s1 s2
theorem Rel.own(R:Rel K H0 O0 ρ σ H O){ds:OD}{l:Addr}(s:j4 H H')(hn:H l=none)(h:JK K H' (ja H' (l::O)) l ds)(i:Nat):Rel K H0 O0 (ρ.set i (.ow none ds)) (σ.set i (some (.ref l))) H' (l::O) where
 len:=by rw[List.length_set,List.length_set]; exact R.len
 sub:=fun a h=>wMa _ (R.sub a h)
 fr:=fun a ha=>by
  rcases List.mem_cons.mp ha with rfl | ha
  ·exact .inr (R.keep.none hn)
  ·exact R.fr a ha
 al0:=R.al0
 al:=fun a ha=>by
  rcases List.mem_cons.mp ha with rfl | ha
  ·exact h.there
  ·exact fun z=>R.al a ha (s.none z)
 keep:=R.keep.trans s
 cl:=fun j d' e=>by
  rcases jJ e with⟨rfl,e',hi⟩ | ⟨ne,e'⟩
  ·cases e'
  ·rw[Jq ne]
   obtain⟨v,a,b⟩:=R.cl j d' e'
   exact⟨v,a,b.same (ZP s hn)⟩
 bo:=fun j d' e=>by
  rcases jJ e with⟨rfl,e',hi⟩ | ⟨ne,e'⟩
  ·cases e'
  ·rw[Jq ne]; exact R.bo j d' e'
 ow:=fun j q' d' e=>by
  rcases jJ e with⟨rfl,e',hi⟩ | ⟨ne,e'⟩
  ·cases e'; exact⟨l,(fun p z=>nomatch z),vH (by rw[R.len]; exact hi),h,wNa,R.keep.none hn⟩
  ·rw[Jq ne]
   obtain⟨l',z,a,b,d,f⟩:=R.ow j q' d' e'
   exact⟨l',z,a,b.same (s l') (ZP s hn),wMa _ d,f⟩
 dist:=fun j k q1 q2 ds' es l' e1 e2 s1 s2=>by
  have other:∀(j:Nat) (q:Option Addr) (ds:OD),ρ[j]?=some (.ow q ds)->σ[j]?≠some (some (.ref l)):=fun j q ds e z=>by
   obtain⟨l2,_,a,b,_⟩:=R.ow j q ds e
   rw[z]at a
   cases a
   exact b.there hn
  rcases jJ e1 with⟨rfl,e',hi⟩ | ⟨ne,e1'⟩
  ·rcases jJ e2 with⟨rfl,e'',hi'⟩ | ⟨ne2,e2'⟩
   ·rfl
   ·rw[vH (by rw[R.len]; exact hi)]at s1
    cases s1
    rw[Jq ne2]at s2
    exact vDa s2 (other k q2 es e2')
  ·rcases jJ e2 with⟨rfl,e',hi⟩ | ⟨ne2,e2'⟩
   ·rw[vH (by rw[R.len]; exact hi)]at s2
    cases s2
    rw[Jq ne]at s1
    exact vDa s1 (other j q1 ds' e1')
   ·rw[Jq ne]at s1; rw[Jq ne2]at s2; exact R.dist j k q1 q2 ds' es l' e1' e2' s1 s2
theorem Rel.change(R:Rel K H0 O0 ρ σ H O){qq:Option Addr}{ds ds':OD}{u:HO}{l:Addr}{i:Nat}(e:ρ[i]?=some (.ow qq ds))(hq:∀p,qq=some p->l=p)(hi:σ[i]?=some (some (.ref l)))(hl:l∈O)(h0:H0 l=none)(q:JK K (upd H l u) (ja H O) l ds'):Rel K H0 O0 (ρ.set i (.ow qq ds')) σ (upd H l u) O where
 len:=by rw[List.length_set]; exact R.len
 sub:=R.sub
 fr:=R.fr
 al0:=R.al0
 al:=fun a ha=>by
  by_cases z:a=l
  ·rw[z,J2]; exact fun z=>nomatch z
  ·rw[jl z]; exact R.al a ha
 keep:=R.keep.upd h0 _
 cl:=fun j d' e=>by
  rcases jJ e with⟨rfl,e',hi⟩ | ⟨ne,e'⟩
  ·cases e'
  ·rw[Yo hl]; exact R.cl j d' e'
 bo:=fun j d' e=>by
  rcases jJ e with⟨rfl,e',hi⟩ | ⟨ne,e'⟩
  ·cases e'
  ·exact R.bo j d' e'
 ow:=fun j q' d' e2=>by
  rw[Yo hl]
  rcases jJ e2 with⟨rfl,e',_⟩ | ⟨ne,e'⟩
  ·cases e'; exact⟨l,hq,hi,q,hl,h0⟩
  ·obtain⟨l',z,a,b,d,f⟩:=R.ow j q' d' e'
   refine⟨l',z,a,b.same (fun u h=>?_) (j4.refl _),d,f⟩
   rw[jl]
   ·exact h
   ·rintro rfl
    exact ne (R.dist j i _ _ _ _ _ e' e a hi)
 dist:=fun j k q1 q2 ds1 es l' e1 e2 s1 s2=>by
  have f:∀(j:Nat) (q:Option Addr) (ds1:OD),(ρ.set i (.ow qq ds'))[j]?=some (.ow q ds1)->∃q2 ds2,ρ[j]?=some (.ow q2 ds2):=fun j q ds1 z=>by
   rcases jJ z with⟨rfl,_,_⟩ | ⟨_,z⟩
   ·exact⟨_,_,e⟩
   ·exact⟨_,_,z⟩
  obtain⟨_,d1,f1⟩:=f j _ _ e1
  obtain⟨_,d2,f2⟩:=f k _ _ e2
  exact R.dist j k _ _ _ _ l' f1 f2 s1 s2
theorem Rel.share(R:Rel K H0 O0 ρ σ H O){q:Option Addr}{ds:OD}{i:Nat}(e:ρ[i]?=some (.ow q ds)):∃O',Rel K H0 O0 (ρ.set i (.cl ds.toD)) σ H O'/\j4 (ja H O) (ja H O'):=by
 obtain⟨l,_,hs,q,lo,h0⟩:=R.ow i q ds e
 have ss:j4 (ja H O) (ja H (O.filter (·≠l))):=yT fun a h=>(List.mem_filter.mp h).1
 have nin:l∉O.filter (·≠l):=fun z=>by simpa using (List.mem_filter.mp z).2
 refine⟨O.filter (·≠l),⟨by rw[List.length_set]; exact R.len,fun a h=>List.mem_filter.mpr ⟨R.sub a h,?_⟩,fun a h=>R.fr a (List.mem_filter.mp h).1,R.al0,fun a h=>R.al a (List.mem_filter.mp h).1,R.keep,?_,?_,?_,?_⟩,ss⟩
 ·have z:a≠l:=by
   rintro rfl
   exact R.al0 a h h0
  simpa using z
 ·intro j d' e2
  rcases jJ e2 with⟨rfl,e',hi⟩ | ⟨ne,e'⟩
  ·cases e'
   exact⟨_,hs,(q.same (fun _ z=>z) ss).rep fun u z=>by rw[J3 nin]; exact z⟩
  ·obtain⟨v,a,b⟩:=R.cl j d' e'
   exact⟨v,a,b.same ss⟩
 ·intro j d' e2
  rcases jJ e2 with⟨rfl,e',hi⟩ | ⟨ne,e'⟩
  ·cases e'
  ·exact R.bo j d' e'
 ·intro j q' d' e2
  rcases jJ e2 with⟨rfl,e',hi⟩ | ⟨ne,e'⟩
  ·cases e'
  ·obtain⟨l',z,a,b,d,f⟩:=R.ow j q' d' e'
   refine⟨l',z,a,b.same (fun _ z=>z) ss,List.mem_filter.mpr ⟨d,?_⟩,f⟩
   have z:l'≠l:=by
    rintro rfl
    exact ne (R.dist j i _ _ _ _ _ e' e a hs)
   simpa using z
 ·intro j k q1 q2 ds1 es l' e1 e2 s1 s2
  rcases jJ e1 with⟨rfl,e',hi⟩ | ⟨ne,e1'⟩
  ·cases e'
  ·rcases jJ e2 with⟨rfl,e',hi⟩ | ⟨ne2,e2'⟩
   ·cases e'
   ·exact R.dist j k _ _ _ _ l' e1' e2' s1 s2
end
end DS
namespace DS
open PySem PySem.Spec PyProof.Rows L2
abbrev DE:=j8->Option D
abbrev DO:=j8->Option OD
noncomputable abbrev Fr:=PySem.W.Frag
def tE(K:Fr)(de:DE):TE:=fun σ H Q=>∃H0 O0 ρ O d,Rel K H0 O0 ρ σ H O/\de ρ=some d/\∀v H',j4 H H'->j6 K (ja H' O) d v->Q v H'
def tR(K:Fr)(de:DE):TE:=fun σ H Q=>∃H0 O0 ρ O d,Rel K H0 O0 ρ σ H O/\de ρ=some d/\∀v H',j4 H H'->RB K O H' d v->Q v H'
def tF(K:Fr)(de:DO):TE:=fun σ H Q=>∃H0 O0 ρ O o,Rel K H0 O0 ρ σ H O/\de ρ=some o/\∀l H',j4 H H'->H l=none->JK K H' (ja H' (l::O)) l o->Q (.ref l) H'
def tT(K:Fr)(dt:j8->Option Bool):TT:=fun σ H Q=>∃H0 O0 ρ O b,Rel K H0 O0 ρ σ H O/\dt ρ=some b/\∀H',j4 H H'->Q b H'
def AK(K:Fr)(O:List Addr)(H:Hp):Bool->D->V->Prop
 | true,d,v=>j6 K (ja H O) d v
 | false,d,v=>RB K O H d v
def yh(K:Fr)(O:List Addr)(H:Hp):List Bool->List D->List V->Prop
 | [],[],[]=>True
 | k::ks,d::ds,v::vs=>AK K O H k d v/\yh K O H ks ds vs
 | _,_,_=>False
theorem AK.same{K:Fr}{O:List Addr}{H H':Hp}(s:j4 H H'):∀{k:Bool} {d:D} {v:V},AK K O H k d v->AK K O H' k d v
 | true,_,_,h=>j6.same (jh s) h
 | false,_,_,h=>RB.same s h
theorem AK.rb{K:Fr}{O:List Addr}{H:Hp}:∀{k:Bool} {d:D} {v:V},AK K O H k d v->RB K O H d v
 | true,_,_,h=>.inl h
 | false,_,_,h=>h
theorem yh.same{K:Fr}{O:List Addr}{H H':Hp}(s:j4 H H'):∀{ks:List Bool} {ds:List D} {vs:List V},yh K O H ks ds vs->yh K O H' ks ds vs
 | [],[],[],_=>trivial
 | _::_,_::_,_::_,h=>⟨AK.same s h.1,yh.same s h.2⟩
 | [],[],_::_,h=>h.elim
 | [],_::_,_,h=>h.elim
 | _::_,[],_,h=>h.elim
 | _::_,_::_,[],h=>h.elim
noncomputable abbrev DA:=List (Bool×DE)
@[simp] noncomputable def yl:DA->j8->Option (List D)
 | [],_=>some []
 | p::ps,ρ=>(p.2 ρ).bind fun d=>(yl ps ρ).bind fun ds=>some (d::ds)
def YB(K:Fr)(l:DA):TA:=fun σ H Q=>∃H0 O0 ρ O ds,Rel K H0 O0 ρ σ H O/\yl l ρ=some ds/\∀vs H',j4 H H'->yh K O H' (l.map (·.1)) ds vs->Q vs H'
section
variable {X:Cx} {K:Fr} {e a b c d:Expr} {de da db dc dd:DE} {pos:Pos}
theorem jz{t t':TE}(h:PE X e t)(f:∀σ H Q,t' σ H Q->t σ H Q):PE X e t':=fun pins s σ H Q I q=>h pins s σ H Q I (f σ H Q q)
theorem kl{t t':TT}(h:PT X e t)(f:∀σ H Q,t' σ H Q->t σ H Q):PT X e t':=fun pins s σ H Q I q=>h pins s σ H Q I (f σ H Q q)
theorem aW{t t':TT}(h:PW X e t)(f:∀σ H Q,t' σ H Q->t σ H Q):PW X e t':=fun w pins s σ H Q I q=>h w pins s σ H Q I (f σ H Q q)
theorem km{es:List Expr}{t t':TA}(h:PA X es t)(f:∀σ H Q,t' σ H Q->t σ H Q):PA X es t':=fun p pins s σ H Q I q=>h p pins s σ H Q I (f σ H Q q)
theorem Hh(h:PE X e (tE K de)):PE X e (tR K de):=jz h fun σ H Q ⟨H0,O0,ρ,O,d,R,ed,q⟩=>⟨H0,O0,ρ,O,d,R,ed,fun v H' s r=>q v H' s (.inl r)⟩
def dL(df:DO):DE:=fun ρ=>(df ρ).bind fun l=>some l.toD
@[simp] theorem Hi(df:DO){ρ:j8}:dL df ρ=(df ρ).bind fun l=>some l.toD:=rfl
theorem j0{α β:Type}{o:Option α}{f:α->Option β}{y:β}(h:o.bind f=some y):∃x,o=some x/\f x=some y:=by
 cases o with
 | none=>cases h
 | some x=>exact⟨x,rfl,h⟩
theorem Hj{df:DO}(h:PE X e (tF K df)):PE X e (tE K (dL df)):=jz h fun σ H Q ⟨H0,O0,ρ,O,d,R,ed,q⟩=>by
 obtain⟨ds,e1,e2⟩:=j0 ed
 cases e2
 exact⟨H0,O0,ρ,O,ds,R,e1,fun l H' s hn r=>q _ _ s ((r.same (fun _ z=>z) (yT fun a h=>wMa _ h)).rep fun u z=>by rw[J3 (R.new hn)]; exact z)⟩
def dV(i:Nat):DE:=fun ρ=>match ρ[i]? with
 | some (.cl d)=>some d
 | some (.bo d)=>some d
 | some (.ow _ o)=>some o.toD
 | _=>none
@[simp] theorem Hk(i:Nat){ρ:j8}:dV i ρ=match ρ[i]? with
 | some (.cl d)=>some d
 | some (.bo d)=>some d
 | some (.ow _ o)=>some o.toD
 | _=>none:=rfl
noncomputable def dC(i:Nat):DE:=fun ρ=>match ρ[i]? with
 | some (.cl d)=>some d
 | _=>none
@[simp] theorem l5(i:Nat){ρ:j8}:dC i ρ=match ρ[i]? with
 | some (.cl d)=>some d
 | _=>none:=rfl
theorem EF(i:Nat){x:Str}(h:PE X (.Name x pos) (YY i)):PE X (.Name x pos) (tR K (dV i)):=jz h fun σ H Q ⟨H0,O0,ρ,O,d,R,ed,q⟩=>by
 unfold dV at ed
 split at ed
 ·cases ed
  obtain⟨v,e1,r⟩:=R.cl i _ (by assumption)
  exact⟨v,e1,q v H (j4.refl H) (.inl r)⟩
 ·cases ed
  obtain⟨v,e1,r⟩:=R.bo i _ (by assumption)
  refine⟨v,e1,q v H (j4.refl H) ?_⟩
  rcases r with r | ⟨l,o,e2,e3,h1⟩
  ·exact .inl (r.same R.in0)
  ·exact .inr ⟨l,o,e2,e3,h1.same (R.keep l) R.in0⟩
 ·cases ed
  obtain⟨l,_,e1,h1,_⟩:=R.ow i _ _ (by assumption)
  exact⟨_,e1,q _ H (j4.refl H) (.inr ⟨l,_,rfl,rfl,h1⟩)⟩
 ·cases ed
theorem aX(i:Nat){x:Str}(h:PE X (.Name x pos) (YY i)):PE X (.Name x pos) (tE K (dC i)):=jz h fun σ H Q ⟨H0,O0,ρ,O,d,R,ed,q⟩=>by
 unfold dC at ed
 split at ed
 ·cases ed
  obtain⟨v,e1,r⟩:=R.cl i _ (by assumption)
  exact⟨v,e1,q v H (j4.refl H) r⟩
 ·cases ed
noncomputable def dK(d:D):DE:=fun _=>some d
@[simp] theorem l6(d:D){r:j8}:dK d r=some d:=rfl
theorem UR{v:V}{d:D}(h:PE X e (tC v))(r:∀H,j6 K H d v):PE X e (tE K (dK d)):=jz h fun σ H Q ⟨H0,O0,ρ,O,d',R,ed,q⟩=>by
 cases ed
 exact q v H (j4.refl H) (r _)
theorem EG{i j}:PE X (.Constant (.int i) j pos) (tE K (dK (.int i))):=UR BU fun _=>by rw[j6]
theorem Hl{i j}:PE X (.Constant (.bool i) j pos) (tE K (dK (.bl i))):=UR Ef fun _=>by rw[j6]
theorem EH{j}:PE X (.Constant .none j pos) (tE K (dK .non)):=UR BV fun _=>by rw[j6]
theorem EI{i j}:PE X (.Constant (.str i) j pos) (tE K (dK (.str i))):=UR qQ fun _=>by rw[j6]
theorem Cj{x:Str}{i:Int}(h:PE X (.Name x pos) (tC (.int i))):PE X (.Name x pos) (tE K (dK (.int i))):=UR h fun _=>by rw[j6]
noncomputable def d2(f:D->D->Option D)(da db:DE):DE:=fun ρ=>(da ρ).bind fun x=>(db ρ).bind fun y=>f x y
@[simp] theorem Hm(f:D->D->Option D)(da db:DE){ρ:j8}:d2 f da db ρ=(da ρ).bind fun x=>(db ρ).bind fun y=>f x y:=rfl
noncomputable def d1(f:D->Option D)(da:DE):DE:=fun ρ=>(da ρ).bind f
@[simp] theorem l7(f:D->Option D)(da:DE){ρ:j8}:d1 f da ρ=(da ρ).bind f:=rfl
def Jh(K:Fr)(r:R2)(f:D->D->Option D):Prop:=∀(O:List Addr) (H:Hp) (a b d:D) (x y:V) (Q:VK),RB K O H a x->RB K O H b y->(∀p,H p=none->p∉O)->f a b=some d->(∀v H',j4 H H'->j6 K (ja H' O) d v->Q v H')->r x y H Q
theorem US{r:R2}{f:D->D->Option D}(hf:Jh K r f):∀σ H Q,tE K (d2 f da db) σ H Q->qY r (tR K da) (tR K db) σ H Q:=fun σ H Q ⟨H0,O0,ρ,O,d,R,ed,q⟩=>by
 obtain⟨x,ex,ed⟩:=j0 ed
 obtain⟨y,ey,ed⟩:=j0 ed
 exact⟨H0,O0,ρ,O,x,R,ex,fun vx H1 s1 rx=>⟨H0,O0,ρ,O,y,R.grow s1,ey,fun vy H2 s2 ry=>hf O H2 x y d vx vy Q (rx.same s2) ry (fun p hp=>(R.grow (s1.trans s2)).new hp) ed fun v H' s r=>q v H' ((s1.trans s2).trans s) r⟩⟩
theorem Hn{op:Operator}{r:R2}{f:D->D->Option D}(ho:jI X (binaryOp op) r)(hf:Jh K r f)(ha:PE X a (tR K da))(hb:PE X b (tR K db)):PE X (.BinOp a op b pos) (tE K (d2 f da db)):=jz (aB ho ha hb) (US hf)
theorem EJ{op:CmpOp}{r:R2}{f:D->D->Option D}(ho:jI X (compareOp op) r)(hf:Jh K r f)(ha:PE X a (tR K da))(hb:PE X b (tR K db))(hm:behindInMarks op b=false):PE X (.Compare a [op] [b] pos) (tE K (d2 f da db)):=jz (bn ho ha hb hm) (US hf)
theorem Cl{r:R2}{f:D->D->Option D}(ho:VU X r)(hf:Jh K r f)(ha:PE X a (tR K da))(hb:PE X b (tR K db))(hs:gM b):PE X (.Subscript a b pos) (tE K (d2 f da db)):=jz (Ez ho ha hb hs) (US hf)
def X7(K:Fr)(r:R2)(f:D->D->Option OD):Prop:=∀(O:List Addr) (H:Hp) (a b:D) (ds:OD) (x y:V) (Q:VK),RB K O H a x->RB K O H b y->f a b=some ds->(∀l H',j4 H H'->H l=none->JK K H' (ja H' (l::O)) l ds->Q (.ref l) H')->r x y H Q
noncomputable def kW(f:D->D->Option OD)(da db:DE):DO:=fun ρ=>(da ρ).bind fun x=>(db ρ).bind fun y=>f x y
@[simp] theorem IL(f:D->D->Option OD)(da db:DE){ρ:j8}:kW f da db ρ=(da ρ).bind fun x=>(db ρ).bind fun y=>f x y:=rfl
theorem Cm{op:Operator}{r:R2}{f:D->D->Option OD}(ho:jI X (binaryOp op) r)(hf:X7 K r f)(ha:PE X a (tR K da))(hb:PE X b (tR K db)):PE X (.BinOp a op b pos) (tF K (kW f da db)):=jz (aB ho ha hb) fun σ H Q ⟨H0,O0,ρ,O,d,R,ed,q⟩=>by
 obtain⟨x,ex,ed⟩:=j0 ed
 obtain⟨y,ey,ed⟩:=j0 ed
 exact⟨H0,O0,ρ,O,x,R,ex,fun vx H1 s1 rx=>⟨H0,O0,ρ,O,y,R.grow s1,ey,fun vy H2 s2 ry=>hf O H2 x y d vx vy Q (rx.same s2) ry ed fun l H' s hn r=>q l H' ((s1.trans s2).trans s) ((s1.trans s2).none hn) r⟩⟩
@[simp] noncomputable def fI(C:Int->Int->Bool)(g:Int->Int->D):D->D->Option D
 | .int i,.int j=>if C i j=true then some (g i j)else none
 | _,_=>none
noncomputable def vD:D->Option V
 | .int i=>some (.int i)
 | .bl i=>some (.bl i)
 | .str i=>some (.str i)
 | .non=>some .non
 | _=>none
theorem Cn{K:Fr}{H:Hp}{d:D}{v:V}(h:vD d=some v):j6 K H d v:=by
 cases d <;> first | (cases h; rw[j6]) | cases h
theorem kX{C:Int->Int->Bool}{P:Int->Int->Prop}{g:Int->Int->D}{gv:Int->Int->V}(hP:∀i j,C i j=true->P i j)(hg:∀i j,vD (g i j)=some (gv i j)):Jh K (rI P gv) (fI C g):=by
 intro O H a b d x y Q ha hb _ e q
 unfold fI at e
 split at e
 ·split at e
  ·cases e
   exact⟨_,_,ha.int,hb.int,hP _ _ (by assumption),q _ H (j4.refl H) (Cn (hg _ _))⟩
  ·cases e
 ·cases e
theorem UT{g:Int->Int->D}{gv:Int->Int->V}(hg:∀i j,vD (g i j)=some (gv i j)):Jh K (zR gv) (fI (fun _ _=>true) g):=by
 intro O H a b d x y Q ha hb hn e q
 obtain⟨i,j,e1,e2,_,q⟩:=kX (K:=K) (P:=fun _ _=>True) (fun _ _ _=>trivial) hg O H a b d x y Q ha hb hn e q
 exact⟨i,j,e1,e2,q⟩
noncomputable abbrev V2:=fI (fun _ _=>true) fun i j=>.int (i - j)
noncomputable def VZ(i j:Int):Bool:=Nat.blt i.natAbs 18446744073709551616||Nat.blt j.natAbs 18446744073709551616
abbrev aY:=fI VZ fun i j=>.int (i * j)
noncomputable abbrev jq:=fI (fun _ j=>decide (0 < j)) fun i j=>.int (i % j)
noncomputable abbrev gQ:=fI (fun _ j=>decide (0 < j)&&decide (j < 1073741824)) fun i j=>.int (i / j)
@[simp] noncomputable def WW(i j:Int):Bool:=decide (0<=j)&&(decide (j<=1000000)&&decide (i.natAbs < 2 ^ 64))
abbrev Uk:=fI WW fun i j=>.int (i ^ j.toNat)
noncomputable abbrev JD:=fI (fun _ _=>true) fun i j=>.bl (decide (i < j))
noncomputable abbrev jM:=fI (fun _ _=>true) fun i j=>.bl (decide (i<=j))
noncomputable abbrev yM:=fI (fun _ _=>true) fun i j=>.bl (decide (j < i))
noncomputable abbrev Qj:=fI (fun _ _=>true) fun i j=>.bl (decide (j<=i))
theorem EK:Jh K (zR fun i j=>.int (i - j)) V2:=UT fun _ _=>rfl
theorem EL:Jh K (rI Ui fun i j=>.int (i * j)) aY:=kX (fun i j h=>by
 unfold VZ at h
 rw[Bool.or_eq_true,Nat.blt_eq,Nat.blt_eq]at h
 unfold Ui
 have e:(2:Int) ^ 64=18446744073709551616:=by decide
 rw[e]
 rcases h with h | h
 ·exact .inl ⟨by omega,by omega⟩
 ·exact .inr ⟨by omega,by omega⟩) fun _ _=>rfl
theorem EM:Jh K (rI (fun _ j=>0 < j) fun i j=>.int (i % j)) jq:=kX (fun i j h=>by simpa using h) fun _ _=>rfl
theorem EN:Jh K (rI xM fun i j=>.int (i / j)) gQ:=kX (fun i j h=>by simpa[xM]using h) fun _ _=>rfl
theorem EO:Jh K (rI xN fun i j=>.int (i ^ j.toNat)) Uk:=kX (fun i j h=>by simpa[xN,WW]using h) fun _ _=>rfl
theorem Ho:Jh K (zR fun i j=>.bl (decide (i < j))) JD:=UT fun _ _=>rfl
theorem Hq:Jh K (zR fun i j=>.bl (decide (i<=j))) jM:=UT fun _ _=>rfl
theorem Hr:Jh K (zR fun i j=>.bl (decide (j < i))) yM:=UT fun _ _=>rfl
theorem Hs:Jh K (zR fun i j=>.bl (decide (j<=i))) Qj:=UT fun _ _=>rfl
noncomputable def vI:D->Bool
 | .non=>true
 | _=>false
@[simp] theorem i8:vI .non=true:=rfl
@[simp] theorem iZ(b:Bool):vI (.bl b)=false:=rfl
@[simp] theorem i9(b:Int):vI (.int b)=false:=rfl
@[simp] theorem ic(b:Str):vI (.str b)=false:=rfl
@[simp] theorem ie(b:List D):vI (.tup b)=false:=rfl
@[simp] theorem ig(b:List D):vI (.lst b)=false:=rfl
theorem aZ{H:Hp}{d:D}{v:V}(h:j6 K H d v):decide (v=.non)=vI d:=by
 cases d <;> rw[j6]at h
 all_goals first
  | (subst h; rfl)
  | (obtain⟨_,_,rfl,_⟩:=h; rfl)
  | (obtain⟨_,_,_,rfl,_⟩:=h; rfl)
  | (obtain⟨_,rfl,_⟩:=h; rfl)
def X8:D->D->Option D
 | d,.non=>some (.bl (vI d))
 | _,_=>none
def uH:D->D->Option D
 | d,.non=>some (.bl (!vI d))
 | _,_=>none
@[simp] theorem Fx(d:D):uH d .non=some (.bl (!vI d)):=by cases d <;> rfl
theorem EQ:Jh K (fun x y H Q=>y=.non/\Q (.bl (decide (x=.non))) H) X8:=by
 intro O H a b d x y Q ha hb _ e q
 unfold X8 at e
 split at e
 ·cases e
  exact⟨hb.non,q _ H (j4.refl H) (by rw[j6,aZ ha.full])⟩
 ·cases e
theorem Co:Jh K (fun x y H Q=>y=.non/\Q (.bl (!decide (x=.non))) H) uH:=by
 intro O H a b d x y Q ha hb _ e q
 unfold uH at e
 split at e
 ·cases e
  exact⟨hb.non,q _ H (j4.refl H) (by rw[j6,aZ ha.full])⟩
 ·cases e
@[simp] noncomputable def kY:D->D->Option D
 | .int i,.int j=>some (.bl (decide (i=j)))
 | .bl i,.bl j=>some (.bl (decide (i=j)))
 | .str i,.str j=>some (.bl (decide (i=j)))
 | _,_=>none
@[simp] def X9(a b:D):Option D:=(kY a b).bind fun r=>match r with | .bl c=>some (.bl (!c)) | _=>none
theorem vA(x y:Int):decide (V.int x=V.int y)=decide (x=y):=by simp
theorem VQ(x y:Bool):decide (V.bl x=V.bl y)=decide (x=y):=by simp
theorem vB(x y:Str):decide (V.str x=V.str y)=decide (x=y):=by simp
theorem ER:Jh K aE kY:=by
 intro O H a b d x y Q ha hb _ e q
 unfold kY at e
 split at e
 ·cases e
  rw[ha.int,hb.int]
  exact⟨rfl,q _ H (j4.refl H) (by rw[j6,vA])⟩
 ·cases e
  rw[ha.bl,hb.bl]
  exact⟨rfl,q _ H (j4.refl H) (by rw[j6,VQ])⟩
 ·cases e
  rw[ha.str,hb.str]
  exact⟨rfl,q _ H (j4.refl H) (by rw[j6,vB])⟩
 ·cases e
theorem ES:Jh K aF X9:=by
 intro O H a b d x y Q ha hb _ e q
 unfold X9 kY at e
 obtain⟨r,e1,e2⟩:=j0 e
 split at e1
 ·cases e1; cases e2
  rw[ha.int,hb.int]
  exact⟨rfl,q _ H (j4.refl H) (by rw[j6,vA])⟩
 ·cases e1; cases e2
  rw[ha.bl,hb.bl]
  exact⟨rfl,q _ H (j4.refl H) (by rw[j6,VQ])⟩
 ·cases e1; cases e2
  rw[ha.str,hb.str]
  exact⟨rfl,q _ H (j4.refl H) (by rw[j6,vB])⟩
 ·cases e1
def jb:D->D->Option D
 | .lst l,.int i=>atI l i
 | .tup l,.int i=>atI l i
 | _,_=>none
@[simp] theorem ii(l:List D)(i:Int):jb (.lst l) (.int i)=L2.atI l i:=rfl
@[simp] theorem ij(l:List D)(i:Int):jb (.tup l) (.int i)=L2.atI l i:=rfl
theorem j1.atI{H:Hp}{l:List D}{xs:List V}{i:Int}{d:D}(h:j1 K H l xs)(e:L2.atI l i=some d):∃v,L2.atI xs i=some v/\j6 K H d v:=by
 unfold L2.atI at e⊢
 rw[h.len]
 obtain⟨j,e1,e2⟩:=j0 e
 obtain⟨v,e3,r⟩:=h.get e2
 exact⟨v,by rw[e1]; exact e3,r⟩
theorem Ht:Jh K (Fs K) jb:=by
 intro O H a b d x y Q ha hb _ e q
 unfold jb at e
 split at e
 ·obtain⟨p,xs,rfl,h1,h2⟩:=ha.lst
  obtain⟨v,e3,r⟩:=h2.atI e
  exact .inl ⟨p,xs,_,v,rfl,hb.int,jt.of h1,e3,q v H (j4.refl H) r⟩
 ·obtain⟨p,xs,rfl,h1,h2⟩:=ha.tup
  obtain⟨v,e3,r⟩:=h2.atI e
  exact .inr (.inl ⟨p,xs,_,v,rfl,hb.int,h1,e3,q v H (j4.refl H) r⟩)
 ·cases e
@[simp] noncomputable def gR:D->D->Option OD
 | .lst l,.lst m=>if l.length+m.length<=sizeLine then some (.lst (l++m))else none
 | _,_=>none
theorem JQ{O:List Addr}{H:Hp}{p:Addr}{ds:List D}{vs:List V}(hp:H p=none)(r:j1 K (ja H O) ds vs):JK K (upd H p (.lst vs)) (ja (upd H p (.lst vs)) (p::O)) p (.lst ds):=⟨vs,J2,r.same (ZP (jK hp _) hp)⟩
theorem ET:X7 K Cd gR:=by
 intro O H a b ds x y Q ha hb e q
 unfold gR at e
 split at e
 ·split at e
  ·cases e
   obtain⟨p,xs,rfl,h1,h2⟩:=ha.lst
   obtain⟨p',xs',rfl,h1',h2'⟩:=hb.lst
   exact⟨p,p',xs,xs',rfl,rfl,h1,h1',by rw[h2.len,h2'.len]; assumption,fun l hl=>q l _ (jK hl _) hl (JQ hl (h2.app h2'))⟩
  ·cases e
 ·cases e
theorem yE{O:List Addr}{H:Hp}{p:Addr}{ds:List D}{vs:List V}(hO:p∉O)(hp:H p=none)(r:j1 K (ja H O) ds vs):j6 K (ja (upd H p (.tup vs)) O) (.tup ds) (.ref p):=by
 rw[j6]
 refine⟨p,vs,rfl,JB.of ?_,r.same (jh (jK hp _))⟩
 rw[J3 hO,J2]
@[simp] noncomputable def jB:D->D->Option D
 | .int i,.int j=>some (.int (i+j))
 | .str i,.str j=>if i.length+j.length<=sizeLine then some (.str (i++j))else none
 | .tup l,.tup m=>if l.length+m.length<=sizeLine/\l≠[]then some (.tup (l++m))else none
 | _,_=>none
theorem EU:Jh K (fun x y H Q=>zR (fun i j=>.int (i+j)) x y H Q∨(fun x y H Q=>WQ K x y H Q∨(fun x y H Q=>∃i j,x=.str i/\y=.str j/\i.length+j.length<=sizeLine/\Q (.str (i++j)) H) x y H Q) x y H Q) jB:=by
 intro O H a b d x y Q ha hb hn e q
 unfold jB at e
 split at e
 ·cases e
  exact .inl ⟨_,_,ha.int,hb.int,q _ H (j4.refl H) (by rw[j6])⟩
 ·split at e
  ·cases e
   exact .inr (.inr ⟨_,_,ha.str,hb.str,by assumption,q _ H (j4.refl H) (by rw[j6])⟩)
  ·cases e
 ·split at e
  ·rename_i hh
   cases e
   obtain⟨p,xs,rfl,h1,h2⟩:=ha.tup
   obtain⟨p',xs',rfl,h1',h2'⟩:=hb.tup
   have l1:=h2.len
   have l2:=h2'.len
   refine .inr (.inl ⟨p,p',xs,xs',rfl,rfl,h1,h1',fun z=>hh.2 (List.length_eq_zero_iff.mp (by rw[<-l1,z]; rfl)),by rw[l1,l2]; exact hh.1,fun z=>?_,fun _ l hl=>q _ _ (jK hl _) (yE (hn l hl) hl (h2.app h2'))⟩)
   refine q _ H (j4.refl H) ?_
   have e0:∀m:List D,xs'.length=m.length->xs'=[]->m=[]:=fun m h z=>List.length_eq_zero_iff.mp (by rw[<-h,z]; rfl)
   rw[e0 _ l2 z,List.append_nil]
   rcases ha with ha | ⟨_,o,_,z,_⟩
   ·exact ha
   ·cases o <;> cases z
  ·cases e
 ·cases e
@[simp] noncomputable def WX:D->D->Option OD
 | .lst l,.int k=>if -(2 ^ 63)<=k/\k < 2 ^ 63/\l.length * k.toNat<=sizeLine then some (.lst (List.replicate k.toNat l).flatten)else none
 | _,_=>none
theorem j1.flat{H:Hp}{l:List D}{xs:List V}(h:j1 K H l xs):∀n:Nat,j1 K H (List.replicate n l).flatten (List.replicate n xs).flatten
 | 0=>j1.nil
 | n+1=>by rw[List.replicate_succ,List.flatten_cons,List.replicate_succ,List.flatten_cons]; exact h.app (h.flat n)
theorem Cp:X7 K Cf WX:=by
 intro O H a b ds x y Q ha hb e q
 unfold WX at e
 split at e
 ·split at e
  ·rename_i hh
   cases e
   obtain⟨p,xs,rfl,h1,h2⟩:=ha.lst
   exact⟨p,_,xs,rfl,hb.int,h1,hh.1,hh.2.1,by rw[h2.len]; exact hh.2.2,fun l hl=>q l _ (jK hl _) hl (JQ hl (h2.flat _))⟩
  ·cases e
 ·cases e
end
end DS
namespace DS
open PySem PySem.Spec PyProof.Rows L2
section
variable {X:Cx} {K:Fr} {e a b c d:Expr} {de da db dc dd:DE} {pos:Pos}
@[simp] noncomputable def V_(z:D)(yes:Option D):Option D:=match z with
 | .bl true=>yes
 | .bl false=>some (.bl false)
 | _=>none
theorem ZQ{z d:D}{y:Option D}(h:V_ z y=some d):∃k,z=.bl k/\((k=true/\y=some d)∨(k=false/\d=.bl false)):=by
 unfold V_ at h
 split at h
 ·exact⟨true,rfl,.inl ⟨rfl,h⟩⟩
 ·exact⟨false,rfl,.inr ⟨rfl,(vFa h).symm⟩⟩
 ·cases h
def jR(f f':D->D->Option D)(da db dc:DE):DE:=fun ρ=>(da ρ).bind fun x=>(db ρ).bind fun y=>(f x y).bind fun z=>V_ z ((dc ρ).bind fun w=>f' y w)
@[simp] theorem Hu(f f':D->D->Option D)(da db dc:DE){ρ:j8}:jR f f' da db dc ρ=(da ρ).bind fun x=>(db ρ).bind fun y=>(f x y).bind fun z=>V_ z ((dc ρ).bind fun w=>f' y w):=rfl
theorem Qk{r r':R2}{f f':D->D->Option D}(hf:Jh K r f)(hf':Jh K r' f'):∀σ H Q,tE K (jR f f' da db dc) σ H Q->kI r r' (tR K da) (tR K db) (tR K dc) σ H Q:=fun σ H Q ⟨H0,O0,ρ,O,d,R,ed,q⟩=>by
 obtain⟨x,ex,ed⟩:=j0 ed
 obtain⟨y,ey,ed⟩:=j0 ed
 obtain⟨z,ez,ed⟩:=j0 ed
 obtain⟨k,rfl,ek⟩:=ZQ ed
 refine⟨H0,O0,ρ,O,x,R,ex,fun vx H1 s1 rx=>⟨H0,O0,ρ,O,y,R.grow s1,ey,fun vy H2 s2 ry=>hf O H2 x y _ vx vy _ (rx.same s2) ry (fun p hp=>(R.grow (s1.trans s2)).new hp) ez fun v H3 s3 rz=>?_⟩⟩
 rw[j6]at rz
 subst rz
 refine⟨k,rfl,?_⟩
 have s13:=(s1.trans s2).trans s3
 rcases ek with⟨rfl,e2⟩ | ⟨rfl,rfl⟩
 ·obtain⟨w,ew,e3⟩:=j0 e2
  exact YH ⟨H0,O0,ρ,O,w,R.grow s13,ew,fun vw H4 s4 rw'=>hf' O H4 y w d vy vw Q ((ry.same s3).same s4) rw' (fun p hp=>(R.grow (s13.trans s4)).new hp) e3 fun v H' s r=>q v H' ((s13.trans s4).trans s) r⟩
 ·exact YG (q _ _ s13 (by rw[j6]))
theorem bM{op op':CmpOp}{r r':R2}{f f':D->D->Option D}(ho:jI X (compareOp op) r)(ho':jI X (compareOp op') r')(hf:Jh K r f)(hf':Jh K r' f')(ha:PE X a (tR K da))(hb:PE X b (tR K db))(hc:PE X c (tR K dc))(hm:lastMarks [op,op'] [b,c]=false:=by with_unfolding_all rfl):PE X (.Compare a [op,op'] [b,c] pos) (tE K (jR f f' da db dc)):=jz (xO ho ho' ha hb hc hm) (Qk hf hf')
def vJ(f f' f'':D->D->Option D)(da db dc dd:DE):DE:=fun ρ=>(da ρ).bind fun x=>(db ρ).bind fun y=>(f x y).bind fun z=>V_ z ((dc ρ).bind fun w=>(f' y w).bind fun z'=>V_ z' ((dd ρ).bind fun u=>f'' w u))
@[simp] theorem Fy(f f' f'':D->D->Option D)(da db dc dd:DE){ρ:j8}:vJ f f' f'' da db dc dd ρ=(da ρ).bind fun x=>(db ρ).bind fun y=>(f x y).bind fun z=>V_ z ((dc ρ).bind fun w=>(f' y w).bind fun z'=>V_ z' ((dd ρ).bind fun u=>f'' w u)):=rfl
theorem Xa{op op' op'':CmpOp}{r r' r'':R2}{f f' f'':D->D->Option D}(ho:jI X (compareOp op) r)(ho':jI X (compareOp op') r')(ho'':jI X (compareOp op'') r'')(hf:Jh K r f)(hf':Jh K r' f')(hf'':Jh K r'' f'')(ha:PE X a (tR K da))(hb:PE X b (tR K db))(hc:PE X c (tR K dc))(hd:PE X d (tR K dd))(hm:lastMarks [op,op',op''] [b,c,d]=false:=by with_unfolding_all rfl):
  PE X (.Compare a [op,op',op''] [b,c,d] pos) (tE K (vJ f f' f'' da db dc dd)):=jz (Qf ho ho' ho'' ha hb hc hd hm) fun σ H Q ⟨H0,O0,ρ,O,d,R,ed,q⟩=>by
 obtain⟨x,ex,ed⟩:=j0 ed
 obtain⟨y,ey,ed⟩:=j0 ed
 obtain⟨z,ez,ed⟩:=j0 ed
 obtain⟨k,rfl,ek⟩:=ZQ ed
 refine⟨H0,O0,ρ,O,x,R,ex,fun vx H1 s1 rx=>⟨H0,O0,ρ,O,y,R.grow s1,ey,fun vy H2 s2 ry=>hf O H2 x y _ vx vy _ (rx.same s2) ry (fun p hp=>(R.grow (s1.trans s2)).new hp) ez fun v H3 s3 rz=>?_⟩⟩
 rw[j6]at rz
 subst rz
 refine⟨k,rfl,?_⟩
 have s13:=(s1.trans s2).trans s3
 rcases ek with⟨rfl,e2⟩ | ⟨rfl,rfl⟩
 ·obtain⟨w,ew,e3⟩:=j0 e2
  obtain⟨z',ez',e3⟩:=j0 e3
  obtain⟨k',rfl,ek'⟩:=ZQ e3
  refine YH ⟨H0,O0,ρ,O,w,R.grow s13,ew,fun vw H4 s4 rw'=>hf' O H4 y w _ vy vw _ ((ry.same s3).same s4) rw' (fun p hp=>(R.grow (s13.trans s4)).new hp) ez' fun v H5 s5 r=>?_⟩
  rw[j6]at r
  subst r
  refine⟨k',rfl,?_⟩
  have s15:=(s13.trans s4).trans s5
  rcases ek' with⟨rfl,e4⟩ | ⟨rfl,rfl⟩
  ·obtain⟨u,eu,e5⟩:=j0 e4
   exact YH ⟨H0,O0,ρ,O,u,R.grow s15,eu,fun vu H6 s6 ru=>hf'' O H6 w u d vw vu Q ((rw'.same s5).same s6) ru (fun p hp=>(R.grow (s15.trans s6)).new hp) e5 fun v H' s r=>q v H' ((s15.trans s6).trans s) r⟩
  ·exact YG (q _ _ s15 (by rw[j6]))
 ·exact YG (q _ _ s13 (by rw[j6]))
@[simp] noncomputable def a_:D->Option Bool
 | .bl b=>some b
 | _=>none
noncomputable def V3:D->Option Bool
 | .bl b=>some b
 | .non=>some false
 | .int i=>some (i != 0)
 | .lst l=>some (!l.isEmpty)
 | .tup l=>some (!l.isEmpty)
 | _=>none
@[simp] theorem ik(b:Bool):V3 (.bl b)=some b:=rfl
@[simp] theorem Hv:V3 .non=some false:=rfl
@[simp] theorem Hw(l:List D):V3 (.lst l)=some (!l.isEmpty):=rfl
@[simp] theorem Hx(l:List D):V3 (.tup l)=some (!l.isEmpty):=rfl
@[simp] theorem Hy(i:Int):V3 (.int i)=some (i != 0):=rfl
theorem Cq{O:List Addr}{H:Hp}{d:D}{v:V}{k:Bool}(h:RB K O H d v)(e:V3 d=some k):xQ K v H k:=by
 unfold V3 at e
 split at e
 ·cases e; rw[h.bl]; rfl
 ·cases e; rw[h.non]; rfl
 ·cases e; rw[h.int]; rfl
 ·cases e
  obtain⟨p,xs,rfl,h1,h2⟩:=h.lst
  refine .inl ⟨xs,jt.of h1,?_⟩
  have:=h2.len
  cases xs with
  | nil=>rw[List.length_eq_zero_iff.mp this.symm]; rfl
  | cons x xs=>
   rename_i l
   cases l with
   | nil=>cases this
   | cons y l=>rfl
 ·cases e
  obtain⟨p,xs,rfl,h1,h2⟩:=h.tup
  refine .inr (.inl ⟨xs,h1,?_⟩)
  have:=h2.len
  cases xs with
  | nil=>rw[List.length_eq_zero_iff.mp this.symm]; rfl
  | cons x xs=>
   rename_i l
   cases l with
   | nil=>cases this
   | cons y l=>rfl
 ·cases e
abbrev DT:=j8->Option Bool
def Jv(de:DE):DT:=fun ρ=>(de ρ).bind V3
@[simp] theorem i_(de:DE){ρ:j8}:Jv de ρ=(de ρ).bind V3:=rfl
theorem A0(h:PE X e (tR K de))(hK:X.K=K:=by rfl)(he:∀whole,isTrue e X.env whole=(do let v<-whole; standAt e.pos; holding [v] (truthy v)):=by intro _; rfl):PT X e (tT K (Jv de)):=kl (xR h he) fun σ H Q ⟨H0,O0,ρ,O,k,R,ed,q⟩=>by
 subst hK
 obtain⟨d,e1,e2⟩:=j0 ed
 exact⟨H0,O0,ρ,O,d,R,e1,fun v H' s r=>⟨k,Cq r e2,q H' s⟩⟩
def jv(de:DE):DT:=fun ρ=>(de ρ).bind a_
@[simp] theorem IM(de:DE){ρ:j8}:jv de ρ=(de ρ).bind a_:=rfl
theorem kZ{d:D}{k:Bool}(h:a_ d=some k):d=.bl k:=by
 unfold a_ at h
 split at h
 ·cases h; rfl
 ·cases h
theorem EV{op:CmpOp}{r:R2}{f:D->D->Option D}(ho:jI X (compareOp op) r)(hf:Jh K r f)(ha:PE X a (tR K da))(hb:PE X b (tR K db))(hm:behindInMarks op b=false):PT X (.Compare a [op] [b] pos) (tT K (jv (d2 f da db))):=kl (bp ho ha hb hm) fun σ H Q ⟨H0,O0,ρ,O,k,R,ed,q⟩=>by
 obtain⟨d,e1,e2⟩:=j0 ed
 cases kZ e2
 exact US hf σ H _ ⟨H0,O0,ρ,O,_,R,e1,fun v H' s r=>⟨k,by rw[j6]at r; exact r,q H' s⟩⟩
theorem bN{op op':CmpOp}{r r':R2}{f f':D->D->Option D}(ho:jI X (compareOp op) r)(ho':jI X (compareOp op') r')(hf:Jh K r f)(hf':Jh K r' f')(ha:PE X a (tR K da))(hb:PE X b (tR K db))(hc:PE X c (tR K dc))(hm:lastMarks [op,op'] [b,c]=false:=by with_unfolding_all rfl):PT X (.Compare a [op,op'] [b,c] pos) (tT K (jv (jR f f' da db dc))):=kl (xP ho ho' ha hb hc hm) fun σ H Q ⟨H0,O0,ρ,O,k,R,ed,q⟩=>by
 obtain⟨d,e1,e2⟩:=j0 ed
 cases kZ e2
 have e1':=e1
 obtain⟨x,ex,e1⟩:=j0 e1
 obtain⟨y,ey,e1⟩:=j0 e1
 obtain⟨z,ez,e1⟩:=j0 e1
 obtain⟨k',rfl,ek⟩:=ZQ e1
 refine⟨H0,O0,ρ,O,x,R,ex,fun vx H1 s1 rx=>⟨H0,O0,ρ,O,y,R.grow s1,ey,fun vy H2 s2 ry=>hf O H2 x y _ vx vy _ (rx.same s2) ry (fun p hp=>(R.grow (s1.trans s2)).new hp) ez fun v H3 s3 rz=>?_⟩⟩
 rw[j6]at rz
 subst rz
 refine⟨k',rfl,?_⟩
 have s13:=(s1.trans s2).trans s3
 rcases ek with⟨rfl,e2⟩ | ⟨rfl,e0⟩
 ·obtain⟨w,ew,e3⟩:=j0 e2
  exact YH ⟨H0,O0,ρ,O,w,R.grow s13,ew,fun vw H4 s4 rw'=>hf' O H4 y w _ vy vw _ ((ry.same s3).same s4) rw' (fun p hp=>(R.grow (s13.trans s4)).new hp) e3 fun v H' s r=>⟨k,by rw[j6]at r; exact r,q H' ((s13.trans s4).trans s)⟩⟩
 ·cases e0
  exact YG ⟨false,rfl,q _ s13⟩
noncomputable def Jn(dt:DT):DT:=fun ρ=>(dt ρ).bind fun k=>some (!k)
@[simp] theorem im(dt:DT){ρ:j8}:Jn dt ρ=(dt ρ).bind fun k=>some (!k):=rfl
theorem EW{dt:DT}(h:PT X a (tT K dt)):PT X (.UnaryOp .Not a pos) (tT K (Jn dt)):=kl (BZ h) fun σ H Q ⟨H0,O0,ρ,O,k,R,ed,q⟩=>by
 obtain⟨k',e1,e2⟩:=j0 ed
 cases e2
 exact⟨H0,O0,ρ,O,k',R,e1,fun H' s=>q H' s⟩
noncomputable def yZ(dt du:DT):DT:=fun ρ=>(dt ρ).bind fun k=>if k=true then du ρ else some false
@[simp] theorem io(dt du:DT){ρ:j8}:yZ dt du ρ=(dt ρ).bind fun k=>if k=true then du ρ else some false:=rfl
noncomputable def v7(dt du:DT):DT:=fun ρ=>(dt ρ).bind fun k=>if k=true then some true else du ρ
@[simp] theorem I0(dt du:DT){ρ:j8}:v7 dt du ρ=(dt ρ).bind fun k=>if k=true then some true else du ρ:=rfl
theorem Cr{dt:DT}(h:PT X a (tT K dt)):PW X (.BoolOp .And [a] pos) (tT K dt):=b9 h
theorem EX{dt:DT}(h:PT X a (tT K dt)):PW X (.BoolOp .Or [a] pos) (tT K dt):=BW h
theorem EY{dt du:DT}{rest:List Expr}(h:PT X a (tT K dt))(h2:PW X (.BoolOp .And (b::rest) pos) (tT K du)):PW X (.BoolOp .And (a::b::rest) pos) (tT K (yZ dt du)):=aW (BX h h2) fun σ H Q ⟨H0,O0,ρ,O,k,R,ed,q⟩=>by
 obtain⟨k',e1,e2⟩:=j0 ed
 refine⟨H0,O0,ρ,O,k',R,e1,fun H' s=>?_⟩
 cases k' with
 | true=>rw[if_pos rfl]at e2; exact YH ⟨H0,O0,ρ,O,k,R.grow s,e2,fun H2 s2=>q H2 (s.trans s2)⟩
 | false=>rw[if_neg Bool.false_ne_true]at e2; cases e2; exact YG (q H' s)
theorem Hz{dt du:DT}{rest:List Expr}(h:PT X a (tT K dt))(h2:PW X (.BoolOp .Or (b::rest) pos) (tT K du)):PW X (.BoolOp .Or (a::b::rest) pos) (tT K (v7 dt du)):=aW (Eg h h2) fun σ H Q ⟨H0,O0,ρ,O,k,R,ed,q⟩=>by
 obtain⟨k',e1,e2⟩:=j0 ed
 refine⟨H0,O0,ρ,O,k',R,e1,fun H' s=>?_⟩
 cases k' with
 | true=>rw[if_pos rfl]at e2; cases e2; exact YH (q H' s)
 | false=>rw[if_neg Bool.false_ne_true]at e2; exact YG ⟨H0,O0,ρ,O,k,R.grow s,e2,fun H2 s2=>q H2 (s.trans s2)⟩
theorem Cs{dt:DT}(h:PW X e (tT K dt)):PT X e (tT K dt):=h.pt
noncomputable def y0(da db:DE):DE:=fun ρ=>(da ρ).bind fun x=>match x with
 | .bl true=>db ρ
 | .bl false=>some (.bl false)
 | _=>none
@[simp] theorem ip(da db:DE){ρ:j8}:y0 da db ρ=(da ρ).bind fun x=>match x with
 | .bl true=>db ρ
 | .bl false=>some (.bl false)
 | _=>none:=rfl
noncomputable def k_(da db:DE):DE:=fun ρ=>(da ρ).bind fun x=>match x with
 | .bl true=>some (.bl true)
 | .bl false=>db ρ
 | _=>none
@[simp] theorem Ia(da db:DE){ρ:j8}:k_ da db ρ=(da ρ).bind fun x=>match x with
 | .bl true=>some (.bl true)
 | .bl false=>db ρ
 | _=>none:=rfl
noncomputable def WY(da:DE):DE:=fun ρ=>(da ρ).bind fun x=>match x with
 | .bl k=>some (.bl (!k))
 | _=>none
@[simp] theorem iq(da:DE){ρ:j8}:WY da ρ=(da ρ).bind fun x=>match x with
 | .bl k=>some (.bl (!k))
 | _=>none:=rfl
theorem A1{op}(h:PE X a (tE K da)):PE X (.BoolOp op [a] pos) (tE K da):=B_ h
theorem EZ{rest:List Expr}(ha:PE X a (tR K da))(hb:PE X (.BoolOp .And (b::rest) pos) (tE K db)):PE X (.BoolOp .And (a::b::rest) pos) (tE K (y0 da db)):=jz (cb ha hb) fun σ H Q ⟨H0,O0,ρ,O,d,R,ed,q⟩=>by
 obtain⟨x,e1,e2⟩:=j0 ed
 refine⟨H0,O0,ρ,O,x,R,e1,fun v H' s r=>?_⟩
 split at e2
 ·exact⟨true,r.bl,YH ⟨H0,O0,ρ,O,d,R.grow s,e2,fun v H2 s2 r2=>q v H2 (s.trans s2) r2⟩⟩
 ·cases e2; exact⟨false,r.bl,YG (q _ _ s (by rw[j6]))⟩
 ·cases e2
theorem HA{rest:List Expr}(ha:PE X a (tR K da))(hb:PE X (.BoolOp .Or (b::rest) pos) (tE K db)):PE X (.BoolOp .Or (a::b::rest) pos) (tE K (k_ da db)):=jz (Ej ha hb) fun σ H Q ⟨H0,O0,ρ,O,d,R,ed,q⟩=>by
 obtain⟨x,e1,e2⟩:=j0 ed
 refine⟨H0,O0,ρ,O,x,R,e1,fun v H' s r=>?_⟩
 split at e2
 ·cases e2; exact⟨true,r.bl,YH (q _ _ s (by rw[j6]))⟩
 ·exact⟨false,r.bl,YG ⟨H0,O0,ρ,O,d,R.grow s,e2,fun v H2 s2 r2=>q v H2 (s.trans s2) r2⟩⟩
 ·cases e2
theorem E_(ha:PE X a (tR K da)):PE X (.UnaryOp .Not a pos) (tE K (WY da)):=jz (ce ha) fun σ H Q ⟨H0,O0,ρ,O,d,R,ed,q⟩=>by
 obtain⟨x,e1,e2⟩:=j0 ed
 refine⟨H0,O0,ρ,O,x,R,e1,fun v H' s r=>?_⟩
 split at e2
 ·cases e2; exact⟨_,r.bl,q _ _ s (by rw[j6])⟩
 ·cases e2
noncomputable def Ze(da:DE):DE:=fun ρ=>(da ρ).bind fun x=>match x with
 | .int i=>some (.int (-i))
 | _=>none
@[simp] theorem Ib(da:DE){ρ:j8}:Ze da ρ=(da ρ).bind fun x=>match x with
 | .int i=>some (.int (-i))
 | _=>none:=rfl
theorem f9(ha:PE X a (tR K da)):PE X (.UnaryOp .USub a pos) (tE K (Ze da)):=jz (Ep cM ha) fun σ H Q ⟨H0,O0,ρ,O,d,R,ed,q⟩=>by
 obtain⟨x,e1,e2⟩:=j0 ed
 refine⟨H0,O0,ρ,O,x,R,e1,fun v H' s r=>?_⟩
 split at e2
 ·cases e2; exact⟨_,r.int,q _ _ s (by rw[j6])⟩
 ·cases e2
noncomputable def WZ(dt:DT)(da db:DE):DE:=fun ρ=>(dt ρ).bind fun k=>if k=true then da ρ else db ρ
@[simp] theorem Ic(dt:DT)(da db:DE){ρ:j8}:WZ dt da db ρ=(dt ρ).bind fun k=>if k=true then da ρ else db ρ:=rfl
theorem fb{dt:DT}(hc:PT X c (tT K dt))(ha:PE X a (tE K da))(hb:PE X b (tE K db)):PE X (.IfExp c a b pos) (tE K (WZ dt da db)):=jz (xE hc ha hb) fun σ H Q ⟨H0,O0,ρ,O,d,R,ed,q⟩=>by
 obtain⟨k,e1,e2⟩:=j0 ed
 refine⟨H0,O0,ρ,O,k,R,e1,fun H' s=>?_⟩
 cases k with
 | true=>rw[if_pos rfl]at e2; exact YH ⟨H0,O0,ρ,O,d,R.grow s,e2,fun v H2 s2 r2=>q v H2 (s.trans s2) r2⟩
 | false=>rw[if_neg Bool.false_ne_true]at e2; exact YG ⟨H0,O0,ρ,O,d,R.grow s,e2,fun v H2 s2 r2=>q v H2 (s.trans s2) r2⟩
theorem fc:PA X [] (YB K []):=km JN fun σ H Q ⟨H0,O0,ρ,O,ds,R,ed,q⟩=>by
 cases ed
 exact q [] H (j4.refl H) trivial
theorem A2{es:List Expr}{l:DA}{k:Bool}{t:TE}(ht:∀σ H Q,(∃H0 O0 ρ O d,Rel K H0 O0 ρ σ H O/\de ρ=some d/\∀v H',j4 H H'->AK K O H' k d v->Q v H')->t σ H Q)(h:PE X e t)(hr:PA X es (YB K l))(hs:starEach (e::es) X.env=(false,eval e X.env)::starEach es X.env:=by rfl):PA X (e::es) (YB K ((k,de)::l)):=km (jU h hr hs) fun σ H Q ⟨H0,O0,ρ,O,ds,R,ed,q⟩=>by
 obtain⟨d,e1,ed⟩:=j0 ed
 obtain⟨ds',e2,ed⟩:=j0 ed
 cases ed
 exact ht _ _ _ ⟨H0,O0,ρ,O,d,R,e1,fun v H1 s1 r1=>⟨H0,O0,ρ,O,ds',R.grow s1,e2,fun vs H2 s2 r2=>q _ H2 (s1.trans s2) ⟨r1.same s2,r2⟩⟩⟩
theorem HB{es:List Expr}{l:DA}(h:PE X e (tE K de))(hr:PA X es (YB K l))(hs:starEach (e::es) X.env=(false,eval e X.env)::starEach es X.env:=by rfl):PA X (e::es) (YB K ((true,de)::l)):=A2 (fun σ H Q z=>z) h hr hs
theorem HC{es:List Expr}{l:DA}(h:PE X e (tR K de))(hr:PA X es (YB K l))(hs:starEach (e::es) X.env=(false,eval e X.env)::starEach es X.env:=by rfl):PA X (e::es) (YB K ((false,de)::l)):=A2 (fun σ H Q z=>z) h hr hs
theorem u5:∀{l:DA} {ρ:j8} {ds:List D},yl l ρ=some ds->ds.length=l.length
 | [],_,_,h=>by cases h; rfl
 | p::ps,ρ,ds,h=>by
  obtain⟨d,e1,h⟩:=j0 h
  obtain⟨ds',e2,h⟩:=j0 h
  cases h
  rw[List.length_cons,List.length_cons,u5 e2]
theorem yh.reps{O:List Addr}{H:Hp}:∀{ks:List Bool} {ds:List D} {vs:List V},yh K O H ks ds vs->ks.all id=true->j1 K (ja H O) ds vs
 | [],[],[],_,_=>j1.nil
 | true::_,_::_,_::_,h,e=>j1.cons h.1 (yh.reps h.2 (by simpa using e))
 | false::_,_::_,_::_,h,e=>by simp at e
 | [],[],_::_,h,_=>h.elim
 | [],_::_,_,h,_=>h.elim
 | _::_,[],_,h,_=>h.elim
 | _::_,_::_,[],h,_=>h.elim
theorem yh.len{O:List Addr}{H:Hp}:∀{ks:List Bool} {ds:List D} {vs:List V},yh K O H ks ds vs->vs.length=ds.length/\ks.length=ds.length
 | [],[],[],_=>⟨rfl,rfl⟩
 | _::_,_::_,_::_,h=>by have:=yh.len h.2; simp[this.1,this.2]
 | [],[],_::_,h=>h.elim
 | [],_::_,_,h=>h.elim
 | _::_,[],_,h=>h.elim
 | _::_,_::_,[],h=>h.elim
def ym(l:DA):DE:=fun ρ=>(yl l ρ).bind fun ds=>some (.tup ds)
@[simp] theorem Ie(l:DA){ρ:j8}:ym l ρ=(yl l ρ).bind fun ds=>some (.tup ds):=rfl
theorem fe{es:List Expr}{l:DA}{x1}(h:PA X es (YB K l))(hk:(l.map (·.1)).all id=true:=by rfl)(hl:Nat.ble l.length sizeLine=true:=by rfl):PE X (.Tuple es x1 pos) (tE K (ym l)):=jz (cZ h) fun σ H Q ⟨H0,O0,ρ,O,d,R,ed,q⟩=>by
 obtain⟨ds,e1,e2⟩:=j0 ed
 cases e2
 refine⟨H0,O0,ρ,O,ds,R,e1,fun vs H1 s1 r=>⟨by rw[r.len.1,u5 e1]; exact Nat.le_of_ble_eq_true hl,fun p hp=>q _ _ (s1.trans (jK hp _)) (yE ((R.grow s1).new hp) hp (r.reps hk))⟩⟩
def jY(l:DA):DO:=fun ρ=>(yl l ρ).bind fun ds=>some (.lst ds)
@[simp] theorem Ig(l:DA){ρ:j8}:jY l ρ=(yl l ρ).bind fun ds=>some (.lst ds):=rfl
theorem ff{es:List Expr}{l:DA}(h:PA X es (YB K l))(hk:(l.map (·.1)).all id=true:=by rfl)(hl:Nat.ble l.length sizeLine=true:=by rfl):PE X (.List es pos) (tF K (jY l)):=jz (Q3 h) fun σ H Q ⟨H0,O0,ρ,O,d,R,ed,q⟩=>by
 obtain⟨ds,e1,e2⟩:=j0 ed
 cases e2
 refine⟨H0,O0,ρ,O,ds,R,e1,fun vs H1 s1 r=>⟨by rw[r.len.1,u5 e1]; exact Nat.le_of_ble_eq_true hl,fun p hp=>q _ _ (s1.trans (jK hp _)) (s1.none hp) (JQ hp (r.reps hk))⟩⟩
abbrev UU:=j8->Option (Option Int)
noncomputable def K0(K:Fr)(p:UU):TO:=fun σ H Q=>∃H0 O0 ρ O o,Rel K H0 O0 ρ σ H O/\p ρ=some o/\∀H',j4 H H'->Q o H'
@[simp] noncomputable def YI:D->Option (Option Int)
 | .int i=>some (some i)
 | _=>none
theorem HD:PO X none (K0 K fun _=>some none):=fun pins s σ H Q I ⟨H0,O0,ρ,O,o,R,ed,q⟩=>by
 cases ed
 exact bw pins s σ H Q I (q H (j4.refl H))
theorem HE(h:PE X e (tR K de)):PO X (some e) (K0 K fun ρ=>(de ρ).bind YI):=fun pins s σ H Q I ⟨H0,O0,ρ,O,o,R,ed,q⟩=>by
 obtain⟨d,e1,e2⟩:=j0 ed
 refine bx h pins s σ H Q I ⟨H0,O0,ρ,O,d,R,e1,fun v H' s r=>?_⟩
 unfold YI at e2
 split at e2
 ·cases e2; exact⟨_,r.int,q H' s⟩
 ·cases e2
def jP{α:Type}(xs:List α)(lo hi:Option Int):List α:=(xs.drop (HT.sIx xs.length 0 lo)).take (HT.sIx xs.length xs.length hi - HT.sIx xs.length 0 lo)
theorem j1.cut{H:Hp}{l:List D}{xs:List V}(h:j1 K H l xs)(lo hi:Option Int):j1 K H (jP l lo hi) (VT xs lo hi):=by
 unfold jP VT
 rw[h.len]
 exact(h.drop _).take _
theorem j1.ints{H:Hp}:∀ns:List Int,j1 K H (ns.map D.int) (ns.map V.int)
 | []=>j1.nil
 | n::ns=>j1.cons (by rw[j6]) (j1.ints ns)
def UV(d:D)(lo hi:Option Int):Option OD:=match d with
 | .lst l=>some (.lst (jP l lo hi))
 | .scr ns=>some (.lst (jP (ns.map D.int) lo hi))
 | _=>none
@[simp] theorem Fz(l:List D)(lo hi:Option Int):UV (.lst l) lo hi=some (.lst (jP l lo hi)):=rfl
@[simp] theorem FA(l:List Int)(lo hi:Option Int):UV (.scr l) lo hi=some (.lst (jP (l.map D.int) lo hi)):=rfl
def y2(de:DE)(p q:UU):DO:=fun ρ=>(de ρ).bind fun d=>(p ρ).bind fun lo=>(q ρ).bind fun hi=>UV d lo hi
@[simp] theorem ir(de:DE)(p q:UU){ρ:j8}:y2 de p q ρ=(de ρ).bind fun d=>(p ρ).bind fun lo=>(q ρ).bind fun hi=>UV d lo hi:=rfl
theorem fg{lo hi:Option Expr}{p q:UU}{p2:Pos}(he:PE X e (tR K de))(hl:PO X lo (K0 K p))(hu:PO X hi (K0 K q))(hK:X.K=K:=by rfl):PE X (.Subscript e (.Slice lo hi none p2) pos) (tF K (y2 de p q)):=jz (kK bC he hl hu) fun σ H Q ⟨H0,O0,ρ,O,d,R,ed,qq⟩=>by
 subst hK
 obtain⟨x,e1,ed⟩:=j0 ed
 obtain⟨l,e2,ed⟩:=j0 ed
 obtain⟨u,e3,ed⟩:=j0 ed
 refine⟨H0,O0,ρ,O,x,R,e1,fun v H1 s1 r=>⟨H0,O0,ρ,O,l,R.grow s1,e2,fun H2 s2=>⟨H0,O0,ρ,O,u,R.grow (s1.trans s2),e3,fun H3 s3=>?_⟩⟩⟩
 have s13:=(s1.trans s2).trans s3
 have r3:=r.same (s2.trans s3)
 unfold UV at ed
 split at ed
 ·cases ed
  obtain⟨pp,xs,rfl,h1,h2⟩:=r3.lst
  exact⟨pp,xs,rfl,jt.of h1,fun p hp=>qq p _ (s13.trans (jK hp _)) (s13.none hp) (JQ hp (h2.cut l u))⟩
 ·cases ed
  have r4:=r3.full
  rw[j6]at r4
  obtain⟨pp,rfl,h1⟩:=r4
  exact⟨pp,_,rfl,h1,fun p hp=>qq p _ (s13.trans (jK hp _)) (s13.none hp) (JQ hp ((j1.ints _).cut l u))⟩
 ·cases ed
def W_(d:D)(lo hi:Option Int):Option D:=match d with
 | .tup l=>if HT.sIx l.length 0 lo=0/\HT.sIx l.length l.length hi=l.length then none else some (.tup (jP l lo hi))
 | _=>none
def qc(de:DE)(p q:UU):DE:=fun ρ=>(de ρ).bind fun d=>(p ρ).bind fun lo=>(q ρ).bind fun hi=>W_ d lo hi
@[simp] theorem iu(de:DE)(p q:UU){ρ:j8}:qc de p q ρ=(de ρ).bind fun d=>(p ρ).bind fun lo=>(q ρ).bind fun hi=>W_ d lo hi:=rfl
theorem fh{lo hi:Option Expr}{p q:UU}{p2:Pos}(he:PE X e (tR K de))(hl:PO X lo (K0 K p))(hu:PO X hi (K0 K q))(hK:X.K=K:=by rfl):PE X (.Subscript e (.Slice lo hi none p2) pos) (tE K (qc de p q)):=jz (kK C2 he hl hu) fun σ H Q ⟨H0,O0,ρ,O,d,R,ed,qq⟩=>by
 subst hK
 obtain⟨x,e1,ed⟩:=j0 ed
 obtain⟨l,e2,ed⟩:=j0 ed
 obtain⟨u,e3,ed⟩:=j0 ed
 refine⟨H0,O0,ρ,O,x,R,e1,fun v H1 s1 r=>⟨H0,O0,ρ,O,l,R.grow s1,e2,fun H2 s2=>⟨H0,O0,ρ,O,u,R.grow (s1.trans s2),e3,fun H3 s3=>?_⟩⟩⟩
 have s13:=(s1.trans s2).trans s3
 have r3:=r.same (s2.trans s3)
 unfold W_ at ed
 split at ed
 ·split at ed
  ·cases ed
  ·cases ed
   obtain⟨pp,xs,rfl,h1,h2⟩:=r3.tup
   exact⟨pp,xs,rfl,h1,by rw[h2.len]; assumption,fun p hp=>qq _ _ (s13.trans (jK hp _)) (yE ((R.grow s13).new hp) hp (h2.cut l u))⟩
 ·cases ed
def Fn(K:Fr)(r:List V->Hp->VK->Prop)(f:List D->Option D):Prop:=∀(O:List Addr) (H:Hp) (ks:List Bool) (ds:List D) (vs:List V) (d:D) (Q:VK),yh K O H ks ds vs->(∀p,H p=none->p∉O)->f ds=some d->(∀v H',j4 H H'->j6 K (ja H' O) d v->Q v H')->r vs H Q
def Ct(K:Fr)(r:List V->Hp->VK->Prop)(f:List D->Option OD):Prop:=∀(O:List Addr) (H:Hp) (ks:List Bool) (ds:List D) (vs:List V) (d:OD) (Q:VK),yh K O H ks ds vs->f ds=some d->(∀l H',j4 H H'->H l=none->JK K H' (ja H' (l::O)) l d->Q (.ref l) H')->r vs H Q
def j9(f:List D->Option D)(l:DA):DE:=fun ρ=>(yl l ρ).bind f
@[simp] theorem Cu(f:List D->Option D)(l:DA){ρ:j8}:j9 f l ρ=(yl l ρ).bind f:=rfl
def jW(f:List D->Option OD)(l:DA):DO:=fun ρ=>(yl l ρ).bind f
@[simp] theorem iw(f:List D->Option OD)(l:DA){ρ:j8}:jW f l ρ=(yl l ρ).bind f:=rfl
theorem YJ{r:List V->Hp->VK->Prop}{f:List D->Option D}{l:DA}(hf:Fn K r f):∀σ H Q,tE K (j9 f l) σ H Q->Q6 r (YB K l) σ H Q:=fun σ H Q ⟨H0,O0,ρ,O,d,R,ed,q⟩=>by
 obtain⟨ds,e1,e2⟩:=j0 ed
 exact⟨H0,O0,ρ,O,ds,R,e1,fun vs H1 s1 r1=>hf O H1 _ ds vs d Q r1 (fun p hp=>(R.grow s1).new hp) e2 fun v H' s r=>q v H' (s1.trans s) r⟩
theorem wY{r:List V->Hp->VK->Prop}{f:List D->Option OD}{l:DA}(hf:Ct K r f):∀σ H Q,tF K (jW f l) σ H Q->Q6 r (YB K l) σ H Q:=fun σ H Q ⟨H0,O0,ρ,O,d,R,ed,q⟩=>by
 obtain⟨ds,e1,e2⟩:=j0 ed
 exact⟨H0,O0,ρ,O,ds,R,e1,fun vs H1 s1 r1=>hf O H1 _ ds vs d Q r1 e2 fun l H' s hn r=>q l H' (s1.trans s) (s1.none hn) r⟩
theorem YK{O:List Addr}{H:Hp}{ks:List Bool}{d:D}{vs:List V}(h:yh K O H ks [d] vs):∃v,vs=[v]/\RB K O H d v:=by
 cases ks with
 | nil=>exact h.elim
 | cons k ks=>
  cases vs with
  | nil=>exact h.elim
  | cons v vs=>
   obtain⟨h1,h2⟩:=h
   have:=yh.len h2
   have e:vs=[]:=List.length_eq_zero_iff.mp this.1
   subst e
   exact⟨v,rfl,AK.rb h1⟩
theorem Cv{O:List Addr}{H:Hp}{ks:List Bool}{d d':D}{vs:List V}(h:yh K O H ks [d,d'] vs):∃v v',vs=[v,v']/\RB K O H d v/\RB K O H d' v':=by
 cases ks with
 | nil=>exact h.elim
 | cons k ks=>
  cases vs with
  | nil=>exact h.elim
  | cons v vs=>
   obtain⟨h1,h2⟩:=h
   obtain⟨v',rfl,r⟩:=YK h2
   exact⟨v,v',rfl,AK.rb h1,r⟩
@[simp] noncomputable def jO:List D->Option D
 | [.lst l]=>some (.int l.length)
 | [.tup l]=>some (.int l.length)
 | _=>none
theorem fj:Fn K (fun xs H Q=>∃p ys,xs=[.ref p]/\(jt K H p ys∨JB K H p ys)/\Q (.int ys.length) H) jO:=by
 intro O H ks ds vs d Q h hn e q
 unfold jO at e
 split at e
 ·cases e
  obtain⟨v,rfl,r⟩:=YK h
  obtain⟨p,xs,rfl,h1,h2⟩:=r.lst
  exact⟨p,xs,rfl,.inl (jt.of h1),q _ H (j4.refl H) (by rw[j6,h2.len])⟩
 ·cases e
  obtain⟨v,rfl,r⟩:=YK h
  obtain⟨p,xs,rfl,h1,h2⟩:=r.tup
  exact⟨p,xs,rfl,.inr h1,q _ H (j4.refl H) (by rw[j6,h2.len])⟩
 ·cases e
@[simp] noncomputable def V4:List D->Option OD
 | [.lst l]=>some (.lst l)
 | [.tup l]=>some (.lst l)
 | _=>none
theorem Cw:Ct K (fun xs H Q=>∃p ys,xs=[.ref p]/\(jt K H p ys∨JB K H p ys)/\∀l,H l=none->Q (.ref l) (upd H l (.lst ys))) V4:=by
 intro O H ks ds vs d Q h e q
 unfold V4 at e
 split at e
 ·cases e
  obtain⟨v,rfl,r⟩:=YK h
  obtain⟨p,xs,rfl,h1,h2⟩:=r.lst
  exact⟨p,xs,rfl,.inl (jt.of h1),fun l hl=>q _ _ (jK hl _) hl (JQ hl h2)⟩
 ·cases e
  obtain⟨v,rfl,r⟩:=YK h
  obtain⟨p,xs,rfl,h1,h2⟩:=r.tup
  exact⟨p,xs,rfl,.inr h1,fun l hl=>q _ _ (jK hl _) hl (JQ hl h2)⟩
 ·cases e
@[simp] noncomputable def YL:List D->Option D
 | [.lst l]=>some (.tup l)
 | [.tup l]=>some (.tup l)
 | _=>none
theorem bO:Fn K (fun xs H Q=>∃p ys,xs=[.ref p]/\((jt K H p ys/\∀l,H l=none->Q (.ref l) (upd H l (.tup ys)))∨(JB K H p ys/\Q (.ref p) H))) YL:=by
 intro O H ks ds vs d Q h hn e q
 unfold YL at e
 split at e
 ·cases e
  obtain⟨v,rfl,r⟩:=YK h
  obtain⟨p,xs,rfl,h1,h2⟩:=r.lst
  exact⟨p,xs,rfl,.inl ⟨jt.of h1,fun l hl=>q _ _ (jK hl _) (yE (hn l hl) hl h2)⟩⟩
 ·cases e
  obtain⟨v,rfl,r⟩:=YK h
  have r0:=r
  obtain⟨p,xs,rfl,h1,h2⟩:=r.tup
  refine⟨p,xs,rfl,.inr ⟨h1,q _ H (j4.refl H) ?_⟩⟩
  rcases r0 with r0 | ⟨_,o,_,z,_⟩
  ·exact r0
  ·cases o <;> cases z
 ·cases e
@[simp] noncomputable def Xb:List D->Option D
 | [.int i]=>some (.int i)
 | [.bl k]=>some (.int (if k then 1 else 0))
 | _=>none
theorem fk:Fn K (fun xs H Q=>(∃i,xs=[.int i]/\Q (.int i) H)∨∃k,xs=[.bl k]/\Q (.int (if k then 1 else 0)) H) Xb:=by
 intro O H ks ds vs d Q h hn e q
 unfold Xb at e
 split at e
 ·cases e
  obtain⟨v,rfl,r⟩:=YK h
  exact .inl ⟨_,by rw[r.int],q _ H (j4.refl H) (by rw[j6])⟩
 ·cases e
  obtain⟨v,rfl,r⟩:=YK h
  exact .inr ⟨_,by rw[r.bl],q _ H (j4.refl H) (by rw[j6])⟩
 ·cases e
@[simp] noncomputable def gU:List D->Option D
 | [.int i,.int j]=>some (.int (if j > i then j else i))
 | _=>none
theorem fm:Fn K (fun xs H Q=>∃i j,xs=[.int i,.int j]/\Q (.int (if j > i then j else i)) H) gU:=by
 intro O H ks ds vs d Q h hn e q
 unfold gU at e
 split at e
 ·cases e
  obtain⟨v,v',rfl,r,r'⟩:=Cv h
  exact⟨_,_,by rw[r.int,r'.int],q _ H (j4.refl H) (by rw[j6])⟩
 ·cases e
@[simp] noncomputable def Xc:List D->Option D
 | [.int i,.int j]=>some (.int (if j < i then j else i))
 | _=>none
theorem fq:Fn K (fun xs H Q=>∃i j,xs=[.int i,.int j]/\Q (.int (if j < i then j else i)) H) Xc:=by
 intro O H ks ds vs d Q h hn e q
 unfold Xc at e
 split at e
 ·cases e
  obtain⟨v,v',rfl,r,r'⟩:=Cv h
  exact⟨_,_,by rw[r.int,r'.int],q _ H (j4.refl H) (by rw[j6])⟩
 ·cases e
@[simp] noncomputable def Zf:List D->Option (List Bool)
 | []=>some []
 | .bl b::r=>(Zf r).bind fun bs=>some (b::bs)
 | _::_=>none
theorem u6{H:Hp}:∀{l:List D} {bs:List Bool} {xs:List V},Zf l=some bs->j1 K H l xs->xs=bs.map V.bl
 | [],bs,xs,e,h=>by cases e; rw[j1]at h; exact h
 | .bl b::r,bs,xs,e,h=>by
  obtain⟨bs',e1,e2⟩:=j0 e
  cases e2
  rw[j1]at h
  obtain⟨v,vs,rfl,a,b'⟩:=h
  rw[j6]at a
  rw[a,u6 e1 b']
  rfl
 | .non::_,_,_,e,_=>by cases e
 | .int _::_,_,_,e,_=>by cases e
 | .str _::_,_,_,e,_=>by cases e
 | .tup _::_,_,_,e,_=>by cases e
 | .lst _::_,_,_,e,_=>by cases e
 | .ins _ _ _::_,_,_,e,_=>by cases e
 | .scr _::_,_,_,e,_=>by cases e
@[simp] def Y7:List D->Option D
 | [.lst l]=>(Zf l).bind fun bs=>some (.bl (bs.all id))
 | _=>none
theorem ft:Fn K (fun xs H Q=>∃(p:Addr) (bs:List Bool),xs=[.ref p]/\jt K H p (bs.map V.bl)/\Q (.bl (bs.all id)) H) Y7:=by
 intro O H ks ds vs d Q h hn e q
 unfold Y7 at e
 split at e
 ·obtain⟨bs,e1,e2⟩:=j0 e
  cases e2
  obtain⟨v,rfl,r⟩:=YK h
  obtain⟨p,xs,rfl,h1,h2⟩:=r.lst
  rw[u6 e1 h2]at h1
  exact⟨p,bs,rfl,jt.of h1,q _ H (j4.refl H) (by rw[j6])⟩
 ·cases e
noncomputable def jA(C:Addr)(f:Str):D->Option D
 | .ins C' ns ds=>if C'=C then(ns.zip ds).lookup f else none
 | _=>none
theorem u_{H:Hp}{f:Str}{d:D}:∀{ns:List Str} {ds:List D} {xs:List V},j1 K H ds xs->(ns.zip ds).lookup f=some d->∃v,(ns.zip xs).lookup f=some v/\j6 K H d v
 | [],_,_,_,e=>by cases e
 | _::_,[],_,_,e=>by cases e
 | n::ns,d'::ds,xs,h,e=>by
  rw[j1]at h
  obtain⟨v,r,rfl,a,b⟩:=h
  rw[List.zip_cons_cons,List.lookup_cons]at e⊢
  cases hf:f==n with
  | true=>rw[hf]at e; cases e; exact⟨v,rfl,a⟩
  | false=>rw[hf]at e; exact u_ b e
theorem fu{C:Addr}{f:Str}(h:PE X e (tR K de))(c:Cls K C)(n:yS K C f)(hb:attributeBase e f X.env (eval e X.env)=eval e X.env:=by rfl)(hK:X.K=K:=by rfl):PE X (.Attribute e f pos) (tE K (d1 (jA C f) de)):=jz (cX h hb) fun σ H Q ⟨H0,O0,ρ,O,d,R,ed,q⟩=>by
 subst hK
 obtain⟨x,e1,e2⟩:=j0 ed
 refine⟨H0,O0,ρ,O,x,R,e1,fun v H' s r=>?_⟩
 unfold jA at e2
 split at e2
 ·split at e2
  ·rename_i hC
   subst hC
   obtain⟨a,dx,xs,rfl,h1,hn,h2⟩:=r.ins
   obtain⟨v,e3,r3⟩:=u_ h2 e2
   exact⟨a,_,dx,_,v,rfl,h1,c,n,e3,q v H' s r3⟩
  ·cases e2
 ·cases e2
end
end DS
namespace DS
open PySem PySem.Spec PyProof.Rows L2
def RP(K:Fr)(H0:Hp)(O0:List Addr)(H:Hp)(O:List Addr)(d:D)(v:V):Prop:=j6 K (ja H O) d v∨RB K O0 H0 d v
def tP(K:Fr)(de:DE):TE:=fun σ H Q=>∃H0 O0 ρ O d,Rel K H0 O0 ρ σ H O/\de ρ=some d/\∀v H',j4 H H'->RP K H0 O0 H' O d v->Q v H'
theorem RP.at{K:Fr}{H0 H H':Hp}{O0 O O':List Addr}{d:D}{v:V}(r:RP K H0 O0 H O d v)(s0:j4 H0 H')(s1:j4 (ja H0 O0) (ja H' O'))(s2:j4 (ja H O) (ja H' O')):RB K O' H' d v:=by
 rcases r with r | r | ⟨l,o,e1,e2,h1⟩
 ·exact .inl (r.same s2)
 ·exact .inl (r.same s1)
 ·exact .inr ⟨l,o,e1,e2,h1.same (s0 l) s1⟩
def qd(K:Fr)(J:It)(H0:Hp)(O0:List Addr)(H:Hp)(O:List Addr)(items:List D):Prop:=∀(i:Nat) (H':Hp) (O':List Addr),j4 H0 H'->j4 (ja H0 O0) (ja H' O')->j4 (ja H O) (ja H' O')->(∀a∈O',H' a≠none)->
 (∀d,items[i]?=some d->J.go i H'/\∀x H'',J.yld i H' x H''->j4 H' H''/\j6 K (ja H'' O') d x)/\(i=items.length->J.stop i H')
abbrev DI:=j8->Option (List D)
def YW(K:Fr)(di:DI):TI:=fun σ H R=>∃H0 O0 ρ O items,Rel K H0 O0 ρ σ H O/\di ρ=some items/\∀J H',j4 H H'->qd K J H0 O0 H' O items->R J H'
section
variable {X:Cx} {K:Fr} {e a b c d tg:Expr} {de da db dc dd:DE} {pos:Pos}
theorem HF(h:PE X e (tE K de)):PE X e (tP K de):=jz h fun σ H Q ⟨H0,O0,ρ,O,d,R,ed,q⟩=>⟨H0,O0,ρ,O,d,R,ed,fun v H' s r=>q v H' s (.inl r)⟩
noncomputable def dP(i:Nat):DE:=fun ρ=>match ρ[i]? with
 | some (.cl d)=>some d
 | some (.bo d)=>some d
 | _=>none
@[simp] theorem HG(i:Nat){ρ:j8}:dP i ρ=match ρ[i]? with
 | some (.cl d)=>some d
 | some (.bo d)=>some d
 | _=>none:=rfl
theorem fv(i:Nat){x:Str}(h:PE X (.Name x pos) (YY i)):PE X (.Name x pos) (tP K (dP i)):=jz h fun σ H Q ⟨H0,O0,ρ,O,d,R,ed,q⟩=>by
 unfold dP at ed
 split at ed
 ·cases ed
  obtain⟨v,e1,r⟩:=R.cl i _ (by assumption)
  exact⟨v,e1,q v H (j4.refl H) (.inl r)⟩
 ·cases ed
  obtain⟨v,e1,r⟩:=R.bo i _ (by assumption)
  exact⟨v,e1,q v H (j4.refl H) (.inr r)⟩
 ·cases ed
theorem ZR{wi wi':TI}(h:PI X tg e wi)(f:∀σ H R,wi' σ H R->wi σ H R):PI X tg e wi':=fun pins s σ H R I q=>h pins s σ H R I (f σ H R q)
def HH(K:Fr)(tl:TE):TI:=fun σ H R=>tl σ H fun x H1=>∃a,x=.ref a/\(((∃xs,jt K H1 a xs)/\R (cu K a) H1)∨((∃xs,JB K H1 a xs)/\R (cw K a) H1))
theorem Cy{l:Expr}{tl:TE}(hl:PE X l tl):PI X tg l (HH X.K tl):=by
 intro pins s σ H R I h
 refine jk (hl pins s σ H _ I h) fun v s1 ⟨x,H1,I1,r1,q1⟩=>?_
 obtain⟨a,e,q⟩:=q1
 subst e
 cases r1
 rcases q with⟨⟨xs,hq⟩,q⟩ | ⟨⟨xs,hq⟩,q⟩
 ·obtain⟨its,rv,p,hz⟩:=I1.list hq
  refine wpAny_pyIter_list p.isList ?_
  refine⟨s1.heap.objs.size,[s1.heap.objs.size],_,_,H1,rfl,I1.kept (t':=s1.toks) fun b o e=>wIa _ e,qU a _,⟨_,wJa _ rfl,rfl,rfl⟩,fun b hb=>?_,q⟩
  have e:b=s1.heap.objs.size:=by simpa using hb
  subst e
  exact I1.fpOk (wPa _) (I1.hok.fresh (wPa _))
 ·obtain⟨its,rv,p,hz⟩:=I1.tuple hq
  refine wpAny_pyIter_tuple (show s1.heap.IsTuple a its.toArray from p) ?_
  refine⟨s1.heap.objs.size,[s1.heap.objs.size],_,_,H1,rfl,I1.kept (t':=s1.toks) fun b o e=>wIa _ e,WG a _,⟨_,wJa _ rfl,rfl,rfl⟩,fun b hb=>?_,q⟩
  have e:b=s1.heap.objs.size:=by simpa using hb
  subst e
  exact I1.fpOk (wPa _) (I1.hok.fresh (wPa _))
noncomputable def yN:D->Option (List D)
 | .lst l=>some l
 | .tup l=>some l
 | _=>none
@[simp] theorem Ql(l:List D):yN (.lst l)=some l:=rfl
@[simp] theorem FC(l:List D):yN (.tup l)=some l:=rfl
def Jb(de:DE):DI:=fun ρ=>(de ρ).bind yN
@[simp] theorem wZ(de:DE){ρ:j8}:Jb de ρ=(de ρ).bind yN:=rfl
theorem Cz{H0 H:Hp}{O0 O:List Addr}{d:D}{v:V}{l:List D}(r:RP K H0 O0 H O d v)(e:yN d=some l)(s0:j4 H0 H)(s1:j4 (ja H0 O0) (ja H O)):
  ∃a,v=.ref a/\(((∃xs,jt K H a xs)/\qd K (cu K a) H0 O0 H O l)∨((∃xs,JB K H a xs)/\qd K (cw K a) H0 O0 H O l)):=by
 unfold yN at e
 split at e
 ·cases e
  obtain⟨p,xs,rfl,h1,h2⟩:=(r.at s0 s1 (j4.refl _)).lst
  refine⟨p,rfl,.inl ⟨⟨xs,jt.of h1⟩,fun i H' O' t0 t1 t2 _=>?_⟩⟩
  obtain⟨p',ys,e',g1,g2⟩:=(r.at t0 t1 t2).lst
  cases e'
  refine⟨fun d hd=>?_,fun hi=>⟨ys,jt.of g1,by rw[g2.len,hi]; exact wPa _⟩⟩
  obtain⟨x,hx,rx⟩:=g2.get hd
  refine⟨⟨ys,x,jt.of g1,hx⟩,fun x' H'' y=>?_⟩
  obtain⟨e1,y⟩:=y
  have z:=y ys (jt.of g1)
  rw[hx]at z
  cases z
  rw[e1]
  exact⟨j4.refl _,rx⟩
 ·cases e
  obtain⟨p,xs,rfl,h1,h2⟩:=(r.at s0 s1 (j4.refl _)).tup
  refine⟨p,rfl,.inr ⟨⟨xs,h1⟩,fun i H' O' t0 t1 t2 _=>?_⟩⟩
  obtain⟨p',ys,e',g1,g2⟩:=(r.at t0 t1 t2).tup
  cases e'
  refine⟨fun d hd=>?_,fun hi=>⟨ys,g1,by rw[g2.len,hi]; exact wPa _⟩⟩
  obtain⟨x,hx,rx⟩:=g2.get hd
  refine⟨⟨ys,x,g1,hx⟩,fun x' H'' y=>?_⟩
  obtain⟨e1,y⟩:=y
  have z:=y ys g1
  rw[hx]at z
  cases z
  rw[e1]
  exact⟨j4.refl _,rx⟩
 ·cases e
theorem fz(h:PE X e (tP K de))(hK:X.K=K:=by rfl):PI X tg e (YW K (Jb de)):=ZR (Cy h) fun σ H R ⟨H0,O0,ρ,O,items,Re,ed,q⟩=>by
 subst hK
 obtain⟨d,e1,e2⟩:=j0 ed
 refine⟨H0,O0,ρ,O,d,Re,e1,fun v H' s r=>?_⟩
 have R':=Re.grow s
 obtain⟨a,rfl,z⟩:=Cz r e2 R'.keep R'.in0
 rcases z with⟨z1,z2⟩ | ⟨z1,z2⟩
 ·exact⟨a,rfl,.inl ⟨z1,q _ H' s z2⟩⟩
 ·exact⟨a,rfl,.inr ⟨z1,q _ H' s z2⟩⟩
noncomputable def jT(lo:Int)(n:Nat):List D:=(List.range n).map fun(i:Nat)=>D.int (lo+(i:Int))
theorem Qm{H0 H:Hp}{O0 O:List Addr}{lo:Int}{n:Nat}:qd K (qT lo n) H0 O0 H O (jT lo n):=fun i H' O' _ _ _ _=>by
 refine⟨fun d hd=>?_,fun hi=>?_⟩
 ·unfold jT at hd
  rw[List.getElem?_map]at hd
  cases q:(List.range n)[i]? with
  | none=>rw[q]at hd; cases hd
  | some j=>
   rw[q]at hd
   cases hd
   obtain⟨h1,h2⟩:=List.getElem?_eq_some_iff.mp q
   rw[List.getElem_range]at h2
   subst h2
   rw[List.length_range]at h1
   refine⟨h1,fun x H'' y=>?_⟩
   obtain⟨e1,e2⟩:=y
   rw[e1,e2]
   exact⟨j4.refl _,by rw[j6]⟩
 ·unfold jT at hi
  rw[List.length_map,List.length_range]at hi
  show n<=i
  omega
noncomputable def j_(j:Int):Bool:=Nat.blt j.natAbs 4611686018427387904
theorem y_{j:Int}(h1:-4611686018427387904 < j)(h2:j < 4611686018427387904):j_ j=true:=by unfold j_; rw[Nat.blt_eq]; omega
theorem V5{j:Int}(h:j_ j=true):-(2 ^ 62)<=j/\j < 2 ^ 62:=by
 unfold j_ at h
 rw[Nat.blt_eq]at h
 have e:(2:Int) ^ 62=4611686018427387904:=by decide
 rw[e]
 omega
def Yj(de:DE):DI:=fun ρ=>(de ρ).bind fun d=>match d with
 | .int j=>if j_ j=true then some (jT 0 j.toNat)else none
 | _=>none
@[simp] theorem iy(de:DE){ρ:j8}:Yj de ρ=(de ρ).bind fun d=>match d with
 | .int j=>if j_ j=true then some (jT 0 j.toNat)else none
 | _=>none:=rfl
theorem CA{p:Pos}(hg:Gl X "range")(hm:X.mg "range" = none)(h:PE X a (tR K da))(hs:starEach [a] X.env=[(false,eval a X.env)]:=by rfl):PI X tg (.Call (.Name "range" p) [a] [] pos) (YW K (Yj da)):=ZR (qV hg hm (jU h JN (by rw[hs]; rfl)) hs) fun σ H R ⟨H0,O0,ρ,O,items,Re,ed,q⟩=>by
 obtain⟨d,e1,e2⟩:=j0 ed
 refine⟨H0,O0,ρ,O,d,Re,e1,fun v H' s r=>?_⟩
 split at e2
 ·split at e2
  ·cases e2
   rename_i hj
   have hj:=V5 hj
   exact⟨_,by rw[r.int],hj.1,hj.2,q _ H' s Qm⟩
  ·cases e2
 ·cases e2
def qe(da db:DE):DI:=fun ρ=>(da ρ).bind fun x=>(db ρ).bind fun y=>match x,y with
 | .int i,.int j=>if j_ i=true/\j_ j=true then some (jT i (j - i).toNat)else none
 | _,_=>none
@[simp] theorem iz(da db:DE){ρ:j8}:qe da db ρ=(da ρ).bind fun x=>(db ρ).bind fun y=>match x,y with
 | .int i,.int j=>if j_ i=true/\j_ j=true then some (jT i (j - i).toNat)else none
 | _,_=>none:=rfl
theorem CB{p:Pos}(hg:Gl X "range")(hm:X.mg "range" = none)(h:PE X a (tR K da))(h':PE X b (tR K db))(hs:starEach [a,b] X.env=[(false,eval a X.env),(false,eval b X.env)]:=by rfl)(hs2:starEach [b] X.env=[(false,eval b X.env)]:=by rfl):PI X tg (.Call (.Name "range" p) [a,b] [] pos) (YW K (qe da db)):=ZR (qW hg hm (jU h (jU h' JN (by rw[hs2]; rfl)) (by rw[hs,hs2])) hs hs2) fun σ H R ⟨H0,O0,ρ,O,items,Re,ed,q⟩=>by
 obtain⟨x,e1,ed⟩:=j0 ed
 obtain⟨y,e2,ed⟩:=j0 ed
 refine⟨H0,O0,ρ,O,x,Re,e1,fun v H1 s1 r=>⟨H0,O0,ρ,O,y,Re.grow s1,e2,fun v2 H2 s2 r2=>?_⟩⟩
 split at ed
 ·split at ed
  ·rename_i hj
   cases ed
   have h1:=V5 hj.1
   have h2:=V5 hj.2
   exact⟨_,_,by rw[r.int,r2.int],⟨h1.1,h1.2,h2.1,h2.2⟩,q _ H2 (s1.trans s2) Qm⟩
  ·cases ed
 ·cases ed
def fA(K:Fr)(ta:TA):TI:=fun σ H R=>ta σ H fun vs H1=>∃k j a b xs ys,vs=[.ref a,.ref b]/\Vv K k H1 a xs/\Vv K j H1 b ys/\R (Fv K k j a b) H1
theorem bP{es:List Expr}{x1:Nat}{tp:Pos}{e1 e2:Expr}{ta:TA}{p pos:Pos}(hg:Gl X "zip")(hm:X.mg "zip" = none)(ha:PA X [e1,e2] ta)(hs:starEach [e1,e2] X.env=[(false,eval e1 X.env),(false,eval e2 X.env)]:=by rfl)(hs2:starEach [e2] X.env=[(false,eval e2 X.env)]:=by rfl):
  PI X (.Tuple es x1 tp) (.Call (.Name "zip" p) [e1,e2] [] pos) (fA X.K ta):=by
 intro pins s σ H R I h
 refine Call_ (Yc I hg hm boot_zip (PyProof.Rows.callWith_type1 (jk (ha pos pins s σ H _ I h) fun us s1 ⟨vs,H1,I1,r1,q1⟩=>?_) (by rw[hs,hs2]) (by rw[hs2]; rfl)))
 obtain⟨k,j,a,b,xs,ys,e,qa,qb,q⟩:=q1
 subst e
 cases r1 with
 | cons r rr=>
  cases rr with
  | cons r' rr=>
   cases rr
   cases r
   cases r'
   obtain⟨ia,ra,pa,_⟩:=I1.seqK qa
   obtain⟨ib,rb,pb,_⟩:=I1.seqK qb
   refine x_ pa pb fun h' b1 b2 b3 b4 b5 bk=>?_
   refine wpAny_pyIter_zip b1 ?_
   have fr:∀m,Jt X pins H1 (s1.heap.objs.size+m):=fun m=>I1.fpOk (vKa _ _) (I1.hok.fresh (vKa _ _))
   refine⟨_,_,_,_,H1,rfl,I1.kept (t':=s1.toks) bk,X3 (zipApart_new pa.lt pb.lt),⟨b1,b2,⟨_,_,b3⟩,b4,b5⟩,fun c hc=>?_,q⟩
   simp only[List.mem_cons,List.not_mem_nil,or_false]at hc
   rcases hc with rfl | rfl | rfl | rfl | rfl
   ·exact fr 4
   ·exact fr 2
   ·exact fr 3
   ·exact fr 0
   ·exact fr 1
theorem UW{O:List Addr}{H:Hp}{d:D}{v:V}{l:List D}(r:RB K O H d v)(e:yN d=some l):∃k a xs,v=.ref a/\Vv K k H a xs/\j1 K (ja H O) l xs/\(k=Sk.l↔∃m,d=D.lst m):=by
 unfold yN at e
 split at e
 ·cases e
  obtain⟨p,xs,rfl,h1,h2⟩:=r.lst
  exact⟨.l,p,xs,rfl,jt.of h1,h2,Iff.intro (fun _=>⟨_,rfl⟩) (fun _=>rfl)⟩
 ·cases e
  obtain⟨p,xs,rfl,h1,h2⟩:=r.tup
  exact⟨.t,p,xs,rfl,h1,h2,Iff.intro (fun z=>nomatch z) (fun z=>by obtain⟨_,z⟩:=z; cases z)⟩
 ·cases e
theorem A3{k k':Sk}{d:D}(h:k=Sk.l↔∃m,d=D.lst m)(h':k'=Sk.l↔∃m,d=D.lst m):k=k':=by
 cases k <;> cases k' <;> first | rfl | (exact vDa (h'.mpr (h.mp rfl)) (by intro z; cases z)) | (exact vDa (h.mpr (h'.mp rfl)) (by intro z; cases z))
def K3(da db:DE):DI:=fun ρ=>(da ρ).bind fun x=>(db ρ).bind fun y=>(yN x).bind fun l=>(yN y).bind fun m=>some (List.zipWith (fun p q=>D.tup [p,q]) l m)
@[simp] theorem Ih(da db:DE){ρ:j8}:K3 da db ρ=(da ρ).bind fun x=>(db ρ).bind fun y=>(yN x).bind fun l=>(yN y).bind fun m=>some (List.zipWith (fun p q=>D.tup [p,q]) l m):=rfl
theorem Xd{O:List Addr}{H:Hp}{p:Addr}{d d':D}{x y:V}(hO:p∉O)(hp:H p=none)(r:j6 K (ja H O) d x)(r':j6 K (ja H O) d' y):j6 K (ja (upd H p (.tup [x,y])) O) (.tup [d,d']) (.ref p):=yE hO hp (j1.cons r (j1.cons r' j1.nil))
theorem fG{es:List Expr}{x1:Nat}{tp p:Pos}(hg:Gl X "zip")(hm:X.mg "zip" = none)(h:PE X a (tP K da))(h':PE X b (tP K db))(hs:starEach [a,b] X.env=[(false,eval a X.env),(false,eval b X.env)]:=by rfl)(hs2:starEach [b] X.env=[(false,eval b X.env)]:=by rfl)(hK:X.K=K:=by rfl):
  PI X (.Tuple es x1 tp) (.Call (.Name "zip" p) [a,b] [] pos) (YW K (K3 da db)):=ZR (bP hg hm (jU h (jU h' JN (by rw[hs2]; rfl)) (by rw[hs,hs2])) hs hs2) fun σ H R ⟨H0,O0,ρ,O,items,Re,ed,q⟩=>by
 subst hK
 obtain⟨x,e1,ed⟩:=j0 ed
 obtain⟨y,e2,ed⟩:=j0 ed
 obtain⟨l,e3,ed⟩:=j0 ed
 obtain⟨m,e4,ed⟩:=j0 ed
 cases ed
 refine⟨H0,O0,ρ,O,x,Re,e1,fun v H1 s1 r=>⟨H0,O0,ρ,O,y,Re.grow s1,e2,fun v2 H2 s2 r2=>?_⟩⟩
 have R1:=Re.grow s1
 have R2:=R1.grow s2
 have r':RP X.K H0 O0 H2 O x v:=by
  rcases r with r | r
  ·exact .inl (r.same (jh s2))
  ·exact .inr r
 obtain⟨k,p,xs,rfl,h1,h2,hk⟩:=UW (r'.at R2.keep R2.in0 (j4.refl _)) e3
 obtain⟨j,p',ys,rfl,h1',h2',hj⟩:=UW (r2.at R2.keep R2.in0 (j4.refl _)) e4
 refine⟨k,j,p,p',xs,ys,rfl,h1,h1',q _ H2 (s1.trans s2) fun i H' O' t0 t1 t2 ta=>?_⟩
 obtain⟨k2,q2,us,ea,g1,g2,hk2⟩:=UW (r'.at t0 t1 t2) e3
 cases ea
 cases A3 hk hk2
 obtain⟨j2,q3,ws,eb,g1',g2',hj2⟩:=UW (r2.at t0 t1 t2) e4
 cases eb
 cases A3 hj hj2
 refine⟨fun d hd=>?_,fun hi=>⟨us,ws,g1,g1',?_⟩⟩
 ·rw[List.getElem?_zipWith]at hd
  split at hd
  ·cases hd
   rename_i dp dq hp hq
   obtain⟨u,hu,ru⟩:=g2.get hp
   obtain⟨w,hw,rw'⟩:=g2'.get hq
   refine⟨⟨us,ws,u,w,g1,g1',hu,hw⟩,fun x' H'' yy=>?_⟩
   obtain⟨pp,hpp,rfl,yy⟩:=yy
   rw[yy _ _ _ _ g1 g1' hu hw]
   exact⟨jK hpp _,Xd (fun z=>ta pp z hpp) hpp ru rw'⟩
  ·cases hd
 ·rw[List.length_zipWith]at hi
  rw[g2.len,g2'.len]
  omega
noncomputable def z_:Nat->List D->List D
 | _,[]=>[]
 | n,d::ds=>.tup [.int n,d]::z_ (n+1) ds
theorem GG:∀(n:Nat) (l:List D),(z_ n l).length=l.length
 | _,[]=>rfl
 | n,d::ds=>by rw[z_,List.length_cons,List.length_cons,GG]
theorem GH:∀(n:Nat) (l:List D) (i:Nat) (d:D),(z_ n l)[i]?=some d->∃d',l[i]?=some d'/\d=.tup [.int ((n+i:Nat):Int),d']
 | _,[],_,_,h=>by simp[z_]at h
 | n,x::l,0,d,h=>by
  simp[z_]at h
  exact⟨x,rfl,by rw[<-h]; rfl⟩
 | n,x::l,i+1,d,h=>by
  simp only[z_,List.getElem?_cons_succ]at h
  obtain⟨d',h1,h2⟩:=GH (n+1) l i d h
  refine⟨d',by simpa using h1,?_⟩
  rw[h2]
  have:n+1+i=n+(i+1):=by omega
  rw[this]
noncomputable def ZS:D->Option (List D)
 | .lst l=>some l
 | _=>none
@[simp] theorem FD(l:List D):ZS (.lst l)=some l:=rfl
def qf(de:DE):DI:=fun ρ=>(de ρ).bind fun d=>(ZS d).bind fun l=>some (z_ 0 l)
@[simp] theorem iA(de:DE){ρ:j8}:qf de ρ=(de ρ).bind fun d=>(ZS d).bind fun l=>some (z_ 0 l):=rfl
theorem CD{es:List Expr}{x1:Nat}{tp p:Pos}(hg:Gl X "enumerate")(hm:X.mg "enumerate" = none)(h:PE X a (tP K da))(hs:starEach [a] X.env=[(false,eval a X.env)]:=by rfl)(hK:X.K=K:=by rfl):
  PI X (.Tuple es x1 tp) (.Call (.Name "enumerate" p) [a] [] pos) (YW K (qf da)):=ZR (bL hg hm (jU h JN (by rw[hs]; rfl)) hs) fun σ H R ⟨H0,O0,ρ,O,items,Re,ed,q⟩=>by
 subst hK
 obtain⟨x,e1,ed⟩:=j0 ed
 obtain⟨l,e3,ed⟩:=j0 ed
 cases ed
 refine⟨H0,O0,ρ,O,x,Re,e1,fun v H1 s1 r=>?_⟩
 have R1:=Re.grow s1
 unfold ZS at e3
 split at e3
 ·cases e3
  obtain⟨p,xs,rfl,h1,h2⟩:=(r.at R1.keep R1.in0 (j4.refl _)).lst
  refine⟨p,xs,rfl,jt.of h1,q _ H1 s1 fun i H' O' t0 t1 t2 ta=>?_⟩
  obtain⟨p',us,ea,g1,g2⟩:=(r.at t0 t1 t2).lst
  cases ea
  refine⟨fun d hd=>?_,fun hi=>⟨us,jt.of g1,by rw[g2.len,hi,GG]; exact wPa _⟩⟩
  obtain⟨d',hd',rfl⟩:=GH 0 l i d hd
  obtain⟨u,hu,ru⟩:=g2.get hd'
  refine⟨⟨us,u,jt.of g1,hu⟩,fun x' H'' yy=>?_⟩
  obtain⟨pp,hpp,rfl,yy⟩:=yy
  rw[yy _ _ (jt.of g1) hu]
  exact⟨jK hpp _,Xd (fun z=>ta pp z hpp) hpp (by rw[j6,Nat.zero_add]) ru⟩
 ·cases e3
abbrev DG:=D->j8->Option j8
abbrev u7:=List D->j8->Option j8
def tG(K:Fr)(k:Nat)(g:DG):TG:=fun v σ H Q=>∃H0 O0 ρ O d ρ',Rel K H0 O0 ρ σ H O/\j6 K (ja H O) d v/\g d ρ=some ρ'/\∀σ',Rel K H0 O0 ρ' σ' H O->σ'.drop k=σ.drop k->Q σ' H
def Qo(K:Fr)(k:Nat)(g:u7):UL:=fun vs σ H Q=>∃H0 O0 ρ O ds ρ',Rel K H0 O0 ρ σ H O/\j1 K (ja H O) ds vs/\g ds ρ=some ρ'/\∀σ',Rel K H0 O0 ρ' σ' H O->σ'.drop k=σ.drop k->Q σ' H
theorem A4{t t':TG}(h:PG X tg t)(f:∀v σ H Q,t' v σ H Q->t v σ H Q):PG X tg t':=fun pins s σ H v u Q I r q=>h pins s σ H v u Q I r (f v σ H Q q)
theorem Qp{ts:List Expr}{t t':UL}(h:VO X ts t)(f:∀v σ H Q,t' v σ H Q->t v σ H Q):VO X ts t':=fun pins s σ H v u Q I r q=>h pins s σ H v u Q I r (f v σ H Q q)
noncomputable def gN(i:Nat):DG:=fun d ρ=>some (ρ.set i (.cl d))
@[simp] theorem l8(i:Nat){d:D}{ρ:j8}:gN i d ρ=some (ρ.set i (.cl d)):=rfl
theorem CF{i k:Nat}{x:Str}(h:PG X (.Name x pos) (ZM i))(hi:i < k:=by decide):PG X (.Name x pos) (tG K k (gN i)):=A4 h fun v σ H Q ⟨H0,O0,ρ,O,d,ρ',R,r,e,q⟩=>by
 cases e
 exact q _ (R.set r i) (List.drop_set_of_lt hi)
noncomputable def gZ:u7:=fun ds ρ=>match ds with
 | []=>some ρ
 | _=>none
@[simp] theorem lf{ds:List D}{ρ:j8}:gZ ds ρ=match ds with
 | []=>some ρ
 | _=>none:=rfl
noncomputable def gC(g:DG)(gs:u7):u7:=fun ds ρ=>match ds with
 | d::r=>(g d ρ).bind fun ρ1=>gs r ρ1
 | []=>none
@[simp] theorem lg(g:DG)(gs:u7){ds:List D}{ρ:j8}:gC g gs ds ρ=match ds with
 | d::r=>(g d ρ).bind fun ρ1=>gs r ρ1
 | []=>none:=rfl
theorem fH{k:Nat}:VO X [] (Qo K k gZ):=Qp bh fun v σ H Q ⟨H0,O0,ρ,O,d,ρ',R,r,e,q⟩=>by
 unfold gZ at e
 split at e
 ·cases e
  rw[j1]at r
  exact⟨r,q _ R rfl⟩
 ·cases e
theorem CG{k:Nat}{es:List Expr}{g:DG}{gs:u7}(h1:PG X e (tG K k g))(h2:VO X es (Qo K k gs))(hs:(assignEach (e::es) X.env).map (·.2)=assign e X.env::(assignEach es X.env).map (·.2):=by rfl):VO X (e::es) (Qo K k (gC g gs)):=Qp (xI h1 h2 hs) fun v σ H Q ⟨H0,O0,ρ,O,ds,ρ',R,r,ed,q⟩=>by
 unfold gC at ed
 split at ed
 ·obtain⟨ρ1,e1,e2⟩:=j0 ed
  rw[j1]at r
  obtain⟨v1,vr,rfl,a,b⟩:=r
  exact⟨v1,vr,rfl,H0,O0,ρ,O,_,ρ1,R,a,e1,fun σ' R' k1=>⟨H0,O0,ρ1,O,_,ρ',R',b,e2,fun σ2 R2 k2=>q σ2 R2 (k2.trans k1)⟩⟩
 ·cases ed
noncomputable def gT(n:Nat)(gs:u7):DG:=fun d ρ=>match d with
 | .tup l=>if l.length=n then gs l ρ else none
 | _=>none
@[simp] theorem li(n:Nat)(gs:u7){d:D}{ρ:j8}:gT n gs d ρ=match d with
 | .tup l=>if l.length=n then gs l ρ else none
 | _=>none:=rfl
theorem fJ{es:List Expr}{k kk:Nat}{gs:u7}(n:Nat)(hc:X.calm=true)(h:VO X es (Qo K kk gs))(hn:(assignEach es X.env).length=n:=by rfl)(hst:(assignEach es X.env).findIdx? (·.1)=none:=by rfl)(hK:X.K=K:=by rfl):PG X (.Tuple es k pos) (tG K kk (gT n gs)):=A4 (cj hc h hn hst) fun v σ H Q ⟨H0,O0,ρ,O,d,ρ',R,r,ed,q⟩=>by
 subst hK
 unfold gT at ed
 split at ed
 ·split at ed
  ·obtain⟨a,xs,rfl,h1,h2⟩:=RB.tup (.inl r)
   exact⟨a,xs,rfl,h1,by rw[h2.len]; assumption,H0,O0,ρ,O,_,ρ',R,h2,ed,q⟩
  ·cases ed
 ·cases ed
noncomputable def jH:DT:=fun _=>some true
@[simp] theorem iB{r:j8}:jH r=some true:=rfl
theorem HI:zD X [] (tT K jH):=fun pins s σ H Q I ⟨H0,O0,ρ,O,b,R,ed,q⟩=>by
 cases ed
 exact bF pins s σ H Q I (q H (j4.refl H))
theorem HJ{dt:DT}(h:PT X c (tT K dt)):zD X [c] (tT K dt):=bG h
@[simp] noncomputable def YM(k:Nat)(caps:List Nat)(ρ:j8):j8:=List.replicate k .un++caps.map fun j=>(ρ[j]?).getD .un
noncomputable def J8(g:DG)(dc:DT)(de:DE):List D->j8->Option (List D)
 | [],_=>some []
 | d::ds,ρ=>(g d ρ).bind fun ρ1=>(dc ρ1).bind fun k=>if k=true then(de ρ1).bind fun y=>(J8 g dc de ds ρ).bind fun ys=>some (y::ys)else J8 g dc de ds ρ
def JL(k:Nat)(caps:List Nat)(di:DI)(g:DG)(dc:DT)(de:DE):DO:=fun ρ=>(di ρ).bind fun items=>(J8 g dc de items (YM k caps ρ)).bind fun ys=>if items.length<=sizeLine then some (.lst ys)else none
@[simp] theorem fL(k:Nat)(caps:List Nat)(di:DI)(g:DG)(dc:DT)(de:DE){ρ:j8}:JL k caps di g dc de ρ=(di ρ).bind fun items=>(J8 g dc de items (YM k caps ρ)).bind fun ys=>if items.length<=sizeLine then some (.lst ys)else none:=rfl
theorem Xe{H0 H:Hp}{O0 O:List Addr}{ρ:j8}{σ:L2.St}(own:List Str)(caps:List (Str×Nat))(R:Rel K H0 O0 ρ σ H O)(hnd:(caps.map (·.2)).Nodup):Rel K H0 O0 (YM own.length (caps.map (·.2)) ρ) (ZO own caps σ) H O:=by
 have key:∀(i:Nat) (s:Sl),s≠.un->(YM own.length (caps.map (·.2)) ρ)[i]?=some s->∃m x j,i=own.length+m/\caps[m]?=some (x,j)/\ρ[j]?=some s/\(ZO own caps σ)[i]?=some ((σ[j]?).join):=fun i s hs e=>by
  unfold YM at e
  by_cases hi:i < own.length
  ·rw[List.getElem?_append_left (by rw[List.length_replicate]; exact hi),List.getElem?_replicate,if_pos hi]at e
   cases e
   exact vDa rfl hs
  ·rw[List.getElem?_append_right (by rw[List.length_replicate]; omega),List.length_replicate,List.map_map,List.getElem?_map]at e
   cases q:caps[i - own.length]? with
   | none=>rw[q]at e; cases e
   | some p=>
    rw[q]at e
    obtain⟨x,j⟩:=p
    have e:(ρ[j]?).getD .un=s:=vFa e
    refine⟨i - own.length,x,j,by omega,q,?_,?_⟩
    ·cases z:ρ[j]? with
     | none=>rw[z]at e; exact vDa e.symm hs
     | some s'=>rw[z]at e; rw[<-e]; rfl
    ·show(own.map (fun _=>(none:Option V))++caps.map fun(p:Str×Nat)=>(σ[p.2]?).join)[i]?=_
     rw[List.getElem?_append_right (by rw[List.length_map]; omega),List.length_map,List.getElem?_map,q]
     rfl
 refine⟨?_,R.sub,R.fr,R.al0,R.al,R.keep,?_,?_,?_,?_⟩
 ·show(own.map (fun _=>(none:Option V))++caps.map fun(p:Str×Nat)=>(σ[p.2]?).join).length=_
  unfold YM
  simp
 ·intro i d e
  obtain⟨m,x,j,_,_,e2,e3⟩:=key i _ (by intro z; cases z) e
  obtain⟨v,h1,h2⟩:=R.cl j d e2
  exact⟨v,by rw[e3,h1]; rfl,h2⟩
 ·intro i d e
  obtain⟨m,x,j,_,_,e2,e3⟩:=key i _ (by intro z; cases z) e
  obtain⟨v,h1,h2⟩:=R.bo j d e2
  exact⟨v,by rw[e3,h1]; rfl,h2⟩
 ·intro i q o e
  obtain⟨m,x,j,_,_,e2,e3⟩:=key i _ (by intro z; cases z) e
  obtain⟨l,z,h1,h2⟩:=R.ow j q o e2
  exact⟨l,z,by rw[e3,h1]; rfl,h2⟩
 ·intro i i' q q' ds es l e e' f f'
  obtain⟨m,x,j,rfl,c1,e2,e3⟩:=key i _ (by intro z; cases z) e
  obtain⟨m',x',j',rfl,c2,e2',e3'⟩:=key i' _ (by intro z; cases z) e'
  rw[e3]at f
  rw[e3']at f'
  have jn:∀{o:Option (Option V)} {v:V},o.join=some v->o=some (some v):=fun {o v} z=>by
   cases o with
   | none=>cases z
   | some w=>cases w with
    | none=>cases z
    | some u=>cases z; rfl
  have ej:=R.dist j j' q q' ds es l e2 e2' (jn (vFa f)) (jn (vFa f'))
  subst ej
  have h1:(caps.map (·.2))[m]?=some j:=by rw[List.getElem?_map,c1]; rfl
  have h2:(caps.map (·.2))[m']?=some j:=by rw[List.getElem?_map,c2]; rfl
  have hm:m=m':=by
   have l1:=(List.getElem?_eq_some_iff.mp h1).1
   exact(List.getElem?_inj l1 hnd).mp (h1.trans h2.symm)
  rw[hm]
end
end DS
namespace DS
open PySem PySem.Spec PyProof.Rows L2
section
variable {X:Cx} {K:Fr} {e a b c d tg:Expr} {de da db dc dd:DE} {pos:Pos}
theorem K4{own:List Str}{caps:List (Str×Nat)}{di:DI}{g:DG}{dc:DT}{de:DE}(hnd:(caps.map (·.2)).Nodup):∀σ H Q,tF K (JL own.length (caps.map (·.2)) di g dc de) σ H Q->Ch own caps (YW K di) (tG K own.length g) (tT K dc) (tE K de) σ H Q:=fun σ H Q ⟨H0,O0,ρ,O,o,R,ed,q⟩=>by
 obtain⟨items,e1,ed⟩:=j0 ed
 obtain⟨ys,e2,ed⟩:=j0 ed
 split at ed
 ·rename_i hz
  cases ed
  refine⟨H0,O0,ρ,O,items,R,e1,fun J H1 s1 hJ=>?_⟩
  have R1:=R.grow s1
  have Rc:=Xe own caps R1 hnd
  refine⟨fun i m vs H'=>∃ys1 ys2,J8 g dc de (items.drop i) (YM own.length (caps.map (·.2)) ρ)=some ys2/\ys1++ys2=ys/\j4 H1 H'/\j1 K (ja H' O) ys1 vs/\m=items.length - i/\i<=items.length/\ys1.length<=i,⟨items.length,[],ys,by simpa using e2,rfl,j4.refl _,j1.nil,rfl,Nat.zero_le _,wPa _⟩,?_⟩
  rintro i m vs H' ⟨ys1,ys2,d1,d2,sH,rp,rfl,hi,hy⟩
  have R2:=R1.grow sH
  obtain⟨hgo,hstop⟩:=hJ i H' O R2.keep R2.in0 (jh sH) R2.al
  by_cases hlt:i < items.length
  ·right
   have hx:items[i]?=some items[i]:=by simp[hlt]
   have hd:items.drop i=items[i]::items.drop (i+1):=(List.getElem_cons_drop hlt).symm
   rw[hd]at d1
   obtain⟨g1,g2⟩:=hgo _ hx
   refine⟨g1,by rw[rp.len]; omega,fun vs' H4=>∃ys1 ys2,J8 g dc de (items.drop (i+1)) (YM own.length (caps.map (·.2)) ρ)=some ys2/\ys1++ys2=ys/\j4 H1 H4/\j1 K (ja H4 O) ys1 vs'/\ys1.length<=i+1,?_,fun x H'' y=>?_⟩
   ·rintro vs' H4 ⟨z1,z2,a1,a2,a3,a4,a5⟩
    exact⟨items.length - (i+1),by omega,z1,z2,a1,a2,a3,a4,rfl,hlt,a5⟩
   ·obtain⟨sy,rx⟩:=g2 x H'' y
    obtain⟨ρ1,f1,f2⟩:=j0 d1
    obtain⟨k,f3,f4⟩:=j0 f2
    refine⟨H0,O0,_,O,_,ρ1,Rc.grow (sH.trans sy),rx,f1,fun σ2 R3 kd=>⟨kd,H0,O0,ρ1,O,k,R3,f3,fun H3 s3=>?_⟩⟩
    cases k with
    | true=>
     rw[if_pos rfl]at f4
     obtain⟨y1,f5,f6⟩:=j0 f4
     obtain⟨yr,f7,f8⟩:=j0 f6
     cases f8
     refine YH ⟨H0,O0,ρ1,O,y1,R3.grow s3,f5,fun v H4 s4 rv=>?_⟩
     exact⟨ys1++[y1],yr,f7,by rw[<-d2]; simp,sH.trans (sy.trans (s3.trans s4)),(rp.same (jh (sy.trans (s3.trans s4)))).snoc rv,by simp; exact hy⟩
    | false=>
     rw[if_neg Bool.false_ne_true]at f4
     exact YG ⟨ys1,ys2,f4,d2,sH.trans (sy.trans s3),rp.same (jh (sy.trans s3)),by omega⟩
  ·left
   have ei:i=items.length:=by omega
   refine⟨hstop ei,by rw[rp.len]; omega,fun Dd hD=>?_⟩
   have e0:items.drop i=[]:=List.drop_of_length_le (by omega)
   rw[e0]at d1
   have e3:ys2=[]:=by
    have d1:some []=some ys2:=d1
    exact(vFa d1).symm
   rw[e3,List.append_nil]at d2
   subst d2
   exact q Dd _ ((s1.trans sH).trans (jK hD _)) ((s1.trans sH).none hD) (JQ hD rp)
 ·cases ed
theorem HK{iter elt:Expr}{ifs:List Expr}{scope:Scope}{di:DI}{g:DG}{dc:DT}{de:DE}(own:List Str)(caps:List (Str×Nat))(S:CScope X scope)(hcap:Caps X scope caps)(hc:X.calm=true)(hi:PI X tg iter (YW K di))
  (hg:∀s3 H3 ex',PG (X.comp (cN own caps) scope s3 H3 ex') tg (tG K own.length g)) (ht:∀s3 H3 ex',zD (X.comp (cN own caps) scope s3 H3 ex') ifs (tT K dc)) (he:∀s3 H3 ex',PE (X.comp (cN own caps) scope s3 H3 ex') elt (tE K de))
  (hnd:(caps.map (·.2)).Nodup:=by decide) (hs:∀x,foldedSetIterable iter X.env x=pure x:=by intro _; rfl):PE X (.ListComp elt [⟨tg,iter,ifs,0⟩] scope pos) (tF K (JL own.length (caps.map (·.2)) di g dc de)):=jz (EB own caps S hcap hc hi hg ht he hs) (K4 hnd)
def K5(K:Fr)(ks:List Bool)(F:List D->Option D):Sp:=fun vs H Q _=>∃O ds d,(∀a∈O,H a≠none)/\yh K O H ks ds vs/\F ds=some d/\∀v H',j4 H H'->j6 K (ja H' O) d v->Q v H'
def w_(K:Fr)(ks:List Bool)(F:List D->Option OD):Sp:=fun vs H Q _=>∃O ds o,(∀a∈O,H a≠none)/\yh K O H ks ds vs/\F ds=some o/\∀l H',j4 H H'->H l=none->JK K H' (ja H' (l::O)) l o->Q (.ref l) H'
variable {k:Nat} {x m:Str} {ps:List Str} {p apos:Pos} {es:List Expr} {l:DA} {ks:List Bool}
theorem CH{F:List D->Option D}(G:FnI X.prog X.w X.K X.mg X.base k x ps (K5 K ks F))(hr:Room k X.A)(ha:PA X (e::es) (YB K l))(hk:l.map (·.1)=ks:=by rfl)(hg:Gl X x:=by rfl)(hdb:(x==("__debug__" : Str))=false:=by decide)
  (he:starEach (e::es) X.env=(false,eval e X.env)::starEach es X.env:=by rfl) (hpl:(backTo pos (starEach es X.env)).any (·.1)=false:=by rfl):PE X (.Call (.Name x p) (e::es) [] pos) (tE K (j9 F l)):=jz (aV G hr ha hg hdb he hpl) fun σ H Q ⟨H0,O0,ρ,O,d,R,ed,q⟩=>by
 subst hk
 obtain⟨ds,e1,e2⟩:=j0 ed
 refine⟨H0,O0,ρ,O,ds,R,e1,fun vs H1 s1 r1=>?_⟩
 (try dsimp only)
 rw[List.append_nil]
 exact⟨O,ds,d,(R.grow s1).al,r1,e2,fun v H' s r=>q v H' (s1.trans s) r⟩
theorem CI{F:List D->Option OD}(G:FnI X.prog X.w X.K X.mg X.base k x ps (w_ K ks F))(hr:Room k X.A)(ha:PA X (e::es) (YB K l))(hk:l.map (·.1)=ks:=by rfl)(hg:Gl X x:=by rfl)(hdb:(x==("__debug__" : Str))=false:=by decide)
  (he:starEach (e::es) X.env=(false,eval e X.env)::starEach es X.env:=by rfl) (hpl:(backTo pos (starEach es X.env)).any (·.1)=false:=by rfl):PE X (.Call (.Name x p) (e::es) [] pos) (tF K (jW F l)):=jz (aV G hr ha hg hdb he hpl) fun σ H Q ⟨H0,O0,ρ,O,d,R,ed,q⟩=>by
 subst hk
 obtain⟨ds,e1,e2⟩:=j0 ed
 refine⟨H0,O0,ρ,O,ds,R,e1,fun vs H1 s1 r1=>?_⟩
 (try dsimp only)
 rw[List.append_nil]
 exact⟨O,ds,d,(R.grow s1).al,r1,e2,fun l H' s hn r=>q l H' (s1.trans s) (s1.none hn) r⟩
noncomputable def ZT(C:Addr)(m:Str)(F:List D->Option D):D->Option D:=fun d=>match d with
 | .ins C' ns ds=>if C'=C/\m∉ns then F [d]else none
 | _=>none
noncomputable def K6(C:Addr)(m:Str)(F:List D->Option OD):D->Option OD:=fun d=>match d with
 | .ins C' ns ds=>if C'=C/\m∉ns then F [d]else none
 | _=>none
theorem v8{α:Type}{m:Str}:∀{ns:List Str} {xs:List α},m∉ns->(ns.zip xs).lookup m=none
 | [],_,_=>rfl
 | _::_,[],_=>rfl
 | n::ns,x::xs,h=>by
  rw[List.zip_cons_cons,List.lookup_cons]
  have e:(m==n)=false:=by
   rw[beq_eq_false_iff_ne]
   exact fun z=>h (by rw[z]; exact wNa)
  rw[e]
  exact v8 fun z=>h (wMa _ z)
theorem bQ{F:List D->Option D}{C:Addr}{pl:Sem Bool}(he:PE X a (tR K da))(c:Cls K C)(M:MtI X.prog X.w X.K X.mg X.base k C m ps (K5 K [false] F))(hr:Room k X.A)
  (ht:eval (.Call (.Attribute a m apos) [] [] pos) X.env=(do
   let ov<-eval a X.env
   standAt apos.atName
   let (f,first)<-holding [ov] (getMethod ov m pl)
   callWith pos f first (backTo pos (starEach [] X.env)) (backToKw pos (keywordEach [] X.env))):=by rfl) (hK:X.K=K:=by rfl):
  PE X (.Call (.Attribute a m apos) [] [] pos) (tE K (d1 (ZT C m F) da)):=by
 subst hK
 refine jz (Qg he c M hr ht) fun σ H Q ⟨H0,O0,ρ,O,d,R,ed,q⟩=>?_
 obtain⟨x,e1,e2⟩:=j0 ed
 refine⟨H0,O0,ρ,O,x,R,e1,fun v H1 s1 r=>?_⟩
 unfold ZT at e2
 split at e2
 ·split at e2
  ·rename_i hh
   obtain⟨rfl,hm⟩:=hh
   have r0:=r
   obtain⟨pa,dx,xs,rfl,h1,hn,h2⟩:=r.ins
   exact⟨pa,dx,_,rfl,h1,v8 hm,O,[_],d,(R.grow s1).al,⟨r0,trivial⟩,e2,fun v H' s r=>q v H' (s1.trans s) r⟩
  ·cases e2
 ·cases e2
noncomputable def CJ(f:D->Option OD)(da:DE):DO:=fun ρ=>(da ρ).bind f
@[simp] theorem IO(f:D->Option OD)(da:DE){ρ:j8}:CJ f da ρ=(da ρ).bind f:=rfl
theorem bR{F:List D->Option OD}{C:Addr}{pl:Sem Bool}(he:PE X a (tR K da))(c:Cls K C)(M:MtI X.prog X.w X.K X.mg X.base k C m ps (w_ K [false] F))(hr:Room k X.A)
  (ht:eval (.Call (.Attribute a m apos) [] [] pos) X.env=(do
   let ov<-eval a X.env
   standAt apos.atName
   let (f,first)<-holding [ov] (getMethod ov m pl)
   callWith pos f first (backTo pos (starEach [] X.env)) (backToKw pos (keywordEach [] X.env))):=by rfl) (hK:X.K=K:=by rfl):
  PE X (.Call (.Attribute a m apos) [] [] pos) (tF K (CJ (K6 C m F) da)):=by
 subst hK
 refine jz (Qg he c M hr ht) fun σ H Q ⟨H0,O0,ρ,O,d,R,ed,q⟩=>?_
 obtain⟨x,e1,e2⟩:=j0 ed
 refine⟨H0,O0,ρ,O,x,R,e1,fun v H1 s1 r=>?_⟩
 unfold K6 at e2
 split at e2
 ·split at e2
  ·rename_i hh
   obtain⟨rfl,hm⟩:=hh
   have r0:=r
   obtain⟨pa,dx,xs,rfl,h1,hn,h2⟩:=r.ins
   exact⟨pa,dx,_,rfl,h1,v8 hm,O,[_],d,(R.grow s1).al,⟨r0,trivial⟩,e2,fun l H' s hn r=>q l H' (s1.trans s) (s1.none hn) r⟩
  ·cases e2
 ·cases e2
def A5(K:Fr)(C:Addr)(ks:List Bool)(F:Addr->List D->Option OD):Sp:=fun vs H Q _=>∃O ds p dx vs' o,vs=.ref p::vs'/\(∀a∈O,H a≠none)/\H p=some (.ins C dx [])/\p∉O/\yh K O (ja H [p]) ks ds vs'/\F p ds=some o/\∀H',j4 (ja H [p]) H'->JK K H' (ja H' (p::O)) p o->Q .non H'
def kn(F:List D->Option OD)(l:DA):DO:=fun ρ=>(yl l ρ).bind F
@[simp] theorem iC(F:List D->Option OD)(l:DA){ρ:j8}:kn F l ρ=(yl l ρ).bind F:=rfl
theorem CK{F:Addr->List D->Option OD}{F1:List D->Option OD}{C:Addr}(M:MkI X.prog X.w X.K X.mg X.base k C x ps (A5 K C ks F))(hF:∀p ds o,F1 ds=some o->F p ds=some o)(hr:Room (k+1) X.A)(ha:PA X (e::es) (YB K l))(hk:l.map (·.1)=ks:=by rfl)(hg:Gl X x:=by rfl)(hdb:(x==("__debug__" : Str))=false:=by decide)
  (he:starEach (e::es) X.env=(false,eval e X.env)::starEach es X.env:=by rfl) (hpl:(backTo pos (starEach es X.env)).any (·.1)=false:=by rfl):PE X (.Call (.Name x p) (e::es) [] pos) (tF K (kn F1 l)):=jz (EC M hr ha hg hdb he hpl) fun σ H Q ⟨H0,O0,ρ,O,o,R,ed,q⟩=>by
 subst hk
 obtain⟨ds,e1,e2⟩:=j0 ed
 refine⟨H0,O0,ρ,O,ds,R,e1,fun vs H1 s1 r1=>fun y dy ny ndy hne=>?_⟩
 (try dsimp only)
 rw[List.append_nil]
 have R1:=R.grow s1
 have sB:j4 H1 (ja (upd (upd H1 dy (.own y)) y (.ins C dy [])) [y]):=fun c u z=>by
  rw[J3 (by intro w; simp at w; exact jy z ny w),jl (jy z ny),jl (jy z ndy)]
  exact z
 refine⟨O,ds,y,dy,vs,o,rfl,fun c hc z=>?_,J2,R1.new ny,r1.same sB,hF y ds o e2,fun H' s ow=>⟨rfl,q y H' (s1.trans (sB.trans s)) (s1.none ny) ow⟩⟩
 refine R1.al c hc ?_
 by_cases h1:c=y
 ·rw[h1]; exact ny
 ·rw[jl h1]at z
  by_cases h2:c=dy
  ·rw[h2]; exact ndy
  ·rw[jl h2]at z; exact z
inductive Rs where
 | nx (ρ:j8) | rt (d:D) | rf (o:OD) | bk (ρ:j8) | ct (ρ:j8)
abbrev DS:=j8->Option Rs
def Fin(K:Fr)(H0:Hp)(O0:List Addr)(H:Hp)(O:List Addr)(E:Ends):Rs->Prop
 | .nx ρ=>∀σ' H' O',Rel K H0 O0 ρ σ' H' O'->j4 (ja H O) (ja H' O')->E.nx σ' H'
 | .bk ρ=>∀σ' H' O',Rel K H0 O0 ρ σ' H' O'->j4 (ja H O) (ja H' O')->E.bk σ' H'
 | .ct ρ=>∀σ' H' O',Rel K H0 O0 ρ σ' H' O'->j4 (ja H O) (ja H' O')->E.ct σ' H'
 | .rt d=>∀v H',j4 H0 H'->j6 K (ja H' O0) d v->E.rt v H'
 | .rf o=>∀l H',j4 H0 H'->H0 l=none->JK K H' (ja H' (l::O0)) l o->E.rt (.ref l) H'
theorem Fin.mono{H0 H H1:Hp}{O0 O O1:List Addr}{E:Ends}{r:Rs}(s:j4 (ja H O) (ja H1 O1))(h:Fin K H0 O0 H O E r):Fin K H0 O0 H1 O1 E r:=by
 cases r with
 | nx ρ=>exact fun σ' H' O' R t=>h σ' H' O' R (s.trans t)
 | bk ρ=>exact fun σ' H' O' R t=>h σ' H' O' R (s.trans t)
 | ct ρ=>exact fun σ' H' O' R t=>h σ' H' O' R (s.trans t)
 | rt d=>exact h
 | rf o=>exact h
def tS(K:Fr)(ds:DS):TS:=fun E σ H=>∃H0 O0 ρ O r,Rel K H0 O0 ρ σ H O/\ds ρ=some r/\Fin K H0 O0 H O E r
variable {st:Stmt} {rest:List Stmt} {s1 s2:DS}
theorem J9{t t':TS}(h:PS X st t)(f:∀D σ H,t' D σ H->t D σ H):PS X st t':=fun pins s σ H D I q=>h pins s σ H D I (f D σ H q)
theorem Zg{t t':TS}(h:jL X rest t)(f:∀D σ H,t' D σ H->t D σ H):jL X rest t':=fun pins s σ H D I q=>h pins s σ H D I (f D σ H q)
noncomputable def jD:DS:=fun ρ=>some (.nx ρ)
@[simp] theorem IP{ρ:j8}:jD ρ=some (.nx ρ):=rfl
theorem Qq:jL X [] (tS K jD):=Zg ba fun D σ H ⟨H0,O0,ρ,O,r,R,ed,f⟩=>by
 cases ed
 exact f σ H O R (j4.refl _)
noncomputable def j3(s1 s2:DS):DS:=fun ρ=>(s1 ρ).bind fun r=>match r with
 | .nx ρ1=>s2 ρ1
 | r=>some r
@[simp] theorem Qr(s1 s2:DS){ρ:j8}:j3 s1 s2 ρ=(s1 ρ).bind fun r=>match r with
 | .nx ρ1=>s2 ρ1
 | r=>some r:=rfl
theorem W0(h1:PS X st (tS K s1))(h2:jL X rest (tS K s2)):jL X (st::rest) (tS K (j3 s1 s2)):=Zg (Uh h1 h2) fun D σ H ⟨H0,O0,ρ,O,r,R,ed,f⟩=>by
 obtain⟨r1,e1,e2⟩:=j0 ed
 refine⟨H0,O0,ρ,O,r1,R,e1,?_⟩
 cases r1 with
 | nx ρ1=>exact fun σ' H' O' R' t=>⟨H0,O0,ρ1,O',r,R',e2,f.mono t⟩
 | bk ρ1=>cases e2; exact f
 | ct ρ1=>cases e2; exact f
 | rt d=>cases e2; exact f
 | rf o=>cases e2; exact f
theorem Qs(h1:PS X st (tS K s1)):jL X [st] (tS K s1):=wR h1
noncomputable def ya:DS:=fun _=>none
@[simp] theorem iE{r:j8}:ya r=none:=rfl
theorem Xf:jL X rest (tS K ya):=Zg Gx fun D σ H ⟨H0,O0,ρ,O,r,R,ed,f⟩=>by cases ed
theorem CL:PS X (.Pass pos) (tS K jD):=J9 bb fun D σ H ⟨H0,O0,ρ,O,r,R,ed,f⟩=>by
 cases ed
 exact f σ H O R (j4.refl _)
noncomputable def CM:DS:=fun ρ=>some (.bk ρ)
@[simp] theorem IQ{ρ:j8}:CM ρ=some (.bk ρ):=rfl
noncomputable def CN:DS:=fun ρ=>some (.ct ρ)
@[simp] theorem IR{ρ:j8}:CN ρ=some (.ct ρ):=rfl
theorem bS:PS X (.Break pos) (tS K CM):=J9 xF fun D σ H ⟨H0,O0,ρ,O,r,R,ed,f⟩=>by
 cases ed
 exact f σ H O R (j4.refl _)
theorem CO:PS X (.Continue pos) (tS K CN):=J9 wF fun D σ H ⟨H0,O0,ρ,O,r,R,ed,f⟩=>by
 cases ed
 exact f σ H O R (j4.refl _)
def Zh(i:Nat)(s:DS):DS:=fun ρ=>match ρ[i]? with
 | some (.ow _ o)=>s (ρ.set i (.cl o.toD))
 | _=>none
@[simp] theorem HL(i:Nat)(s:DS){ρ:j8}:Zh i s ρ=match ρ[i]? with
 | some (.ow _ o)=>s (ρ.set i (.cl o.toD))
 | _=>none:=rfl
theorem Xg(i:Nat)(h:jL X rest (tS K s1)):jL X rest (tS K (Zh i s1)):=Zg h fun D σ H ⟨H0,O0,ρ,O,r,R,ed,f⟩=>by
 unfold Zh at ed
 split at ed
 ·obtain⟨O',R',ss⟩:=R.share (by assumption)
  exact⟨H0,O0,_,O',r,R',ed,f.mono ss⟩
 ·cases ed
noncomputable def jo(dt:DT)(s1 s2:DS):DS:=fun ρ=>(dt ρ).bind fun k=>if k=true then s1 ρ else s2 ρ
@[simp] theorem CQ(dt:DT)(s1 s2:DS){ρ:j8}:jo dt s1 s2 ρ=(dt ρ).bind fun k=>if k=true then s1 ρ else s2 ρ:=rfl
theorem HM{dt:DT}{sa sb:List Stmt}(hc:PT X c (tT K dt))(ha:jL X sa (tS K s1))(hb:jL X sb (tS K s2)):PS X (.If c sa sb pos) (tS K (jo dt s1 s2)):=J9 (az hc ha hb) fun D σ H ⟨H0,O0,ρ,O,r,R,ed,f⟩=>by
 obtain⟨k,e1,e2⟩:=j0 ed
 refine⟨H0,O0,ρ,O,k,R,e1,fun H' s=>?_⟩
 cases k with
 | true=>rw[if_pos rfl]at e2; exact YH ⟨H0,O0,ρ,O,r,R.grow s,e2,f.mono (jh s)⟩
 | false=>rw[if_neg Bool.false_ne_true]at e2; exact YG ⟨H0,O0,ρ,O,r,R.grow s,e2,f.mono (jh s)⟩
noncomputable def jr(i:Nat)(de:DE):DS:=fun ρ=>(de ρ).bind fun d=>some (.nx (ρ.set i (.cl d)))
@[simp] theorem Ii(i:Nat)(de:DE){ρ:j8}:jr i de ρ=(de ρ).bind fun d=>some (.nx (ρ.set i (.cl d))):=rfl
theorem CS{i:Nat}:∀D σ H,tS K (jr i de) D σ H->zC (tE K de) (ZM i) D σ H:=fun D σ H ⟨H0,O0,ρ,O,r,R,ed,f⟩=>by
 obtain⟨d,e1,e2⟩:=j0 ed
 cases e2
 exact⟨H0,O0,ρ,O,d,R,e1,fun v H' s q=>f _ H' O ((R.grow s).set q i) (jh s)⟩
theorem A6{i:Nat}(h:PS X st (zC (tE K de) (ZM i))):PS X st (tS K (jr i de)):=J9 h CS
noncomputable def Jk(i:Nat)(df:DO):DS:=fun ρ=>(df ρ).bind fun o=>some (.nx (ρ.set i (.ow none o)))
@[simp] theorem Ij(i:Nat)(df:DO){ρ:j8}:Jk i df ρ=(df ρ).bind fun o=>some (.nx (ρ.set i (.ow none o))):=rfl
theorem CT{i:Nat}{df:DO}:∀D σ H,tS K (Jk i df) D σ H->zC (tF K df) (ZM i) D σ H:=fun D σ H ⟨H0,O0,ρ,O,r,R,ed,f⟩=>by
 obtain⟨d,e1,e2⟩:=j0 ed
 cases e2
 exact⟨H0,O0,ρ,O,d,R,e1,fun l H' s hn q=>f _ H' (l::O) (R.own s hn q i) (ZP s hn)⟩
theorem A7{i:Nat}{df:DO}(h:PS X st (zC (tF K df) (ZM i))):PS X st (tS K (Jk i df)):=J9 h CT
theorem Ul{te te':TE}{g:TG}(h:PS X st (zC te g))(f:∀σ H Q,te' σ H Q->te σ H Q):PS X st (zC te' g):=J9 h fun D σ H q=>f σ H _ q
theorem Xh{df:DO}:∀σ H Q,tE K (dL df) σ H Q->tF K df σ H Q:=fun σ H Q ⟨H0,O0,ρ,O,d,R,ed,q⟩=>by
 obtain⟨ds,e1,e2⟩:=j0 ed
 cases e2
 exact⟨H0,O0,ρ,O,ds,R,e1,fun l H' s hn r=>q _ _ s ((r.same (fun _ z=>z) (yT fun a h=>wMa _ h)).rep fun u z=>by rw[J3 (R.new hn)]; exact z)⟩
noncomputable def u8(de:DE)(g:DG):DS:=fun ρ=>(de ρ).bind fun d=>(g d ρ).bind fun ρ'=>some (.nx ρ')
@[simp] theorem Ik(de:DE)(g:DG){ρ:j8}:u8 de g ρ=(de ρ).bind fun d=>(g d ρ).bind fun ρ'=>some (.nx ρ'):=rfl
theorem fM{g:DG}{kk:Nat}(h:PS X st (zC (tE K de) (tG K kk g))):PS X st (tS K (u8 de g)):=J9 h fun D σ H ⟨H0,O0,ρ,O,r,R,ed,f⟩=>by
 obtain⟨d,e1,ed⟩:=j0 ed
 obtain⟨ρ',e2,ed⟩:=j0 ed
 cases ed
 exact⟨H0,O0,ρ,O,d,R,e1,fun v H' s q=>⟨H0,O0,ρ,O,d,ρ',R.grow s,q,e2,fun σ' R' _=>f σ' H' O R' (jh s)⟩⟩
noncomputable def qg(i:Nat)(h:Int->Int->Int)(de:DE):DS:=fun ρ=>(dC i ρ).bind fun x=>(de ρ).bind fun y=>match x,y with
 | .int p,.int q=>some (.nx (ρ.set i (.cl (.int (h p q)))))
 | _,_=>none
@[simp] theorem Il(i:Nat)(h:Int->Int->Int)(de:DE){ρ:j8}:qg i h de ρ=(dC i ρ).bind fun x=>(de ρ).bind fun y=>match x,y with
 | .int p,.int q=>some (.nx (ρ.set i (.cl (.int (h p q)))))
 | _,_=>none:=rfl
theorem A8{i:Nat}{g:Int->Int->Int}(h:PS X st (ck i (tR K de) (cm g))):PS X st (tS K (qg i g de)):=J9 h fun D σ H ⟨H0,O0,ρ,O,r,R,ed,f⟩=>by
 obtain⟨x,e1,ed⟩:=j0 ed
 obtain⟨y,e2,ed⟩:=j0 ed
 split at ed
 ·cases ed
  unfold dC at e1
  split at e1
  ·cases e1
   obtain⟨v,h1,h2⟩:=R.cl i _ (by assumption)
   rw[j6]at h2
   subst h2
   exact⟨_,h1,H0,O0,ρ,O,_,R,e2,fun v H' s q=>⟨_,_,rfl,q.int,f _ H' O ((R.grow s).set (by rw[j6]) i) (jh s)⟩⟩
  ·cases e1
 ·cases ed
noncomputable def Yk(de:DE):DS:=fun ρ=>(de ρ).bind fun _=>some (.nx ρ)
@[simp] theorem iG(de:DE){ρ:j8}:Yk de ρ=(de ρ).bind fun _=>some (.nx ρ):=rfl
theorem Qt(h:PS X st (kj (tR K de))):PS X st (tS K (Yk de)):=J9 h fun D σ H ⟨H0,O0,ρ,O,r,R,ed,f⟩=>by
 obtain⟨d,e1,e2⟩:=j0 ed
 cases e2
 exact⟨H0,O0,ρ,O,d,R,e1,fun v H' s q=>f _ H' O (R.grow s) (jh s)⟩
noncomputable def JR(i:Nat)(de:DE):DS:=fun ρ=>match ρ[i]? with
 | some (.ow q (.lst ds))=>(de ρ).bind fun d=>if ds.length < sizeLine then some (.nx (ρ.set i (.ow q (.lst (ds++[d])))))else none
 | _=>none
@[simp] theorem iH(i:Nat)(de:DE){ρ:j8}:JR i de ρ=match ρ[i]? with
 | some (.ow q (.lst ds))=>(de ρ).bind fun d=>if ds.length < sizeLine then some (.nx (ρ.set i (.ow q (.lst (ds++[d])))))else none
 | _=>none:=rfl
theorem Xi{i:Nat}(h:PS X st (kj (Q9 K "list" gO (YY i) (zZ (tE K de) VS)))):PS X st (tS K (JR i de)):=J9 h fun D σ H ⟨H0,O0,ρ,O,r,R,ed,f⟩=>by
 unfold JR at ed
 split at ed
 ·rename_i q ds hi
  obtain⟨d,e1,e2⟩:=j0 ed
  split at e2
  ·rename_i hz
   cases e2
   obtain⟨l,hq,hs,⟨vs,hl,rp⟩,lo,h0⟩:=R.ow i _ _ hi
   refine⟨_,hs,.inl ⟨rfl,_,jt.of hl⟩,H0,O0,ρ,O,d,R,e1,fun v H' s rv=>?_⟩
   have R':=R.grow s
   have rp':=rp.same (jh s)
   refine⟨l,vs,v,rfl,rfl,s _ _ hl,by rw[rp.len]; exact hz,f _ _ O (R'.change hi hq hs lo h0 ⟨_,J2,rp'.snoc rv⟩) ?_⟩
   rw[Yo lo]
   exact jh s
  ·cases e2
 ·cases ed
def Z0(i:Nat)(dx de:DE):DS:=fun ρ=>match ρ[i]? with
 | some (.ow q (.lst ds))=>(de ρ).bind fun d=>(dx ρ).bind fun j=>match j with
  | .int j=>(vF ds.length j).bind fun n=>some (.nx (ρ.set i (.ow q (.lst (ds.set n d)))))
  | _=>none
 | _=>none
@[simp] theorem iI(i:Nat)(dx de:DE){ρ:j8}:Z0 i dx de ρ=match ρ[i]? with
 | some (.ow q (.lst ds))=>(de ρ).bind fun d=>(dx ρ).bind fun j=>match j with
  | .int j=>(vF ds.length j).bind fun n=>some (.nx (ρ.set i (.ow q (.lst (ds.set n d)))))
  | _=>none
 | _=>none:=rfl
theorem CU{i:Nat}{dx:DE}(h:PS X st (zC (tE K de) (xJ (YY i) (tR K dx) aM))):PS X st (tS K (Z0 i dx de)):=J9 h fun D σ H ⟨H0,O0,ρ,O,r,R,ed,f⟩=>by
 unfold Z0 at ed
 split at ed
 ·rename_i q ds hi
  obtain⟨d,e1,ed⟩:=j0 ed
  obtain⟨j,e2,ed⟩:=j0 ed
  split at ed
  ·obtain⟨n,e3,ed⟩:=j0 ed
   cases ed
   obtain⟨l,hq,hs,⟨vs,hl,rp⟩,lo,h0⟩:=R.ow i _ _ hi
   refine⟨H0,O0,ρ,O,d,R,e1,fun v H1 s1 rv=>⟨_,hs,H0,O0,ρ,O,_,R.grow s1,e2,fun w H2 s2 rw'=>?_⟩⟩
   have s12:=s1.trans s2
   have R':=R.grow s12
   have rp':=rp.same (jh s12)
   refine⟨l,vs,_,n,rfl,rw'.int,s12 _ _ hl,by rw[rp.len]; exact e3,f _ _ O (R'.change hi hq hs lo h0 ⟨_,J2,rp'.set (rv.same (jh s2)) n⟩) ?_⟩
   rw[Yo lo]
   exact jh s12
  ·cases ed
 ·cases ed
noncomputable def ju(de:DE):DS:=fun ρ=>(de ρ).bind fun d=>some (.rt d)
@[simp] theorem CV(de:DE){ρ:j8}:ju de ρ=(de ρ).bind fun d=>some (.rt d):=rfl
theorem A9(h:PE X e (tE K de)):PS X (.Return (some e) pos) (tS K (ju de)):=J9 (kE h) fun D σ H ⟨H0,O0,ρ,O,r,R,ed,f⟩=>by
 obtain⟨d,e1,e2⟩:=j0 ed
 cases e2
 exact⟨H0,O0,ρ,O,d,R,e1,fun v H' s q=>f v H' (R.keep.trans s) (q.same (yT R.sub))⟩
noncomputable def Yl(df:DO):DS:=fun ρ=>(df ρ).bind fun o=>some (.rf o)
@[simp] theorem iJ(df:DO){ρ:j8}:Yl df ρ=(df ρ).bind fun o=>some (.rf o):=rfl
theorem CW{df:DO}(h:PE X e (tF K df)):PS X (.Return (some e) pos) (tS K (Yl df)):=J9 (kE h) fun D σ H ⟨H0,O0,ρ,O,r,R,ed,f⟩=>by
 obtain⟨d,e1,e2⟩:=j0 ed
 cases e2
 refine⟨H0,O0,ρ,O,d,R,e1,fun l H' s hn q=>f l H' (R.keep.trans s) (R.keep.none hn) (q.same (fun _ z=>z) (yT fun a h=>?_))⟩
 rcases List.mem_cons.mp h with rfl | h
 ·exact wNa
 ·exact wMa _ (R.sub a h)
noncomputable def zk(i:Nat):DS:=fun ρ=>match ρ[i]? with
 | some (.ow _ o)=>some (.rf o)
 | _=>none
@[simp] theorem iK(i:Nat){ρ:j8}:zk i ρ=match ρ[i]? with
 | some (.ow _ o)=>some (.rf o)
 | _=>none:=rfl
theorem CY{i:Nat}{x:Str}{pos':Pos}(h:PE X (.Name x pos') (YY i)):PS X (.Return (some (.Name x pos')) pos) (tS K (zk i)):=J9 (kE h) fun D σ H ⟨H0,O0,ρ,O,r,R,ed,f⟩=>by
 unfold zk at ed
 split at ed
 ·cases ed
  obtain⟨l,_,hs,ow,lo,h0⟩:=R.ow i _ _ (by assumption)
  refine⟨_,hs,f l H R.keep h0 (ow.same (fun _ z=>z) (yT fun a h=>?_))⟩
  rcases List.mem_cons.mp h with rfl | h
  ·exact lo
  ·exact R.sub a h
 ·cases ed
theorem CZ:PS X (.Return none pos) (tS K (ju (dK .non))):=J9 bc fun D σ H ⟨H0,O0,ρ,O,r,R,ed,f⟩=>by
 cases ed
 exact f .non H R.keep (by rw[j6])
noncomputable def Jj(g:DG)(s:DS):List D->DS
 | [],ρ=>some (.nx ρ)
 | d::ds,ρ=>(g d ρ).bind fun ρ1=>(s ρ1).bind fun r=>match r with
  | .nx ρ2=>Jj g s ds ρ2
  | .ct ρ2=>Jj g s ds ρ2
  | .bk ρ2=>some (.nx ρ2)
  | .rt d=>some (.rt d)
  | .rf o=>some (.rf o)
def yn(di:DI)(g:DG)(s:DS):DS:=fun ρ=>(di ρ).bind fun items=>Jj g s items ρ
@[simp] theorem Qu(di:DI)(g:DG)(s:DS){ρ:j8}:yn di g s ρ=(di ρ).bind fun items=>Jj g s items ρ:=rfl
theorem fN{iter:Expr}{body:List Stmt}{di:DI}{g:DG}{kk:Nat}(hp:PassesOwn (model X.prog X.w) X.A X.env X.xe)(hc:X.calm=true)(hi:PI X tg iter (YW K di))(hg:PG X tg (tG K kk g))(hb:jL X body (tS K s1))(hs:∀x,foldedSetIterable iter X.env x=pure x:=by intro _; rfl):PS X (.For tg iter body [] pos) (tS K (yn di g s1)):=J9 (cx hp hc hi hg hb hs) fun D σ H ⟨H0,O0,ρ,O,r,R,ed,f⟩=>by
 obtain⟨items,e1,ed⟩:=j0 ed
 refine⟨H0,O0,ρ,O,items,R,e1,fun J H1 s1' hJ=>?_⟩
 have R1:=R.grow s1'
 have f1:=f.mono (jh s1')
 refine⟨fun i m σ' H'=>∃ρ' O',Rel K H0 O0 ρ' σ' H' O'/\Jj g s1 (items.drop i) ρ'=some r/\j4 (ja H1 O) (ja H' O')/\m=items.length - i/\i<=items.length,⟨items.length,ρ,O,R1,by simpa using ed,j4.refl _,rfl,Nat.zero_le _⟩,?_⟩
 rintro i m σ' H' ⟨ρ',O',R',d1,sd,rfl,hi'⟩
 obtain⟨hgo,hstop⟩:=hJ i H' O' R'.keep R'.in0 sd R'.al
 by_cases hlt:i < items.length
 ·right
  have hx:items[i]?=some items[i]:=by simp[hlt]
  have hd:items.drop i=items[i]::items.drop (i+1):=(List.getElem_cons_drop hlt).symm
  rw[hd]at d1
  obtain⟨g1,g2⟩:=hgo _ hx
  refine⟨g1,fun σ2 H2=>∃ρ2 O2,Rel K H0 O0 ρ2 σ2 H2 O2/\Jj g s1 (items.drop (i+1)) ρ2=some r/\j4 (ja H1 O) (ja H2 O2),?_,fun x H'' y=>?_⟩
  ·rintro σ2 H2 ⟨ρ2,O2,a1,a2,a3⟩
   exact⟨items.length - (i+1),by omega,ρ2,O2,a1,a2,a3,rfl,hlt⟩
  ·obtain⟨sy,rx⟩:=g2 x H'' y
   obtain⟨ρ1,f3,f4⟩:=j0 d1
   obtain⟨r1,f5,f6⟩:=j0 f4
   refine⟨H0,O0,ρ',O',_,ρ1,R'.grow sy,rx,f3,fun σ2 R3 _=>⟨H0,O0,ρ1,O',r1,R3,f5,?_⟩⟩
   have t1:=sd.trans (jh sy)
   cases r1 with
   | nx ρ2=>exact fun σ3 H3 O3 R4 t=>⟨ρ2,O3,R4,f6,t1.trans t⟩
   | ct ρ2=>exact fun σ3 H3 O3 R4 t=>⟨ρ2,O3,R4,f6,t1.trans t⟩
   | bk ρ2=>cases f6; exact fun σ3 H3 O3 R4 t=>f1 σ3 H3 O3 R4 (t1.trans t)
   | rt d=>cases f6; exact f1
   | rf o=>cases f6; exact f1
 ·left
  have ei:i=items.length:=by omega
  refine⟨hstop ei,?_⟩
  have e0:items.drop i=[]:=List.drop_of_length_le (by omega)
  rw[e0]at d1
  have d1:some (Rs.nx ρ')=some r:=d1
  cases d1
  exact f1 σ' H' O' R' sd
noncomputable def zT(dt:DT)(s:DS):Nat->DS
 | 0,_=>none
 | n+1,ρ=>(dt ρ).bind fun k=>if k=true then(s ρ).bind fun r=>match r with
  | .nx ρ2=>zT dt s n ρ2
  | .ct ρ2=>zT dt s n ρ2
  | .bk ρ2=>some (.nx ρ2)
  | .rt d=>some (.rt d)
  | .rf o=>some (.rf o)else some (.nx ρ)
theorem bT{dt:DT}{body:List Stmt}(n:Nat)(hp:PassesOwn (model X.prog X.w) X.A X.env X.xe)(hc:PT X c (tT K dt))(hb:jL X body (tS K s1)):PS X (.While c body [] pos) (tS K (zT dt s1 n)):=J9 (xK hp hc hb) fun D σ H ⟨H0,O0,ρ,O,r,R,ed,f⟩=>by
 refine⟨fun m σ' H'=>∃ρ' O',Rel K H0 O0 ρ' σ' H' O'/\zT dt s1 m ρ'=some r/\j4 (ja H O) (ja H' O'),⟨n,ρ,O,R,ed,j4.refl _⟩,?_⟩
 rintro m σ' H' ⟨ρ',O',R',d1,sd⟩
 cases m with
 | zero=>cases d1
 | succ m=>
  obtain⟨k,e1,e2⟩:=j0 d1
  refine⟨H0,O0,ρ',O',k,R',e1,fun H2 s2=>?_⟩
  have t1:=sd.trans (jh s2)
  cases k with
  | true=>
   rw[if_pos rfl]at e2
   obtain⟨r1,f5,f6⟩:=j0 e2
   refine YH ⟨fun σ3 H3=>∃ρ3 O3,Rel K H0 O0 ρ3 σ3 H3 O3/\zT dt s1 m ρ3=some r/\j4 (ja H O) (ja H3 O3),?_,H0,O0,ρ',O',r1,R'.grow s2,f5,?_⟩
   ·rintro σ3 H3 ⟨ρ3,O3,a1,a2,a3⟩
    exact⟨m,Nat.lt_succ_self m,ρ3,O3,a1,a2,a3⟩
   ·cases r1 with
    | nx ρ2=>exact fun σ3 H3 O3 R4 t=>⟨ρ2,O3,R4,f6,t1.trans t⟩
    | ct ρ2=>exact fun σ3 H3 O3 R4 t=>⟨ρ2,O3,R4,f6,t1.trans t⟩
    | bk ρ2=>cases f6; exact fun σ3 H3 O3 R4 t=>f σ3 H3 O3 R4 (t1.trans t)
    | rt d=>cases f6; exact f
    | rf o=>cases f6; exact f
  | false=>
   rw[if_neg Bool.false_ne_true]at e2
   cases e2
   exact YG (f σ' H2 O' (R'.grow s2) t1)
theorem bU{iter elt:Expr}{ifs:List Expr}{scope:Scope}{di:DI}{g:DG}{dc:DT}{de:DE}(own:List Str)(caps:List (Str×Nat)){i:Nat}{x:Str}{pos' spos:Pos}(hN:X.N.Nodup)(hix:X.N[i]?=some x)(hx:VN X.env.scope x)(S:CScope X scope)(hcap:Caps X scope caps)(hc:X.calm=true)(hi:PI X tg iter (YW K di))
  (hg:∀s3 H3 ex',PG (X.comp (cN own caps) scope s3 H3 ex') tg (tG K own.length g)) (ht:∀s3 H3 ex',zD (X.comp (cN own caps) scope s3 H3 ex') ifs (tT K dc)) (he:∀s3 H3 ex',PE (X.comp (cN own caps) scope s3 H3 ex') elt (tE K de)) (hnd:(caps.map (·.2)).Nodup:=by decide)
  (hs:∀x,foldedSetIterable iter X.env x=pure x:=by intro _; rfl)
  (hsw:swapsWith (.ListComp elt [⟨tg,iter,ifs,0⟩] scope pos) (some (.Name x pos')) spos.line X.env=pure true:=by rfl) (hf:X.fn x=true∨X.env.scope.names.lookup x=some .local:=by first | exact .inl rfl | exact .inr rfl | assumption):
  PS X (.Assign [.Name x pos'] (.ListComp elt [⟨tg,iter,ifs,0⟩] scope pos) spos) (tS K (Jk i (JL own.length (caps.map (·.2)) di g dc de))):=
 A7 (Ul (kQ own caps hN hix hx S hcap hc hi hg ht he hs hsw hf) (K4 hnd))
theorem bV{iter elt:Expr}{ifs:List Expr}{scope:Scope}{di:DI}{g:DG}{dc:DT}{de:DE}(own:List Str)(caps:List (Str×Nat)){i:Nat}{x:Str}{pos' spos:Pos}(hN:X.N.Nodup)(hix:X.N[i]?=some x)(hx:VN X.env.scope x)(S:CScope X scope)(hcap:Caps X scope caps)(hc:X.calm=true)(hi:PI X tg iter (YW K di))
  (hg:∀s3 H3 ex',PG (X.comp (cN own caps) scope s3 H3 ex') tg (tG K own.length g)) (ht:∀s3 H3 ex',zD (X.comp (cN own caps) scope s3 H3 ex') ifs (tT K dc)) (he:∀s3 H3 ex',PE (X.comp (cN own caps) scope s3 H3 ex') elt (tE K de)) (hnd:(caps.map (·.2)).Nodup:=by decide)
  (hs:∀x,foldedSetIterable iter X.env x=pure x:=by intro _; rfl)
  (hsw:swapsWith (.ListComp elt [⟨tg,iter,ifs,0⟩] scope pos) (some (.Name x pos')) spos.line X.env=pure true:=by rfl) (hf:X.fn x=true∨X.env.scope.names.lookup x=some .local:=by first | exact .inl rfl | exact .inr rfl | assumption):
  PS X (.Assign [.Name x pos'] (.ListComp elt [⟨tg,iter,ifs,0⟩] scope pos) spos) (tS K (jr i (dL (JL own.length (caps.map (·.2)) di g dc de)))):=
 A6 (Ul (Ul (kQ own caps hN hix hx S hcap hc hi hg ht he hs hsw hf) (K4 hnd)) Xh)
end
end DS
namespace DS
open PySem PySem.Spec PyProof.Rows L2
theorem UX(v:Value)(n:Nat):List.foldl (fun x1 x2=>x1++x2) #[] (List.replicate n #[v])=(List.replicate n v).toArray:=by
 have f:∀(n:Nat) (a:Array Value),List.foldl (fun x1 x2=>x1++x2) a (List.replicate n #[v])=a++(List.replicate n v).toArray:=fun n=>by
  induction n with
  | zero=>intro a; simp
  | succ n ih=>intro a; rw[List.replicate_succ,List.foldl_cons,ih]; apply Array.ext'; simp[List.replicate_succ]
 rw[f]; simp
theorem k9(l:Addr)(v:Value)(n:Nat)(dd:Option Addr)(sl:Array (Option Value))(x:Int)(u:Tok)(h1:1 < x)(h2:x<=1000):
  Meets (Builtin.«tuple.__mul__» ⟨[.ref l,.int x u],[]⟩) (fun _ R s=>s.heap.get? l=some { cls:=.type "tuple",dict:=dd,data:=.seq #[v] n,slots:=sl }/\R (.ok (.ret (Value.ref s.heap.objs.size))) { s with heap:=s.heap.push { cls:=Value.type "tuple",data:=Data.seq (List.foldl (fun x1 x2=>x1++x2) #[] (List.replicate x.toNat #[v])) },toks:=s.toks }):=
 .of_wp fun prog w A R s h=>by
  obtain⟨hp,g,d,tk,os⟩:=s; obtain⟨hl,h⟩:=h
  wp_walk
  refine wpAny_ite_false (by simp; omega) ?_
  wp_walk
  refine wpAny_ite_false (by simp; omega) ?_
  wp_walk
  refine wpAny_ite_false (by simp; omega) ?_
  wp_walk
  rw[if_neg (by simp; omega)]
  wp_walk
  refine wpAny_ite_false (by simp[Builtin.Tuple.tupleTooMany,sizeLine]; omega) ?_
  wp_walk
  have hz:(List.foldl (fun x1 x2=>x1++x2) #[] (List.replicate x.toNat #[v])).size<=sizeLine:=by
   rw[UX]; simp[sizeLine]; omega
  first | exact⟨_,rfl,h⟩ | (refine wpAny_ite_false (vBa (Nat.not_lt.mpr hz)) ?_; wp_walk; exact⟨_,rfl,h⟩)
theorem ka(l:Addr)(v:Value)(n:Nat)(dd:Option Addr)(sl:Array (Option Value))(u:Tok):
  Meets (Builtin.«tuple.__mul__» ⟨[.ref l,.int 1 u],[]⟩) (fun _ R s=>s.heap.get? l=some { cls:=.type "tuple",dict:=dd,data:=.seq #[v] n,slots:=sl }/\R (.ok (.ret (Value.ref l))) { s with heap:=s.heap,toks:=s.toks }):=
 .of_wp fun prog w A R s h=>by
  obtain⟨hp,g,d,tk,os⟩:=s; obtain⟨hl,h⟩:=h
  wp_walk
  first | exact⟨_,rfl,h⟩ | (refine wpAny_ite_false (by simp) ?_; wp_walk; refine wpAny_ite_true (by simp) ?_; wp_walk; exact⟨_,rfl,h⟩)
theorem gW(l:Addr)(v:Value)(n:Nat)(dd:Option Addr)(sl:Array (Option Value))(u:Tok):
  Meets (Builtin.«tuple.__mul__» ⟨[.ref l,.int 0 u],[]⟩) (fun _ R s=>s.heap.get? l=some { cls:=.type "tuple",dict:=dd,data:=.seq #[v] n,slots:=sl }/\R (.ok (.ret (Value.ref s.heap.objs.size))) { s with heap:=s.heap.push { cls:=Value.type "tuple",data:=Data.seq #[] },toks:=s.toks }):=
 .of_wp fun prog w A R s h=>by
  obtain⟨hp,g,d,tk,os⟩:=s; obtain⟨hl,h⟩:=h
  wp_walk
  first | exact⟨_,rfl,h⟩ | (refine wpAny_ite_false (by simp) ?_; wp_walk; refine wpAny_ite_false (by simp) ?_; wp_walk; refine wpAny_ite_true (by simp) ?_; wp_walk; exact⟨_,rfl,h⟩)
theorem Um:fillsNumberSlot (.type "tuple") "mul" = pure false:=
 PySem.fillsNumberSlot_seq (id := "tuple.__mul__") (r:=some (.builtin "tuple.__rmul__")) F.slot_tuple_mul.lookup (by decide +kernel) F.slot_tuple_rmul.lookup (by decide +kernel)
theorem K7:seqRepeat? (.type "tuple")=pure (some (.builtin "tuple.__mul__")):=by
 unfold seqRepeat?
 rw[PySem.seqSlot_of (T := "tuple") (name := "__mul__") (id := "tuple.__mul__") F.slot_tuple_mul.lookup (by decide +kernel),PySem.seqSlot_of (T := "tuple") (name := "__rmul__") (id := "tuple.__rmul__") F.slot_tuple_rmul.lookup (by decide +kernel)]
 rfl
theorem gX(a:Int)(t:Tok)(l:Addr)(items:Array Value)(n:Nat)(dd:Option Addr)(sl:Array (Option Value)):
  Meets (Builtin.«int.__rmul__» ⟨[.int a t,.ref l],[]⟩) (fun _ R s=>s.heap.get? l=some { cls:=.type "tuple",dict:=dd,data:=.seq items n,slots:=sl }/\R (.ok (.ret Value.notImplemented)) s):=
 .of_wp fun prog w A R s h=>by obtain⟨hp,g,d,tk,os⟩:=s; obtain⟨hl,h⟩:=h; wp_walk; exact⟨_,rfl,h⟩
section
variable {X:Cx} {K:Fr}
def qh(K:Fr):R2:=fun x y H Q=>∃l k z,x=.ref l/\y=.int k/\JB K H l [z]/\0<=k/\k<=1000/\(k=1->Q (.ref l) H)/\(k≠1->∀p,H p=none->Q (.ref p) (upd H p (.tup (List.replicate k.toNat z))))
theorem K8{z:V}{v:Value}(r:jm z v):∀n:Nat,je (List.replicate n z) (List.replicate n v)
 | 0=>.nil
 | n+1=>by rw[List.replicate_succ,List.replicate_succ]; exact .cons r (K8 r n)
theorem bW:jI X (binaryOp .Mult) (qh X.K):=by
 intro pins s σ H x y v u Q I rx ry h
 obtain⟨l,k,z,rfl,rfl,hq,h1,h2,q1,q2⟩:=h
 cases rx
 obtain⟨t,rfl⟩:=ry
 obtain⟨its,r,⟨⟨cls,dd,data,sl⟩,ho,hc,n,hd⟩,hz⟩:=I.tuple hq
 simp only at hc hd
 subst hc hd
 obtain⟨w,rfl,rw'⟩:∃w,its=[w]/\jm z w:=by
  cases r with
  | cons a b=>cases b; exact⟨_,rfl,a⟩
 refine wpAny_binaryOp_repeat_ref (T := "tuple") (U := "int") (by decide) ⟨_,ho,rfl⟩ (fun s'=>typeIs_int s' k t) Um F.fills_int_mul F.slot_int_rmul K7 F.slot_int_index.lookup
  (call_meets F.slot_int_rmul (typeIs_int s k t) F.entry_int_rmul (F.args_int_rmul_2 _ _) (gX k t l _ n dd sl) ⟨ho,rfl,⟨_,ho,rfl⟩,?_⟩)
 by_cases e1:k=1
 ·subst e1
  exact call_meets F.slot_tuple_mul ⟨_,ho,rfl⟩ F.entry_tuple_mul (F.args_tuple_mul_2 _ _) (ka l w n dd sl t) ⟨ho,.ref l,H,I,rfl,q1 rfl⟩
 ·by_cases e0:k=0
  ·subst e0
   refine call_meets F.slot_tuple_mul ⟨_,ho,rfl⟩ F.entry_tuple_mul (F.args_tuple_mul_2 _ _) (gW l w n dd sl t) ⟨ho,.ref s.heap.objs.size,_,I.laid (t':=s.toks) (o:=.tup (List.replicate (0:Int).toNat z)) (fun b ob q=>wIa _ q) (wPa _) ?_,rfl,q2 e1 _ (I.hok.fresh (wPa _))⟩
   exact⟨Nat.zero_le _,[],.nil,IsTup.new _ _⟩
  ·refine call_meets F.slot_tuple_mul ⟨_,ho,rfl⟩ F.entry_tuple_mul (F.args_tuple_mul_2 _ _) (k9 l w n dd sl k t (by omega) h2) ⟨ho,?_⟩
   rw[UX]
   refine⟨.ref s.heap.objs.size,_,I.laid (t':=s.toks) (o:=.tup (List.replicate k.toNat z)) (fun b ob q=>wIa _ q) (wPa _) ?_,rfl,q2 e1 _ (I.hok.fresh (wPa _))⟩
   exact⟨by rw[List.length_replicate]; exact ED (by omega),_,K8 rw' _,IsTup.new _ _⟩
@[simp] def yo:D->D->Option D
 | .int i,.int j=>aY (.int i) (.int j)
 | .tup [z],.int k=>if 0<=k/\k<=1000 then some (.tup (List.replicate k.toNat z))else none
 | _,_=>none
theorem K9{H:Hp}{d:D}{v:V}(h:j6 K H d v):∀n:Nat,j1 K H (List.replicate n d) (List.replicate n v)
 | 0=>j1.nil
 | n+1=>by rw[List.replicate_succ,List.replicate_succ]; exact j1.cons h (K9 h n)
theorem C_:Jh K (fun x y H Q=>rI Ui (fun i j=>.int (i * j)) x y H Q∨qh K x y H Q) yo:=by
 intro O H a b d x y Q ha hb hn e q
 unfold yo at e
 split at e
 ·exact .inl (EL O H _ _ d x y Q ha hb hn e q)
 ·split at e
  ·rename_i hk
   cases e
   right
   obtain⟨p,xs,rfl,h1,h2⟩:=ha.tup
   obtain⟨v,rfl,rv⟩:∃v,xs=[v]/\j6 K (ja H O) _ v:=by
    rw[j1]at h2
    obtain⟨v,r,rfl,a1,b1⟩:=h2
    rw[j1]at b1
    subst b1
    exact⟨v,rfl,a1⟩
   refine⟨p,_,v,rfl,hb.int,h1,hk.1,hk.2,fun e1=>?_,fun _ p hp=>q _ _ (jK hp _) (yE (hn p hp) hp (K9 rv _))⟩
   refine q _ H (j4.refl H) ?_
   subst e1
   rcases ha with ha | ⟨_,o,_,z,_⟩
   ·exact ha
   ·cases o <;> cases z
  ·cases e
 ·cases e
theorem bX:jI X (binaryOp .Mult) (fun x y H Q=>rI Ui (fun i j=>.int (i * j)) x y H Q∨qh X.K x y H Q):=cJ.or bW
theorem bZ:jI X (binaryOp .Add) (fun x y H Q=>zR (fun i j=>.int (i+j)) x y H Q∨(fun x y H Q=>WQ X.K x y H Q∨(fun x y H Q=>∃i j,x=.str i/\y=.str j/\i.length+j.length<=sizeLine/\Q (.str (i++j)) H) x y H Q) x y H Q):=cD.or (bA.or WK)
end
end DS
namespace DS
open PySem PySem.Spec PyProof.Rows L2
mutual
noncomputable def zU:D->D->Option Bool
 | .tup l,.tup m=>(Yp l m).bind fun b=>some (b&&l.length==m.length)
 | .lst l,.lst m=>if l.length=m.length then Yp l m else some false
 | .non,.non=>some true
 | .non,.tup _=>some false
 | .tup _,.non=>some false
 | .int a,.int b=>some (a==b)
 | .bl a,.bl b=>some (a==b)
 | .str a,.str b=>some (a==b)
 | _,_=>none
noncomputable def Yp:List D->List D->Option Bool
 | [],_=>some true
 | _::_,[]=>some true
 | a::l,b::m=>(zU a b).bind fun x=>(Yp l m).bind fun y=>some (x&&y)
end
mutual
@[simp] noncomputable def dep:D->Nat
 | .tup l=>V6 l+1
 | .lst l=>V6 l+1
 | _=>0
@[simp] noncomputable def V6:List D->Nat
 | []=>0
 | d::ds=>max (dep d) (V6 ds)
end
theorem D.ind{P:D->Prop}(h:∀d,(∀l,d=.tup l->∀x∈l,P x)->(∀l,d=.lst l->∀x∈l,P x)->P d)(d:D):P d:=
 h d (fun l e x hx=>D.ind h x) (fun l e x hx=>D.ind h x)
termination_by sizeOf d
decreasing_by
 all_goals (subst e; have:=List.sizeOf_lt_of_mem hx; simp; omega)
section
variable {X:Cx} {K:Fr}
open PySem.SeqAt
theorem in1_units{A:Around}:A.in1.units=A.units+1:=rfl
variable {pins:List (Addr×Obj)} {σ:L2.St} {H:Hp} {s:Shared}
theorem UY(ih:∀d∈l,∀{d':D} {x:V} {r:Bool},j6 K H d x->j6 K H d' x->zU d d'=some r->r=true):∀{m:List D} {xs:List V} {r:Bool},j1 K H l xs->j1 K H m xs->Yp l m=some r->r=true:=by
 induction l with
 | nil=>intro m xs r _ _ e; rw[Yp]at e; cases e; rfl
 | cons a l il=>
  intro m xs r h1 h2 e
  cases m with
  | nil=>rw[Yp]at e; cases e; rfl
  | cons b m=>
   rw[Yp]at e
   obtain⟨x,e1,e⟩:=j0 e
   obtain⟨y,e2,e⟩:=j0 e
   cases e
   rw[j1]at h1 h2
   obtain⟨v,t,rfl,a1,b1⟩:=h1
   obtain⟨v',t',e',a2,b2⟩:=h2
   cases e'
   rw[ih a List.mem_cons_self a1 a2 e1,il (fun d hd=>ih d (List.mem_cons_of_mem _ hd)) b1 b2 e2]
   rfl
theorem GJ(I:Inv X pins σ H s)(d:D):∀{d':D} {x:V} {r:Bool},j6 X.K H d x->j6 X.K H d' x->zU d d'=some r->r=true:=by
 induction d using D.ind with
 | h d i1 i2=>
  intro d' x r h1 h2 e
  unfold zU at e
  split at e
  ·obtain⟨b,e1,e2⟩:=j0 e
   cases e2
   rw[j6]at h1 h2
   obtain⟨a,xs,rfl,qa,ra⟩:=h1
   obtain⟨b',ys,e',qb,rb⟩:=h2
   cases e'
   have exy:=I.tuple_inj qa qb
   subst exy
   rw[UY (fun d hd=>i1 _ rfl d hd) ra rb e1,<-ra.len,<-rb.len,beq_self_eq_true]
   rfl
  ·rw[j6]at h1 h2
   obtain⟨a,xs,rfl,qa,ra⟩:=h1
   obtain⟨b',ys,e',qb,rb⟩:=h2
   cases e'
   rw[qa]at qb
   cases qb
   rw[if_pos (by rw[<-ra.len,<-rb.len])]at e
   exact UY (fun d hd=>i2 _ rfl d hd) ra rb e
  ·cases e; rfl
  ·rw[j6]at h1
   rw[j6]at h2
   obtain⟨b',ys,e',qb,rb⟩:=h2
   rw[h1]at e'; cases e'
  ·rw[j6]at h1
   rw[j6]at h2
   obtain⟨b',ys,e',qb,rb⟩:=h1
   rw[h2]at e'; cases e'
  ·cases e; rw[j6]at h1 h2; rw[h1]at h2; cases h2; simp
  ·cases e; rw[j6]at h1 h2; rw[h1]at h2; cases h2; simp
  ·cases e; rw[j6]at h1 h2; rw[h1]at h2; cases h2; simp
  ·cases e
theorem ko{l:List D}(ih:∀d∈l,∀{d':D} {x y:V} {u v:Value} {A:Around} {r:Bool},zU d d'=some r->j6 K H d x->j6 K H d' y->jm x u->jm y v->A.units+dep d < cLine->EqAt A s u v r):∀{m:List D} {xs ys:List V} {us vs:List Value} {A:Around} {r:Bool},Yp l m=some r->j1 K H l xs->j1 K H m ys->je xs us->je ys vs->A.units+V6 l < cLine->
  ∃e:Nat->Bool,(∀(j:Nat) (h1:j < us.length) (h2:j < vs.length),EqAt A s us[j] vs[j] (e j))/\(List.range (min l.length m.length)).all e=r:=by
 induction l with
 | nil=>
  intro m xs ys us vs A r e h1 h2 v1 v2 hu
  rw[Yp]at e; cases e
  rw[j1]at h1
  subst h1
  cases v1
  exact⟨fun _=>true,fun j h1 _=>vDa h1 (by simp),by simp⟩
 | cons a l il=>
  intro m xs ys us vs A r e h1 h2 v1 v2 hu
  cases m with
  | nil=>
   rw[Yp]at e; cases e
   rw[j1]at h2
   subst h2
   cases v2
   exact⟨fun _=>true,fun j _ h2=>vDa h2 (by simp),by simp⟩
  | cons b m=>
   rw[Yp]at e
   obtain⟨x,e1,e⟩:=j0 e
   obtain⟨y,e2,e⟩:=j0 e
   cases e
   rw[j1]at h1 h2
   obtain⟨v,t,rfl,a1,b1⟩:=h1
   obtain⟨v',t',rfl,a2,b2⟩:=h2
   rw[V6]at hu
   cases v1 with
   | cons r1 rr1=>
    cases v2 with
    | cons r2 rr2=>
     obtain⟨e',q1,q2⟩:=il (fun d hd=>ih d (wMa _ hd)) e2 b1 b2 rr1 rr2 (A:=A) (by omega)
     refine⟨fun j=>match j with | 0=>x | j+1=>e' j,fun j h1 h2=>?_,?_⟩
     ·cases j with
      | zero=>exact ih a wNa e1 a1 a2 r1 r2 (by omega)
      | succ j=>exact q1 j (by simpa using h1) (by simpa using h2)
     ·rw[List.length_cons,List.length_cons,Nat.succ_min_succ,List.range_succ_eq_map,List.all_cons,List.all_map]
      rw[<-q2]
      rfl
theorem d4(I:Inv X pins σ H s)(d:D):∀{d':D} {x y:V} {u v:Value} {A:Around} {r:Bool},zU d d'=some r->j6 X.K H d x->j6 X.K H d' y->jm x u->jm y v->A.units+dep d < cLine->EqAt A s u v r:=by
 induction d using D.ind with
 | h d i1 i2=>
  intro d' x y u v A r e hx hy rx ry hu
  have e0:=e
  unfold zU at e
  split at e
  ·obtain⟨b,e1,e2⟩:=j0 e
   cases e2
   have hx0:=hx
   have hy0:=hy
   rw[j6]at hx hy
   obtain⟨a,xs,rfl,qa,ra⟩:=hx
   obtain⟨b',ys,rfl,qb,rb⟩:=hy
   cases rx
   cases ry
   rw[dep]at hu
   by_cases hab:a=b'
   ·subst hab
    have:=GJ I _ hx0 hy0 e0
    rw[this]
    exact EqAt.same _
   ·obtain⟨ia,va,pa,_⟩:=I.tuple qa
    obtain⟨ib,vb,pb,_⟩:=I.tuple qb
    have la:=(List.size_toArray (as:=ia)).trans (va.length.symm.trans ra.len)
    have lb:=(List.size_toArray (as:=ib)).trans (vb.length.symm.trans rb.len)
    obtain⟨e',h1,h2⟩:=ko (fun d hd=>i1 _ rfl d hd) e1 ra rb va vb (A:=A.in1) (by rw[in1_units]; omega)
    have key:=RcAt.tuples (A:=A) (s:=s) (l:=a) (b:=b') (items:=ia.toArray) (items2:=ib.toArray) (e:=e') pa pb (by omega) (fun j h1' h2'=>by simpa using h1 j (by simpa using h1') (by simpa using h2'))
    rw[la,lb,h2]at key
    exact EqAt.of_refs hab key
  ·have hx0:=hx
   have hy0:=hy
   rw[j6]at hx hy
   obtain⟨a,xs,rfl,qa,ra⟩:=hx
   obtain⟨b',ys,rfl,qb,rb⟩:=hy
   cases rx
   cases ry
   rw[dep]at hu
   by_cases hab:a=b'
   ·subst hab
    have:=GJ I _ hx0 hy0 e0
    rw[this]
    exact EqAt.same _
   ·obtain⟨ia,va,pa,_⟩:=I.list (jt.of qa)
    obtain⟨ib,vb,pb,_⟩:=I.list (jt.of qb)
    have la:=(List.size_toArray (as:=ia)).trans (va.length.symm.trans ra.len)
    have lb:=(List.size_toArray (as:=ib)).trans (vb.length.symm.trans rb.len)
    split at e
    ·rename_i ell
     obtain⟨e',h1,h2⟩:=ko (fun d hd=>i2 _ rfl d hd) e ra rb va vb (A:=A.in1) (by rw[in1_units]; omega)
     have key:=RcAt.lists (A:=A) (s:=s) (l:=a) (b:=b') (items:=ia.toArray) (items2:=ib.toArray) (e:=e') pa.isList pb.isList (by rw[la,lb,ell]) (by omega) (fun j h1' h2'=>by simpa using h1 j (by simpa using h1') (by simpa using h2'))
     rw[la]at key
     rw[<-ell,Nat.min_self]at h2
     rw[h2]at key
     exact EqAt.of_refs hab key
    ·rename_i ell
     cases e
     exact EqAt.of_refs hab (RcAt.lists_lengths pa.isList pb.isList (by rw[la,lb]; simpa using ell) (by omega))
  ·cases e
   rw[j6]at hx hy; subst hx hy; cases rx; cases ry
   exact EqAt.same _
  ·cases e
   rw[j6]at hx
   rw[j6]at hy
   subst hx; cases rx
   obtain⟨b',ys,rfl,qb,rb⟩:=hy
   cases ry
   obtain⟨ib,vb,pb,_⟩:=I.tuple qb
   exact EqAt.none_tuple pb (by omega)
  ·cases e
   rw[j6]at hx
   rw[j6]at hy
   subst hy; cases ry
   obtain⟨b',ys,rfl,qb,rb⟩:=hx
   cases rx
   obtain⟨ib,vb,pb,_⟩:=I.tuple qb
   exact EqAt.tuple_none pb (by omega)
  ·cases e
   rw[j6]at hx hy; subst hx hy
   obtain⟨t,rfl⟩:=rx
   obtain⟨t',rfl⟩:=ry
   exact EqAt.int_int _ _ _ _
  ·cases e
   rw[j6]at hx hy; subst hx hy; cases rx; cases ry
   exact EqAt.bool_bool _ _
  ·cases e
   rw[j6]at hx hy; subst hx hy
   obtain⟨t,rfl⟩:=rx
   obtain⟨t',rfl⟩:=ry
   exact EqAt.str_str _ _ _ _
  ·cases e
@[simp] noncomputable def u9:D->D->Bool
 | .lst _,.lst _=>true
 | .tup _,.tup _=>true
 | _,_=>false
def Uo(K:Fr)(neg:Bool):R2:=fun x y H Q=>∃d d' r,j6 K H d x/\j6 K H d' y/\u9 d d'=true/\zU d d'=some r/\dep d<=20/\Q (.bl (if neg then !r else r)) H
theorem d8(I:Inv X pins σ H s){d d':D}{x y:V}{u v:Value}{A:Around}{r:Bool}(e:zU d d'=some r)(q:u9 d d'=true)(hx:j6 X.K H d x)(hy:j6 X.K H d' y)(rx:jm x u)(ry:jm y v)(hu:A.units+dep d < cLine):RcAt A s u v r/\RcNeAt A s u v (!r):=by
 unfold u9 at q
 split at q
 ·rw[j6]at hx hy
  obtain⟨a,xs,rfl,qa,ra⟩:=hx
  obtain⟨b',ys,rfl,qb,rb⟩:=hy
  cases rx
  cases ry
  rw[dep]at hu
  rw[zU]at e
  obtain⟨ia,va,pa,_⟩:=I.list (jt.of qa)
  obtain⟨ib,vb,pb,_⟩:=I.list (jt.of qb)
  have la:=(List.size_toArray (as:=ia)).trans (va.length.symm.trans ra.len)
  have lb:=(List.size_toArray (as:=ib)).trans (vb.length.symm.trans rb.len)
  split at e
  ·rename_i ell
   obtain⟨e',h1,h2⟩:=ko (fun d _=>d4 I d) e ra rb va vb (A:=A.in1) (by rw[in1_units]; omega)
   have key:=RcAt.lists (A:=A) (s:=s) (l:=a) (b:=b') (items:=ia.toArray) (items2:=ib.toArray) (e:=e') pa.isList pb.isList (by rw[la,lb,ell]) (by omega) (fun j h1' h2'=>by simpa using h1 j (by simpa using h1') (by simpa using h2'))
   have key2:=RcNeAt.lists (A:=A) (s:=s) (l:=a) (b:=b') (items:=ia.toArray) (items2:=ib.toArray) (e:=e') pa.isList pb.isList (by rw[la,lb,ell]) (by omega) (fun j h1' h2'=>by simpa using h1 j (by simpa using h1') (by simpa using h2'))
   rw[la]at key key2
   rw[<-ell,Nat.min_self]at h2
   rw[h2]at key key2
   exact⟨key,key2⟩
  ·rename_i ell
   cases e
   exact⟨RcAt.lists_lengths pa.isList pb.isList (by rw[la,lb]; simpa using ell) (by omega),RcNeAt.lists_lengths pa.isList pb.isList (by rw[la,lb]; simpa using ell) (by omega)⟩
 ·rw[j6]at hx hy
  obtain⟨a,xs,rfl,qa,ra⟩:=hx
  obtain⟨b',ys,rfl,qb,rb⟩:=hy
  cases rx
  cases ry
  rw[dep]at hu
  rw[zU]at e
  obtain⟨b,e1,e2⟩:=j0 e
  cases e2
  obtain⟨ia,va,pa,_⟩:=I.tuple qa
  obtain⟨ib,vb,pb,_⟩:=I.tuple qb
  have la:=(List.size_toArray (as:=ia)).trans (va.length.symm.trans ra.len)
  have lb:=(List.size_toArray (as:=ib)).trans (vb.length.symm.trans rb.len)
  obtain⟨e',h1,h2⟩:=ko (fun d _=>d4 I d) e1 ra rb va vb (A:=A.in1) (by rw[in1_units]; omega)
  have key:=RcAt.tuples (A:=A) (s:=s) (l:=a) (b:=b') (items:=ia.toArray) (items2:=ib.toArray) (e:=e') pa pb (by omega) (fun j h1' h2'=>by simpa using h1 j (by simpa using h1') (by simpa using h2'))
  have key2:=RcNeAt.tuples (A:=A) (s:=s) (l:=a) (b:=b') (items:=ia.toArray) (items2:=ib.toArray) (e:=e') pa pb (by omega) (fun j h1' h2'=>by simpa using h1 j (by simpa using h1') (by simpa using h2'))
  rw[la,lb,h2]at key key2
  exact⟨key,key2⟩
 ·cases q
theorem dg{k:Nat}(hr:Room k X.A):jI X (compareOp .Eq) (Uo X.K false):=by
 intro pins s σ H x y v u Q I rx ry h
 obtain⟨d,d',r,hx,hy,q,e,hd,qq⟩:=h
 have hu:=hr.units
 exact(d8 (A:=X.A) I e q hx hy rx ry (by omega)).1 X.prog X.w X.xe _ ⟨.bl r,H,I,rfl,qq⟩
theorem dh{k:Nat}(hr:Room k X.A):jI X (compareOp .NotEq) (Uo X.K true):=by
 intro pins s σ H x y v u Q I rx ry h
 obtain⟨d,d',r,hx,hy,q,e,hd,qq⟩:=h
 have hu:=hr.units
 exact(d8 (A:=X.A) I e q hx hy rx ry (by omega)).2 X.prog X.w X.xe _ ⟨.bl (!r),H,I,rfl,qq⟩
@[simp] def Ka(neg:Bool):D->D->Option D:=fun a b=>if u9 a b=true/\dep a<=20 then(zU a b).bind fun r=>some (.bl (if neg then !r else r))else none
theorem Aa{neg:Bool}:Jh K (Uo K neg) (Ka neg):=by
 intro O H a b d x y Q ha hb hn e q
 unfold Ka at e
 split at e
 ·rename_i hh
  obtain⟨r,e1,e2⟩:=j0 e
  cases e2
  exact⟨a,b,r,ha.full,hb.full,hh.1,e1,hh.2,q _ H (j4.refl H) (by rw[j6])⟩
 ·cases e
@[simp] def Je(a b:D):Option D:=if u9 a b=true then Ka false a b else kY a b
@[simp] def Jr(a b:D):Option D:=if u9 a b=true then Ka true a b else X9 a b
theorem HN:Jh K (fun x y H Q=>aE x y H Q∨Uo K false x y H Q) Je:=by
 intro O H a b d x y Q ha hb hn e q
 unfold Je at e
 split at e
 ·exact .inr (Aa O H a b d x y Q ha hb hn e q)
 ·exact .inl (ER O H a b d x y Q ha hb hn e q)
theorem HP:Jh K (fun x y H Q=>aF x y H Q∨Uo K true x y H Q) Jr:=by
 intro O H a b d x y Q ha hb hn e q
 unfold Jr at e
 split at e
 ·exact .inr (Aa O H a b d x y Q ha hb hn e q)
 ·exact .inl (ES O H a b d x y Q ha hb hn e q)
theorem dj{k:Nat}(hr:Room k X.A):jI X (compareOp .Eq) (fun x y H Q=>aE x y H Q∨Uo X.K false x y H Q):=Es.or (dg hr)
theorem dl{k:Nat}(hr:Room k X.A):jI X (compareOp .NotEq) (fun x y H Q=>aF x y H Q∨Uo X.K true x y H Q):=Et.or (dh hr)
@[simp] noncomputable def Ab:D->Option V
 | .non=>some .non
 | .bl b=>some (.bl b)
 | .int i=>some (.int i)
 | .str s=>some (.str s)
 | _=>none
@[simp] def qi:List D->Option (List V)
 | []=>some []
 | d::ds=>(Ab d).bind fun v=>(qi ds).bind fun vs=>some (v::vs)
theorem Qw{H:Hp}{d:D}{v w:V}(e:Ab d=some v)(h:j6 K H d w):w=v/\zh v=true:=by
 unfold Ab at e
 split at e <;> first | (cases e; rw[j6]at h; exact⟨h,rfl⟩) | cases e
theorem gY{H:Hp}:∀{l:List D} {vs xs:List V},qi l=some vs->j1 K H l xs->xs=vs/\vs.all zh=true
 | [],vs,xs,e,h=>by cases e; rw[j1]at h; exact⟨h,rfl⟩
 | d::l,vs,xs,e,h=>by
  rw[qi]at e
  obtain⟨v,e1,e⟩:=j0 e
  obtain⟨r,e2,e⟩:=j0 e
  cases e
  rw[j1]at h
  obtain⟨w,t,rfl,a,b⟩:=h
  obtain⟨h1,h2⟩:=Qw e1 a
  obtain⟨h3,h4⟩:=gY e2 b
  exact⟨by rw[h1,h3],by rw[List.all_cons,h2,h4]; rfl⟩
@[simp] def Ad(neg:Bool):D->D->Option D:=fun a b=>(Ab a).bind fun v=>(yN b).bind fun l=>(qi l).bind fun vs=>some (.bl (if neg then !aN v vs else aN v vs))
theorem dm{neg:Bool}:Jh K (Ca K neg) (Ad neg):=by
 intro O H a b d x y Q ha hb hn e q
 unfold Ad at e
 obtain⟨v,e1,e⟩:=j0 e
 obtain⟨l,e2,e⟩:=j0 e
 obtain⟨vs,e3,e⟩:=j0 e
 cases e
 obtain⟨h1,h2⟩:=Qw e1 ha.full
 subst h1
 unfold yN at e2
 split at e2
 ·cases e2
  obtain⟨p,xs,rfl,g1,g2⟩:=hb.lst
  obtain⟨h3,h4⟩:=gY e3 g2
  subst h3
  exact⟨p,xs,rfl,.inl (jt.of g1),h2,h4,q _ H (j4.refl H) (by rw[j6])⟩
 ·cases e2
  obtain⟨p,xs,rfl,g1,g2⟩:=hb.tup
  obtain⟨h3,h4⟩:=gY e3 g2
  subst h3
  exact⟨p,xs,rfl,.inr g1,h2,h4,q _ H (j4.refl H) (by rw[j6])⟩
 ·cases e2
@[simp] noncomputable def Ae:D->Option Kd
 | .int _=>some .i
 | .bl _=>some .b
 | .str _=>some .s
 | .lst _=>some .l
 | .tup _=>some .t
 | _=>none
theorem Af{O:List Addr}{d:D}{v:V}{k:Kd}(e:Ae d=some k)(h:RB K O H d v):X5 K H v k:=by
 unfold Ae at e
 split at e
 ·cases e; rw[h.int]; trivial
 ·cases e; rw[h.bl]; trivial
 ·cases e; rw[h.str]; trivial
 ·cases e
  obtain⟨p,xs,rfl,g1,g2⟩:=h.lst
  exact⟨xs,jt.of g1⟩
 ·cases e
  obtain⟨p,xs,rfl,g1,g2⟩:=h.tup
  exact⟨xs,g1⟩
 ·cases e
variable {e:Expr} {de:DE} {pos p p1 p2 tp:Pos}
@[simp] def dw(T:String):D->Option D:=fun d=>(Ae d).bind fun k=>(aS k T).bind fun b=>some (.bl b)
theorem fO{T:String}{e2:Expr}(h:PE X (.Call (.Name "isinstance" p) [e,e2] [] pos) (Q6 (Ci X.K) (zZ (tR K de) (zZ (tC (.ty T)) VS))))(hK:X.K=K:=by rfl):PE X (.Call (.Name "isinstance" p) [e,e2] [] pos) (tE K (d1 (dw T) de)):=jz h fun σ H Q ⟨H0,O0,ρ,O,d,R,ed,q⟩=>by
 subst hK
 obtain⟨x,e1,e2⟩:=j0 ed
 obtain⟨k,e3,e2⟩:=j0 e2
 obtain⟨b,e4,e2⟩:=j0 e2
 cases e2
 exact⟨H0,O0,ρ,O,x,R,e1,fun v H' s r=>⟨v,T,k,b,rfl,Af e3 r,e4,q _ H' s (by rw[j6])⟩⟩
@[simp] def Ag:D->Option D:=fun d=>(Ae d).bind fun k=>some (.bl (WV k))
theorem dA{ex:Expr}(h:PE X ex (aU X.K (tR K de)))(hK:X.K=K:=by rfl):PE X ex (tE K (d1 Ag de)):=jz h fun σ H Q ⟨H0,O0,ρ,O,d,R,ed,q⟩=>by
 subst hK
 obtain⟨x,e1,e2⟩:=j0 ed
 obtain⟨k,e3,e2⟩:=j0 e2
 cases e2
 exact⟨H0,O0,ρ,O,x,R,e1,fun v H' s r=>⟨k,Af e3 r,fun p hp=>q _ _ (s.trans (jK hp _)) (by rw[j6])⟩⟩
end
end DS
namespace DS
open PySem PySem.Spec PyProof.Rows L2
@[simp] noncomputable def zm(f:Str)(d:D):List Str->List D->List Str×List D
 | g::ns,x::xs=>if g=f then(g::ns,d::xs)else((g::(zm f d ns xs).1),x::(zm f d ns xs).2)
 | _,_=>([f],[d])
section
variable {X:Cx} {K:Fr}
theorem Kb{H:Hp}{f:Str}{d:D}{v:V}(r:j6 K H d v):∀{ns:List Str} {ds:List D} {vs:List V},ns.length=vs.length->j1 K H ds vs->∃vs',yH f v (ns.zip vs)=(zm f d ns ds).1.zip vs'/\(zm f d ns ds).1.length=vs'.length/\j1 K H (zm f d ns ds).2 vs'
 | [],ds,vs,h,rp=>by
  have e:vs=[]:=List.length_eq_zero_iff.mp h.symm
  subst e
  have e:ds=[]:=by have:=rp.len; exact List.length_eq_zero_iff.mp this.symm
  subst e
  exact⟨[v],rfl,rfl,j1.cons r j1.nil⟩
 | g::ns,[],vs,h,rp=>by rw[j1]at rp; subst rp; cases h
 | g::ns,x::ds,vs,h,rp=>by
  rw[j1]at rp
  obtain⟨w,t,rfl,a,b⟩:=rp
  rw[zm]
  by_cases e:g=f
  ·rw[if_pos e]
   refine⟨v::t,?_,by simpa using h,j1.cons r b⟩
   show(if g=f then(g,v)::ns.zip t else _)=_
   rw[if_pos e]
   rfl
  ·rw[if_neg e]
   obtain⟨vs',q1,q2,q3⟩:=Kb (f:=f) r (ns:=ns) (ds:=ds) (vs:=t) (by simpa using h) b
   refine⟨w::vs',?_,by simpa using q2,j1.cons a q3⟩
   show(if g=f then _ else(g,w)::yH f v (ns.zip t))=_
   rw[if_neg e,q1]
   rfl
variable {e o:Expr} {de:DE} {pos pos':Pos} {st:Stmt}
def Z1(i:Nat)(C:Addr)(f:Str)(de:DE):DS:=fun ρ=>match ρ[i]? with
 | some (.ow q (.ins C' ns ds))=>if C'=C/\ns.length < 1000 then(de ρ).bind fun d=>some (.nx (ρ.set i (.ow q (.ins C' (zm f d ns ds).1 (zm f d ns ds).2))))else none
 | _=>none
@[simp] theorem iL(i:Nat)(C:Addr)(f:Str)(de:DE){ρ:j8}:Z1 i C f de ρ=match ρ[i]? with
 | some (.ow q (.ins C' ns ds))=>if C'=C/\ns.length < 1000 then(de ρ).bind fun d=>some (.nx (ρ.set i (.ow q (.ins C' (zm f d ns ds).1 (zm f d ns ds).2))))else none
 | _=>none:=rfl
theorem dB{i:Nat}{C:Addr}{f:Str}(h:PS X st (cU X.K (YY i) (tE K de) f))(c:Cls K C)(n:yS K C f)(hK:X.K=K:=by rfl):PS X st (tS K (Z1 i C f de)):=J9 h fun D σ H ⟨H0,O0,ρ,O,r,R,ed,fi⟩=>by
 subst hK
 unfold Z1 at ed
 split at ed
 ·rename_i q C' ns ds hi
  split at ed
  ·rename_i hh
   obtain⟨rfl,hlen⟩:=hh
   obtain⟨d,e1,e2⟩:=j0 ed
   cases e2
   obtain⟨l,hq,hs,⟨dx,vs,hl,hn,rp⟩,lo,h0⟩:=R.ow i _ _ hi
   refine⟨H0,O0,ρ,O,d,R,e1,fun v H1 s1 rv=>⟨_,hs,l,_,dx,_,rfl,s1 _ _ hl,c,n,?_,?_⟩⟩
   ·rw[List.length_zip,<-hn,Nat.min_self]; exact hlen
   have R':=R.grow s1
   obtain⟨vs',p1,p2,p3⟩:=Kb (f:=f) rv hn (rp.same (jh s1))
   refine fi _ _ O (R'.change hi hq hs lo h0 ⟨dx,vs',by rw[J2,p1],p2,p3⟩) ?_
   rw[Yo lo]
   exact jh s1
  ·cases ed
 ·cases ed
@[simp] noncomputable def Zj(ks:List Bool)(ds:List D)(n:Nat):j8:=List.zipWith (fun k d=>if k=true then Sl.cl d else Sl.bo d) ks ds++List.replicate n .un
theorem yh.get{O:List Addr}{H:Hp}:∀{ks:List Bool} {ds:List D} {vs:List V} {i:Nat} {d:D},yh K O H ks ds vs->ds[i]?=some d->∃k v,ks[i]?=some k/\vs[i]?=some v/\AK K O H k d v
 | [],[],[],_,_,_,e=>by simp at e
 | k::_,d::_,v::_,0,_,h,e=>by simp at e; subst e; exact⟨k,v,rfl,rfl,h.1⟩
 | k::_,d::_,v::_,i+1,d',h,e=>by
  obtain⟨k',v',h1,h2,h3⟩:=yh.get (i:=i) h.2 (by simpa using e)
  exact⟨k',v',by simpa using h1,by simpa using h2,h3⟩
 | [],[],_::_,_,_,h,_=>h.elim
 | [],_::_,_,_,_,h,_=>h.elim
 | _::_,[],_,_,_,h,_=>h.elim
 | _::_,_::_,[],_,_,h,_=>h.elim
theorem YZ{O:List Addr}{H:Hp}{ks:List Bool}{ds:List D}{vs:List V}{n i:Nat}{s:Sl}(h:yh K O H ks ds vs)(hs:s≠.un)(e:(Zj ks ds n)[i]?=some s):∃k d v,vs[i]?=some v/\AK K O H k d v/\s=(if k=true then Sl.cl d else Sl.bo d):=by
 unfold Zj at e
 have hl:=h.len
 by_cases hi:i < ds.length
 ·rw[List.getElem?_append_left (by rw[List.length_zipWith]; omega),List.getElem?_zipWith]at e
  have hd:ds[i]?=some ds[i]:=by simp[hi]
  obtain⟨k,v,h1,h2,h3⟩:=h.get hd
  rw[h1,hd]at e
  cases e
  exact⟨k,_,v,h2,h3,rfl⟩
 ·rw[List.getElem?_append_right (by rw[List.length_zipWith]; omega),List.getElem?_replicate]at e
  split at e
  ·cases e; exact vDa rfl hs
  ·cases e
theorem qj{O:List Addr}{H:Hp}{ks:List Bool}{ds:List D}{vs:List V}{n:Nat}(h:yh K O H ks ds vs)(al:∀a∈O,H a≠none):Rel K H O (Zj ks ds n) (vs.map some++List.replicate n none) H O:=by
 have hl:=h.len
 have at':∀{i:Nat} {v:V},vs[i]?=some v->(vs.map some++List.replicate n none)[i]?=some (some v):=fun {i v} e=>by
  have:=(List.getElem?_eq_some_iff.mp e).1
  rw[List.getElem?_append_left (by rw[List.length_map]; exact this),List.getElem?_map,e]
  rfl
 refine⟨?_,fun a h=>h,fun a h=>.inl h,al,al,j4.refl _,?_,?_,?_,?_⟩
 ·unfold Zj
  rw[List.length_append,List.length_append,List.length_map,List.length_replicate,List.length_replicate,List.length_zipWith]
  omega
 ·intro i d e
  obtain⟨k,d',v,h1,h2,h3⟩:=YZ h (by intro z; cases z) e
  cases k with
  | true=>cases h3; exact⟨v,at' h1,h2⟩
  | false=>cases h3
 ·intro i d e
  obtain⟨k,d',v,h1,h2,h3⟩:=YZ h (by intro z; cases z) e
  cases k with
  | true=>cases h3
  | false=>cases h3; exact⟨v,at' h1,h2⟩
 ·intro i q o e
  obtain⟨k,d',v,h1,h2,h3⟩:=YZ h (by intro z; cases z) e
  cases k <;> cases h3
 ·intro i j q q' o o' l e
  obtain⟨k,d',v,h1,h2,h3⟩:=YZ h (by intro z; cases z) e
  cases k <;> cases h3
@[simp] def Js(ks:List Bool)(n:Nat)(body:DS):List D->Option D:=fun ds=>(body (Zj ks ds n)).bind fun r=>match r with
 | .rt d=>some d
 | .rf o=>some o.toD
 | .nx _=>some .non
 | _=>none
@[simp] def vK(ks:List Bool)(n:Nat)(body:DS):List D->Option OD:=fun ds=>(body (Zj ks ds n)).bind fun r=>match r with
 | .rf o=>some o
 | _=>none
@[simp] def Qy(C:Addr)(ks:List Bool)(n:Nat)(body:DS):Addr->List D->Option OD:=fun p ds=>(body (.ow (some p) (.ins C [] [])::Zj ks ds n)).bind fun r=>match r with
 | .nx ρ=>(match (ρ[0]?:Option Sl)with
  | some (Sl.ow q o)=>if q=some p then some o else none
  | _=>none)
 | _=>none
variable {P:Program} {w:World} {mg:Str->Option Value} {base:Heap} {x qual:Str} {f:Addr} {fd:FuncData} {N ps:List Str} {k n:Nat} {ks:List Bool} {body:DS}
theorem dE(F:Fun K x qual st f fd)(S:FnScope N ps (defScope st))(hk:ks.length=ps.length)(hn:N.length - ps.length=n)
  (hb:∀(cdv:Value) (A:Around) (outer:List Env) (s:Shared) (H:Hp) (E:XK),Room k (A.deeper (envOfC qual (defScope st) s.heap.objs.size f cdv))->jL (Ju Yd P w K mg base N qual (defScope st) f cdv A outer s H E).nox (defBody st) (tS K body)):
  FnOk P w K mg base Yd (k+1) f fd ps (K5 K ks (Js ks n body)):=by
 refine F.ok S (fun vs H Q E h=>?_) fun cdv A outer s H vs Q E hr h=>?_
 ·obtain⟨O,ds,d,_,ak,_⟩:=h
  have:=ak.len
  omega
 ·obtain⟨O,ds,d,al,ak,e,q⟩:=h
  refine⟨_,hb cdv A outer s H E hr,?_⟩
  obtain⟨r,e1,e2⟩:=j0 e
  have hl:N.length - vs.length=n:=by have:=ak.len; omega
  unfold L2.Yh
  rw[hl]
  refine⟨H,O,_,O,r,qj ak al,e1,?_⟩
  cases r with
  | rt d'=>cases e2; exact fun v H' s r=>q v H' s r
  | rf o=>
   cases e2
   exact fun l H' s hl ow=>q _ H' s ((ow.same (fun _ z=>z) (yT fun a h=>wMa _ h)).rep fun u z=>by rw[J3 (fun y=>al l y hl)]; exact z)
  | nx ρ=>cases e2; exact fun σ' H' O' R' _=>q _ H' R'.keep (by rw[j6])
  | bk ρ=>cases e2
  | ct ρ=>cases e2
theorem HQ(F:Fun K x qual st f fd)(S:FnScope N ps (defScope st))(hk:ks.length=ps.length)(hn:N.length - ps.length=n)
  (hb:∀(cdv:Value) (A:Around) (outer:List Env) (s:Shared) (H:Hp) (E:XK),Room k (A.deeper (envOfC qual (defScope st) s.heap.objs.size f cdv))->jL (Ju Yd P w K mg base N qual (defScope st) f cdv A outer s H E).nox (defBody st) (tS K body)):
  FnOk P w K mg base Yd (k+1) f fd ps (w_ K ks (vK ks n body)):=by
 refine F.ok S (fun vs H Q E h=>?_) fun cdv A outer s H vs Q E hr h=>?_
 ·obtain⟨O,ds,d,_,ak,_⟩:=h
  have:=ak.len
  omega
 ·obtain⟨O,ds,d,al,ak,e,q⟩:=h
  refine⟨_,hb cdv A outer s H E hr,?_⟩
  obtain⟨r,e1,e2⟩:=j0 e
  have hl:N.length - vs.length=n:=by have:=ak.len; omega
  unfold L2.Yh
  rw[hl]
  refine⟨H,O,_,O,r,qj ak al,e1,?_⟩
  cases r with
  | rt d'=>cases e2
  | rf o=>cases e2; exact q
  | nx ρ=>cases e2
  | bk ρ=>cases e2
  | ct ρ=>cases e2
theorem HR{C:Addr}(F:Fun K x qual st f fd)(S:FnScope N ps (defScope st))(hk:ks.length+1=ps.length)(hn:N.length - ps.length=n)
  (hb:∀(cdv:Value) (A:Around) (outer:List Env) (s:Shared) (H:Hp) (E:XK),Room k (A.deeper (envOfC qual (defScope st) s.heap.objs.size f cdv))->jL (Ju Yd P w K mg base N qual (defScope st) f cdv A outer s H E).nox (defBody st) (tS K body)):
  FnOk P w K mg base Yd (k+1) f fd ps (A5 K C ks (Qy C ks n body)):=by
 refine F.ok S (fun vs H Q E h=>?_) fun cdv A outer s H vs Q E hr h=>?_
 ·obtain⟨O,ds,p,dx,vs',o,rfl,_,_,_,ak,_⟩:=h
  have:=ak.len
  rw[List.length_cons]
  omega
 ·obtain⟨O,ds,p,dx,vs',o,rfl,al,hp,hpO,ak,e,q⟩:=h
  refine⟨_,hb cdv A outer s H E hr,?_⟩
  obtain⟨r,e1,e2⟩:=j0 e
  have hl:N.length - (V.ref p::vs').length=n:=by have:=ak.len; rw[List.length_cons]; omega
  unfold L2.Yh
  rw[hl]
  have al':∀a∈O,ja H [p] a≠none:=fun a ha=>by
   rw[J3 (by intro z; simp at z; exact hpO (z▸ha))]; exact al a ha
  have R0:=qj (n:=n) ak al'
  have np:ja H [p] p=none:=uG wNa
  have sH:j4 (ja H [p]) H:=yD
  have sd:j4 (ja (ja H [p]) O) (ja H (p::O)):=fun b u z=>by
   obtain⟨z1,z2⟩:=JP z
   obtain⟨z3,z4⟩:=JP z2
   rw[J3 (by intro y; rcases List.mem_cons.mp y with y | y; exact z3 (by rw[y]; exact List.mem_cons_self); exact z1 y)]
   exact z4
  have R:Rel K (ja H [p]) O (.ow (some p) (.ins C [] [])::Zj ks ds n) (List.map some (V.ref p::vs')++List.replicate n none) H (p::O):=by
   refine⟨?_,fun a h=>wMa _ h,?_,al',?_,sH,?_,?_,?_,?_⟩
   ·have:=R0.len
    rw[List.length_cons,List.map_cons,List.cons_append,List.length_cons,this]
   ·intro a ha
    rcases List.mem_cons.mp ha with rfl | ha
    ·exact .inr np
    ·exact .inl ha
   ·intro a ha
    rcases List.mem_cons.mp ha with rfl | ha
    ·rw[hp]; exact fun z=>nomatch z
    ·exact al a ha
   ·intro i d e
    cases i with
    | zero=>cases e
    | succ i=>
     obtain⟨v,h1,h2⟩:=R0.cl i d e
     exact⟨v,h1,h2.same sd⟩
   ·intro i d e
    cases i with
    | zero=>cases e
    | succ i=>exact R0.bo i d e
   ·intro i q' o' e
    cases i with
    | zero=>
     cases e
     exact⟨p,(fun p' z=>vFa z),rfl,⟨dx,[],hp,rfl,j1.nil⟩,wNa,np⟩
    | succ i=>
     obtain⟨k',d',v,_,_,h3⟩:=YZ ak (by intro z; cases z) e
     cases k' <;> cases h3
   ·intro i j q1 q2 o1 o2 l e e'
    have z:∀(i:Nat) (q':Option Addr) (o':OD),(Sl.ow (some p) (.ins C [] [])::Zj ks ds n)[i]?=some (.ow q' o')->i=0:=fun i q' o' e=>by
     cases i with
     | zero=>rfl
     | succ i=>
      obtain⟨k',d',v,_,_,h3⟩:=YZ ak (by intro z; cases z) e
      cases k' <;> cases h3
    intro _ _
    rw[z i _ _ e,z j _ _ e']
  refine⟨ja H [p],O,_,p::O,r,R,e1,?_⟩
  cases r with
  | nx ρ=>
   intro σ' H' O' R' _
   have e2:(match (ρ[0]?:Option Sl)with
    | some (Sl.ow q o)=>if q=some p then some o else none
    | _=>none)=some o:=e2
   split at e2
   ·rename_i qq o' h0
    split at e2
    ·rename_i hq
     cases e2
     subst hq
     obtain⟨l,hl2,_,ow,lo,_⟩:=R'.ow 0 _ _ h0
     have el:=hl2 p rfl
     subst el
     refine q H' R'.keep (ow.same (fun _ z=>z) (yT fun a ha=>?_))
     rcases List.mem_cons.mp ha with rfl | ha
     ·exact lo
     ·exact R'.sub a ha
    ·cases e2
   ·cases e2
  | rt d'=>cases e2
  | rf o=>cases e2
  | bk ρ=>cases e2
  | ct ρ=>cases e2
end
end DS
namespace L2
open PySem PySem.Spec PyProof.Rows
def yc(h:Heap)(d:Addr)(es:Array DictEntry)(ep:Nat):Prop:=∃o,h.get? d=some o/\o.ExactDict/\o.data=.dict es ep
theorem yc.ty{s:Shared}{d:Addr}{es:Array DictEntry}{ep:Nat}(m:yc s.heap d es ep):s.TypeIs (.ref d) "dict" := let ⟨o,g,c,_⟩:=m; ⟨o,g,c.1⟩
theorem yc.at{h h':Heap}{d:Addr}{es:Array DictEntry}{ep:Nat}(m:yc h d es ep)(e:∀o,h.get? d=some o->h'.get? d=some o):yc h' d es ep:=let ⟨o,g,c⟩:=m; ⟨o,e _ g,c⟩
section
variable {prog:Program} {w:World} {A:Around} {E:Value->Shared->Prop} {s:Shared} {d it:Addr} {es:Array DictEntry} {ep i:Nat}
theorem Kc{Q:Value->Shared->Prop}(hd:(d==sysModules)=false)(m:yc s.heap d es ep)
  (q:Q (.ref s.heap.objs.size) { s with heap:=s.heap.push { cls:=.type "dict_keyiterator",data:=.fields #[.ref d,.int 0 0,.int es.size 0,.int ep 0] } }):wpAny (model prog w) A (pyIter (.ref d)) Q E s:=by
 have ty:=m.ty
 obtain⟨o,g,c,dt⟩:=m
 refine wpAny_pyIter_slot ty F.slot_dict_iter (wpAny_call_entry F.slot_dict_iter ty F.entry_dict_iter (wAa (wAa (wpAny_notOrdered_dict ty ?_))) (F.args_dict_iter_1 _))
 refine(show wpAny _ _ (pure (Value.ref d)) _ _ s from wBa (show wpAny _ _ (Builtin.Dict.showsAll d >>= _) _ _ s from ?_))
 unfold Builtin.Dict.showsAll
 rw[if_neg (by rw[hd]; decide)]
 refine wAa (wBa (wAa (wpAny_dictEntries g dt (wAa (wpAny_dictEpoch g dt (wAa (vTa (wBa ⟨_,rfl, "dict_keyiterator",_,⟨_,wJa _ rfl,rfl⟩,F.slot_dict_keyiterator_next.lookup,?_⟩))))))))
 simpa[rawInt]using q
theorem Ke{e:DictEntry}{Q:Option Value->Shared->Prop}(k:s.heap.IsKeyIter it d i es.size ep)(m:yc s.heap d es ep)(x:es[i]?=some e)
  (q:∀h',h'.IsKeyIter it d (i+1) es.size ep->Heap.SameBut it s.heap h'->Q (some e.key) { s with heap:=h' }):wpAny (model prog w) A (pyNext (.ref it)) Q E s:=by
 have ty:=k.typeIs
 obtain⟨o,g,c,dt⟩:=k
 obtain⟨od,gd,_,dd⟩:=m
 have own:Builtin.Dict_items.ownsTuple "dict_keyiterator" = false:=by decide
 unfold pyNext
 refine wAa (wpAny_attempt (wpAny_callSpecial?_slot (name:=Str.ofString "__next__") ty F.slot_dict_keyiterator_next (wpAny_call_entry F.slot_dict_keyiterator_next ty F.entry_dict_keyiterator_next (wAa (wBa (wAa (wAa ?_)))) (F.args_dict_keyiterator_next_1 _))))
 refine wAa (wpAny_typeNameOfWhole_keyiter ty (wBa (wAa (wpAny_fieldsOf g dt ?_))))
 simp only[own,Bool.false_eq_true,if_false]
 refine(show wpAny _ _ (if (Value.ref d==Value.none)=true then _ else _) _ _ s from ?_)
 rw[if_neg (fun z:(Value.ref d==Value.none)=true=>by cases z)]
 refine wAa (wBa (wAa (wpAny_dictEntries gd dd ?_)))
 rw[if_neg (by simp)]
 refine wAa (wBa (wAa (wpAny_dictEpoch gd dd ?_)))
 rw[if_neg (by simp)]
 refine wBa ?_
 simp only[show¬((i:Int) < 0) by omega,if_false,Int.toNat_natCast,x]
 refine wAa (wAa (wpAny_typeNameOfWhole_keyiter ty (wBa (wAa (wpAny_isOneOf_keyiter ty ?_)))))
 refine(show wpAny _ _ (setField (.ref it) 1 (rawInt ((i:Int)+1)) >>= _) _ _ s from wAa (wpAny_setField g dt (by simp) ?_))
 have k':(s.heap.update it (Obj.mapFields (·.setIfInBounds 1 (rawInt ((i:Int)+1))))).IsKeyIter it d (i+1) es.size ep:=
  ⟨_,vUa _ g (Obj.isFreed_of_fields (Obj.data_mapFields dt _)),(Obj.cls_mapFields ..).trans c,by rw[Obj.data_mapFields dt]; simp[rawInt]⟩
 refine wAa (wDa (wAa (wpAny_isOneOf_keyiter (s:={ s with heap:=s.heap.update it (Obj.mapFields (·.setIfInBounds 1 (rawInt ((i:Int)+1)))) }) k'.typeIs ?_)))
 exact(show wpAny _ _ (pure e.key) _ _ _ from wBa (wBa ⟨_,rfl,wBa (q _ k' (Heap.SameBut.update ..))⟩))
theorem W3{Q:Option Value->Shared->Prop}(hh:A.handled=none)(k:s.heap.IsKeyIter it d i es.size ep)(m:yc s.heap d es ep)(x:es.size<=i)
  (q:∀h',Heap.ExtBut it s.heap h'->Q none { s with heap:=h' }):wpAny (model prog w) A (pyNext (.ref it)) Q E s:=by
 have ty:=k.typeIs
 obtain⟨o,g,c,dt⟩:=k
 obtain⟨od,gd,_,dd⟩:=m
 have own:Builtin.Dict_items.ownsTuple "dict_keyiterator" = false:=by decide
 unfold pyNext
 refine wAa (wpAny_attempt (wpAny_callSpecial?_slot (name:=Str.ofString "__next__") ty F.slot_dict_keyiterator_next (wpAny_call_entry F.slot_dict_keyiterator_next ty F.entry_dict_keyiterator_next (wAa (wBa (wAa (wAa ?_)))) (F.args_dict_keyiterator_next_1 _))))
 refine wAa (wpAny_typeNameOfWhole_keyiter ty (wBa (wAa (wpAny_fieldsOf g dt ?_))))
 simp only[own,Bool.false_eq_true,if_false]
 refine(show wpAny _ _ (if (Value.ref d==Value.none)=true then _ else _) _ _ s from ?_)
 rw[if_neg (fun z:(Value.ref d==Value.none)=true=>by cases z)]
 refine wAa (wBa (wAa (wpAny_dictEntries gd dd ?_)))
 rw[if_neg (by simp)]
 refine wAa (wBa (wAa (wpAny_dictEpoch gd dd ?_)))
 rw[if_neg (by simp)]
 refine wBa ?_
 simp only[show¬((i:Int) < 0) by omega,if_false,Int.toNat_natCast,Array.getElem?_eq_none x]
 refine wAa (wAa (wpAny_typeNameOfWhole_keyiter ty (wBa ?_)))
 refine(show wpAny _ _ (setField (.ref it) 0 .none >>= _) _ _ s from wAa (wpAny_setField g dt (by simp) (show wpAny _ _ (newExc (.type "StopIteration") [] >>= _) _ _ _ from wAa ?_)))
 simp only[newExc,newTuple]
 refine wAa (vTa (wAa (m:=firstArgMember _ _) (wpAny_of_eq (a:=Value.none) (by first | rfl | (simp only[firstArgMember]; rfl)) (vTa ?_ (by size_fits)))) (by size_fits))
 simp only[raiseNew]
 refine wAa (wpAny_handled ?_)
 rw[show A.in1.handled=none from hh]
 refine wAa (wBa (wpAny_throw (wAa ?_)))
 exact wpAny_isInstance (T := "StopIteration") (b:=true) ⟨_,wJa _ rfl,rfl⟩ isSubtype_stop (wBa (q _ (((Heap.SameBut.update ..).extBut.push _).push _)))
theorem Qz{Q:Value->Shared->Prop}(hd:(d==sysModules)=false)(m:yc s.heap d es ep)(q:Q (.ref s.heap.objs.size) { s with heap:=s.heap.push { cls:=.type "dict_items",data:=.fields #[.ref d] } }):
  wpAny (model prog w) A (call (.builtin "dict.items") [.ref d]) Q E s:=by
 have ty:=m.ty
 refine wpAny_call_entry F.slot_dict_items ty F.entry_dict_items (wAa (wAa (wpAny_notOrdered_dict ty ?_))) (F.args_dict_items_1 _)
 refine(show wpAny _ _ (pure d) _ _ s from wBa (show wpAny _ _ (Builtin.Dict.showsAll d >>= _) _ _ s from ?_))
 unfold Builtin.Dict.showsAll
 rw[if_neg (by rw[hd]; decide)]
 exact wAa (wBa (wAa (vTa (wBa ⟨_,rfl,q⟩))))
theorem QA{v:Addr}{Q:Value->Shared->Prop}(hv:s.heap.IsItemsView v d)(m:yc s.heap d es ep)
  (q:Q (.ref s.heap.objs.size) { s with heap:=s.heap.push { cls:=.type "dict_itemiterator",data:=.fields #[.none,.bool false,.ref d,.int 0 0,.int es.size 0,.int ep 0,.none,.none] } }):wpAny (model prog w) A (pyIter (.ref v)) Q E s:=by
 have ty:=hv.typeIs
 obtain⟨ov,gv,cv,dv⟩:=hv
 obtain⟨o,g,c,dt⟩:=m
 have own:Builtin.Dict_items.ownsTuple "dict_itemiterator" = true:=by decide
 refine wpAny_pyIter_slot ty F.slot_dict_items_iter (wpAny_call_entry F.slot_dict_items_iter ty F.entry_dict_items_iter (wAa (wBa (wAa ?_))) (F.args_dict_items_iter_1 _))
 refine wAa (wpAny_field gv dv (x:=.ref d) rfl (wBa (wAa (wAa (wpAny_dictEntries g dt (wAa (wpAny_dictEpoch g dt ?_)))))))
 simp only[own,if_true]
 refine vTa (wBa ⟨_,rfl, "dict_itemiterator",_,⟨_,wJa _ rfl,rfl⟩,F.slot_dict_itemiterator_next.lookup,?_⟩) ?_
 ·simpa[rawInt,Builtin.Dict_items.ownedTupleFields]using q
 ·simp only[sizeOk,Builtin.Dict_items.ownedTupleFields,List.size_toArray,List.length_append,List.length_cons,List.length_nil,sizeLine_eq]
  omega
theorem QB{e:DictEntry}{ok ov:Value}{Q:Option Value->Shared->Prop}(k:IsItemIter s.heap it d i es.size ep ok ov)(m:yc s.heap d es ep)(x:es[i]?=some e)
  (q:∀h',IsItemIterOut h' it d (i+1) es.size ep e.key e.val s.heap.objs.size->h'.get? s.heap.objs.size=some { cls:=.type "tuple",data:=.seq #[e.key,e.val] }->h'.objs.size=s.heap.objs.size+1->
   (∀b o,b≠it->s.heap.get? b=some o->h'.get? b=some o)->Q (some (.ref s.heap.objs.size)) { s with heap:=h' }):wpAny (model prog w) A (pyNext (.ref it)) Q E s:=by
 obtain⟨hp,gg,dr,tk,os⟩:=s
 have ty:Shared.TypeIs ⟨hp,gg,dr,tk,os⟩ (.ref it) "dict_itemiterator" := ⟨_,k,rfl⟩
 obtain⟨od,gd,_,dd⟩:=m
 have own:Builtin.Dict_items.ownsTuple "dict_itemiterator" = true:=by decide
 unfold pyNext
 refine wAa (wpAny_attempt (wpAny_callSpecial?_slot (name:=Str.ofString "__next__") ty F.slot_dict_itemiterator_next (wpAny_call_entry F.slot_dict_itemiterator_next ty F.entry_dict_itemiterator_next (wAa (wBa (wAa (wAa ?_)))) (F.args_dict_itemiterator_next_1 _))))
 refine wAa (wpAny_typeNameOfWhole_itemiter ty (wBa (wAa (wpAny_fieldsOf k rfl ?_))))
 simp only[own,if_true]
 refine(show wpAny _ _ (if (Value.ref d==Value.none)=true then _ else _) _ _ ⟨hp,gg,dr,tk,os⟩ from ?_)
 rw[if_neg (fun z:(Value.ref d==Value.none)=true=>by cases z)]
 refine wAa (wBa (wAa (wpAny_dictEntries gd dd ?_)))
 rw[if_neg (by simp)]
 refine wAa (wBa (wAa (wpAny_dictEpoch gd dd ?_)))
 rw[if_neg (by simp)]
 refine wBa ?_
 simp only[show¬((i:Int) < 0) by omega,if_false,Int.toNat_natCast,x]
 refine wAa (wAa (wpAny_typeNameOfWhole_itemiter ty (wBa (wAa (wpAny_isOneOf_itemiter ty ?_)))))
 refine(show wpAny _ _ (setField (.ref it) 3 (rawInt ((i:Int)+1)) >>= _) _ _ ⟨hp,gg,dr,tk,os⟩ from wAa (wpAny_setField_rec k (by simp) fun h1 e1 s1=>?_))
 replace s1:Heap.SameBut it hp h1:=s1
 have e1:IsItemIter h1 it d (i+1) es.size ep ok ov:=by
  have z:((i+1:Nat):Int)=(i:Int)+1:=by omega
  unfold IsItemIter
  rw[z]
  simpa[rawInt]using e1
 have ty1:Shared.TypeIs ⟨h1,gg,dr,tk,os⟩ (.ref it) "dict_itemiterator" := ⟨_,e1,rfl⟩
 refine wAa (wDa (wAa (wpAny_isOneOf_itemiter ty1 (wAa (wpAny_isOneOf_itemiter ty1 ?_)))))
 refine(show wpAny _ _ (Builtin.Dict_items.pairFromOwner (.ref it) 6 e.key e.val) _ _ ⟨h1,gg,dr,tk,os⟩ from ?_)
 unfold Builtin.Dict_items.pairFromOwner
 refine wAa (wpAny_newTuple ?_)
 have e2:IsItemIter (h1.push { cls:=.type "tuple",data:=.seq #[e.key,e.val] }) it d (i+1) es.size ep ok ov:=wIa _ e1
 generalize hh2:h1.push { cls:=.type "tuple",data:=.seq #[e.key,e.val] }=h2 at e2
 have z1:h1.objs.size=hp.objs.size:=s1.1
 have lt:it < hp.objs.size:=wLa k
 have t2:h2.get? hp.objs.size=some { cls:=.type "tuple",data:=.seq #[e.key,e.val] }:=by rw[<-hh2,<-z1]; exact wJa _ rfl
 have z2:h2.objs.size=hp.objs.size+1:=by rw[<-hh2,Heap.size_push,z1]
 have k2:∀b o,b≠it->hp.get? b=some o->h2.get? b=some o:=fun b o hb e=>by rw[<-hh2]; exact wIa _ (s1.extBut b o hb e)
 refine(show wpAny _ _ (Builtin.Dict_items.ownedTupleIsFree (.ref it) >>= _) _ _ ⟨h2,gg,dr,tk,os⟩ from ?_)
 rw[z1]
 clear hh2 s1 ty1 z1
 refine wAa (wAa (wpAny_field e2 rfl (x:=.none) rfl (wBa ?_)))
 simp only[if_true]
 refine wAa (wpAny_field e2 rfl (x:=ok) rfl (wAa (wpAny_field e2 rfl (x:=ov) rfl (wAa (wpAny_setField_rec e2 (by simp) fun h3 e3 s3=>?_)))))
 replace s3:Heap.SameBut it h2 h3:=s3
 replace e3:IsItemIter h3 it d (i+1) es.size ep e.key ov:=e3
 refine wAa (wpAny_setField_rec e3 (by simp) fun h4 e4 s4=>?_)
 replace s4:Heap.SameBut it h3 h4:=s4
 replace e4:IsItemIter h4 it d (i+1) es.size ep e.key e.val:=e4
 refine wAa (wpAny_setField_rec e4 (by simp) fun h5 e5 s5=>?_)
 replace s5:Heap.SameBut it h4 h5:=s5
 replace e5:IsItemIterOut h5 it d (i+1) es.size ep e.key e.val hp.objs.size:=e5
 refine wAa (wpAny_setField_rec e5 (by simp) fun h6 e6 s6=>?_)
 replace s6:Heap.SameBut it h5 h6:=s6
 replace e6:IsItemIterOut h6 it d (i+1) es.size ep e.key e.val hp.objs.size:=e6
 have kk:∀b o,b≠it->h2.get? b=some o->h6.get? b=some o:=fun b o hb z=>s6.extBut b o hb (s5.extBut b o hb (s4.extBut b o hb (s3.extBut b o hb z)))
 refine wAa (wFa (wBa (wBa ⟨_,rfl,wBa (q h6 e6 (kk _ _ (Nat.ne_of_gt lt) t2) ?_ fun b o hb z=>kk b o hb (k2 b o hb z))⟩)))
 exact(show h6.objs.size=hp.objs.size+1 by rw[s6.1,s5.1,s4.1,s3.1,z2])
theorem Xj{ok ov:Value}{Q:Option Value->Shared->Prop}(hh:A.handled=none)(k:IsItemIter s.heap it d i es.size ep ok ov)(m:yc s.heap d es ep)(x:es.size<=i)
  (q:∀h',Heap.ExtBut it s.heap h'->Q none { s with heap:=h' }):wpAny (model prog w) A (pyNext (.ref it)) Q E s:=by
 have ty:s.TypeIs (.ref it) "dict_itemiterator" := ⟨_,k,rfl⟩
 obtain⟨od,gd,_,dd⟩:=m
 have own:Builtin.Dict_items.ownsTuple "dict_itemiterator" = true:=by decide
 unfold pyNext
 refine wAa (wpAny_attempt (wpAny_callSpecial?_slot (name:=Str.ofString "__next__") ty F.slot_dict_itemiterator_next (wpAny_call_entry F.slot_dict_itemiterator_next ty F.entry_dict_itemiterator_next (wAa (wBa (wAa (wAa ?_)))) (F.args_dict_itemiterator_next_1 _))))
 refine wAa (wpAny_typeNameOfWhole_itemiter ty (wBa (wAa (wpAny_fieldsOf k rfl ?_))))
 simp only[own,if_true]
 refine(show wpAny _ _ (if (Value.ref d==Value.none)=true then _ else _) _ _ s from ?_)
 rw[if_neg (fun z:(Value.ref d==Value.none)=true=>by cases z)]
 refine wAa (wBa (wAa (wpAny_dictEntries gd dd ?_)))
 rw[if_neg (by simp)]
 refine wAa (wBa (wAa (wpAny_dictEpoch gd dd ?_)))
 rw[if_neg (by simp)]
 refine wBa ?_
 simp only[show¬((i:Int) < 0) by omega,if_false,Int.toNat_natCast,Array.getElem?_eq_none x]
 refine wAa (wAa (wpAny_typeNameOfWhole_itemiter ty (wBa ?_)))
 refine(show wpAny _ _ (setField (.ref it) 2 .none >>= _) _ _ s from wAa (wpAny_setField k rfl (by simp) (show wpAny _ _ (newExc (.type "StopIteration") [] >>= _) _ _ _ from wAa ?_)))
 simp only[newExc,newTuple]
 refine wAa (vTa (wAa (m:=firstArgMember _ _) (wpAny_of_eq (a:=Value.none) (by first | rfl | (simp only[firstArgMember]; rfl)) (vTa ?_ (by size_fits)))) (by size_fits))
 simp only[raiseNew]
 refine wAa (wpAny_handled ?_)
 rw[show A.in1.handled=none from hh]
 refine wAa (wBa (wpAny_throw (wAa ?_)))
 exact wpAny_isInstance (T := "StopIteration") (b:=true) ⟨_,wJa _ rfl,rfl⟩ isSubtype_stop (wBa (q _ (((Heap.SameBut.update ..).extBut.push _).push _)))
end
end L2
namespace L2
open PySem PySem.Spec PyProof.Rows
section
variable {prog:Program} {w:World} {A:Around} {E:Value->Shared->Prop} {s:Shared} {d:Addr} {es:Array DictEntry} {ep:Nat}
theorem Xk{Q:Bool->Shared->Prop}(m:yc s.heap d es ep)(q:Q false s):wpAny (model prog w) A (Builtin.List.listLengthHint (.ref d)) Q E s:=by
 have ty:=m.ty
 unfold Builtin.List.listLengthHint
 refine wAa (wpAny_specialOf ty F.slot_dict_len.lookup ?_)
 generalize nm:("dict.__len__" : String)=id0
 wp_delta
 rw[show splitId id0=some ("dict", "__len__") from by subst nm; decide +kernel]
 subst nm
 refine wAa (wpAny_isInstance (T := "dict") (b:=true) ty (by rw[isSubtype_type]; kernel_rfl) (wpAny_ite_split (fun z=>vDa z (by decide)) fun _=>?_))
 exact wpAny_ite_split (fun _=>wAa (wpAny_typeOf ty (wBa q))) fun z=>vDa (by decide +kernel) z
theorem QC(hh:A.handled=none)(I:Addr)(hne:d≠I):
  Walks prog w A I [I,d] [I] es.size (fun i v=>∃e,es[i]?=some e/\v=e.key) (fun i h=>h.IsKeyIter I d i es.size ep/\yc h d es ep) where
 sub:=fun b hb=>by simp at hb; simp[hb]
 frame:=fun _ _ _ st hk=>⟨st.1.at fun o e=>hk I (by simp) o e,st.2.at fun o e=>hk d (by simp) o e⟩
 item:=fun i s Q E hi st hQ=>by
  have x:es[i]?=some es[i]:=by simp[hi]
  exact Ke st.1 st.2 x fun h' k' sb=>hQ _ h' s.toks ⟨_,x,rfl⟩ ⟨k',st.2.at fun o e=>sb.extBut _ o hne e⟩ fun b o hb e=>sb.extBut b o (fun z=>hb (by simp[z])) e
 done:=fun s Q E st hQ=>W3 hh st.1 st.2 (wPa _) fun h' eb=>hQ h' s.toks fun b o hb e=>eb b o (fun z=>hb (by simp[z])) e
 self:=fun _ _ _ _ st hQ=>wpAny_pyIter_keyiter st.1 hQ
theorem Xl{Q:Value->Shared->Prop}(hh:A.handled=none)(hd:(d==sysModules)=false)(m:yc s.heap d es ep)(hz:es.size<=2 ^ 24)
  (q:∀h' tk acc c,(∀b o,s.heap.get? b=some o->h'.get? b=some o)->h'.get? s.heap.objs.size=some { cls:=.type "list",data:=.seq acc c }->acc.toList=es.toList.map (·.key)->Q (.ref s.heap.objs.size) { s with heap:=h',toks:=tk }):
  wpAny (model prog w) A (call (.type "list") [.ref d]) Q E s:=by
 have dlt:d < s.heap.objs.size:=by obtain⟨o,g,_⟩:=m; exact wLa g
 refine callType_codes (Q₁:=fun obj s₁=>obj=.ref s.heap.objs.size/\s₁={ s with heap:=s.heap.push { cls:=.type "list",data:=.seq #[] } }) F.called_list (F.typeCall_list_1 _) F.entry_list_init (code_list_new _ ⟨rfl,rfl⟩) ?_
 rintro obj s₁ ⟨rfl,rfl⟩
 obtain⟨S,hS⟩:∃S,s.heap.objs.size=S:=⟨_,rfl⟩
 rw[hS]at q dlt⊢
 have g0:(s.heap.push { cls:=.type "list",data:=.seq #[] }).get? S=some { cls:=.type "list",data:=.seq #[] }:=by rw[<-hS]; exact wJa _ rfl
 have m0:yc (s.heap.push { cls:=.type "list",data:=.seq #[] }) d es ep:=m.at fun o e=>wIa _ e
 have sz0:(s.heap.push { cls:=.type "list",data:=.seq #[] }).objs.size=S+1:=by rw[Heap.size_push,hS]
 have k0:∀b o,s.heap.get? b=some o->(s.heap.push { cls:=.type "list",data:=.seq #[] }).get? b=some o/\b≠S:=fun b o e=>⟨wIa _ e,wTa (by rw[<-hS]; exact wLa e)⟩
 generalize s.heap.push { cls:=.type "list",data:=.seq #[] }=h0 at g0 m0 sz0 k0
 refine⟨⟨_,g0,rfl⟩,F.args_list_init_2 _ _,?_⟩
 have hSd:S≠d:=Ne.symm (wTa dlt)
 refine(show wpAny _ _ (do let old<-Builtin.List.listItems (.ref S); Builtin.List.listUpdate (.ref S) (fun _=>#[]); letGo old.toList.reverse; Builtin.List.listExtendWith (.ref S) (.ref d) .none) _ _ { s with heap:=h0 } from wAa (wAa (wpAny_seqItems g0 rfl (wBa ?_))))
 refine(show wpAny _ _ (updateSeq S (fun _=>#[]) >>= fun _=>letGo (#[]:Array Value).toList.reverse >>= fun _=>Builtin.List.listExtendWith (.ref S) (.ref d) .none) _ _ { s with heap:=h0 } from wAa (wpAny_updateSeq g0 rfl (wAa (wFa ?_))))
 have oth:∀(h:Heap) (f:Obj->Obj) b o,b≠S->h.get? b=some o->(h.update S f).get? b=some o:=fun h f b o hb e=>(wKa _ _ (Ne.symm hb)).trans e
 have g1:=vUa (Obj.mapSeq (fun _=>(#[]:Array Value))) g0 rfl
 have m1:yc (h0.update S (Obj.mapSeq (fun _=>(#[]:Array Value)))) d es ep:=m0.at fun o e=>oth _ _ _ o (Ne.symm hSd) e
 have sz1:(h0.update S (Obj.mapSeq (fun _=>(#[]:Array Value)))).objs.size=S+1:=by rw[Heap.size_update,sz0]
 have k1:∀b o,s.heap.get? b=some o->(h0.update S (Obj.mapSeq (fun _=>(#[]:Array Value)))).get? b=some o/\b≠S:=fun b o e=>⟨oth _ _ b o (k0 b o e).2 (k0 b o e).1,(k0 b o e).2⟩
 generalize h0.update S (Obj.mapSeq (fun _=>(#[]:Array Value)))=h1 at g1 m1 sz1 k1
 have W:=(QC (prog:=prog) (w:=w) (A:=A.in1.in1) (es:=es) (ep:=ep) hh (S+1) (d:=d) (wTa (Nat.lt_succ_of_lt dlt))).toS
 have fin:∀(h:Heap) (c tk:Nat),h.IsKeyIter (S+1) d 0 es.size ep->yc h d es ep->(∀b o,s.heap.get? b=some o->h.get? b=some o)->h.get? S=some { cls:=.type "list",data:=.seq #[] c }->
   codeAny (model prog w) A.in1 (.builtin "list.extend.loop" ⟨[.ref S,.ref (S+1),.none],[]⟩) (wants (fun r s₂=>r=Value.none/\Q (.ref S) s₂) E) { s with heap:=h,toks:=tk }:=by
  intro h c tk k mm kk gS
  refine codeAny_extend_loopS W (by rw[sizeLine_eq]; omega) S (by simp; omega) .none es.size 0 _ #[] c rfl (Nat.zero_le _) ⟨k,mm⟩ gS (ItemsOf.nil _) fun s' acc' c' hm hS' hacc=>?_
  rw[Moved.eq_with hm]
  refine⟨rfl,q s'.heap s'.toks acc' c' (fun b o e=>hm.heap b o (fun z=>?_) (kk b o e)) hS' ?_⟩
  ·have lt:b < S:=by rw[<-hS]; exact wLa e
   simp at z
   rcases z with z | z
   ·exact wTa lt z
   ·exact wTa (Nat.lt_succ_of_lt lt) z
  ·refine List.ext_getElem? fun j=>?_
   rw[List.getElem?_map]
   by_cases hj:j < acc'.size
   ·obtain⟨e,e1,e2⟩:=hacc.2 j acc'[j] (by simp[hj])
    simp[hj,e1,e2]
   ·have:=hacc.1
    simp[hj,show¬j < es.size by omega]
 unfold Builtin.List.listExtendWith
 refine wAa (wpAny_typeOf (s:={ s with heap:=h1 }) (T := "dict") m1.ty ?_)
 have b1:Builtin.List.listSameRef (.ref S) (.ref d)=false:=by simp[Builtin.List.listSameRef,hSd]
 have b2:(Value.type "dict" == Value.type "list")=false:=by decide
 have b3:(Value.type "dict" == Value.type "tuple")=false:=by decide
 simp only[b1,b2,b3,Bool.or_false,Bool.false_eq_true,if_false]
 refine wAa (Kc hd m1 ?_)
 have m2:yc (h1.push { cls:=.type "dict_keyiterator",data:=.fields #[.ref d,.int 0 0,.int es.size 0,.int ep 0] }) d es ep:=m1.at fun o e=>wIa _ e
 have i2:(h1.push { cls:=.type "dict_keyiterator",data:=.fields #[.ref d,.int 0 0,.int es.size 0,.int ep 0] }).IsKeyIter (S+1) d 0 es.size ep:=by rw[<-sz1]; exact⟨_,wJa _ rfl,rfl,rfl⟩
 have g2:=wIa { cls:=.type "dict_keyiterator",data:=.fields #[.ref d,.int 0 0,.int es.size 0,.int ep 0] } g1
 have k2:∀b o,s.heap.get? b=some o->(h1.push { cls:=.type "dict_keyiterator",data:=.fields #[.ref d,.int 0 0,.int es.size 0,.int ep 0] }).get? b=some o/\b≠S:=fun b o e=>⟨wIa _ (k1 b o e).1,(k1 b o e).2⟩
 show wpAny _ _ _ _ _ { s with heap:=h1.push { cls:=.type "dict_keyiterator",data:=.fields #[.ref d,.int 0 0,.int es.size 0,.int ep 0] } }
 rw[show Value.ref h1.objs.size=Value.ref (S+1) from congrArg _ sz1]
 generalize h1.push { cls:=.type "dict_keyiterator",data:=.fields #[.ref d,.int 0 0,.int es.size 0,.int ep 0] }=h2 at m2 i2 g2 k2
 refine wAa (wDa (Xk (s:={ s with heap:=h2 }) m2 ?_))
 refine wpAny_ite_split (fun _=>?_) (fun _=>wBa ⟨vRa F.plain_extend_loop _,fin _ _ _ i2 m2 (fun b o e=>(k2 b o e).1) g2⟩)
 refine wAa (wpAny_rule (wAa (show wpAny _ _ (updateSeq S (·.push .none) >>= fun _=>updateSeq S (·.pop)) _ _ _ from wAa (wpAny_updateSeq g2 rfl ?_))))
 have g3:=vUa (Obj.mapSeq (·.push Value.none)) g2 rfl
 refine wpAny_updateSeq (hz:=by seq_fits) g3 rfl ?_
 have g4:=vUa (Obj.mapSeq (·.pop)) g3 rfl
 have up:∀b o,b≠S->h2.get? b=some o->((h2.update S (Obj.mapSeq (·.push Value.none))).update S (Obj.mapSeq (·.pop))).get? b=some o:=fun b o hb e=>oth _ _ b o hb (oth _ _ b o hb e)
 exact wBa ⟨vRa F.plain_extend_loop _,fin _ _ _ (i2.at fun o e=>up _ o (by omega) e) (m2.at fun o e=>up _ o (Ne.symm hSd) e) (fun b o e=>up b o (k2 b o e).2 (k2 b o e).1) g4⟩
end
end L2
namespace DS
open PySem PySem.Spec PyProof.Rows L2
noncomputable def Vx(kvs:List (KD×Addr×V))(k:KD):Option V:=(kvs.find? fun p=>decide (p.1=k)).map (·.2.2)
def Zk(kvs:List (KD×Addr×V))(k:KD)(b:Addr)(v:V):List (KD×Addr×V):=if (Vx kvs k).isSome then kvs.map (fun p=>if p.1=k then(p.1,p.2.1,v)else p)else kvs++[(k,b,v)]
abbrev Y4:List (KD×Addr×V)->List (KD×Addr×Value)->Prop:=Paired fun(p:KD×Addr×V) (q:KD×Addr×Value)=>p.1=q.1/\p.2.1=q.2.1/\jm p.2.2 q.2.2
theorem Y4.at{k:KD}:∀{kvs:List (KD×Addr×V)} {xs:List (KD×Addr×Value)},Y4 kvs xs->(∃v p,Vx kvs k=some v/\atKey xs k=some p/\jm v p.2)∨(Vx kvs k=none/\atKey xs k=none)
 | _,_,.nil=>.inr ⟨rfl,rfl⟩
 | _,_,@Paired.cons _ _ _ p q ps qs ⟨e1,e2,r⟩ t=>by
  unfold Vx atKey
  rw[List.find?_cons,List.find?_cons,e1]
  by_cases h:q.1=k
  ·rw[decide_eq_true h]
   exact .inl ⟨_,_,rfl,rfl,r⟩
  ·rw[decide_eq_false h]
   exact Y4.at t
theorem Y4.put{k:KD}{b:Addr}{v:V}{u:Value}(rv:jm v u){kvs:List (KD×Addr×V)}{xs:List (KD×Addr×Value)}(h:Y4 kvs xs):Y4 (Zk kvs k b v) (storedH xs k b u):=by
 have mp:∀{kvs:List (KD×Addr×V)} {xs:List (KD×Addr×Value)},Y4 kvs xs->Y4 (kvs.map (fun p=>if p.1=k then(p.1,p.2.1,v)else p)) (xs.map (putAt k u)):=by
  intro kvs xs h
  induction h with
  | nil=>exact .nil
  | @cons p q ps qs r t ih=>
   obtain⟨e1,e2,r⟩:=r
   rw[List.map_cons,List.map_cons]
   refine .cons ?_ ih
   unfold putAt
   rw[e1]
   split
   ·exact⟨rfl,e2,rv⟩
   ·exact⟨e1,e2,r⟩
 have ap:∀{kvs:List (KD×Addr×V)} {xs:List (KD×Addr×Value)},Y4 kvs xs->Y4 (kvs++[(k,b,v)]) (xs++[(k,b,u)]):=by
  intro kvs xs h
  induction h with
  | nil=>exact .cons ⟨rfl,rfl,rv⟩ .nil
  | cons r t ih=>exact .cons r ih
 unfold Zk storedH
 rcases h.at (k:=k)with⟨w,p,e1,e2,_⟩ | ⟨e1,e2⟩
 ·rw[e1,e2]
  exact mp h
 ·rw[e1,e2]
  exact ap h
theorem Xm(kvs:List (KD×Addr×V))(k:KD)(b:Addr)(v:V):(Zk kvs k b v).length<=kvs.length+1:=by
 unfold Zk
 split <;> simp
section
variable {X:Cx} {pins:List (Addr×Obj)} {σ:L2.St} {H:Hp} {s:Shared}
mutual
theorem W4(I:Inv X pins σ H s):∀{d:D} {k:KD} {v:V} {u:Value},j6 X.K H d v->jm v u->yI d=some k->jE s.heap k u
 | .int i,k,v,u,h,r,e=>by
  rw[yI]at e; cases e
  rw[j6]at h; subst h
  rw[jE]; exact .inl r
 | .bl i,k,v,u,h,r,e=>by
  rw[yI]at e; cases e
  rw[j6]at h; subst h
  rw[jE]; exact .inr ⟨i,r,rfl⟩
 | .str i,k,v,u,h,r,e=>by
  rw[yI]at e; cases e
  rw[j6]at h; subst h
  rw[jE]; exact r
 | .tup l,k,v,u,h,r,e=>by
  rw[yI]at e
  obtain⟨ks,e1,e2⟩:=j0 e
  cases e2
  rw[j6]at h
  obtain⟨a,xs,rfl,q,rs⟩:=h
  cases r
  obtain⟨its,vs,t,_⟩:=I.tuple q
  rw[jE]
  exact⟨a,its.toArray,rfl,t,by simpa using Kf I rs vs e1⟩
 | .non,k,v,u,h,r,e=>by rw[yI]at e <;> first | cases e | (intros; contradiction)
 | .lst _,k,v,u,h,r,e=>by rw[yI]at e <;> first | cases e | (intros; contradiction)
 | .ins _ _ _,k,v,u,h,r,e=>by rw[yI]at e <;> first | cases e | (intros; contradiction)
 | .scr _,k,v,u,h,r,e=>by rw[yI]at e <;> first | cases e | (intros; contradiction)
 | .dct _ _,k,v,u,h,r,e=>by rw[yI]at e <;> first | cases e | (intros; contradiction)
theorem Kf(I:Inv X pins σ H s):∀{l:List D} {ks:List KD} {xs:List V} {us:List Value},j1 X.K H l xs->je xs us->Yi l=some ks->jQ s.heap ks us
 | [],ks,xs,us,h,r,e=>by
  rw[Yi]at e; cases e
  rw[j1]at h; subst h
  cases r
  rw[jQ]
 | d::l,ks,xs,us,h,r,e=>by
  rw[Yi]at e
  obtain⟨k,e1,e⟩:=j0 e
  obtain⟨ks',e2,e⟩:=j0 e
  cases e
  rw[j1]at h
  obtain⟨v,vs,rfl,h1,h2⟩:=h
  cases r with
  | cons r1 r2=>
   rw[jQ]
   exact⟨_,_,rfl,W4 I h1 r1 e1,Kf I h2 r2 e2⟩
end
theorem GK{d:D}{k:KD}(e:JO d=some k):yI d=some k/\k.dep<=8:=by
 unfold JO at e
 split at e
 ·obtain⟨k',e1,e2⟩:=j0 e
  split at e2
  ·cases e2; exact⟨e1,by assumption⟩
  ·cases e2
 ·cases e
theorem ua(I:Inv X pins σ H s){d:D}{k:KD}{b:Addr}(r:j6 X.K H d (.ref b))(e:JO d=some k):(JM X.prog X.w).is s.heap k b:=⟨W4 I r rfl (GK e).1,(GK e).2⟩
theorem b_(I:Inv X pins σ H s){kvs:List (KD×Addr×V)}{xs:List (KD×Addr×Value)}(pr:Y4 kvs xs):∀{ks:List D},jS ks=some (kvs.map (·.1))->j1 X.K H ks (kvs.map fun p=>V.ref p.2.1)->∀x∈xs,(JM X.prog X.w).is s.heap x.1 x.2.1:=by
 induction pr with
 | nil=>intro ks _ _ x h; cases h
 | @cons p q ps qs rr t ih=>
  obtain⟨e1,e2,_⟩:=rr
  intro ks e r x hx
  cases ks with
  | nil=>rw[jS]at e; cases e
  | cons d ks=>
  rw[jS]at e
  obtain⟨k,e3,e⟩:=j0 e
  obtain⟨ks',e4,e⟩:=j0 e
  rw[List.map_cons]at e
  cases e
  rw[List.map_cons,j1]at r
  obtain⟨_,_,ee,r1,r2⟩:=r
  cases ee
  rcases List.mem_cons.mp hx with rfl | hx
  ·rw[<-e1,<-e2]; exact ua I r1 e3
  ·exact ih e4 r2 x hx
structure DAt (K:Fr) (H:Hp) (a:Addr) (ks:List D) (kvs:List (KD×Addr×V)) (ep:Nat):Prop where
 at':H a=some (.dD kvs ep)
 k:jS ks=some (kvs.map (·.1))
 r:j1 K H ks (kvs.map fun p=>V.ref p.2.1)
theorem DAt.of(I:Inv X pins σ H s){a:Addr}{kvs:List (KD×Addr×V)}{ep:Nat}(h:H a=some (.dD kvs ep)):kvs.length<=sizeLine/\(a==sysModules)=false/\(kvs.map (·.1)).Nodup/\∃xs es,Y4 kvs xs/\yc s.heap a es ep/\es.toList=xs.map (entryOfKey (JM X.prog X.w)):=by
 obtain⟨z,y,nd,xs,r,o,es,e1,e2,e3,e4⟩:=I.hok a _ h
 exact⟨z,y,nd,xs,es,r,⟨o,e1,e2,e3⟩,e4⟩
theorem Y4.fst{kvs:List (KD×Addr×V)}{xs:List (KD×Addr×Value)}(h:Y4 kvs xs):xs.map (·.1)=kvs.map (·.1):=by
 induction h with
 | nil=>rfl
 | cons r _ ih=>rw[List.map_cons,List.map_cons,ih,r.1]
theorem DAt.dict(I:Inv X pins σ H s){a:Addr}{ks:List D}{kvs:List (KD×Addr×V)}{ep:Nat}(h:DAt X.K H a ks kvs ep):kvs.length<=sizeLine/\(a==sysModules)=false/\∃xs,Y4 kvs xs/\s.heap.DictOfH (JM X.prog X.w) a xs:=by
 obtain⟨z,y,nd,xs,es,r,⟨o,e1,e2,e3⟩,e4⟩:=DAt.of I h.at'
 exact⟨z,y,xs,r,o,es,ep,e1,e2,e3,e4,b_ I r h.k h.r,by rw[r.fst]; exact nd⟩
theorem uI{k:Nat}{A:Around}(hr:Room k A):A.in1.units+8 < cLine:=by
 rw[Around.in1_units]
 have:=hr.un
 omega
def Ah(K:Fr):R2:=fun x y H Q=>∃a kvs ep b ks k dk v,x=.ref a/\y=.ref b/\DAt K H a ks kvs ep/\j6 K H dk (.ref b)/\JO dk=some k/\Vx kvs k=some v/\Q v H
theorem dF{n:Nat}(hr:Room n X.A):VU X (Ah X.K):=by
 intro value slice pins s σ H x y v u Q I rx ry h hs
 obtain⟨a,kvs,ep,b,ks,k,dk,z,rfl,rfl,da,rb,ek,ev,q⟩:=h
 cases rx
 cases ry
 obtain⟨zl,hd,xs,pr,dd⟩:=da.dict I
 rcases pr.at (k:=k)with⟨w,p,e1,e2,rw'⟩ | ⟨e1,e2⟩
 ·rw[ev]at e1
  cases e1
  exact tail_any dd.typeIs slot_dict_getitem.lookup (wpAny_getItem_heap (knd:=JM X.prog X.w) (uI hr) (ua I rb ek) dd e2 ⟨z,H,I.tok _,rw',q⟩) hs
 ·rw[ev]at e1
  cases e1
def Ai(K:Fr):V->V->V->Hp->(Hp->Prop)->Prop:=fun o i v H Q=>∃a kvs ep b ks k dk,o=.ref a/\i=.ref b/\DAt K H a ks kvs ep/\j6 K H dk (.ref b)/\JO dk=some k/\kvs.length < sizeLine/\∀ep',Q (upd H a (.dD (Zk kvs k b v) ep'))
theorem B0{n:Nat}(hr:Room n X.A):xH X (Ai X.K):=by
 intro pins s σ H o i v ov iv u Q I ro ri rv h
 obtain⟨a,kvs,ep,b,ks,k,dk,rfl,rfl,da,rb,ek,hl,q⟩:=h
 cases ro
 cases ri
 obtain⟨zl,hd,xs,pr,dd⟩:=da.dict I
 have hz:xs.length<=sizeLine:=by rw[<-Paired.length pr]; exact zl
 refine wpAny_setItem_heap (hsz:=hz) (knd:=JM X.prog X.w) (uI hr) (ua I rb ek) dd fun h' dd' hs=>?_
 obtain⟨o,es,ep',e1,e2,e3,e4,_,e5⟩:=dd'
 have pr':=pr.put (k:=k) (b:=b) rv
 have new:JJ X.prog X.w (upd H a (.dD (Zk kvs k b v) ep')) h' a (.dD (Zk kvs k b v) ep'):=⟨by have:=Xm kvs k b v; omega,hd,by rw[<-pr'.fst]; exact e5,_,pr',o,es,e1,e2,e3,e4⟩
 exact⟨_,I.write (x:=a) (e:=a) (t':=s.toks+(JM X.prog X.w).draws k) (by rw[da.at']; trivial) (.inl rfl) (fun c z hc e=>(hs.2 c hc).trans e) ⟨_,e1⟩ new,q ep'⟩
def Xn(K:Fr)(neg:Bool):R2:=fun x y H Q=>∃a kvs ep b ks k dk,x=.ref b/\y=.ref a/\DAt K H a ks kvs ep/\j6 K H dk (.ref b)/\JO dk=some k/\Q (.bl (xor neg (Vx kvs k).isSome)) H
theorem QD{n:Nat}(hr:Room n X.A):jI X (compareOp .In) (Xn X.K false):=by
 intro pins s σ H x y v u Q I rx ry h
 obtain⟨a,kvs,ep,b,ks,k,dk,rfl,rfl,da,rb,ek,q⟩:=h
 cases rx
 cases ry
 obtain⟨zl,hd,xs,pr,dd⟩:=da.dict I
 refine wpAny_in_heap (knd:=JM X.prog X.w) (uI hr) (ua I rb ek) hd dd ⟨_,H,I.tok _,?_,q⟩
 rcases pr.at (k:=k)with⟨w,p,e1,e2,_⟩ | ⟨e1,e2⟩ <;> (rw[e1,e2]; rfl)
theorem Kg{n:Nat}(hr:Room n X.A):jI X (compareOp .NotIn) (Xn X.K true):=by
 intro pins s σ H x y v u Q I rx ry h
 obtain⟨a,kvs,ep,b,ks,k,dk,rfl,rfl,da,rb,ek,q⟩:=h
 cases rx
 cases ry
 obtain⟨zl,hd,xs,pr,dd⟩:=da.dict I
 refine wpAny_notIn_heap (knd:=JM X.prog X.w) (uI hr) (ua I rb ek) hd dd ⟨_,H,I.tok _,?_,q⟩
 rcases pr.at (k:=k)with⟨w,p,e1,e2,_⟩ | ⟨e1,e2⟩ <;> (rw[e1,e2]; rfl)
def fP:TE:=fun _ H Q=>∀p,H p=none->Q (.ref p) (upd H p (.dD [] 0))
theorem Inv.big(I:Inv X pins σ H s):sysModules < s.heap.objs.size:=Nat.lt_trans (by decide) (show mainGlobals < s.heap.objs.size from(I.mod.glob.keeps I.bk).lt)
theorem B4{pos:Pos}:PE X (.Dict [] [] pos) fP:=fun pins s σ H Q I h=>
 wpAny_Dict_empty ⟨.ref s.heap.objs.size,_,I.laid (a:=s.heap.objs.size) (o:=.dD [] 0) (t':=s.toks) (fun _ _ q=>wIa _ q) (wPa _)
  ⟨Nat.zero_le _,beq_eq_false_iff_ne.mpr (Ne.symm (wTa (Inv.big I))),List.nodup_nil,[],.nil,_,#[],wJa _ rfl,⟨rfl,rfl,rfl⟩,rfl,rfl⟩,rfl,h _ (I.hok.fresh (wPa _))⟩
theorem Y4.keys{kvs:List (KD×Addr×V)}{xs:List (KD×Addr×Value)}{P:Program}{w:World}(h:Y4 kvs xs):je (kvs.map fun p=>V.ref p.2.1) ((xs.map (entryOfKey (JM P w))).map (·.key)):=by
 induction h with
 | nil=>exact .nil
 | cons r _ ih=>exact .cons (by show Value.ref _=_; rw[r.2.1]) ih
theorem qk(hc:X.calm=true):yj X (.type "list") (fun xs H Q=>∃a kvs ep,xs=[.ref a]/\H a=some (.dD kvs ep)/\∀l,H l=none->Q (.ref l) (upd H l (.lst (kvs.map fun p=>V.ref p.2.1)))):=by
 intro pins s σ H xs us Q I r h
 obtain⟨a,kvs,ep,rfl,e,q⟩:=h
 cases r with
 | cons r1 r2=>
 cases r2
 cases r1
 obtain⟨z,hd,nd,ys,es,pr,rd,ee⟩:=DAt.of I e
 have hl:es.size=kvs.length:=by rw[<-Array.length_toList,ee,List.length_map,Paired.length pr]
 refine Xl (I.ok.hd hc) hd rd (by rw[hl]; exact z) fun h' tk acc c k g ea=>?_
 refine⟨.ref s.heap.objs.size,_,I.laid (a:=s.heap.objs.size) (o:=.lst (kvs.map fun p=>V.ref p.2.1)) (t':=tk) k (wPa _) ⟨by simpa using z,acc.toList,c,?_,by simpa using g⟩,rfl,q _ (I.hok.fresh (wPa _))⟩
 rw[ea,ee]
 exact pr.keys
end
end DS
namespace DS
open PySem PySem.Spec PyProof.Rows L2
theorem QE:entryFor table "dict_itemiterator.__iter__" = some Builtin.«dict_keyiterator.__iter__»:=entryFor_alias (id' := "dict_keyiterator.__iter__") (by kernel_rfl) rfl (by decide +kernel) (by kernel_rfl)
theorem Y4.len{kvs:List (KD×Addr×V)}{xs:List (KD×Addr×Value)}{es:Array DictEntry}{P:Program}{w:World}(h:Y4 kvs xs)(e:es.toList=xs.map (entryOfKey (JM P w))):es.size=kvs.length:=by rw[<-Array.length_toList,e,List.length_map,Paired.length h]
theorem Y4.entry{P:Program}{w:World}{es:Array DictEntry}{kvs:List (KD×Addr×V)}{xs:List (KD×Addr×Value)}{i:Nat}{p:KD×Addr×V}(h:Y4 kvs xs)(e:es.toList=xs.map (entryOfKey (JM P w)))(hp:kvs[i]?=some p):∃y,es[i]?=some y/\y.key=.ref p.2.1/\jm p.2.2 y.val:=by
 have go:∀{kvs:List (KD×Addr×V)} {xs:List (KD×Addr×Value)} {i:Nat},Y4 kvs xs->kvs[i]?=some p->∃q,xs[i]?=some q/\p.2.1=q.2.1/\jm p.2.2 q.2.2:=by
  intro kvs xs i h
  induction h generalizing i with
  | nil=>intro z; simp at z
  | @cons a b as bs r t ih=>
   intro z
   cases i with
   | zero=>cases z; exact⟨b,rfl,r.2.1,r.2.2⟩
   | succ i=>exact ih (i:=i) z
 obtain⟨q,e1,e2,e3⟩:=go h hp
 refine⟨entryOfKey (JM P w) q,?_,by show Value.ref _=_; rw[e2],e3⟩
 rw[<-Array.getElem?_toList,e,List.getElem?_map,e1]
 rfl
def FE(a:Addr)(kvs:List (KD×Addr×V))(ep:Nat):It:=
 ⟨fun i H=>H a=some (.dD kvs ep)/\i < kvs.length,fun i H x H'=>H'=H/\∀p,kvs[i]?=some p->x=.ref p.2.1,fun i H=>H a=some (.dD kvs ep)/\kvs.length<=i⟩
theorem QF{P:Program}{w:World}{K:PySem.W.Frag}{tg:Expr}{kvs:List (KD×Addr×V)}{ep:Nat}(a it:Addr):Turn P w K tg (FE a kvs ep) [it] it (fun i h=>h.IsKeyIter it a i kvs.length ep) where
 mem:=by simp
 obj:=fun i h st b hb=>by
  have e:b=it:=by simpa using hb
  subst e
  obtain⟨o,e,c,d⟩:=st
  exact⟨o,e,fun v z=>by rw[d]at z; cases z⟩
 keep:=fun i h h' st k=>st.at fun o e=>k it (by simp) o e
 item:=by
  intro X hP hw hK hc i pins s σ H E I hf st hg
  subst hP hw hK
  obtain⟨ea,hi⟩:=hg
  obtain⟨z,hd,nd,ys,es,pr,rd,ee⟩:=DAt.of I ea
  obtain⟨y,ey,ek,_⟩:=pr.entry ee (i:=i) (p:=kvs[i]) (by simp[hi])
  have hl:=pr.len ee
  obtain⟨f0,f1,f2,f3,f4,f5⟩:=hf it (by simp)
  rw[<-hl]at st⊢
  refine Ke st rd ey fun h' st' sb=>?_
  have I1:Inv X pins σ H { s with heap:=h' }:=I.turned (t':=s.toks) (fun b o hb e=>(sb.2 b hb).trans e) f0 f1 f3 f4 f5
  obtain⟨o,e,c,d⟩:=id st'
  exact⟨_,rfl,UN (s:={ s with heap:=h' }) e c d (by decide) ⟨.ref kvs[i].2.1,H,I1,ek,⟨rfl,fun p hp=>by simp[hi]at hp; rw[hp]⟩,st',fun b hb=>(hf b hb).1⟩⟩
 done:=by
  intro X hP hw hK hc i pins s σ H E I hf st hg
  subst hP hw hK
  obtain⟨ea,hi⟩:=hg
  obtain⟨z,hd,nd,ys,es,pr,rd,ee⟩:=DAt.of I ea
  have hl:=pr.len ee
  obtain⟨f0,f1,f2,f3,f4,f5⟩:=hf it (by simp)
  rw[<-hl]at st
  exact W3 (I.ok.hd hc) st rd (by rw[hl]; exact hi) fun h' eb=>⟨rfl,I.turned (t':=s.toks) (fun b o hb e=>eb b o hb e) f0 f1 f3 f4 f5⟩
 self:=fun _ _ _ _ _ st h=>wpAny_pyIter_keyiter st h
def FF(a:Addr)(kvs:List (KD×Addr×V))(ep:Nat):It:=
 ⟨fun i H=>H a=some (.dD kvs ep)/\i < kvs.length,fun i H x H'=>∃p,H p=none/\x=.ref p/\∀e,kvs[i]?=some e->H'=upd H p (.tup [.ref e.2.1,e.2.2]),fun i H=>H a=some (.dD kvs ep)/\kvs.length<=i⟩
theorem qo{P:Program}{w:World}{K:PySem.W.Frag}{es:List Expr}{x1:Nat}{tp:Pos}{kvs:List (KD×Addr×V)}{ep:Nat}(a it:Addr):Turn P w K (.Tuple es x1 tp) (FF a kvs ep) [it] it (fun i h=>∃ok ov,IsItemIter h it a i kvs.length ep ok ov) where
 mem:=by simp
 obj:=fun i h st b hb=>by
  have e:b=it:=by simpa using hb
  subst e
  obtain⟨_,_,st⟩:=st
  exact⟨_,st,fun v z=>by cases z⟩
 keep:=fun i h h' st k=>let ⟨ok,ov,st⟩:=st; ⟨ok,ov,k it (by simp) _ st⟩
 item:=by
  intro X hP hw hK hc i pins s σ H E I hf st hg
  subst hP hw hK
  obtain⟨ok,ov,st⟩:=st
  obtain⟨ea,hi⟩:=hg
  obtain⟨z,hd,nd,ys,es,pr,rd,ee⟩:=DAt.of I ea
  obtain⟨y,ey,ek,er⟩:=pr.entry ee (i:=i) (p:=kvs[i]) (by simp[hi])
  have hl:=pr.len ee
  rw[<-hl]at st⊢
  have lt:it < s.heap.objs.size:=wLa st
  refine QB st rd ey fun h' b1 b3 bz bk=>⟨_,rfl,wpAny_letOwnedTupleGo_items b1 fun h2 c1 c2=>?_⟩
  have kp:∀c o,c∉[it]->s.heap.get? c=some o->h2.get? c=some o:=fun c o hc z=>by
   have hc:c≠it:=by simpa using hc
   exact c2.extBut c o hc (bk c o hc z)
  have ht:IsTup h2 s.heap.objs.size ([y.key,y.val]:List Value).toArray:=⟨_,c2.extBut _ _ (Nat.ne_of_gt lt) b3,rfl,_,rfl⟩
  have I2:=I.tupled (t':=s.toks) (h':=h2) rfl hf kp (vs:=[.ref kvs[i].2.1,kvs[i].2.2]) (us:=[y.key,y.val]) (.cons ek (.cons er .nil)) zy ht
  refine⟨.ref s.heap.objs.size,_,I2,rfl,⟨s.heap.objs.size,I.hok.fresh (wPa _),rfl,fun e he=>?_⟩,⟨_,_,c1⟩,fun c hc=>?_⟩
  ·simp[hi]at he
   rw[he]
  ·rw[jl,(hf c hc).1]
   have:c=it:=by simpa using hc
   rw[this]
   exact wTa lt
 done:=by
  intro X hP hw hK hc i pins s σ H E I hf st hg
  subst hP hw hK
  obtain⟨ok,ov,st⟩:=st
  obtain⟨ea,hi⟩:=hg
  obtain⟨z,hd,nd,ys,es,pr,rd,ee⟩:=DAt.of I ea
  have hl:=pr.len ee
  obtain⟨f0,f1,f2,f3,f4,f5⟩:=hf it (by simp)
  rw[<-hl]at st
  exact Xj (I.ok.hd hc) st rd (by rw[hl]; exact hi) fun h' eb=>⟨rfl,I.turned (t':=s.toks) (fun b o hb e=>eb b o hb e) f0 f1 f3 f4 f5⟩
 self:=fun A i s Q E st h=>by
  obtain⟨ok,ov,st⟩:=st
  have ty:s.TypeIs (.ref it) "dict_itemiterator" := ⟨_,st,rfl⟩
  refine wpAny_pyIter_slot ty F.slot_dict_itemiterator_iter (wpAny_call_entry F.slot_dict_itemiterator_iter ty QE ?_ (F.args_dict_itemiterator_iter_1 _))
  exact(show wpAny _ _ (ret (.ref it)) _ _ s from wBa ⟨_,rfl, "dict_itemiterator",_,ty,F.slot_dict_itemiterator_next.lookup,h⟩)
def FG(K:PySem.W.Frag)(a:Addr)(n:Nat):It:=
 ⟨fun i H=>∃xs,jt K H a xs/\xs.length=n/\i < n,fun i H x H'=>H'=H/\∀xs,jt K H a xs->xs[n - 1 - i]?=some x,fun i H=>n<=i⟩
theorem Xo{P:Program}{w:World}{K:PySem.W.Frag}{tg:Expr}{n:Nat}(a it:Addr):Turn P w K tg (FG K a n) [it] it (fun i h=>h.IsRevIter it a ((n:Int) - 1 - i)/\i<=n) where
 mem:=by simp
 obj:=fun i h st b hb=>by
  have e:b=it:=by simpa using hb
  subst e
  obtain⟨⟨o,e,c,d⟩,_⟩:=st
  exact⟨o,e,fun v z=>by rw[d]at z; cases z⟩
 keep:=fun i h h' st k=>⟨st.1.at fun o e=>k it (by simp) o e,st.2⟩
 item:=by
  intro X hP hw hK hc i pins s σ H E I hf st hg
  subst hP hw hK
  obtain⟨xs,hq,hn,hi⟩:=hg
  obtain⟨its,rv,p,hz⟩:=I.list hq
  have hx:xs[n - 1 - i]?=some (xs[n - 1 - i]'(by omega)):=by simp
  obtain⟨u,hu,ru⟩:=rv.get hx
  obtain⟨f0,f1,f2,f3,f4,f5⟩:=hf it (by simp)
  have e0:(n:Int) - 1 - i=((n - 1 - i:Nat):Int):=by omega
  have U5:=st.1
  rw[e0]at U5
  refine wpAny_pyNext_rev_item U5 p.isList (x:=u) (by simpa using hu) fun h' st' sb=>?_
  have I1:Inv X pins σ H { s with heap:=h' }:=I.turned (t':=s.toks) (fun b o hb e=>(sb.2 b hb).trans e) f0 f1 f3 f4 f5
  obtain⟨o,e,c,d⟩:=id st'
  refine⟨u,rfl,UN (s:={ s with heap:=h' }) e c d (by decide) ⟨_,H,I1,ru,⟨rfl,fun ys hy=>by rw[I.list_inj hy hq]; exact hx⟩,⟨?_,hi⟩,fun b hb=>(hf b hb).1⟩⟩
  have e1:(n:Int) - 1 - ((i+1:Nat):Int)=((n - 1 - i:Nat):Int) - 1:=by omega
  rw[e1]
  exact st'
 done:=by
  intro X hP hw hK hc i pins s σ H E I hf st hg
  subst hP hw hK
  obtain⟨f0,f1,f2,f3,f4,f5⟩:=hf it (by simp)
  have hg:n<=i:=hg
  have e0:(n:Int) - 1 - i=-1:=by have:=st.2; omega
  have U5:=st.1
  rw[e0]at U5
  exact wpAny_pyNext_rev_end (I.ok.hd hc) U5 fun h' eb=>⟨rfl,I.turned (t':=s.toks) (fun b o hb e=>eb b o hb e) f0 f1 f3 f4 f5⟩
 self:=fun _ _ _ _ _ st h=>wpAny_pyIter_revIter st.1 h
section
variable {X:Cx} {K:Fr} {e a b c d tg:Expr} {de da db dc dd dk:DE} {pos:Pos}
def fQ(tl:TE):TI:=fun σ H R=>tl σ H fun x H1=>∃a kvs ep,x=.ref a/\H1 a=some (.dD kvs ep)/\R (FE a kvs ep) H1
theorem B5{l:Expr}{tl:TE}(hl:PE X l tl):PI X tg l (fQ tl):=by
 intro pins s σ H R I h
 refine jk (hl pins s σ H _ I h) fun v s1 ⟨x,H1,I1,r1,q1⟩=>?_
 obtain⟨a,kvs,ep,rfl,ea,q⟩:=q1
 cases r1
 obtain⟨z,hd,nd,ys,es,pr,rd,ee⟩:=DAt.of I1 ea
 have hl:=pr.len ee
 refine Kc hd rd ⟨s1.heap.objs.size,[s1.heap.objs.size],_,_,H1,rfl,I1.kept (t':=s1.toks) fun b o e=>wIa _ e,QF (kvs:=kvs) (ep:=ep) a _,?_,fun b hb=>?_,q⟩
 ·rw[<-hl]; exact⟨_,wJa _ rfl,rfl,rfl⟩
 ·have e:b=s1.heap.objs.size:=by simpa using hb
  subst e
  exact I1.fpOk (wPa _) (I1.hok.fresh (wPa _))
def dG(tl:TE):TI:=fun σ H R=>tl σ H fun x H1=>∃a kvs ep,x=.ref a/\H1 a=some (.dD kvs ep)/\R (FF a kvs ep) H1
theorem Xp{l:Expr}{tl:TE}{es:List Expr}{x1:Nat}{tp ap cp:Pos}(hl:PE X l tl)(hbase:attributeBase l "items" X.env (eval l X.env)=eval l X.env)(hline:(ap.endLine==cp.line)=true):PI X (.Tuple es x1 tp) (.Call (.Attribute l "items" ap) [] [] cp) (dG tl):=by
 intro pins s σ H R I h
 refine wpAny_Call_method0_late hbase hline (jk (hl pins s σ H _ I h) fun v s1 ⟨x,H1,I1,r1,q1⟩=>?_)
 obtain⟨a,kvs,ep,rfl,ea,q⟩:=q1
 cases r1
 obtain⟨z,hd,nd,ys,es,pr,rd,ee⟩:=DAt.of I1 ea
 have hl:=pr.len ee
 refine⟨"dict", "dict.items",F.plainAttrs_dict,F.slot_dict_items,F.type_dict_items,rd.ty,?_,Calls.callWith_builtin rfl (PySem.evalArgs_none (Qz hd rd ?_))⟩
 ·intro b e
  cases e
  obtain⟨o,g,c,_⟩:=rd
  exact⟨o,g,c.2.1⟩
 have k1:∀b o,s1.heap.get? b=some o->(s1.heap.push { cls:=.type "dict_items",data:=.fields #[.ref a] }).get? b=some o:=fun b o e=>wIa _ e
 have hv:(s1.heap.push { cls:=.type "dict_items",data:=.fields #[.ref a] }).IsItemsView s1.heap.objs.size a:=⟨_,wJa _ rfl,rfl,rfl⟩
 have I2:Inv X pins σ H1 { s1 with heap:=s1.heap.push { cls:=.type "dict_items",data:=.fields #[.ref a] } }:=I1.kept (t':=s1.toks) k1
 generalize s1.heap.push { cls:=.type "dict_items",data:=.fields #[.ref a] }=h2 at k1 hv I2
 refine QA (s:={ s1 with heap:=h2 }) hv (rd.at fun o e=>k1 _ o e) ⟨h2.objs.size,[h2.objs.size],_,_,H1,rfl,I2.kept (t':=s1.toks) fun b o e=>wIa _ e,qo (kvs:=kvs) (ep:=ep) a _,?_,fun b hb=>?_,q⟩
 ·rw[<-hl]; exact⟨_,_,wJa _ rfl⟩
 ·have e:b=h2.objs.size:=by simpa using hb
  subst e
  exact I2.fpOk (wPa _) (I2.hok.fresh (wPa _))
def HS(K:Fr)(ta:TA):TI:=fun σ H R=>ta σ H fun vs H1=>∃a xs,vs=[.ref a]/\jt K H1 a xs/\R (FG K a xs.length) H1
theorem dH{e1:Expr}{ta:TA}{p:Pos}(hg:Gl X "reversed")(hm:X.mg "reversed" = none)(ha:PA X [e1] ta)(hs:starEach [e1] X.env=[(false,eval e1 X.env)]):PI X tg (.Call (.Name "reversed" p) [e1] [] pos) (HS X.K ta):=by
 intro pins s σ H R I h
 refine Call_ (Yc I hg hm PyProof.Rows.boot_reversed (PyProof.Rows.callWith_type1 (jk (ha pos pins s σ H _ I h) fun us s1 ⟨vs,H1,I1,r1,q1⟩=>?_) hs rfl))
 obtain⟨a,xs,rfl,qa,q⟩:=q1
 cases r1 with
 | cons r rr=>
 cases rr
 cases r
 obtain⟨its,rv,p,hz⟩:=I1.list qa
 have hl:=rv.length
 refine call_reversed_list p.isList ?_
 have k1:∀b o,s1.heap.get? b=some o->(s1.heap.push (revObj a ((its.toArray.size:Int) - 1))).get? b=some o:=fun b o e=>wIa _ e
 have st:(s1.heap.push (revObj a ((its.toArray.size:Int) - 1))).IsRevIter s1.heap.objs.size a ((xs.length:Int) - 1 - (0:Nat)):=⟨_,wJa _ rfl,rfl,by rw[List.size_toArray,hl]; simp[revObj]⟩
 refine wpAny_pyIter_revIter (i:=(xs.length:Int) - 1 - (0:Nat)) st ⟨s1.heap.objs.size,[s1.heap.objs.size],_,_,H1,rfl,I1.kept (t':=s1.toks) k1,Xo (n:=xs.length) a _,⟨st,Nat.zero_le _⟩,fun b hb=>?_,q⟩
 have e:b=s1.heap.objs.size:=by simpa using hb
 subst e
 exact I1.fpOk (wPa _) (I1.hok.fresh (wPa _))
end
end DS
namespace DS
open PySem PySem.Spec PyProof.Rows L2
noncomputable def ZU:List KD->List D->KD->Option D
 | q::qs,d::ds,k=>if q=k then some d else ZU qs ds k
 | _,_,_=>none
noncomputable def ub:List KD->List D->KD->D->List D
 | q::qs,d::ds,k,v=>(if q=k then v else d)::ub qs ds k v
 | _,ds,_,_=>ds
def yJ:D->D->Option D
 | .dct ks vs,k=>(JO k).bind fun q=>(jS ks).bind fun qs=>ZU qs vs q
 | _,_=>none
def qp(neg:Bool):D->D->Option D
 | k,.dct ks _=>(JO k).bind fun q=>(jS ks).bind fun qs=>some (.bl (xor neg (decide (q∈qs))))
 | _,_=>none
section
variable {K:Fr} {H:Hp} {O:List Addr}
theorem W5{k:KD}{d:D}:∀{kvs:List (KD×Addr×V)} {vs:List D},j1 K H vs (kvs.map (·.2.2))->ZU (kvs.map (·.1)) vs k=some d->∃v,Vx kvs k=some v/\j6 K H d v
 | [],_,_,e=>by rw[List.map_nil,ZU]at e; cases e; all_goals (intros; contradiction)
 | p::kvs,[],r,e=>by rw[List.map_cons,ZU]at e; cases e; all_goals (intros; contradiction)
 | p::kvs,d'::vs,r,e=>by
  rw[List.map_cons,j1]at r
  obtain⟨_,_,ee,r1,r2⟩:=r
  cases ee
  rw[List.map_cons,ZU]at e
  unfold Vx
  rw[List.find?_cons]
  by_cases h:p.1=k
  ·rw[if_pos h]at e
   cases e
   rw[decide_eq_true h]
   exact⟨_,rfl,r1⟩
  ·rw[if_neg h]at e
   rw[decide_eq_false h]
   exact W5 r2 e
theorem Kh{k:KD}:∀{kvs:List (KD×Addr×V)},(Vx kvs k).isSome=decide (k∈kvs.map (·.1))
 | []=>by simp[Vx]
 | p::kvs=>by
  unfold Vx
  rw[List.find?_cons,List.map_cons]
  by_cases h:p.1=k
  ·rw[decide_eq_true h,decide_eq_true (by rw[h]; exact List.mem_cons_self)]
   rfl
  ·rw[decide_eq_false h]
   have:=Kh (k:=k) (kvs:=kvs)
   unfold Vx at this
   refine this.trans ?_
   by_cases hm:k∈kvs.map (·.1)
   ·rw[decide_eq_true hm,decide_eq_true (List.mem_cons_of_mem _ hm)]
   ·rw[decide_eq_false hm,decide_eq_false]
    intro z
    rcases List.mem_cons.mp z with z | z
    ·exact h z.symm
    ·exact hm z
theorem Ki{dk:D}{k:KD}{y:V}(h:RB K O H dk y)(e:JO dk=some k):∃b,y=.ref b/\j6 K H dk (.ref b):=by
 have f:=h.full
 unfold JO at e
 split at e
 ·have f0:=f
  rw[j6]at f
  obtain⟨a,xs,rfl,_⟩:=f
  exact⟨a,rfl,f0⟩
 ·cases e
theorem fU:Jh K (Ah K) yJ:=by
 intro O H a b d x y Q ha hb _ e q
 unfold yJ at e
 split at e
 ·obtain⟨k,e1,e⟩:=j0 e
  obtain⟨qs,e2,e⟩:=j0 e
  obtain⟨p,kvs,ep,rfl,h1,h2,h3,h4⟩:=ha.dct
  obtain⟨y,rfl,ry⟩:=Ki hb e1
  rw[h2]at e2
  cases e2
  obtain⟨v,ev,rv⟩:=W5 h4 e
  exact⟨p,kvs,ep,y,_,k,_,v,rfl,rfl,⟨h1,h2,h3.same yD⟩,ry,e1,ev,q v H (j4.refl H) rv⟩
 ·cases e
theorem Aj{neg:Bool}:Jh K (Xn K neg) (qp neg):=by
 intro O H a b d x y Q ha hb _ e q
 unfold qp at e
 split at e
 ·obtain⟨k,e1,e⟩:=j0 e
  obtain⟨qs,e2,e⟩:=j0 e
  cases e
  obtain⟨p,kvs,ep,rfl,h1,h2,h3,h4⟩:=hb.dct
  obtain⟨y,rfl,ry⟩:=Ki ha e1
  rw[h2]at e2
  cases e2
  exact⟨p,kvs,ep,y,_,k,_,rfl,rfl,⟨h1,h2,h3.same yD⟩,ry,e1,q _ H (j4.refl H) (by rw[j6,Kh])⟩
 ·cases e
noncomputable def uJ(qs:List KD)(ks:List D)(q:KD)(k:D):List D:=if q∈qs then ks else ks++[k]
def UZ(qs:List KD)(vs:List D)(q:KD)(v:D):List D:=if q∈qs then ub qs vs q v else vs++[v]
theorem U0:∀{ks:List D} {qs:List KD} {k:D} {q:KD},jS ks=some qs->JO k=some q->jS (ks++[k])=some (qs++[q])
 | [],qs,k,q,e,f=>by
  rw[jS]at e
  cases e
  rw[List.nil_append,jS,f]
  rfl
 | d::ks,qs,k,q,e,f=>by
  rw[jS]at e
  obtain⟨x,e1,e⟩:=j0 e
  obtain⟨xs,e2,e⟩:=j0 e
  cases e
  rw[List.cons_append,jS,e1,U0 e2 f]
  rfl
theorem Kj{k:KD}{v:V}{d:D}(rv:j6 K H d v):∀{kvs:List (KD×Addr×V)} {vs:List D},j1 K H vs (kvs.map (·.2.2))->j1 K H (ub (kvs.map (·.1)) vs k d) ((kvs.map (fun p=>if p.1=k then(p.1,p.2.1,v)else p)).map (·.2.2))
 | [],vs,r=>by
  rw[List.map_nil,List.map_nil,List.map_nil,ub]
  ·exact r
  all_goals (intros; contradiction)
 | p::kvs,[],r=>by rw[List.map_cons,j1]at r; cases r
 | p::kvs,d'::vs,r=>by
  rw[List.map_cons,j1]at r
  obtain⟨_,_,ee,r1,r2⟩:=r
  cases ee
  rw[List.map_cons,List.map_cons,List.map_cons,ub]
  refine j1.cons ?_ (Kj rv r2)
  by_cases h:p.1=k
  ·rw[if_pos h,if_pos h]; exact rv
  ·rw[if_neg h,if_neg h]; exact r1
theorem W6{β:Type}{k:KD}{v:V}{f:KD×Addr×V->β}(hf:∀p:KD×Addr×V,f (p.1,p.2.1,v)=f p):∀kvs:List (KD×Addr×V),(kvs.map (fun p=>if p.1=k then(p.1,p.2.1,v)else p)).map f=kvs.map f:=fun kvs=>by
 rw[List.map_map]
 refine List.map_congr_left fun p _=>?_
 show f (if p.1=k then(p.1,p.2.1,v)else p)=f p
 split
 ·exact hf p
 ·rfl
theorem B6{k:KD}{b:Addr}{v:V}{d dk:D}{ks vs:List D}{qs:List KD}{kvs:List (KD×Addr×V)}(e1:JO dk=some k)(e2:jS ks=some (kvs.map (·.1)))(rk:j1 K H ks (kvs.map fun p=>V.ref p.2.1))(rv:j1 K H vs (kvs.map (·.2.2)))(r1:j6 K H dk (.ref b))(r2:j6 K H d v):
  jS (uJ (kvs.map (·.1)) ks k dk)=some ((Zk kvs k b v).map (·.1))/\j1 K H (uJ (kvs.map (·.1)) ks k dk) ((Zk kvs k b v).map fun p=>V.ref p.2.1)/\j1 K H (UZ (kvs.map (·.1)) vs k d) ((Zk kvs k b v).map (·.2.2)):=by
 unfold uJ UZ Zk
 rw[Kh]
 by_cases h:k∈kvs.map (·.1)
 ·rw[decide_eq_true h,if_pos h,if_pos h,if_pos rfl,W6 (fun _=>rfl),W6 (fun _=>rfl)]
  exact⟨e2,rk,Kj r2 rv⟩
 ·rw[decide_eq_false h,if_neg h,if_neg h,if_neg (by decide),List.map_append,List.map_append,List.map_append]
  exact⟨U0 e2 e1,rk.snoc r1,rv.snoc r2⟩
end
section
variable {X:Cx} {K:Fr} {e a b c d tg:Expr} {de da db dc dd dk:DE} {pos:Pos} {st:Stmt}
def V7(i:Nat)(dk de:DE):DS:=fun ρ=>match ρ[i]? with
 | some (.ow q (.dct ks vs))=>(de ρ).bind fun d=>(dk ρ).bind fun k=>(JO k).bind fun x=>(jS ks).bind fun qs=>if ks.length < sizeLine then some (.nx (ρ.set i (.ow q (.dct (uJ qs ks x k) (UZ qs vs x d)))))else none
 | _=>none
@[simp] theorem dI(i:Nat)(dk de:DE){ρ:j8}:V7 i dk de ρ=match ρ[i]? with
 | some (.ow q (.dct ks vs))=>(de ρ).bind fun d=>(dk ρ).bind fun k=>(JO k).bind fun x=>(jS ks).bind fun qs=>if ks.length < sizeLine then some (.nx (ρ.set i (.ow q (.dct (uJ qs ks x k) (UZ qs vs x d)))))else none
 | _=>none:=rfl
theorem fV{i:Nat}(h:PS X st (zC (tE K de) (xJ (YY i) (tE K dk) (Ai K)))):PS X st (tS K (V7 i dk de)):=J9 h fun D σ H ⟨H0,O0,ρ,O,r,R,ed,f⟩=>by
 unfold V7 at ed
 split at ed
 ·rename_i q ks vs hi
  obtain⟨d,e1,ed⟩:=j0 ed
  obtain⟨k,e2,ed⟩:=j0 ed
  obtain⟨x,e3,ed⟩:=j0 ed
  obtain⟨qs,e4,ed⟩:=j0 ed
  split at ed
  ·rename_i hz
   cases ed
   obtain⟨l,hq,hs,⟨kvs,ep,hl,hk,rk,rv⟩,lo,h0⟩:=R.ow i _ _ hi
   refine⟨H0,O0,ρ,O,d,R,e1,fun v H1 s1 rd=>⟨_,hs,H0,O0,ρ,O,k,R.grow s1,e2,fun w H2 s2 rw'=>?_⟩⟩
   have s12:=s1.trans s2
   have R':=R.grow s12
   rw[hk]at e4
   cases e4
   obtain⟨b,rfl,rb⟩:=Ki (O:=O) (.inl rw') e3
   have hlen:kvs.length=ks.length:=by have:=rk.len; simpa using this
   obtain⟨p1,p2,p3⟩:=B6 (b:=b) (qs:=[]) e3 hk (rk.same (jh s12)) (rv.same (jh s12)) rw' (rd.same (jh s2))
   refine⟨l,kvs,ep,b,ks,x,k,rfl,rfl,⟨s12 _ _ hl,hk,(rk.same (jh s12)).same yD⟩,rb,e3,by rw[hlen]; exact hz,fun ep'=>f _ _ O (R'.change hi hq hs lo h0 ⟨_,ep',J2,p1,p2,p3⟩) ?_⟩
   rw[Yo lo]
   exact jh s12
  ·cases ed
 ·cases ed
noncomputable def uK:DO:=fun _=>some (.dct [] [])
@[simp] theorem iM{ρ:j8}:uK ρ=some (.dct [] []):=rfl
theorem dJ:PE X (.Dict [] [] pos) (tF K uK):=jz B4 fun σ H Q ⟨H0,O0,ρ,O,o,R,ed,q⟩=>by
 cases ed
 exact fun p hp=>q p _ (jK hp _) hp ⟨[],0,J2,by rw[jS]; rfl,j1.nil,j1.nil⟩
noncomputable def vL:List D->Option OD
 | [.dct ks _]=>some (.lst ks)
 | _=>none
@[simp] theorem HU(ks vs:List D):vL [.dct ks vs]=some (.lst ks):=rfl
theorem B7:Ct K (fun xs H Q=>∃a kvs ep,xs=[.ref a]/\H a=some (.dD kvs ep)/\∀l,H l=none->Q (.ref l) (upd H l (.lst (kvs.map fun p=>V.ref p.2.1)))) vL:=by
 intro O H ks ds vs d Q ak e q
 unfold vL at e
 split at e
 ·cases e
  obtain⟨v,rfl,r⟩:=YK ak
  obtain⟨p,kvs,ep,rfl,h1,h2,h3,h4⟩:=r.dct
  exact⟨p,kvs,ep,rfl,h1,fun l hl=>q l _ (jK hl _) hl (JQ hl h3)⟩
 ·cases e
noncomputable def uc:D->Option (List D)
 | .dct ks _=>some ks
 | _=>none
@[simp] theorem HV(ks vs:List D):uc (.dct ks vs)=some ks:=rfl
def uL(de:DE):DI:=fun ρ=>(de ρ).bind uc
@[simp] theorem iO(de:DE){ρ:j8}:uL de ρ=(de ρ).bind uc:=rfl
theorem RP.dct{H0 H:Hp}{O0 O:List Addr}{ks vs:List D}{v:V}(r:RP K H0 O0 H O (.dct ks vs) v):∃p kvs ep,v=.ref p/\∀(H':Hp) (O':List Addr),j4 H0 H'->j4 (ja H0 O0) (ja H' O')->j4 (ja H O) (ja H' O')->H' p=some (.dD kvs ep)/\j1 K (ja H' O') ks (kvs.map fun p=>V.ref p.2.1)/\j1 K (ja H' O') vs (kvs.map (·.2.2)):=by
 rcases r with r | r | ⟨l,o,rfl,z2,z3⟩
 ·rw[j6]at r
  obtain⟨p,kvs,ep,rfl,w1,_,w3,w4⟩:=r
  exact⟨p,kvs,ep,rfl,fun H' O' t0 t1 t2=>⟨(JP (t2 _ _ w1)).2,w3.same t2,w4.same t2⟩⟩
 ·rw[j6]at r
  obtain⟨p,kvs,ep,rfl,w1,_,w3,w4⟩:=r
  exact⟨p,kvs,ep,rfl,fun H' O' t0 t1 t2=>⟨(JP (t1 _ _ w1)).2,w3.same t1,w4.same t1⟩⟩
 ·cases o <;> cases z2
  obtain⟨kvs,ep,w1,_,w3,w4⟩:=z3
  exact⟨l,kvs,ep,rfl,fun H' O' t0 t1 t2=>⟨t0 _ _ w1,w3.same t1,w4.same t1⟩⟩
theorem dM(h:PE X e (tP K de)):PI X tg e (YW K (uL de)):=ZR (B5 h) fun σ H R ⟨H0,O0,ρ,O,items,Re,ed,q⟩=>by
 obtain⟨x,e1,e2⟩:=j0 ed
 refine⟨H0,O0,ρ,O,x,Re,e1,fun v H1 s1 r=>?_⟩
 have R1:=Re.grow s1
 unfold uc at e2
 split at e2
 ·cases e2
  obtain⟨p,kvs,ep,rfl,al⟩:=r.dct
  refine⟨p,kvs,ep,rfl,(al H1 O R1.keep R1.in0 (j4.refl _)).1,q _ H1 s1 fun i H' O' t0 t1 t2 ta=>?_⟩
  obtain⟨g1,g3,g4⟩:=al H' O' t0 t1 t2
  refine⟨fun d hd=>?_,fun hi=>⟨g1,by have:=g3.len; rw[List.length_map]at this; rw[hi,this]; exact wPa _⟩⟩
  obtain⟨x',hx,rx⟩:=g3.get hd
  rw[List.getElem?_map]at hx
  obtain⟨y,hy,rfl⟩:=Option.map_eq_some_iff.mp hx
  refine⟨⟨g1,(List.getElem?_eq_some_iff.mp hy).1⟩,fun x'' H'' yy=>?_⟩
  obtain⟨z1,z2⟩:=yy
  rw[z1,z2 _ hy]
  exact⟨j4.refl _,rx⟩
 ·cases e2
noncomputable def vM:D->Option (List D)
 | .dct ks vs=>some (List.zipWith (fun k v=>D.tup [k,v]) ks vs)
 | _=>none
@[simp] theorem QG(ks vs:List D):vM (.dct ks vs)=some (List.zipWith (fun k v=>D.tup [k,v]) ks vs):=rfl
def ud(de:DE):DI:=fun ρ=>(de ρ).bind vM
@[simp] theorem Xq(de:DE){ρ:j8}:ud de ρ=(de ρ).bind vM:=rfl
theorem B8{es:List Expr}{x1:Nat}{tp ap cp:Pos}(h:PE X e (tP K de))(hb:attributeBase e "items" X.env (eval e X.env)=eval e X.env)(hl:(ap.endLine==cp.line)=true):PI X (.Tuple es x1 tp) (.Call (.Attribute e "items" ap) [] [] cp) (YW K (ud de)):=ZR (Xp h hb hl) fun σ H R ⟨H0,O0,ρ,O,items,Re,ed,q⟩=>by
 obtain⟨x,e1,e2⟩:=j0 ed
 refine⟨H0,O0,ρ,O,x,Re,e1,fun v H1 s1 r=>?_⟩
 have R1:=Re.grow s1
 unfold vM at e2
 split at e2
 ·cases e2
  obtain⟨p,kvs,ep,rfl,al⟩:=r.dct
  refine⟨p,kvs,ep,rfl,(al H1 O R1.keep R1.in0 (j4.refl _)).1,q _ H1 s1 fun i H' O' t0 t1 t2 ta=>?_⟩
  obtain⟨g1,g3,g4⟩:=al H' O' t0 t1 t2
  have l3:=g3.len
  have l4:=g4.len
  rw[List.length_map]at l3 l4
  refine⟨fun d hd=>?_,fun hi=>⟨g1,by rw[hi,List.length_zipWith]; omega⟩⟩
  rw[List.getElem?_zipWith]at hd
  split at hd
  ·rename_i dk dv hk hv
   cases hd
   obtain⟨x',hx,rx⟩:=g3.get hk
   obtain⟨x2,hx2,rx2⟩:=g4.get hv
   rw[List.getElem?_map]at hx hx2
   obtain⟨y,hy,rfl⟩:=Option.map_eq_some_iff.mp hx
   rw[hy]at hx2
   cases hx2
   refine⟨⟨g1,(List.getElem?_eq_some_iff.mp hy).1⟩,fun x'' H'' yy=>?_⟩
   obtain⟨pp,hpp,rfl,yy⟩:=yy
   rw[yy _ hy]
   exact⟨jK hpp _,Xd (fun z=>ta pp z hpp) hpp rx rx2⟩
  ·cases hd
 ·cases e2
def qr(de:DE):DI:=fun ρ=>(de ρ).bind fun d=>(ZS d).bind fun l=>some l.reverse
@[simp] theorem Im(de:DE){ρ:j8}:qr de ρ=(de ρ).bind fun d=>(ZS d).bind fun l=>some l.reverse:=rfl
theorem fW{p:Pos}(hg:Gl X "reversed")(hm:X.mg "reversed" = none)(h:PE X a (tP K da))(hs:starEach [a] X.env=[(false,eval a X.env)])(hK:X.K=K:=by rfl):PI X tg (.Call (.Name "reversed" p) [a] [] pos) (YW K (qr da)):=ZR (dH hg hm (jU h JN (by rw[hs]; rfl)) hs) fun σ H R ⟨H0,O0,ρ,O,items,Re,ed,q⟩=>by
 subst hK
 obtain⟨x,e1,ed⟩:=j0 ed
 obtain⟨l,e3,ed⟩:=j0 ed
 cases ed
 refine⟨H0,O0,ρ,O,x,Re,e1,fun v H1 s1 r=>?_⟩
 have R1:=Re.grow s1
 unfold ZS at e3
 split at e3
 ·cases e3
  obtain⟨p,xs,rfl,h1,h2⟩:=(r.at R1.keep R1.in0 (j4.refl _)).lst
  have hlen:=h2.len
  refine⟨p,xs,rfl,jt.of h1,q _ H1 s1 fun i H' O' t0 t1 t2 ta=>?_⟩
  obtain⟨p',us,ea,g1,g2⟩:=(r.at t0 t1 t2).lst
  cases ea
  have hl2:=g2.len
  refine⟨fun d hd=>?_,fun hi=>by rw[hi,List.length_reverse]; show xs.length<=_; omega⟩
  have hil:i < l.length:=by have:=(List.getElem?_eq_some_iff.mp hd).1; simpa using this
  rw[List.getElem?_reverse hil]at hd
  obtain⟨u,hu,ru⟩:=g2.get hd
  refine⟨⟨us,jt.of g1,by omega,by omega⟩,fun x' H'' yy=>?_⟩
  obtain⟨z1,z2⟩:=yy
  have z3:=z2 us (jt.of g1)
  rw[hlen,hu]at z3
  cases z3
  rw[z1]
  exact⟨j4.refl _,ru⟩
 ·cases e3
noncomputable def yO:List D->Option (List Int)
 | []=>some []
 | .int i::r=>(yO r).bind fun is=>some (i::is)
 | _=>none
theorem Z2{H:Hp}:∀{l:List D} {is:List Int} {xs:List V},yO l=some is->j1 K H l xs->xs=is.map V.int
 | [],is,xs,e,r=>by rw[yO]at e; cases e; rw[j1]at r; exact r
 | d::l,is,xs,e,r=>by
  unfold yO at e
  split at e
  ·rename_i h; cases h
  ·rename_i h
   cases h
   obtain⟨js,e1,e2⟩:=j0 e
   cases e2
   rw[j1]at r
   obtain⟨v,vs,rfl,r1,r2⟩:=r
   rw[j6]at r1
   rw[r1,Z2 e1 r2]
   rfl
  ·cases e
def Kk:List D->Option D
 | [.lst l]=>(yO l).bind fun is=>some (.int is.sum)
 | _=>none
@[simp] theorem Io(l:List D):Kk [.lst l]=(yO l).bind fun is=>some (.int is.sum):=rfl
theorem GL(is:List Int):∀n,n<=is.length->preSum (fun i=>(is[i]?).getD 0) n=(is.take n).sum
 | 0,_=>by simp[preSum]
 | n+1,h=>by
  rw[preSum,GL is n (by omega),List.take_succ_eq_append_getElem (by omega),List.sum_append]
  simp[show n < is.length by omega]
theorem Xr(hc:X.calm=true):yj X (.builtin "sum") (fun xs H Q=>∃(p:Addr) (is:List Int),xs=[.ref p]/\jt X.K H p (is.map V.int)/\Q (.int is.sum) H):=by
 intro pins s σ H xs us Q I r h
 obtain⟨p,is,rfl,hq,q⟩:=h
 cases r with
 | cons r rr=>
  cases rr
  cases r
  obtain⟨its,rv,pl,hz⟩:=I.list hq
  refine call_sum_walkG (wpAny_pyIter_list pl.isList ?_)
  have hp:p < s.heap.objs.size:=by obtain⟨o,ho,_⟩:=pl.isList; exact wLa ho
  have hlen:its.length=is.length:=by have:=rv.length; simp at this; omega
  refine⟨s.heap.objs.size,_,_,_,_,_,fun i=>(is[i]?).getD 0,rfl,Walks.list (A:=X.A.in1) (I.ok.hd hc) s.heap.objs.size p (wTa hp) its.toArray,⟨⟨_,wJa _ rfl,rfl,rfl⟩,Heap.IsList.at pl.isList fun o e=>wIa _ e⟩,?_,?_,fun h' tk t' hk=>?_⟩
  ·intro b hb
   rw[Heap.size_push]
   simp only[List.mem_cons,List.not_mem_nil,or_false]at hb
   rcases hb with rfl | rfl
   ·exact Nat.lt_succ_self _
   ·exact Nat.lt_succ_of_lt hp
  ·intro i v hv
   have hv:its[i]?=some v:=by simpa using hv
   have hi:i < is.length:=by rw[<-hlen]; exact(List.getElem?_eq_some_iff.mp hv).1
   obtain⟨u,eu,ru⟩:=rv.get (i:=i) (x:=V.int is[i]) (by simp[hi])
   rw[hv]at eu
   cases eu
   obtain⟨t,rfl⟩:=ru
   exact⟨t,by simp[hi]⟩
  ·refine⟨.int is.sum,H,I.kept (t':=tk) (h':=h') (fun b o e=>hk b o ?_ (wIa _ e)),⟨t',?_⟩,q⟩
   ·intro z
    have z:b=s.heap.objs.size:=by simpa using z
    exact wUa _ (z▸wLa e)
   ·rw[List.size_toArray,hlen,GL is _ (Nat.le_refl _),List.take_length]
theorem fX:Fn K (fun xs H Q=>∃(p:Addr) (is:List Int),xs=[.ref p]/\jt K H p (is.map V.int)/\Q (.int is.sum) H) Kk:=by
 intro O H ks ds vs d Q ak _ e q
 unfold Kk at e
 split at e
 ·obtain⟨is,e1,e2⟩:=j0 e
  cases e2
  obtain⟨v,rfl,r⟩:=YK ak
  obtain⟨p,xs,rfl,h1,h2⟩:=r.lst
  have:=Z2 e1 h2
  subst this
  exact⟨p,is,rfl,jt.of h1,q _ H (j4.refl H) (by rw[j6])⟩
 ·cases e
end
end DS
namespace DS
open PySem PySem.Spec PyProof.Rows L2
end DS
namespace L2
open PySem PySem.Spec PyProof.Rows
section
variable {X:Cx}
theorem dN(bs:List Bool)(n:Nat)(hn:n=bs.length):((List.range n).any fun i=>(bs[i]?).getD true)=bs.any id:=by
 subst hn
 rw[Bool.eq_iff_iff]
 simp only[List.any_eq_true,List.mem_range,id]
 constructor
 ·rintro⟨i,hi,e⟩
  exact⟨bs[i],List.getElem_mem hi,by simpa[hi]using e⟩
 ·rintro⟨x,hx,e⟩
  obtain⟨i,hi,rfl⟩:=List.mem_iff_getElem.mp hx
  exact⟨i,hi,by simpa[hi]using e⟩
theorem Xs(hc:X.calm=true):yj X (.builtin "any") (fun xs H Q=>∃(p:Addr) (bs:List Bool),xs=[.ref p]/\jt X.K H p (bs.map V.bl)/\Q (.bl (bs.any id)) H):=by
 rintro pins s σ H _ us Q I r ⟨p,bs,rfl,hq,q⟩
 cases r with
 | cons r rr=>
  cases rr
  cases r
  obtain⟨its,rv,pl,hz⟩:=I.list hq
  have hp:p < s.heap.objs.size:=by
   obtain⟨o,ho,_⟩:=pl.isList
   exact wLa ho
  have hlen:its.length=bs.length:=by
   have:=rv.length
   rw[List.length_map]at this
   omega
  have W:=Walks.list (prog:=X.prog) (w:=X.w) (A:=X.A.in1) (I.ok.hd hc) s.heap.objs.size p (wTa hp) its.toArray
  refine call_any_walk (wpAny_pyIter_list pl.isList ⟨_,_,_,_,_,_,fun i=>(bs[i]?).getD true,rfl,W,?_,?_,?_⟩)
  ·exact⟨⟨_,wJa _ rfl,rfl,rfl⟩,pl.isList.at fun o e=>wIa _ e⟩
  ·intro i v s' Q' E' hv hq'
   have hv:its[i]?=some v:=by simpa using hv
   have hi:i < bs.length:=by
    rw[<-hlen]
    exact(List.getElem?_eq_some_iff.mp hv).1
   obtain⟨u,eu,ru⟩:=rv.get (i:=i) (x:=V.bl bs[i]) (by simp[hi])
   cases hv.symm.trans eu
   cases ru
   refine wpAny_truthy_bool ?_
   have hq':Q' ((bs[i]?).getD true) s':=hq'
   rwa [List.getElem?_eq_getElem hi]at hq'
  ·intro h' tk hk
   rw[dN bs _ (by rw[List.size_toArray,hlen])]
   have J:Inv X pins σ H { s with heap:=h',toks:=tk }:=I.turnedL (t':=tk) (ch:=[s.heap.objs.size]) (fun b hb=>by
    rw[List.mem_singleton]at hb
    subst hb
    exact I.fpOk (wPa _) (I.hok.fresh (wPa _))) fun c o hc' e'=>hk c o hc' (wIa _ e')
   exact⟨.bl (bs.any id),H,J,rfl,q⟩
end
end L2
namespace DS
open PySem L2
section
variable {K:Fr}
@[simp] def qt:List D->Option D
 | [.lst l]=>(Zf l).bind fun bs=>some (.bl (bs.any id))
 | _=>none
theorem fY:Fn K (fun xs H Q=>∃(p:Addr) (bs:List Bool),xs=[.ref p]/\jt K H p (bs.map V.bl)/\Q (.bl (bs.any id)) H) qt:=by
 intro O H ks ds vs d Q h hn e q
 unfold qt at e
 split at e
 ·obtain⟨bs,e1,e2⟩:=j0 e
  cases e2
  obtain⟨v,rfl,r⟩:=YK h
  obtain⟨p,xs,rfl,h1,h2⟩:=r.lst
  rw[u6 e1 h2]at h1
  exact⟨p,bs,rfl,jt.of h1,q _ H (j4.refl H) (by rw[j6])⟩
 ·cases e
end
end DS
namespace L2
open PySem PySem.Spec PyProof.Rows
section
variable {X:Cx}
def g_:V->List V->Hp->VK->Prop:=fun x vs H Q=>∃l xs i y,x=.ref l/\vs=[.int i,y]/\H l=some (.lst xs)/\0<=i/\i<=(xs.length:Int)/\xs.length < 1000000/\Q .non (upd H l (.lst (xs.take i.toNat++y::xs.drop i.toNat)))
theorem qu:1000000 < sizeLine:=by decide
theorem QH:Fu X "list.insert" g_:=by
 intro pins s σ H x vs v us Q I rx rv h
 obtain⟨l,xs,i,y,rfl,rfl,hH,h0,h1,hz,q⟩:=h
 cases rx
 cases rv with
 | cons r1 rr=>
 cases rr with
 | cons r2 rr=>
 cases rr
 obtain⟨t,rfl⟩:=r1
 rename_i u
 obtain⟨z,its,n,r,hl,e⟩:=I.lstM hH
 have sl:=qu
 have hk:i.toNat<=its.length:=by omega
 refine call_meets F.slot_list_insert ⟨_,e,rfl⟩ F.entry_list_insert (F.args_list_insert_3 _ _ _) (AutoListH.list_insert_list_int_val_1 l its.toArray n i t u (by rw[fitsIndex_both (by omega) (by omega)]; decide) (by rw[List.size_toArray]; omega)) ⟨e,?_⟩
 refine⟨.non,_,I.lset (its':=its.take i.toNat++u::its.drop i.toNat) hH e ?_ ?_ ?_,rfl,q⟩
 ·show(have k:=if i < 0 then(i+((its.toArray.size:Nat):Int)).toNat else min i.toNat its.toArray.size; (its.toArray.extract 0 k).push u++its.toArray.extract k)=_
  dsimp only
  rw[if_neg (by omega),List.size_toArray,Nat.min_eq_left hk]
  apply Array.ext'
  simp
  exact List.take_of_length_le (by rw[List.length_drop]; omega)
 ·exact(r.take i.toNat).append (.cons r2 (r.drop i.toNat))
 ·rw[List.length_append,List.length_cons,List.length_take,List.length_drop]
  omega
end
end L2
namespace DS
open PySem PySem.Spec PyProof.Rows L2
section
variable {X:Cx} {K:Fr} {st:Stmt} {de dx:DE}
noncomputable def G1(i:Nat)(dx de:DE):DS:=fun ρ=>match ρ[i]? with
 | some (.ow q (.lst ds))=>(dx ρ).bind fun x=>(de ρ).bind fun d=>match x with
  | .int k=>if 0<=k/\k<=(ds.length:Int)/\ds.length < 1000000 then some (.nx (ρ.set i (.ow q (.lst (ds.take k.toNat++d::ds.drop k.toNat)))))else none
  | _=>none
 | _=>none
@[simp] theorem Ip(i:Nat)(dx de:DE){ρ:j8}:G1 i dx de ρ=match ρ[i]? with
 | some (.ow q (.lst ds))=>(dx ρ).bind fun x=>(de ρ).bind fun d=>match x with
  | .int k=>if 0<=k/\k<=(ds.length:Int)/\ds.length < 1000000 then some (.nx (ρ.set i (.ow q (.lst (ds.take k.toNat++d::ds.drop k.toNat)))))else none
  | _=>none
 | _=>none:=rfl
theorem Xu{i:Nat}(h:PS X st (kj (Q9 K "list" g_ (YY i) (zZ (tR K dx) (zZ (tE K de) VS))))):PS X st (tS K (G1 i dx de)):=J9 h fun D σ H ⟨H0,O0,ρ,O,r,R,ed,f⟩=>by
 unfold G1 at ed
 split at ed
 ·rename_i q ds hi
  obtain⟨x,e1,ed⟩:=j0 ed
  obtain⟨d,e2,ed⟩:=j0 ed
  split at ed
  ·split at ed
   ·rename_i hz
    cases ed
    obtain⟨l,hq,hs,⟨vs,hl,rp⟩,lo,h0⟩:=R.ow i _ _ hi
    refine⟨_,hs,.inl ⟨rfl,_,jt.of hl⟩,H0,O0,ρ,O,_,R,e1,fun w H1 s1 r1=>⟨H0,O0,ρ,O,d,R.grow s1,e2,fun v H' s rv=>?_⟩⟩
    have s':=s1.trans s
    have R':=R.grow s'
    have rp':=rp.same (jh s')
    refine⟨l,vs,_,v,rfl,by rw[r1.int],s' _ _ hl,hz.1,by rw[rp.len]; exact hz.2.1,by rw[rp.len]; exact hz.2.2,f _ _ O (R'.change hi hq hs lo h0 ⟨_,J2,(rp'.take _).app (j1.cons rv (rp'.drop _))⟩) ?_⟩
    rw[Yo lo]
    exact jh s'
   ·cases ed
  ·cases ed
 ·cases ed
end
end DS
namespace L2
open PySem PySem.Spec PyProof.Rows
theorem fZ{X:Cx}{o k e:Expr}{ta:TE}{t:TA}{apos pos:Pos}(ho:PE X o ta)(ha:PA X [k,e] t)
  (hfew:((backTo pos (starEach [k,e] X.env)).all (fun x=>!x.1)&&(backToKw pos (keywordEach [] X.env)).all (fun x=>x.1.isSome)&&decide (([k,e]:List Expr).length+([]:List Keyword).length+(if ([]:List Keyword).isEmpty then 0 else 1) < 30))=true)
  (hline:(apos.endLine==pos.line)=true) (hs:starEach [k,e] X.env=(false,eval k X.env)::starEach [e] X.env) (hplain:(backTo pos (starEach [e] X.env)).any (·.1)=false) (hbase:attributeBase o "insert" X.env (eval o X.env)=eval o X.env:=by rfl):PE X (.Call (.Attribute o "insert" apos) [k,e] [] pos) (Q9 X.K "list" g_ ta t):=
 aO PySem.F.plainAttrs_list PySem.F.slot_list_insert PySem.F.type_list_insert QH ho ha hbase hfew hline hs hplain
end L2
namespace L2
open PySem PySem.Spec PyProof.Rows
noncomputable def zV(x:Int)(l:List Int):Int:=l.foldl (fun a b=>if b < a then b else a) x
section
variable {prog:Program} {w:World} {A:Around} {R:Result->Shared->Prop} {J:Addr} {fp wr:List Addr} {n:Nat} {P:Nat->Value->Prop} {St:Nat->Heap->Prop} {kw:List (Str×Value)} {val:Nat->Int}
theorem uM:(toString "min" ++ toString ".loop" : String) = "min.loop" := by decide
noncomputable def Zl(val:Nat->Int):Nat->Nat:=argBest fun i j=>decide (val i < val j)
theorem G8(W:Walks prog w A.in1 J fp wr n P St)(hv:∀i v,P i v->∃t,v=.int (val i) t)(S:Addr)(hS:S∉fp):∀(k j:Nat) (s:Shared) (vb:Value) (c:Nat),n - (j+1)=k->j+1<=n->St (j+1) s.heap->P (Zl val j) vb->s.heap.get? S=some (seqObj "list" #[vb,vb] c)->
  (∀v h' tk,P (Zl val (n - 1)) v->(∀b o,b∉wr->b≠S->s.heap.get? b=some o->h'.get? b=some o)->R (.ok (.ret v)) { s with heap:=h',toks:=tk })->codeAny (model prog w) A (.builtin "min.loop" ⟨[.ref J,.none,.ref S],kw⟩) R s
 | 0,j,s,vb,c,hk,hj,hst,hb,hs,hR=>by
  have hin:j+1=n:=by omega
  refine vSa PySem.F.entry_min_loop ?_
  rw[Around.under_plainId PySem.F.plain_min_loop _]
  refine wAa (wpAny_seqItems hs rfl (wAa (vPa (W.done s _ _ (hin▸hst) fun h' tk hk'=>?_))))
  have hs':=hk' S _ (fun z=>hS (W.sub _ z)) hs
  refine wAa ?_
  refine wpAny_updateSeq hs' rfl (wAa (wFa (wBa (hR vb _ tk (by rw[<-hin]; exact hb) fun b o hw hn e=>?_))))
  rw[Heap.get?_update_other _ _ hn.symm]
  exact hk' b o hw e
 | k+1,j,s,vb,c,hk,hj,hst,hb,hs,hR=>by
  have hlt:j+1 < n:=by omega
  refine vSa PySem.F.entry_min_loop ?_
  rw[Around.under_plainId PySem.F.plain_min_loop _]
  refine wAa (wpAny_seqItems hs rfl (wAa (vPa (W.item (j+1) s _ _ hlt hst fun v h' tk hP hst' hk'=>?_))))
  have hs':=hk' S _ (fun z=>hS (W.sub _ z)) hs
  refine wAa (wBa ?_)
  refine wAa (vPa (wDa (wAa (CmpOf.ints_lt val hv (j+1) (Zl val j) v vb _ _ _ hP hb (wAa (wDa (wpAny_truthy_bool (wAa (wFa (wBa ?_))))))))))
  have step:Zl val (j+1)=if decide (val (j+1) < val (Zl val j))then j+1 else Zl val j:=rfl
  cases hd:decide (val (j+1) < val (Zl val j))with
  | true=>
   rw[hd,if_pos rfl]at step
   rw[if_pos hd]
   refine wAa ?_
   refine wpAny_updateSeq hs' rfl (wAa (wFa ?_))
   rw[uM]
   refine wBa ⟨vRa PySem.F.plain_min_loop _,G8 W hv S hS k (j+1) _ v _ (by omega) hlt (W.frame _ _ _ hst' fun b hf o e=>?_) (by rw[step]; exact hP) (vUa _ hs' rfl) fun v' h2 tk2 p2 k2=>hR v' h2 tk2 p2 fun b o hw hn e=>k2 b o hw hn ?_⟩
   ·rw[Heap.get?_update_other _ _ fun z:S=b=>hS (z▸hf)]
    exact e
   ·rw[Heap.get?_update_other _ _ hn.symm]
    exact hk' b o hw e
  | false=>
   rw[hd,if_neg (by decide)]at step
   rw[if_neg (show¬decide (val (j+1) < val (Zl val j))=true by rw[hd]; decide)]
   refine wAa (wFa ?_)
   rw[uM]
   exact wBa ⟨vRa PySem.F.plain_min_loop _,G8 W hv S hS k (j+1) _ vb c (by omega) hlt hst' (by rw[step]; exact hb) hs' fun v' h2 tk2 p2 k2=>hR v' h2 tk2 p2 fun b o hw hn e=>k2 b o hw hn (hk' b o hw e)⟩
theorem Xv(W:Walks prog w A.in1 J fp wr n P St)(hv:∀i v,P i v->∃t,v=.int (val i) t)(S:Addr)(hS:S∉fp)(hn:0 < n){s:Shared}{c:Nat}(hst:St 0 s.heap)(hs:s.heap.get? S=some (seqObj "list" #[] c))
  (hR:∀v h' tk,P (Zl val (n - 1)) v->(∀b o,b∉wr->b≠S->s.heap.get? b=some o->h'.get? b=some o)->R (.ok (.ret v)) { s with heap:=h',toks:=tk }):codeAny (model prog w) A (.builtin "min.loop" ⟨[.ref J,.none,.ref S],kw⟩) R s:=by
 refine vSa PySem.F.entry_min_loop ?_
 rw[Around.under_plainId PySem.F.plain_min_loop _]
 refine wAa (wpAny_seqItems hs rfl (wAa (vPa (W.item 0 s _ _ hn hst fun v h' tk hP hst' hk'=>?_))))
 have hs':=hk' S _ (fun z=>hS (W.sub _ z)) hs
 refine wAa (wBa ?_)
 refine wAa ?_
 refine wpAny_updateSeq hs' rfl ?_
 rw[uM]
 refine wBa ⟨vRa PySem.F.plain_min_loop _,G8 W hv S hS _ 0 _ v _ rfl hn (W.frame _ _ _ hst' fun b hf o e=>?_) hP (vUa _ hs' rfl) fun v' h2 tk2 p2 k2=>hR v' h2 tk2 p2 fun b o hw hn e=>k2 b o hw hn ?_⟩
 ·rw[Heap.get?_update_other _ _ fun z:S=b=>hS (z▸hf)]
  exact e
 ·rw[Heap.get?_update_other _ _ hn.symm]
  exact hk' b o hw e
theorem B9(W:Walks prog w A.in1 J fp wr 0 P St)(S:Addr)(hS:S∉fp){x:Str}{d:Value}{s:Shared}{c:Nat}(hst:St 0 s.heap)(hs:s.heap.get? S=some (seqObj "list" #[] c))
  (hR:∀h' tk,(∀b o,b∉wr->s.heap.get? b=some o->h'.get? b=some o)->R (.ok (.ret d)) { s with heap:=h',toks:=tk }):codeAny (model prog w) A (.builtin "min.loop" ⟨[.ref J,.none,.ref S],[(x,d)]⟩) R s:=by
 refine vSa PySem.F.entry_min_loop ?_
 rw[Around.under_plainId PySem.F.plain_min_loop _]
 refine wAa (wpAny_seqItems hs rfl (wAa (vPa (W.done s _ _ hst fun h' tk hk'=>?_))))
 exact wAa (wpAny_rule (wBa (hR h' tk hk')))
end
end L2
namespace L2
open PySem PySem.Spec PyProof.Rows
theorem QI(a v:Value):argsOk "min" ⟨[a],[(Str.ofString "default",v)]⟩:=by unfold argsOk; kernel_rfl
theorem Ga(is:List Int)(x:Int)(l:List Int)(e:is=x::l):∀j,j < is.length->(is[Zl (fun i=>(is[i]?).getD 0) j]?).getD 0=zV x (l.take j)/\Zl (fun i=>(is[i]?).getD 0) j < is.length
 | 0,h=>by subst e; exact⟨rfl,h⟩
 | j+1,h=>by
  obtain⟨h1,h2⟩:=Ga is x l e j (by omega)
  have hj:j < l.length:=by rw[e]at h; simpa using h
  have hg:(is[j+1]?).getD 0=l[j]:=by rw[e,List.getElem?_cons_succ,List.getElem?_eq_getElem hj]; rfl
  have st:Zl (fun i=>(is[i]?).getD 0) (j+1)=if decide ((is[j+1]?).getD 0 < (is[Zl (fun i=>(is[i]?).getD 0) j]?).getD 0)then j+1 else Zl (fun i=>(is[i]?).getD 0) j:=rfl
  have ht:zV x (l.take (j+1))=if l[j] < zV x (l.take j)then l[j]else zV x (l.take j):=by
   unfold zV
   rw[List.take_succ_eq_append_getElem hj,List.foldl_append]
   rfl
  rw[st,ht,h1,hg]
  by_cases c:l[j] < zV x (l.take j)
  ·rw[decide_eq_true c,if_pos rfl,if_pos c]
   exact⟨hg,h⟩
  ·rw[decide_eq_false c,if_neg (by decide),if_neg c]
   exact⟨h1,h2⟩
section
variable {X:Cx}
def yK:List Int->Option Int
 | []=>none
 | x::l=>some (zV x l)
def Ak(K:PySem.W.Frag):List V->Hp->VK->Prop:=fun xs H Q=>∃(p:Addr) (is:List Int) (m:Int),xs=[.ref p]/\jt K H p (is.map V.int)/\yK is=some m/\Q (.int m) H
theorem QJ(hc:X.calm=true):yj X (.builtin "min") (Ak X.K):=by
 rintro pins s σ H _ us Q I r ⟨p,is,m,rfl,hq,hm,q⟩
 cases r with
 | cons r rr=>
  cases rr
  cases r
  obtain⟨its,rv,pl,hz⟩:=I.list hq
  have hp:p < s.heap.objs.size:=by
   obtain⟨o,ho,_⟩:=pl.isList
   exact wLa ho
  have hlen:its.length=is.length:=by
   have:=rv.length
   rw[List.length_map]at this
   omega
  cases his:is with
  | nil=>rw[his]at hm; cases hm
  | cons x l=>
   have hm:zV x l=m:=by rw[his]at hm; exact vFa hm
   have hl1:is.length=l.length+1:=by rw[his]; rfl
   obtain⟨b1,b2⟩:=Ga is x l his (is.length - 1) (by omega)
   rw[show l.take (is.length - 1)=l by rw[hl1]; simp,hm]at b1
   have W:=Walks.list (prog:=X.prog) (w:=X.w) (A:=X.A.in1) (I.ok.hd hc) s.heap.objs.size p (wTa hp) its.toArray
   have hval:∀(i:Nat) (v:Value),its.toArray[i]?=some v->∃t,v=.int ((is[i]?).getD 0) t:=fun i v hv=>by
    have hv:its[i]?=some v:=by simpa using hv
    have hi:i < is.length:=by
     rw[<-hlen]
     exact(List.getElem?_eq_some_iff.mp hv).1
    obtain⟨u,eu,ru⟩:=rv.get (i:=i) (x:=V.int is[i]) (by simp[hi])
    cases hv.symm.trans eu
    obtain⟨t,rfl⟩:=ru
    exact⟨t,by rw[List.getElem?_eq_getElem hi]; rfl⟩
   refine call_min_walk (wpAny_pyIter_list pl.isList ⟨_,_,_,_,_,_,_,rfl,W,?_,?_,?_,CmpOf.ints_lt (fun i=>(is[i]?).getD 0) (fun i v hv=>hval i v hv),?_⟩)
   ·exact⟨⟨_,wJa _ rfl,rfl,rfl⟩,pl.isList.at fun o e=>wIa _ e⟩
   ·intro b hb
    simp at hb
    show b < (s.heap.push _).objs.size
    rw[Heap.size_push]
    rcases hb with rfl | rfl
    ·exact Nat.lt_succ_self _
    ·exact Nat.lt_succ_of_lt hp
   ·rw[List.size_toArray]; omega
   ·intro v h' tk hv hk
    have hv:its.toArray[Zl (fun i=>(is[i]?).getD 0) (its.toArray.size - 1)]?=some v:=hv
    rw[List.size_toArray,hlen]at hv
    obtain⟨t,rfl⟩:=hval _ v hv
    rw[b1]
    have J:Inv X pins σ H { s with heap:=h',toks:=tk }:=I.turnedL (t':=tk) (ch:=[s.heap.objs.size]) (fun b hb=>by
     rw[List.mem_singleton]at hb
     subst hb
     exact I.fpOk (wPa _) (I.hok.fresh (wPa _))) fun c o hc' e'=>hk c o hc' (wIa _ e')
    exact⟨.int m,H,J,⟨t,rfl⟩,q⟩
theorem Ba{P:Program}{w:World}{A:Around}{E:Value->Shared->Prop}{s:Shared}{Q:Value->Shared->Prop}{p:Addr}{its:List Value}{is:List Int}{d:Value}(hh:A.handled=none)(pl:s.heap.IsList p its.toArray)(hlen:its.length=is.length)
  (hval:∀(i:Nat) (v:Value),its.toArray[i]?=some v->∃t,v=.int ((is[i]?).getD 0) t)
  (hQ:∀(v:Value) (h':Heap) (tk:Nat),(match yK is with | some m=>∃t,v=.int m t | none=>v=d)->(∀b o,b≠s.heap.objs.size->s.heap.get? b=some o->h'.get? b=some o)->Q v { s with heap:=h',toks:=tk }):
  wpAny (model P w) A (call (.builtin "min") [.ref p] [(Str.ofString "default",d)]) Q E s:=by
 have hp:p < s.heap.objs.size:=by
  obtain⟨o,ho,_⟩:=pl
  exact wLa ho
 have W:=Walks.list (prog:=P) (w:=w) (A:=A.in1) hh s.heap.objs.size p (wTa hp) its.toArray
 refine kmb_tree PySem.F.kind_min PySem.F.plain_min PySem.F.entry_min (QI _ _) ?_
 show wpAny _ A.in1 (Builtin.Builtins.bindParams "min" ["key", "default"] 0 ⟨[],[(Str.ofString "default",d)]⟩ >>= _) _ _ s
 refine wAa (wpAny_of_eq (show Builtin.Builtins.bindParams "min" ["key", "default"] 0 ⟨[],[(Str.ofString "default",d)]⟩=pure [none,some d] from rfl) (wAa (wBa (wAa (wpAny_pyIter_list pl ?_)))))
 refine wAa (vTa ?_)
 rw[uM]
 have hS:∀o:Obj,(s.heap.push o).objs.size∉[s.heap.objs.size,p]:=fun o z=>by
  rw[Heap.size_push]at z
  simp at z
  exact vDa z (Nat.ne_of_gt (Nat.lt_succ_of_lt hp))
 refine wBa ⟨vRa PySem.F.plain_min_loop _,?_⟩
 have keep:∀(o1 o2:Obj) (b:Addr) (o:Obj),s.heap.get? b=some o->((s.heap.push o1).push o2).get? b=some o:=fun o1 o2 b o e=>wIa _ (wIa _ e)
 have ne2:∀(o1:Obj) (b:Addr) (o:Obj),s.heap.get? b=some o->b≠(s.heap.push o1).objs.size:=fun o1 b o e=>by
  rw[Heap.size_push]
  exact wTa (Nat.lt_succ_of_lt (wLa e))
 cases his:is with
 | nil=>
  have hz:its.toArray.size=0:=by rw[List.size_toArray,hlen,his]; rfl
  rw[hz]at W
  exact B9 W _ (hS _) ⟨⟨_,wIa _ (wJa _ rfl),rfl,rfl⟩,pl.at fun o e=>keep _ _ _ _ e⟩ (wJa _ rfl) fun h' tk hk=>hQ d h' tk (by rw[his]; rfl) fun b o hb e=>hk b o (by simpa using hb) (keep _ _ _ _ e)
 | cons x l=>
  have hl1:is.length=l.length+1:=by rw[his]; rfl
  obtain⟨b1,b2⟩:=Ga is x l his (is.length - 1) (by omega)
  rw[show l.take (is.length - 1)=l by rw[hl1]; simp]at b1
  refine Xv W (val:=fun i=>(is[i]?).getD 0) (fun i v hv=>hval i v hv) _ (hS _) (by rw[List.size_toArray]; omega) ⟨⟨_,wIa _ (wJa _ rfl),rfl,rfl⟩,pl.at fun o e=>keep _ _ _ _ e⟩ (wJa _ rfl) fun v h' tk hv hk=>hQ v h' tk ?_ fun b o hb e=>hk b o (by simpa using hb) (ne2 _ _ _ e) (keep _ _ _ _ e)
  rw[List.size_toArray,hlen]at hv
  obtain⟨t,rfl⟩:=hval _ v hv
  rw[his]
  exact⟨t,by rw[<-his,b1]⟩
def f_(K:PySem.W.Frag)(ta tb:TE):TE:=fun σ H Q=>ta σ H fun x H1=>tb σ H1 fun y H2=>∃p is d,x=.ref p/\y=.int d/\jt K H2 p (is.map V.int)/\Q (.int ((yK is).getD d)) H2
theorem Bb{a b:Expr}{ta tb:TE}{p kp pos:Pos}(hc:X.calm=true)(hg:Gl X "min")(hm:X.mg "min" = none)(ha:PE X a ta)(hb:PE X b tb)(hs:starEach [a] X.env=[(false,eval a X.env)]):PE X (.Call (.Name "min" p) [a] [⟨some "default",b,kp⟩] pos) (f_ X.K ta tb):=by
 intro pins s σ H Q I h
 refine wpAny_Call_Name_kw (Yc I hg hm PyProof.Rows.boot_min ?_ (by decide) (by decide))
 refine callWith_kw (jk (jU ha JN (by rw[hs]; rfl) pos pins s σ H (fun vs H1=>match vs with
  | [x]=>tb σ H1 fun y H2=>∃p is d,x=.ref p/\y=.int d/\jt X.K H2 p (is.map V.int)/\Q (.int ((yK is).getD d)) H2
  | _=>False) I h) fun us s1 ⟨vs,H1,I1,r,q⟩=>?_) (by rw[hs]; rfl) (by rw[hs]; rfl) rfl rfl
 match vs,r,q with
 | [x],.cons r1 .nil,q=>
  refine jk (bu hb c_ pos pins s1 σ H1 (fun zs H2=>match zs with
   | [y]=>∃p is d,x=.ref p/\y=.int d/\jt X.K H2 p (is.map V.int)/\Q (.int ((yK is).getD d)) H2
   | _=>False) I1 q) fun ws s2 ⟨zs,H2,I2,rz,q2⟩=>?_
  match zs,rz,q2 with
  | [y],.cons r2 .nil,q2=>
   obtain⟨pp,is,d,rfl,rfl,hq,q⟩:=q2
   cases r1
   obtain⟨t,rfl⟩:=r2
   obtain⟨its,rv,pl,hz⟩:=I2.list hq
   have hlen:its.length=is.length:=by
    have:=rv.length
    rw[List.length_map]at this
    omega
   refine Ba (I2.ok.hd hc) pl.isList hlen (fun i v hv=>?_) fun v h' tk hv hk=>?_
   ·have hv:its[i]?=some v:=by simpa using hv
    have hi:i < is.length:=by
     rw[<-hlen]
     exact(List.getElem?_eq_some_iff.mp hv).1
    obtain⟨u,eu,ru⟩:=rv.get (i:=i) (x:=V.int is[i]) (by simp[hi])
    cases hv.symm.trans eu
    obtain⟨t,rfl⟩:=ru
    exact⟨t,by rw[List.getElem?_eq_getElem hi]; rfl⟩
   ·have J:Inv X pins σ H2 { s2 with heap:=h',toks:=tk }:=I2.turnedL (t':=tk) (ch:=[s2.heap.objs.size]) (fun b hb=>by
     rw[List.mem_singleton]at hb
     subst hb
     exact I2.fpOk (wPa _) (I2.hok.fresh (wPa _))) fun c o hc' e'=>hk c o (by simpa using hc') e'
    refine⟨.int ((yK is).getD d),H2,J,?_,q⟩
    cases hm':yK is with
    | none=>rw[hm']at hv; exact⟨t,hv⟩
    | some m=>rw[hm']at hv; exact hv
end
end L2
namespace DS
open PySem PySem.Spec PyProof.Rows L2
section
variable {X:Cx} {K:Fr} {a b e o:Expr} {pos:Pos} {da db de dn:DE}
def kq:List D->Option D
 | [.lst l]=>(yO l).bind fun is=>(yK is).bind fun m=>some (.int m)
 | _=>none
@[simp] theorem iP(l:List D):kq [.lst l]=(yO l).bind fun is=>(yK is).bind fun m=>some (.int m):=rfl
theorem dQ:Fn K (Ak K) kq:=by
 intro O H ks ds vs d Q h hn e q
 unfold kq at e
 split at e
 ·obtain⟨is,e1,e⟩:=j0 e
  obtain⟨m,e2,e⟩:=j0 e
  cases e
  obtain⟨v,rfl,r⟩:=YK h
  obtain⟨p,xs,rfl,h1,h2⟩:=r.lst
  rw[Z2 e1 h2]at h1
  exact⟨p,is,m,rfl,jt.of h1,e2,q _ H (j4.refl H) (by rw[j6])⟩
 ·cases e
def U_:D->D->Option D
 | .lst l,.int d=>(yO l).bind fun is=>some (.int ((yK is).getD d))
 | _,_=>none
@[simp] theorem iQ(l:List D)(d:Int):U_ (.lst l) (.int d)=(yO l).bind fun is=>some (.int ((yK is).getD d)):=rfl
theorem dR{p kp:Pos}(hc:X.calm=true)(hg:Gl X "min")(hm:X.mg "min" = none)(ha:PE X a (tR K da))(hb:PE X b (tR K db))(hs:starEach [a] X.env=[(false,eval a X.env)])(hK:X.K=K):PE X (.Call (.Name "min" p) [a] [⟨some "default",b,kp⟩] pos) (tE K (d2 U_ da db)):=by
 subst hK
 refine jz (Bb hc hg hm ha hb hs) fun σ H Q ⟨H0,O0,ρ,O,d,R,ed,q⟩=>?_
 obtain⟨x,e1,ed⟩:=j0 ed
 obtain⟨y,e2,ed⟩:=j0 ed
 refine⟨H0,O0,ρ,O,x,R,e1,fun v H1 s1 r1=>⟨H0,O0,ρ,O,y,R.grow s1,e2,fun v2 H2 s2 r2=>?_⟩⟩
 unfold U_ at ed
 split at ed
 ·obtain⟨is,e3,ed⟩:=j0 ed
  cases ed
  obtain⟨p,xs,rfl,h1,h2⟩:=(r1.same s2).lst
  rw[Z2 e3 h2]at h1
  exact⟨p,is,_,rfl,r2.int,jt.of h1,q _ H2 (s1.trans s2) (by rw[j6])⟩
 ·cases ed
end
end DS
namespace L2
open PySem PySem.Spec PyProof.Rows
theorem JJ.ex{P:Program}{w:World}{H:Hp}{h:Heap}{a:Addr}{o:HO}(x:JJ P w H h a o):∃u,h.get? a=some u:=by
 cases o with
 | lst xs=>obtain⟨_,_,_,_,e⟩:=x; exact⟨_,e⟩
 | tup xs=>obtain⟨_,_,_,_,e,_⟩:=x; exact⟨_,e⟩
 | dK kvs=>obtain⟨_,_,_,_,o,_,_,e,_⟩:=x; exact⟨_,e⟩
 | dT kvs=>obtain⟨_,_,_,_,o,_,_,e,_⟩:=x; exact⟨_,e⟩
 | dD kvs ep=>obtain⟨_,_,_,_,_,o,_,e,_⟩:=x; exact⟨_,e⟩
 | set S n=>obtain⟨o,_,_,_,e,_⟩:=x; exact⟨_,e⟩
 | ins C dx fs=>obtain⟨_,_,_,e,_⟩:=x; exact⟨_,e⟩
 | own y=>exact x
 | xd fs=>obtain⟨_,⟨_,_,_,e,_⟩,_⟩:=x; exact⟨_,e⟩
 | rng lo hi=>obtain⟨_,_,_,e⟩:=x; exact⟨_,e⟩
 | frz ob u=>obtain⟨e,_⟩:=x; exact⟨_,e⟩
 | tbl ps=>exact⟨_,(show h.get? a=some _ from x)⟩
 | met f y=>exact⟨_,(show h.get? a=some _ from x)⟩
 | ext φ=>obtain⟨_,e,_⟩:=x; exact e
structure Fly (P:Program) (w:World) (outer:List Env) (H:Hp) (s:Shared) (H':Hp) (e:Addr) (cls:Value) (s':Shared):Prop where
 os:s'.os=s.os
 bare:AllBare s'.gens
 un:Un (Jd outer) [] H H' s.heap s'.heap
 hok:JY P w H' s'.heap
 fly:∃B a0,Heap.FlyingW B outer e cls a0 s'.heap/\(∀b u,H' b=some u->∃o,B.get? b=some o)/\∀b o,s.heap.get? b=some o->b∉Jd outer->∃o',B.get? b=some o'
def Ye(P:Program)(w:World):vE:=fun outer H s E ev s'=>∃e cls H',ev=.ref e/\Fly P w outer H s H' e cls s'/\E cls none H'
theorem F7{fs:List Addr}{H0 H:Hp}{h0 h h':Heap}{L:Addr}(u:Un fs [] H0 H h0 h)(kB:∀b o,h.get? b=some o->b≠L->b∉fs->h'.get? b=some o)
  (ks:∀b o,b∈fs->h.get? b=some o->∃sl,h'.get? b=some { o with slots:=sl }) (hL:h0.get? L=none):Un fs [] H0 H h0 h':=by
 have ne:∀b o,h0.get? b=some o->b≠L:=fun b o e z=>by rw[z,hL]at e; cases e
 refine⟨fun b o e n hb hx=>kB b o (u.keep b o e n hb hx) (ne b o e) hb,fun b o e n hb hx=>?_,u.free,fun b o e hx=>?_,u.tups,u.frzs,u.tbls⟩
 ·obtain⟨sl,q⟩:=u.slot b o e n hb hx
  obtain⟨sl',q'⟩:=ks b _ hb q
  exact⟨sl',q'⟩
 ·obtain⟨o',q⟩:=u.there b o e hx
  by_cases hb:b∈fs
  ·obtain⟨sl,q'⟩:=ks b o' hb q; exact⟨_,q'⟩
  ·exact⟨_,kB b o' q (ne b o e) hb⟩
section
variable {P:Program} {w:World} {K:PySem.W.Frag} {mg:Str->Option Value} {base:Heap} {N:List Str} {qual:Str} {scope:Scope} {f:Addr} {cd:Value} {A:Around} {outer:List Env} {s0:Shared} {H0:Hp} {E:XK}
theorem Xw{pins:List (Addr×Obj)}{σ:St}{H:Hp}{s s2:Shared}{e:Addr}{cls:Value}{vs:List Value}(I:Inv (Ju (Ye P w) P w K mg base N qual scope f cd A outer s0 H0 E) pins σ H s)
  (hx:Heap.MadeExcOf s.heap s2.heap e cls vs) (hos:s2.os=s.os) (hg:s2.gens=s.gens) (hE:E cls none H):(Ju (Ye P w) P w K mg base N qual scope f cd A outer s0 H0 E).xe (.ref e) s2:=by
 have fr:s.heap.FunFrames base (envOfC qual scope s0.heap.objs.size f cd::outer):=I.stack
 have hin:∀env∈(envOfC qual scope s0.heap.objs.size f cd::outer),∀b,env.frame=some b->b∈Jd (envOfC qual scope s0.heap.objs.size f cd::outer):=fun env he b hb=>List.mem_filterMap.mpr ⟨env,he,hb⟩
 have memb:∀b,b∈Jd (envOfC qual scope s0.heap.objs.size f cd::outer)->b=s0.heap.objs.size∨b∈Jd outer:=fun b hb=>by
  unfold Jd at hb
  rw[List.filterMap_cons]at hb
  exact List.mem_cons.mp hb
 have hL0:s0.heap.get? s0.heap.objs.size=none:=Heap.get?_none_of_le (wPa _)
 show wpAny (model P w) (A.deeper (envOfC qual scope s0.heap.objs.size f cd)) (leaving (envOfC qual scope s0.heap.objs.size f cd) (.ref e)) _ _ s2
 refine wpAny_leaves_madeW (base:=PySem.W.hideAll s.heap (Jd (envOfC qual scope s0.heap.objs.size f cd::outer))) (h:=s.heap) (outer:=outer) (L:=s0.heap.objs.size) I.ok.frames rfl (fun b o q=>PySem.W.of_hideAll _ q) (PySem.W.funFrames_hide fr hin) hx fun h' t x1 x2 x3 x4=>?_
 have kB:∀b o,s.heap.get? b=some o->b≠s0.heap.objs.size->b∉Jd outer->h'.get? b=some o:=fun b o q n1 n2=>x1.1 b o (PySem.W.hideAll_get _ q fun z=>(memb b z).elim n1 n2)
 have ks:∀b o,b∈Jd outer->s.heap.get? b=some o->∃sl,h'.get? b=some { o with slots:=sl }:=fun b o hb q=>by
  obtain⟨_,o',ho',hd⟩:=fr.mem (b:=b) (by show b∈Jd _; unfold Jd; rw[List.filterMap_cons]; exact wMa _ hb)
  rw[q]at ho'; cases ho'
  exact x4 b o (hx.keeps b o q) hd
 have VM:∀b u,H b=some u->b≠s0.heap.objs.size/\b∉Jd outer:=fun b u q=>by
  have z:=fun hb=>I.stkFree b hb
  refine⟨fun n=>?_,fun n=>?_⟩
  ·have:=z (by show b∈Jd (envOfC qual scope s0.heap.objs.size f cd::outer); unfold Jd; rw[List.filterMap_cons]; exact List.mem_cons.mpr (.inl n)); rw[q]at this; cases this
  ·have:=z (by show b∈Jd (envOfC qual scope s0.heap.objs.size f cd::outer); unfold Jd; rw[List.filterMap_cons]; exact wMa _ n); rw[q]at this; cases this
 refine⟨e,cls,H,rfl,⟨hos.trans I.os,?_,F7 I.base kB ks hL0,?_,⟨_,_,x1,fun b u q=>?_,fun b o q n=>?_⟩⟩,hE⟩
 ·show AllBare s2.gens; rw[hg]; exact I.bare
 ·intro a o q
  refine(I.hok a o q).stay (fun b u hb z=>?_) (fun _ z=>z) fun _ _ z=>z
  rcases hb with hb | hb
  ·rw[hb]at z⊢; exact kB a u z (VM a o q).1 (VM a o q).2
  ·exact kB b u z (VM b _ hb).1 (VM b _ hb).2
 ·obtain⟨o,z⟩:=(I.hok b u q).ex
  exact⟨o,PySem.W.hideAll_get _ z fun m=>(memb b m).elim (VM b u q).1 (VM b u q).2⟩
 ·obtain⟨o',z⟩:=I.base.there b o q (by simp[Ju])
  exact⟨o',PySem.W.hideAll_get _ z fun m=>(memb b m).elim (fun y=>by rw[y,hL0]at q; cases q) n⟩
end
end L2
namespace L2
open PySem PySem.Spec PyProof.Rows
theorem Bc{K:PySem.W.Frag}{h:Heap}{mg:Str->Option Value}{x:Str}{C:Addr}{bm:List Value}{nid:String}(X:K.In h)(hm:mg x=some (.ref C))(q:PySem.W.excIn K C bm nid=true):OwnCls x C bm nid mg h:=by
 refine⟨hm,?_⟩; unfold PySem.W.excIn at q; split at q
 ·rename_i dd cl slots hobj; split at q
  ·rename_i C1 tl x0 x1 x2 x3 nn x5 hmro hslots
   simp only[Bool.and_eq_true,beq_iff_eq,Bool.not_eq_true']at q; obtain⟨⟨⟨⟨⟨rfl,rfl⟩,z1⟩,z2⟩,z3⟩,z4⟩:=q
   obtain⟨c1,c2,c3,c4,c5,c6,c7,c8,c9,c10,c11⟩:=cl; dsimp only at hmro z1 z3 z4; subst hmro z1
   have e:slots=#[x0,x1,x2,x3,some (.builtin nn),x5]:=by obtain⟨l⟩:=slots; simp only at hslots; rw[hslots]
   subst e
   exact⟨tl,c4,c1,c5,c2,c6,c7,c8,c9,c10,dd,x0,x1,x2,x3,x5,_,X _ _ hobj,.of_isNs (PySem.W.isNs_of_in X z3),PySem.W.nsMap_none_of_in X z3 z4,PySem.W.tail_of_in X z2⟩
  ·cases q
 ·cases q
section
variable {P:Program} {w:World} {K:PySem.W.Frag} {mg:Str->Option Value} {base:Heap} {N:List Str} {qual:Str} {scope:Scope} {f:Addr} {cd:Value} {A:Around} {outer:List Env} {s0:Shared} {H0:Hp} {E:XK}
theorem Xx{x:Str}{np cpos pos cp:Pos}{z:Str}{j:Nat}{C:Addr}{bm:List Value}{B newId initId:String}(henv:envOfC qual scope s0.heap.objs.size f cd=envOf qual scope s0.heap.objs.size f cd)
  (ens:PySem.W.nsIn K mainGlobals x=some (some (.ref C))) (exi:PySem.W.excIn K C bm newId=true) (FB:ExcBaseFacts B newId initId bm) (hk:scope.kind=.function) (hx:scope.names.lookup x=some .globalImplicit) (hd:(x==("__debug__" : Str))=false:=by decide):
  PS (Ju (Ye P w) P w K mg base N qual scope f cd A outer s0 H0 E) (.Raise (some (.Call (.Name x np) [.Constant (.str z) j cp] [] cpos)) none pos) (fun _ _ H=>E (.ref C) none H):=by
 intro pins s σ H D I h
 obtain⟨m,F⟩:=I.fr
 have O:OwnCls x C bm newId mg base:=Bc I.mod.kin (PySem.W.mg_of I.mod.kin I.mod.glob ens) exi
 have key:wpAny (model P w) (A.deeper (envOfC qual scope s0.heap.objs.size f cd)) (spliced (backTo cpos (starEach [.Constant (.str z) j cp] (envOfC qual scope s0.heap.objs.size f cd))))
   (fun vs s₂=>vs.length<=sizeLine/\(∀b o,base.get? b=some o->s₂.heap.get? b=some o)/\∀h' e,Heap.MadeExcOf s₂.heap h' e (.ref C) vs->(Ju (Ye P w) P w K mg base N qual scope f cd A outer s0 H0 E).xe (.ref e) { s₂ with heap:=h' })
   (Ju (Ye P w) P w K mg base N qual scope f cd A outer s0 H0 E).xe s:=
  jk ((jU (X:=Ju (Ye P w) P w K mg base N qual scope f cd A outer s0 H0 E) qQ JN) cpos pins s σ H (fun vs H'=>vs.length=1/\E (.ref C) none H') I ⟨rfl,h⟩) fun us s1 ⟨vs,H1,I1,r,q1,q⟩=>
   ⟨by rw[<-r.length,q1]; decide,I1.bk,fun h' e hm=>Xw I1 (s2:={ s1 with heap:=h' }) hm rfl rfl q⟩
 show wpAny (model P w) (A.deeper (envOfC qual scope s0.heap.objs.size f cd)) (exec _ (envOfC qual scope s0.heap.objs.size f cd)) _ _ s
 have hh:(A.deeper (envOfC qual scope s0.heap.objs.size f cd)).handled=none:=I.ok.hd rfl
 rw[henv]at key hh⊢
 exact Raise_own F I.mod.glob O FB hh key rfl rfl hk hx hd
end
noncomputable abbrev Cx.suite(X:Cx)(e:Addr)(oe:Obj):Cx:={ X with A:=X.A.mark (some (.ref e)),calm:=false,xe:=fun _ _=>False,pn:=(e,oe)::X.pn }
theorem Inv.suite{X:Cx}{pins:List (Addr×Obj)}{σ:St}{H:Hp}{s:Shared}{e:Addr}{oe:Obj}(I:Inv X pins σ H s)(hp:s.heap.get? e=some oe/\H e=none/\e≠X.env.locals/\e∉X.fs/\∀v,oe.data≠.cell v):Inv (X.suite e oe) pins σ H s:=
 ⟨⟨I.ok.mod,I.ok.kind,I.ok.glob,I.ok.blt,I.ok.above,I.ok.inj,I.ok.has,I.ok.cab,(fun z=>nomatch z),I.ok.frames,I.ok.stk,I.ok.exf,I.ok.bs,I.ok.bsz,I.ok.noex,I.ok.exfs,I.ok.funs,I.ok.frf⟩,I.os,I.bare,I.base,I.loc,I.cell,I.free,I.freeC,
  (fun p h=>(List.mem_cons.mp (show p∈(e,oe)::(X.pn++pins) from h)).elim (fun z=>by rw[z]; exact hp) (I.pin p)),I.hok,I.len⟩
theorem Inv.unsuite{X:Cx}{pins:List (Addr×Obj)}{σ:St}{H:Hp}{s:Shared}{e:Addr}{oe:Obj}(I:Inv (X.suite e oe) pins σ H s)(hd:X.calm=true->X.A.handled=none):Inv X pins σ H s:=
 ⟨⟨I.ok.mod,I.ok.kind,I.ok.glob,I.ok.blt,I.ok.above,I.ok.inj,I.ok.has,I.ok.cab,hd,I.ok.frames,I.ok.stk,I.ok.exf,I.ok.bs,I.ok.bsz,I.ok.noex,I.ok.exfs,I.ok.funs,I.ok.frf⟩,I.os,I.bare,I.base,I.loc,I.cell,I.free,I.freeC,(fun p h=>I.pin p (wMa _ h)),I.hok,I.len⟩
theorem Fly.move{X:Cx}{pins:List (Addr×Obj)}{σ:St}{H H':Hp}{s s':Shared}{e:Addr}{cls:Value}{B:Heap}{h:Heap}{t:Nat}(I:Inv X pins σ H s)(F:Fly X.prog X.w X.stack H s H' e cls s')
  (hB:B.StaysIn s'.heap) (c1:∀b u,H' b=some u->∃o,B.get? b=some o) (c2:∀b o,s.heap.get? b=some o->b∉Jd X.stack->∃o',B.get? b=some o')
  (k:B.StaysIn h) (fr:s'.heap.FunFrames B X.stack) (up:s'.heap.UpToSlots h):Inv X pins σ H' { s' with heap:=h,toks:=t }:=by
 have u:=F.un
 have at':∀b o,s'.heap.get? b=some o->(∃o',B.get? b=some o')->h.get? b=some o:=fun b o q ⟨o',z⟩=>by
  have:=hB b o' z; rw[q]at this; cases this; exact k b o z
 have sl:∀b o,b∈Jd X.stack->s'.heap.get? b=some o->∃sl,h.get? b=some { o with slots:=sl }:=fun b o hb q=>by
  obtain⟨_,o',ho',hd⟩:=fr.mem hb
  rw[q]at ho'; cases ho'
  exact up b o q hd
 refine I.call' (s':={ s' with heap:=h,toks:=t }) (ch:=[]) F.os ⟨fun b o q n hb hx=>at' b o (u.keep b o q n hb hx) (c2 b o q hb),fun b o q n hb hx=>?_,u.free,fun b o q hx=>?_,u.tups,u.frzs,u.tbls⟩ ?_ F.bare fun b z=>vDa z (by simp)
 ·obtain⟨l,z⟩:=u.slot b o q n hb hx
  obtain⟨l',z'⟩:=sl b _ hb z
  exact⟨l',z'⟩
 ·obtain⟨o',z⟩:=u.there b o q hx
  by_cases hb:b∈Jd X.stack
  ·obtain⟨l',z'⟩:=sl b _ hb z; exact⟨_,z'⟩
  ·exact⟨_,at' b o' z (c2 b o q hb)⟩
 ·intro a o q
  refine(F.hok a o q).stay (fun b u hb z=>at' b u z ?_) (fun _ z=>z) fun _ _ z=>z
  rcases hb with hb | hb
  ·rw[hb]; exact c1 a o q
  ·exact c1 b _ hb
end L2
namespace L2
open PySem PySem.Spec PyProof.Rows
section
variable {X:Cx}
theorem Inv.gone{pins:List (Addr×Obj)}{σ:St}{H:Hp}{s:Shared}{i:Nat}{n:Str}{h':Heap}{u:Option Value}(I:Inv X pins σ H s)(hN:X.N.Nodup)(hi:X.N[i]?=some n)
  {m:Str->Option Value} (hm:s.heap.Ns X.env.locals m) (hn':h'.Ns X.env.locals (fun x=>if x=n then u else m x)) (hs:Heap.SameBut X.env.locals s.heap h'):Inv X pins (σ.set i none) H { s with heap:=h' }:=by
 obtain⟨m0,hn,hl⟩:=id I.loc
 have em:m0=m:=by
  obtain⟨o,es,ep,h1,h2,_,h4⟩:=hn
  obtain⟨o',es',ep',h1',h2',_,h4'⟩:=hm
  rw[h1]at h1'; cases h1'
  rw[h2]at h2'; cases h2'
  funext x; rw[<-h4,<-h4']
 subst em
 have neL:∀b o,X.s₀.heap.get? b=some o->b≠X.env.locals:=fun b o e=>wTa (Nat.lt_of_lt_of_le (wLa e) I.ok.above)
 refine⟨I.ok,I.os,I.bare,⟨fun b o e n hb hx=>(hs.2 b (neL b o e)).trans (I.base.keep b o e n hb hx),fun b o e n hb hx=>?_,I.base.free,fun b o e hx=>?_,I.base.tups,I.base.frzs,I.base.tbls⟩,⟨_,hn',fun j y v' e1 e2 e3=>?_⟩,fun y c e=>?_,I.free,I.freeC,fun p hp=>?_,fun b ob e=>?_,by rw[List.length_set]; exact I.len⟩
 ·obtain⟨sl,e1⟩:=I.base.slot b o e n hb hx
  exact⟨sl,(hs.2 b (neL b o e)).trans e1⟩
 ·obtain⟨o',e1⟩:=I.base.there b o e hx
  exact⟨o',(hs.2 b (neL b o e)).trans e1⟩
 ·by_cases hj:j=i
  ·subst hj
   rw[List.getElem?_set]at e2
   split at e2
   ·split at e2 <;> cases e2
   ·rename_i z; exact vDa rfl z
  ·rw[List.getElem?_set_ne (Ne.symm hj)]at e2
   obtain⟨u',r',q⟩:=hl j y v' e1 e2 e3
   refine⟨u',r',?_⟩
   rcases q with⟨k,e⟩ | ⟨k,c,e,z⟩
   ·refine .inl ⟨k,?_⟩
    have:y≠n:=fun e=>hj (Ug hN e1 (e▸hi))
    simp[this,e]
   ·exact .inr ⟨k,c,e,z.sameBut hs (I.cne y c e)⟩
 ·obtain⟨w',z⟩:=I.cell y c e
  exact⟨w',z.sameBut hs (I.cne y c e)⟩
 ·obtain⟨e,n,ne,nf,d⟩:=I.pin p hp
  exact⟨(hs.2 p.1 ne).trans e,n,ne,nf,d⟩
 ·refine(I.hok b ob e).stay (fun c w' hc q=>(hs.2 c ?_).trans q) (fun _ q=>q) fun _ _ q=>q
  rintro rfl
  rcases hc with rfl | hc
  ·rw[I.free]at e; cases e
  ·rw[I.free]at hc; cases hc
theorem ZV{M:Model}{A:Around}{E:Value->Shared->Prop}{pins:List (Addr×Obj)}{σ:St}{H:Hp}{s:Shared}{i:Nat}{n:Str}{pos:Pos}{Q:Unit->Shared->Prop}(I:Inv X pins σ H s)(hN:X.N.Nodup)(hi:X.N[i]?=some n)(hl:X.env.kindOf n=some .local)
  (h:∀s',Inv X pins (σ.set i none) H s'->Q () s'):wpAny M A (do bindName X.env n .none; unbindBehindTheSuite X.env n pos) Q E s:=by
 have hp:(X.env.scope.kind==.class||(X.env.scope.kind==.module&&X.env.locals != X.env.globals))=false:=by rw[I.ok.kind]; rfl
 refine wAa (wpAny_bindName (Zb (v:=.non) I hN hi (.inl hl) rfl (fun s1 I1=>?_) (.inr hl)))
 unfold unbindBehindTheSuite
 refine wpAny_onRaise ?_
 obtain⟨m,hm,hv⟩:=id I1.loc
 have hlen:i < σ.length:=by rw[I.len]; exact(List.getElem?_eq_some_iff.mp hi).1
 obtain⟨u,r,lk⟩:=hv i n .non hi (by rw[List.getElem?_set_self hlen]) (.inl hl)
 have hmn:m n=some u:=by
  rcases lk with lk | ⟨k,_⟩
  ·exact lk.2
  ·rw[hl]at k; rcases k with k | k <;> cases k
 refine wpAny_unbindName_local hl hm hmn hp fun h' w hn' hs=>h _ ?_
 have J:=I1.gone hN hi hm hn' hs
 rw[List.set_set]at J
 exact J
end
end L2
namespace L2
open PySem PySem.Spec PyProof.Rows PySem.Builtin
open PySem.W (Looks)
structure ExC (K:PySem.W.Frag) (C:Addr):Prop where
 ga:PySem.W.findIn K (.ref C) "__getattribute__" = some (some (.builtin "BaseException.__getattribute__"))
 gx:PySem.W.findIn K (.ref C) "__getattr__" = some none
 at':PySem.W.findIn K (.ref C) "__class__" = some (some (.builtin "object.__class__"))
 gt:PySem.W.specialIn K (.builtin "object.__class__") "__get__" = some (some (.builtin "getset_descriptor.__get__"))
 tk:PySem.W.takesIn K (.builtin "object.__class__")=some true
 ob:PySem.W.mroIn K C (.type "object")=some true
 be:PySem.W.subIn K (.ref C) (.type "BaseException")=some true
 cl:PySem.W.isClsIn K C=true
def Kl(e C:Addr)(h:Heap):Prop:=∃o,h.get? e=some o/\o.cls=.ref C
section
variable {K:PySem.W.Frag} {e C:Addr}
theorem Kl.ty{M:Model}{h:Heap}(x:Kl e C h):PySem.W.Looks M h (typeOf (.ref e)) (.ref C):=by
 obtain⟨o,h1,h2⟩:=x
 have:=(PySem.W.Looks.ld (M:=M) (part:=none) h1).andThen (f:=fun o=>pure o.cls) .now
 rw[h2]at this; exact this
theorem Be{M:Model}{h:Heap}(k:ExC K C)(X:K.In h):PySem.W.Looks M h (Builtin.ObjectAttr.find (.ref e) (.ref C) "__class__") (.bind (.builtin "getset_descriptor.__get__") (.builtin "object.__class__")):=by
 have L1:=PySem.W.looks_findIn (M:=M) X k.at'
 have L2:=PySem.W.looks_specialIn (M:=M) X k.gt
 have L3:=PySem.W.looks_takesIn (M:=M) X k.tk
 refine L1.andThen (L2.andThen ?_)
 intro A' Q' E' s' k' q'
 refine wAa (wAa (L3 A' _ E' s' k' ?_))
 exact wBa (wAa (wpAny_rule (wBa q')))
theorem dS(k:ExC K C){prog:Program}{w:World}{A:Around}{s:Shared}{R:Result->Shared->Prop}{tp:Value}(X:K.In s.heap)(x:Kl e C s.heap)(h:R (.ok (.ret (.ref C))) s):
  codeAny (model prog w) A (.call (.builtin "getset_descriptor.__get__") ⟨[.builtin "object.__class__",.ref e,tp],[]⟩) R s:=by
 obtain⟨hh,g,dr,t,os⟩:=s
 have L0:=x.ty (M:=model prog w); have L1:=PySem.W.looks_mroIn (M:=model prog w) X k.ob
 refine codeAny_call_builtin PySem.W.KF.slot_gs.plain PySem.W.KF.entry_gs (PySem.W.KF.slot_gs.check _ _ _ _ _ _ _ _ PySem.W.KF.type_class (PySem.W.KF.args_gs _ _ _) ?_)
 unfold Builtin.«getset_descriptor.__get__» Builtin.Getset_descriptor.descrGet; rw[PySem.W.dga_obj]; refine wAa (wBa ?_)
 unfold Builtin.Getset_descriptor.descrGetter Builtin.Getset_descriptor.descrCheckInstance Builtin.Getset_descriptor.descrNameAndClass isInstance; simp only[PySem.W.KF.owner_class]; repeat (open PySem.W in lk)
 refine⟨Code.quiet_builtin _ (by decide +kernel),vSa PySem.W.KF.entry_class ?_⟩; unfold Builtin.«object.__class__» shownTypeOf; repeat (open PySem.W in lk)
 exact h
theorem F8(SB:ExcAttrFacts "ValueError")(k:ExC K C){prog:Program}{w:World}{A:Around}{E:Value->Shared->Prop}{Q:Option Value->Shared->Prop}{s:Shared}(X:K.In s.heap)(x:Kl e C s.heap)(h:Q (some (.ref C)) { s with toks:=s.toks+1 }):
  wpAny (model prog w) A (getAttr? (.ref e) "__class__") Q E s:=by
 obtain⟨hh,g,d,t,os⟩:=s
 have L0:=x.ty (M:=model prog w)
 have L1:=PySem.W.looks_findIn (M:=model prog w) X k.ga
 have L2:=PySem.W.looks_findIn (M:=model prog w) X k.gx
 have L3:=Be (e:=e) (M:=model prog w) k X
 unfold getAttr? getAttrBy? getAttrBy
 refine wAa (wpAny_mkText (wAa (wpAny_attempt (wDa (wAa (L0.at (wAa (L1.at ?_))))))))
 show wpAny _ _ (getAttrByItsOwn _ _ _ _ _ _) _ _ _
 unfold getAttrByItsOwn hookBefore
 refine wAa (L2.at (wAa (wpAny_attempt (wDa ?_))))
 show wpAny _ _ (boundAndCalled _ _ _) _ _ _
 unfold boundAndCalled
 have hb:bindSpecial (.builtin "BaseException.__getattribute__") (.ref e)=pure (.builtin "BaseException.__getattribute__",[.ref e]):=SB.ga.bind (.ref e)
 rw[hb]
 refine wAa (wBa (wpAny_call (codeAny_call_builtin SB.ga.plain F.entry_bexc_ga ?_)))
 have hsb:Looks (model prog w) hh (isInstance (.ref e) (.type "BaseException")) true:=L0.andThen (PySem.W.looks_subIn (M:=model prog w) X k.be)
 have ha:=F.args_bexc_ga (.ref e) (.str "__class__" t)
 have hk:builtinKind "BaseException.__getattribute__" = some .slot:=by decide +kernel
 have hsplit:splitId "BaseException.__getattribute__" = some ("BaseException", "__getattribute__"):=by decide +kernel
 simp only[checkBuiltinCall,hk,hsplit]
 refine wAa (hsb.at ?_)
 repeat (first | assumption | wp_step)
 have x0:=x
 obtain⟨o,h1,h2⟩:=x0
 refine wpAny_loadPart_at h1 (wBa ?_)
 rw[h2]
 refine wAa (L3.at ?_)
 show wpAny _ _ (ObjectAttr.bindTo _ _ _ _) _ _ _
 unfold ObjectAttr.bindTo
 refine wAa (wDa (wpAny_call (dS k X x ?_)))
 exact wBa (PySem.W.handed_on rfl (wBa h))
theorem dU(k:ExC K C):PySem.W.KitX K (.ref e) (.ref C) (Kl e C) where
 ty:=fun M h _ x=>x.ty
 it:=fun M h X _=>by
  have z:=k.cl
  unfold PySem.W.isClsIn PySem.W.clsIn at z
  split at z
  ·rename_i ho
   intro A' Q' E' s' k' q'
   exact wAa (wpAny_loadPart (k' _ _ (X _ _ ho)) (wBa q'))
  ·cases z
 ne:=fun h tp dd its n sl X htp=>by
  have z:=k.cl
  refine Bool.eq_false_iff.mpr fun q=>?_
  have e:C=tp:=Value.ref.inj (beq_iff_eq.mp q)
  subst e
  unfold PySem.W.isClsIn PySem.W.clsIn at z
  split at z
  ·rename_i ho
   have y:=(X _ _ ho).symm.trans htp; cases y
  ·cases z
 ca:=fun X x h=>F8 F.excAttr_ValueError k X x h
variable {X:Cx}
def HW(K:PySem.W.Frag)(pn:List (Addr×Obj)):List V->Hp->VK->Prop:=fun vs H1 Q=>∃e oe C D b,vs=[.ref e,.ref D]/\(e,oe)∈pn/\oe.cls=.ref C/\ExC K C/\PySem.W.kitOne K (.ref C) (.ref D)=some b/\Q (.bl b) H1
theorem Xy:yj X (.builtin "isinstance") (HW X.K X.pn):=by
 intro pins s σ H xs us Q I r h
 obtain⟨e,oe,C,D,b,rfl,hp,hcl,k,hb,q⟩:=h
 cases r with
 | cons r1 r2=>
  cases r2 with
  | cons r3 r4=>
   cases r4
   cases r1; cases r3
   have hpe:=I.pin (e,oe) (vIa _ hp)
   exact PySem.W.kia_one (dU k) I.kIn ⟨oe,hpe.1,hcl⟩ hb (by intro z; cases z) fun tk=>⟨.bl b,H,I.tok tk,rfl,q⟩
end
end L2
namespace L2
open PySem PySem.Spec PyProof.Rows
section
variable {X:Cx}
def FH(X:Cx)(pins:List (Addr×Obj))(σ:St)(Er:Value->Hp->Prop)(ev:Value)(s':Shared):Prop:=
 ∃H1 s1 e cls H',ev=.ref e/\Inv X pins σ H1 s1/\Fly X.prog X.w X.stack H1 s1 H' e cls s'/\Er cls H'
noncomputable abbrev g6:=St->Hp->(Value->Hp->Prop)->Prop
def vN(X:Cx)(bd:List Stmt)(tb:g6):Prop:=∀(pins:List (Addr×Obj)) (s:Shared) (σ:St) (H:Hp) (Er:Value->Hp->Prop),Inv X pins σ H s->tb σ H Er->
 wpAny (model X.prog X.w) X.A (execs bd X.env) (fun _ _=>False) (FH X pins σ Er) s
def FI(X:Cx)(e:Expr)(tb:g6):Prop:=∀(pins:List (Addr×Obj)) (s:Shared) (σ:St) (H:Hp) (Er:Value->Hp->Prop),Inv X pins σ H s->tb σ H Er->
 wpAny (model X.prog X.w) X.A (eval e X.env) (fun _ _=>False) (FH X pins σ Er) s
def Fa(K:PySem.W.Frag)(Dc:Addr)(tb:g6)(i:Nat)(u:Addr->Obj->TS):TS:=fun D σ H=>tb σ H fun cls H2=>
 PySem.W.exmOne K cls (.ref Dc)=some true/\∀(e:Addr) (oe:Obj),oe.cls=cls->H2 e=none->
  u e oe { nx:=fun σ' H'=>D.nx (σ'.set i none) H',rt:=D.rt,bk:=fun σ' H'=>D.bk (σ'.set i none) H',ct:=fun σ' H'=>D.ct (σ'.set i none) H' } (σ.set i (some (.ref e))) H2
theorem Bf{Dc:Addr}{x n:Str}{np hpos tpos:Pos}{bd:List Stmt}{b₀:Stmt}{suite:List Stmt}{tb:g6}{i:Nat}{u:Addr->Obj->TS}(hbd:vN X bd tb)
  (hst:X.stack=X.env::X.outer) (hfr:X.env.frame=some X.env.locals) (hNd:X.N.Nodup) (hi:X.N[i]?=some n) (hln:X.env.kindOf n=some .local) (hgx:Gl X x) (hmx:X.mg x=some (.ref Dc))
  (hu:∀e oe,jL (X.suite e oe) (b₀::suite) (u e oe)) (hdx:(x==("__debug__" : Str))=false:=by decide):
  PS X (.Try bd [.ExceptHandler (some (.Name x np)) (some n) (b₀::suite) hpos] [] [] tpos) (Fa X.K Dc tb i u):=by
 intro pins s σ H D I h
 refine wpAny_Try_except (wCa (hbd pins s σ H _ I h) (fun _ _ z=>False.elim z) fun ev s' hq=>?_)
 obtain⟨H1,s1,e,cls,H',rfl,I1,Fl,hmt,hE⟩:=hq
 obtain⟨B,a0,fl,c1,c2⟩:=Fl.fly
 have fl0:=fl
 rw[hst]at fl
 refine wpAny_looks_onW (I.ok.frames.trans (by rw[hst])) hfr fl fun h₄ held₄ sm₄=>?_
 refine wpAny_landsW held₄ fun h₅ fl₅ sm₅=>?_
 have up5:=sm₄.trans sm₅
 have I5:Inv X pins σ H' { s' with heap:=h₅,toks:=s'.toks }:=Fl.move I1 fl0.1 c1 c2 fl₅.1 fl0.2.2.1 up5
 obtain⟨oe,ws,hoe,hoec,hoed,hoe0⟩:=fl₅.first
 have hHe:H' e=none:=by
  cases z:H' e with
  | none=>rfl
  | some v=>obtain⟨o,y⟩:=c1 e v z; rw[fl0.2.1]at y; cases y
 have nfr:e∉Jd X.stack:=fun z=>by
  obtain⟨_,o,ho,hd⟩:=fl₅.2.2.1.mem (b:=e) (by rw[hst]at z; exact z)
  rw[hoe]at ho; cases ho; exact hd _ hoed
 have neL:e≠X.env.locals:=fun z=>nfr (by rw[hst]; unfold Jd; rw[List.filterMap_cons,hfr]; exact List.mem_cons.mpr (.inl z))
 have nfs:e∉X.fs:=fun z=>nfr (by rw[hst]; unfold Jd; rw[List.filterMap_cons,hfr]; exact wMa _ z)
 have J5:Inv (X.suite e oe) pins σ H' { s' with heap:=h₅,toks:=s'.toks }:=I5.suite ⟨hoe,hHe,neL,nfs,fun v z=>by rw[hoed]at z; cases z⟩
 refine wpAny_handleBy_cons (codeAny_handlers_test (vv (X:=X.suite e oe) J5 hgx hmx ?_ hdx)) (by intro q; cases q)
 have LT:PySem.W.Looks (model X.prog X.w) h₅ (typeOf (.ref e)) cls:=by
  have:=(PySem.W.Looks.ld (M:=model X.prog X.w) (part:=none) hoe).andThen (f:=fun o=>pure o.cls) .now
  rw[hoec]at this; exact this
 refine(PySem.W.exm_one I5.kIn LT hmt).here ?_
 refine codeAny_handlers_suite_as ?_
 refine lands_againW fl₅ fun h₆ fl₆ sm₆=>?_
 have I6:Inv X pins σ H' { s' with heap:=h₆,toks:=s'.toks }:=Fl.move I1 fl0.1 c1 c2 fl₆.1 fl0.2.2.1 (up5.trans sm₆)
 obtain⟨oe6,ws6,hoe6,hoec6,hoed6,_⟩:=fl₆.first
 have J6:Inv (X.suite e oe6) pins σ H' { s' with heap:=h₆,toks:=s'.toks }:=I6.suite ⟨hoe6,hHe,neL,nfs,fun v z=>by rw[hoed6]at z; cases z⟩
 refine Zb (X:=X.suite e oe6) (v:=.ref e) J6 hNd hi (.inl hln) rfl (fun s7 J7=>?_) (.inr hln)
 refine wCa (hu e oe6 pins s7 (σ.set i (some (.ref e))) H' _ J7 (hE e oe6 hoec6 hHe)) (fun fw s8 hs=>?_) (fun _ _ z=>False.elim z)
 have hd:=I.ok.hd
 cases fw with
 | next=>obtain⟨σ',H2,J,z⟩:=hs; exact ZV (J.unsuite hd) hNd hi hln fun s' I'=>⟨_,_,I',z⟩
 | brk=>obtain⟨σ',H2,J,z⟩:=hs; exact ZV (J.unsuite hd) hNd hi hln fun s' I'=>⟨_,_,I',z⟩
 | cont=>obtain⟨σ',H2,J,z⟩:=hs; exact ZV (J.unsuite hd) hNd hi hln fun s' I'=>⟨_,_,I',z⟩
 | ret v=>obtain⟨v',σ',H2,J,rv,z⟩:=hs; exact ZV (J.unsuite hd) hNd hi hln fun s' I'=>⟨v',_,_,I',rv,z⟩
theorem Bg{bd:List Stmt}{h0:ExceptHandler}{tpos:Pos}{t:TS}(hbd:jL X.nox bd t):PS X (.Try bd [h0] [] [] tpos) t:=by
 intro pins s σ H D I h
 refine wpAny_Try_except (wCa (hbd pins s σ H D (I.wish _) h) (fun fl s' hq=>?_) fun _ _ z=>False.elim z)
 have hq:=hq.unwish
 cases fl with
 | next=>exact wpAny_execs_nil hq
 | brk=>exact hq
 | cont=>exact hq
 | ret v=>exact hq
theorem Al{st:Stmt}{t1 t2:TS}(h1:PS X st t1)(h2:PS X st t2):PS X st (fun D σ H=>t1 D σ H∨t2 D σ H):=
 fun pins s σ H D I h=>h.elim (h1 pins s σ H D I) (h2 pins s σ H D I)
end
end L2
namespace L2
open PySem PySem.Spec PyProof.Rows
section
variable {P:Program} {w:World} {K:PySem.W.Frag} {mg:Str->Option Value} {base:Heap} {N:List Str} {qual:Str} {scope:Scope} {f:Addr} {cd:Value} {A:Around} {outer:List Env} {s0:Shared} {H0:Hp} {E:XK}
theorem dW:YF (Ye P w) (Ju (Ye P w) P w K mg base N qual scope f cd A outer s0 H0 E) E:=by
 rintro pins σ H s _ s' I ⟨e,cls,H',rfl,Fl,hE⟩
 obtain⟨B,a0,fl,c1,c2⟩:=Fl.fly
 have J:Inv (Ju (Ye P w) P w K mg base N qual scope f cd A outer s0 H0 E) pins σ H' s':=by
  have:=Fl.move (t:=s'.toks) I fl.1 c1 c2 fl.1 fl.2.2.1 (fun b o q _=>⟨o.slots,q⟩)
  exact this
 have hL0:s0.heap.get? s0.heap.objs.size=none:=Heap.get?_none_of_le (wPa _)
 have neL:∀b o,s0.heap.get? b=some o->b≠s0.heap.objs.size:=fun b o q z=>by rw[z,hL0]at q; cases q
 have memb:∀b,b∈Jd (envOfC qual scope s0.heap.objs.size f cd::outer)->b=s0.heap.objs.size∨b∈Jd outer:=fun b hb=>by
  unfold Jd at hb
  rw[List.filterMap_cons]at hb
  exact List.mem_cons.mp hb
 have inB:∀b o,s0.heap.get? b=some o->b∉Jd outer->∃o',B.get? b=some o':=fun b o q n=>by
  obtain⟨o',z⟩:=I.base.there b o q (by simp[Ju])
  exact c2 b o' z fun m=>(memb b m).elim (neL b o q) n
 show wpAny (model P w) (A.deeper (envOfC qual scope s0.heap.objs.size f cd)) (leaving (envOfC qual scope s0.heap.objs.size f cd) (.ref e)) _ _ s'
 refine wpAny_leaves_onW (L:=s0.heap.objs.size) J.ok.frames rfl fl fun h' fl' up=>?_
 have atB:∀b o,s'.heap.get? b=some o->(∃o',B.get? b=some o')->h'.get? b=some o:=fun b o q ⟨o',z⟩=>by
  have:=fl.1 b o' z
  rw[q]at this
  cases this
  exact fl'.1 b o z
 have sl:∀b o,b∈Jd outer->s'.heap.get? b=some o->∃sl,h'.get? b=some { o with slots:=sl }:=fun b o hb q=>by
  obtain⟨_,o',ho',hd⟩:=fl.2.2.1.mem (b:=b) (by show b∈Jd (envOfC qual scope s0.heap.objs.size f cd::outer); unfold Jd; rw[List.filterMap_cons]; exact wMa _ hb)
  rw[q]at ho'
  cases ho'
  exact up b o q hd
 have u:=J.base
 refine⟨e,cls,H',rfl,⟨Fl.os.trans I.os,Fl.bare,⟨fun b o q n hb hx=>atB b o (u.keep b o q n hb hx) (inB b o q hb),fun b o q n hb hx=>?_,u.free,fun b o q hx=>?_,u.tups,u.frzs,u.tbls⟩,?_,⟨B,a0,fl',c1,inB⟩⟩,hE⟩
 ·obtain⟨l,z⟩:=u.slot b o q n hb hx
  obtain⟨l',z'⟩:=sl b _ hb z
  exact⟨l',z'⟩
 ·obtain⟨o',z⟩:=u.there b o q hx
  by_cases hb:b∈Jd outer
  ·obtain⟨l',z'⟩:=sl b _ hb z
   exact⟨_,z'⟩
  ·exact⟨_,atB b o' z (inB b o q hb)⟩
 ·intro a o q
  refine(Fl.hok a o q).stay (fun b u hb z=>atB b u z ?_) (fun _ z=>z) fun _ _ z=>z
  rcases hb with hb | hb
  ·rw[hb]; exact c1 a o q
  ·exact c1 b _ hb
end
section
variable {X:Cx}
theorem PA.nox{es:List Expr}{t:TA}(h:PA X.nox es t):PA X es t:=fun p pins s σ H Q I hw=>
 wCa (h p pins s σ H Q (I.wish _) hw) (fun _ _ ⟨v,H',I',r,q⟩=>⟨v,H',I'.unwish,r,q⟩) fun _ _ z=>False.elim z
theorem PS.nox{st:Stmt}{t:TS}(h:PS X.nox st t):PS X st t:=fun pins s σ H D I hw=>
 wCa (h pins s σ H D (I.wish _) hw) (fun _ _ q=>q.unwish) fun _ _ z=>False.elim z
def dX(sp:Sp)(t:TA):g6:=fun σ H Er=>t σ H fun vs H1=>sp vs H1 (fun _ _=>False) fun cls _ H2=>Er cls H2
theorem Bh{k:Nat}{f:Addr}{fd:FuncData}{ps:List Str}{sp:Sp}{g:Str}{p pos:Pos}{ea:Expr}{es:List Expr}{t:TA}(F:FnOk X.prog X.w X.K X.mg X.base (Ye X.prog X.w) k f fd ps sp)(hr:Room k X.A)(hg:Gl X g)(hm:X.mg g=some (.ref f))(hk:PySem.W.keepIn X.K (.ref f)=true)(hb:J_ X.K fd ps [])
  (ha:PA X.nox (ea::es) t) (hdb:(g==("__debug__" : Str))=false) (he:starEach (ea::es) X.env=(false,eval ea X.env)::starEach es X.env) (hpl:(backTo pos (starEach es X.env)).any (·.1)=false):FI X (.Call (.Name g p) (ea::es) [] pos) (dX sp t):=by
 intro pins s σ H Er I h
 refine wpAny_Call_Name_kw (vv I hg hm ?_ hdb)
 refine PySem.W.callWith_K (h₀:=X.base) I.ok.mod.kin hk (wCa (ha pos pins s σ H _ (I.wish _) h) (fun us s1 ⟨vs,H1,I1,r,q⟩=>⟨I1.unwish.kIn,?_⟩) fun _ _ z=>False.elim z) he hpl
 replace I1:=I1.unwish
 have r2:je (vs++[]) (us++[]):=r.append .nil
 have q':=q
 rw[<-List.append_nil vs]at q'
 have hl:(us++[]).length=ps.length:=by rw[<-r2.length]; exact F.len _ _ _ _ q'
 refine wpAny_call (codeAny_mono (F.run X.A X.stack s1 H1 ⟨[]++us,[]⟩ (us++[]) (vs++[]) _ _ hr I1.env0 (hb s1 us I1.kIn hl) r2 q') fun r s' hq=>?_)
 cases r with
 | ok fl=>
  cases fl with
  | ret v=>obtain⟨_,_,_,_,_,_,_,z⟩:=hq; exact z.elim
  | next=>exact False.elim hq
  | brk=>exact False.elim hq
  | cont=>exact False.elim hq
 | error ev=>
  obtain⟨e,cls,H',rfl,Fl,hE⟩:=hq
  exact⟨H1,s1,e,cls,H',rfl,I1,Fl,hE⟩
theorem Bi{e:Expr}{epos:Pos}{tb:g6}(h:FI X e tb)(hsw:swapsWith e none epos.line X.env=pure false):vN X [.Expr e epos] tb:=fun pins s σ H Er I q=>
 wGa (wpAny_Expr_any (wCa (h pins s σ H Er I q) (fun _ _ z=>False.elim z) fun _ _ z=>z) I.quiet hsw)
theorem Fb{c:Expr}{a b:List Stmt}{pos:Pos}{tt:TT}{ta tb:g6}(hc:PT X.nox c tt)(ha:vN X a ta)(hb:vN X b tb):vN X [.If c a b pos] (fun σ H Er=>tt σ H fun k H1=>if k=true then ta σ H1 Er else tb σ H1 Er):=fun pins s σ H Er I q=>by
 refine wGa (wpAny_If (wCa (hc pins s σ H _ (I.wish _) q) (fun d s1 ⟨H1,I1,q1⟩=>?_) fun _ _ z=>False.elim z))
 cases d with
 | true=>exact wCa (ha pins s1 σ H1 Er I1.unwish q1) (fun _ _ z=>False.elim z) fun _ _ z=>z
 | false=>exact wCa (hb pins s1 σ H1 Er I1.unwish q1) (fun _ _ z=>False.elim z) fun _ _ z=>z
end
end L2
namespace DS
open PySem PySem.Spec PyProof.Rows L2
noncomputable def ue(K:Fr)(x:Str):Addr:=match PySem.W.nsIn K mainGlobals x with
 | some (some (.ref C))=>C
 | _=>0
theorem vO{K:Fr}{x:Str}{C:Addr}(h:PySem.W.nsIn K mainGlobals x=some (some (.ref C))):ue K x=C:=by unfold ue; rw[h]
def W7(K:Fr)(ks:List Bool)(F:List D->Option Str):Sp:=fun vs H _ E=>∃O ds c,(∀a∈O,H a≠none)/\yh K O H ks ds vs/\F ds=some c/\∀H',j4 H H'->E (.ref (ue K c)) none H'
abbrev DZ:=j8->Option Str
def tZ(K:Fr)(dz:DZ)(E:XK):TS:=fun _ σ H=>∃H0 O0 ρ O c,Rel K H0 O0 ρ σ H O/\dz ρ=some c/\∀H',j4 H0 H'->E (.ref (ue K c)) none H'
def Am(K:Fr)(dz:DZ)(E:XK):TE:=fun σ H _=>tZ K dz E ⟨fun _ _=>True,fun _ _=>True,fun _ _=>True,fun _ _=>True⟩ σ H
noncomputable def yz:DZ:=fun _=>none
noncomputable def Jy(z:DZ)(d:DS)(z':DZ):DZ:=fun ρ=>match z ρ with
 | some c=>some c
 | none=>match d ρ with
  | some (.nx ρ')=>z' ρ'
  | _=>none
noncomputable def Y5(t:DT)(a b:DZ):DZ:=fun ρ=>(t ρ).bind fun k=>if k=true then a ρ else b ρ
def Jz(F:List D->Option Str)(l:DA):DZ:=fun ρ=>(yl l ρ).bind F
section
variable {X:Cx} {K:Fr} {E:XK} {s:Stmt} {t a b:List Stmt} {z z':DZ} {d:DS} {c e:Expr} {pos:Pos}
theorem dY:PS X s (tZ K yz E):=fun _ _ _ _ _ _ ⟨_,_,_,_,_,_,h,_⟩=>by cases h
theorem An:jL X t (tZ K yz E):=fun _ _ _ _ _ _ ⟨_,_,_,_,_,_,h,_⟩=>by cases h
theorem Bj(h:PS X s (tS K d))(hz:PS X s (tZ K z E))(hr:jL X t (tZ K z' E)):jL X (s::t) (tZ K (Jy z d z') E):=Zg (Uh (Al h hz) hr) fun D σ H ⟨H0,O0,ρ,O,c,R,e,q⟩=>by
 unfold Jy at e
 split at e
 ·rename_i c' hc
  cases e
  exact .inr ⟨H0,O0,ρ,O,c,R,hc,q⟩
 ·split at e
  ·rename_i ρ' hd
   exact .inl ⟨H0,O0,ρ,O,.nx ρ',R,hd,fun σ' H' O' R' _=>⟨H0,O0,ρ',O',c,R',e,q⟩⟩
  ·cases e
theorem W8(hz:PS X s (tZ K z E)):jL X (s::t) (tZ K z E):=Zg (Uh hz Gx) fun _ _ _ h=>h
theorem HX{dt:DT}(hc:PT X c (tT K dt))(ha:jL X a (tZ K z E))(hb:jL X b (tZ K z' E)):PS X (.If c a b pos) (tZ K (Y5 dt z z') E):=J9 (az hc ha hb) fun D σ H ⟨H0,O0,ρ,O,c,R,e,q⟩=>by
 obtain⟨k,e1,e2⟩:=j0 e
 refine⟨H0,O0,ρ,O,k,R,e1,fun H' s=>?_⟩
 have R':=R.grow s
 cases k with
 | true=>exact YH ⟨H0,O0,ρ,O,c,R',e2,q⟩
 | false=>exact YG ⟨H0,O0,ρ,O,c,R',e2,q⟩
theorem dZ{k:Nat}{f:Addr}{fd:FuncData}{ps:List Str}{ks:List Bool}{g:Str}{p:Pos}{es:List Expr}{l:DA}{F:List D->Option Str}(G:FnOk X.prog X.w X.K X.mg X.base (Ye X.prog X.w) k f fd ps (W7 K ks F))(hr:Room k X.A)(hm:X.mg g=some (.ref f))(hk:PySem.W.keepIn X.K (.ref f)=true)(hb:J_ X.K fd ps [])
  (hx:YF (Ye X.prog X.w) X E) (ha:PA X (e::es) (YB K l)) (hks:l.map (·.1)=ks) (hg:Gl X g) (hdb:(g==("__debug__" : Str))=false) (he:starEach (e::es) X.env=(false,eval e X.env)::starEach es X.env) (hpl:(backTo pos (starEach es X.env)).any (·.1)=false):
  PE X (.Call (.Name g p) (e::es) [] pos) (Am K (Jz F l) E):=jz (wT G hr hg hm hk hb .nil hx ha hdb he hpl) fun σ H Q ⟨H0,O0,ρ,O,c,R,ed,q⟩=>by
 subst hks
 obtain⟨ds,e1,e2⟩:=j0 ed
 refine⟨H0,O0,ρ,O,ds,R,e1,fun vs H1 s1 r1=>?_⟩
 (try dsimp only)
 rw[List.append_nil]
 exact⟨O,ds,c,(R.grow s1).al,r1,e2,fun H' s=>q H' ((R.grow s1).keep.trans s)⟩
theorem d_(h:PE X e (Am K z E))(hs:swapsWith e none pos.line X.env=pure false):PS X (.Expr e pos) (tZ K z E):=J9 (vz h hs) fun D σ H h=>h
theorem Fc{i:Nat}{x:Str}{pos':Pos}(hN:X.N.Nodup)(hi:X.N[i]?=some x)(hx:VN X.env.scope x)(he:PE X e (Am K z E))(hs:swapsWith e (some (.Name x pos')) pos.line X.env=pure false)(hf:X.fn x=true∨X.env.scope.names.lookup x=some .local):PS X (.Assign [.Name x pos'] e pos) (tZ K z E):=J9 (UM hN hi hx he hs hf) fun D σ H h=>h
end
section
variable {P:Program} {w:World} {K:Fr} {mg:Str->Option Value} {base:Heap} {x qual:Str} {st:Stmt} {f:Addr} {fd:FuncData} {N ps:List Str} {ks:List Bool} {k n:Nat}
def yP(ks:List Bool)(n:Nat)(z:DZ):List D->Option Str:=fun ds=>z (Zj ks ds n)
theorem HY{z:DZ}(F:Fun K x qual st f fd)(S:FnScope N ps (defScope st))(hk:ks.length=ps.length)(hn:N.length - ps.length=n)
  (hb:∀(cdv:Value) (A:Around) (outer:List Env) (s:Shared) (H:Hp) (E:XK),Room k (A.deeper (envOfC qual (defScope st) s.heap.objs.size f cdv))->jL (Ju (Ye P w) P w K mg base N qual (defScope st) f cdv A outer s H E) (defBody st) (tZ K z E)):
  FnOk P w K mg base (Ye P w) (k+1) f fd ps (W7 K ks (yP ks n z)):=by
 obtain⟨oc,od,kV,doc,pm,an,cdv,ct,osl,rfl,lk,hcd⟩:=F.ex
 refine aL lk hcd S (fun vs H Q E h=>?_) fun A outer s H vs Q E hr h=>?_
 ·obtain⟨O,ds,d,_,ak,_⟩:=h
  have:=ak.len
  omega
 ·obtain⟨O,ds,c,al,ak,e,q⟩:=h
  refine⟨_,hb cdv A outer s H E hr,?_⟩
  have hl:N.length - vs.length=n:=by have:=ak.len; omega
  unfold L2.Yh
  rw[hl]
  exact⟨H,O,_,O,c,qj ak al,e,q⟩
end
theorem Rel.un{K:Fr}{H0 H:Hp}{O0 O:List Addr}{ρ:j8}{σ:L2.St}(R:Rel K H0 O0 ρ σ H O)(i:Nat)(v:Option V):Rel K H0 O0 (ρ.set i .un) (σ.set i v) H O where
 len:=by rw[List.length_set,List.length_set]; exact R.len
 sub:=R.sub
 fr:=R.fr
 al0:=R.al0
 al:=R.al
 keep:=R.keep
 cl:=fun j d' e=>by
  rcases jJ e with⟨rfl,e',hi⟩ | ⟨ne,e'⟩
  ·cases e'
  ·rw[Jq ne]; exact R.cl j d' e'
 bo:=fun j d' e=>by
  rcases jJ e with⟨rfl,e',hi⟩ | ⟨ne,e'⟩
  ·cases e'
  ·rw[Jq ne]; exact R.bo j d' e'
 ow:=fun j q' d' e=>by
  rcases jJ e with⟨rfl,e',hi⟩ | ⟨ne,e'⟩
  ·cases e'
  ·rw[Jq ne]; exact R.ow j q' d' e'
 dist:=fun j k q1 q2 ds es l e1 e2 s1 s2=>by
  rcases jJ e1 with⟨rfl,e',hi⟩ | ⟨ne,e1'⟩
  ·cases e'
  ·rcases jJ e2 with⟨rfl,e',hi⟩ | ⟨ne2,e2'⟩
   ·cases e'
   ·rw[Jq ne]at s1; rw[Jq ne2]at s2
    exact R.dist j k q1 q2 ds es l e1' e2' s1 s2
section
variable {X:Cx} {K:Fr}
def W9(K:Fr)(dz:DZ):g6:=fun σ H Er=>∃H0 O0 ρ O c,Rel K H0 O0 ρ σ H O/\dz ρ=some c/\∀H',j4 H H'->Er (.ref (ue K c)) H'
theorem Km{bd:List Stmt}{t t':g6}(h:vN X bd t)(f:∀σ H Q,t' σ H Q->t σ H Q):vN X bd t':=fun pins s σ H Q I q=>h pins s σ H Q I (f σ H Q q)
theorem Xz{k:Nat}{f:Addr}{fd:FuncData}{ps:List Str}{ks:List Bool}{g:Str}{p pos epos:Pos}{e:Expr}{es:List Expr}{l:DA}{F:List D->Option Str}(G:FnOk X.prog X.w X.K X.mg X.base (Ye X.prog X.w) k f fd ps (W7 K ks F))(hr:Room k X.A)(hm:X.mg g=some (.ref f))(hk:PySem.W.keepIn X.K (.ref f)=true)(hb:J_ X.K fd ps [])
  (ha:PA X.nox (e::es) (YB K l)) (hks:l.map (·.1)=ks) (hg:Gl X g) (hdb:(g==("__debug__" : Str))=false) (he:starEach (e::es) X.env=(false,eval e X.env)::starEach es X.env) (hpl:(backTo pos (starEach es X.env)).any (·.1)=false) (hsw:swapsWith (.Call (.Name g p) (e::es) [] pos) none epos.line X.env=pure false):
  vN X [.Expr (.Call (.Name g p) (e::es) [] pos) epos] (W9 K (Jz F l)):=Km (Bi (Bh G hr hg hm hk hb ha hdb he hpl) hsw) fun σ H Q ⟨H0,O0,ρ,O,c,R,ed,q⟩=>by
 subst hks
 obtain⟨ds,e1,e2⟩:=j0 ed
 exact⟨H0,O0,ρ,O,ds,R,e1,fun vs H1 s1 r1=>⟨O,ds,c,(R.grow s1).al,r1,e2,fun H' s=>q H' (s1.trans s)⟩⟩
theorem D0{c:Expr}{a b:List Stmt}{pos:Pos}{dt:DT}{z z':DZ}(hc:PT X.nox c (tT K dt))(ha:vN X a (W9 K z))(hb:vN X b (W9 K z')):vN X [.If c a b pos] (W9 K (Y5 dt z z')):=Km (Fb hc ha hb) fun σ H Q ⟨H0,O0,ρ,O,c,R,e,q⟩=>by
 obtain⟨k,e1,e2⟩:=j0 e
 refine⟨H0,O0,ρ,O,k,R,e1,fun H' s=>?_⟩
 have R':=R.grow s
 cases k with
 | true=>exact YH ⟨H0,O0,ρ,O,c,R',e2,fun H2 s2=>q H2 (s.trans s2)⟩
 | false=>exact YG ⟨H0,O0,ρ,O,c,R',e2,fun H2 s2=>q H2 (s.trans s2)⟩
theorem Wa{H:Hp}:∀bs:List Bool,j1 K H (bs.map D.bl) (bs.map V.bl)
 | []=>by rw[List.map_nil,List.map_nil,j1]
 | b::r=>by rw[List.map_cons,List.map_cons,j1]; exact⟨_,_,rfl,by rw[j6],Wa r⟩
def Iq(K:Fr)(p:Str->Prop)(i j:Nat)(ms:Str->List Bool)(e:Addr)(oe:Obj):TS:=fun D σ H=>∃c,p c/\σ[i]?=some (some (.ref e))/\oe.cls=.ref (ue K c)/\∀l,H l=none->D.nx (σ.set j (some (.ref l))) (upd H l (.lst ((ms c).map V.bl)))
noncomputable def gb(z:DZ)(d:DS)(i j:Nat)(ms:Str->List Bool):DS:=fun ρ=>match z ρ with
 | some c=>if i < ρ.length/\i≠j then some (.nx ((ρ.set i .un).set j (.cl (.lst ((ms c).map D.bl)))))else none
 | none=>d ρ
@[simp] theorem iR(z:DZ)(d:DS)(i j:Nat)(ms:Str->List Bool){ρ:j8}:gb z d i j ms ρ=match z ρ with
 | some c=>if i < ρ.length/\i≠j then some (.nx ((ρ.set i .un).set j (.cl (.lst ((ms c).map D.bl)))))else none
 | none=>d ρ:=rfl
theorem D4{Dc:Addr}{x n:Str}{np hpos tpos:Pos}{bd:List Stmt}{b₀:Stmt}{suite:List Stmt}{z:DZ}{d:DS}{i j:Nat}{ms:Str->List Bool}{pc:Str->Prop}(hz:vN X bd (W9 K z))(hd:jL X.nox bd (tS K d))(hp:∀ρ c,z ρ=some c->pc c)
  (hst:X.stack=X.env::X.outer) (hfr:X.env.frame=some X.env.locals) (hNd:X.N.Nodup) (hi:X.N[i]?=some n) (hln:X.env.kindOf n=some .local) (hgx:Gl X x) (hmx:X.mg x=some (.ref Dc)) (hdx:(x==("__debug__" : Str))=false)
  (hmt:∀c,pc c->PySem.W.exmOne X.K (.ref (ue K c)) (.ref Dc)=some true) (hu:∀e oe,jL (X.suite e oe) (b₀::suite) (Iq K pc i j ms e oe)):
  PS X (.Try bd [.ExceptHandler (some (.Name x np)) (some n) (b₀::suite) hpos] [] [] tpos) (tS K (gb z d i j ms)):=
 J9 (Al (Bf hz hst hfr hNd hi hln hgx hmx hu hdx) (Bg hd)) fun Z σ H ⟨H0,O0,ρ,O,r,R,ed,fi⟩=>by
  unfold gb at ed
  split at ed
  ·rename_i c e2
   split at ed
   ·rename_i hij
    cases ed
    refine .inl ⟨H0,O0,ρ,O,c,R,e2,fun H' s=>⟨hmt c (hp ρ c e2),fun e oe hc hn=>⟨c,hp ρ c e2,?_,hc,fun a ha=>?_⟩⟩⟩
    ·exact vH (by rw[R.len]; exact hij.1)
    ·have R1:=(R.grow s).un i none
     have su:j4 H' (upd H' a (.lst ((ms c).map V.bl))):=fun b o z=>by rw[jl (jy z ha)]; exact z
     have R2:=(R1.grow su).set (d:=.lst ((ms c).map D.bl)) (v:=.ref a) (by rw[j6]; exact⟨a,_,rfl,by rw[J3 (R1.new ha)]; exact J2,Wa _⟩) j
     have es:((σ.set i (some (.ref e))).set j (some (.ref a))).set i none=(σ.set i none).set j (some (.ref a)):=by
      rw[List.set_comm _ _ (Ne.symm hij.2),List.set_set]
     show Z.nx (((σ.set i (some (.ref e))).set j (some (.ref a))).set i none) _
     rw[es]
     exact fi _ _ _ R2 (jh (s.trans su))
   ·cases ed
  ·exact .inr ⟨H0,O0,ρ,O,r,R,ed,fi⟩
end
end DS
namespace CP
open PySem PySem.Spec PyProof.Rows L2 DS
inductive GI where
 | con (i:Int)
 | fE (k:Nat) (ps:List Str) (ks:List Bool) (F:List D->Option D)
 | fF (k:Nat) (ps:List Str) (ks:List Bool) (F:List D->Option OD)
 | mk (k:Nat) (ps:List Str) (ks:List Bool) (F:Addr->List D->Option OD) (G:List D->Option OD)
 | blt
structure Gm where
 N:List Str
 sc:Scope
 fn:Bool
 kF:Bool
 C:Addr
 gs:List (Str×GI)
 ms:List (Str×GI)
 fl:List Str
 hs:List ((Nat×Nat×Nat)×List Nat)
 sh:List (Nat×Nat)
 ow:List Nat
inductive Dn where
 | E (d:DE) | F (d:DO)
noncomputable def Dn.e:Dn->DE
 | .E d=>d
 | .F d=>dL d
noncomputable def Gb(x:Str):List Str->Option Nat
 | []=>none
 | y::r=>if x=y then some 0 else(Gb x r).map (· + 1)
noncomputable def kd(sc:Scope)(x:Str):Option NameKind:=sc.names.lookup x
noncomputable def qv(sc:Scope)(x:Str):Bool:=match kd sc x with
 | some .local=>true
 | some .cell=>true
 | some .free=>true
 | _=>false
noncomputable def qw(sc:Scope)(x:Str):Bool:=match kd sc x with
 | some .local=>true
 | some .cell=>true
 | _=>false
noncomputable def Kn(sc:Scope)(x:Str):Bool:=match kd sc x with
 | some .local=>true
 | _=>false
noncomputable def U1(Γ:Gm)(x:Str):Bool:=(match kd Γ.sc x with
 | some .globalImplicit=>true
 | _=>false)&&!(x==("__debug__" : Str))
noncomputable def cG(c:Bool){α:Type}(o:Option α):Option α:=if c then o else none
def slot(Γ:Gm)(x:Str):Option Nat:=(Gb x Γ.N).bind fun i=>if qv Γ.sc x&&(!(x==("__debug__" : Str))&&!(x==("__classdict__" : Str)))then some i else none
def nm(Γ:Gm):Expr->Option Nat
 | .Name x _=>slot Γ x
 | _=>none
def Wb(Γ:Gm)(x:Str):Option Nat:=(Gb x Γ.N).bind fun i=>if qw Γ.sc x&&(Γ.fn||Kn Γ.sc x)then some i else none
noncomputable def JV:Expr->Bool
 | .Starred _ _=>false
 | _=>true
structure Rc where
 n:Gm->Expr->Option Dn
 t:Gm->Expr->Option DT
 g:Gm->Nat->Expr->Option DG
section
variable (r:Rc) (Γ:Gm)
noncomputable def cV(f:Nat->DE)(e:Expr):Option DE:=match nm Γ e with
 | some i=>some (f i)
 | none=>(r.n Γ e).map Dn.e
def cA:List Bool->List Expr->Option DA
 | [],[]=>some []
 | k::ks,e::es=>if JV e then(cV r Γ (if k then dC else dV) e).bind fun d=>(cA ks es).bind fun l=>some ((k,d)::l)else none
 | _,_=>none
def D5:Operator->Option (D->D->Option D)
 | .Add=>some jB
 | .Sub=>some V2
 | .Mult=>some yo
 | .Mod=>some jq
 | .FloorDiv=>some gQ
 | .Pow=>some Uk
 | _=>none
def V8:CmpOp->Option (D->D->Option D)
 | .Eq=>some Je
 | .NotEq=>some Jr
 | .Lt=>some JD
 | .LtE=>some jM
 | .Gt=>some yM
 | .GtE=>some Qj
 | .In=>some (Ad false)
 | .NotIn=>some (Ad true)
 | .Is=>some X8
 | .IsNot=>some uH
noncomputable def cB(f:DE->DE->DE):List Expr->Option DE
 | []=>none
 | [a]=>cV r Γ dC a
 | a::b=>(cV r Γ dV a).bind fun d=>(cB f b).bind fun d'=>some (f d d')
noncomputable def cW(f:DT->DT->DT):List Expr->Option DT
 | []=>none
 | [a]=>r.t Γ a
 | a::b=>(r.t Γ a).bind fun d=>(cW f b).bind fun d'=>some (f d d')
def part:Option Expr->Option UU
 | none=>some fun _=>some none
 | some e=>(cV r Γ dV e).map fun d=>fun ρ=>(d ρ).bind YI
noncomputable def uf(p:Pos):Option (List Nat):=Γ.hs.lookup (p.line,p.col,p.endCol)
noncomputable def Ko:Expr->Bool
 | .Call _ _ _ _=>false
 | _=>true
noncomputable def qx:Expr->Bool
 | .Slice _ _ _ _=>false
 | _=>true
def XA(x:Str)(n:Nat):Option (List D->Option D):=
 if x = "len" then some jO else if x = "tuple" then some YL else if x = "int" then some Xb else if x = "all" then some Y7
 else if x = "max" then some gU else if x = "min" then some (if n=1 then kq else Xc)else if x = "sum" then some Kk else if x = "any" then some qt else none
def XB(x:Str)(h:Bool):Option (List D->Option OD):=if x = "list" then some (if h then vL else V4)else none
def Kp(x:Str):Bool:=U1 Γ x&&(match Γ.gs.lookup x with | some .blt=>true | _=>false)
noncomputable def XC(x:Str):Option String:=if x = "list" then some "list" else if x = "tuple" then some "tuple" else if x = "bool" then some "bool" else if x = "str" then some "str" else if x = "int" then some "int" else none
def D6(e:Expr):Option DI:=(cV r Γ dP e).map fun d=>match uf Γ e.pos with
 | some (_::_)=>uL d
 | _=>Jb d
def D7(tup:Bool)(x:Str)(as:List Expr):Option DI:=
 if Kp Γ x then(match as with
  | [a]=>if x = "range" then cG (JV a) ((cV r Γ dV a).map Yj)
   else if x = "enumerate" then cG (JV a&&tup) ((cV r Γ dP a).map qf)
   else if x = "reversed" then cG (JV a) ((cV r Γ dP a).map qr)else none
  | [a,b]=>if x = "range" then cG (JV a&&JV b) ((cV r Γ dV a).bind fun d=>(cV r Γ dV b).map fun d'=>qe d d')
   else if x = "zip" then cG (JV a&&JV b&&tup) ((cV r Γ dP a).bind fun d=>(cV r Γ dP b).map fun d'=>K3 d d')else none
  | _=>none)else none
noncomputable def uN:Expr->Bool
 | .Tuple _ _ _=>true
 | _=>false
noncomputable def kr:Expr->Bool
 | .Set _ _ _=>false
 | _=>true
def D8(tg e f:Expr)(as:List Expr)(ks:List Keyword)(p:Pos):Option DI:=match f with
 | .Name x _=>(match ks with
  | []=>(match D7 r Γ (uN tg) x as with
   | some d=>some d
   | none=>D6 r Γ e)
  | _::_=>none)
 | .Attribute a m ap=>(match as,ks with
  | [],[]=>cG (m==("items" : Str)&&uN tg&&Ko a&&ap.endLine==p.line) ((cV r Γ dP a).map ud)
  | _,_=>none)
 | _=>none
def cI(tg:Expr)(e:Expr):Option DI:=match e with
 | .Call f as ks p=>D8 r Γ tg e f as ks p
 | _=>cG (kr e) (D6 r Γ e)
noncomputable def D9(scope sc:Scope):Scope:={ scope with names:=scope.names.map fun(n,k)=>if k==.free&&sc.kind==.function&&sc.names.lookup n==some .cell then(n,.cell)else(n,k) }
noncomputable def FJ:Nat->Expr->List Str
 | 0,_=>[]
 | _+1,.Name x _=>[x]
 | n+1,.Tuple es _ _=>(es.map (FJ n)).flatten
 | _,_=>[]
noncomputable def Kq:List Str->Bool
 | []=>true
 | x::r=>!(r.contains x)&&Kq r
noncomputable def XD:List Nat->Bool
 | []=>true
 | x::r=>!(r.contains x)&&XD r
noncomputable def Da(scope:Scope)(p:Str×Nat):Bool:=(match Γ.N[p.2]? with
  | some y=>y==p.1
  | none=>false)&&(match kd Γ.sc p.1 with
  | some .cell=>true
  | some .free=>true
  | _=>false)&&(match kd scope p.1 with
  | some .free=>true
  | _=>false)
noncomputable def FK(scope:Scope):Bool:=(match scope.kind with | .function=>true | _=>false)&&(scope.names.all fun y=>y.2 != .local||scope.names.lookup y.1==some .local)&&(scope.names.all fun y=>y.2 != .cell) &&
 (scope.names.all fun y=>y.2 != .free||Γ.sc.names.lookup y.1==some .cell||Γ.sc.names.lookup y.1==some .free)
def Db(p:Pos):List (Str×Nat):=((uf Γ p).getD []).map fun j=>(Γ.N.getD j "",j)
def uO(own:List Str)(caps:List (Str×Nat))(scope:Scope):Gm:={ Γ with N:=own++caps.map (·.1),sc:=D9 scope Γ.sc,fn:=false }
def Df(elt tg iter:Expr)(ifs:List Expr)(scope:Scope)(p:Pos):Option DO:=
 let own:=FJ 5 tg
 let caps:=Db Γ p
 let Δ:=uO Γ own caps scope
 cG (FK Γ scope&&caps.all (Da Γ scope)&&Kq Δ.N&&XD (caps.map fun z:Str×Nat=>z.2)&&kr iter)
  ((cI r Γ tg iter).bind fun di=>(r.g Δ own.length tg).bind fun g=>(match ifs with
   | []=>some jH
   | [c]=>r.t Δ c
   | _=>none).bind fun dc=>(cV r Δ dC elt).bind fun de=>some (JL own.length (caps.map fun z:Str×Nat=>z.2) di g dc de))
def XE(es:List Expr):Option Dn:=match es with
 | [a,t]=>(match t with
  | .Name t _=>cG (JV a&&Kp Γ t) ((XC t).bind fun T=>(cV r Γ dV a).map fun d=>.E (d1 (dw T) d))
  | .Tuple ts _ _=>(match ts with
   | [.Name t _,.Name u _]=>cG (JV a&&Kp Γ t&&Kp Γ u&&t==("list" : Str)&&u==("tuple" : Str)) ((cV r Γ dV a).map fun d=>.E (d1 Ag d))
   | _=>none)
  | _=>none)
 | _=>none
def Ao(x:Str)(es:List Expr)(p:Pos):Option Dn:=cG (U1 Γ x&&!es.isEmpty) (match Γ.gs.lookup x with
 | some (.fE _ _ ks F)=>(cA r Γ ks es).map fun l=>.E (j9 F l)
 | some (.fF _ _ ks F)=>(cA r Γ ks es).map fun l=>.F (jW F l)
 | some (.mk _ _ ks _ G)=>(cA r Γ ks es).map fun l=>.F (kn G l)
 | some .blt=>if x = "isinstance" then XE r Γ es
  else(cA r Γ (es.map fun _=>false) es).bind fun l=>(match XA x es.length with
   | some f=>some (.E (j9 f l))
   | none=>(XB x (uf Γ p).isSome).map fun f=>.F (jW f l))
 | _=>none)
noncomputable def Dg:Const->Option Dn
 | .int i=>some (.E (dK (.int i)))
 | .bool i=>some (.E (dK (.bl i)))
 | .none=>some (.E (dK .non))
 | .str i=>some (.E (dK (.str i)))
 | _=>none
def Dh(op:UnaryOp)(a:Expr):Option Dn:=match op with
 | .USub=>(cV r Γ dV a).map fun d=>.E (Ze d)
 | .Not=>(cV r Γ dV a).map fun d=>.E (WY d)
 | _=>none
def FL(a:Expr)(op:Operator)(b:Expr)(p:Pos):Option Dn:=(cV r Γ dV a).bind fun d=>(cV r Γ dV b).bind fun d'=>(match uf Γ p with
  | some _=>(match op with
   | .Add=>some (.F (kW gR d d'))
   | .Mult=>some (.F (kW WX d d'))
   | _=>none)
  | none=>(D5 op).map fun f=>.E (d2 f d d'))
def HZ:CmpOp->Option (D->D->Option D)
 | .In=>some (qp false)
 | .NotIn=>some (qp true)
 | _=>none
def Ap(p:Pos)(o:CmpOp):Option (D->D->Option D):=if (uf Γ p).isSome then HZ o else V8 o
def Di(a:Expr)(os:List CmpOp)(bs:List Expr)(p:Pos):Option DE:=match os,bs with
 | [o],[b]=>cG (!behindInMarks o b) ((cV r Γ dV a).bind fun d=>(cV r Γ dV b).bind fun d'=>(Ap Γ p o).map fun f=>d2 f d d')
 | [o,o'],[b,c]=>cG (!lastMarks [o,o'] [b,c]) ((cV r Γ dV a).bind fun d=>(cV r Γ dV b).bind fun d'=>(cV r Γ dV c).bind fun d''=>(V8 o).bind fun f=>(V8 o').map fun f'=>jR f f' d d' d'')
 | [o,o',o''],[b,c,e]=>cG (!lastMarks [o,o',o''] [b,c,e]) ((cV r Γ dV a).bind fun d=>(cV r Γ dV b).bind fun d'=>(cV r Γ dV c).bind fun d''=>(cV r Γ dV e).bind fun d3=>
   (V8 o).bind fun f=>(V8 o').bind fun f'=>(V8 o'').map fun f''=>vJ f f' f'' d d' d'' d3)
 | _,_=>none
def Dj(a b:Expr)(p:Pos):Option Dn:=match b with
 | .Slice lo hi st _=>(match st with
  | none=>(cV r Γ dV a).bind fun d=>(part r Γ lo).bind fun x=>(part r Γ hi).map fun y=>(match uf Γ p with
   | some _=>.E (qc d x y)
   | none=>.F (y2 d x y))
  | some _=>none)
 | b=>cG (qx b) ((cV r Γ dV a).bind fun d=>(cV r Γ dV b).map fun d'=>.E (d2 (if (uf Γ p).isSome then yJ else jb) d d'))
def Aq(elt:Expr)(gs:List Comprehension)(scope:Scope)(p:Pos):Option DO:=match gs with
 | [⟨tg,iter,ifs,a⟩]=>cG (a==0) (Df r Γ elt tg iter ifs scope p)
 | _=>none
def Dk(a:Expr)(m:Str)(ap:Pos)(es:List Expr)(p:Pos):Option Dn:=match a,es with
 | .Name x np,[]=>cG (ap.endLine==p.line) ((cV r Γ dV (.Name x np)).bind fun d=>match Γ.ms.lookup m with
  | some (.fE _ _ _ F)=>some (.E (d1 (ZT Γ.C m F) d))
  | some (.fF _ _ _ F)=>some (.F (CJ (K6 Γ.C m F) d))
  | _=>none)
 | _,_=>none
def FM(f:Expr)(es:List Expr)(ks:List Keyword)(p:Pos):Option Dn:=match ks with
 | []=>(match f with
  | .Name x _=>Ao r Γ x es p
  | .Attribute a m ap=>Dk r Γ a m ap es p
  | _=>none)
 | [⟨some k,b,_⟩]=>(match f,es with
  | .Name x _,[a]=>cG (x==("min" : Str)&&k==("default" : Str)&&Kp Γ x&&JV a) ((cV r Γ dV a).bind fun d=>(cV r Γ dV b).map fun d'=>.E (d2 U_ d d'))
  | _,_=>none)
 | _=>none
def cN(e:Expr):Option Dn:=match e with
 | .Name x _=>cG (U1 Γ x) (match Γ.gs.lookup x with
  | some (.con i)=>some (.E (dK (.int i)))
  | _=>none)
 | .Constant c _ _=>Dg c
 | .UnaryOp op a _=>Dh r Γ op a
 | .BinOp a op b p=>FL r Γ a op b p
 | .Compare a os bs p=>(Di r Γ a os bs p).map .E
 | .BoolOp op vs _=>(match op with
  | .And=>(cB r Γ y0 vs).map .E
  | .Or=>(cB r Γ k_ vs).map .E)
 | .IfExp c a b _=>(r.t Γ c).bind fun t=>(cV r Γ dC a).bind fun d=>(cV r Γ dC b).map fun d'=>.E (WZ t d d')
 | .Tuple es _ _=>cG (Nat.ble es.length 1000) ((cA r Γ (es.map fun _=>true) es).map fun l=>.E (ym l))
 | .List es _=>cG (Nat.ble es.length 1000) ((cA r Γ (es.map fun _=>true) es).map fun l=>.F (jY l))
 | .Dict ks vs _=>(match ks,vs with
  | [],[]=>some (.F uK)
  | _,_=>none)
 | .Attribute a f _=>cG (Ko a&&Γ.fl.contains f) ((cV r Γ dV a).map fun d=>.E (d1 (jA Γ.C f) d))
 | .Subscript a b p=>Dj r Γ a b p
 | .ListComp elt gs scope p=>(Aq r Γ elt gs scope p).map .F
 | .Call f es ks p=>FM r Γ f es ks p
 | _=>none
noncomputable def Dl:Expr->Bool
 | .UnaryOp .Not _ _=>false
 | .BoolOp _ _ _=>false
 | .IfExp _ _ _ _=>false
 | .Compare _ _ _ _=>false
 | _=>true
def Dm(a:Expr)(os:List CmpOp)(bs:List Expr)(p:Pos):Option DT:=match os,bs with
 | [o],[b]=>cG (!behindInMarks o b) ((cV r Γ dV a).bind fun d=>(cV r Γ dV b).bind fun d'=>(Ap Γ p o).map fun f=>jv (d2 f d d'))
 | [o,o'],[b,c]=>cG (!lastMarks [o,o'] [b,c]) ((cV r Γ dV a).bind fun d=>(cV r Γ dV b).bind fun d'=>(cV r Γ dV c).bind fun d''=>(V8 o).bind fun f=>(V8 o').map fun f'=>jv (jR f f' d d' d''))
 | _,_=>none
def cT(e:Expr):Option DT:=match e with
 | .Compare a os bs p=>Dm r Γ a os bs p
 | .UnaryOp op a p=>(match op with
  | .Not=>(r.t Γ a).map Jn
  | op=>cG (Dl (.UnaryOp op a p)) ((cV r Γ dV (.UnaryOp op a p)).map Jv))
 | .BoolOp op vs _=>(match op with
  | .And=>cW r Γ yZ vs
  | .Or=>cW r Γ v7 vs)
 | e=>cG (Dl e) ((cV r Γ dV e).map Jv)
def Ar(k:Nat):List Expr->Option u7
 | []=>some gZ
 | e::es=>cG (JV e) ((r.g Γ k e).bind fun g=>(Ar k es).map fun gs=>gC g gs)
def Dp(k:Nat):Expr->Option DG
 | .Name x _=>(Wb Γ x).bind fun i=>cG (Nat.blt i k) (some (gN i))
 | .Tuple es _ _=>(Ar r Γ k es).map fun gs=>gT es.length gs
 | _=>none
end
def rc:Nat->Rc
 | 0=>⟨fun _ _=>none,fun _ _=>none,fun _ _ _=>none⟩
 | n+1=>⟨cN (rc n),cT (rc n),Dp (rc n)⟩
noncomputable def qy:Stmt->Nat
 | .Return _ p=>p.line
 | .Assign _ _ p=>p.line
 | .AugAssign _ _ _ p=>p.line
 | .For _ _ _ _ p=>p.line
 | .While _ _ _ p=>p.line
 | .If _ _ _ p=>p.line
 | .Expr _ p=>p.line
 | _=>0
section
variable (r:Rc) (q:Gm->List Stmt->Option DS.DS) (Γ:Gm)
noncomputable def cF(e:Expr):Option DO:=match r.n Γ e with
 | some (.F d)=>some d
 | _=>none
noncomputable def Up:Expr->Bool
 | .ListComp _ _ _ _=>false
 | .SetComp _ _ _ _=>false
 | .DictComp _ _ _ _ _=>false
 | _=>true
def FN(scope:Scope)(x:Str)(np vp:Pos):Bool:=(match Γ.sc.kind with | .function=>true | _=>false)&&Kn Γ.sc x&&np.line==vp.line&&!(scope.names.any fun(n,k)=>n==x&&(k==.local||k==.cell))
def FO(x:Str)(np:Pos)(e:Expr):Option DS.DS:=(Wb Γ x).bind fun i=>match e with
 | .ListComp elt gs scope p=>(Aq r Γ elt gs scope p).bind fun d=>cG (FN Γ scope x np p) (some (if Γ.ow.contains i then Jk i d else jr i (dL d)))
 | e=>cG (Up e) (if Γ.ow.contains i then(cF r Γ e).map (Jk i)else(cV r Γ dC e).map (jr i))
def Dq(t e:Expr):Option DS.DS:=match t with
 | .Name x np=>FO r Γ x np e
 | .Attribute o f _=>(nm Γ o).bind fun i=>cG (Up e&&Γ.fl.contains f) ((cV r Γ dC e).map fun d=>Z1 i Γ.C f d)
 | .Subscript o j p=>(nm Γ o).bind fun i=>cG (Up e&&qx j) (if (uf Γ p).isSome then(cV r Γ dC j).bind fun dx=>(cV r Γ dC e).map fun d=>V7 i dx d
   else(cV r Γ dV j).bind fun dx=>(cV r Γ dC e).map fun d=>Z0 i dx d)
 | .Tuple es n p=>cG (Up e&&!uN e) ((cV r Γ dC e).bind fun d=>(r.g Γ Γ.N.length (.Tuple es n p)).map fun g=>u8 d g)
 | _=>none
def Dr(t:Expr)(op:Operator)(e:Expr):Option DS.DS:=match t with
 | .Name x _=>(Wb Γ x).bind fun i=>(cV r Γ dV e).bind fun d=>(match op with
  | .Add=>some (qg i (fun i j=>i+j) d)
  | .Sub=>some (qg i (fun i j=>i - j) d)
  | _=>none)
 | _=>none
def Ds(f:Expr)(es:List Expr)(ks:List Keyword)(p:Pos):Option DS.DS:=match f,es,ks with
 | .Attribute o m ap,[e],[]=>(nm Γ o).bind fun i=>cG (m==("append" : Str)&&JV e&&ap.endLine==p.line) ((cV r Γ dC e).map fun d=>JR i d)
 | .Attribute o m ap,[k,e],[]=>(nm Γ o).bind fun i=>cG (m==("insert" : Str)&&JV k&&JV e&&ap.endLine==p.line) ((cV r Γ dV k).bind fun x=>(cV r Γ dC e).map fun d=>G1 i x d)
 | _,_,_=>none
def FP(e:Expr):Option DS.DS:=match e with
 | .Call f es ks p=>(match Ds r Γ f es ks p with
  | some d=>some d
  | none=>(cV r Γ dV (.Call f es ks p)).map Yk)
 | e=>cG (Up e) ((cV r Γ dV e).map Yk)
def cS(s:Stmt):Option DS.DS:=match s with
 | .Assign ts e _=>(match ts with
  | [t]=>Dq r Γ t e
  | _=>none)
 | .AugAssign t op e _=>Dr r Γ t op e
 | .Expr e _=>FP r Γ e
 | .Return o _=>(match o with
  | none=>some (ju (dK .non))
  | some e=>(match nm Γ e with
   | some i=>if Γ.ow.contains i then some (zk i)else some (ju (dC i))
   | none=>if Γ.kF then(cF r Γ e).map Yl else(cV r Γ dC e).map ju))
 | .If c a b _=>(r.t Γ c).bind fun t=>(q Γ a).bind fun x=>(q Γ b).map fun y=>jo t x y
 | .While c b o _=>(match o with
  | []=>(r.t Γ c).bind fun t=>(q Γ b).map fun x=>zT t x 20000
  | _::_=>none)
 | .For tg it b o _=>(match o with
  | []=>cG (kr it) ((cI r Γ tg it).bind fun di=>(r.g Γ Γ.N.length tg).bind fun g=>(q Γ b).map fun x=>yn di g x)
  | _::_=>none)
 | .Pass _=>some jD
 | .Break _=>some CM
 | .Continue _=>some CN
 | _=>none
def Wc(l:Nat):List (Nat×Nat)->DS.DS->DS.DS
 | [],d=>d
 | (m,i)::r,d=>if m=l then Zh i (Wc l r d)else Wc l r d
noncomputable def Dt:Stmt->Bool
 | .Raise _ _ _=>true
 | _=>false
def As:List Stmt->Option DS.DS
 | []=>some jD
 | s::t=>if Dt s||Γ.sh.contains (qy s,1000)then some ya else(cS r q Γ s).bind fun d=>(match t with
  | []=>some (Wc (qy s) Γ.sh d)
  | t=>(As t).map fun d'=>Wc (qy s) Γ.sh (j3 d d'))
end
def cQ(r:Rc):Nat->Gm->List Stmt->Option DS.DS
 | 0=>fun _ _=>none
 | n+1=>fun Γ=>As r (cQ r n) Γ
end CP
namespace CP
open PySem PySem.Spec PyProof.Rows L2 DS
section
variable (P:Program) (w:World) (K':Fr) (mg:Str->Option Value) (base:Heap) (C:Addr) (rm:Nat->Prop) (K:Fr) (x:Str)
def Kr:GI->Prop
 | .con i=>∃t,mg x=some (.int i t)
 | .fE k ps ks F=>FnI P w K' mg base k x ps (K5 K ks F)/\rm k
 | .fF k ps ks F=>FnI P w K' mg base k x ps (w_ K ks F)/\rm k
 | .mk k ps ks F G=>MkI P w K' mg base k C x ps (A5 K C ks F)/\(∀p ds o,G ds=some o->F p ds=some o)/\rm (k+1)
 | .blt=>mg x=none
def Wd:GI->Prop
 | .fE k ps _ F=>MtI P w K' mg base k C x ps (K5 K [false] F)/\rm k
 | .fF k ps _ F=>MtI P w K' mg base k C x ps (w_ K [false] F)/\rm k
 | _=>True
end
structure OkX (K:Fr) (Γ:Gm) (X:Cx):Prop where
 n:X.N=Γ.N
 sc:X.env.scope=Γ.sc
 nd:Γ.N.Nodup
 calm:X.calm=true
 k:X.K=K
 room:Room 0 X.A
 fn:Γ.fn=true->∀x,X.fn x=true
 gs:∀x g,Γ.gs.lookup x=some g->Kr X.prog X.w X.K X.mg X.base Γ.C (fun k=>Room k X.A) K x g
 ms:∀x g,Γ.ms.lookup x=some g->Wd X.prog X.w X.K X.mg X.base Γ.C (fun k=>Room k X.A) K x g
 cl:Cls K Γ.C
 fl:∀f,Γ.fl.contains f=true->yS K Γ.C f
def U2(X:Cx)(K:Fr)(e:Expr):Dn->Prop
 | .E d=>PE X e (tE K d)
 | .F d=>PE X e (tF K d)
structure RcOk (r:Rc):Prop where
 n:∀{K:Fr} {Γ:Gm} {X:Cx} {e:Expr} {d:Dn},OkX K Γ X->r.n Γ e=some d->U2 X K e d
 t:∀{K:Fr} {Γ:Gm} {X:Cx} {e:Expr} {d:DT},OkX K Γ X->r.t Γ e=some d->PT X e (tT K d)
 g:∀{K:Fr} {Γ:Gm} {X:Cx} {k:Nat} {e:Expr} {d:DG},OkX K Γ X->r.g Γ k e=some d->PG X e (tG K k d)
theorem jf{c:Bool}{α:Type}{o:Option α}{y:α}(h:cG c o=some y):c=true/\o=some y:=by
 cases c with
 | true=>exact⟨rfl,h⟩
 | false=>cases h
theorem j7{α β:Type}{o:Option α}{f:α->β}{y:β}(h:o.map f=some y):∃x,o=some x/\f x=y:=by
 cases o with
 | none=>cases h
 | some x=>exact⟨x,rfl,vFa h⟩
theorem ji{a b:Bool}(h:(a&&b)=true):a=true/\b=true:=by simpa using h
theorem YN{a:Bool}(h:(!a)=true):a=false:=by simpa using h
theorem V9{x:Str}:∀{l:List Str} {i:Nat},Gb x l=some i->l[i]?=some x
 | [],_,h=>by cases h
 | y::r,i,h=>by
  unfold Gb at h
  split at h
  ·cases h; rename_i e; rw[e]; rfl
  ·obtain⟨j,h1,h2⟩:=j7 h
   rw[<-h2]
   simpa using V9 h1
section
variable {r:Rc} {Γ:Gm} {X:Cx} {K:Fr} {x y:Str} {i:Nat} {e a b c tg:Expr} {es:List Expr} {pos:Pos} {d:DE}
theorem QK{sc:Scope}(h:qv sc x=true):kD sc x:=by
 unfold qv at h
 split at h <;> first | cases h | skip
 ·exact .inl (by assumption)
 ·exact .inr (.inl (by assumption))
 ·exact .inr (.inr (by assumption))
theorem QL{sc:Scope}(h:qw sc x=true):VN sc x:=by
 unfold qw at h
 split at h <;> first | cases h | skip
 ·exact .inl (by assumption)
 ·exact .inr (by assumption)
theorem Ks{sc:Scope}(h:Kn sc x=true):sc.names.lookup x=some .local:=by
 unfold Kn at h
 split at h
 ·assumption
 ·cases h
theorem uP(h:OkX K Γ X)(g:U1 Γ x=true):Gl X x/\(x==("__debug__" : Str))=false:=by
 obtain⟨g1,g2⟩:=ji g
 refine⟨?_,YN g2⟩
 show X.env.scope.names.lookup x=_
 rw[h.sc]
 split at g1
 ·assumption
 ·cases g1
theorem vP(h:OkX K Γ X)(g:Kp Γ x=true):Gl X x/\X.mg x=none:=by
 obtain⟨g1,g2⟩:=ji g
 refine⟨(uP h g1).1,?_⟩
 split at g2
 ·exact h.gs x _ (by assumption)
 ·cases g2
theorem Kt(e:slot Γ x=some i):Gb x Γ.N=some i/\qv Γ.sc x=true/\(x==("__debug__" : Str))=false/\(x==("__classdict__" : Str))=false:=by
 obtain⟨j,e1,e2⟩:=j0 e
 split at e2
 ·cases e2
  rename_i hh
  obtain⟨h1,h2⟩:=ji hh
  obtain⟨h2,h3⟩:=ji h2
  exact⟨e1,h1,YN h2,YN h3⟩
 ·cases e2
theorem yF(h:OkX K Γ X)(e:slot Γ x=some i):PE X (.Name x pos) (YY i):=by
 obtain⟨h1,h2,h3,h4⟩:=Kt e
 exact pv i (by rw[h.n]; exact V9 h1) (by rw[h.sc]; exact QK h2) h3 h4
theorem YC(h:nm Γ e=some i):∃x pos,e=.Name x pos/\slot Γ x=some i:=by
 unfold nm at h
 split at h
 ·exact⟨_,_,rfl,h⟩
 ·cases h
theorem ug(h:OkX K Γ X)(e:Wb Γ x=some i):X.N.Nodup/\X.N[i]?=some x/\VN X.env.scope x/\(X.fn x=true∨X.env.scope.names.lookup x=some .local):=by
 obtain⟨j,e1,e2⟩:=j0 e
 split at e2
 ·cases e2
  rename_i hh
  obtain⟨h1,h2⟩:=ji hh
  refine⟨by rw[h.n]; exact h.nd,by rw[h.n]; exact V9 e1,by rw[h.sc]; exact QL h1,?_⟩
  rw[Bool.or_eq_true]at h2
  rcases h2 with h2 | h2
  ·exact .inl (h.fn h2 x)
  ·exact .inr (by rw[h.sc]; exact Ks h2)
 ·cases e2
theorem jx{env:Env}(h:JV e=true):starEach (e::es) env=(false,eval e env)::starEach es env:=by
 cases e <;> first | rfl | cases h
theorem Yq{env:Env}:∀{es:List Expr},(∀e∈es,JV e=true)->(backTo pos (starEach es env)).any (·.1)=false
 | [],_=>rfl
 | e::es,h=>by
  rw[jx (h e List.mem_cons_self)]
  show(false||(backTo pos (starEach es env)).any (·.1))=false
  rw[Yq fun x hx=>h x (List.mem_cons_of_mem _ hx)]
  rfl
theorem uF{env:Env}{f:Str}(h:Ko e=true):attributeBase e f env (eval e env)=eval e env:=by
 cases e <;> first | rfl | cases h
theorem gc(h:qx b=true):gM b:=by
 cases b <;> first | (intro _ _; rfl) | cases h
theorem We{env:Env}{e:Expr}(h:kr e=true):∀x,foldedSetIterable e env x=pure x:=by
 cases e <;> first | (intro _; rfl) | cases h
theorem Yg{env:Env}{t:Option Expr}{l:Nat}(h:Up e=true):swapsWith e t l env=pure false:=by
 cases e <;> first | rfl | cases h
theorem Ku{f:Nat->DE}(h:cV r Γ f e=some d):(∃i,nm Γ e=some i/\d=f i)∨∃n,r.n Γ e=some n/\d=n.e:=by
 unfold cV at h
 split at h
 ·exact .inl ⟨_,by assumption,(vFa h).symm⟩
 ·obtain⟨n,h1,h2⟩:=j7 h
  exact .inr ⟨n,h1,h2.symm⟩
theorem XF{n:Dn}(h:U2 X K e n):PE X e (tE K n.e):=by
 cases n with
 | E d=>exact h
 | F d=>exact Hj h
variable (R:RcOk r) (h:OkX K Γ X)
include R h
theorem yp(q:cV r Γ dC e=some d):PE X e (tE K d):=by
 rcases Ku q with⟨i,q1,rfl⟩ | ⟨n,q1,rfl⟩
 ·obtain⟨x,p,rfl,q2⟩:=YC q1
  exact aX i (yF h q2)
 ·exact XF (R.n h q1)
theorem jp(q:cV r Γ dV e=some d):PE X e (tR K d):=by
 rcases Ku q with⟨i,q1,rfl⟩ | ⟨n,q1,rfl⟩
 ·obtain⟨x,p,rfl,q2⟩:=YC q1
  exact EF i (yF h q2)
 ·exact Hh (XF (R.n h q1))
theorem Va(q:cV r Γ dP e=some d):PE X e (tP K d):=by
 rcases Ku q with⟨i,q1,rfl⟩ | ⟨n,q1,rfl⟩
 ·obtain⟨x,p,rfl,q2⟩:=YC q1
  exact fv i (yF h q2)
 ·exact HF (XF (R.n h q1))
theorem ZW:∀{ks:List Bool} {es:List Expr} {l:DA},cA r Γ ks es=some l->PA X es (YB K l)/\l.map (·.1)=ks/\(∀e∈es,JV e=true)/\l.length=es.length
 | [],[],l,q=>by cases q; exact⟨fc,rfl,(fun _ h=>by cases h),rfl⟩
 | k::ks,e::es,l,q=>by
  unfold cA at q
  split at q
  ·rename_i hs
   obtain⟨d,q1,q⟩:=j0 q
   obtain⟨l',q2,q⟩:=j0 q
   cases q
   obtain⟨a1,a2,a3,a4⟩:=ZW q2
   refine⟨?_,by simp[a2],fun z hz=>?_,by simp[a4]⟩
   ·cases k with
    | true=>exact HB (yp R h q1) a1 (jx hs)
    | false=>exact HC (jp R h q1) a1 (jx hs)
   ·rcases List.mem_cons.mp hz with rfl | hz
    ·exact hs
    ·exact a3 z hz
  ·cases q
 | [],_::_,_,q=>by cases q
 | _::_,[],_,q=>by cases q
omit R in
theorem Du{op:Operator}{f:D->D->Option D}(q:D5 op=some f):∃t,jI X (binaryOp op) t/\Jh K t f:=by
 have:=h.k
 subst this
 cases op <;> cases q
 ·exact⟨_,bZ,EU⟩
 ·exact⟨_,cH,EK⟩
 ·exact⟨_,bX,C_⟩
 ·exact⟨_,cK,EM⟩
 ·exact⟨_,cL,EO⟩
 ·exact⟨_,bi,EN⟩
omit R in
theorem zA{op:CmpOp}{f:D->D->Option D}(q:V8 op=some f):∃t,jI X (compareOp op) t/\Jh K t f:=by
 have:=h.k
 subst this
 cases op <;> cases q
 ·exact⟨_,dj h.room,HN⟩
 ·exact⟨_,dl h.room,HP⟩
 ·exact⟨_,Eu,Ho⟩
 ·exact⟨_,Ev,Hq⟩
 ·exact⟨_,Ew,Hr⟩
 ·exact⟨_,Ex,Hs⟩
 ·exact⟨_,cP,EQ⟩
 ·exact⟨_,bj,Co⟩
 ·exact⟨_,Q8,dm⟩
 ·exact⟨_,kM,dm⟩
omit R in
theorem QM{p:Pos}{op:CmpOp}{f:D->D->Option D}(q:Ap Γ p op=some f):∃t,jI X (compareOp op) t/\Jh K t f:=by
 unfold Ap at q
 split at q
 ·have:=h.k
  subst this
  cases op <;> cases q
  ·exact⟨_,QD h.room,Aj⟩
  ·exact⟨_,Kg h.room,Aj⟩
 ·exact zA h q
theorem QN:∀{vs:List Expr} {d:DE},cB r Γ y0 vs=some d->PE X (.BoolOp .And vs pos) (tE K d)
 | [],_,q=>by cases q
 | [a],_,q=>A1 (yp R h q)
 | a::b::c,d,q=>by
  unfold cB at q
  obtain⟨d1,q1,q⟩:=j0 q
  obtain⟨d2,q2,q⟩:=j0 q
  cases q
  exact EZ (jp R h q1) (QN q2)
theorem Au:∀{vs:List Expr} {d:DE},cB r Γ k_ vs=some d->PE X (.BoolOp .Or vs pos) (tE K d)
 | [],_,q=>by cases q
 | [a],_,q=>A1 (yp R h q)
 | a::b::c,d,q=>by
  unfold cB at q
  obtain⟨d1,q1,q⟩:=j0 q
  obtain⟨d2,q2,q⟩:=j0 q
  cases q
  exact HA (jp R h q1) (Au q2)
theorem QO:∀{vs:List Expr} {d:DT},cW r Γ yZ vs=some d->PW X (.BoolOp .And vs pos) (tT K d)
 | [],_,q=>by cases q
 | [a],_,q=>Cr (R.t h q)
 | a::b::c,d,q=>by
  unfold cW at q
  obtain⟨d1,q1,q⟩:=j0 q
  obtain⟨d2,q2,q⟩:=j0 q
  cases q
  exact EY (R.t h q1) (QO q2)
theorem Av:∀{vs:List Expr} {d:DT},cW r Γ v7 vs=some d->PW X (.BoolOp .Or vs pos) (tT K d)
 | [],_,q=>by cases q
 | [a],_,q=>EX (R.t h q)
 | a::b::c,d,q=>by
  unfold cW at q
  obtain⟨d1,q1,q⟩:=j0 q
  obtain⟨d2,q2,q⟩:=j0 q
  cases q
  exact Hz (R.t h q1) (Av q2)
theorem uQ{o:Option Expr}{p:UU}(q:part r Γ o=some p):PO X o (K0 K p):=by
 cases o with
 | none=>cases q; exact HD
 | some e=>
  obtain⟨d,q1,rfl⟩:=j7 q
  exact HE (jp R h q1)
theorem QP{di:DI}(q:D6 r Γ e=some di):PI X tg e (YW K di):=by
 obtain⟨d,q1,rfl⟩:=j7 q
 split
 ·exact dM (Va R h q1)
 ·exact fz (Va R h q1) h.k
omit R h in
theorem Uq(t:uN e=true):∃es n p,e=.Tuple es n p:=by
 cases e <;> first | exact⟨_,_,_,rfl⟩ | cases t
theorem Dv{di:DI}{es:List Expr}{np:Pos}(q:D7 r Γ (uN tg) x es=some di):PI X tg (.Call (.Name x np) es [] pos) (YW K di):=by
 unfold D7 at q
 split at q
 ·rename_i hb
  obtain⟨g1,g2⟩:=vP h hb
  split at q
  ·split at q
   ·rename_i ex
    subst ex
    obtain⟨s1,q⟩:=jf q
    obtain⟨d,q1,rfl⟩:=j7 q
    exact CA g1 g2 (jp R h q1) (jx s1)
   ·split at q
    ·rename_i ex
     subst ex
     obtain⟨s1,q⟩:=jf q
     obtain⟨u1,u2⟩:=ji s1
     obtain⟨d,q1,rfl⟩:=j7 q
     obtain⟨_,_,_,rfl⟩:=Uq u2
     exact CD g1 g2 (Va R h q1) (jx u1) h.k
    ·split at q
     ·rename_i ex
      subst ex
      obtain⟨s1,q⟩:=jf q
      obtain⟨d,q1,rfl⟩:=j7 q
      exact fW g1 g2 (Va R h q1) (jx s1) h.k
     ·cases q
  ·split at q
   ·rename_i ex
    subst ex
    obtain⟨s1,q⟩:=jf q
    obtain⟨s1,s2⟩:=ji s1
    obtain⟨d,q1,q⟩:=j0 q
    obtain⟨d',q2,rfl⟩:=j7 q
    exact CB g1 g2 (jp R h q1) (jp R h q2) (by rw[jx s1,jx s2]; rfl) (jx s2)
   ·split at q
    ·rename_i ex
     subst ex
     obtain⟨s1,q⟩:=jf q
     obtain⟨u1,u3⟩:=ji s1
     obtain⟨u1,u2⟩:=ji u1
     obtain⟨d,q1,q⟩:=j0 q
     obtain⟨d',q2,rfl⟩:=j7 q
     obtain⟨_,_,_,rfl⟩:=Uq u3
     exact fG g1 g2 (Va R h q1) (Va R h q2) (by rw[jx u1,jx u2]; rfl) (jx u2) h.k
    ·cases q
  ·cases q
 ·cases q
theorem Dw{di:DI}{f:Expr}{as:List Expr}{ks:List Keyword}{p:Pos}(q:D8 r Γ tg (.Call f as ks p) f as ks p=some di):PI X tg (.Call f as ks p) (YW K di):=by
 unfold D8 at q
 split at q
 ·split at q
  ·split at q
   ·cases q
    exact Dv R h (by assumption)
   ·exact QP R h q
  ·cases q
 ·split at q
  ·obtain⟨z,q⟩:=jf q
   obtain⟨z,z4⟩:=ji z
   obtain⟨z,z3⟩:=ji z
   obtain⟨z1,z2⟩:=ji z
   obtain⟨d,q1,rfl⟩:=j7 q
   have e1:=vLa z1
   subst e1
   obtain⟨_,_,_,rfl⟩:=Uq z2
   exact B8 (Va R h q1) (uF z3) z4
  ·cases q
 ·cases q
theorem Aw{di:DI}(q:cI r Γ tg e=some di):PI X tg e (YW K di):=by
 unfold cI at q
 split at q
 ·exact Dw R h q
 ·exact QP R h (jf q).2
end
end CP
namespace CP
open PySem PySem.Spec PyProof.Rows L2 DS
theorem Gc:∀{l:List Str},Kq l=true->l.Nodup
 | [],_=>List.nodup_nil
 | x::r,h=>by
  obtain⟨h1,h2⟩:=ji h
  refine List.nodup_cons.mpr ⟨fun z=>?_,Gc h2⟩
  rw[List.contains_iff_mem.mpr z]at h1
  cases h1
theorem Wf:∀{l:List Nat},XD l=true->l.Nodup
 | [],_=>List.nodup_nil
 | x::r,h=>by
  obtain⟨h1,h2⟩:=ji h
  refine List.nodup_cons.mpr ⟨fun z=>?_,Wf h2⟩
  rw[List.contains_iff_mem.mpr z]at h1
  cases h1
structure LcP (X:Cx) (K:Fr) (elt tg iter:Expr) (ifs:List Expr) (scope:Scope) (own:List Str) (caps:List (Str×Nat)) (di:DI) (g:DG) (dc:DT) (de:DE):Prop where
 S:CScope X scope
 cp:Caps X scope caps
 i:PI X tg iter (YW K di)
 g:∀s3 H3 ex',PG (X.comp (L2.cN own caps) scope s3 H3 ex') tg (tG K own.length g)
 t:∀s3 H3 ex',zD (X.comp (L2.cN own caps) scope s3 H3 ex') ifs (tT K dc)
 e:∀s3 H3 ex',PE (X.comp (L2.cN own caps) scope s3 H3 ex') elt (tE K de)
 nd:(caps.map (·.2)).Nodup
 fs:∀x,foldedSetIterable iter X.env x=pure x
section
variable {r:Rc} {Γ:Gm} {X:Cx} {K:Fr} {x y:Str} {i:Nat} {e a b c tg:Expr} {es:List Expr} {pos:Pos} {d:DE}
theorem Ur{own:List Str}{caps:List (Str×Nat)}{scope:Scope}(h:OkX K Γ X)(hn:Kq (uO Γ own caps scope).N=true){s3:Shared}{H3:Hp}{ex':List Addr}:OkX K (uO Γ own caps scope) (X.comp (L2.cN own caps) scope s3 H3 ex') where
 n:=rfl
 sc:=by
  show relabel scope X.env=D9 scope Γ.sc
  rw[<-h.sc]
  rfl
 nd:=Gc hn
 calm:=h.calm
 k:=h.k
 room:=h.room
 fn:=fun z=>by cases z
 gs:=h.gs
 ms:=h.ms
 cl:=h.cl
 fl:=h.fl
theorem Fd{scope:Scope}(h:OkX K Γ X)(q:FK Γ scope=true):CScope X scope:=by
 obtain⟨q,q4⟩:=ji q
 obtain⟨q,q3⟩:=ji q
 obtain⟨q1,q2⟩:=ji q
 refine⟨?_,q2,q3,by rw[h.sc]; exact q4⟩
 split at q1
 ·assumption
 ·cases q1
theorem Wg{scope:Scope}(h:OkX K Γ X):∀{caps:List (Str×Nat)},caps.all (Da Γ scope)=true->Caps X scope caps
 | [],_=>.nil
 | (y,j)::r,q=>by
  rw[List.all_cons]at q
  obtain⟨q1,q2⟩:=ji q
  obtain⟨q1,q5⟩:=ji q1
  obtain⟨q3,q4⟩:=ji q1
  refine .cons ?_ ?_ ?_ (Wg h q2)
  ·rw[h.n]
   dsimp only at q3
   split at q3
   ·rename_i z hz
    rw[hz,eq_of_beq q3]
   ·cases q3
  ·show X.env.scope.names.lookup y=_∨X.env.scope.names.lookup y=_
   rw[h.sc]
   split at q4
   ·exact .inl (by assumption)
   ·exact .inr (by assumption)
   ·cases q4
  ·split at q5
   ·assumption
   ·cases q5
variable (R:RcOk r) (h:OkX K Γ X)
include R h
theorem Dx{elt iter:Expr}{ifs:List Expr}{scope:Scope}{p:Pos}{d:DO}(q:Df r Γ elt tg iter ifs scope p=some d):
  ∃own caps di g dc de,d=JL own.length (caps.map (·.2)) di g dc de/\LcP X K elt tg iter ifs scope own caps di g dc de:=by
 unfold Df at q
 dsimp only at q
 obtain⟨z,q⟩:=jf q
 obtain⟨z,z5⟩:=ji z
 obtain⟨z,z4⟩:=ji z
 obtain⟨z,z3⟩:=ji z
 obtain⟨z1,z2⟩:=ji z
 obtain⟨di,q1,q⟩:=j0 q
 obtain⟨g,q2,q⟩:=j0 q
 obtain⟨dc,q3,q⟩:=j0 q
 obtain⟨de,q4,q⟩:=j0 q
 refine⟨_,_,di,g,dc,de,(vFa q).symm,Fd h z1,Wg h z2,Aw R h q1,fun _ _ _=>R.g (Ur h z3) q2,fun _ _ _=>?_,fun _ _ _=>yp R (Ur h z3) q4,Wf z4,We z5⟩
 split at q3
 ·cases q3
  exact HI
 ·exact HJ (R.t (Ur h z3) q3)
 ·cases q3
omit R in
theorem Bl{n:Nat}{l:DA}{f:List D->Option D}{np:Pos}(q:XA x n=some f)(g1:Gl X x)(g2:X.mg x=none)(ha:PA X (e::es) (YB K l))(he:starEach (e::es) X.env=(false,eval e X.env)::starEach es X.env)(hpl:(backTo pos (starEach es X.env)).any (·.1)=false):
  PE X (.Call (.Name x np) (e::es) [] pos) (tE K (j9 f l)):=by
 have:=h.k
 subst this
 unfold XA at q
 split at q
 ·rename_i ex; subst ex; cases q
  exact jz (yk kN g1 g2 PySem.boot_len ha (by decide) (by decide) he hpl) (YJ fj)
 ·split at q
  ·rename_i ex; subst ex; cases q
   exact jz (ZN k6 g1 g2 PyProof.Rows.boot_tuple ha (by decide) (by decide) he hpl) (YJ bO)
  ·split at q
   ·rename_i ex; subst ex; cases q
    exact jz (ZN Q0 g1 g2 PyProof.Rows.boot_int ha (by decide) (by decide) he hpl) (YJ fk)
   ·split at q
    ·rename_i ex; subst ex; cases q
     exact jz (yk (X4 h.calm) g1 g2 PyProof.Rows.boot_all ha (by decide) (by decide) he hpl) (YJ ft)
    ·split at q
     ·rename_i ex; subst ex; cases q
      exact jz (yk (qZ h.calm) g1 g2 PyProof.Rows.boot_max ha (by decide) (by decide) he hpl) (YJ fm)
     ·split at q
      ·rename_i ex; subst ex; cases q
       split
       ·exact jz (yk (QJ h.calm) g1 g2 PyProof.Rows.boot_min ha (by decide) (by decide) he hpl) (YJ dQ)
       ·exact jz (yk (q_ h.calm) g1 g2 PyProof.Rows.boot_min ha (by decide) (by decide) he hpl) (YJ fq)
      ·split at q
       ·rename_i ex; subst ex; cases q
        exact jz (yk (Xr h.calm) g1 g2 PyProof.Rows.boot_sum ha (by decide) (by decide) he hpl) (YJ fX)
       ·split at q
        ·rename_i ex; subst ex; cases q
         exact jz (yk (Xs h.calm) g1 g2 PyProof.Rows.boot_any ha (by decide) (by decide) he hpl) (YJ fY)
        ·cases q
omit R in
theorem Bm{l:DA}{b:Bool}{f:List D->Option OD}{np:Pos}(q:XB x b=some f)(g1:Gl X x)(g2:X.mg x=none)(ha:PA X (e::es) (YB K l))(he:starEach (e::es) X.env=(false,eval e X.env)::starEach es X.env)(hpl:(backTo pos (starEach es X.env)).any (·.1)=false):
  PE X (.Call (.Name x np) (e::es) [] pos) (tF K (jW f l)):=by
 have:=h.k
 subst this
 unfold XB at q
 split at q
 ·rename_i ex; subst ex; cases q
  cases b
  ·exact jz (ZN kO g1 g2 PyProof.Rows.boot_list ha (by decide) (by decide) he hpl) (wY Cw)
  ·exact jz (ZN (qk h.calm) g1 g2 PyProof.Rows.boot_list ha (by decide) (by decide) he hpl) (wY B7)
 ·cases q
omit R h in
theorem Bn{t:Str}{T:String}(q:XC t=some T):bootBuiltins t=some (.type T)/\t≠ "__name__" /\(t==("__debug__" : Str))=false:=by
 unfold XC at q
 repeat (split at q; · rename_i ex; subst ex; cases q; exact⟨by first | exact PyProof.Rows.boot_list | exact PyProof.Rows.boot_tuple | exact PyProof.Rows.boot_bool | exact PyProof.Rows.boot_str | exact PyProof.Rows.boot_int,by decide,by decide⟩)
 cases q
theorem Bo{n:Dn}{np:Pos}(g1:Gl X "isinstance")(g2:X.mg "isinstance" = none)(q:XE r Γ es=some n):U2 X K (.Call (.Name "isinstance" np) es [] pos) n:=by
 unfold XE at q
 split at q
 ·split at q
  ·obtain⟨z,q⟩:=jf q
   obtain⟨z3,z4⟩:=ji z
   obtain⟨T,q1,q⟩:=j0 q
   obtain⟨d,q2,rfl⟩:=j7 q
   obtain⟨b1,b2,b3⟩:=Bn q1
   obtain⟨k1,k2⟩:=vP h z4
   exact fO (yk X6 g1 g2 PyProof.Rows.boot_isinstance (jU (jp R h q2) (jU (gH (v:=.ty T) k1 k2 b1 rfl b2 b3) JN) (jx z3)) (by decide) (by decide) (jx z3)) h.k
  ·split at q
   ·obtain⟨z,q⟩:=jf q
    obtain⟨z,z7⟩:=ji z
    obtain⟨z,z6⟩:=ji z
    obtain⟨z,z5⟩:=ji z
    obtain⟨z3,z4⟩:=ji z
    obtain⟨d,q2,rfl⟩:=j7 q
    have e1:=vLa z6
    have e2:=vLa z7
    subst e1 e2
    obtain⟨k1,k2⟩:=vP h z4
    obtain⟨k3,k4⟩:=vP h z5
    exact dA (bJ g1 g2 k1 k2 k3 k4 (jp R h q2) (jx z3)) h.k
   ·cases q
  ·cases q
 ·cases q
theorem XH{n:Dn}{np:Pos}(q0:Ao r Γ x es pos=some n):U2 X K (.Call (.Name x np) es [] pos) n:=by
 obtain⟨z,q⟩:=jf q0
 clear q0
 obtain⟨z1,z2⟩:=ji z
 obtain⟨g1,g3⟩:=uP h z1
 cases es with
 | nil=>cases z2
 | cons e es=>
 split at q
 ·rename_i hl
  obtain⟨l,q1,rfl⟩:=j7 q
  obtain⟨a1,a2,a3,_⟩:=ZW R h q1
  obtain⟨G,hr⟩:=h.gs _ _ hl
  exact CH G hr a1 a2 g1 g3 (jx (a3 _ wNa)) (Yq fun z hz=>a3 z (wMa _ hz))
 ·rename_i hl
  obtain⟨l,q1,rfl⟩:=j7 q
  obtain⟨a1,a2,a3,_⟩:=ZW R h q1
  obtain⟨G,hr⟩:=h.gs _ _ hl
  exact CI G hr a1 a2 g1 g3 (jx (a3 _ wNa)) (Yq fun z hz=>a3 z (wMa _ hz))
 ·rename_i hl
  obtain⟨l,q1,rfl⟩:=j7 q
  obtain⟨a1,a2,a3,_⟩:=ZW R h q1
  obtain⟨G,hF,hr⟩:=h.gs _ _ hl
  exact CK G hF hr a1 a2 g1 g3 (jx (a3 _ wNa)) (Yq fun z hz=>a3 z (wMa _ hz))
 ·rename_i hl
  have g2:X.mg x=none:=h.gs _ _ hl
  split at q
  ·rename_i ex
   subst ex
   exact Bo R h g1 g2 q
  ·obtain⟨l,q1,q⟩:=j0 q
   obtain⟨a1,a2,a3,_⟩:=ZW R h q1
   have s1:=jx (es:=es) (env:=X.env) (a3 _ wNa)
   have s2:=Yq (pos:=pos) (env:=X.env) fun z hz=>a3 z (wMa _ hz)
   split at q
   ·rename_i hb
    cases q
    exact Bl h hb g1 g2 a1 s1 s2
   ·obtain⟨f,q2,rfl⟩:=j7 q
    exact Bm h q2 g1 g2 a1 s1 s2
 ·cases q
omit R h in
theorem Vb:∀{l:DA} {es:List Expr},l.map (·.1)=(es.map fun _=>true)->(l.map (·.1)).all id=true:=fun {l es} q=>by
 rw[q]
 simp
omit R h in
theorem Wh{env:Env}{m:Str}{ap p cp:Pos}(hl:(ap.endLine==cp.line)=true):eval (.Call (.Attribute (.Name x p) m ap) [] [] cp) env=(do
   let ov<-eval (.Name x p) env
   standAt ap.atName
   let (f,first)<-holding [ov] (getMethod ov m (do return (<-importBound (.Name x p) env).getD true))
   callWith cp f first (backTo cp (starEach [] env)) (backToKw cp (keywordEach [] env))):=by
 have e:methodCallPos true (.Name x p) env ap cp=pure cp:=by unfold methodCallPos; rw[hl]; rfl
 have f:methodCallForm 0 (backTo cp (starEach [] env)) (backToKw cp (keywordEach [] env))=true:=rfl
 show(do
  let ov<-eval (.Name x p) env
  standAt ap.atName
  methodCall (.Name x p) m ap cp env ov 0 (backTo cp (starEach [] env)) (backToKw cp (keywordEach [] env)))=_
 unfold methodCall
 rw[f,e]
 rfl
omit R h in
theorem Dy{c:Const}{k:Nat}{n:Dn}(q:Dg c=some n):U2 X K (.Constant c k pos) n:=by
 unfold Dg at q
 split at q <;> cases q
 ·exact EG
 ·exact Hl
 ·exact EH
 ·exact EI
theorem Dz{op:UnaryOp}{n:Dn}(q:Dh r Γ op a=some n):U2 X K (.UnaryOp op a pos) n:=by
 unfold Dh at q
 split at q
 ·obtain⟨d,q1,rfl⟩:=j7 q
  exact f9 (jp R h q1)
 ·obtain⟨d,q1,rfl⟩:=j7 q
  exact E_ (jp R h q1)
 ·cases q
theorem DB{op:Operator}{n:Dn}(q:FL r Γ a op b pos=some n):U2 X K (.BinOp a op b pos) n:=by
 obtain⟨d,q1,q⟩:=j0 q
 obtain⟨d',q2,q⟩:=j0 q
 split at q
 ·split at q
  ·cases q; exact Cm Ce ET (jp R h q1) (jp R h q2)
  ·cases q; exact Cm Cg Cp (jp R h q1) (jp R h q2)
  ·cases q
 ·obtain⟨f,q3,rfl⟩:=j7 q
  obtain⟨t,o1,o2⟩:=Du h q3
  exact Hn o1 o2 (jp R h q1) (jp R h q2)
theorem DC{os:List CmpOp}{bs:List Expr}{d:DE}(q:Di r Γ a os bs pos=some d):PE X (.Compare a os bs pos) (tE K d):=by
 unfold Di at q
 split at q
 ·obtain⟨z,q⟩:=jf q
  obtain⟨d,q1,q⟩:=j0 q
  obtain⟨d',q2,q⟩:=j0 q
  obtain⟨f,q3,rfl⟩:=j7 q
  obtain⟨t,o1,o2⟩:=QM h q3
  exact EJ o1 o2 (jp R h q1) (jp R h q2) (YN z)
 ·obtain⟨z,q⟩:=jf q
  obtain⟨d,q1,q⟩:=j0 q
  obtain⟨d',q2,q⟩:=j0 q
  obtain⟨d'',q3,q⟩:=j0 q
  obtain⟨f,p1,q⟩:=j0 q
  obtain⟨f',p2,rfl⟩:=j7 q
  obtain⟨t,o1,o2⟩:=zA h p1
  obtain⟨t',o1',o2'⟩:=zA h p2
  exact bM o1 o1' o2 o2' (jp R h q1) (jp R h q2) (jp R h q3) (YN z)
 ·obtain⟨z,q⟩:=jf q
  obtain⟨d,q1,q⟩:=j0 q
  obtain⟨d',q2,q⟩:=j0 q
  obtain⟨d'',q3,q⟩:=j0 q
  obtain⟨d3,q4,q⟩:=j0 q
  obtain⟨f,p1,q⟩:=j0 q
  obtain⟨f',p2,q⟩:=j0 q
  obtain⟨f'',p3,rfl⟩:=j7 q
  obtain⟨t,o1,o2⟩:=zA h p1
  obtain⟨t',o1',o2'⟩:=zA h p2
  obtain⟨t'',o1'',o2''⟩:=zA h p3
  exact Xa o1 o1' o1'' o2 o2' o2'' (jp R h q1) (jp R h q2) (jp R h q3) (jp R h q4) (YN z)
 ·cases q
theorem DD{n:Dn}(q:Dj r Γ a b pos=some n):U2 X K (.Subscript a b pos) n:=by
 have hK:=h.k
 unfold Dj at q
 split at q
 ·split at q
  ·obtain⟨d,q1,q⟩:=j0 q
   obtain⟨u,q2,q⟩:=j0 q
   obtain⟨v,q3,rfl⟩:=j7 q
   split
   ·exact fh (jp R h q1) (uQ R h q2) (uQ R h q3) hK
   ·exact fg (jp R h q1) (uQ R h q2) (uQ R h q3) hK
  ·cases q
 ·obtain⟨z,q⟩:=jf q
  obtain⟨d,q1,q⟩:=j0 q
  obtain⟨d',q2,rfl⟩:=j7 q
  subst hK
  split
  ·exact Cl (dF h.room) fU (jp R h q1) (jp R h q2) (gc z)
  ·exact Cl C8 Ht (jp R h q1) (jp R h q2) (gc z)
theorem QQ{elt:Expr}{gs:List Comprehension}{scope:Scope}{d:DO}(q:Aq r Γ elt gs scope pos=some d):
  ∃tg iter ifs own caps di g dc de,gs=[⟨tg,iter,ifs,0⟩]/\d=JL own.length (caps.map (·.2)) di g dc de/\LcP X K elt tg iter ifs scope own caps di g dc de:=by
 unfold Aq at q
 split at q
 ·obtain⟨z,q⟩:=jf q
  have z0:=vLa z
  subst z0
  obtain⟨own,caps,di,g,dc,de,rfl,L⟩:=Dx R h q
  exact⟨_,_,_,own,caps,di,g,dc,de,rfl,rfl,L⟩
 ·cases q
theorem DF{m:Str}{ap:Pos}{n:Dn}(q:Dk r Γ a m ap es pos=some n):U2 X K (.Call (.Attribute a m ap) es [] pos) n:=by
 unfold Dk at q
 split at q
 ·obtain⟨z,q⟩:=jf q
  obtain⟨d,q1,q⟩:=j0 q
  split at q
  ·rename_i hl
   cases q
   obtain⟨M,hr⟩:=h.ms _ _ hl
   exact bQ (jp R h q1) h.cl M hr (Wh z) h.k
  ·rename_i hl
   cases q
   obtain⟨M,hr⟩:=h.ms _ _ hl
   exact bR (jp R h q1) h.cl M hr (Wh z) h.k
  ·cases q
 ·cases q
theorem Fe{n:Dn}(q:cN r Γ e=some n):U2 X K e n:=by
 have hK:=h.k
 unfold cN at q
 split at q
 ·obtain⟨z,q⟩:=jf q
  obtain⟨g1,g2⟩:=uP h z
  split at q
  ·rename_i hl
   cases q
   exact Cj (iY (h.gs _ _ hl) g1 g2)
  ·cases q
 ·exact Dy q
 ·exact Dz R h q
 ·exact DB R h q
 ·obtain⟨d,q1,rfl⟩:=j7 q
  exact DC R h q1
 ·split at q
  ·obtain⟨d,q1,rfl⟩:=j7 q
   exact QN R h q1
  ·obtain⟨d,q1,rfl⟩:=j7 q
   exact Au R h q1
 ·obtain⟨t,q1,q⟩:=j0 q
  obtain⟨d,q2,q⟩:=j0 q
  obtain⟨d',q3,rfl⟩:=j7 q
  exact fb (R.t h q1) (yp R h q2) (yp R h q3)
 ·obtain⟨z,q⟩:=jf q
  obtain⟨l,q1,rfl⟩:=j7 q
  obtain⟨a1,a2,_,a4⟩:=ZW R h q1
  exact fe a1 (Vb a2) (by rw[a4]; rw[Nat.ble_eq]at z⊢; exact wSa z (by decide))
 ·obtain⟨z,q⟩:=jf q
  obtain⟨l,q1,rfl⟩:=j7 q
  obtain⟨a1,a2,_,a4⟩:=ZW R h q1
  exact ff a1 (Vb a2) (by rw[a4]; rw[Nat.ble_eq]at z⊢; exact wSa z (by decide))
 ·split at q
  ·cases q
   exact dJ
  ·cases q
 ·obtain⟨z,q⟩:=jf q
  obtain⟨z1,z2⟩:=ji z
  obtain⟨d,q1,rfl⟩:=j7 q
  exact fu (jp R h q1) h.cl (h.fl _ z2) (uF z1) hK
 ·exact DD R h q
 ·obtain⟨d,q1,rfl⟩:=j7 q
  obtain⟨_,_,_,own,caps,di,g,dc,de,rfl,rfl,L⟩:=QQ R h q1
  exact HK own caps L.S L.cp h.calm L.i L.g L.t L.e L.nd L.fs
 ·unfold FM at q
  split at q
  ·split at q
   ·exact XH R h q
   ·exact DF R h q
   ·cases q
  ·split at q
   ·obtain⟨z,q⟩:=jf q
    obtain⟨z,z4⟩:=ji z
    obtain⟨z,z3⟩:=ji z
    obtain⟨z1,z2⟩:=ji z
    obtain⟨d,q1,q⟩:=j0 q
    obtain⟨d',q2,rfl⟩:=j7 q
    have e1:=vLa z1
    have e2:=vLa z2
    subst e1 e2
    obtain⟨g1,g2⟩:=vP h z3
    exact dR h.calm g1 g2 (jp R h q1) (jp R h q2) (jx z4) h.k
   ·cases q
  ·cases q
 ·cases q
omit R h in
theorem Ax{env:Env}(z:Dl e=true):∀whole,isTrue e env whole=(do let v<-whole; standAt e.pos; holding [v] (truthy v)):=by
 cases e <;> first | (intro _; rfl) | cases z | skip
 rename_i op _ _
 cases op <;> first | (intro _; rfl) | cases z
theorem DH{os:List CmpOp}{bs:List Expr}{t:DT}(q:Dm r Γ a os bs pos=some t):PT X (.Compare a os bs pos) (tT K t):=by
 unfold Dm at q
 split at q
 ·obtain⟨z,q⟩:=jf q
  obtain⟨d,q1,q⟩:=j0 q
  obtain⟨d',q2,q⟩:=j0 q
  obtain⟨f,q3,rfl⟩:=j7 q
  obtain⟨t,o1,o2⟩:=QM h q3
  exact EV o1 o2 (jp R h q1) (jp R h q2) (YN z)
 ·obtain⟨z,q⟩:=jf q
  obtain⟨d,q1,q⟩:=j0 q
  obtain⟨d',q2,q⟩:=j0 q
  obtain⟨d'',q3,q⟩:=j0 q
  obtain⟨f,p1,q⟩:=j0 q
  obtain⟨f',p2,rfl⟩:=j7 q
  obtain⟨t,o1,o2⟩:=zA h p1
  obtain⟨t',o1',o2'⟩:=zA h p2
  exact bN o1 o1' o2 o2' (jp R h q1) (jp R h q2) (jp R h q3) (YN z)
 ·cases q
theorem Ff{t:DT}(q:cT r Γ e=some t):PT X e (tT K t):=by
 unfold cT at q
 split at q
 ·exact DH R h q
 ·split at q
  ·obtain⟨t,q1,rfl⟩:=j7 q
   exact EW (R.t h q1)
  ·obtain⟨z,q⟩:=jf q
   obtain⟨d,q1,rfl⟩:=j7 q
   exact A0 (jp R h q1) h.k (Ax z)
 ·split at q
  ·exact Cs (QO R h q)
  ·exact Cs (Av R h q)
 ·obtain⟨z,q⟩:=jf q
  obtain⟨d,q1,rfl⟩:=j7 q
  exact A0 (jp R h q1) h.k (Ax z)
omit R h in
theorem Kv{env:Env}(z:JV e=true):(assignEach (e::es) env)=(false,assign e env)::assignEach es env:=by
 cases e <;> first | rfl | cases z
theorem QR{k:Nat}:∀{es:List Expr} {gs:u7},Ar r Γ k es=some gs->VO X es (Qo K k gs)/\(assignEach es X.env).length=es.length/\(assignEach es X.env).findIdx? (·.1)=none
 | [],_,q=>by cases q; exact⟨fH,rfl,rfl⟩
 | e::es,gs,q=>by
  unfold Ar at q
  obtain⟨z,q⟩:=jf q
  obtain⟨g,q1,q⟩:=j0 q
  obtain⟨gs',q2,rfl⟩:=j7 q
  obtain⟨a1,a2,a3⟩:=QR q2
  refine⟨CG (R.g h q1) a1 (by rw[Kv z]; rfl),by rw[Kv z]; simp[a2],?_⟩
  rw[Kv z,List.findIdx?_cons,a3]
  rfl
theorem DJ{k:Nat}{g:DG}(q:Dp r Γ k e=some g):PG X e (tG K k g):=by
 unfold Dp at q
 split at q
 ·obtain⟨i,q1,q⟩:=j0 q
  obtain⟨z,q⟩:=jf q
  cases q
  obtain⟨s1,s2,s3,s4⟩:=ug h q1
  exact CF (bg s1 s2 s3 s4) (Nat.blt_eq.mp z)
 ·obtain⟨gs,q1,rfl⟩:=j7 q
  obtain⟨a1,a2,a3⟩:=QR R h q1
  exact fJ _ h.calm a1 a2 a3 h.k
 ·cases q
end
theorem Z3:∀n:Nat,RcOk (rc n)
 | 0=>⟨(fun _ q=>by cases q),(fun _ q=>by cases q),(fun _ q=>by cases q)⟩
 | n+1=>⟨fun h q=>Fe (Z3 n) h q,fun h q=>Ff (Z3 n) h q,fun h q=>DJ (Z3 n) h q⟩
end CP
namespace CP
open PySem PySem.Spec PyProof.Rows L2 DS
section
variable {r:Rc} {Γ:Gm} {X:Cx} {K:Fr} {x y:Str} {i:Nat} {e a b c tg:Expr} {es:List Expr} {pos:Pos} {d:DE}
theorem Ay{elt iter:Expr}{ifs:List Expr}{scope:Scope}{np p:Pos}{l:Nat}{aa:Int}(h:OkX K Γ X)(z:FN Γ scope x np p=true):swapsWith (.ListComp elt [⟨tg,iter,ifs,aa⟩] scope p) (some (.Name x np)) l X.env=pure true:=by
 obtain⟨z,z4⟩:=ji z
 obtain⟨z,z3⟩:=ji z
 obtain⟨z1,z2⟩:=ji z
 have k1:Γ.sc.kind=.function:=by
  split at z1
  ·assumption
  ·cases z1
 have e1:X.env.blockKind=.function:=by
  unfold Env.blockKind
  rw[h.sc,k1]
  rfl
 have e2:X.env.kindOf x=some .local:=by
  show X.env.scope.names.lookup x=_
  rw[h.sc]
  exact Ks z2
 show(pure (X.env.blockKind==.function&&X.env.kindOf x==some .local&&np.line==p.line&&!(scope.names.any fun(n,k)=>n==x&&(k==.local||k==.cell))):Sem Bool)=pure true
 rw[e1,e2,z3,z4]
 rfl
theorem QS{o j:Expr}{env:Env}(z:qx j=true):∀v,assign (.Subscript o j pos) env v=(do
   let ov<-holding [v] (eval o env)
   let iv<-holding [v,ov] (eval j env)
   standAt pos
   holding [v,ov,iv] (setItem ov iv v)
   release [v,ov,iv] []):=by
 cases j <;> first | (intro _; rfl) | cases z
theorem Kw{env:Env}{tg:Expr}{l:Nat}(h:Up e=true):swapsWithSole [tg] e l env=pure false:=by
 unfold swapsWithSole
 exact Yg h
theorem QT{o j e:Expr}{env:Env}{p:Pos}:swappedStores [.Subscript o j p] e env=pure none:=by
 cases e <;> rfl
theorem DK{es:List Expr}{n:Nat}{e:Expr}{env:Env}{p:Pos}(z:(!uN e)=true):swappedStores [.Tuple es n p] e env=pure none:=by
 cases e <;> first | rfl | cases z
variable (R:RcOk r) (h:OkX K Γ X)
include R h
theorem Az{d:DO}(q:cF r Γ e=some d):PE X e (tF K d):=by
 unfold cF at q
 split at q
 ·rename_i hn
  cases q
  exact R.n h hn
 ·cases q
theorem DL{np:Pos}{d:DS.DS}(q0:FO r Γ x np e=some d):PS X (.Assign [.Name x np] e pos) (tS K d):=by
 obtain⟨i,s0,q0⟩:=j0 q0
 obtain⟨s1,s2,s3,s4⟩:=ug h s0
 split at q0
 ·obtain⟨d0,q1,q0⟩:=j0 q0
  obtain⟨z2,q0⟩:=jf q0
  cases q0
  obtain⟨_,_,_,own,caps,di,g,dc,de,rfl,rfl,L⟩:=QQ R h q1
  split
  ·exact bU own caps s1 s2 s3 L.S L.cp h.calm L.i L.g L.t L.e L.nd L.fs (Ay h z2) s4
  ·exact bV own caps s1 s2 s3 L.S L.cp h.calm L.i L.g L.t L.e L.nd L.fs (Ay h z2) s4
 ·obtain⟨z,q0⟩:=jf q0
  split at q0
  ·obtain⟨d0,q1,rfl⟩:=j7 q0
   exact A7 (UM s1 s2 s3 (Az R h q1) (Yg z) s4)
  ·obtain⟨d0,q1,rfl⟩:=j7 q0
   exact A6 (UM s1 s2 s3 (yp R h q1) (Yg z) s4)
theorem DM{t:Expr}{d:DS.DS}(q0:Dq r Γ t e=some d):PS X (.Assign [t] e pos) (tS K d):=by
 unfold Dq at q0
 split at q0
 ·exact DL R h q0
 ·obtain⟨i,s9,q9⟩:=j0 q0
  clear q0
  obtain⟨x,p,rfl,s0⟩:=YC s9
  obtain⟨z,q0⟩:=jf q9
  obtain⟨z1,z2⟩:=ji z
  obtain⟨d0,q1,rfl⟩:=j7 q0
  exact dB (cY (yF h s0) (yp R h q1) (Yg z1)) h.cl (h.fl _ z2) h.k
 ·obtain⟨i,s9,q9⟩:=j0 q0
  clear q0
  obtain⟨x,p,rfl,s0⟩:=YC s9
  obtain⟨z,q0⟩:=jf q9
  obtain⟨z1,z2⟩:=ji z
  have hK:=h.k
  subst hK
  split at q0
  ·obtain⟨dx,q1,q0⟩:=j0 q0
   obtain⟨d0,q2,rfl⟩:=j7 q0
   exact fV (kG (yp R h q2) (qR (yF h s0) (yp R h q1) (B0 h.room) (QS z2)) (Kw z1) QT)
  ·obtain⟨dx,q1,q0⟩:=j0 q0
   obtain⟨d0,q2,rfl⟩:=j7 q0
   exact CU (kG (yp R h q2) (qR (yF h s0) (jp R h q1) xW (QS z2)) (Kw z1) QT)
 ·obtain⟨z,q0⟩:=jf q0
  obtain⟨z1,z2⟩:=ji z
  obtain⟨d0,q1,q0⟩:=j0 q0
  obtain⟨g,q2,rfl⟩:=j7 q0
  exact fM (kG (yp R h q1) (R.g h q2) (Kw z1) (DK z2))
 ·cases q0
theorem DN{t:Expr}{op:Operator}{d:DS.DS}(q0:Dr r Γ t op e=some d):PS X (.AugAssign t op e pos) (tS K d):=by
 unfold Dr at q0
 split at q0
 ·obtain⟨i,s0,q0⟩:=j0 q0
  obtain⟨d0,q1,q0⟩:=j0 q0
  obtain⟨s1,s2,s3,s4⟩:=ug h s0
  split at q0
  ·cases q0
   exact A8 (qS s1 s2 s3 (jp R h q1) cn s4)
  ·cases q0
   exact A8 (qS s1 s2 s3 (jp R h q1) cq s4)
  ·cases q0
 ·cases q0
theorem DP{f:Expr}{es:List Expr}{ks:List Keyword}{p:Pos}{d:DS.DS}(q0:Ds r Γ f es ks p=some d):PS X (.Expr (.Call f es ks p) pos) (tS K d):=by
 unfold Ds at q0
 split at q0
 ·obtain⟨i,s9,q9⟩:=j0 q0
  clear q0
  obtain⟨x,np,rfl,s0⟩:=YC s9
  obtain⟨z,q0⟩:=jf q9
  obtain⟨z,z3⟩:=ji z
  obtain⟨z1,z2⟩:=ji z
  obtain⟨d0,q1,rfl⟩:=j7 q0
  have e1:=vLa z1
  have hK:=h.k
  subst e1 hK
  exact Xi (vz (Hg (yF h s0) (jU (yp R h q1) JN (jx z2)) rfl (by rw[jx z2]; rfl) z3 (jx z2)))
 ·obtain⟨i,s9,q9⟩:=j0 q0
  clear q0
  obtain⟨x,np,rfl,s0⟩:=YC s9
  obtain⟨z,q0⟩:=jf q9
  obtain⟨z,z4⟩:=ji z
  obtain⟨z,z3⟩:=ji z
  obtain⟨z1,z2⟩:=ji z
  obtain⟨d0,q1,q0⟩:=j0 q0
  obtain⟨d1,q2,rfl⟩:=j7 q0
  have e1:=vLa z1
  have hK:=h.k
  subst e1 hK
  exact Xu (vz (fZ (yF h s0) (jU (jp R h q1) (jU (yp R h q2) JN (jx z3)) (by rw[jx z2])) (by rw[jx z2,jx z3]; rfl) z4 (jx z2) (by rw[jx z3]; rfl)))
 ·cases q0
theorem qz{q:Gm->List Stmt->Option DS.DS}{s:Stmt}{d:DS.DS}(Q:∀l d,q Γ l=some d->jL X l (tS K d))(hp:PassesOwn (model X.prog X.w) X.A X.env X.xe)(q0:cS r q Γ s=some d):PS X s (tS K d):=by
 unfold cS at q0
 split at q0
 ·split at q0
  ·exact DM R h q0
  ·cases q0
 ·exact DN R h q0
 ·unfold FP at q0
  split at q0
  ·split at q0
   ·cases q0
    exact DP R h (by assumption)
   ·obtain⟨d0,q1,rfl⟩:=j7 q0
    exact Qt (vz (jp R h q1) (Yg rfl))
  ·obtain⟨z,q0⟩:=jf q0
   obtain⟨d0,q1,rfl⟩:=j7 q0
   exact Qt (vz (jp R h q1) (Yg z))
 ·split at q0
  ·cases q0
   exact CZ
  ·split at q0
   ·rename_i hn
    obtain⟨x,p,rfl,hs⟩:=YC hn
    split at q0
    ·cases q0
     exact CY (yF h hs)
    ·cases q0
     exact A9 (aX _ (yF h hs))
   ·split at q0
    ·obtain⟨d0,q1,rfl⟩:=j7 q0
     exact CW (Az R h q1)
    ·obtain⟨d0,q1,rfl⟩:=j7 q0
     exact A9 (yp R h q1)
 ·obtain⟨t,q1,q0⟩:=j0 q0
  obtain⟨u,q2,q0⟩:=j0 q0
  obtain⟨v,q3,rfl⟩:=j7 q0
  exact HM (R.t h q1) (Q _ _ q2) (Q _ _ q3)
 ·split at q0
  ·obtain⟨t,q1,q0⟩:=j0 q0
   obtain⟨u,q2,rfl⟩:=j7 q0
   exact bT _ hp (R.t h q1) (Q _ _ q2)
  ·cases q0
 ·split at q0
  ·obtain⟨z,q0⟩:=jf q0
   obtain⟨di,q1,q0⟩:=j0 q0
   obtain⟨g,q2,q0⟩:=j0 q0
   obtain⟨u,q3,rfl⟩:=j7 q0
   exact fN hp h.calm (Aw R h q1) (R.g h q2) (Q _ _ q3) (We z)
  ·cases q0
 ·cases q0; exact CL
 ·cases q0; exact bS
 ·cases q0; exact CO
 ·cases q0
omit R h in
theorem ge{l:Nat}{st:List Stmt}:∀{sh:List (Nat×Nat)} {d:DS.DS},jL X st (tS K d)->jL X st (tS K (Wc l sh d))
 | [],_,h=>h
 | (m,i)::r,d,h=>by
  unfold Wc
  split
  ·exact Xg i (ge h)
  ·exact ge h
theorem QU{q:Gm->List Stmt->Option DS.DS}(Q:∀l d,q Γ l=some d->jL X l (tS K d))(hp:PassesOwn (model X.prog X.w) X.A X.env X.xe):∀{l:List Stmt} {d:DS.DS},As r q Γ l=some d->jL X l (tS K d)
 | [],_,q0=>by cases q0; exact Qq
 | s::t,d,q0=>by
  unfold As at q0
  split at q0
  ·cases q0; exact Xf
  ·obtain⟨d1,q1,q0⟩:=j0 q0
   have h1:=qz R h Q hp q1
   split at q0
   ·cases q0
    exact ge (Qs h1)
   ·obtain⟨d2,q2,rfl⟩:=j7 q0
    exact ge (W0 h1 (QU Q hp q2))
theorem kt(hp:PassesOwn (model X.prog X.w) X.A X.env X.xe):∀(n:Nat) {l:List Stmt} {d:DS.DS},cQ r n Γ l=some d->jL X l (tS K d)
 | 0,_,_,q=>by cases q
 | n+1,_,_,q=>QU R h (fun l d q=>kt hp n q) hp q
end
structure De where
 x:Str
 q:Str
 st:Stmt
 ps:List Str
 lo:List Str
 ks:List Bool
 b:DS.DS
 hs:List ((Nat×Nat×Nat)×List Nat)
 sh:List (Nat×Nat)
 ow:List Nat
structure Tb where
 C:Addr
 gs:List (Str×GI)
 ms:List (Str×GI)
 fl:List Str
def gm(T:Tb)(d:De)(kF:Bool):Gm:={ N:=d.ps++d.lo,sc:=defScope d.st,fn:=true,kF:=kF,C:=T.C,gs:=T.gs,ms:=T.ms,fl:=T.fl,hs:=d.hs,sh:=d.sh,ow:=d.ow }
def AA(N ps:List Str)(sc:Scope):Bool:=(match sc.kind with | .function=>true | _=>false)&&!sc.isCoroutine&&!sc.isGenerator&&Kq N&&ps.all (qw sc)&&sc.names.all fun y=>match y.2 with | .free=>false | _=>true
theorem Vc{ps lo:List Str}{sc:Scope}(h:AA (ps++lo) ps sc=true):FnScope (ps++lo) ps sc:=by
 obtain⟨h,h6⟩:=ji h
 obtain⟨h,h5⟩:=ji h
 obtain⟨h,h4⟩:=ji h
 obtain⟨h,h3⟩:=ji h
 obtain⟨h1,h2⟩:=ji h
 refine⟨?_,YN h2,YN h3,Gc h4,by simp,fun x hx=>QL (List.all_eq_true.mp h5 x hx),fun y hy e=>?_⟩
 ·split at h1
  ·assumption
  ·cases h1
 ·have:=List.all_eq_true.mp h6 y hy
  rw[e]at this
  cases this
def Bd(x q:Str)(st:Stmt)(ps:List Str):Prop:=∀(kV doc pm:Value) (an:Option Addr) (cdv ct:Value) (us:List Value),us.length=ps.length->bindArgs (PySem.W.fnOf x q (defArgs st) (defBody st) (defScope st) .none kV doc pm an cdv ct) ⟨us,[]⟩=pure (ps.zip us)
def GM(T:Tb)(d:De)(kF:Bool):Option DS.DS:=cG (AA (d.ps++d.lo) d.ps (defScope d.st)) (cQ (rc 30) 30 (gm T d kF) (defBody d.st))
structure TOk (P:Program) (w:World) (K:Fr) (mg:Str->Option Value) (base:Heap) (n:Nat) (T:Tb):Prop where
 gs:∀p∈T.gs,Kr P w K mg base T.C (·<=n) K p.1 p.2
 ms:∀p∈T.ms,Wd P w K mg base T.C (·<=n) K p.1 p.2
 cl:Cls K T.C
 fl:∀f∈T.fl,yS K T.C f
section
variable {P:Program} {w:World} {K:Fr} {mg:Str->Option Value} {base:Heap} {f C:Addr} {fd:FuncData} {n:Nat} {T:Tb} {d:De} {g:GI} {x:Str}
theorem Kr.mono{r r':Nat->Prop}(m:∀k,r k->r' k)(h:Kr P w K mg base C r K x g):Kr P w K mg base C r' K x g:=by
 cases g with
 | con i=>exact h
 | blt=>exact h
 | fE k ps ks F=>exact⟨h.1,m _ h.2⟩
 | fF k ps ks F=>exact⟨h.1,m _ h.2⟩
 | mk k ps ks F G=>exact⟨h.1,h.2.1,m _ h.2.2⟩
theorem Wd.mono{r r':Nat->Prop}(m:∀k,r k->r' k)(h:Wd P w K mg base C r K x g):Wd P w K mg base C r' K x g:=by
 cases g with
 | con i=>exact h
 | blt=>exact h
 | fE k ps ks F=>exact⟨h.1,m _ h.2⟩
 | fF k ps ks F=>exact⟨h.1,m _ h.2⟩
 | mk k ps ks F G=>exact h
theorem TOk.mono{m:Nat}(h:TOk P w K mg base n T)(l:n<=m):TOk P w K mg base m T:=
 ⟨fun p hp=>(h.gs p hp).mono fun _ z=>wSa z l,fun p hp=>(h.ms p hp).mono fun _ z=>wSa z l,h.cl,h.fl⟩
theorem Zm{α:Type}{x:Str}{g:α}:∀{l:List (Str×α)},l.lookup x=some g->(x,g)∈l
 | [],h=>by cases h
 | (y,g')::r,h=>by
  rw[List.lookup_cons]at h
  split at h
  ·rename_i e
   cases h
   rw[eq_of_beq e]
   exact wNa
  ·exact wMa _ (Zm h)
theorem DQ{kF:Bool}{cdv:Value}{A:Around}{outer:List Env}{s:Shared}{H:Hp}{E:XK}(h:TOk P w K mg base n T)(S:FnScope (d.ps++d.lo) d.ps (defScope d.st))(hr:Room n (A.deeper (envOfC d.q (defScope d.st) s.heap.objs.size f cdv))):
  OkX K (gm T d kF) (Ju Yd P w K mg base (d.ps++d.lo) d.q (defScope d.st) f cdv A outer s H E).nox where
 n:=rfl
 sc:=rfl
 nd:=S.nd
 calm:=rfl
 k:=rfl
 room:=hr.mono (Nat.zero_le _)
 fn:=fun _ _=>rfl
 gs:=fun x g e=>(h.gs _ (Zm e)).mono fun k z=>hr.mono z
 ms:=fun x g e=>(h.ms _ (Zm e)).mono fun k z=>hr.mono z
 cl:=h.cl
 fl:=fun f e=>h.fl f (List.contains_iff_mem.mp e)
theorem Gd{kF:Bool}{b:DS.DS}{cdv:Value}{A:Around}{outer:List Env}{s:Shared}{H:Hp}{E:XK}(h:TOk P w K mg base n T)(c:GM T d kF=some b)(hr:Room n (A.deeper (envOfC d.q (defScope d.st) s.heap.objs.size f cdv))):
  jL (Ju Yd P w K mg base (d.ps++d.lo) d.q (defScope d.st) f cdv A outer s H E).nox (defBody d.st) (tS K b):=by
 obtain⟨c1,c2⟩:=jf c
 exact kt (Z3 30) (DQ h (Vc c1) hr) PassesOwn.never 30 c2
theorem DR(h:TOk P w K mg base n T)(F:Fun K d.x d.q d.st f fd)(c:GM T d false=some d.b)(hk:d.ks.length=d.ps.length):FnOk P w K mg base Yd (n+1) f fd d.ps (K5 K d.ks (Js d.ks d.lo.length d.b)):=
 dE F (Vc (jf c).1) hk (by simp) fun cdv A outer s H E hr=>Gd h c hr
theorem Ir(h:TOk P w K mg base n T)(F:Fun K d.x d.q d.st f fd)(c:GM T d true=some d.b)(hk:d.ks.length=d.ps.length):FnOk P w K mg base Yd (n+1) f fd d.ps (w_ K d.ks (vK d.ks d.lo.length d.b)):=
 HQ F (Vc (jf c).1) hk (by simp) fun cdv A outer s H E hr=>Gd h c hr
theorem Iu(h:TOk P w K mg base n T)(F:Fun K d.x d.q d.st f fd)(c:GM T d false=some d.b)(hk:d.ks.length+1=d.ps.length):FnOk P w K mg base Yd (n+1) f fd d.ps (A5 K C d.ks (Qy C d.ks d.lo.length d.b)):=
 HR F (Vc (jf c).1) hk (by simp) fun cdv A outer s H E hr=>Gd h c hr
def At(K:Fr)(x q:Str)(st:Stmt):Prop:=∃f fd,W.nsIn K mainGlobals x=some (some (.ref f))/\Fun K x q st f fd
def QV(K:Fr)(C:Addr)(x q:Str)(st:Stmt):Prop:=∃f fd,W.findIn K (.ref C) x=some (some (.ref f))/\W.isFn K (.ref f)=true/\Fun K x q st f fd
theorem qA{q:Str}{st:Stmt}(a:W.nsIn K mainGlobals x=some (some (.ref f)))(F:Fun K x q st f fd):At K x q st:=⟨f,fd,a,F⟩
theorem QW{q:Str}{st:Stmt}(a:W.findIn K (.ref C) x=some (some (.ref f)))(i:W.isFn K (.ref f)=true)(F:Fun K x q st f fd):QV K C x q st:=⟨f,fd,a,i,F⟩
def G0(K:Fr)(x:Str):GI->Prop
 | .con i=>∃t,W.nsIn K mainGlobals x=some (some (.int i t))
 | .blt=>W.nsIn K mainGlobals x=some none
 | _=>False
theorem gf{α:Type}{p:α->Prop}:∀x∈([]:List α),p x:=fun _ h=>by cases h
theorem jN{α:Type}{p:α->Prop}{a:α}{l:List α}(h:p a)(t:∀x∈l,p x):∀x∈a::l,p x:=fun x hx=>by
 rcases List.mem_cons.mp hx with rfl | hx
 ·exact h
 ·exact t x hx
theorem Fg{rm:Nat->Prop}(XG:∀x v,W.nsIn K mainGlobals x=some (some v)->mg x=some v)(XN:∀x,W.nsIn K mainGlobals x=some none->mg x=none)(h:G0 K x g):Kr P w K mg base C rm K x g:=by
 cases g with
 | con i=>obtain⟨t,h⟩:=h; exact⟨t,XG _ _ h⟩
 | blt=>exact XN _ h
 | _=>exact h.elim
noncomputable def Tb.ag(T:Tb)(x:Str)(i:GI):Tb:={ T with gs:=(x,i)::T.gs }
noncomputable def Tb.am(T:Tb)(x:Str)(i:GI):Tb:={ T with ms:=(x,i)::T.ms }
theorem TOk.ag{m:Nat}(h:TOk P w K mg base n T)(l:n<=m)(q:Kr P w K mg base T.C (·<=m) K x g):TOk P w K mg base m (T.ag x g):=
 ⟨fun p hp=>by
  rcases List.mem_cons.mp hp with rfl | hp
  ·exact q
  ·exact(h.mono l).gs p hp,(h.mono l).ms,h.cl,h.fl⟩
theorem TOk.am{m:Nat}(h:TOk P w K mg base n T)(l:n<=m)(q:Wd P w K mg base T.C (·<=m) K x g):TOk P w K mg base m (T.am x g):=
 ⟨(h.mono l).gs,fun p hp=>by
  rcases List.mem_cons.mp hp with rfl | hp
  ·exact q
  ·exact(h.mono l).ms p hp,h.cl,h.fl⟩
def De.E(d:De)(n:Nat):GI:=.fE (n+1) d.ps d.ks (Js d.ks d.lo.length d.b)
def De.F(d:De)(n:Nat):GI:=.fF (n+1) d.ps d.ks (vK d.ks d.lo.length d.b)
structure Ck (T:Tb) (d:De) (kF:Bool):Prop where
 c:GM T d kF=some d.b
 k:(d.ks.length==d.ps.length)=true
 b:Bd d.x d.q d.st d.ps
variable (XG:∀x v,W.nsIn K mainGlobals x=some (some v)->mg x=some v)
include XG
theorem TOk.E(h:TOk P w K mg base n T)(a:At K d.x d.q d.st)(c:Ck T d false):TOk P w K mg base (n+2) (T.ag d.x (d.E n)):=by
 obtain⟨f,fd,a1,F⟩:=a
 exact h.ag (vKa _ _) ⟨⟨f,fd,DR h F c.c (vLa c.k),F.binds c.b,F.kp,XG _ _ a1⟩,vMa _⟩
theorem TOk.F(h:TOk P w K mg base n T)(a:At K d.x d.q d.st)(c:Ck T d true):TOk P w K mg base (n+2) (T.ag d.x (d.F n)):=by
 obtain⟨f,fd,a1,F⟩:=a
 exact h.ag (vKa _ _) ⟨⟨f,fd,Ir h F c.c (vLa c.k),F.binds c.b,F.kp,XG _ _ a1⟩,vMa _⟩
omit XG in
theorem TOk.mE(h:TOk P w K mg base n T)(a:QV K T.C d.x d.q d.st)(c:Ck T d false)(k:d.ks=[false]):TOk P w K mg base (n+2) (T.am d.x (d.E n)):=by
 obtain⟨f,fd,a1,a2,F⟩:=a
 exact h.am (vKa _ _) ⟨⟨f,fd,k▸DR h F c.c (vLa c.k),F.binds c.b,⟨a1,a2,F.kp⟩⟩,vMa _⟩
theorem TOk.I{x:Str}{G:List D->Option OD}(h:TOk P w K mg base n T)(a:QV K T.C d.x d.q d.st)(hx:d.x = "__init__")(c:GM T d false=some d.b)(k:(d.ks.length+1==d.ps.length)=true)(b:Bd d.x d.q d.st d.ps)(mk:W.makesIn K T.C=true)(kc:W.keepIn K (.ref T.C)=true)
  (aC:W.nsIn K mainGlobals x=some (some (.ref T.C))) (hG:∀p ds o,G ds=some o->Qy T.C d.ks d.lo.length d.b p ds=some o):TOk P w K mg base (n+2) (T.ag x (.mk (n+1) d.ps d.ks (Qy T.C d.ks d.lo.length d.b) G)):=by
 obtain⟨f,fd,a1,a2,F⟩:=a
 refine h.ag (vKa _ _) ⟨⟨f,fd,Iu h F c (vLa k),F.binds b,⟨mk,?_,a2,kc⟩,XG _ _ aC⟩,hG,wPa _⟩
 rw[hx]at a1
 exact a1
end
end CP
namespace CP
open PySem PySem.Spec PyProof.Rows L2 DS
structure Zi where
 k:Nat
 ps:List Str
 ks:List Bool
 F:List D->Option Str
section
variable (r:Rc) (qn:Gm->List Stmt->Option DS.DS) (q:List Stmt->Option DZ) (Γ:Gm) (zs:List (Str×Zi)) (ex:List Str)
def uR(f:Expr)(es:List Expr)(ks:List Keyword):Option DZ:=match f,ks with
 | .Name g _,[]=>(match zs.lookup g with
  | some z=>cG (U1 Γ g&&!es.isEmpty) ((cA r Γ z.ks es).map fun l=>Jz z.F l)
  | none=>some yz)
 | _,_=>some yz
def FQ(e o:Option Expr):Option DZ:=match e,o with
 | some (.Call (.Name x _) [.Constant (.str _) _ _] [] _),none=>cG (U1 Γ x&&ex.contains x) (some fun _=>some x)
 | _,_=>some yz
def zS(s:Stmt):Option DZ:=match s with
 | .Raise e o _=>FQ Γ ex e o
 | .If c a b _=>(r.t Γ c).bind fun t=>(q a).bind fun x=>(q b).map fun y=>Y5 t x y
 | .Expr (.Call f es ks _) _=>uR r Γ zs f es ks
 | .Assign [.Name x _] (.Call f es ks _) _=>(Wb Γ x).bind fun _=>uR r Γ zs f es ks
 | _=>some yz
def AB:List Stmt->Option DZ
 | []=>some yz
 | s::t=>if (Γ.hs.lookup (qy s,0,0)).isSome=true then some yz else(zS r q Γ zs ex s).bind fun z=>if Dt s=true then some z else match cS r qn Γ s with
  | some d=>(AB t).map fun z'=>Jy z d z'
  | none=>some z
end
def zQ(r:Rc)(qn:Gm->List Stmt->Option DS.DS)(Γ:Gm)(zs:List (Str×Zi))(ex:List Str):Nat->List Stmt->Option DZ
 | 0=>fun _=>none
 | n+1=>AB r qn (zQ r qn Γ zs ex n) Γ zs ex
def DU(Y:Cx)(K:Fr)(g:Str)(z:Zi):Prop:=∃f fd,FnOk Y.prog Y.w Y.K Y.mg Y.base (Ye Y.prog Y.w) z.k f fd z.ps (W7 K z.ks z.F)/\J_ Y.K fd z.ps []/\PySem.W.keepIn Y.K (.ref f)=true/\Y.mg g=some (.ref f)/\Room z.k Y.A
section
variable {r:Rc} {qn:Gm->List Stmt->Option DS.DS} {q:List Stmt->Option DZ} {Γ:Gm} {zs:List (Str×Zi)} {ex:List Str} {Y:Cx} {K:Fr} {E:XK}
variable (R:RcOk r) (h:OkX K Γ Y.nox) (hz:∀g z,zs.lookup g=some z->DU Y K g z)
include R h hz
theorem GN{f:Expr}{es:List Expr}{ks:List Keyword}{z:DZ}(q0:uR r Γ zs f es ks=some z):z=yz∨∃g p e es' zi l,f=.Name g p/\ks=[]/\es=e::es'/\DU Y K g zi/\z=Jz zi.F l/\l.map (·.1)=zi.ks/\PA Y.nox (e::es') (YB K l)/\Gl Y g/\(g==("__debug__" : Str))=false/\JV e=true/\∀x∈es',JV x=true:=by
 unfold uR at q0
 split at q0
 ·split at q0
  ·rename_i zi hl
   obtain⟨c,q0⟩:=jf q0
   obtain⟨c1,c2⟩:=ji c
   obtain⟨l,q1,rfl⟩:=j7 q0
   cases es with
   | nil=>cases c2
   | cons e es=>
    obtain⟨a1,a2,a3,_⟩:=ZW R h q1
    obtain⟨g1,g2⟩:=uP h c1
    exact .inr ⟨_,_,e,es,zi,l,rfl,rfl,rfl,hz _ _ hl,rfl,a2,a1,g1,g2,a3 _ wNa,fun x hx=>a3 x (wMa _ hx)⟩
  ·cases q0
   exact .inl rfl
 ·cases q0
  exact .inl rfl
variable (hx:YF (Ye Y.prog Y.w) Y E) (hrs:∀x∈ex,U1 Γ x=true->∀(np cpos pos cp:Pos) (z:Str) (j:Nat),PS Y (.Raise (some (.Call (.Name x np) [.Constant (.str z) j cp] [] cpos)) none pos) (tZ K (fun _=>some x) E))
include hx
theorem AD{f:Expr}{es:List Expr}{ks:List Keyword}{pos:Pos}{z:DZ}(q0:uR r Γ zs f es ks=some z):PE Y (.Call f es ks pos) (Am K z E):=by
 rcases GN R h hz q0 with rfl | ⟨g,p,e,es',zi,l,rfl,rfl,rfl,⟨fa,fd,G,hb,hk,hm,hr⟩,rfl,a2,a1,g1,g2,a3,a4⟩
 ·exact fun _ _ _ _ _ _ ⟨_,_,_,_,_,_,h,_⟩=>by cases h
 ·exact dZ G hr hm hk hb hx a1.nox a2 g1 g2 (jx a3) (Yq a4)
include hrs
theorem Fh{s:Stmt}{z:DZ}(Q:∀l z,q l=some z->jL Y l (tZ K z E))(q0:zS r q Γ zs ex s=some z):PS Y s (tZ K z E):=by
 unfold zS at q0
 split at q0
 ·unfold FQ at q0
  split at q0
  ·obtain⟨c,q0⟩:=jf q0
   obtain⟨c1,c2⟩:=ji c
   cases q0
   have hm:=List.contains_iff_mem.mp c2
   exact hrs _ hm c1 _ _ _ _ _ _
  ·cases q0
   exact dY
 ·obtain⟨t,q1,q0⟩:=j0 q0
  obtain⟨x,q2,q0⟩:=j0 q0
  obtain⟨y,q3,rfl⟩:=j7 q0
  exact HX (R.t h q1).nox (Q _ _ q2) (Q _ _ q3)
 ·exact d_ (AD R h hz hx q0) (Yg rfl)
 ·obtain⟨i,s0,q0⟩:=j0 q0
  obtain⟨s1,s2,s3,s4⟩:=ug h s0
  exact Fc s1 s2 s3 (AD R h hz hx q0) (Yg rfl) s4
 ·cases q0
  exact dY
theorem QX(Qn:∀l d,qn Γ l=some d->jL Y.nox l (tS K d))(Q:∀l z,q l=some z->jL Y l (tZ K z E)):∀{l:List Stmt} {z:DZ},AB r qn q Γ zs ex l=some z->jL Y l (tZ K z E)
 | [],_,q0=>by cases q0; exact An
 | s::t,z,q0=>by
  unfold AB at q0
  split at q0
  ·cases q0
   exact An
  obtain⟨z1,q1,q0⟩:=j0 q0
  have p1:=Fh R h hz hx hrs Q q1
  split at q0
  ·cases q0
   exact W8 p1
  split at q0
  ·rename_i d hd
   obtain⟨z',q2,rfl⟩:=j7 q0
   exact Bj (qz R h Qn PassesOwn.never hd).nox p1 (QX Qn Q q2)
  ·cases q0
   exact W8 p1
theorem AE(Qn:∀l d,qn Γ l=some d->jL Y.nox l (tS K d)):∀(n:Nat) {l:List Stmt} {z:DZ},zQ r qn Γ zs ex n l=some z->jL Y l (tZ K z E)
 | 0,_,_,q0=>by cases q0
 | n+1,_,_,q0=>QX R h hz hx hrs Qn (fun l z q=>AE Qn n q) q0
end
end CP
namespace CP
open PySem PySem.Spec PyProof.Rows L2 DS
noncomputable def FR:List Value:=[.type "ValueError",.type "Exception",.type "BaseException",.type "object"]
structure ExK (K:Fr) (ex:List Str) (v:Str):Prop where
 e:∀x∈ex,∃C,W.nsIn K mainGlobals x=some (some (.ref C))/\W.excIn K C FR "ValueError.__new__" = true/\ExC K C
 v:∃V,W.nsIn K mainGlobals v=some (some (.ref V))/\∀x∈ex,W.exmOne K (.ref (ue K x)) (.ref V)=some true
 k:∀x∈ex,∀y∈ex,W.kitOne K (.ref (ue K x)) (.ref (ue K y))=some (x==y)
theorem DV{K:Fr}{cs:List (Str×Addr)}{v:Str}{V:Addr}(hv:W.nsIn K mainGlobals v=some (some (.ref V)))
  (h1:∀p∈cs,W.nsIn K mainGlobals p.1=some (some (.ref p.2))/\W.excIn K p.2 FR "ValueError.__new__" = true/\W.findIn K (.ref p.2) "__getattribute__" = some (some (.builtin "BaseException.__getattribute__"))/\W.findIn K (.ref p.2) "__getattr__" = some none/\W.findIn K (.ref p.2) "__class__" = some (some (.builtin "object.__class__"))/\W.specialIn K (.builtin "object.__class__") "__get__" = some (some (.builtin "getset_descriptor.__get__"))/\W.takesIn K (.builtin "object.__class__")=some true/\W.mroIn K p.2 (.type "object")=some true/\W.subIn K (.ref p.2) (.type "BaseException")=some true/\W.isClsIn K p.2=true)
  (h2:∀p∈cs,W.exmOne K (.ref p.2) (.ref V)=some true) (h3:∀p∈cs,∀q∈cs,W.kitOne K (.ref p.2) (.ref q.2)=some (p.1==q.1)):ExK K (cs.map (·.1)) v:=by
 refine⟨fun x hx=>?_,⟨V,hv,fun x hx=>?_⟩,fun x hx y hy=>?_⟩
 ·obtain⟨p,hp,rfl⟩:=List.mem_map.mp hx
  obtain⟨a1,a2,a3,a4,a5,a6,a7,a8,a9,a10⟩:=h1 p hp
  exact⟨_,a1,a2,a3,a4,a5,a6,a7,a8,a9,a10⟩
 ·obtain⟨p,hp,rfl⟩:=List.mem_map.mp hx
  rw[vO (h1 p hp).1]
  exact h2 p hp
 ·obtain⟨p,hp,rfl⟩:=List.mem_map.mp hx
  obtain⟨q,hq,rfl⟩:=List.mem_map.mp hy
  rw[vO (h1 p hp).1,vO (h1 q hq).1]
  exact h3 p hp q hq
noncomputable def FS(sc:Scope):Bool:=sc.names.all fun y=>match y.2 with
 | .cell=>false
 | _=>true
theorem Kx:∀(l:List (Str×NameKind)) (n:Nat) (acc:List (Str×Addr)),(l.all fun y=>match y.2 with | .cell=>false | _=>true)=true->cellsFrom n l acc=acc
 | [],_,_,_=>rfl
 | (x,k)::l,n,acc,h=>by
  rw[List.all_cons]at h
  obtain⟨h1,h2⟩:=ji h
  cases k <;> first | exact Kx l n acc h2 | cases h1
section
variable {P:Program} {w:World} {K:Fr} {mg:Str->Option Value} {base:Heap} {f C:Addr} {fd:FuncData} {n:Nat} {T:Tb} {d:De} {ex:List Str} {v:Str} {zs:List (Str×Zi)} {z:DZ}
def yU(P:Program)(w:World)(K:Fr)(mg:Str->Option Value)(base:Heap)(n:Nat)(zs:List (Str×Zi)):Prop:=∀p∈zs,∃f fd,FnOk P w K mg base (Ye P w) p.2.k f fd p.2.ps (W7 K p.2.ks p.2.F)/\J_ K fd p.2.ps []/\W.keepIn K (.ref f)=true/\mg p.1=some (.ref f)/\p.2.k<=n
def Ge(T:Tb)(zs:List (Str×Zi))(ex:List Str)(d:De):Option DZ:=cG (AA (d.ps++d.lo) d.ps (defScope d.st)) (zQ (rc 30) (cQ (rc 30) 30) (gm T d false) zs (cond (FS (defScope d.st)) ex []) 30 (defBody d.st))
theorem yU.mono{m:Nat}(h:yU P w K mg base n zs)(l:n<=m):yU P w K mg base m zs:=fun p hp=>by
 obtain⟨f,fd,a1,a2,a3,a4,a5⟩:=h p hp
 exact⟨f,fd,a1,a2,a3,a4,wSa a5 l⟩
theorem Iv(XG:∀x v,W.nsIn K mainGlobals x=some (some v)->mg x=some v)(h:TOk P w K mg base n T)(hz:yU P w K mg base n zs)(ek:ExK K ex v)(F:Fun K d.x d.q d.st f fd)(c:Ge T zs ex d=some z)(hk:d.ks.length=d.ps.length):
  FnOk P w K mg base (Ye P w) (n+1) f fd d.ps (W7 K d.ks (yP d.ks d.lo.length z)):=by
 obtain⟨c1,c2⟩:=jf c
 have S:=Vc c1
 have key:∀(cdv:Value) (A:Around) (outer:List Env) (s:Shared) (H:Hp) (E:XK),Room n (A.deeper (envOfC d.q (defScope d.st) s.heap.objs.size f cdv))->jL (Ju (Ye P w) P w K mg base (d.ps++d.lo) d.q (defScope d.st) f cdv A outer s H E) (defBody d.st) (tZ K z E):=fun cdv A outer s H E hr=>by
  have ok:OkX K (gm T d false) (Ju (Ye P w) P w K mg base (d.ps++d.lo) d.q (defScope d.st) f cdv A outer s H E).nox:=DQ (E:=E) h S hr
  refine AE (Z3 30) ok (fun g zi hl=>?_) dW (fun x hx hg np cpos pos cp zz j=>?_) (fun l d q=>kt (Z3 30) ok PassesOwn.never 30 q) 30 c2
  ·obtain⟨f',fd',a1,a2,a3,a4,a5⟩:=hz _ (Zm hl)
   exact⟨f',fd',a1,a2,a3,a4,hr.mono a5⟩
  ·cases c3:FS (defScope d.st)with
   | false=>rw[c3]at hx; cases hx
   | true=>
   rw[c3]at hx
   obtain⟨C,e1,e2,_⟩:=ek.e x hx
   obtain⟨g1,g2⟩:=uP ok hg
   have henv:envOfC d.q (defScope d.st) s.heap.objs.size f cdv=envOf d.q (defScope d.st) s.heap.objs.size f cdv:=by
    show Env.mk ..=Env.mk ..
    congr 1
    exact Kx _ _ _ c3
   refine J9 (Xx henv e1 e2 PySem.F.excBase_ValueError S.kind g1 g2) fun D σ H' ⟨H0,O0,ρ,O,c,R,e,q⟩=>?_
   cases e
   have:=q H' R.keep
   rwa [vO e1]at this
 exact HY F S hk (by simp) key
theorem yU.Z(XG:∀x v,W.nsIn K mainGlobals x=some (some v)->mg x=some v)(h:TOk P w K mg base n T)(hz:yU P w K mg base n zs)(ek:ExK K ex v)(a:At K d.x d.q d.st)(c:Ge T zs ex d=some z)(hk:(d.ks.length==d.ps.length)=true)(hb:Bd d.x d.q d.st d.ps):
  yU P w K mg base (n+2) ((d.x,⟨n+1,d.ps,d.ks,yP d.ks d.lo.length z⟩)::zs):=fun p hp=>by
 rcases List.mem_cons.mp hp with rfl | hp
 ·obtain⟨f,fd,a1,F⟩:=a
  exact⟨f,fd,Iv XG h hz ek F c (vLa hk),F.binds hb,F.kp,XG _ _ a1,vMa _⟩
 ·exact hz.mono (vKa _ _) p hp
end
noncomputable def Us(ex:List Str)(z:DZ):DZ:=fun ρ=>(z ρ).bind fun c=>if ex.contains c=true then some c else none
section
variable (r:Rc) (qn:Gm->List Stmt->Option DS.DS) (Γ:Gm) (zs:List (Str×Zi)) (ex:List Str) (v:Str)
def zB:Nat->List Stmt->Option DZ
 | 0,_=>none
 | n+1,[.Expr (.Call f es ks _) _]=>uR r Γ zs f es ks
 | n+1,[.If c a b _]=>(r.t Γ c).bind fun t=>(zB n a).bind fun x=>(zB n b).map fun y=>Y5 t x y
 | _,_=>none
def AF(n:Str):List Expr->Option (List Str)
 | []=>some []
 | .Call (.Name i _) [.Name m _,.Name a _] [] _::es=>(AF n es).bind fun l=>if i = "isinstance" /\m=n/\U1 Γ a=true/\ex.contains a=true then some (a::l)else none
 | _=>none
def XI(bd:List Stmt)(x n:Str)(s:Stmt):Option DS.DS:=match s with
 | .Assign [.Name m _] (.List es _) _=>(zB r Γ zs 5 bd).bind fun z=>(qn Γ bd).bind fun d=>(slot Γ n).bind fun i=>(Wb Γ m).bind fun j=>(AF Γ ex n es).bind fun l=>
   cG (x==v&&U1 Γ x&&Kn Γ.sc n&&Kp Γ "isinstance" && Nat.ble es.length 1000) (some (gb (Us ex z) d i j fun c=>l.map fun a=>c==a))
 | _=>none
def AG(s:Stmt):Option DS.DS:=match s with
 | .Try bd [.ExceptHandler (some (.Name x _)) (some n) [s] _] [] [] _=>XI r qn Γ zs ex v bd x n s
 | s=>cS r qn Γ s
def AH:List Stmt->Option DS.DS
 | []=>some jD
 | [s]=>AG r qn Γ zs ex v s
 | s::t=>(AG r qn Γ zs ex v s).bind fun d=>(AH t).map fun d'=>j3 d d'
end
section
variable {r:Rc} {qn:Gm->List Stmt->Option DS.DS} {Γ:Gm} {zs:List (Str×Zi)} {ex:List Str} {v:Str} {X:Cx} {K:Fr}
theorem XJ{x:Str}{e:Addr}{oe:Obj}(hnd:X.env.scope=Γ.sc)(g:U1 Γ x=true):Gl (X.suite e oe) x/\(x==("__debug__" : Str))=false:=by
 obtain⟨g1,g2⟩:=ji g
 refine⟨?_,YN g2⟩
 show X.env.scope.names.lookup x=_
 rw[hnd]
 split at g1
 ·assumption
 ·cases g1
theorem AI(ek:ExK K ex v)(hK:X.K=K)(hnd:X.env.scope=Γ.sc){n:Str}{i:Nat}(XG:∀x v,W.nsIn K mainGlobals x=some (some v)->X.mg x=some v)(hs:∀(e:Addr) (oe:Obj) (p:Pos),PE (X.suite e oe) (.Name n p) (YY i))(hg:Gl X "isinstance")(hm:X.mg "isinstance" = none)(e:Addr)(oe:Obj):∀{es:List Expr} {l:List Str},AF Γ ex n es=some l->
  PA (X.suite e oe) es (fun σ H Q=>∃c,c∈ex/\σ[i]?=some (some (.ref e))/\oe.cls=.ref (ue K c)/\Q (l.map fun a=>V.bl (c==a)) H)/\l.length=es.length
 | [],l,q=>by
  cases q
  exact⟨km JN fun σ H Q ⟨c,_,_,_,q⟩=>q,rfl⟩
 | x::es,l,q=>by
  unfold AF at q
  split at q
  ·rename_i h; cases h
  ·rename_i h
   cases h
   obtain⟨l',q1,q2⟩:=j0 q
   clear q
   split at q2
   ·rename_i hh
    obtain⟨rfl,rfl,h3,h4⟩:=hh
    cases q2
    obtain⟨ih,il⟩:=AI ek hK hnd XG hs hg hm e oe q1
    have hin:=List.contains_iff_mem.mp h4
    obtain⟨C,e1,_,_⟩:=ek.e _ hin
    obtain⟨ga,g2⟩:=XJ (X:=X) (e:=e) (oe:=oe) hnd h3
    refine⟨km (jU (yk (X:=X.suite e oe) Xy hg hm PyProof.Rows.boot_isinstance (jU (hs e oe _) (jU (wQ (v:=.ref C) ga (XG _ _ e1) rfl g2) JN))) ih (jx rfl)) fun σ H Q ⟨c,hc,h1,h2,q⟩=>?_,by simp[il]⟩
    obtain⟨C',e1',_,e3'⟩:=ek.e c hc
    have hk:=ek.k c hc _ hin
    rw[vO e1]at hk
    refine⟨_,h1,e,oe,_,C,_,rfl,wNa,h2,by rw[vO e1',show(X.suite e oe).K=K from hK]; exact e3',by rw[hK]; exact hk,c,hc,h1,h2,q⟩
   ·cases q2
  ·cases q
variable (R:RcOk r) (h:OkX K Γ X) (hz:∀g z,zs.lookup g=some z->DU X K g z)
include R h hz
theorem Bp:OkX K Γ X.nox:=⟨h.n,h.sc,h.nd,h.calm,h.k,h.room,h.fn,h.gs,h.ms,h.cl,h.fl⟩
theorem qB:∀(n:Nat) {bd:List Stmt} {z:DZ},zB r Γ zs n bd=some z->vN X bd (W9 K z)
 | 0,_,_,q=>by cases q
 | n+1,bd,z,q=>by
  have hn:=Bp R h hz
  unfold zB at q
  split at q
  ·rename_i h; cases h
  ·rename_i h; cases h
   rcases GN R hn hz q with rfl | ⟨g,p,e,es',zi,l,rfl,rfl,rfl,⟨fa,fd,G,hb,hk,hm,hr⟩,rfl,a2,a1,g1,g2,a3,a4⟩
   ·exact fun _ _ _ _ _ _ ⟨_,_,_,_,_,_,h,_⟩=>by cases h
   ·exact Xz G hr hm hk hb a1 a2 g1 g2 (jx a3) (Yq a4) (Yg rfl)
  ·rename_i h; cases h
   obtain⟨t,q1,q2⟩:=j0 q
   obtain⟨x,q3,q4⟩:=j0 q2
   obtain⟨y,q5,rfl⟩:=j7 q4
   exact D0 (R.t hn q1) (qB n q3) (qB n q5)
  ·cases q
variable (ek:ExK K ex v) (XG:∀x v,W.nsIn K mainGlobals x=some (some v)->X.mg x=some v) (Qn:∀l d,qn Γ l=some d->jL X.nox l (tS K d)) (hst:X.stack=X.env::X.outer) (hfr:X.env.frame=some X.env.locals)
include ek XG Qn hst hfr
theorem Bq{bd:List Stmt}{x n:Str}{s:Stmt}{np hp tp:Pos}{d:DS.DS}(q:XI r qn Γ zs ex v bd x n s=some d):PS X (.Try bd [.ExceptHandler (some (.Name x np)) (some n) [s] hp] [] [] tp) (tS K d):=by
 unfold XI at q
 split at q
 ·obtain⟨z,q1,q⟩:=j0 q
  obtain⟨d0,q2,q⟩:=j0 q
  obtain⟨i,q3,q⟩:=j0 q
  obtain⟨j,q4,q⟩:=j0 q
  obtain⟨l,q5,q⟩:=j0 q
  obtain⟨c,q⟩:=jf q
  obtain⟨c,c5⟩:=ji c
  obtain⟨c,c4⟩:=ji c
  obtain⟨c,c3⟩:=ji c
  obtain⟨c1,c2⟩:=ji c
  cases q
  have ex:=vLa c1
  subst ex
  obtain⟨g1,g2⟩:=uP h c2
  obtain⟨i1,i2⟩:=vP h c4
  obtain⟨u1,u2,u3,u4⟩:=Kt q3
  obtain⟨s1,s2,s3,s4⟩:=ug h q4
  obtain⟨V,e1,e2⟩:=ek.v
  have hni:X.N[i]?=some n:=by rw[h.n]; exact V9 u1
  refine D4 (pc:=fun c=>c∈ex) (Km (qB R h hz 5 q1) fun σ H Q ⟨H0,O0,ρ,O,c,R,e,q⟩=>?_) (Qn _ _ q2) (fun ρ c e=>?_) hst hfr (by rw[h.n]; exact h.nd) hni (by show X.env.scope.names.lookup n=_; rw[h.sc]; exact Ks c3) g1 (XG _ _ e1) g2 (fun c hc=>by rw[h.k]; exact e2 c hc) fun e oe=>?_
  ·obtain⟨c',e3,e4⟩:=j0 e
   split at e4
   ·cases e4
    exact⟨H0,O0,ρ,O,c,R,e3,q⟩
   ·cases e4
  ·obtain⟨c',e3,e4⟩:=j0 e
   split at e4
   ·rename_i hc
    cases e4
    exact List.contains_iff_mem.mp hc
   ·cases e4
  ·obtain⟨m1,m2⟩:=AI ek h.k h.sc XG (fun e oe p=>pv (X:=X.suite e oe) i hni (by show kD X.env.scope n; rw[h.sc]; exact QK u2) u3 u4) i1 i2 e oe q5
   refine Zg (wR (UM (X:=X.suite e oe) s1 s2 s3 (Q3 m1) (Yg rfl) s4)) fun Z σ H ⟨c,hc,h1,h2,h3⟩=>⟨c,hc,h1,h2,?_,fun p hp=>?_⟩
   ·rw[List.length_map,m2]
    rw[Nat.ble_eq]at c5
    exact wSa c5 (by decide)
   ·have:=h3 p hp
    rw[List.map_map]at this
    exact this
 ·cases q
theorem QY(Qx:∀s d,cS r qn Γ s=some d->PS X s (tS K d)){s:Stmt}{d:DS.DS}(q:AG r qn Γ zs ex v s=some d):PS X s (tS K d):=by
 unfold AG at q
 split at q
 ·exact Bq R h hz ek XG Qn hst hfr q
 ·exact Qx _ _ q
theorem QZ(Qx:∀s d,cS r qn Γ s=some d->PS X s (tS K d)):∀{l:List Stmt} {d:DS.DS},AH r qn Γ zs ex v l=some d->jL X l (tS K d)
 | [],_,q=>by cases q; exact Qq
 | [s],d,q=>Qs (QY R h hz ek XG Qn hst hfr Qx q)
 | s::t::u,d,q=>by
  unfold AH at q
  obtain⟨d1,q1,q⟩:=j0 q
  obtain⟨d2,q2,rfl⟩:=j7 q
  exact W0 (QY R h hz ek XG Qn hst hfr Qx q1) (QZ Qx q2)
end
section
variable {P:Program} {w:World} {K:Fr} {mg:Str->Option Value} {base:Heap} {f C:Addr} {fd:FuncData} {n:Nat} {T:Tb} {d:De} {ex:List Str} {v:Str} {zs:List (Str×Zi)}
def DW(T:Tb)(zs:List (Str×Zi))(ex:List Str)(v:Str)(d:De):Option DS.DS:=cG (AA (d.ps++d.lo) d.ps (defScope d.st)) (AH (rc 30) (cQ (rc 30) 30) (gm T d false) zs ex v (defBody d.st))
theorem TOk.Tr(XG:∀x v,W.nsIn K mainGlobals x=some (some v)->mg x=some v)(h:TOk P w K mg base n T)(hz:yU P w K mg base n zs)(ek:ExK K ex v)(a:At K d.x d.q d.st)(c:DW T zs ex v d=some d.b)(hk:(d.ks.length==d.ps.length)=true)(hb:Bd d.x d.q d.st d.ps):TOk P w K mg base (n+2) (T.ag d.x (d.E n)):=by
 obtain⟨f,fd,a1,F⟩:=a
 obtain⟨c1,c2⟩:=jf c
 refine h.ag (vKa _ _) ⟨⟨f,fd,dE F (Vc c1) (vLa hk) (by simp) fun cdv A outer s H E hr=>?_,F.binds hb,F.kp,XG _ _ a1⟩,vMa _⟩
 have ok:OkX K (gm T d false) (Ju Yd P w K mg base (d.ps++d.lo) d.q (defScope d.st) f cdv A outer s H E).nox:=DQ h (Vc c1) hr
 have Q:=fun l d q=>kt (Z3 30) ok PassesOwn.never 30 (l:=l) (d:=d) q
 exact QZ (Z3 30) ok (fun g zi hl=>by
  obtain⟨f',fd',a1,a2,a3,a4,a5⟩:=hz _ (Zm hl)
  exact⟨f',fd',a1,a2,a3,a4,hr.mono a5⟩) ek XG Q rfl rfl (fun s d q=>qz (Z3 30) ok Q PassesOwn.never q) c2
end
end CP
namespace DS
open PySem L2
theorem yV{g:DG}{s:DS}{items:List D}(I:Nat->j8->Prop)(h:∀i d ρ,items[i]?=some d->I i ρ->∃ρ1 ρ2,g d ρ=some ρ1/\s ρ1=some (.nx ρ2)/\I (i+1) ρ2):∀{ρ:j8},I 0 ρ->∃ρ',Jj g s items ρ=some (.nx ρ')/\I items.length ρ':=by
 induction items generalizing I with
 | nil=>intro ρ h0; exact⟨ρ,rfl,h0⟩
 | cons d ds ih=>
  intro ρ h0
  obtain⟨ρ1,ρ2,e1,e2,i2⟩:=h 0 d ρ rfl h0
  obtain⟨ρ',e3,i3⟩:=ih (fun i=>I (i+1)) (fun i d' ρ hd hi=>h (i+1) d' ρ (by simpa using hd) hi) i2
  exact⟨ρ',by rw[Jj,e1]; show(s ρ1).bind _=_; rw[e2]; exact e3,i3⟩
theorem Ut{g:DG}{s:DS}{items:List D}(I:j8->Prop)(p:D->Bool)(r:Rs)(hr:(∃d,r=.rt d)∨∃o,r=.rf o)(h:∀d∈items,∀ρ,I ρ->∃ρ1,g d ρ=some ρ1/\((p d=true/\s ρ1=some r)∨(p d=false/\∃ρ2,s ρ1=some (.nx ρ2)/\I ρ2))):∀{ρ:j8},I ρ->
  (items.any p=true/\Jj g s items ρ=some r)∨(items.any p=false/\∃ρ',I ρ'/\Jj g s items ρ=some (.nx ρ')):=by
 induction items with
 | nil=>intro ρ h0; exact .inr ⟨rfl,ρ,h0,rfl⟩
 | cons d ds ih=>
  intro ρ h0
  obtain⟨ρ1,e1,z⟩:=h d wNa ρ h0
  rcases z with⟨hp,e2⟩ | ⟨hp,ρ2,e2,i2⟩
  ·refine .inl ⟨by rw[List.any_cons,hp]; rfl,?_⟩
   rw[Jj,e1]
   show(s ρ1).bind _=_
   rw[e2]
   rcases hr with⟨d,rfl⟩ | ⟨o,rfl⟩ <;> rfl
  ·rcases ih (fun d' hd=>h d' (wMa _ hd)) i2 with⟨a1,a2⟩ | ⟨a1,ρ',a2,a3⟩
   ·refine .inl ⟨by rw[List.any_cons,a1,Bool.or_true],?_⟩
    rw[Jj,e1]
    show(s ρ1).bind _=_
    rw[e2]
    exact a2
   ·refine .inr ⟨by rw[List.any_cons,hp,a1]; rfl,ρ',a2,?_⟩
    rw[Jj,e1]
    show(s ρ1).bind _=_
    rw[e2]
    exact a3
theorem Jf{α:Type}{g:DG}{dc:DT}{de:DE}{ρ:j8}(em:α->D)(f:α->D):∀{xs:List α},(∀x∈xs,∃ρ1,g (em x) ρ=some ρ1/\dc ρ1=some true/\de ρ1=some (f x))->J8 g dc de (xs.map em) ρ=some (xs.map f)
 | [],_=>rfl
 | x::xs,h=>by
  obtain⟨ρ1,e1,e2,e3⟩:=h x wNa
  have ih:=Jf em f (xs:=xs) fun y hy=>h y (wMa _ hy)
  simp[J8,e1,e2,e3,ih]
theorem vc{α:Type}{g:DG}{dc:DT}{de:DE}{ρ:j8}(em:α->D)(p:α->Bool)(f:α->D):∀{xs:List α},(∀x∈xs,∃ρ1,g (em x) ρ=some ρ1/\dc ρ1=some (p x)/\de ρ1=some (f x))->J8 g dc de (xs.map em) ρ=some ((xs.filter p).map f)
 | [],_=>rfl
 | x::xs,h=>by
  obtain⟨ρ1,e1,e2,e3⟩:=h x wNa
  have ih:=vc em p f (xs:=xs) fun y hy=>h y (wMa _ hy)
  cases hp:p x <;> simp[J8,e1,e2,e3,ih,hp]
theorem Ky{dt:DT}{s:DS}(I:j8->Prop)(m:j8->Nat)(h:∀ρ,I ρ->dt ρ=some false∨(dt ρ=some true/\∃ρ2,s ρ=some (.nx ρ2)/\I ρ2/\m ρ2 < m ρ)):∀{n:Nat} {ρ:j8},I ρ->m ρ < n->∃ρ',zT dt s n ρ=some (.nx ρ')/\I ρ'/\dt ρ'=some false
 | 0,ρ,_,hn=>vDa hn (Nat.not_lt_zero _)
 | n+1,ρ,hi,hn=>by
  rcases h ρ hi with e | ⟨e,ρ2,e2,i2,hm⟩
  ·exact⟨ρ,by simp[zT,e],hi,e⟩
  ·obtain⟨ρ',e3,i3,f3⟩:=Ky I m h (n:=n) i2 (by omega)
   exact⟨ρ',by simp[zT,e,e2,e3],i3,f3⟩
noncomputable def t3(t:T3):D:=.tup [.int t.1,.int t.2.1,.int t.2.2]
structure Bk where
 size:Int
 kinds:List T3
 shuns:List T3
 bars:List T3
 dues:List T3
noncomputable def YX(b:Bk):D:=.tup [.int b.size,.lst (b.kinds.map t3),.lst (b.shuns.map t3),.lst (b.bars.map t3),.lst (b.dues.map t3)]
noncomputable def jg(C:Addr)(b:Bk):D:=.ins C ["size", "kind_rows", "shun_rows", "bar_rows", "due_rows"] [.int b.size,.tup (b.kinds.map t3),.tup (b.shuns.map t3),.tup (b.bars.map t3),.tup (b.dues.map t3)]
structure Sd where
 place:Int
 kind:Int
 len:Int
 before:Int
 waits:List Int
 met:List Bool
noncomputable def j5(s:Sd):D:=.tup [.int s.place,.int s.kind,.int s.len,.int s.before,.tup (s.waits.map .int),.tup (s.met.map .bl)]
noncomputable def Vy(ks:List T3)(k:Int):T3:=ks.getD k.toNat (0,0,0)
theorem DX{α:Type}{xs:List α}{k:Int}{x:α}(h0:0<=k)(h:xs[k.toNat]?=some x):atI xs k=some x:=by
 have hk:=(List.getElem?_eq_some_iff.mp h).1
 unfold atI vF
 rw[if_pos h0,if_pos (by omega)]
 exact h
theorem JC{α β:Type}{f:α->β}{xs:List α}{k:Int}{d:α}(h0:0<=k)(h1:k < (xs.length:Int)):atI (xs.map f) k=some (f (xs.getD k.toNat d)):=by
 have hk:k.toNat < xs.length:=by omega
 refine DX h0 ?_
 rw[List.getElem?_map,List.getD_eq_getElem?_getD,List.getElem?_eq_getElem hk]
 rfl
theorem uS{ks:List T3}{k:Int}(h0:0<=k)(h1:k < (ks.length:Int)):atI (ks.map t3) k=some (t3 (Vy ks k)):=JC h0 h1
theorem gh{n:Nat}{k:Int}(h0:0<=k)(h1:k < (n:Int)):vF n k=some k.toNat:=by unfold vF; rw[if_pos h0,if_pos h1]
theorem jw{n:Nat}(h:n<=10000):n < sizeLine:=Nat.lt_of_le_of_lt h (by decide)
noncomputable def fK(t:T3):Bool:=decide (1<=t.1)&&(decide (t.1<=t.2.1)&&(decide (t.2.1<=4)&&(decide (0<=t.2.2)&&decide (t.2.2<=4))))
noncomputable def fS(m:Int)(t:T3):Bool:=decide (0<=t.1)&&(decide (t.1 < m)&&(decide (0<=t.2.1)&&(decide (t.2.1 < m)&&(decide (1<=t.2.2)&&decide (t.2.2<=2)))))
noncomputable def fB(m s:Int)(t:T3):Bool:=decide (0<=t.1)&&(decide (t.1 < m)&&(decide (1<=t.2.1)&&(decide (t.2.1<=t.2.2)&&decide (t.2.2<=s))))
noncomputable def fC(s k h b d:Int):Bool:=decide (1<=s)&&(decide (s<=30)&&(decide (1<=k)&&(decide (k<=4)&&(decide (h<=20)&&(decide (b<=12)&&decide (d<=3))))))
noncomputable def fR(s:Int)(k h b d:List T3):Bool:=k.all fK&&(h.all (fS k.length)&&(b++d).all (fB k.length s))
noncomputable def Kz(b:Bk):Bool:=fC b.size b.kinds.length b.shuns.length b.bars.length b.dues.length&&fR b.size b.kinds b.shuns b.bars b.dues
noncomputable def uh(C:Addr)(b:Bk):OD:=.ins C ["size", "kind_rows", "shun_rows", "bar_rows", "due_rows"] [.int b.size,.tup (b.kinds.map t3),.tup (b.shuns.map t3),.tup (b.bars.map t3),.tup (b.dues.map t3)]
noncomputable def AJ:D->Option T3
 | .tup [.int x,.int y,.int z]=>some (x,y,z)
 | _=>none
def Gf:List D->Option (List T3)
 | []=>some []
 | d::l=>(AJ d).bind fun t=>(Gf l).bind fun ts=>some (t::ts)
theorem DY(t:T3):AJ (t3 t)=some t:=rfl
theorem KA:∀ts:List T3,Gf (ts.map t3)=some ts
 | []=>rfl
 | t::ts=>by rw[List.map_cons,Gf,DY,KA ts]; rfl
theorem D_{d:D}{t:T3}(h:AJ d=some t):d=t3 t:=by
 cases d with
 | tup l=>
  rcases l with _ | ⟨a,_ | ⟨b,_ | ⟨c,_ | ⟨e,r⟩⟩⟩⟩ <;> try cases h
  all_goals (cases a <;> try cases h)
  all_goals (cases b <;> try cases h)
  all_goals (cases c <;> try cases h)
  rfl
 | _=>cases h
theorem Wi:∀{l:List D} {ts:List T3},Gf l=some ts->l=ts.map t3
 | [],_,h=>by cases h; rfl
 | d::l,ts,h=>by
  rw[Gf]at h
  obtain⟨t,e1,h⟩:=j0 h
  obtain⟨r,e2,h⟩:=j0 h
  cases h
  rw[List.map_cons,<-D_ e1,<-Wi e2]
noncomputable def gI:D->Option Int
 | .int s=>some s
 | _=>none
def gL:D->Option (List T3)
 | .lst l=>Gf l
 | _=>none
theorem Fi{d:D}{s:Int}(h:gI d=some s):d=.int s:=by
 cases d <;> cases h
 rfl
theorem ku{d:D}{ts:List T3}(h:gL d=some ts):d=.lst (ts.map t3):=by
 cases d with
 | lst l=>rw[Wi h]
 | _=>cases h
def Gg(C:Addr):List D->Option OD
 | [s,k,h,b,d]=>(gI s).bind fun s=>(gL k).bind fun k'=>(gL h).bind fun h'=>(gL b).bind fun b'=>(gL d).bind fun d'=>if Kz ⟨s,k',h',b',d'⟩=true then some (uh C ⟨s,k',h',b',d'⟩)else none
 | _=>none
theorem eg{C:Addr}{ds:List D}{o:OD}(h:Gg C ds=some o):∃b:Bk,Kz b=true/\ds=[.int b.size,.lst (b.kinds.map t3),.lst (b.shuns.map t3),.lst (b.bars.map t3),.lst (b.dues.map t3)]/\uh C b=o:=by
 rcases ds with _ | ⟨s,_ | ⟨k,_ | ⟨hh,_ | ⟨b,_ | ⟨d,_ | ⟨e,r⟩⟩⟩⟩⟩⟩ <;> try cases h
 have h:((gI s).bind fun s=>(gL k).bind fun k'=>(gL hh).bind fun h'=>(gL b).bind fun b'=>(gL d).bind fun d'=>if Kz ⟨s,k',h',b',d'⟩=true then some (uh C ⟨s,k',h',b',d'⟩)else none)=some o:=h
 obtain⟨s0,e0,h⟩:=j0 h
 obtain⟨k',e1,h⟩:=j0 h
 obtain⟨h',e2,h⟩:=j0 h
 obtain⟨b',e3,h⟩:=j0 h
 obtain⟨d',e4,h⟩:=j0 h
 by_cases ok:Kz ⟨s0,k',h',b',d'⟩=true
 ·rw[if_pos ok]at h
  rw[Fi e0,ku e1,ku e2,ku e3,ku e4]
  exact⟨_,ok,rfl,vFa h⟩
 ·rw[if_neg ok]at h
  cases h
@[simp] theorem Iw(s:Sd):jb (j5 s) (.int 0)=some (.int s.place):=rfl
@[simp] theorem Ix(s:Sd):jb (j5 s) (.int 1)=some (.int s.kind):=rfl
@[simp] theorem Iy(s:Sd):jb (j5 s) (.int 2)=some (.int s.len):=rfl
@[simp] theorem Iz(s:Sd):jb (j5 s) (.int 3)=some (.int s.before):=rfl
@[simp] theorem IA(s:Sd):jb (j5 s) (.int 4)=some (.tup (s.waits.map .int)):=rfl
@[simp] theorem IB(s:Sd):jb (j5 s) (.int 5)=some (.tup (s.met.map .bl)):=rfl
@[simp] theorem IS(t:T3):jb (t3 t) (.int 0)=some (.int t.1):=rfl
@[simp] theorem IT(t:T3):jb (t3 t) (.int 1)=some (.int t.2.1):=rfl
@[simp] theorem IU(t:T3):jb (t3 t) (.int 2)=some (.int t.2.2):=rfl
@[simp] theorem IV(b:Bk):jb (YX b) (.int 0)=some (.int b.size):=rfl
@[simp] theorem IW(b:Bk):jb (YX b) (.int 1)=some (.lst (b.kinds.map t3)):=rfl
@[simp] theorem IX(b:Bk):jb (YX b) (.int 2)=some (.lst (b.shuns.map t3)):=rfl
@[simp] theorem IY(b:Bk):jb (YX b) (.int 3)=some (.lst (b.bars.map t3)):=rfl
@[simp] theorem IZ(b:Bk):jb (YX b) (.int 4)=some (.lst (b.dues.map t3)):=rfl
@[simp] theorem I_(t:T3):vI (t3 t)=false:=rfl
@[simp] theorem IC(s:Sd):vI (j5 s)=false:=rfl
end DS
namespace M
open DS
@[simp high] theorem lP(a:Sl)(l:j8):(a::l)[0]?=some a:=rfl
@[simp high] theorem lQ(a x:Sl)(l:j8):List.set (a::l) 0 x=x::l:=rfl
@[simp high] theorem lR(a b:Sl)(l:j8):(a::b::l)[1]?=some b:=rfl
@[simp high] theorem lS(a b x:Sl)(l:j8):List.set (a::b::l) 1 x=a::x::l:=rfl
@[simp high] theorem lT(a b c:Sl)(l:j8):(a::b::c::l)[2]?=some c:=rfl
@[simp high] theorem lU(a b c x:Sl)(l:j8):List.set (a::b::c::l) 2 x=a::b::x::l:=rfl
@[simp high] theorem lV(a b c d:Sl)(l:j8):(a::b::c::d::l)[3]?=some d:=rfl
@[simp high] theorem lW(a b c d x:Sl)(l:j8):List.set (a::b::c::d::l) 3 x=a::b::c::x::l:=rfl
@[simp high] theorem lX(a b c d e:Sl)(l:j8):(a::b::c::d::e::l)[4]?=some e:=rfl
@[simp high] theorem lY(a b c d e x:Sl)(l:j8):List.set (a::b::c::d::e::l) 4 x=a::b::c::d::x::l:=rfl
@[simp high] theorem lZ(a b c d e f:Sl)(l:j8):(a::b::c::d::e::f::l)[5]?=some f:=rfl
@[simp high] theorem l_(a b c d e f x:Sl)(l:j8):List.set (a::b::c::d::e::f::l) 5 x=a::b::c::d::e::x::l:=rfl
@[simp high] theorem L4(a b c d e f g:Sl)(l:j8):(a::b::c::d::e::f::g::l)[6]?=some g:=rfl
@[simp high] theorem L5(a b c d e f g x:Sl)(l:j8):List.set (a::b::c::d::e::f::g::l) 6 x=a::b::c::d::e::f::x::l:=rfl
@[simp high] theorem L6(a b c d e f g h:Sl)(l:j8):(a::b::c::d::e::f::g::h::l)[7]?=some h:=rfl
@[simp high] theorem L7(a b c d e f g h x:Sl)(l:j8):List.set (a::b::c::d::e::f::g::h::l) 7 x=a::b::c::d::e::f::g::x::l:=rfl
@[simp high] theorem L8(a b c d e f g h i:Sl)(l:j8):(a::b::c::d::e::f::g::h::i::l)[8]?=some i:=rfl
@[simp high] theorem L9(a b c d e f g h i x:Sl)(l:j8):List.set (a::b::c::d::e::f::g::h::i::l) 8 x=a::b::c::d::e::f::g::h::x::l:=rfl
@[simp high] theorem La(a b c d e f g h i j:Sl)(l:j8):(a::b::c::d::e::f::g::h::i::j::l)[9]?=some j:=rfl
@[simp high] theorem Lb(a b c d e f g h i j x:Sl)(l:j8):List.set (a::b::c::d::e::f::g::h::i::j::l) 9 x=a::b::c::d::e::f::g::h::i::x::l:=rfl
@[simp high] theorem lj(a b c d e f g h i j k:Sl)(l:j8):(a::b::c::d::e::f::g::h::i::j::k::l)[10]?=some k:=rfl
@[simp high] theorem ll(a b c d e f g h i j k x:Sl)(l:j8):List.set (a::b::c::d::e::f::g::h::i::j::k::l) 10 x=a::b::c::d::e::f::g::h::i::j::x::l:=rfl
@[simp high] theorem lm(a b c d e f g h i j k m:Sl)(l:j8):(a::b::c::d::e::f::g::h::i::j::k::m::l)[11]?=some m:=rfl
@[simp high] theorem lp(a b c d e f g h i j k m x:Sl)(l:j8):List.set (a::b::c::d::e::f::g::h::i::j::k::m::l) 11 x=a::b::c::d::e::f::g::h::i::j::k::x::l:=rfl
@[simp high] theorem lq(a b c d e f g h i j k m n:Sl)(l:j8):(a::b::c::d::e::f::g::h::i::j::k::m::n::l)[12]?=some n:=rfl
@[simp high] theorem lr(a b c d e f g h i j k m n x:Sl)(l:j8):List.set (a::b::c::d::e::f::g::h::i::j::k::m::n::l) 12 x=a::b::c::d::e::f::g::h::i::j::k::m::x::l:=rfl
@[simp high] theorem ls(a b c d e f g h i j k m n o:Sl)(l:j8):(a::b::c::d::e::f::g::h::i::j::k::m::n::o::l)[13]?=some o:=rfl
@[simp high] theorem lu(a b c d e f g h i j k m n o x:Sl)(l:j8):List.set (a::b::c::d::e::f::g::h::i::j::k::m::n::o::l) 13 x=a::b::c::d::e::f::g::h::i::j::k::m::n::x::l:=rfl
@[simp high] theorem lv(a b c d e f g h i j k m n o p:Sl)(l:j8):(a::b::c::d::e::f::g::h::i::j::k::m::n::o::p::l)[14]?=some p:=rfl
@[simp high] theorem lw(a b c d e f g h i j k m n o p x:Sl)(l:j8):List.set (a::b::c::d::e::f::g::h::i::j::k::m::n::o::p::l) 14 x=a::b::c::d::e::f::g::h::i::j::k::m::n::o::x::l:=rfl
@[simp high] theorem lx(a b c d e f g h i j k m n o p q:Sl)(l:j8):(a::b::c::d::e::f::g::h::i::j::k::m::n::o::p::q::l)[15]?=some q:=rfl
@[simp high] theorem ly(a b c d e f g h i j k m n o p q x:Sl)(l:j8):List.set (a::b::c::d::e::f::g::h::i::j::k::m::n::o::p::q::l) 15 x=a::b::c::d::e::f::g::h::i::j::k::m::n::o::p::x::l:=rfl
@[simp high] theorem lA(a b c d e f g h i j k m n o p q r:Sl)(l:j8):(a::b::c::d::e::f::g::h::i::j::k::m::n::o::p::q::r::l)[16]?=some r:=rfl
@[simp high] theorem lB(a b c d e f g h i j k m n o p q r x:Sl)(l:j8):List.set (a::b::c::d::e::f::g::h::i::j::k::m::n::o::p::q::r::l) 16 x=a::b::c::d::e::f::g::h::i::j::k::m::n::o::p::q::x::l:=rfl
@[simp high] theorem lC(a b c d e f g h i j k m n o p q r s:Sl)(l:j8):(a::b::c::d::e::f::g::h::i::j::k::m::n::o::p::q::r::s::l)[17]?=some s:=rfl
@[simp high] theorem lD(a b c d e f g h i j k m n o p q r s x:Sl)(l:j8):List.set (a::b::c::d::e::f::g::h::i::j::k::m::n::o::p::q::r::s::l) 17 x=a::b::c::d::e::f::g::h::i::j::k::m::n::o::p::q::r::x::l:=rfl
@[simp high] theorem lE(a b c d e f g h i j k m n o p q r s t:Sl)(l:j8):(a::b::c::d::e::f::g::h::i::j::k::m::n::o::p::q::r::s::t::l)[18]?=some t:=rfl
@[simp high] theorem lF(a b c d e f g h i j k m n o p q r s t x:Sl)(l:j8):List.set (a::b::c::d::e::f::g::h::i::j::k::m::n::o::p::q::r::s::t::l) 18 x=a::b::c::d::e::f::g::h::i::j::k::m::n::o::p::q::r::s::x::l:=rfl
@[simp high] theorem lG(a b c d e f g h i j k m n o p q r s t u:Sl)(l:j8):(a::b::c::d::e::f::g::h::i::j::k::m::n::o::p::q::r::s::t::u::l)[19]?=some u:=rfl
@[simp high] theorem lH(a b c d e f g h i j k m n o p q r s t u x:Sl)(l:j8):List.set (a::b::c::d::e::f::g::h::i::j::k::m::n::o::p::q::r::s::t::u::l) 19 x=a::b::c::d::e::f::g::h::i::j::k::m::n::o::p::q::r::s::t::x::l:=rfl
@[simp high] theorem lI(a b c d e f g h i j k m n o p q r s t u v:Sl)(l:j8):(a::b::c::d::e::f::g::h::i::j::k::m::n::o::p::q::r::s::t::u::v::l)[20]?=some v:=rfl
@[simp high] theorem lJ(a b c d e f g h i j k m n o p q r s t u v x:Sl)(l:j8):List.set (a::b::c::d::e::f::g::h::i::j::k::m::n::o::p::q::r::s::t::u::v::l) 20 x=a::b::c::d::e::f::g::h::i::j::k::m::n::o::p::q::r::s::t::u::x::l:=rfl
@[simp high] theorem lK(a b c d e f g h i j k m n o p q r s t u v w:Sl)(l:j8):(a::b::c::d::e::f::g::h::i::j::k::m::n::o::p::q::r::s::t::u::v::w::l)[21]?=some w:=rfl
@[simp high] theorem lL(a b c d e f g h i j k m n o p q r s t u v w x:Sl)(l:j8):List.set (a::b::c::d::e::f::g::h::i::j::k::m::n::o::p::q::r::s::t::u::v::w::l) 21 x=a::b::c::d::e::f::g::h::i::j::k::m::n::o::p::q::r::s::t::u::v::x::l:=rfl
@[elab_as_elim] theorem lM{α:Type}{motive:List α->Prop}(us:List α)(hl:us.length=0)(h:motive []):motive us:=by
 cases us with
 | nil=>exact h 
 | cons y us=>simp at hl
@[elab_as_elim] theorem qC{α:Type}{motive:List α->Prop}(us:List α)(hl:us.length=1)(h:∀x0,motive [x0]):motive us:=by
 cases us with
 | nil=>simp at hl
 | cons x0 us=>
  cases us with
  | nil=>exact h x0
  | cons y us=>simp at hl
@[elab_as_elim] theorem zE{α:Type}{motive:List α->Prop}(us:List α)(hl:us.length=2)(h:∀x0 x1,motive [x0,x1]):motive us:=by
 cases us with
 | nil=>simp at hl
 | cons x0 us=>
  cases us with
  | nil=>simp at hl
  | cons x1 us=>
   cases us with
   | nil=>exact h x0 x1
   | cons y us=>simp at hl
@[elab_as_elim] theorem Yr{α:Type}{motive:List α->Prop}(us:List α)(hl:us.length=3)(h:∀x0 x1 x2,motive [x0,x1,x2]):motive us:=by
 cases us with
 | nil=>simp at hl
 | cons x0 us=>
  cases us with
  | nil=>simp at hl
  | cons x1 us=>
   cases us with
   | nil=>simp at hl
   | cons x2 us=>
    cases us with
    | nil=>exact h x0 x1 x2
    | cons y us=>simp at hl
@[elab_as_elim] theorem KB{α:Type}{motive:List α->Prop}(us:List α)(hl:us.length=4)(h:∀x0 x1 x2 x3,motive [x0,x1,x2,x3]):motive us:=by
 cases us with
 | nil=>simp at hl
 | cons x0 us=>
  cases us with
  | nil=>simp at hl
  | cons x1 us=>
   cases us with
   | nil=>simp at hl
   | cons x2 us=>
    cases us with
    | nil=>simp at hl
    | cons x3 us=>
     cases us with
     | nil=>exact h x0 x1 x2 x3
     | cons y us=>simp at hl
@[elab_as_elim] theorem qD{α:Type}{motive:List α->Prop}(us:List α)(hl:us.length=5)(h:∀x0 x1 x2 x3 x4,motive [x0,x1,x2,x3,x4]):motive us:=by
 cases us with
 | nil=>simp at hl
 | cons x0 us=>
  cases us with
  | nil=>simp at hl
  | cons x1 us=>
   cases us with
   | nil=>simp at hl
   | cons x2 us=>
    cases us with
    | nil=>simp at hl
    | cons x3 us=>
     cases us with
     | nil=>simp at hl
     | cons x4 us=>
      cases us with
      | nil=>exact h x0 x1 x2 x3 x4
      | cons y us=>simp at hl
@[elab_as_elim] theorem H_{α:Type}{motive:List α->Prop}(us:List α)(hl:us.length=6)(h:∀x0 x1 x2 x3 x4 x5,motive [x0,x1,x2,x3,x4,x5]):motive us:=by
 cases us with
 | nil=>simp at hl
 | cons x0 us=>
  cases us with
  | nil=>simp at hl
  | cons x1 us=>
   cases us with
   | nil=>simp at hl
   | cons x2 us=>
    cases us with
    | nil=>simp at hl
    | cons x3 us=>
     cases us with
     | nil=>simp at hl
     | cons x4 us=>
      cases us with
      | nil=>simp at hl
      | cons x5 us=>
       cases us with
       | nil=>exact h x0 x1 x2 x3 x4 x5
       | cons y us=>simp at hl
@[elab_as_elim] theorem lN{α:Type}{motive:List α->Prop}(us:List α)(hl:us.length=7)(h:∀x0 x1 x2 x3 x4 x5 x6,motive [x0,x1,x2,x3,x4,x5,x6]):motive us:=by
 cases us with
 | nil=>simp at hl
 | cons x0 us=>
  cases us with
  | nil=>simp at hl
  | cons x1 us=>
   cases us with
   | nil=>simp at hl
   | cons x2 us=>
    cases us with
    | nil=>simp at hl
    | cons x3 us=>
     cases us with
     | nil=>simp at hl
     | cons x4 us=>
      cases us with
      | nil=>simp at hl
      | cons x5 us=>
       cases us with
       | nil=>simp at hl
       | cons x6 us=>
        cases us with
        | nil=>exact h x0 x1 x2 x3 x4 x5 x6
        | cons y us=>simp at hl
end M
noncomputable section
namespace M
open PySem L2 DS CP
noncomputable def U3:List Str:=["NoKind", "TooLong", "NotFull", "BadCosts"]
noncomputable def Ys:DS.DG:=(gN 6)
def JE(C:Addr):DS.DS:=(jo (jv (d2 yM (dV 5) (dK (.int 0)))) (j3 (JR 2 (d2 jq (dV 5) (dK (.int 1009))))
 (jr 5 (d2 gQ (dV 5) (dK (.int 1009))))) jD)
noncomputable def yq:DS.DG:=(gN 4)
def yt(C:Addr):DS.DS:=(j3 (jr 3 (d2 jq (d2 jB (d2 jB (d2 yo (dV 3) (dK (.int 48271))) (d2 jq (dV 4) (dK (.int 1000003)))) (dK (.int 11))) (dK (.int 2147483647))))
 (j3 (jr 5 (d2 V2 (dV 4) (d2 Uk (dK (.int 10)) (dK (.int 18)))))
 (j3 (jo (jv (d2 JD (dV 5) (dK (.int 0)))) (JR 2 (d2 jq (dV 4) (dK (.int 9973)))) jD)
 (yn (Yj (dK (.int 60))) Ys (JE C)))))
def JF(C:Addr):DS.DT:=(jv (d2 JD (j9 jO [(false,(dV 2))]) (dV 1)))
def Yt(C:Addr):DS.DS:=(j3 (jr 3 (d2 jq (d2 jB (d2 jB (d2 jB (d2 yo (dV 3) (dV 3)) (d2 yo (dK (.int 69621)) (dV 3))) (d2 yo (dK (.int 7)) (j9 jO [(false,(dV 2))]))) (dK (.int 5))) (dK (.int 2147483629))))
 (JR 2 (d2 jq (d2 gQ (dV 3) (dK (.int 1013))) (dK (.int 9973)))))
def Y_(C:Addr):DS.DS:=(j3 (Jk 2 (jY []))
 (j3 (jr 3 (dK (.int 29)))
 (j3 (yn (Jb (dL (y2 (dV 0) (fun _=>some none) (fun ρ=>((dK (.int 63)) ρ).bind YI)))) yq (yt C))
 (j3 (zT (JF C) (Yt C) 20000)
 (Yl (y2 (dV 2) (fun _=>some none) (fun ρ=>((dV 1) ρ).bind YI)))))))
def Y0(C:Addr):List D->Option OD:=vK [false,false] 5 (Y_ C)
noncomputable def Zn:DS.DG:=(gN 5)
def Yu(C:Addr):DS.DS:=(j3 (jr 6 (d2 jB (dK (.int 1)) (d2 jq (d2 jb (dV 3) (d2 jB (d2 yo (dK (.int 3)) (dV 5)) (dK (.int 1)))) (dV 1))))
 (JR 4 (ym [(true,(d2 jq (d2 jb (dV 3) (d2 yo (dK (.int 3)) (dV 5))) (dV 0))),(true,(dC 6)),(true,(d2 jB (dV 6) (d2 jq (d2 jb (dV 3) (d2 jB (d2 yo (dK (.int 3)) (dV 5)) (dK (.int 2)))) (d2 jB (d2 V2 (dV 1) (dV 6)) (dK (.int 1))))))])))
def za(C:Addr):DS.DS:=(j3 (Jk 4 (jY []))
 (j3 (yn (Yj (dV 2)) Zn (Yu C))
 (zk 4)))
def Y1(C:Addr):List D->Option OD:=vK [false,false,false,false] 3 (za C)
noncomputable def Vz:DS.DG:=(gN 5)
def Ym(C:Addr):DS.DS:=(j3 (jr 6 (d2 jB (dK (.int 1)) (d2 jb (dL (jY [(true,(dK (.int 0))),(true,(dK (.int 0))),(true,(dK (.int 1))),(true,(dK (.int 0))),(true,(dK (.int 2))),(true,(dK (.int 3))),(true,(dK (.int 1)))])) (d2 jq (d2 jb (dV 0) (d2 jB (dK (.int 2)) (dV 5))) (dK (.int 7))))))
 (j3 (jr 7 (d2 jb (dL (jY [(true,(dK (.int 0))),(true,(dK (.int 1))),(true,(dK (.int 2))),(true,(dK (.int 0))),(true,(dK (.int 3))),(true,(dK (.int 4))),(true,(dK (.int 1)))])) (d2 jq (d2 jb (dV 0) (d2 jB (dK (.int 10)) (dV 5))) (dK (.int 7)))))
 (j3 (jo (v7 (yZ (jv (d2 Je (dV 2) (dK (.int 4)))) (jv (d2 yM (dV 3) (dK (.int 6))))) (jv (d2 yM (dV 3) (dK (.int 12))))) (jr 7 (d2 jq (dV 7) (dK (.int 3)))) jD)
 (JR 4 (ym [(true,(dC 6)),(true,(d2 jB (dV 6) (d2 jq (d2 jb (dV 0) (d2 jB (dK (.int 6)) (dV 5))) (d2 V2 (dK (.int 5)) (dV 6))))),(true,(dC 7))])))))
noncomputable def VA:DS.DG:=(gN 5)
def zF(C:Addr):DS.DS:=(j3 (jr 9 (d2 jB (d2 jB (dK (.int 44)) (d2 yo (dK (.int 3)) (d2 jq (dV 5) (dK (.int 5))))) (d2 gQ (dV 5) (dK (.int 5)))))
 (JR 8 (ym [(true,(d2 jq (d2 jb (dV 0) (dV 9)) (dV 2))),(true,(d2 jq (d2 jb (dV 0) (d2 jB (dV 9) (dK (.int 1)))) (dV 2))),(true,(d2 jB (dK (.int 1)) (d2 jq (d2 jb (dV 0) (d2 jB (dV 9) (dK (.int 2)))) (dK (.int 2)))))])))
def vd(C:Addr):DS.DS:=(j3 (jr 2 (d2 jb (dL (jY [(true,(dK (.int 2))),(true,(dK (.int 3))),(true,(dK (.int 3))),(true,(dK (.int 2))),(true,(dK (.int 1))),(true,(dK (.int 4))),(true,(dK (.int 3)))])) (d2 jq (d2 jb (dV 0) (dK (.int 0))) (dK (.int 7)))))
 (j3 (jr 3 (d2 jB (dK (.int 1)) (d2 jq (d2 jb (dV 0) (dK (.int 1))) (dV 1))))
 (j3 (Jk 4 (jY []))
 (j3 (yn (Yj (dV 2)) Vz (Ym C))
 (j3 (Jk 8 (jY []))
 (j3 (yn (Yj (d2 jb (dL (jY [(true,(dK (.int 0))),(true,(dK (.int 0))),(true,(dK (.int 1))),(true,(dK (.int 2))),(true,(dK (.int 3))),(true,(dK (.int 0))),(true,(dK (.int 20)))])) (d2 jq (d2 jb (dV 0) (dK (.int 14))) (dK (.int 7))))) VA (zF C))
 (j3 (jr 10 (dL (JL 1 [0] (Yj (dK (.int 36))) (gN 0) jH (d2 jB (d2 jb (dV 1) (d2 jB (dK (.int 16)) (d2 jq (d2 yo (dK (.int 5)) (dV 0)) (dK (.int 9))))) (d2 yo (dK (.int 7)) (dV 0))))))
 (j3 (jr 11 (dL (jW (Y1 C) [(false,(dV 2)),(false,(dV 3)),(false,(d2 jb (dL (jY [(true,(dK (.int 0))),(true,(dK (.int 1))),(true,(dK (.int 0))),(true,(dK (.int 2))),(true,(dK (.int 12))),(true,(dK (.int 0)))])) (d2 jq (d2 jb (dV 0) (dK (.int 15))) (dK (.int 6))))),(false,(dV 10))])))
 (j3 (jr 12 (d2 jb (dL (jY [(true,(dK (.int 0))),(true,(dK (.int 1))),(true,(dK (.int 0))),(true,(dK (.int 2))),(true,(dK (.int 3))),(true,(dK (.int 1)))])) (d2 jq (d2 jb (dV 0) (dK (.int 25))) (dK (.int 6)))))
 (j3 (jo (yZ (jv (d2 yM (dV 3) (dK (.int 5)))) (jv (d2 yM (dV 2) (dK (.int 2))))) (jr 12 (d2 jq (dV 12) (dK (.int 3)))) jD)
 (Zh 4 (Zh 8 (ju (ym [(true,(dC 3)),(true,(dC 4)),(true,(dC 8)),(true,(dC 11)),(true,(dL (jW (Y1 C) [(false,(dV 2)),(false,(dV 3)),(false,(dV 12)),(false,(dL (y2 (dV 0) (fun ρ=>((dK (.int 26)) ρ).bind YI) (fun ρ=>((dK (.int 35)) ρ).bind YI))))])))]))))))))))))))
def zo(C:Addr):List D->Option D:=Js [false,false] 11 (vd C)
def zG(C:Addr):DS.DS:=(j3 (jo (v7 (Jn (jv (jR jM jM (dK (.int 1)) (dV 0) (dK (.int 30))))) (Jn (jv (jR jM jM (dK (.int 1)) (j9 jO [(false,(dV 1))]) (dK (.int 4)))))) (ju (dK (.bl false))) jD)
 (ju (y0 (d2 jM (j9 jO [(false,(dV 2))]) (dK (.int 20))) (y0 (d2 jM (j9 jO [(false,(dV 3))]) (dK (.int 12))) (d2 jM (j9 jO [(false,(dV 4))]) (dK (.int 3)))))))
def zH(C:Addr):List D->Option D:=Js [false,false,false,false,false] 0 (zG C)
def ve(C:Addr):DS.DS:=(j3 (jo (jv (d2 Jr (j9 jO [(false,(dV 0))]) (dK (.int 3)))) (ju (dK (.bl false))) jD)
 (j3 (u8 (dC 0) (gT 3 (gC (gN 1) (gC (gN 2) (gC (gN 3) gZ)))))
 (ju (y0 (vJ jM jM jM (dK (.int 1)) (dV 1) (dV 2) (dK (.int 4))) (jR jM jM (dK (.int 0)) (dV 3) (dK (.int 4)))))))
def zp(C:Addr):List D->Option D:=Js [true] 3 (ve C)
def vf(C:Addr):DS.DS:=(j3 (jo (jv (d2 Jr (j9 jO [(false,(dV 0))]) (dK (.int 3)))) (ju (dK (.bl false))) jD)
 (j3 (u8 (dC 0) (gT 3 (gC (gN 2) (gC (gN 3) (gC (gN 4) gZ)))))
 (ju (y0 (jR jM JD (dK (.int 0)) (dV 2) (dV 1)) (y0 (jR jM JD (dK (.int 0)) (dV 3) (dV 1)) (jR jM jM (dK (.int 1)) (dV 4) (dK (.int 2))))))))
def zq(C:Addr):List D->Option D:=Js [true,false] 3 (vf C)
def vg(C:Addr):DS.DS:=(j3 (jo (jv (d2 Jr (j9 jO [(false,(dV 0))]) (dK (.int 3)))) (ju (dK (.bl false))) jD)
 (j3 (u8 (dC 0) (gT 3 (gC (gN 3) (gC (gN 4) (gC (gN 5) gZ)))))
 (ju (y0 (jR jM JD (dK (.int 0)) (dV 3) (dV 1)) (vJ jM jM jM (dK (.int 1)) (dV 4) (dV 5) (dV 2))))))
def zt(C:Addr):List D->Option D:=Js [true,false,false] 3 (vg C)
def vh(C:Addr):DS.DS:=(j3 (jr 5 (j9 jO [(false,(dV 1))]))
 (j3 (jo (Jn (Jv (j9 Y7 [(false,(dL (JL 1 [] (Jb (dP 1)) (gN 0) jH (j9 (zp C) [(true,(dC 0))]))))]))) (ju (dK (.bl false))) jD)
 (j3 (jo (Jn (Jv (j9 Y7 [(false,(dL (JL 1 [5] (Jb (dP 2)) (gN 0) jH (j9 (zq C) [(true,(dC 0)),(false,(dV 1))]))))]))) (ju (dK (.bl false))) jD)
 (ju (j9 Y7 [(false,(dL (JL 1 [5,0] (Jb (dL (kW gR (dV 3) (dV 4)))) (gN 0) jH (j9 (zt C) [(true,(dC 0)),(false,(dV 1)),(false,(dV 2))]))))])))))
def vi(C:Addr):List D->Option D:=Js [false,false,false,false,false] 1 (vh C)
def yu(C:Addr):DS.DS:=(j3 (jo (Jn (Jv (j9 (zH C) [(false,(dV 1)),(false,(dV 2)),(false,(dV 3)),(false,(dV 4)),(false,(dV 5))]))) ya jD)
 (j3 (jo (Jn (Jv (j9 (vi C) [(false,(dV 1)),(false,(dV 2)),(false,(dV 3)),(false,(dV 4)),(false,(dV 5))]))) ya jD)
 (j3 (Z1 0 C "size" (dC 1))
 (j3 (Z1 0 C "kind_rows" (j9 YL [(false,(dV 2))]))
 (j3 (Z1 0 C "shun_rows" (j9 YL [(false,(dV 3))]))
 (j3 (Z1 0 C "bar_rows" (j9 YL [(false,(dV 4))]))
 (Z1 0 C "due_rows" (j9 YL [(false,(dV 5))]))))))))
def yb(C:Addr):Addr->List D->Option OD:=Qy C [true,false,false,false,false] 0 (yu C)
def JG(C:Addr):List D->Option OD:=DS.Gg C
def vj(C:Addr):DS.DS:=(Yl (kn (JG C) [(true,(d2 jb (dV 0) (dK (.int 0)))),(false,(dL (jW V4 [(false,(d2 jb (dV 0) (dK (.int 1))))]))),(false,(dL (jW V4 [(false,(d2 jb (dV 0) (dK (.int 2))))]))),(false,(dL (jW V4 [(false,(d2 jb (dV 0) (dK (.int 3))))]))),(false,(dL (jW V4 [(false,(d2 jb (dV 0) (dK (.int 4))))])))]))
def zu(C:Addr):List D->Option OD:=vK [false] 0 (vj C)
noncomputable def VB:DS.DG:=(gN 3)
def Yn(C:Addr):DS.DS:=(j3 (JR 2 (d2 jq (d2 jb (dV 1) (dV 3)) (j9 jO [(false,(d2 jb (dV 0) (dK (.int 1))))])))
 (jo (yZ (jv (d2 Je (d2 jq (d2 jb (dV 1) (dK (.int 40))) (dK (.int 2))) (dK (.int 1)))) (yZ (jv (d2 yM (dV 3) (dK (.int 0)))) (jv (d2 yM (d2 jq (d2 gQ (d2 jb (dV 1) (dV 3)) (dK (.int 7))) (dK (.int 3))) (dK (.int 0)))))) (Z0 2 (dV 3) (d2 jb (dV 2) (d2 V2 (dV 3) (dK (.int 1))))) jD))
def vk(C:Addr):DS.DS:=(j3 (Jk 2 (jY []))
 (j3 (yn (Yj (d2 jb (dV 0) (dK (.int 0)))) VB (Yn C))
 (zk 2)))
def zw(C:Addr):List D->Option OD:=vK [false,false] 2 (vk C)
def YO(C:Addr):DS.DS:=(j3 (jo (jv (d2 Je (d2 jq (d2 jb (dV 1) (dK (.int 40))) (dK (.int 3))) (dK (.int 0)))) (Yl (JL 1 [] (Yj (d2 jb (dV 0) (dK (.int 0)))) (gN 0) jH (dK (.int 1)))) jD)
 (Yl (JL 1 [1] (Yj (d2 jb (dV 0) (dK (.int 0)))) (gN 0) jH (d2 jB (dK (.int 1)) (d2 jq (d2 jb (dV 1) (dV 0)) (dK (.int 9)))))))
def yW(C:Addr):List D->Option OD:=vK [false,false] 0 (YO C)
def Vd(C:Addr):DS.DS:=(j3 (jo (jv (d2 Jr (dL (JL 1 [0] (Jb (dP 1)) (gN 0) (Jn (jv (jR jM JD (dK (.int 0)) (dV 0) (j9 jO [(false,(d2 jb (dV 1) (dK (.int 1))))])))) (dC 0))) (dL (jY [])))) (Yl (jY [(true,(dK (.bl true))),(true,(dK (.bl false))),(true,(dK (.bl false))),(true,(dK (.bl false)))])) jD)
 (j3 (jo (jv (d2 yM (j9 jO [(false,(dV 1))]) (d2 jb (dV 0) (dK (.int 0))))) (Yl (jY [(true,(dK (.bl false))),(true,(dK (.bl true))),(true,(dK (.bl false))),(true,(dK (.bl false)))])) jD)
 (j3 (jo (jv (d2 JD (j9 jO [(false,(dV 1))]) (d2 jb (dV 0) (dK (.int 0))))) (Yl (jY [(true,(dK (.bl false))),(true,(dK (.bl false))),(true,(dK (.bl true))),(true,(dK (.bl false)))])) jD)
 (j3 (jo (v7 (jv (d2 Jr (j9 jO [(false,(dV 2))]) (d2 jb (dV 0) (dK (.int 0))))) (jv (d2 Jr (dL (JL 1 [] (Jb (dP 2)) (gN 0) (Jn (jv (jR jM jM (dK (.int 1)) (dV 0) (dK (.int 9))))) (dC 0))) (dL (jY []))))) (Yl (jY [(true,(dK (.bl false))),(true,(dK (.bl false))),(true,(dK (.bl false))),(true,(dK (.bl true)))])) jD)
 (Yl (jY []))))))
def Z4(C:Addr):List D->Option OD:=vK [false,false,false] 0 (Vd C)
def Zo(C:Addr):DS.DS:=(ju (j9 jO [(false,(d1 (jA C "kind_rows") (dV 0)))]))
def yd(C:Addr):List D->Option D:=Js [false] 0 (Zo C)
def ui(C:Addr):DS.DS:=(ju (jR jM JD (dK (.int 0)) (dV 1) (d1 (ZT C "many" (yd C)) (dV 0))))
def ZX(C:Addr):List D->Option D:=Js [false,false] 0 (ui C)
def Y8(C:Addr):DS.DS:=(ju (j9 Y7 [(false,(dL (JL 1 [0] (Jb (dP 1)) (gN 0) jH (j9 (ZX C) [(false,(dV 1)),(false,(dV 0))]))))]))
def Jm(C:Addr):List D->Option D:=Js [false,false] 0 (Y8 C)
def vm(C:Addr):DS.DS:=(j3 (jo (Jn (Jv (j9 (Jm C) [(false,(dV 0)),(false,(dV 1))]))) ya jD)
 (jo (jv (d2 yM (j9 jO [(false,(dV 1))]) (d1 (jA C "size") (dV 0)))) ya jD))
def zx(C:Addr):List D->Option D:=Js [false,false] 0 (vm C)
def yG(C:Addr):DZ:=(Jy (Y5 (Jn (Jv (j9 (Jm C) [(false,(dV 0)),(false,(dV 1))]))) (fun _=>some "NoKind") yz) (jo (Jn (Jv (j9 (Jm C) [(false,(dV 0)),(false,(dV 1))]))) ya jD) (Jy (Y5 (jv (d2 yM (j9 jO [(false,(dV 1))]) (d1 (jA C "size") (dV 0)))) (fun _=>some "TooLong") yz) (jo (jv (d2 yM (j9 jO [(false,(dV 1))]) (d1 (jA C "size") (dV 0)))) ya jD) yz))
def yX(C:Addr):List D->Option Str:=yP [false,false] 0 (yG C)
def Zp(C:Addr):DS.DS:=(j3 (Yk (j9 (zx C) [(false,(dV 0)),(false,(dV 1))]))
 (j3 (jo (jv (d2 JD (j9 jO [(false,(dV 1))]) (d1 (jA C "size") (dV 0)))) ya jD)
 (j3 (jo (jv (d2 Jr (j9 jO [(false,(dV 2))]) (d1 (jA C "size") (dV 0)))) ya jD)
 (jo (Jn (Jv (j9 Y7 [(false,(dL (JL 1 [] (Jb (dP 2)) (gN 0) jH (jR jM jM (dK (.int 1)) (dV 0) (dK (.int 9))))))]))) ya jD))))
def ye(C:Addr):List D->Option D:=Js [false,false,false] 0 (Zp C)
def Jl(C:Addr):DZ:=(Jy (Jz (yX C) [(false,(dV 0)),(false,(dV 1))]) (Yk (j9 (zx C) [(false,(dV 0)),(false,(dV 1))])) (Jy (Y5 (jv (d2 JD (j9 jO [(false,(dV 1))]) (d1 (jA C "size") (dV 0)))) (fun _=>some "NotFull") yz) (jo (jv (d2 JD (j9 jO [(false,(dV 1))]) (d1 (jA C "size") (dV 0)))) ya jD) (Jy (Y5 (jv (d2 Jr (j9 jO [(false,(dV 2))]) (d1 (jA C "size") (dV 0)))) (fun _=>some "BadCosts") yz) (jo (jv (d2 Jr (j9 jO [(false,(dV 2))]) (d1 (jA C "size") (dV 0)))) ya jD) (Jy (Y5 (Jn (Jv (j9 Y7 [(false,(dL (JL 1 [] (Jb (dP 2)) (gN 0) jH (jR jM jM (dK (.int 1)) (dV 0) (dK (.int 9))))))]))) (fun _=>some "BadCosts") yz) (jo (Jn (Jv (j9 Y7 [(false,(dL (JL 1 [] (Jb (dP 2)) (gN 0) jH (jR jM jM (dK (.int 1)) (dV 0) (dK (.int 9))))))]))) ya jD) yz))))
def Jc(C:Addr):List D->Option Str:=yP [false,false,false] 0 (Jl C)
def zI(C:Addr):DS.DS:=(j3 (jr 1 (d2 yo (ym [(true,(dK (.int 0)))]) (d1 (ZT C "many" (yd C)) (dV 0))))
 (j3 (jr 2 (d2 yo (ym [(true,(dK (.bl false)))]) (j9 jO [(false,(d1 (jA C "due_rows") (dV 0)))])))
 (ju (ym [(true,(dK (.int 0))),(true,(Ze (dK (.int 1)))),(true,(dK (.int 0))),(true,(Ze (dK (.int 1)))),(true,(dC 1)),(true,(dC 2))]))))
def yA(C:Addr):List D->Option D:=Js [false] 2 (zI C)
noncomputable def VC:DS.DG:=(gT 3 (gC (gN 4) (gC (gN 5) (gC (gN 6) gZ))))
def zJ(C:Addr):DS.DS:=(jo (yZ (jv (d2 Je (dV 4) (dV 2))) (jv (jR jM jM (dV 5) (dV 3) (dV 6)))) (ju (dK (.bl true))) jD)
def vn(C:Addr):DS.DS:=(j3 (jr 3 (d2 jB (d2 jb (dV 1) (dK (.int 0))) (dK (.int 1))))
 (j3 (yn (Jb (d1 (jA C "bar_rows") (dV 0))) VC (zJ C))
 (ju (dK (.bl false)))))
def vo(C:Addr):List D->Option D:=Js [false,false,false] 4 (vn C)
def uj(C:Addr):DS.DS:=(ju (y0 (d2 Je (d2 jb (dV 1) (dK (.int 1))) (dV 2)) (d2 Qj (d2 jb (dV 1) (dK (.int 2))) (d2 jb (d2 jb (d1 (jA C "kind_rows") (dV 0)) (dV 2)) (dK (.int 1))))))
def uk(C:Addr):List D->Option D:=Js [false,false,false] 0 (uj C)
def Ve(C:Addr):DS.DS:=(j3 (jr 3 (d2 jb (dV 1) (dK (.int 1))))
 (j3 (jo (v7 (jv (d2 Je (dV 3) (dV 2))) (jv (d2 Je (dV 3) (Ze (dK (.int 1)))))) (ju (dK (.bl false))) jD)
 (ju (d2 JD (d2 jb (dV 1) (dK (.int 2))) (d2 jb (d2 jb (d1 (jA C "kind_rows") (dV 0)) (dV 3)) (dK (.int 0)))))))
def Vf(C:Addr):List D->Option D:=Js [false,false,false] 1 (Ve C)
def Vg(C:Addr):DS.DS:=(ju (y0 (d2 Jr (d2 jb (dV 0) (dK (.int 1))) (dV 1)) (d2 Jr (d2 jb (d2 jb (dV 0) (dK (.int 4))) (dV 1)) (dK (.int 0)))))
def Vh(C:Addr):List D->Option D:=Js [false,false] 0 (Vg C)
noncomputable def vQ:DS.DG:=(gT 3 (gC (gN 3) (gC (gN 4) (gC (gN 5) gZ))))
def zb(C:Addr):DS.DS:=(j3 (jr 6 (WZ (jv (d2 Je (dV 5) (dK (.int 1)))) (d2 jb (dV 1) (dK (.int 1))) (d2 jb (dV 1) (dK (.int 3)))))
 (jo (yZ (jv (d2 Je (dV 4) (dV 2))) (jv (d2 Je (dV 6) (dV 3)))) (ju (dK (.bl true))) jD))
def Zq(C:Addr):DS.DS:=(j3 (yn (Jb (d1 (jA C "shun_rows") (dV 0))) vQ (zb C))
 (ju (dK (.bl false))))
def Zr(C:Addr):List D->Option D:=Js [false,false,false] 4 (Zq C)
noncomputable def ul:DS.DG:=(gT 2 (gC (gN 5) (gC (gN 6) gZ)))
def Zs(C:Addr):DS.DS:=(j3 (u8 (dC 5) (gT 3 (gC (gN 7) (gC (gN 8) (gC (gN 9) gZ)))))
 (JR 4 (k_ (dV 6) (y0 (d2 Je (dV 7) (dV 2)) (jR jM jM (dV 8) (dV 3) (dV 9))))))
def Vi(C:Addr):DS.DS:=(j3 (jr 3 (d2 jB (d2 jb (dV 1) (dK (.int 0))) (dK (.int 1))))
 (j3 (Jk 4 (jY []))
 (j3 (yn (K3 (d1 (jA C "due_rows") (dV 0)) (d2 jb (dV 1) (dK (.int 5)))) ul (Zs C))
 (ju (j9 YL [(false,(dV 4))])))))
def Z5(C:Addr):List D->Option D:=Js [false,false,false] 7 (Vi C)
noncomputable def vR:DS.DG:=(gT 2 (gC (gN 4) (gC (gN 5) gZ)))
def zc(C:Addr):DS.DS:=(jo (yZ (jv (d2 Je (d2 jb (dV 4) (dK (.int 2))) (dV 3))) (Jn (Jv (dV 5)))) (ju (dK (.bl true))) jD)
def Zt(C:Addr):DS.DS:=(j3 (jr 3 (d2 jB (d2 jb (dV 1) (dK (.int 0))) (dK (.int 1))))
 (j3 (yn (K3 (d1 (jA C "due_rows") (dV 0)) (j9 (Z5 C) [(false,(dV 0)),(false,(dV 1)),(false,(dV 2))])) vR (zc C))
 (ju (dK (.bl false)))))
def Zu(C:Addr):List D->Option D:=Js [false,false,false] 3 (Zt C)
def Vj(C:Addr):DS.DS:=(j3 (jo (jv (d2 Je (d2 jb (dV 0) (dK (.int 1))) (dV 1))) (ju (d2 jB (d2 jb (dV 0) (dK (.int 2))) (dK (.int 1)))) jD)
 (ju (dK (.int 1))))
def Z6(C:Addr):List D->Option D:=Js [false,false] 0 (Vj C)
def Uu(C:Addr):DS.DS:=(j3 (jo (jv (d2 Jr (d2 jB (d2 jb (dV 1) (dK (.int 0))) (dK (.int 1))) (d1 (jA C "size") (dV 0)))) (ju (dK (.bl false))) jD)
 (ju (d2 JD (j9 (Z6 C) [(false,(dV 1)),(false,(dV 2))]) (d2 jb (d2 jb (d1 (jA C "kind_rows") (dV 0)) (dV 2)) (dK (.int 0))))))
def Uv(C:Addr):List D->Option D:=Js [false,false,false] 0 (Uu C)
def Uw(C:Addr):DS.DS:=(j3 (jo (Jv (j9 (vo C) [(false,(dV 0)),(false,(dV 1)),(false,(dV 2))])) (ju (dK (.str "barred"))) jD)
 (j3 (jo (Jv (j9 (uk C) [(false,(dV 0)),(false,(dV 1)),(false,(dV 2))])) (ju (dK (.str "long"))) jD)
 (j3 (jo (Jv (j9 (Vf C) [(false,(dV 0)),(false,(dV 1)),(false,(dV 2))])) (ju (dK (.str "short"))) jD)
 (j3 (jo (Jv (j9 (Vh C) [(false,(dV 1)),(false,(dV 2))])) (ju (dK (.str "early"))) jD)
 (j3 (jo (Jv (j9 (Zr C) [(false,(dV 0)),(false,(dV 1)),(false,(dV 2))])) (ju (dK (.str "shun"))) jD)
 (j3 (jo (Jv (j9 (Zu C) [(false,(dV 0)),(false,(dV 1)),(false,(dV 2))])) (ju (dK (.str "due"))) jD)
 (j3 (jo (Jv (j9 (Uv C) [(false,(dV 0)),(false,(dV 1)),(false,(dV 2))])) (ju (dK (.str "cut"))) jD)
 (ju (dK .non)))))))))
def Ux(C:Addr):List D->Option D:=Js [false,false,false] 0 (Uw C)
def Zv(C:Addr):DS.DS:=(j3 (jr 3 (d2 jb (dV 1) (dK (.int 1))))
 (j3 (Jk 4 (JL 1 [] (Jb (d2 jb (dV 1) (dK (.int 4)))) (gN 0) jH (j9 gU [(false,(d2 V2 (dV 0) (dK (.int 1)))),(false,(dK (.int 0)))])))
 (j3 (jo (jv (d2 Jr (dV 3) (Ze (dK (.int 1))))) (Z0 4 (dV 3) (j9 gU [(false,(d2 V2 (d2 jb (d2 jb (d1 (jA C "kind_rows") (dV 0)) (dV 3)) (dK (.int 2))) (dK (.int 1)))),(false,(dK (.int 0)))])) jD)
 (j3 (Z0 4 (dV 2) (dK (.int 0)))
 (ju (j9 YL [(false,(dV 4))]))))))
def Zw(C:Addr):List D->Option D:=Js [false,false,false] 2 (Zv C)
def Zx(C:Addr):DS.DS:=(j3 (jr 3 (j9 (Z6 C) [(false,(dV 1)),(false,(dV 2))]))
 (j3 (jr 4 (j9 (Zw C) [(false,(dV 0)),(false,(dV 1)),(false,(dV 2))]))
 (j3 (jr 5 (j9 (Z5 C) [(false,(dV 0)),(false,(dV 1)),(false,(dV 2))]))
 (ju (ym [(true,(d2 jB (d2 jb (dV 1) (dK (.int 0))) (dK (.int 1)))),(true,(dC 2)),(true,(dC 3)),(true,(d2 jb (dV 1) (dK (.int 1)))),(true,(dC 4)),(true,(dC 5))])))))
def Zy(C:Addr):List D->Option D:=Js [false,false,true] 3 (Zx C)
def um(C:Addr):DS.DS:=(j3 (jo (v7 (jv (d2 Qj (d2 jb (dV 1) (dK (.int 0))) (d1 (jA C "size") (dV 0)))) (jv (d2 uH (j9 (Ux C) [(false,(dV 0)),(false,(dV 1)),(false,(dV 2))]) (dK .non)))) (ju (dK .non)) jD)
 (ju (j9 (Zy C) [(false,(dV 0)),(false,(dV 1)),(true,(dC 2))])))
def uo(C:Addr):List D->Option D:=Js [false,false,true] 0 (um C)
noncomputable def vS:DS.DG:=(gN 3)
def Y2(C:Addr):DS.DS:=(j3 (jr 4 (j9 (uo C) [(false,(dV 0)),(false,(dV 1)),(true,(dC 3))]))
 (jo (jv (d2 uH (dV 4) (dK .non))) (JR 2 (ym [(true,(dC 3)),(true,(dC 4))])) jD))
def Zz(C:Addr):DS.DS:=(j3 (Jk 2 (jY []))
 (j3 (yn (Yj (d1 (ZT C "many" (yd C)) (dV 0))) vS (Y2 C))
 (zk 2)))
def YQ(C:Addr):List D->Option OD:=vK [false,false] 3 (Zz C)
noncomputable def YR:DS.DG:=(gT 2 (gC (gN 7) (gC (gN 8) gZ)))
def JS(C:Addr):DS.DS:=(V7 5 (dC 8) (dK (.bl true)))
noncomputable def YS:DS.DG:=(gN 6)
def JT(C:Addr):DS.DS:=(j3 (V7 4 (dC 6) (dL (jW (YQ C) [(false,(dV 0)),(false,(dV 6))])))
 (yn (Jb (d2 yJ (dV 4) (dV 6))) YR (JS C)))
def ZY(C:Addr):DS.DT:=(Jv (dV 3))
def yQ(C:Addr):DS.DS:=(j3 (Jk 4 uK)
 (j3 (Jk 5 uK)
 (j3 (yn (Jb (dP 3)) YS (JT C))
 (Zh 4 (j3 (JR 2 (dC 4))
 (jr 3 (dL (jW vL [(false,(dV 5))]))))))))
def zK(C:Addr):DS.DS:=(j3 (Jk 2 (jY []))
 (j3 (jr 3 (dL (jY [(true,(dC 1))])))
 (j3 (zT (ZY C) (yQ C) 20000)
 (zk 2))))
def zL(C:Addr):List D->Option OD:=vK [false,true] 7 (zK C)
def zM(C:Addr):DS.DS:=(j3 (jr 4 (d2 jb (dV 2) (dK (.int 0))))
 (j3 (jo (jv (d2 Je (d2 jb (dV 0) (dV 4)) (dV 3))) (ju (dK (.int 0))) jD)
 (ju (d2 jb (dV 1) (dV 4)))))
def Jw(C:Addr):List D->Option D:=Js [false,false,false,false] 1 (zM C)
noncomputable def zd:DS.DG:=(gT 2 (gC (gN 7) (gC (gN 8) gZ)))
def yf(C:Addr):DS.DS:=(jo (jv (d2 Je (d2 jb (dV 7) (dK (.int 0))) (d1 (jA C "size") (dV 0)))) (V7 5 (dC 7) (dK (.int 0))) (j3 (jr 9 (dL (JL 2 [5,1,2,7] (Jb (dP 8)) (gT 2 (gC (gN 0) (gC (gN 1) gZ))) jH (d2 jB (d2 yJ (dV 2) (dV 1)) (j9 (Jw C) [(false,(dV 3)),(false,(dV 4)),(false,(dV 5)),(false,(dV 0))])))))
 (V7 5 (dC 7) (d2 U_ (dV 9) (dV 4)))))
noncomputable def ze:DS.DG:=(gN 6)
def yg(C:Addr):DS.DS:=(yn (ud (dP 6)) zd (yf C))
def ZA(C:Addr):DS.DS:=(j3 (jr 4 (d2 jB (j9 Kk [(false,(dV 2))]) (dK (.int 1))))
 (j3 (Jk 5 uK)
 (j3 (yn (qr (dP 3)) ze (yg C))
 (zk 5))))
def ZB(C:Addr):List D->Option OD:=vK [false,false,false,false] 6 (ZA C)
noncomputable def Y9:DS.DG:=(gT 2 (gC (gN 5) (gC (gN 6) gZ)))
def J4(C:Addr):DS.DS:=(jo (jv (d2 Je (d2 jB (d2 yJ (dV 3) (dV 6)) (j9 (Jw C) [(false,(dV 1)),(false,(dV 2)),(false,(dV 4)),(false,(dV 5))])) (d2 yJ (dV 3) (dV 4)))) (ju (ym [(true,(dC 5)),(true,(dC 6))])) jD)
def YT(C:Addr):DS.DS:=(j3 (yn (Jb (dL (jW (YQ C) [(false,(dV 0)),(false,(dV 4))]))) Y9 (J4 C))
 (ju (dK .non)))
def YU(C:Addr):List D->Option D:=Js [false,false,false,false,false] 2 (YT C)
def Ji(C:Addr):DS.DT:=(jv (d2 JD (j9 jO [(false,(dV 4))]) (d1 (jA C "size") (dV 0))))
def JU(C:Addr):DS.DS:=(j3 (u8 (j9 (YU C) [(false,(dV 0)),(false,(dV 1)),(false,(dV 2)),(false,(dV 3)),(false,(dV 5))]) (gT 2 (gC (gN 6) (gC (gN 5) gZ))))
 (JR 4 (dC 6)))
def Yv(C:Addr):DS.DS:=(j3 (Jk 4 (jY []))
 (j3 (jr 5 (j9 (yA C) [(false,(dV 0))]))
 (j3 (zT (Ji C) (JU C) 20000)
 (zk 4))))
def Yw(C:Addr):List D->Option OD:=vK [false,false,false,false] 3 (Yv C)
def Vk(C:Addr):DS.DS:=(j3 (Yk (j9 (ye C) [(false,(dV 0)),(false,(dV 1)),(false,(dV 2))]))
 (j3 (jr 3 (j9 (yA C) [(false,(dV 0))]))
 (j3 (jr 4 (dL (jW (zL C) [(false,(dV 0)),(true,(dC 3))])))
 (j3 (jo (jv (d2 jM (j9 jO [(false,(dV 4))]) (d1 (jA C "size") (dV 0)))) (ju (dK .non)) jD)
 (j3 (jr 5 (dL (jW (ZB C) [(false,(dV 0)),(false,(dV 1)),(false,(dV 2)),(false,(dV 4))])))
 (j3 (jr 6 (dL (jW (Yw C) [(false,(dV 0)),(false,(dV 1)),(false,(dV 2)),(false,(dV 5))])))
 (j3 (jr 7 (dL (JL 1 [5] (Jb (dP 4)) (gN 0) jH (dL (JL 1 [1] (uL (dP 0)) (gN 0) jH (ym [(true,(dC 0)),(true,(d2 yJ (dV 1) (dV 0)))]))))))
 (ju (ym [(true,(d2 yJ (dV 5) (dV 3))),(true,(dC 6)),(true,(dC 7))])))))))))
def ZC(C:Addr):List D->Option D:=Js [false,false,false] 5 (Vk C)
def ZD(C:Addr):DZ:=(Jy (Jz (Jc C) [(false,(dV 0)),(false,(dV 1)),(false,(dV 2))]) (Yk (j9 (ye C) [(false,(dV 0)),(false,(dV 1)),(false,(dV 2))])) yz)
def ZZ(C:Addr):List D->Option Str:=yP [false,false,false] 5 (ZD C)
def zN(C:Addr):DS.DS:=(j3 (Yk (j9 (ye C) [(false,(dV 0)),(false,(dV 1)),(false,(dV 2))]))
 (j3 (jr 5 (j9 (yA C) [(false,(dV 0))]))
 (j3 (jo (v7 (Jn (Jv (dV 3))) (Jn (Jv (j9 qt [(false,(dL (JL 2 [5,4] (Jb (d2 jb (dV 3) (dK (.int 0)))) (gT 2 (gC (gN 0) (gC (gN 1) gZ))) jH (y0 (d2 Je (dV 0) (dV 2)) (d2 Qj (dV 1) (dV 3))))))])))) (ju (dK (.bl false))) jD)
 ya)))
def zO(C:Addr):List D->Option D:=Js [false,false,false,false,false] 4 (zN C)
def yB(C:Addr):DZ:=(Jy (Jz (Jc C) [(false,(dV 0)),(false,(dV 1)),(false,(dV 2))]) (Yk (j9 (ye C) [(false,(dV 0)),(false,(dV 1)),(false,(dV 2))])) yz)
def Y3(C:Addr):List D->Option Str:=yP [false,false,false,false,false] 4 (yB C)
def JH(C:Addr):DS.DS:=(j3 (jr 4 (dL (jY [])))
 (j3 (gb (Us U3 (Y5 (jv (d2 Je (dV 0) (dK (.int 0)))) (Jz (ZZ C) [(false,(dV 1)),(false,(dV 2)),(false,(dV 3))]) (Jz (Y3 C) [(false,(dV 1)),(false,(dV 2)),(false,(dV 3)),(false,(dL (jY []))),(false,(dK (.int 0)))]))) (jo (jv (d2 Je (dV 0) (dK (.int 0)))) (Yk (j9 (ZC C) [(false,(dV 1)),(false,(dV 2)),(false,(dV 3))])) (Yk (j9 (zO C) [(false,(dV 1)),(false,(dV 2)),(false,(dV 3)),(false,(dL (jY []))),(false,(dK (.int 0)))]))) 5 4 (fun c=>(["NoKind", "TooLong", "NotFull", "BadCosts"]:List Str).map fun a=>c==a))
 (ju (dC 4))))
def Ja(C:Addr):List D->Option D:=Js [false,false,false,false] 2 (JH C)
def kv(C:Addr):DS.DS:=(j3 (jr 1 (dL (jW (Y0 C) [(false,(dV 0)),(false,(dK (.int 190)))])))
 (j3 (jr 2 (j9 (zo C) [(false,(dV 1)),(false,(dK (.int 8)))]))
 (j3 (jr 3 (dL (jW (zu C) [(false,(dV 2))])))
 (j3 (jr 4 (j9 jO [(false,(d2 jb (dV 2) (dK (.int 1))))]))
 (j3 (Jk 5 (jW (zw C) [(false,(dV 2)),(false,(dL (y2 (dV 1) (fun ρ=>((dK (.int 60)) ρ).bind YI) (fun _=>some none))))]))
 (j3 (Jk 6 (jW (yW C) [(false,(dV 2)),(false,(dL (y2 (dV 1) (fun ρ=>((dK (.int 110)) ρ).bind YI) (fun _=>some none))))]))
 (j3 (jo (jv (d2 Je (d2 jq (d2 jb (dV 1) (dK (.int 160))) (dK (.int 4))) (dK (.int 1)))) (Jk 5 (y2 (dV 5) (fun _=>some none) (fun ρ=>((d2 jq (d2 jb (dV 1) (dK (.int 161))) (d2 jB (j9 jO [(false,(dV 5))]) (dK (.int 1)))) ρ).bind YI))) jD)
 (j3 (jo (jv (d2 Je (d2 jq (d2 jb (dV 1) (dK (.int 160))) (dK (.int 4))) (dK (.int 2)))) (Jk 5 (kW gR (dV 5) (dL (JL 1 [4] (Jb (dL (y2 (dV 1) (fun ρ=>((dK (.int 162)) ρ).bind YI) (fun ρ=>((d2 jB (dK (.int 163)) (d2 jq (d2 jb (dV 1) (dK (.int 161))) (dK (.int 3)))) ρ).bind YI)))) (gN 0) jH (d2 jq (dV 0) (dV 1)))))) jD)
 (j3 (jo (jv (d2 Je (d2 jq (d2 jb (dV 1) (dK (.int 166))) (dK (.int 3))) (dK (.int 1)))) (j3 (jr 7 (d2 jb (dL (jY [(true,(Ze (dK (.int 1)))),(true,(dC 4)),(true,(d2 Uk (dK (.int 10)) (dK (.int 20))))])) (d2 jq (d2 jb (dV 1) (dK (.int 167))) (dK (.int 3)))))
 (G1 5 (d2 jq (d2 jb (dV 1) (dK (.int 168))) (d2 jB (j9 jO [(false,(dV 5))]) (dK (.int 1)))) (dC 7))) jD)
 (j3 (jo (jv (d2 Je (d2 jq (d2 jb (dV 1) (dK (.int 169))) (dK (.int 5))) (dK (.int 1)))) (Jk 6 (y2 (dV 6) (fun ρ=>((dK (.int 1)) ρ).bind YI) (fun _=>some none))) jD)
 (j3 (jo (jv (d2 Je (d2 jq (d2 jb (dV 1) (dK (.int 169))) (dK (.int 5))) (dK (.int 2)))) (JR 6 (dK (.int 1))) jD)
 (j3 (jo (yZ (jv (d2 Je (d2 jq (d2 jb (dV 1) (dK (.int 170))) (dK (.int 3))) (dK (.int 1)))) (jv (d2 Jr (dV 6) (dL (jY []))))) (Z0 6 (d2 jq (d2 jb (dV 1) (dK (.int 171))) (j9 jO [(false,(dV 6))])) (d2 jb (dL (jY [(true,(dK (.int 0))),(true,(dK (.int 10))),(true,(Ze (dK (.int 1)))),(true,(d2 Uk (dK (.int 10)) (dK (.int 20))))])) (d2 jq (d2 jb (dV 1) (dK (.int 172))) (dK (.int 4))))) jD)
 (j3 (jr 8 (dL (jW (Z4 C) [(false,(dV 2)),(false,(dV 5)),(false,(dV 6))])))
 (ju (y0 (d2 Je (j9 (Ja C) [(false,(dK (.int 0))),(false,(dV 3)),(false,(dV 5)),(false,(dV 6))]) (dV 8)) (d2 Je (j9 (Ja C) [(false,(dK (.int 1))),(false,(dV 3)),(false,(dV 5)),(false,(dV 6))]) (dV 8)))))))))))))))))
def kx(C:Addr):List D->Option D:=Js [false] 8 (kv C)
end M
namespace M
open PySem L2 DS
theorem KC(C:Addr)(t:T3):zp C [t3 t]=some (.bl (fK t)):=by
 obtain⟨x,y,z⟩:=t
 unfold fK
 simp only[zp,ve,t3]
 by_cases h1:1<=x
 ·by_cases h2:x<=y
  ·by_cases h3:y<=4
   ·by_cases h4:0<=z <;> simp[h1,h2,h3,h4]
   ·simp[h1,h2,h3]
  ·simp[h1,h2]
 ·simp[h1]
theorem KG(C:Addr)(t:T3)(m:Int):zq C [t3 t,.int m]=some (.bl (fS m t)):=by
 obtain⟨x,y,z⟩:=t
 unfold fS
 simp only[zq,vf,t3]
 by_cases h1:0<=x
 ·by_cases h2:x < m
  ·by_cases h3:0<=y
   ·by_cases h4:y < m
    ·by_cases h5:1<=z <;> simp[h1,h2,h3,h4,h5]
    ·simp[h1,h2,h3,h4]
   ·simp[h1,h2,h3]
  ·simp[h1,h2]
 ·simp[h1]
theorem KH(C:Addr)(t:T3)(m s:Int):zt C [t3 t,.int m,.int s]=some (.bl (fB m s t)):=by
 obtain⟨x,y,z⟩:=t
 unfold fB
 simp only[zt,vg,t3]
 by_cases h1:0<=x
 ·by_cases h2:x < m
  ·by_cases h3:1<=y
   ·by_cases h4:y<=z <;> simp[h1,h2,h3,h4]
   ·simp[h1,h2,h3]
  ·simp[h1,h2]
 ·simp[h1]
theorem Gh(C:Addr)(s:Int)(k h b d:List D):zH C [.int s,.lst k,.lst h,.lst b,.lst d]=some (.bl (fC s k.length h.length b.length d.length)):=by
 unfold fC
 simp only[zH,zG]
 by_cases h1:1<=s
 ·by_cases h2:s<=30
  ·by_cases h3:(1:Int)<=k.length
   ·by_cases h4:(k.length:Int)<=4
    ·by_cases h5:(h.length:Int)<=20
     ·by_cases h6:(b.length:Int)<=12 <;> simp[h1,h2,h3,h4,h5,h6]
     ·simp[h1,h2,h3,h4,h5]
    ·simp[h1,h2,h3,h4]
   ·simp[h1,h2,h3]
  ·simp[h1,h2]
 ·simp[h1]
theorem Yx{α:Type}(f:α->Bool):∀l:List α,Zf (l.map fun x=>D.bl (f x))=some (l.map f)
 | []=>rfl
 | x::l=>by simp[Yx f l]
theorem Q_{α:Type}(f:α->Bool)(l m:List α):Zf (l.map (fun x=>D.bl (f x))++m.map fun x=>D.bl (f x))=some (l.map f++m.map f):=by rw[<-List.map_append,Yx,List.map_append]
theorem Vl{α:Type}(f:α->Bool)(l:List α):((l.map f).all id)=l.all f:=by
 induction l with
 | nil=>rfl
 | cons t ts ih=>simp only[List.map_cons,List.all_cons,ih,id]
theorem KI(C:Addr)(s:Int)(k h b d:List T3)(hk:k.length<=100)(hh:h.length<=100)(hb:b.length<=100)(hd:d.length<=100):vi C [.int s,.lst (k.map t3),.lst (h.map t3),.lst (b.map t3),.lst (d.map t3)]=some (.bl (fR s k h b d)):=by
 have sz:∀n,n<=200->n<=sizeLine:=fun n hn=>wQa (jw (by omega))
 have c1:∀ρ:j8,J8 (gN 0) jH (j9 (zp C) [(true,dC 0)]) (k.map t3) (.un::ρ)=some (k.map fun t=>D.bl (fK t)):=fun ρ=>Jf t3 _ fun t _=>⟨_,rfl,rfl,by simp[KC]⟩
 have c2:∀ρ:j8,J8 (gN 0) jH (j9 (zq C) [(true,dC 0),(false,dV 1)]) (h.map t3) (.un::.cl (.int k.length)::ρ)=some (h.map fun t=>D.bl (fS k.length t)):=fun ρ=>Jf t3 _ fun t _=>⟨_,rfl,rfl,by simp[KG]⟩
 have c3:∀ρ:j8,J8 (gN 0) jH (j9 (zt C) [(true,dC 0),(false,dV 1),(false,dV 2)]) ((b++d).map t3) (.un::.cl (.int k.length)::.bo (.int s)::ρ)=some ((b++d).map fun t=>D.bl (fB k.length s t)):=fun ρ=>Jf t3 _ fun t _=>⟨_,rfl,rfl,by simp[KH]⟩
 rw[List.map_append]at c3
 unfold fR
 have e3:b.length+d.length<=sizeLine:=sz _ (by omega)
 simp only[vi,vh]
 by_cases h1:k.all fK=true
 ·by_cases h2:h.all (fS k.length)=true
  ·simp[c1,c2,c3,Yx,Q_,Vl,List.all_append,sz _ (Nat.le_trans hk (by decide:100<=200)),sz _ (Nat.le_trans hh (by decide:100<=200)),e3,h1,h2]
  ·simp[c1,c2,Yx,Vl,sz _ (Nat.le_trans hk (by decide:100<=200)),sz _ (Nat.le_trans hh (by decide:100<=200)),h1,h2]
 ·simp[c1,Yx,Vl,sz _ (Nat.le_trans hk (by decide:100<=200)),h1]
end M
namespace M
open PySem L2 DS
structure OkB (b:Bk):Prop where
 s1:1<=b.size
 s2:b.size<=30
 k1:1<=b.kinds.length
 k2:b.kinds.length<=4
 h2:b.shuns.length<=20
 b2:b.bars.length<=12
 d2:b.dues.length<=3
 ks:∀t∈b.kinds,fK t=true
 hs:∀t∈b.shuns,fS b.kinds.length t=true
 bs:∀t∈b.bars,fB b.kinds.length b.size t=true
 ds:∀t∈b.dues,fB b.kinds.length b.size t=true
theorem Gi{b:Bk}:Kz b=true↔OkB b:=by
 unfold Kz fC fR
 simp only[Bool.and_eq_true,decide_eq_true_eq,List.all_eq_true,List.mem_append]
 constructor
 ·rintro⟨⟨a1,a2,a3,a4,a5,a6,a7⟩,b1,b2,b3⟩
  exact⟨a1,a2,by omega,by omega,by omega,by omega,by omega,b1,b2,fun t h=>b3 t (.inl h),fun t h=>b3 t (.inr h)⟩
 ·intro h
  exact⟨⟨h.s1,h.s2,by have:=h.k1; omega,by have:=h.k2; omega,by have:=h.h2; omega,by have:=h.b2; omega,by have:=h.d2; omega⟩,h.ks,h.hs,fun t ht=>ht.elim (h.bs t) (h.ds t)⟩
theorem Br(C p:Addr)(b:Bk)(h:OkB b):yb C p [.int b.size,.lst (b.kinds.map t3),.lst (b.shuns.map t3),.lst (b.bars.map t3),.lst (b.dues.map t3)]=some (uh C b):=by
 have hb:=Gi.mpr h
 unfold Kz at hb
 rw[Bool.and_eq_true]at hb
 have e1:=Gh C b.size (b.kinds.map t3) (b.shuns.map t3) (b.bars.map t3) (b.dues.map t3)
 simp only[List.length_map]at e1
 rw[hb.1]at e1
 have e2:=KI C b.size b.kinds b.shuns b.bars b.dues (by have:=h.k2; omega) (by have:=h.h2; omega) (by have:=h.b2; omega) (by have:=h.d2; omega)
 rw[hb.2]at e2
 have n1:("size" : Str)≠ "kind_rows" := by decide
 have n2:("size" : Str)≠ "shun_rows" := by decide
 have n3:("size" : Str)≠ "bar_rows" := by decide
 have n4:("size" : Str)≠ "due_rows" := by decide
 have n5:("kind_rows" : Str)≠ "shun_rows" := by decide
 have n6:("kind_rows" : Str)≠ "bar_rows" := by decide
 have n7:("kind_rows" : Str)≠ "due_rows" := by decide
 have n8:("shun_rows" : Str)≠ "bar_rows" := by decide
 have n9:("shun_rows" : Str)≠ "due_rows" := by decide
 have n0:("bar_rows" : Str)≠ "due_rows" := by decide
 simp only[yb,yu,uh]
 simp[e1,e2,n1,n2,n3,n4,n5,n6,n7,n8,n9,n0]
theorem uV(C p:Addr)(ds:List D)(o:OD)(h:JG C ds=some o):yb C p ds=some o:=by
 obtain⟨b,ok,rfl,rfl⟩:=eg h
 exact Br C p b (Gi.mp ok)
theorem Bs(C:Addr)(b:Bk)(h:OkB b):JG C [.int b.size,.lst (b.kinds.map t3),.lst (b.shuns.map t3),.lst (b.bars.map t3),.lst (b.dues.map t3)]=some (uh C b):=by
 unfold JG Gg
 simp[gI,gL,KA,Gi.mpr h]
theorem Bt(C:Addr)(b:Bk)(h:OkB b):zu C [YX b]=some (uh C b):=by
 have e:=Bs C b h
 simp only[zu,vj]
 simp[e]
theorem XM(C:Addr)(b:Bk):(uh C b).toD=jg C b:=rfl
theorem Bu(C:Addr)(b:Bk):yd C [jg C b]=some (.int b.kinds.length):=by
 have n1:(("kind_rows" : Str) == "size")=false:=by decide
 simp only[yd,Zo,jg]
 simp[jA,List.lookup,n1]
@[simp] theorem GO(C:Addr)(b:Bk):ZT C "many" (yd C) (jg C b)=some (.int b.kinds.length):=by
 have e:=Bu C b
 unfold ZT jg at *
 have n:("many" : Str)∉(["size", "kind_rows", "shun_rows", "bar_rows", "due_rows"]:List Str):=by decide
 simp only[n,not_false_eq_true,and_self,if_true]
 exact e
@[simp] theorem XO(C:Addr)(b:Bk):jA C "size" (jg C b)=some (.int b.size):=by unfold jA jg; simp[List.lookup]
@[simp] theorem xa(C:Addr)(b:Bk):jA C "kind_rows" (jg C b)=some (.tup (b.kinds.map t3)):=by
 have n1:(("kind_rows" : Str) == "size")=false:=by decide
 unfold jA jg; simp[List.lookup,n1]
@[simp] theorem xb(C:Addr)(b:Bk):jA C "shun_rows" (jg C b)=some (.tup (b.shuns.map t3)):=by
 have n1:(("shun_rows" : Str) == "size")=false:=by decide
 have n2:(("shun_rows" : Str) == "kind_rows")=false:=by decide
 unfold jA jg; simp[List.lookup,n1,n2]
@[simp] theorem XQ(C:Addr)(b:Bk):jA C "bar_rows" (jg C b)=some (.tup (b.bars.map t3)):=by
 have n1:(("bar_rows" : Str) == "size")=false:=by decide
 have n2:(("bar_rows" : Str) == "kind_rows")=false:=by decide
 have n3:(("bar_rows" : Str) == "shun_rows")=false:=by decide
 unfold jA jg; simp[List.lookup,n1,n2,n3]
@[simp] theorem Uy(C:Addr)(b:Bk):jA C "due_rows" (jg C b)=some (.tup (b.dues.map t3)):=by
 have n1:(("due_rows" : Str) == "size")=false:=by decide
 have n2:(("due_rows" : Str) == "kind_rows")=false:=by decide
 have n3:(("due_rows" : Str) == "shun_rows")=false:=by decide
 have n4:(("due_rows" : Str) == "bar_rows")=false:=by decide
 unfold jA jg; simp[List.lookup,n1,n2,n3,n4]
theorem qE(C:Addr)(b:Bk)(n:Int):ZX C [jg C b,.int n]=some (.bl (decide (0<=n)&&decide (n < (b.kinds.length:Int)))):=by
 have e:=GO C b
 simp only[ZX,ui]
 by_cases h:0<=n <;> simp[e,h]
theorem vT(C:Addr)(b:Bk)(row:List Int)(hl:row.length<=1000):Jm C [jg C b,.lst (row.map .int)]=some (.bl (row.all fun n=>decide (0<=n)&&decide (n < (b.kinds.length:Int)))):=by
 have c1:∀ρ:j8,J8 (gN 0) jH (j9 (ZX C) [(false,dV 1),(false,dV 0)]) (row.map D.int) (.un::.bo (jg C b)::ρ)=some (row.map fun n=>D.bl (decide (0<=n)&&decide (n < (b.kinds.length:Int)))):=fun ρ=>Jf D.int _ fun t _=>⟨_,rfl,rfl,by simp[qE]⟩
 have sz:row.length<=sizeLine:=wQa (jw (by omega))
 have e:=Yx (fun n:Int=>decide (0<=n)&&decide (n < (b.kinds.length:Int))) row
 simp only[Jm,Y8]
 simp only[Js,Zj,CV,Cu,yl,Hi,fL,wZ,HG,YM]
 simp[c1,sz,e,Vl]
def AL(b:Bk)(row:List Int):Prop:=(∀n∈row,0<=n/\n < (b.kinds.length:Int))/\(row.length:Int)<=b.size
theorem uq(C:Addr)(b:Bk)(row:List Int)(ok:OkB b)(h:AL b row):zx C [jg C b,.lst (row.map .int)]=some .non:=by
 have h2:=ok.s2
 have hl:=h.2
 have e:=vT C b row (by omega)
 have e2:(row.all fun n=>decide (0<=n)&&decide (n < (b.kinds.length:Int)))=true:=by
  rw[List.all_eq_true]
  intro n hn
  have:=h.1 n hn
  simp[this.1,this.2]
 rw[e2]at e
 have e3:=XO C b
 have e4:¬(b.size < (row.length:Int)):=by omega
 simp only[zx,vm]
 simp[e,e3,e4]
noncomputable def jj(b:Bk):Sd:=⟨0,-1,0,-1,List.replicate b.kinds.length 0,List.replicate b.dues.length false⟩
theorem Uz(C:Addr)(b:Bk)(ok:OkB b):yA C [jg C b]=some (j5 (jj b)):=by
 have e:=GO C b
 have e3:=Uy C b
 have h1:=ok.k2
 have h2:=ok.d2
 have c1:(b.kinds.length:Int)<=1000:=by omega
 have c2:(b.dues.length:Int)<=1000:=by omega
 simp only[yA,zI]
 simp[e,e3,c1,c2,j5,jj]
end M
namespace M
open PySem L2 DS
noncomputable def mx(i j:Int):Int:=if j > i then j else i
noncomputable def vq(s:Sd)(k:Int):Int:=if s.kind=k then s.len+1 else 1
def yC(b:Bk)(s:Sd)(k:Int):List Int:=(if s.kind=-1 then s.waits.map (fun x=>mx (x - 1) 0)else(s.waits.map (fun x=>mx (x - 1) 0)).set s.kind.toNat (mx ((Vy b.kinds s.kind).2.2 - 1) 0)).set k.toNat 0
noncomputable def Vm(k pl:Int)(t:T3):Bool:=decide (t.1=k)&&(decide (t.2.1<=pl)&&decide (pl<=t.2.2))
def Yb(b:Bk)(s:Sd)(k:Int):List Bool:=List.zipWith (fun t m=>m||Vm k (s.place+1) t) b.dues s.met
def jC(b:Bk)(s:Sd)(k:Int):Sd:=⟨s.place+1,k,vq s k,s.kind,yC b s k,Yb b s k⟩
def zf(b:Bk)(s:Sd)(k:Int):Bool:=b.bars.any (Vm k (s.place+1))
def Z_(b:Bk)(s:Sd)(k:Int):Bool:=decide (s.kind=k)&&decide (s.len>=(Vy b.kinds k).2.1)
def vU(b:Bk)(s:Sd)(k:Int):Bool:=!(decide (s.kind=k)||decide (s.kind=-1))&&decide (s.len < (Vy b.kinds s.kind).1)
noncomputable def vV(s:Sd)(k:Int):Bool:=!decide (s.kind=k)&&!decide (s.waits.getD k.toNat 0=0)
noncomputable def gi(s:Sd)(k:Int)(t:T3):Bool:=decide (t.2.1=k)&&decide ((if t.2.2=1 then s.kind else s.before)=t.1)
def uT(b:Bk)(s:Sd)(k:Int):Bool:=b.shuns.any (gi s k)
def UA(b:Bk)(s:Sd)(k:Int):Bool:=(List.zip b.dues (Yb b s k)).any fun p=>decide (p.1.2.2=s.place+1)&&!p.2
def UB(b:Bk)(s:Sd)(k:Int):Bool:=decide (s.place+1=b.size)&&decide (vq s k < (Vy b.kinds k).1)
def jV(b:Bk)(s:Sd)(k:Int):Option Str:=
 if zf b s k=true then some "barred" else if Z_ b s k=true then some "long" else if vU b s k=true then some "short" else if vV s k=true then some "early" else if uT b s k=true then some "shun" else if UA b s k=true then some "due" else if UB b s k=true then some "cut" else none
noncomputable def oS:Option Str->D
 | none=>.non
 | some x=>.str x
structure Fit (b:Bk) (s:Sd):Prop where
 c0:-1<=s.kind
 c1:s.kind < (b.kinds.length:Int)
 w:s.waits.length=b.kinds.length
 m:s.met.length=b.dues.length
def JZ(b:Bk)(k:Int):Prop:=0<=k/\k < (b.kinds.length:Int)
theorem U4(C:Addr)(s:Sd)(k:Int):Z6 C [j5 s,.int k]=some (.int (vq s k)):=by
 unfold vq
 simp only[Z6,Vj]
 by_cases e:s.kind=k <;> simp[e]
theorem Gj{α:Type}(em:α->D)(p:D->Bool)(q:α->Bool)(h:∀x,p (em x)=q x)(l:List α):(l.map em).any p=l.any q:=by
 induction l with
 | nil=>rfl
 | cons x l ih=>rw[List.map_cons,List.any_cons,List.any_cons,h,ih]
def AM(q:T3->Bool)(d:D):Bool:=match AJ d with
 | some t=>q t
 | none=>false
theorem ur(q:T3->Bool)(t:T3):AM q (t3 t)=q t:=rfl
theorem xc(C:Addr)(b:Bk)(s:Sd)(k:Int):vo C [jg C b,j5 s,.int k]=some (.bl (zf b s k)):=by
 have L:=Ut (g:=VC) (s:=zJ C) (items:=b.bars.map t3) (fun ρ=>∃x y z,ρ=[.bo (jg C b),.bo (j5 s),.bo (.int k),.cl (.int (s.place+1)),x,y,z]) (AM (Vm k (s.place+1))) (.rt (.bl true)) (.inl ⟨_,rfl⟩) ?_ ⟨.un,.un,.un,rfl⟩
 ·rw[Gj t3 _ (Vm k (s.place+1)) (ur _)]at L
  unfold zf
  have e:=XQ C b
  simp only[vo,vn]
  rcases L with⟨L1,L2⟩ | ⟨L1,ρ',_,L2⟩
  ·rw[L1]; simp[L2]
  ·rw[L1]; simp[L2]
 ·rintro d hd ρ ⟨x,y,z,rfl⟩
  obtain⟨t,_,rfl⟩:=List.mem_map.mp hd
  obtain⟨u,v,w⟩:=t
  refine⟨_,rfl,?_⟩
  rw[ur]
  unfold Vm
  simp only[zJ]
  by_cases h1:u=k
  ·by_cases h2:v<=s.place+1
   ·by_cases h3:s.place+1<=w <;> simp[h1,h2,h3]
   ·simp[h1,h2]
  ·simp[h1]
theorem Bv(C:Addr)(b:Bk)(s:Sd)(k:Int)(h:JZ b k):uk C [jg C b,j5 s,.int k]=some (.bl (Z_ b s k)):=by
 unfold Z_
 simp only[uk,uj]
 by_cases h1:s.kind=k <;> simp[h1,uS h.1 h.2]
theorem XR(C:Addr)(b:Bk)(s:Sd)(k:Int)(X:Fit b s):Vf C [jg C b,j5 s,.int k]=some (.bl (vU b s k)):=by
 unfold vU
 simp only[Vf,Ve]
 by_cases h1:s.kind=k
 ·simp[h1]
 ·by_cases h2:s.kind=-1
  ·rw[h2]at h1; simp[h1,h2]
  ·simp[h1,h2,uS (ks:=b.kinds) (k:=s.kind) (by have:=X.c0; omega) X.c1]
theorem XS(C:Addr)(s:Sd)(k:Int)(h0:0<=k)(h1:k < (s.waits.length:Int)):Vh C [j5 s,.int k]=some (.bl (vV s k)):=by
 unfold vV
 have e2:=JC (f:=D.int) (xs:=s.waits) (d:=0) h0 h1
 simp only[Vh,Vg]
 by_cases h1:s.kind=k <;> simp[h1,e2]
theorem Bw(C:Addr)(b:Bk)(s:Sd)(k:Int):Zr C [jg C b,j5 s,.int k]=some (.bl (uT b s k)):=by
 have L:=Ut (g:=vQ) (s:=zb C) (items:=b.shuns.map t3) (fun ρ=>∃x y z u,ρ=[.bo (jg C b),.bo (j5 s),.bo (.int k),x,y,z,u]) (AM (gi s k)) (.rt (.bl true)) (.inl ⟨_,rfl⟩) ?_ ⟨.un,.un,.un,.un,rfl⟩
 ·rw[Gj t3 _ (gi s k) (ur _)]at L
  unfold uT
  have e:=xb C b
  simp only[Zr,Zq]
  rcases L with⟨L1,L2⟩ | ⟨L1,ρ',_,L2⟩
  ·rw[L1]; simp[L2]
  ·rw[L1]; simp[L2]
 ·rintro d hd ρ ⟨x,y,z,u0,rfl⟩
  obtain⟨t,_,rfl⟩:=List.mem_map.mp hd
  obtain⟨u,v,w⟩:=t
  refine⟨_,rfl,?_⟩
  rw[ur]
  unfold gi
  simp only[zb]
  by_cases h1:w=1
  ·by_cases h2:v=k
   ·by_cases h3:s.kind=u <;> simp[h1,h2,h3]
   ·simp[h1,h2]
  ·by_cases h2:v=k
   ·by_cases h3:s.before=u <;> simp[h1,h2,h3]
   ·simp[h1,h2]
theorem KJ{b:Bk}{s:Sd}{k:Int}(X:Fit b s):(Yb b s k).length=b.dues.length:=by
 unfold Yb
 rw[List.length_zipWith,X.m]
 omega
theorem Bx{b:Bk}{s:Sd}{i:Nat}{d:D}(h:(List.zipWith (fun p q=>D.tup [p,q]) (b.dues.map t3) (s.met.map D.bl))[i]?=some d):∃t m,b.dues[i]?=some t/\s.met[i]?=some m/\d=.tup [t3 t,.bl m]:=by
 rw[List.getElem?_zipWith,List.getElem?_map,List.getElem?_map]at h
 cases h1:b.dues[i]? with
 | none=>rw[h1]at h; cases h
 | some t=>
  cases h2:s.met[i]? with
  | none=>rw[h1,h2]at h; cases h
  | some m=>rw[h1,h2]at h; cases h; exact⟨t,m,rfl,rfl,rfl⟩
theorem xf{α:Type}{xs:List α}{i:Nat}{t:α}(h:xs[i]?=some t):xs.take (i+1)=xs.take i++[t]:=by
 rw[List.take_add_one,h]
 rfl
theorem xg(C:Addr)(b:Bk)(s:Sd)(k:Int)(ok:OkB b)(X:Fit b s):Z5 C [jg C b,j5 s,.int k]=some (.tup ((Yb b s k).map .bl)):=by
 have hl:=KJ (k:=k) X
 have hd2:=ok.d2
 have L:=yV (g:=ul) (s:=Zs C) (items:=List.zipWith (fun p q=>D.tup [p,q]) (b.dues.map t3) (s.met.map D.bl)) (fun i ρ=>∃x y z u v,ρ=[.bo (jg C b),.bo (j5 s),.bo (.int k),.cl (.int (s.place+1)),.ow none (.lst (((Yb b s k).take i).map .bl)),x,y,z,u,v]) ?_ ⟨.un,.un,.un,.un,.un,rfl⟩
 ·obtain⟨ρ',L1,x,y,z,u,v,rfl⟩:=L
  have e:=Uy C b
  have hx:(List.zipWith (fun p q=>D.tup [p,q]) (b.dues.map t3) (s.met.map D.bl)).length=(Yb b s k).length:=by
   rw[List.length_zipWith,List.length_map,List.length_map,X.m,hl]; omega
  rw[hx,List.take_length,List.take_zero,List.map_nil]at L1
  simp only[Z5,Vi]
  simp[-List.zipWith_map,L1]
 ·rintro i d ρ hi ⟨x,y,z,u,v,rfl⟩
  obtain⟨t,m,h1,h2,rfl⟩:=Bx hi
  have hg:(Yb b s k)[i]?=some (m||Vm k (s.place+1) t):=by
   unfold Yb
   rw[List.getElem?_zipWith,h1,h2]
  have hlt:i < b.dues.length:=(List.getElem?_eq_some_iff.mp h1).1
  have hz:((Yb b s k).take i).length < sizeLine:=jw (by rw[List.length_take]; omega)
  have hz':min i (Yb b s k).length < sizeLine:=jw (by omega)
  obtain⟨p,q,r⟩:=t
  rw[xf hg]
  unfold Vm
  refine⟨_,_,rfl,?_,.cl (t3 (p,q,r)),.cl (.bl m),.cl (.int p),.cl (.int q),.cl (.int r),rfl⟩
  simp only[Zs]
  cases m with
  | true=>simp[t3,hz']
  | false=>
   by_cases e1:p=k
   ·by_cases e2:q<=s.place+1 <;> simp[t3,hz',e1,e2]
   ·simp[t3,hz',e1]
theorem eh(C:Addr)(b:Bk)(s:Sd)(k:Int)(ok:OkB b)(X:Fit b s):Zu C [jg C b,j5 s,.int k]=some (.bl (UA b s k)):=by
 have e1:=xg C b s k ok X
 have L:=Ut (g:=vR) (s:=zc C) (items:=(List.zip b.dues (Yb b s k)).map fun p=>D.tup [t3 p.1,.bl p.2]) (fun ρ=>∃x y,ρ=[.bo (jg C b),.bo (j5 s),.bo (.int k),.cl (.int (s.place+1)),x,y]) (fun d=>match d with | .tup [t,.bl m]=>AM (fun t=>decide (t.2.2=s.place+1)&&!m) t | _=>false) (.rt (.bl true)) (.inl ⟨_,rfl⟩) ?_ ⟨.un,.un,rfl⟩
 ·rw[Gj (fun p:T3×Bool=>D.tup [t3 p.1,.bl p.2]) _ (fun p=>decide (p.1.2.2=s.place+1)&&!p.2) (fun p=>rfl)]at L
  have ez:(List.zip b.dues (Yb b s k)).map (fun p=>D.tup [t3 p.1,.bl p.2])=List.zipWith (fun p q=>D.tup [p,q]) (b.dues.map t3) ((Yb b s k).map D.bl):=by
   rw[List.zipWith_map,List.zip,List.map_zipWith]
  rw[ez]at L
  unfold UA
  have e:=Uy C b
  simp only[Zu,Zt]
  rcases L with⟨L1,L2⟩ | ⟨L1,ρ',_,L2⟩
  ·rw[L1]; simp[-List.zipWith_map,L2,e1]
  ·rw[L1]; simp[-List.zipWith_map,L2,e1]
 ·rintro d hd ρ ⟨x,y,rfl⟩
  obtain⟨⟨t,m⟩,_,rfl⟩:=List.mem_map.mp hd
  obtain⟨u,v,w⟩:=t
  refine⟨_,rfl,?_⟩
  simp only[zc,ur]
  by_cases h1:w=s.place+1
  ·cases m <;> simp[h1]
  ·simp[h1]
theorem eo(C:Addr)(b:Bk)(s:Sd)(k:Int)(h:JZ b k):Uv C [jg C b,j5 s,.int k]=some (.bl (UB b s k)):=by
 unfold UB
 simp only[Uv,Uu]
 by_cases h1:s.place+1=b.size <;> simp[h1,U4,uS h.1 h.2]
theorem xh(C:Addr)(b:Bk)(s:Sd)(k:Int)(ok:OkB b)(X:Fit b s)(h:JZ b k):Ux C [jg C b,j5 s,.int k]=some (oS (jV b s k)):=by
 have e1:=xc C b s k
 have e2:=Bv C b s k h
 have e3:=XR C b s k X
 have e4:=XS C s k h.1 (by rw[X.w]; exact h.2)
 have e5:=Bw C b s k
 have e6:=eh C b s k ok X
 have e7:=eo C b s k h
 simp only[Ux,Uw]
 unfold jV
 cases h1:zf b s k
 ·cases h2:Z_ b s k
  ·cases h3:vU b s k
   ·cases h4:vV s k
    ·cases h5:uT b s k
     ·cases h6:UA b s k
      ·cases h7:UB b s k <;> rw[h1]at e1 <;> rw[h2]at e2 <;> rw[h3]at e3 <;> rw[h4]at e4 <;> rw[h5]at e5 <;> rw[h6]at e6 <;> rw[h7]at e7 <;> simp[e1,e2,e3,e4,e5,e6,e7,oS]
      ·rw[h1]at e1; rw[h2]at e2; rw[h3]at e3; rw[h4]at e4; rw[h5]at e5; rw[h6]at e6; simp[e1,e2,e3,e4,e5,e6,oS]
     ·rw[h1]at e1; rw[h2]at e2; rw[h3]at e3; rw[h4]at e4; rw[h5]at e5; simp[e1,e2,e3,e4,e5,oS]
    ·rw[h1]at e1; rw[h2]at e2; rw[h3]at e3; rw[h4]at e4; simp[e1,e2,e3,e4,oS]
   ·rw[h1]at e1; rw[h2]at e2; rw[h3]at e3; simp[e1,e2,e3,oS]
  ·rw[h1]at e1; rw[h2]at e2; simp[e1,e2,oS]
 ·rw[h1]at e1; simp[e1,oS]
theorem XT(C:Addr)(b:Bk)(s:Sd)(k:Int)(ok:OkB b)(X:Fit b s)(h:JZ b k):Zw C [jg C b,j5 s,.int k]=some (.tup ((yC b s k).map .int)):=by
 have e:=xa C b
 have c1:J8 (gN 0) jH (j9 gU [(false,d2 V2 (dV 0) (dK (D.int 1))),(false,dK (D.int 0))]) (s.waits.map D.int) [.un]=some (s.waits.map fun x=>D.int (mx (x - 1) 0)):=Jf D.int _ fun t _=>⟨_,rfl,rfl,by simp[mx]⟩
 have hk2:=ok.k2
 have hw:=X.w
 have sz:s.waits.length<=sizeLine:=wQa (jw (by omega))
 have i1:∀n:Nat,n=s.waits.length->vF n k=some k.toNat:=fun n hn=>gh h.1 (by have:=h.2; omega)
 simp only[Zw,Zv,yC]
 by_cases h1:s.kind=-1
 ·simp[c1,sz,h1,i1,List.map_set]
  rfl
 ·have i2:vF s.waits.length s.kind=some s.kind.toNat:=gh (by have:=X.c0; omega) (by have:=X.c1; omega)
  simp[c1,sz,h1,i1,i2,List.map_set,uS (ks:=b.kinds) (k:=s.kind) (by have:=X.c0; omega) X.c1]
  rfl
theorem XU(C:Addr)(b:Bk)(s:Sd)(k:Int)(ok:OkB b)(X:Fit b s)(h:JZ b k):Zy C [jg C b,j5 s,.int k]=some (j5 (jC b s k)):=by
 simp only[Zy,Zx]
 simp[U4,XT C b s k ok X h,xg C b s k ok X]
 rfl
theorem qF(b:Bk)(s:Sd)(k:Int):(yC b s k).length=s.waits.length:=by
 unfold yC
 split <;> simp
theorem Fit.next{b:Bk}{s:Sd}(X:Fit b s){k:Int}(h:JZ b k):Fit b (jC b s k):=⟨by have:=h.1; show -1<=k; omega,h.2,by show(yC b s k).length=_; rw[qF,X.w],KJ X⟩
theorem Fit.empty(b:Bk):Fit b (jj b):=⟨by show -1<=(-1:Int); decide,by show(-1:Int) < _; omega,by simp[jj],by simp[jj]⟩
def J0(b:Bk):Sd->List Int->Sd×Option Str
 | s,[]=>(s,none)
 | s,k::r=>match jV b s k with
  | some w=>(s,some w)
  | none=>J0 b (jC b s k) r
end M
namespace M
open PySem L2 DS
theorem J1{a b:Int}(h:0 < b):0<=a % b/\a % b < b:=⟨Int.emod_nonneg _ (by omega),Int.emod_lt_of_pos _ h⟩
theorem Yy{α β:Type}(f:α->β)(xs:List α)(lo hi:Option Int):jP (xs.map f) lo hi=(jP xs lo hi).map f:=by
 unfold jP
 rw[List.length_map,List.map_take,List.map_drop]
theorem ZE{α:Type}(xs:List α)(lo hi:Option Int):(jP xs lo hi).length<=xs.length:=by
 unfold jP
 rw[List.length_take,List.length_drop]
 omega
theorem et{α:Type}(xs:List α)(n:Nat):jP xs (some (n:Int)) none=xs.drop n:=by
 unfold jP
 have e:HT.sIx xs.length xs.length none=xs.length:=rfl
 rw[HT.sIx_nat,e]
 by_cases h:n<=xs.length
 ·rw[Nat.min_eq_left h,List.take_of_length_le (by rw[List.length_drop]; omega)]
 ·rw[Nat.min_eq_right (by omega),List.drop_of_length_le (by omega),List.drop_of_length_le (by omega)]; simp
theorem eA{α:Type}(xs:List α)(n:Nat):jP xs none (some (n:Int))=xs.take n:=by
 unfold jP
 have e:HT.sIx xs.length 0 none=0:=rfl
 rw[HT.sIx_nat,e,List.drop_zero,Nat.sub_zero]
 by_cases h:n<=xs.length
 ·rw[Nat.min_eq_left h]
 ·rw[Nat.min_eq_right (by omega),List.take_of_length_le (by omega),List.take_of_length_le (by omega)]
theorem XV{α:Type}(xs:List α)(n m:Nat)(h1:n<=xs.length)(h2:m<=xs.length):jP xs (some (n:Int)) (some (m:Int))=(xs.drop n).take (m - n):=by
 unfold jP
 rw[HT.sIx_nat,HT.sIx_nat,Nat.min_eq_left h1,Nat.min_eq_left h2]
theorem Z7{i j:Int}(h1:-(2 ^ 64) < i)(h2:i < 2 ^ 64):VZ i j=true:=by
 have e:(2:Int) ^ 64=18446744073709551616:=by decide
 rw[e]at h1 h2
 unfold VZ
 rw[Bool.or_eq_true,Nat.blt_eq]
 exact .inl (by omega)
theorem qG(C:Addr)(ns:List Int)(m:Int)(h63:ns.length<=63)(m0:0<=m)(m1:m<=1000):∃ms:List Int,Y0 C [.scr ns,.int m]=some (.lst (ms.map .int))/\(ms.length:Int)=m:=by
 have uO:∀(v x seed:Int) (ms:List Int) (x6:Sl) (c:Nat),ms.length<=c->c<=5000->∃(ms':List Int) (v':Int) (x6':Sl),Jj Ys (JE C) (jT 0 60) [.bo (.scr ns),.bo (.int m),.ow none (.lst (ms.map .int)),.cl (.int seed),.cl (.int x),.cl (.int v),x6]=some (.nx [.bo (.scr ns),.bo (.int m),.ow none (.lst (ms'.map .int)),.cl (.int seed),.cl (.int x),.cl (.int v'),x6'])/\ms'.length<=c+60:=by
  intro v x seed ms x6 c hc hc2
  have L:=yV (g:=Ys) (s:=JE C) (items:=jT 0 60) (fun i ρ=>∃(ms':List Int) (v':Int) (x6':Sl),ρ=[.bo (.scr ns),.bo (.int m),.ow none (.lst (ms'.map .int)),.cl (.int seed),.cl (.int x),.cl (.int v'),x6']/\ms'.length<=c+i) ?_ ⟨ms,v,x6,rfl,hc⟩
  ·obtain⟨ρ',L1,ms',v',x6',rfl,hl⟩:=L
   exact⟨ms',v',x6',L1,hl⟩
  ·rintro i d ρ hi ⟨ms',v',x6',rfl,hl⟩
   have hi60:i < 60:=by have:=(List.getElem?_eq_some_iff.mp hi).1; simpa[jT]using this
   have hz:ms'.length < sizeLine:=jw (by omega)
   by_cases h0:0 < v'
   ·refine⟨_,[.bo (.scr ns),.bo (.int m),.ow none (.lst ((ms'++[v' % 1009]).map .int)),.cl (.int seed),.cl (.int x),.cl (.int (v' / 1009)),.cl d],rfl,?_,ms'++[v' % 1009],v' / 1009,.cl d,rfl,by simp; omega⟩
    simp[JE,h0,hz]
   ·refine⟨_,[.bo (.scr ns),.bo (.int m),.ow none (.lst (ms'.map .int)),.cl (.int seed),.cl (.int x),.cl (.int v'),.cl d],rfl,?_,ms',v',.cl d,rfl,by omega⟩
    simp[JE,h0]
 have L:=yV (g:=yq) (s:=yt C) (items:=(jP ns none (some 63)).map D.int) (fun i ρ=>∃(ms:List Int) (seed:Int) (x4 x5 x6:Sl),ρ=[.bo (.scr ns),.bo (.int m),.ow none (.lst (ms.map .int)),.cl (.int seed),x4,x5,x6]/\0<=seed/\seed < 2147483648/\ms.length<=i * 61) ?_ ⟨[],29,.un,.un,.un,rfl,by decide,by decide,by simp⟩
 ·obtain⟨ρ',L1,ms,seed,x4,x5,x6,rfl,s0,s1,hl⟩:=L
  have hc:=ZE ns none (some 63)
  rw[List.length_map]at hl
  have hl:ms.length<=4000:=by omega
  obtain⟨ρ2,W1,⟨ms2,seed2,rfl,t0,t1,hl2⟩,W2⟩:=Ky (dt:=JF C) (s:=Yt C) (fun ρ=>∃(ms:List Int) (seed:Int),ρ=[.bo (.scr ns),.bo (.int m),.ow none (.lst (ms.map .int)),.cl (.int seed),x4,x5,x6]/\0<=seed/\seed < 2147483648/\ms.length<=4000) (fun ρ=>match ρ with | [_,_,.ow _ (.lst l),_,_,_,_]=>6000 - l.length | _=>0) (fun ρ=>by
    rintro⟨ms,seed,rfl,s0,s1,hl⟩
    by_cases h:(ms.length:Int) < m
    ·right
     refine⟨by simp[JF,h],?_⟩
     have b1:=J1 (a:=seed * seed+69621 * seed+7 * (ms.length:Int)+5) (b:=2147483629) (by decide)
     have hz:ms.length < sizeLine:=jw (by omega)
     refine⟨[.bo (.scr ns),.bo (.int m),.ow none (.lst ((ms++[(seed * seed+69621 * seed+7 * (ms.length:Int)+5) % 2147483629 / 1013 % 9973]).map .int)),.cl (.int ((seed * seed+69621 * seed+7 * (ms.length:Int)+5) % 2147483629)),x4,x5,x6],?_,⟨_,_,rfl,b1.1,by omega,by simp; omega⟩,by simp; omega⟩
     simp[Yt,Z7 (i:=seed) (j:=seed) (by omega) (by omega),Z7 (i:=69621) (j:=seed) (by decide) (by decide),Z7 (i:=7) (j:=(ms.length:Int)) (by decide) (by decide),hz]
    ·left
     simp[JF,h]) (n:=20000) ⟨ms,seed,rfl,s0,s1,hl⟩ (by simp; omega)
  have hm:m<=(ms2.length:Int):=by
   simp[JF]at W2
   omega
  refine⟨ms2.take m.toNat,?_,by rw[List.length_take]; omega⟩
  simp only[Y0,Y_]
  have em:m=((m.toNat:Nat):Int):=by omega
  have ec:jP (ms2.map D.int) none (some m)=(ms2.take m.toNat).map D.int:=by
   have z:=eA ms2 m.toNat
   rw[<-em]at z
   rw[Yy,z]
  rw[List.map_nil]at L1
  have s60:j_ 60=true:=by decide
  simp[Yy,L1,W1]at ec⊢
  simp[ec]
 ·rintro i d ρ hi ⟨ms,seed,x4,x5,x6,rfl,s0,s1,hl⟩
  have hlt:i < 63:=by
   have h1:=(List.getElem?_eq_some_iff.mp hi).1
   have h2:=ZE ns none (some 63)
   rw[List.length_map]at h1
   omega
  obtain⟨x,rfl⟩:∃x,d=D.int x:=by
   rw[List.getElem?_map]at hi
   cases q:(jP ns none (some 63))[i]? with
   | none=>rw[q]at hi; cases hi
   | some z=>rw[q]at hi; exact⟨z,(vFa hi).symm⟩
  have b1:=J1 (a:=seed * 48271+x % 1000003+11) (b:=2147483647) (by decide)
  have s60:j_ 60=true:=by decide
  have hz:ms.length < sizeLine:=jw (by omega)
  by_cases h0:x - 10 ^ 18 < 0
  ·obtain⟨ms',v',x6',e,hl'⟩:=uO (x - 10 ^ 18) x ((seed * 48271+x % 1000003+11) % 2147483647) (ms++[x % 9973]) x6 (i * 61+1) (by simp; omega) (by omega)
   refine⟨_,[.bo (.scr ns),.bo (.int m),.ow none (.lst (ms'.map .int)),.cl (.int ((seed * 48271+x % 1000003+11) % 2147483647)),.cl (.int x),.cl (.int v'),x6'],rfl,?_,ms',_,_,_,_,rfl,b1.1,by omega,by omega⟩
   rw[List.map_append]at e
   simp only[yt,yq]
   simp at e h0
   simp[Z7 (i:=seed) (j:=48271) (by omega) (by omega),h0,hz,e,s60]
  ·obtain⟨ms',v',x6',e,hl'⟩:=uO (x - 10 ^ 18) x ((seed * 48271+x % 1000003+11) % 2147483647) ms x6 (i * 61+1) (by omega) (by omega)
   refine⟨_,[.bo (.scr ns),.bo (.int m),.ow none (.lst (ms'.map .int)),.cl (.int ((seed * 48271+x % 1000003+11) % 2147483647)),.cl (.int x),.cl (.int v'),x6'],rfl,?_,ms',_,_,_,_,rfl,b1.1,by omega,by omega⟩
   simp only[yt,yq]
   simp at e h0
   have h0':¬(x - 1000000000000000000 < 0):=by omega
   simp[Z7 (i:=seed) (j:=48271) (by omega) (by omega),h0',hz,e,s60]
theorem gj{ds:List Int}{k:Int}(h0:0<=k)(h1:k < (ds.length:Int)):∃v:Int,atI (ds.map D.int) k=some (.int v):=⟨_,JC (d:=0) h0 h1⟩
theorem ZF{α:Type}{p:α->Prop}{ts:List α}{t:α}(h:∀x∈ts,p x)(ht:p t):∀x∈ts++[t],p x:=fun x hx=>by
 rcases List.mem_append.mp hx with z | z
 ·exact h x z
 ·have e:x=t:=by simpa using z
  rw[e]; exact ht
theorem Gk{lo:Int}{n i:Nat}{d:D}(h:(jT lo n)[i]?=some d):i < n/\d=.int (lo+i):=by
 unfold jT at h
 rw[List.getElem?_map]at h
 cases q:(List.range n)[i]? with
 | none=>rw[q]at h; cases h
 | some j=>
  rw[q]at h
  obtain⟨h1,h2⟩:=List.getElem?_eq_some_iff.mp q
  rw[List.getElem_range]at h2
  rw[List.length_range]at h1
  exact⟨h1,by rw[<-Option.some.inj h,h2]⟩
theorem Z8(C:Addr)(m s n:Int)(ds:List Int)(m1:1<=m)(s1:1<=s)(s2:s<=1000)(n0:0<=n)(n1:n<=20)(hn:3 * n<=(ds.length:Int)):∃ts:List T3,Y1 C [.int m,.int s,.int n,.lst (ds.map .int)]=some (.lst (ts.map t3))/\(ts.length:Int)=n/\∀t∈ts,fB m s t=true:=by
 have L:=yV (g:=Zn) (s:=Yu C) (items:=jT 0 n.toNat) (fun i ρ=>∃(ts:List T3) (x y:Sl),ρ=[.bo (.int m),.bo (.int s),.bo (.int n),.bo (.lst (ds.map .int)),.ow none (.lst (ts.map t3)),x,y]/\ts.length=i/\∀t∈ts,fB m s t=true) ?_ ⟨[],.un,.un,rfl,rfl,fun _ h=>by cases h⟩
 ·obtain⟨ρ',L1,ts,x,y,rfl,hl,ht⟩:=L
  have hr:(jT 0 n.toNat).length=n.toNat:=by simp[jT]
  rw[hr]at hl
  refine⟨ts,?_,by omega,ht⟩
  simp only[Y1,za]
  rw[List.map_nil]at L1
  have e1:j_ n=true:=y_ (by omega) (by omega)
  simp[e1,L1]
 ·rintro i d ρ hi ⟨ts,x,y,rfl,hl,ht⟩
  obtain⟨hi1,rfl⟩:=Gk hi
  have c3:VZ 3 (0+(i:Int))=true:=Z7 (by decide) (by decide)
  obtain⟨v1,a1⟩:=gj (ds:=ds) (k:=3 * (0+(i:Int))+1) (by omega) (by omega)
  obtain⟨v0,a0⟩:=gj (ds:=ds) (k:=3 * (0+(i:Int))) (by omega) (by omega)
  obtain⟨v2,a2⟩:=gj (ds:=ds) (k:=3 * (0+(i:Int))+2) (by omega) (by omega)
  have f1:=J1 (a:=v1) (b:=s) (by omega)
  have f3:=J1 (a:=v2) (b:=s - (1+v1 % s)+1) (by omega)
  have f0:=J1 (a:=v0) (b:=m) (by omega)
  have hz:ts.length < sizeLine:=jw (by omega)
  have q1:0 < s:=by omega
  have q2:0 < m:=by omega
  have q3:0 < s - (1+v1 % s)+1:=by omega
  refine⟨_,[.bo (.int m),.bo (.int s),.bo (.int n),.bo (.lst (ds.map .int)),.ow none (.lst ((ts++[(v0 % m,1+v1 % s,1+v1 % s+v2 % (s - (1+v1 % s)+1))]).map t3)),.cl (.int (0+(i:Int))),.cl (.int (1+v1 % s))],rfl,?_,_,_,_,rfl,by simp[hl],ZF ht ?_⟩
  ·simp only[Yu]
   simp at a0 a1 a2 c3
   simp[c3,a0,a1,a2,q1,q2,q3,hz,t3]
  ·unfold fB
   simp only[Bool.and_eq_true,decide_eq_true_eq]
   omega
end M
namespace M
open PySem L2 DS
theorem uU{ns:List Int}{k lo hi:Int}(h0:0<=k)(h1:k < (ns.length:Int))(hb:∀v∈ns,lo<=v/\v<=hi):∃v,atI (ns.map D.int) k=some (.int v)/\lo<=v/\v<=hi:=by
 have hk:k.toNat < ns.length:=by omega
 refine⟨ns.getD k.toNat 0,JC h0 h1,?_⟩
 rw[List.getD_eq_getElem?_getD,List.getElem?_eq_getElem hk]
 exact hb _ (List.getElem_mem hk)
theorem Bz(C:Addr)(ds:List Int)(mo:Int)(hn:62<=ds.length)(hn2:ds.length<=1000)(mo1:1<=mo)(mo2:mo<=30):∃b:Bk,zo C [.lst (ds.map .int),.int mo]=some (YX b)/\OkB b/\b.size<=mo:=by
 have at0:∀k:Int,0<=k->k < 62->∃v:Int,atI (ds.map D.int) k=some (.int v):=fun k h0 h1=>gj h0 (by omega)
 obtain⟨u0,a0⟩:=at0 0 (by decide) (by decide)
 obtain⟨u1,a1⟩:=at0 1 (by decide) (by decide)
 obtain⟨u14,a14⟩:=at0 14 (by decide) (by decide)
 obtain⟨u15,a15⟩:=at0 15 (by decide) (by decide)
 obtain⟨u25,a25⟩:=at0 25 (by decide) (by decide)
 have g0:=J1 (a:=u0) (b:=7) (by decide)
 have g1:=J1 (a:=u1) (b:=mo) (by omega)
 have g14:=J1 (a:=u14) (b:=7) (by decide)
 have g15:=J1 (a:=u15) (b:=6) (by decide)
 have g25:=J1 (a:=u25) (b:=6) (by decide)
 obtain⟨m,pm,m1,m4⟩:=uU (ns:=[2,3,3,2,1,4,3]) (k:=u0 % 7) (lo:=1) (hi:=4) g0.1 g0.2 (by decide)
 obtain⟨nh,ph,nh0,nh1⟩:=uU (ns:=[0,0,1,2,3,0,20]) (k:=u14 % 7) (lo:=0) (hi:=20) g14.1 g14.2 (by decide)
 obtain⟨nb,pb,nb0,nb1⟩:=uU (ns:=[0,1,0,2,12,0]) (k:=u15 % 6) (lo:=0) (hi:=12) g15.1 g15.2 (by decide)
 obtain⟨nd,pd,nd0,nd1⟩:=uU (ns:=[0,1,0,2,3,1]) (k:=u25 % 6) (lo:=0) (hi:=3) g25.1 g25.2 (by decide)
 have K1:=yV (g:=Vz) (s:=Ym C) (items:=jT 0 m.toNat) (fun i ρ=>∃(ts:List T3) (x5 x6 x7:Sl),ρ=[.bo (.lst (ds.map .int)),.bo (.int mo),.cl (.int m),.cl (.int (1+u1 % mo)),.ow none (.lst (ts.map t3)),x5,x6,x7,.un,.un,.un,.un,.un]/\ts.length=i/\∀t∈ts,fK t=true) ?_ ⟨[],.un,.un,.un,rfl,rfl,fun _ h=>by cases h⟩
 rotate_left
 ·rintro i d ρ hi ⟨ts,x5,x6,x7,rfl,hl,ht⟩
  obtain⟨hi1,rfl⟩:=Gk hi
  obtain⟨w2,b2⟩:=at0 (2+(0+(i:Int))) (by omega) (by omega)
  obtain⟨w6,b6⟩:=at0 (6+(0+(i:Int))) (by omega) (by omega)
  obtain⟨w10,b10⟩:=at0 (10+(0+(i:Int))) (by omega) (by omega)
  have e2:=J1 (a:=w2) (b:=7) (by decide)
  have e10:=J1 (a:=w10) (b:=7) (by decide)
  obtain⟨le,pl,le0,le3⟩:=uU (ns:=[0,0,1,0,2,3,1]) (k:=w2 % 7) (lo:=0) (hi:=3) e2.1 e2.2 (by decide)
  obtain⟨re,pr,re0,re4⟩:=uU (ns:=[0,1,2,0,3,4,1]) (k:=w10 % 7) (lo:=0) (hi:=4) e10.1 e10.2 (by decide)
  have q5:0 < 5 - (1+le):=by omega
  have q5':1+le < 5:=by omega
  have e6:=J1 (a:=w6) (b:=5 - (1+le)) q5
  have e3:=J1 (a:=re) (b:=3) (by decide)
  have hz:ts.length < sizeLine:=jw (by omega)
  have fin:∀r:Int,0<=r->r<=4->fK (1+le,1+le+w6 % (5 - (1+le)),r)=true:=fun r h0 h4=>by
   unfold fK
   simp only[Bool.and_eq_true,decide_eq_true_eq]
   omega
  have cc:∃r:Int,0<=r/\r<=4/\Ym C ([.bo (.lst (ds.map .int)),.bo (.int mo),.cl (.int m),.cl (.int (1+u1 % mo)),.ow none (.lst (ts.map t3)),.cl (.int (0+(i:Int))),x6,x7,.un,.un,.un,.un,.un])=some (.nx [.bo (.lst (ds.map .int)),.bo (.int mo),.cl (.int m),.cl (.int (1+u1 % mo)),.ow none (.lst ((ts++[(1+le,1+le+w6 % (5 - (1+le)),r)]).map t3)),.cl (.int (0+(i:Int))),.cl (.int (1+le)),.cl (.int r),.un,.un,.un,.un,.un]):=by
   simp only[Ym]
   simp at b2 b6 b10 pl pr
   by_cases h1:m=4
   ·by_cases h2:6 < 1+u1 % mo
    ·exact⟨re % 3,by omega,by omega,by simp[b2,b6,b10,pl,pr,h1,h2,q5,q5',hz,t3]⟩
    ·by_cases h3:12 < 1+u1 % mo
     ·exact⟨re % 3,by omega,by omega,by simp[b2,b6,b10,pl,pr,h1,h2,h3,q5,q5',hz,t3]⟩
     ·exact⟨re,by omega,by omega,by simp[b2,b6,b10,pl,pr,h1,h2,h3,q5,q5',hz,t3]⟩
   ·by_cases h3:12 < 1+u1 % mo
    ·exact⟨re % 3,by omega,by omega,by simp[b2,b6,b10,pl,pr,h1,h3,q5,q5',hz,t3]⟩
    ·exact⟨re,by omega,by omega,by simp[b2,b6,b10,pl,pr,h1,h3,q5,q5',hz,t3]⟩
  obtain⟨r,r0,r4,er⟩:=cc
  exact⟨_,_,rfl,er,_,_,_,_,rfl,by simp[hl],ZF ht (fin r r0 r4)⟩
 obtain⟨ρk,K2,ks,x5,x6,x7,rfl,lk,hk⟩:=K1
 have hrk:(jT 0 m.toNat).length=m.toNat:=by simp[jT]
 rw[hrk]at lk
 have S1:=yV (g:=VA) (s:=zF C) (items:=jT 0 nh.toNat) (fun i ρ=>∃(ts:List T3) (x5 x9:Sl),ρ=[.bo (.lst (ds.map .int)),.bo (.int mo),.cl (.int m),.cl (.int (1+u1 % mo)),.ow none (.lst (ks.map t3)),x5,x6,x7,.ow none (.lst (ts.map t3)),x9,.un,.un,.un]/\ts.length=i/\∀t∈ts,fS m t=true) ?_ ⟨[],x5,.un,rfl,rfl,fun _ h=>by cases h⟩
 rotate_left
 ·rintro i d ρ hi ⟨ts,x5,x9,rfl,hl,ht⟩
  obtain⟨hi1,rfl⟩:=Gk hi
  have d5:=J1 (a:=0+(i:Int)) (b:=5) (by decide)
  have d6:0<=(0+(i:Int)) / 5/\(0+(i:Int)) / 5<=3:=by omega
  obtain⟨w0,b0⟩:=at0 (44+3 * ((0+(i:Int)) % 5)+(0+(i:Int)) / 5) (by omega) (by omega)
  obtain⟨w1,b1⟩:=at0 (44+3 * ((0+(i:Int)) % 5)+(0+(i:Int)) / 5+1) (by omega) (by omega)
  obtain⟨w2,b2⟩:=at0 (44+3 * ((0+(i:Int)) % 5)+(0+(i:Int)) / 5+2) (by omega) (by omega)
  have e0:=J1 (a:=w0) (b:=m) (by omega)
  have e1:=J1 (a:=w1) (b:=m) (by omega)
  have e2:=J1 (a:=w2) (b:=2) (by decide)
  have qm:0 < m:=by omega
  have hz:ts.length < sizeLine:=jw (by omega)
  have c3:VZ 3 ((0+(i:Int)) % 5)=true:=Z7 (by decide) (by decide)
  refine⟨_,[.bo (.lst (ds.map .int)),.bo (.int mo),.cl (.int m),.cl (.int (1+u1 % mo)),.ow none (.lst (ks.map t3)),.cl (.int (0+(i:Int))),x6,x7,.ow none (.lst ((ts++[(w0 % m,w1 % m,1+w2 % 2)]).map t3)),.cl (.int (44+3 * ((0+(i:Int)) % 5)+(0+(i:Int)) / 5)),.un,.un,.un],rfl,?_,_,_,_,rfl,by simp[hl],ZF ht ?_⟩
  ·simp only[zF]
   simp at b0 b1 b2 c3
   simp[c3,b0,b1,b2,qm,hz,t3]
  ·unfold fS
   simp only[Bool.and_eq_true,decide_eq_true_eq]
   omega
 obtain⟨ρh,S2,hs,x5',x9,rfl,lh,hh⟩:=S1
 have hrh:(jT 0 nh.toNat).length=nh.toNat:=by simp[jT]
 rw[hrh]at lh
 obtain⟨ws,W1,W2⟩:∃ws:List Int,J8 (gN 0) jH (d2 jB (d2 jb (dV 1) (d2 jB (dK (.int 16)) (d2 jq (d2 yo (dK (.int 5)) (dV 0)) (dK (.int 9))))) (d2 yo (dK (.int 7)) (dV 0))) (jT 0 36) [.un,.bo (.lst (ds.map .int))]=some (ws.map D.int)/\ws.length=36:=by
  have:=Jf (g:=gN 0) (dc:=jH) (de:=d2 jB (d2 jb (dV 1) (d2 jB (dK (.int 16)) (d2 jq (d2 yo (dK (.int 5)) (dV 0)) (dK (.int 9))))) (d2 yo (dK (.int 7)) (dV 0))) (ρ:=[.un,.bo (.lst (ds.map .int))]) (fun i:Nat=>D.int (0+(i:Int))) (fun i:Nat=>D.int (ds.getD (16+5 * (0+(i:Int)) % 9).toNat 0+7 * (0+(i:Int)))) (xs:=List.range 36) fun i hi=>by
   have hi:=List.mem_range.mp hi
   have d9:=J1 (a:=5 * (0+(i:Int))) (b:=9) (by decide)
   have a:=JC (f:=D.int) (xs:=ds) (d:=0) (k:=16+5 * (0+(i:Int)) % 9) (by omega) (by omega)
   have c5:VZ 5 (0+(i:Int))=true:=Z7 (by decide) (by decide)
   have c7:VZ 7 (0+(i:Int))=true:=Z7 (by decide) (by decide)
   refine⟨_,rfl,rfl,?_⟩
   simp at a c5 c7
   simp[c5,c7,a]
  refine⟨(List.range 36).map fun(i:Nat)=>ds.getD (16+5 * (0+(i:Int)) % 9).toNat 0+7 * (0+(i:Int)),?_,by simp⟩
  rw[List.map_map]
  exact this
 obtain⟨bs,B1,B2,B3⟩:=Z8 C m (1+u1 % mo) nb ws m1 (by omega) (by omega) nb0 (by omega) (by rw[W2]; omega)
 have ec:jP (ds.map D.int) (some 26) (some 35)=(jP ds (some 26) (some 35)).map D.int:=Yy _ _ _ _
 have lc:(jP ds (some 26) (some 35)).length=9:=by
  have:=XV ds 26 35 (by omega) (by omega)
  rw[show((26:Nat):Int)=26 from rfl,show((35:Nat):Int)=35 from rfl]at this
  rw[this,List.length_take,List.length_drop]
  omega
 have e3:=J1 (a:=nd) (b:=3) (by decide)
 have ek:(ks.length:Int)=m:=by omega
 have fin:∀n:Int,0<=n->n<=3->∀dd:List T3,(dd.length:Int)=n->(∀t∈dd,fB m (1+u1 % mo) t=true)->OkB ⟨1+u1 % mo,ks,hs,bs,dd⟩:=fun n n0 n3 dd hd hd2=>by
  refine⟨by show 1<=1+u1 % mo; omega,by show 1+u1 % mo<=30; omega,by show 1<=ks.length; omega,by show ks.length<=4; omega,by show hs.length<=20; omega,by show bs.length<=12; omega,by show dd.length<=3; omega,hk,?_,?_,?_⟩
  ·show∀t∈hs,fS (ks.length:Int) t=true; rw[ek]; exact hh
  ·show∀t∈bs,fB (ks.length:Int) _ t=true; rw[ek]; exact B3
  ·show∀t∈dd,fB (ks.length:Int) _ t=true; rw[ek]; exact hd2
 have s1:j_ m=true:=y_ (by omega) (by omega)
 have s2:j_ nh=true:=y_ (by omega) (by omega)
 have z36:(36:Nat)<=sizeLine:=by decide
 have s3:j_ 36=true:=by decide
 have hrw:(jT 0 36).length=36:=by simp[jT]
 have qmo:0 < mo:=by omega
 rw[List.map_nil]at K2 S2
 simp only[zo,vd]
 simp only[List.map_cons,List.map_nil]at pm ph pb pd
 by_cases c1:5 < 1+u1 % mo
 ·by_cases c2:2 < m
  ·obtain⟨dd,D1,D2,D3⟩:=Z8 C m (1+u1 % mo) (nd % 3) (jP ds (some 26) (some 35)) m1 (by omega) (by omega) (by omega) (by omega) (by omega)
   refine⟨⟨1+u1 % mo,ks,hs,bs,dd⟩,?_,fin _ (by omega) (by omega) dd D2 D3,by show 1+u1 % mo<=mo; omega⟩
   simp[a0,a1,a14,a15,a25,pm,ph,pb,pd,qmo,s1,s2,s3,K2,S2,W1,z36,hrw,B1,ec,D1,c1,c2,YX]
  ·obtain⟨dd,D1,D2,D3⟩:=Z8 C m (1+u1 % mo) nd (jP ds (some 26) (some 35)) m1 (by omega) (by omega) (by omega) (by omega) (by omega)
   refine⟨⟨1+u1 % mo,ks,hs,bs,dd⟩,?_,fin _ (by omega) (by omega) dd D2 D3,by show 1+u1 % mo<=mo; omega⟩
   simp[a0,a1,a14,a15,a25,pm,ph,pb,pd,qmo,s1,s2,s3,K2,S2,W1,z36,hrw,B1,ec,D1,c1,c2,YX]
 ·obtain⟨dd,D1,D2,D3⟩:=Z8 C m (1+u1 % mo) nd (jP ds (some 26) (some 35)) m1 (by omega) (by omega) (by omega) (by omega) (by omega)
  refine⟨⟨1+u1 % mo,ks,hs,bs,dd⟩,?_,fin _ (by omega) (by omega) dd D2 D3,by show 1+u1 % mo<=mo; omega⟩
  simp[a0,a1,a14,a15,a25,pm,ph,pb,pd,qmo,s1,s2,s3,K2,S2,W1,z36,hrw,B1,ec,D1,c1,YX]
end M
namespace M
open PySem L2 DS
theorem Vb{α:Type}(l:List α):Zf (l.map fun _=>D.bl true)=some (l.map fun _=>true):=Yx (fun _=>true) l
structure Form (b:Bk) (s:Sd):Prop extends Fit b s where
 wn:∀x∈s.waits,0<=x
def ky(b:Bk)(s:Sd)(k:Int):Bool:=Z_ b s k||(vU b s k||(vV s k||uT b s k))
theorem XW{xs:List Int}{k:Int}(h0:0<=k)(h1:k < (xs.length:Int)):xs.getD k.toNat 0∈xs:=by
 have hk:k.toNat < xs.length:=by omega
 rw[List.getD_eq_getElem?_getD,List.getElem?_eq_getElem hk]
 exact List.getElem_mem hk
end M
namespace M
open PySem L2 DS
theorem XX{b:Bk}{s:Sd}{k:Int}{i:Nat}{t:T3}{m:Bool}(ht:b.dues[i]?=some t)(hm:s.met[i]?=some m):(Yb b s k)[i]?=some (m||Vm k (s.place+1) t):=by
 unfold Yb
 rw[List.getElem?_zipWith,ht,hm]
end M
namespace M
open PySem L2 DS
def yv(b:Bk)(s:Sd)(k:Int):Option Sd:=if s.place>=b.size then none else if (jV b s k).isSome=true then none else some (jC b s k)
def Wj:Option Sd->D
 | none=>.non
 | some s=>j5 s
noncomputable def gk(b:Bk)(s:Sd)(k:Int)(i:Nat)(t:T3)(x:Int):Int:=if (i:Int)=k then 0 else mx ((if (i:Int)=s.kind then t.2.2 else x) - 1) 0
theorem BA{b:Bk}{s:Sd}{k:Int}{i:Nat}{t:T3}{x:Int}(X:Fit b s)(h:JZ b k)(ht:b.kinds[i]?=some t)(hx:s.waits[i]?=some x):(yC b s k)[i]?=some (gk b s k i t x):=by
 have hi:i < s.waits.length:=(List.getElem?_eq_some_iff.mp hx).1
 have k0:=h.1
 have e3:∀j:Int,0<=j->j.toNat=i->Vy b.kinds j=t:=fun j h0 h1=>by
  unfold Vy
  rw[h1,List.getD_eq_getElem?_getD,ht]
  rfl
 unfold yC gk
 by_cases e1:(i:Int)=k
 ·have e1':k.toNat=i:=by omega
  rw[if_pos e1,e1',List.getElem?_set]
  rw[if_pos rfl,if_pos (by split <;> simp <;> omega)]
 ·have e1':k.toNat≠i:=by omega
  rw[if_neg e1,List.getElem?_set,if_neg e1']
  by_cases e2:s.kind=-1
  ·rw[if_pos e2,if_neg (by omega),List.getElem?_map,hx]
   rfl
  ·have c0:=X.c0
   rw[if_neg e2,List.getElem?_set]
   by_cases e4:(i:Int)=s.kind
   ·have e4':s.kind.toNat=i:=by omega
    rw[if_pos e4',if_pos e4,if_pos (by rw[List.length_map]; omega),e3 s.kind (by omega) e4']
   ·have e4':¬s.kind.toNat=i:=by omega
    rw[if_neg e4',if_neg e4,List.getElem?_map,hx]
    rfl
theorem wG(b:Bk)(s:Sd)(k:Int):(jV b s k).isSome=(zf b s k||(ky b s k||(UA b s k||UB b s k))):=by
 unfold jV ky
 cases zf b s k <;> cases Z_ b s k <;> cases vU b s k <;> cases vV s k <;> cases uT b s k <;> cases UA b s k <;> cases UB b s k <;> rfl
end M
namespace M
open PySem L2 DS
theorem GP:∀l:List Int,V6 (l.map D.int)=0
 | []=>rfl
 | x::l=>by rw[List.map_cons,V6,GP l]; rfl
theorem GQ:∀l m:List Int,l.length=m.length->Yp (l.map D.int) (m.map D.int)=some (decide (l=m))
 | [],[],_=>rfl
 | [],_::_,h=>by simp at h
 | _::_,[],h=>by simp at h
 | x::l,y::m,h=>by
  rw[List.map_cons,List.map_cons,Yp,GQ l m (by simpa using h),zU]
  simp only[Option.bind_some,Option.some.injEq]
  by_cases h1:x=y <;> by_cases h2:l=m <;> simp[h1,h2]
theorem BB(l m:List Int):Jr (.lst (l.map D.int)) (.lst (m.map D.int))=some (.bl (!decide (l=m))):=by
 have e:dep (.lst (l.map D.int))<=20:=by rw[dep,GP]; decide
 have e0:u9 (D.lst (l.map D.int)) (D.lst (m.map D.int))=true:=rfl
 unfold Jr
 rw[if_pos e0]
 unfold Ka
 rw[if_pos ⟨e0,e⟩,zU]
 by_cases h:l.length=m.length
 ·rw[if_pos (by simpa using h),GQ l m h]
  rfl
 ·have h':¬l=m:=fun z=>h (by rw[z])
  rw[if_neg (by simpa using h),decide_eq_false h']
  rfl
theorem xi(l:List Int):Jr (.lst (l.map D.int)) (.lst [])=some (.bl (!decide (l=[]))):=BB l []
theorem AN(x:Int):0<=mx x 0:=by unfold mx; split <;> omega
theorem Vn{xs:List Int}{i:Nat}{x y:Int}(h:y∈xs.set i x):y∈xs∨y=x:=List.mem_or_eq_of_mem_set h
theorem Form.next{b:Bk}{s:Sd}(X:Form b s){k:Int}(h:JZ b k):Form b (jC b s k):=by
 refine⟨X.toFit.next h,fun x hx=>?_⟩
 have hx:x∈yC b s k:=hx
 unfold yC at hx
 have hm:∀x∈s.waits.map (fun x=>mx (x - 1) 0),0<=x:=fun x hx=>by
  obtain⟨y,_,rfl⟩:=List.mem_map.mp hx
  exact AN _
 rcases Vn hx with hx | rfl
 ·split at hx
  ·exact hm x hx
  ·rcases Vn hx with hx | rfl
   ·exact hm x hx
   ·exact AN _
 ·omega
theorem Form.empty(b:Bk):Form b (jj b):=⟨Fit.empty b,fun x hx=>by
 have:=List.eq_of_mem_replicate hx
 omega⟩
theorem gl{b:Bk}{k:Int}:∀{row:List Int} {s0 s:Sd},J0 b s0 row=(s,none)->jV b s k=none->J0 b s0 (row++[k])=(jC b s k,none)
 | [],s0,s,h,hb=>by
  cases h
  rw[List.nil_append,J0,hb]
  rfl
 | n::row,s0,s,h,hb=>by
  rw[J0]at h
  rw[List.cons_append,J0]
  cases q:jV b s0 n with
  | some w=>rw[q]at h; cases h
  | none=>rw[q]at h; exact gl h hb
theorem Z9{b:Bk}{s s':Sd}{k:Int}(h:yv b s k=some s'):jV b s k=none/\s'=jC b s k/\s.place < b.size:=by
 unfold yv at h
 split at h
 ·cases h
 ·split at h
  ·cases h
  ·rename_i h1 h2
   cases h
   refine⟨?_,rfl,by omega⟩
   cases q:jV b s k with
   | none=>rfl
   | some w=>rw[q]at h2; exact vDa rfl h2
end M
namespace M
open PySem L2 DS
noncomputable def ra(row:List Int)(i:Nat):Int:=row.getD i 0
theorem xj{row:List Int}{i:Nat}(h:i < row.length):row[i]?=some (ra row i):=by
 unfold ra
 rw[List.getD_eq_getElem?_getD,List.getElem?_eq_getElem h]
 rfl
noncomputable def KK(row:List Int):Nat->Nat
 | 0=>1
 | i+1=>if ra row (i+1)=ra row i then KK row i+1 else 1
noncomputable def VD(row:List Int):Nat->Int->Option Nat
 | 0,_=>none
 | i+1,c=>if ra row i=c then some i else VD row i c
def gn(b:Bk)(row:List Int)(i:Nat)(c:Int):Int:=match VD row i c with
 | none=>0
 | some j=>if j+1=i then 0 else mx ((Vy b.kinds c).2.2 - ((i:Int) - 1 - (j:Int))) 0
def XY(row:List Int):Nat->T3->Bool
 | 0,_=>false
 | i+1,t=>XY row i t||Vm (ra row i) ((i:Int)+1) t
theorem xk{row:List Int}:∀{i j:Nat} {c:Int},VD row i c=some j->j < i/\ra row j=c
 | 0,j,c,h=>by cases h
 | i+1,j,c,h=>by
  unfold VD at h
  split at h
  ·cases h; exact⟨by omega,by assumption⟩
  ·have:=xk h; exact⟨by omega,this.2⟩
theorem KL{row:List Int}:∀{i:Nat} {c:Int},VD row i c=none->∀j,j < i->ra row j≠c
 | 0,c,h,j,hj=>by omega
 | i+1,c,h,j,hj=>by
  unfold VD at h
  split at h
  ·cases h
  ·by_cases e:j=i
   ·rw[e]; assumption
   ·exact KL h j (by omega)
theorem KM{row:List Int}:∀{i j:Nat} {c:Int},VD row i c=some j->∀m,j < m->m < i->ra row m≠c
 | 0,j,c,h,m,h1,h2=>by omega
 | i+1,j,c,h,m,h1,h2=>by
  unfold VD at h
  split at h
  ·cases h; omega
  ·by_cases e:m=i
   ·rw[e]; assumption
   ·exact KM h m h1 (by omega)
structure StOf (b:Bk) (row:List Int) (i:Nat) (s:Sd):Prop where
 pl:s.place=(i:Int)
 kd:s.kind=if i=0 then -1 else ra row (i - 1)
 ln:s.len=if i=0 then 0 else(KK row (i - 1):Int)
 bf:s.before=if i < 2 then -1 else ra row (i - 2)
 ws:∀c:Nat,c < b.kinds.length->s.waits[c]?=some (gn b row i (c:Int))
 ms:∀(j:Nat) (t:T3),b.dues[j]?=some t->s.met[j]?=some (XY row i t)
 fo:Form b s
theorem StOf.empty(b:Bk)(row:List Int):StOf b row 0 (jj b):=⟨rfl,rfl,rfl,rfl,fun c hc=>by simp[jj,hc,gn,VD],fun j t ht=>by
 have:=(List.getElem?_eq_some_iff.mp ht).1
 simp[jj,this,XY],Form.empty b⟩
theorem StOf.run{b:Bk}{row:List Int}{i:Nat}{s:Sd}(R:StOf b row i s)(h0:0<=ra row i):vq s (ra row i)=(KK row i:Int):=by
 unfold vq
 rw[R.kd,R.ln]
 cases i with
 | zero=>
  rw[if_pos rfl,if_neg (show¬(-1:Int)=ra row 0 by omega)]
  rfl
 | succ i=>
  have er:KK row (i+1)=if ra row (i+1)=ra row i then KK row i+1 else 1:=rfl
  simp only[Nat.add_sub_cancel,if_neg (Nat.succ_ne_zero i)]
  rw[er]
  by_cases e:ra row i=ra row (i+1)
  ·rw[if_pos e,if_pos e.symm]; omega
  ·rw[if_neg e,if_neg (fun z=>e z.symm)]; rfl
theorem xl(b:Bk)(row:List Int)(i:Nat)(s:Sd)(R:StOf b row i s)(c:Nat)(t:T3)(ht:b.kinds[c]?=some t):gk b s (ra row i) c t (gn b row i (c:Int))=gn b row (i+1) (c:Int):=by
 have e3:Vy b.kinds (c:Int)=t:=by
  unfold Vy
  rw[Int.toNat_natCast,List.getD_eq_getElem?_getD,ht]
  rfl
 have el:VD row (i+1) (c:Int)=if ra row i=(c:Int)then some i else VD row i (c:Int):=rfl
 unfold gk gn
 rw[e3,el]
 by_cases e1:(c:Int)=ra row i
 ·rw[if_pos e1,if_pos (show ra row i=(c:Int) from e1.symm)]
  simp
 ·rw[if_neg e1,if_neg (show¬ra row i=(c:Int) from fun z=>e1 z.symm)]
  rw[R.kd]
  cases hl:VD row i (c:Int)with
  | none=>
   have hn:=KL hl
   by_cases e2:i=0
   ·subst e2
    simp[mx]
   ·have h2:=hn (i - 1) (by omega)
    rw[if_neg e2]
    rw[if_neg (fun z=>h2 z.symm)]
    simp[mx]
  | some j=>
   obtain⟨h1,h2⟩:=xk hl
   have e2:¬i=0:=by omega
   rw[if_neg e2]
   by_cases e4:j+1=i
   ·have e5:(c:Int)=ra row (i - 1):=by rw[<-h2]; congr 1; omega
    simp only[if_pos e5,if_neg (show¬j+1=i+1 by omega)]
    congr 1
    omega
   ·have e5:¬(c:Int)=ra row (i - 1):=fun z=>KM hl (i - 1) (by omega) (by omega) z.symm
    simp only[if_neg e5,if_neg e4,if_neg (show¬j+1=i+1 by omega)]
    unfold mx
    split <;> split <;> split <;> omega
theorem StOf.next{b:Bk}{row:List Int}{i:Nat}{s:Sd}(R:StOf b row i s)(h:JZ b (ra row i)):StOf b row (i+1) (jC b s (ra row i)) where
 pl:=by show s.place+1=_; rw[R.pl]; omega
 kd:=by simp; rfl
 ln:=by simp; exact R.run h.1
 bf:=by
  show s.kind=_
  rw[R.kd]
  by_cases e:i=0
  ·rw[if_pos e,if_pos (by omega)]
  ·rw[if_neg e,if_neg (by omega)]
   rfl
 ws:=fun c hc=>by
  have hx:=R.ws c hc
  have ht:b.kinds[c]?=some b.kinds[c]:=by simp[hc]
  rw[<-xl b row i s R c _ ht]
  exact BA R.fo.toFit h ht hx
 ms:=fun j t ht=>by
  have:=XX (k:=ra row i) ht (R.ms j t ht)
  rw[R.pl]at this
  exact this
 fo:=R.fo.next h
end M
namespace M
open PySem L2 DS
theorem KN{b:Bk}{k:Int}(h:JZ b k)(ok:OkB b):fK (Vy b.kinds k)=true:=by
 refine ok.ks _ ?_
 unfold Vy
 have hk:k.toNat < b.kinds.length:=by have:=h.1; have:=h.2; omega
 rw[List.getD_eq_getElem?_getD,List.getElem?_eq_getElem hk]
 exact List.getElem_mem hk
end M
namespace M
open PySem L2 DS
theorem XZ{b:Bk}{row:List Int}{i:Nat}{s:Sd}(hi:i < row.length):J0 b s (row.drop i)=match jV b s (ra row i)with
  | some w=>(s,some w)
  | none=>J0 b (jC b s (ra row i)) (row.drop (i+1)):=by
 have e:row.drop i=ra row i::row.drop (i+1):=by
  have h:=xj hi
  rw[List.drop_eq_getElem_cons hi]
  rw[List.getElem?_eq_getElem hi]at h
  rw[Option.some.inj h]
 rw[e,J0]
 all_goals (cases jV b s (ra row i) <;> rfl)
theorem KO{n i:Nat}{d:D}(h:(jT 0 n)[i]?=some d):i < n/\d=.int (i:Int):=by
 unfold jT at h
 rw[List.getElem?_map]at h
 by_cases z:i < n
 ·rw[List.getElem?_range z]at h
  refine⟨z,?_⟩
  have:=vFa h
  rw[<-this]
  simp
 ·rw[List.getElem?_eq_none (by simp; omega)]at h
  cases h
end M
namespace M
open PySem L2 DS
theorem StOf.walk{b:Bk}{row:List Int}(hr:∀n∈row,JZ b n){s':Sd}:∀(m i:Nat) (s:Sd),row.length - i=m->i<=row.length->StOf b row i s->J0 b s (row.drop i)=(s',none)->StOf b row row.length s'
 | 0,i,s,hm,hi,R,hw=>by
  have e:i=row.length:=by omega
  subst e
  rw[List.drop_length]at hw
  cases hw
  exact R
 | m+1,i,s,hm,hi,R,hw=>by
  have hlt:i < row.length:=by omega
  rw[XZ hlt]at hw
  have hk:=hr (ra row i) (List.mem_of_getElem? (xj hlt))
  cases hb:jV b s (ra row i)with
  | some w=>rw[hb]at hw; cases hw
  | none=>
   rw[hb]at hw
   exact StOf.walk hr m (i+1) _ (by omega) hlt (R.next hk) hw
theorem StOf.all{b:Bk}{row:List Int}(hr:∀n∈row,JZ b n){s:Sd}(hw:J0 b (jj b) row=(s,none)):StOf b row row.length s:=
 StOf.walk hr _ 0 (jj b) rfl (Nat.zero_le _) (StOf.empty b row) hw
end M
namespace M
open PySem L2 DS
theorem KP:∀l:List Bool,V6 (l.map D.bl)=0
 | []=>rfl
 | x::l=>by rw[List.map_cons,V6,KP l]; rfl
theorem qH(C:Addr)(b:Bk)(s:Sd)(k:Int)(ok:OkB b)(X:Fit b s)(h:JZ b k):uo C [jg C b,j5 s,.int k]=some (Wj (yv b s k)):=by
 have e1:=xh C b s k ok X h
 have e2:=XU C b s k ok X h
 unfold yv
 simp only[uo,um]
 by_cases c:s.place>=b.size
 ·have c':b.size<=s.place:=c
  rw[if_pos c]
  simp[c',Wj]
 ·have c':¬b.size<=s.place:=c
  rw[if_neg c]
  cases hb:jV b s k with
  | none=>rw[hb]at e1; simp[c',e1,e2,oS,Wj]
  | some w=>rw[hb]at e1; simp[c',e1,oS,Wj]
end M
namespace M
open PySem L2 DS
noncomputable instance:DecidableEq Sd:=fun _ _=>Classical.propDecidable _
noncomputable def kB(b:Bool):KD:=.i (if b then 1 else 0)
noncomputable def kS(s:Sd):KD:=.t [.i s.place,.i s.kind,.i s.len,.i s.before,.t (s.waits.map .i),.t (s.met.map kB)]
theorem KQ:∀l:List Int,Yi (l.map D.int)=some (l.map KD.i)
 | []=>by rw[List.map_nil,Yi]; rfl
 | x::l=>by rw[List.map_cons,Yi,yI,KQ l]; rfl
theorem Wk:∀l:List Bool,Yi (l.map D.bl)=some (l.map kB)
 | []=>by rw[List.map_nil,Yi]; rfl
 | x::l=>by rw[List.map_cons,Yi,yI,Wk l]; rfl
theorem Wl:∀l:List Int,yY (l.map KD.i)=0
 | []=>rfl
 | x::l=>by rw[List.map_cons,yY,Wl l]; rfl
theorem Wm:∀l:List Bool,yY (l.map kB)=0
 | []=>rfl
 | x::l=>by rw[List.map_cons,yY,Wm l]; rfl
theorem KR(s:Sd):JO (j5 s)=some (kS s):=by
 have e:yI (j5 s)=some (kS s):=by
  unfold j5 kS
  simp[yI,Yi,KQ,Wk]
 have d:(kS s).dep<=8:=by
  unfold kS
  simp[KD.dep,yY,Wl,Wm]
 show(yI (j5 s)).bind _=_
 rw[e]
 simp[d]
theorem Vo{α β:Type}{f:α->β}(h:∀a b,f a=f b->a=b):∀{l m:List α},l.map f=m.map f->l=m
 | [],[],_=>rfl
 | [],_::_,e=>by cases e
 | _::_,[],e=>by cases e
 | a::l,b::m,e=>by
  rw[List.map_cons,List.map_cons]at e
  injection e with e1 e2
  rw[h _ _ e1,Vo h e2]
theorem KS{s t:Sd}(h:kS s=kS t):s=t:=by
 unfold kS at h
 simp only[KD.t.injEq,List.cons.injEq,KD.i.injEq]at h
 obtain⟨h1,h2,h3,h4,h5,h6,_⟩:=h
 have e5:=Vo (fun a b e=>by injection e) h5
 have e6:=Vo (fun a b e=>by cases a <;> cases b <;> first | rfl | (unfold kB at e; simp at e)) h6
 obtain⟨a1,a2,a3,a4,a5,a6⟩:=s
 obtain⟨b1,b2,b3,b4,b5,b6⟩:=t
 simp only at h1 h2 h3 h4 e5 e6
 subst h1 h2 h3 h4 e5 e6
 rfl
theorem Gn:∀l:List Sd,jS (l.map j5)=some (l.map kS)
 | []=>rfl
 | s::l=>by rw[List.map_cons,jS,KR,Gn l]; rfl
theorem gp{l:List Sd}{s:Sd}:kS s∈l.map kS↔s∈l:=by
 rw[List.mem_map]
 constructor
 ·rintro⟨t,h,e⟩
  rw[<-KS e]
  exact h
 ·exact fun h=>⟨s,h,rfl⟩
theorem Wn{f:Sd->D}{s:Sd}:∀{l:List Sd},s∈l->ZU (l.map kS) (l.map f) (kS s)=some (f s)
 | [],h=>by cases h
 | t::l,h=>by
  rw[List.map_cons,List.map_cons,ZU]
  by_cases e:t=s
  ·rw[if_pos (by rw[e]),e]
  ·rw[if_neg (fun z=>e (KS z))]
   rcases List.mem_cons.mp h with z | z
   ·exact vDa z.symm e
   ·exact Wn z
theorem vW{f:Sd->D}{s:Sd}{l:List Sd}(h:s∈l):yJ (.dct (l.map j5) (l.map f)) (j5 s)=some (f s):=by
 show(JO (j5 s)).bind _=_
 rw[KR]
 show(jS (l.map j5)).bind _=_
 rw[Gn]
 exact Wn h
theorem KT{f:Sd->D}{s:Sd}:∀l:List Sd,ub (l.map kS) (l.map f) (kS s) (f s)=l.map f
 | []=>by rw[List.map_nil,List.map_nil,ub]; all_goals (intros; contradiction)
 | t::l=>by
  rw[List.map_cons,List.map_cons,ub,KT l]
  by_cases e:t=s
  ·rw[if_pos (by rw[e]),e]
  ·rw[if_neg (fun z=>e (KS z))]
noncomputable def jG(l:List Sd)(s:Sd):List Sd:=if s∈l then l else l++[s]
theorem gq{i:Nat}{q:Option Addr}{l:List Sd}{f:Sd->D}{s:Sd}{dk de:DE}{ρ:j8}(h:ρ[i]?=some (.ow q (.dct (l.map j5) (l.map f))))(hd:de ρ=some (f s))(hk:dk ρ=some (j5 s))(hl:l.length < sizeLine):
  V7 i dk de ρ=some (.nx (ρ.set i (.ow q (.dct ((jG l s).map j5) ((jG l s).map f))))):=by
 rw[dI,h]
 simp only[hd,hk,Option.bind_some,KR,Gn,List.length_map,hl,if_true]
 unfold uJ UZ jG
 by_cases e:s∈l
 ·rw[if_pos (gp.mpr e),if_pos (gp.mpr e),if_pos e,KT]
 ·rw[if_neg (fun z=>e (gp.mp z)),if_neg (fun z=>e (gp.mp z)),if_neg e,List.map_append,List.map_append]
  rfl
theorem KU{l:List Sd}{s t:Sd}:t∈jG l s↔t∈l∨t=s:=by
 unfold jG
 split
 ·constructor
  ·exact .inl
  ·rintro(h | rfl)
   ·exact h
   ·assumption
 ·simp
theorem UC(l:List Sd)(s:Sd):l.length<=(jG l s).length/\(jG l s).length<=l.length+1:=by
 unfold jG
 split <;> simp
theorem BC{l:List Sd}{s:Sd}(h:l.Nodup):(jG l s).Nodup:=by
 unfold jG
 split
 ·exact h
 ·rename_i e
  exact List.nodup_append.mpr ⟨h,by simp,fun a ha b hb z=>by simp at hb; rw[hb]at z; exact e (z▸ha)⟩
theorem ZG{t:Sd}:∀{xs l:List Sd},t∈xs.foldl jG l↔t∈l∨t∈xs
 | [],l=>by simp
 | x::xs,l=>by
  rw[List.foldl_cons,ZG,KU,List.mem_cons]
  constructor
  ·rintro((h | h) | h)
   ·exact .inl h
   ·exact .inr (.inl h)
   ·exact .inr (.inr h)
  ·rintro(h | h | h)
   ·exact .inl (.inl h)
   ·exact .inl (.inr h)
   ·exact .inr h
theorem Vp:∀(xs l:List Sd),l.length<=(xs.foldl jG l).length/\(xs.foldl jG l).length<=l.length+xs.length
 | [],l=>by simp
 | x::xs,l=>by
  have h1:=Vp xs (jG l x)
  have h2:=UC l x
  rw[List.foldl_cons,List.length_cons]
  omega
theorem Wo:∀{xs l:List Sd},l.Nodup->(xs.foldl jG l).Nodup
 | [],_,h=>h
 | x::xs,l,h=>Wo (xs:=xs) (BC h)
def ZH(b:Bk)(s:Sd)(n:Nat):List (Int×Sd):=(List.range n).filterMap fun(c:Nat)=>(yv b s (c:Int)).map fun t=>((c:Int),t)
def jd(b:Bk)(s:Sd):List (Int×Sd):=ZH b s b.kinds.length
def pD(p:Int×Sd):D:=.tup [.int p.1,j5 p.2]
theorem UD(b:Bk)(s:Sd)(n:Nat):ZH b s (n+1)=ZH b s n++(match yv b s (n:Int)with | some t=>[((n:Int),t)] | none=>[]):=by
 unfold ZH
 rw[List.range_succ,List.filterMap_append]
 cases e:yv b s (n:Int) <;> simp[e]
theorem Wp(b:Bk)(s:Sd)(n:Nat):(ZH b s n).length<=n:=by
 unfold ZH
 exact wSa (List.length_filterMap_le _ _) (by simp)
theorem YD{b:Bk}{s:Sd}{n:Nat}{p:Int×Sd}(h:p∈ZH b s n):∃c:Nat,c < n/\p.1=(c:Int)/\yv b s (c:Int)=some p.2:=by
 unfold ZH at h
 obtain⟨c,hc,e⟩:=List.mem_filterMap.mp h
 obtain⟨t,e1,rfl⟩:=Option.map_eq_some_iff.mp e
 exact⟨c,List.mem_range.mp hc,rfl,e1⟩
theorem KW(C:Addr)(b:Bk)(s:Sd)(ok:OkB b)(X:Fit b s):YQ C [jg C b,j5 s]=some (.lst ((jd b s).map pD)):=by
 have k2:=ok.k2
 have z1:j_ (b.kinds.length:Int)=true:=y_ (by omega) (by omega)
 obtain⟨ρ1,L1,y3,y4,rfl⟩:=yV (g:=vS) (s:=Y2 C) (items:=jT 0 b.kinds.length) (fun i ρ=>∃y3 y4:Sl,ρ=[.bo (jg C b),.bo (j5 s),.ow none (.lst ((ZH b s i).map pD)),y3,y4]) (by
  rintro i d ρ hd ⟨y3,y4,rfl⟩
  obtain⟨hi,rfl⟩:=KO hd
  have e1:=qH C b s (i:Int) ok X ⟨by omega,by omega⟩
  have hl:=Wp b s i
  have z3:(ZH b s i).length < sizeLine:=jw (by omega)
  cases hs:yv b s (i:Int)with
  | none=>
   rw[hs]at e1
   refine⟨_,_,rfl,?_,.cl (.int (i:Int)),.cl .non,rfl⟩
   rw[UD,hs,List.append_nil]
   simp only[Y2]
   simp[e1,Wj]
  | some t=>
   rw[hs]at e1
   refine⟨_,_,rfl,?_,.cl (.int (i:Int)),.cl (j5 t),rfl⟩
   rw[UD,hs,List.map_append]
   have en:vI (j5 t)=false:=rfl
   simp only[Y2]
   simp[e1,Wj,en,z3,pD]) (ρ:=[.bo (jg C b),.bo (j5 s),.ow none (.lst ((ZH b s 0).map pD)),.un,.un]) ⟨.un,.un,rfl⟩
 rw[show(jT 0 b.kinds.length).length=b.kinds.length by simp[jT]]at L1
 simp only[YQ,Zz]
 have e0:(ZH b s 0).map pD=[]:=rfl
 rw[e0]at L1
 simp[z1,L1]
 rfl
end M
namespace M
open PySem L2 DS
def YV(b:Bk)(ss:List Sd):List Sd:=(ss.flatMap fun s=>(jd b s).map (·.2)).foldl jG []
def jc(b:Bk)(s:Sd):Nat->List Sd
 | 0=>[s]
 | n+1=>YV b (jc b s n)
def yR(b:Bk)(s:Sd):D:=.lst ((jd b s).map pD)
def Yz(b:Bk)(ss:List Sd):D:=.dct (ss.map j5) (ss.map (yR b))
noncomputable def v3:Sd->D:=fun _=>.bl true
theorem yw{b:Bk}{s t:Sd}{c:Nat}(X:Fit b s)(hc:c < b.kinds.length)(h:yv b s (c:Int)=some t):Fit b t/\t.place=s.place+1/\s.place < b.size:=by
 obtain⟨_,rfl,h3⟩:=Z9 h
 exact⟨X.next ⟨by omega,by omega⟩,rfl,h3⟩
theorem zg{b:Bk}{ss:List Sd}{t:Sd}:t∈YV b ss↔∃s∈ss,∃p∈jd b s,p.2=t:=by
 unfold YV
 rw[ZG]
 simp[List.mem_flatMap]
theorem BD(b:Bk)(ss:List Sd):(YV b ss).Nodup:=Wo List.nodup_nil
theorem xm(b:Bk)(s:Sd):∀n,(jc b s n).Nodup
 | 0=>by simp[jc]
 | n+1=>BD b _
theorem YE{b:Bk}{s:Sd}(X:Fit b s):∀n,∀t∈jc b s n,Fit b t/\t.place=s.place+n/\(0 < n->t.place<=b.size)
 | 0,t,h=>by
  simp[jc]at h
  subst h
  exact⟨X,by simp,fun z=>vDa z (by omega)⟩
 | n+1,t,h=>by
  obtain⟨u,hu,p,hp,rfl⟩:=zg.mp h
  obtain⟨c,hc,e1,e2⟩:=YD hp
  obtain⟨f1,f2,f3⟩:=YE X n u hu
  obtain⟨g1,g2,g3⟩:=yw f1 hc e2
  exact⟨g1,by rw[g2,f2]; omega,fun _=>by rw[g2]; omega⟩
theorem Wq{b:Bk}{s:Sd}(X:Fit b s){n:Nat}(h:b.size < s.place+n):jc b s (n+1)=[]:=by
 rw[List.eq_nil_iff_forall_not_mem]
 intro t ht
 have:=(YE X (n+1) t ht).2
 have h1:=this.1
 have h2:=this.2 (by omega)
 omega
theorem Fj(C:Addr)(b:Bk)(r0 r1 r2 r3 r4 r6:Sl)(ps:List (Int×Sd))(l:List Sd)(hl:(l++ps.map (·.2)).length < 10000000∨((ps.map (·.2)).foldl jG l).length < 10000000)(x7 x8:Sl):∃y7 y8:Sl,Jj YR (JS C) (ps.map pD) [r0,r1,r2,r3,r4,.ow none (.dct (l.map j5) (l.map v3)),r6,x7,x8]=
  some (.nx [r0,r1,r2,r3,r4,.ow none (.dct (((ps.map (·.2)).foldl jG l).map j5) (((ps.map (·.2)).foldl jG l).map v3)),r6,y7,y8]):=by
 induction ps generalizing l x7 x8 with
 | nil=>exact⟨x7,x8,rfl⟩
 | cons p ps ih=>
  have hlen:l.length < sizeLine:=by
   have:=Vp ((p::ps).map (·.2)) l
   have e:(10000000:Nat) < sizeLine:=by decide
   rcases hl with hl | hl
   ·simp at hl; omega
   ·omega
  have e1:JS C [r0,r1,r2,r3,r4,.ow none (.dct (l.map j5) (l.map v3)),r6,.cl (.int p.1),.cl (j5 p.2)]=some (.nx [r0,r1,r2,r3,r4,.ow none (.dct ((jG l p.2).map j5) ((jG l p.2).map v3)),r6,.cl (.int p.1),.cl (j5 p.2)]):=by
   unfold JS
   rw[gq (l:=l) (f:=v3) (s:=p.2) (q:=none) rfl rfl rfl hlen]
   rfl
  obtain⟨y7,y8,e2⟩:=ih (jG l p.2) (by
   have:=UC l p.2
   rcases hl with hl | hl
   ·left; simp at hl⊢; omega
   ·right; exact hl) (.cl (.int p.1)) (.cl (j5 p.2))
  refine⟨y7,y8,?_⟩
  rw[List.map_cons,List.map_cons,List.foldl_cons,Jj]
  have e0:YR (pD p) [r0,r1,r2,r3,r4,.ow none (.dct (l.map j5) (l.map v3)),r6,x7,x8]=some [r0,r1,r2,r3,r4,.ow none (.dct (l.map j5) (l.map v3)),r6,.cl (.int p.1),.cl (j5 p.2)]:=rfl
  rw[e0]
  show(JS C _).bind _=_
  rw[e1]
  exact e2
theorem X_(xs ys l:List Sd):(xs.foldl jG l).length<=((xs++ys).foldl jG l).length:=by
 rw[List.foldl_append]
 exact(Vp ys _).1
theorem Fk(C:Addr)(b:Bk)(ok:OkB b)(r1 r2 r3:Sl)(all:List Sd)(hfit:∀t∈all,Fit b t)(hnd:all.Nodup)(hb:(YV b all).length < 10000000)(ha:all.length < 10000000):∀(ss pre:List Sd),pre++ss=all->∀x6 x7 x8:Sl,∃y6 y7 y8:Sl,
  Jj YS (JT C) (ss.map j5) [.bo (jg C b),r1,r2,r3,.ow none (.dct (pre.map j5) (pre.map (yR b))),.ow none (.dct (((pre.flatMap fun s=>(jd b s).map (·.2)).foldl jG []).map j5) (((pre.flatMap fun s=>(jd b s).map (·.2)).foldl jG []).map v3)),x6,x7,x8]=
  some (.nx [.bo (jg C b),r1,r2,r3,.ow none (.dct (all.map j5) (all.map (yR b))),.ow none (.dct ((YV b all).map j5) ((YV b all).map v3)),y6,y7,y8]):=by
 intro ss
 induction ss with
 | nil=>
  intro pre e x6 x7 x8
  rw[List.append_nil]at e
  subst e
  exact⟨x6,x7,x8,rfl⟩
 | cons s ss ih=>
  intro pre e x6 x7 x8
  have hs:s∈all:=by rw[<-e]; simp
  have X:=hfit s hs
  have e1:=KW C b s ok X
  have hp:pre.length < sizeLine:=by
   have:pre.length<=all.length:=by rw[<-e]; simp
   have e:(10000000:Nat) < sizeLine:=by decide
   omega
  have hins:jG pre s=pre++[s]:=by
   unfold jG
   rw[if_neg]
   intro z
   rw[<-e,List.nodup_append]at hnd
   exact hnd.2.2 s z s wNa rfl
  have hf:(((jd b s).map (·.2)).foldl jG ((pre.flatMap fun s=>(jd b s).map (·.2)).foldl jG []))=(((pre++[s]).flatMap fun s=>(jd b s).map (·.2)).foldl jG []):=by
   rw[List.flatMap_append,List.foldl_append]
   simp
  obtain⟨y7,y8,e2⟩:=Fj C b (.bo (jg C b)) r1 r2 r3 (.ow none (.dct ((pre++[s]).map j5) ((pre++[s]).map (yR b)))) (.cl (j5 s)) (jd b s) ((pre.flatMap fun s=>(jd b s).map (·.2)).foldl jG []) (by
   right
   rw[hf]
   refine Nat.lt_of_le_of_lt ?_ hb
   have e9:all=(pre++[s])++ss:=by rw[<-e]; simp
   unfold YV
   rw[e9,List.flatMap_append (xs:=pre++[s]) (ys:=ss)]
   exact X_ _ _ _) x7 x8
  rw[hf]at e2
  obtain⟨z6,z7,z8,e3⟩:=ih (pre++[s]) (by rw[<-e]; simp) (.cl (j5 s)) y7 y8
  refine⟨z6,z7,z8,?_⟩
  rw[List.map_cons,Jj]
  show(JT C _).bind _=_
  have e4:JT C [.bo (jg C b),r1,r2,r3,.ow none (.dct (pre.map j5) (pre.map (yR b))),.ow none (.dct (((pre.flatMap fun s=>(jd b s).map (·.2)).foldl jG []).map j5) (((pre.flatMap fun s=>(jd b s).map (·.2)).foldl jG []).map v3)),.cl (j5 s),x7,x8]=
    some (.nx [.bo (jg C b),r1,r2,r3,.ow none (.dct ((pre++[s]).map j5) ((pre++[s]).map (yR b))),.ow none (.dct ((((pre++[s]).flatMap fun s=>(jd b s).map (·.2)).foldl jG []).map j5) ((((pre++[s]).flatMap fun s=>(jd b s).map (·.2)).foldl jG []).map v3)),.cl (j5 s),y7,y8]):=by
   unfold JT
   rw[Qr,gq (l:=pre) (f:=yR b) (s:=s) (q:=none) rfl (by simp[e1,yR]) rfl hp,hins]
   have g:yJ (.dct ((pre++[s]).map j5) ((pre++[s]).map (yR b))) (j5 s)=some (yR b s):=vW (by simp)
   simp only[Option.bind_some,Qu,wZ,Hm,Hk,List.set_cons_succ,List.set_cons_zero,List.getElem?_cons_succ,List.getElem?_cons_zero,OD.toD,g]
   rw[yR,Ql,Option.bind_some]
   exact e2
  have e5:YS (j5 s) [.bo (jg C b),r1,r2,r3,.ow none (.dct (pre.map j5) (pre.map (yR b))),.ow none (.dct (((pre.flatMap fun s=>(jd b s).map (·.2)).foldl jG []).map j5) (((pre.flatMap fun s=>(jd b s).map (·.2)).foldl jG []).map v3)),x6,x7,x8]=some [.bo (jg C b),r1,r2,r3,.ow none (.dct (pre.map j5) (pre.map (yR b))),.ow none (.dct (((pre.flatMap fun s=>(jd b s).map (·.2)).foldl jG []).map j5) (((pre.flatMap fun s=>(jd b s).map (·.2)).foldl jG []).map v3)),.cl (j5 s),x7,x8]:=rfl
  simp only[List.set_cons_succ,List.set_cons_zero]
  rw[e4]
  exact e3
end M
namespace M
open PySem L2 DS
structure Lim (b:Bk) (s:Sd):Prop where
 fit:Fit b s
 p0:0<=s.place
 p1:s.place<=b.size
 tot:∀n,((List.range n).flatMap (jc b s)).length < 10000000
theorem Lim.len{b:Bk}{s:Sd}(L:Lim b s)(n:Nat):(jc b s n).length < 10000000:=by
 have:=L.tot (n+1)
 rw[List.range_succ,List.flatMap_append]at this
 simp at this
 omega
def JW(b:Bk)(s:Sd)(n:Nat):List D:=(List.range n).map fun j=>Yz b (jc b s j)
theorem GR(b:Bk)(s:Sd)(n:Nat):JW b s (n+1)=JW b s n++[Yz b (jc b s n)]:=by
 unfold JW
 rw[List.range_succ,List.map_append]
 rfl
theorem ZI(b:Bk)(s:Sd)(n:Nat):(JW b s n).length=n:=by simp[JW]
theorem Fm(C:Addr)(b:Bk)(ok:OkB b)(s:Sd)(L:Lim b s)(n:Nat)(hn:n<=1000)(x4 x5 x6 x7 x8:Sl):∃y4 y5 y6 y7 y8:Sl,yQ C [.bo (jg C b),.cl (j5 s),.ow none (.lst (JW b s n)),.cl (.lst ((jc b s n).map j5)),x4,x5,x6,x7,x8]=
  some (.nx [.bo (jg C b),.cl (j5 s),.ow none (.lst (JW b s (n+1))),.cl (.lst ((jc b s (n+1)).map j5)),y4,y5,y6,y7,y8]):=by
 obtain⟨y6,y7,y8,e⟩:=Fk C b ok (.cl (j5 s)) (.ow none (.lst (JW b s n))) (.cl (.lst ((jc b s n).map j5))) (jc b s n) (fun t ht=>(YE L.fit n t ht).1) (xm b s n) (L.len (n+1)) (L.len n) (jc b s n) [] rfl x6 x7 x8
 have z:(JW b s n).length < sizeLine:=by rw[ZI]; exact jw (by omega)
 simp only[List.map_nil,List.flatMap_nil,List.foldl_nil]at e
 refine⟨.cl (Yz b (jc b s n)),.ow none (.dct ((YV b (jc b s n)).map j5) ((YV b (jc b s n)).map v3)),y6,y7,y8,?_⟩
 rw[GR]
 simp only[yQ]
 simp[e,z,vL,Yz,jc]
noncomputable def i0(ρ:j8):Nat:=match ρ[2]? with
 | some (Sl.ow _ (OD.lst l))=>100 - l.length
 | _=>0
theorem GS(C:Addr)(b:Bk)(ok:OkB b)(s:Sd)(L:Lim b s):∃n,zL C [jg C b,j5 s]=some (.lst (JW b s n))/\n<=32/\jc b s n=[]/\∀j,j < n->jc b s j≠[]:=by
 have s2:=ok.s2
 obtain⟨ρ1,W1,⟨n,hn,hne,y4,y5,y6,y7,y8,rfl⟩,hq⟩:=Ky (dt:=ZY C) (s:=yQ C)
  (fun ρ=>∃n,n<=32/\(∀j,j < n->jc b s j≠[])/\∃y4 y5 y6 y7 y8:Sl,ρ=[.bo (jg C b),.cl (j5 s),.ow none (.lst (JW b s n)),.cl (.lst ((jc b s n).map j5)),y4,y5,y6,y7,y8])
  (fun ρ=>i0 ρ) (by
   rintro ρ ⟨n,hn,hne,y4,y5,y6,y7,y8,rfl⟩
   by_cases h:jc b s n=[]
   ·left
    rw[h]
    rfl
   ·right
    have hn':n < 32:=by
     have h1:=L.p0
     by_cases q:n < 32
     ·exact q
     ·have e:n=31+1:=by omega
      subst e
      exact vDa (Wq L.fit (by omega)) h
    obtain⟨z4,z5,z6,z7,z8,e⟩:=Fm C b ok s L n (by omega) y4 y5 y6 y7 y8
    refine⟨?_,_,e,⟨n+1,by omega,(fun j hj=>by
     by_cases q:j < n
     ·exact hne j q
     ·rw[show j=n by omega]; exact h),z4,z5,z6,z7,z8,rfl⟩,?_⟩
    ·cases hl:jc b s n with
     | nil=>exact vDa hl h
     | cons a l=>rfl
    ·show 100 - (JW b s (n+1)).length < 100 - (JW b s n).length
     rw[ZI,ZI]
     omega) (n:=20000) (ρ:=[.bo (jg C b),.cl (j5 s),.ow none (.lst (JW b s 0)),.cl (.lst ((jc b s 0).map j5)),.un,.un,.un,.un,.un]) ⟨0,by omega,(fun j hj=>vDa hj (Nat.not_lt_zero _)),.un,.un,.un,.un,.un,rfl⟩ (by show 100 - (JW b s 0).length < 20000; omega)
 have e:jc b s n=[]:=by
  cases hl:jc b s n with
  | nil=>rfl
  | cons a l=>rw[hl]at hq; cases hq
 refine⟨n,?_,hn,e,hne⟩
 simp only[zL,zK]
 have e0:JW b s 0=[]:=rfl
 have e1:(jc b s 0).map j5=[j5 s]:=rfl
 rw[e0,e1]at W1
 simp[W1]
def AO(b:Bk)(t:Sd):D:=.tup [j5 t,yR b t]
theorem GT(b:Bk):∀l:List Sd,List.zipWith (fun k v=>D.tup [k,v]) (l.map j5) (l.map (yR b))=l.map (AO b)
 | []=>rfl
 | s::l=>by rw[List.map_cons,List.map_cons,List.zipWith_cons_cons,GT b l]; rfl
end M
namespace M
open PySem L2 DS
def Go(b:Bk):Nat->Sd->Int
 | 0,_=>1
 | f+1,s=>((jd b s).map fun p=>Go b f p.2).sum
def Jg(b:Bk)(s:Sd):Int:=Go b (b.size - s.place).toNat s
theorem Gp{b:Bk}{s:Sd}(h:s.place=b.size):Jg b s=1:=by
 unfold Jg
 rw[h,Int.sub_self]
 rfl
theorem Vq{b:Bk}{s:Sd}(X:Fit b s)(h:s.place < b.size):Jg b s=((jd b s).map fun p=>Jg b p.2).sum:=by
 have e:(b.size - s.place).toNat=(b.size - (s.place+1)).toNat+1:=by omega
 unfold Jg
 rw[e,Go]
 congr 1
 refine List.map_congr_left fun p hp=>?_
 obtain⟨c,hc,e1,e2⟩:=YD hp
 rw[(yw X hc e2).2.1]
theorem KY{α:Type}(f:α->Int):∀l:List α,yO (l.map fun x=>D.int (f x))=some (l.map f)
 | []=>rfl
 | x::l=>by rw[List.map_cons,yO,KY f l]; rfl
end M
namespace M
open PySem L2 DS
theorem KZ:∀(N:Nat) (l:List Nat),l.Nodup->(∀x∈l,x < N)->l.length<=N
 | 0,l,_,h=>by
  cases l with
  | nil=>simp
  | cons x l=>exact vDa (h x wNa) (Nat.not_lt_zero _)
 | N+1,l,nd,h=>by
  by_cases e:N∈l
  ·have h1:=KZ N (l.erase N) (nd.erase N) fun x hx=>by
    have h2:=(nd.mem_erase_iff).mp hx
    have h3:=h x h2.2
    have h4:=h2.1
    omega
   rw[List.length_erase_of_mem e]at h1
   omega
  ·have h1:=KZ N l nd fun x hx=>by
    have h3:=h x hx
    by_cases q:x=N
    ·rw[q]at hx; exact vDa hx e
    ·omega
   omega
noncomputable def ZJ(B:Nat):List Nat->Nat
 | []=>0
 | x::l=>x+B * ZJ B l
theorem K_{B:Nat}(hB:0 < B):∀{l:List Nat},(∀x∈l,x < B)->ZJ B l < B ^ l.length
 | [],_=>by simp[ZJ]
 | x::l,h=>by
  have h1:=h x wNa
  have h2:=K_ hB fun y hy=>h y (wMa _ hy)
  rw[ZJ,List.length_cons,Nat.pow_succ,Nat.mul_comm _ B]
  have h3:B * (ZJ B l+1)<=B * B ^ l.length:=Nat.mul_le_mul_left B h2
  rw[Nat.mul_add]at h3
  omega
theorem Gq{B:Nat}(hB:0 < B):∀{l m:List Nat},(∀x∈l,x < B)->(∀x∈m,x < B)->l.length=m.length->ZJ B l=ZJ B m->l=m
 | [],[],_,_,_,_=>rfl
 | [],_::_,_,_,h,_=>by simp at h
 | _::_,[],_,_,h,_=>by simp at h
 | x::l,y::m,hl,hm,h,e=>by
  rw[ZJ,ZJ]at e
  have h1:=hl x wNa
  have h2:=hm y wNa
  have ex:x=y:=by
   have e1:(x+B * ZJ B l) % B=x:=by rw[Nat.add_mul_mod_self_left,Nat.mod_eq_of_lt h1]
   have e2:(y+B * ZJ B m) % B=y:=by rw[Nat.add_mul_mod_self_left,Nat.mod_eq_of_lt h2]
   rw[<-e1,<-e2,e]
  subst ex
  have el:ZJ B l=ZJ B m:=Nat.eq_of_mul_eq_mul_left hB (Nat.add_left_cancel e)
  rw[Gq hB (fun y hy=>hl y (List.mem_cons_of_mem _ hy)) (fun y hy=>hm y (List.mem_cons_of_mem _ hy)) (by simpa using h) el]
structure Sm (b:Bk) (s:Sd):Prop where
 fit:Fit b s
 l0:0<=s.len
 l1:s.len<=4
 b0:-1<=s.before
 b1:s.before < 4
 ws:∀x∈s.waits,0<=x/\x<=3
def AQ(s:Sd):Nat:=ZJ 4 (s.waits.map Int.toNat)
def AR(s:Sd):Nat:=ZJ 2 (s.met.map fun x=>if x=true then 1 else 0)
def Wr(s:Sd):Nat:=((((s.kind+1).toNat * 5+s.len.toNat) * 5+(s.before+1).toNat) * 256+AQ s) * 8+AR s
theorem Sm.w{b:Bk}{s:Sd}(S:Sm b s):∀x∈s.waits.map Int.toNat,x < 4:=fun x hx=>by
 obtain⟨y,hy,rfl⟩:=List.mem_map.mp hx
 have:=S.ws y hy
 omega
theorem ab(s:Sd):∀x∈s.met.map fun x=>if x=true then 1 else 0,x < 2:=fun x hx=>by
 obtain⟨y,hy,rfl⟩:=List.mem_map.mp hx
 cases y <;> decide
theorem w5{b:Bk}(ok:OkB b){s:Sd}(S:Sm b s):AQ s < 256:=by
 have h:=K_ (B:=4) (by decide) S.w
 rw[List.length_map,S.fit.w]at h
 have h1:4 ^ b.kinds.length<=4 ^ 4:=Nat.pow_le_pow_right (by decide) ok.k2
 exact Nat.lt_of_lt_of_le h h1
theorem w8{b:Bk}(ok:OkB b){s:Sd}(S:Sm b s):AR s < 8:=by
 have h:=K_ (B:=2) (by decide) (ab s)
 rw[List.length_map,S.fit.m]at h
 have h1:2 ^ b.dues.length<=2 ^ 3:=Nat.pow_le_pow_right (by decide) ok.d2
 exact Nat.lt_of_lt_of_le h h1
theorem eB{b:Bk}(ok:OkB b){s:Sd}(S:Sm b s):Wr s < 256000:=by
 have h1:=w5 ok S
 have h2:=w8 ok S
 have h3:=S.fit.c0
 have h4:=S.fit.c1
 have h5:=ok.k2
 have h6:=S.l0
 have h7:=S.l1
 have h8:=S.b0
 have h9:=S.b1
 unfold Wr
 omega
theorem BE{b:Bk}(ok:OkB b){s t:Sd}(S:Sm b s)(T:Sm b t)(hp:s.place=t.place)(e:Wr s=Wr t):s=t:=by
 have s1:=w5 ok S
 have s2:=w8 ok S
 have s3:=S.fit.c0
 have s4:=S.fit.c1
 have s6:=S.l0
 have s7:=S.l1
 have s8:=S.b0
 have s9:=S.b1
 have t1:=w5 ok T
 have t2:=w8 ok T
 have t3:=T.fit.c0
 have t4:=T.fit.c1
 have t6:=T.l0
 have t7:=T.l1
 have t8:=T.b0
 have t9:=T.b1
 unfold Wr at e
 have em:AR s=AR t:=by omega
 have ew:AQ s=AQ t:=by omega
 have eb:s.before=t.before:=by omega
 have el:s.len=t.len:=by omega
 have ek:s.kind=t.kind:=by omega
 have w1:=Gq (by decide) S.w T.w (by rw[List.length_map,List.length_map,S.fit.w,T.fit.w]) ew
 have m1:=Gq (by decide) (ab s) (ab t) (by rw[List.length_map,List.length_map,S.fit.m,T.fit.m]) em
 have m2:s.met=t.met:=Vo (fun a b e=>by cases a <;> cases b <;> first | rfl | (simp at e)) m1
 have w2:s.waits=t.waits:=by
  have key:∀l m:List Int,(∀x∈l,0<=x/\x<=3)->(∀x∈m,0<=x/\x<=3)->l.map Int.toNat=m.map Int.toNat->l=m:=by
   intro l
   induction l with
   | nil=>intro m _ _ h; cases m with | nil=>rfl | cons _ _=>simp at h
   | cons x l ih=>
    intro m hl hm h
    cases m with
    | nil=>simp at h
    | cons y m=>
     rw[List.map_cons,List.map_cons]at h
     injection h with h1 h2
     have a1:=hl x wNa
     have a2:=hm y wNa
     rw[ih m (fun z hz=>hl z (List.mem_cons_of_mem _ hz)) (fun z hz=>hm z (List.mem_cons_of_mem _ hz)) h2,show x=y by omega]
  exact key _ _ S.ws T.ws w1
 obtain⟨a1,a2,a3,a4,a5,a6⟩:=s
 obtain⟨c1,c2,c3,c4,c5,c6⟩:=t
 simp only at hp ek el eb w2 m2
 subst hp ek el eb w2 m2
 rfl
theorem Sm.empty(b:Bk):Sm b (jj b):=⟨Fit.empty b,by show(0:Int)<=0; decide,by show(0:Int)<=4; decide,by show(-1:Int)<=-1; decide,by show(-1:Int) < 4; decide,fun x hx=>by
 simp[jj]at hx
 omega⟩
theorem Sm.stand{b:Bk}(ok:OkB b){s:Sd}(S:Sm b s){k:Int}(h:JZ b k)(hb:jV b s k=none):Sm b (jC b s k):=by
 have hk:=S.fit.c0
 have hk1:=S.fit.c1
 have k2:=ok.k2
 have nl:Z_ b s k=false:=by
  have:=wG b s k
  rw[hb]at this
  have this:(zf b s k||(ky b s k||(UA b s k||UB b s k)))=false:=this.symm
  simp only[ky,Bool.or_eq_false_iff]at this
  exact this.2.1.1
 have f1:=KN h ok
 unfold fK at f1
 simp only[Bool.and_eq_true,decide_eq_true_eq]at f1
 refine⟨S.fit.next h,?_,?_,hk,by show s.kind < 4; omega,?_⟩
 ·show 0<=vq s k
  unfold vq
  have:=S.l0
  split <;> omega
 ·show vq s k<=4
  unfold vq
  split
  ·rename_i e
   unfold Z_ at nl
   rw[decide_eq_true e,Bool.true_and,decide_eq_false_iff_not]at nl
   omega
  ·omega
 ·intro x hx
  have hx:x∈yC b s k:=hx
  unfold yC at hx
  have base:∀y∈s.waits.map (fun x=>mx (x - 1) 0),0<=y/\y<=3:=fun y hy=>by
   obtain⟨z,hz,rfl⟩:=List.mem_map.mp hy
   have:=S.ws z hz
   unfold mx
   split <;> omega
  rcases Vn hx with hx | hx
  ·by_cases e:s.kind=-1
   ·rw[if_pos e]at hx
    exact base x hx
   ·rw[if_neg e]at hx
    rcases Vn hx with hx | hx
    ·exact base x hx
    ·have f2:=KN (k:=s.kind) ⟨by omega,hk1⟩ ok
     unfold fK at f2
     simp only[Bool.and_eq_true,decide_eq_true_eq]at f2
     rw[hx]
     unfold mx
     split <;> omega
  ·omega
theorem Sm.walk{b:Bk}(ok:OkB b):∀{row:List Int} {s s':Sd},Sm b s->(∀n∈row,JZ b n)->J0 b s row=(s',none)->Sm b s'
 | [],s,s',S,_,h=>by cases h; exact S
 | x::row,s,s',S,hr,h=>by
  rw[J0]at h
  cases hb:jV b s x with
  | some w=>rw[hb]at h; cases h
  | none=>
   rw[hb]at h
   exact Sm.walk ok (S.stand ok (hr x wNa) hb) (fun n hn=>hr n (wMa _ hn)) h
theorem wa{b:Bk}(ok:OkB b){s:Sd}(S:Sm b s):∀n,∀t∈jc b s n,Sm b t
 | 0,t,h=>by
  simp[jc]at h
  subst h
  exact S
 | n+1,t,h=>by
  obtain⟨u,hu,p,hp,rfl⟩:=zg.mp h
  obtain⟨c,hc,e1,e2⟩:=YD hp
  obtain⟨h1,h2,h3⟩:=Z9 e2
  rw[h2]
  exact(wa ok S n u hu).stand ok ⟨by omega,by omega⟩ h1
theorem BF{b:Bk}(ok:OkB b){s:Sd}(S:Sm b s)(n:Nat):(jc b s n).length<=256000:=by
 have h:=KZ 256000 ((jc b s n).map Wr) (by
  have nd:=xm b s n
  have hs:=wa ok S n
  have hp:∀t∈jc b s n,t.place=s.place+n:=fun t ht=>(YE S.fit n t ht).2.1
  revert nd hs hp
  generalize jc b s n=l
  intro nd hs hp
  induction l with
  | nil=>simp
  | cons x l ih=>
   rw[List.nodup_cons]at nd
   rw[List.map_cons,List.nodup_cons]
   refine⟨fun z=>?_,ih nd.2 (fun t ht=>hs t (wMa _ ht)) (fun t ht=>hp t (wMa _ ht))⟩
   obtain⟨y,hy,e⟩:=List.mem_map.mp z
   have:=BE ok (hs y (wMa _ hy)) (hs x wNa) (by rw[hp y (List.mem_cons_of_mem _ hy),hp x List.mem_cons_self]) e
   subst this
   exact nd.1 hy) (fun x hx=>by
   obtain⟨y,hy,rfl⟩:=List.mem_map.mp hx
   exact eB ok (wa ok S n y hy))
 rw[List.length_map]at h
 exact h
theorem AS{b:Bk}(ok:OkB b){s:Sd}(S:Sm b s)(p0:0<=s.place):∀n,((List.range n).flatMap (jc b s)).length<=256000 * (min n 32)
 | 0=>by simp
 | n+1=>by
  have ih:=AS ok S p0 n
  have s2:=ok.s2
  rw[List.range_succ,List.flatMap_append,List.length_append]
  simp only[List.flatMap_cons,List.flatMap_nil,List.append_nil]
  by_cases hn:n+1<=32
  ·have h1:=BF ok S n
   omega
  ·obtain⟨m,rfl⟩:∃m,n=m+1:=⟨n - 1,by omega⟩
   rw[Wq S.fit (n:=m) (by omega)]
   simp only[List.length_nil]
   omega
theorem eC{b:Bk}(ok:OkB b){row:List Int}(h:AL b row){s:Sd}(hw:J0 b (jj b) row=(s,none)):Lim b s:=by
 have R:=StOf.all h.1 hw
 have pl:=R.pl
 have h2:=h.2
 have S:=Sm.walk ok (Sm.empty b) h.1 hw
 refine⟨R.fo.toFit,by omega,by omega,fun n=>?_⟩
 have h1:=AS ok S (by omega) n
 omega
end M
namespace M
open PySem L2 DS
def cs(b:Bk)(ps:List (Int×Sd)):Int:=(ps.map fun p=>Jg b p.2).sum
theorem Za(b:Bk)(p:Int×Sd)(ps:List (Int×Sd)):cs b (p::ps)=Jg b p.2+cs b ps:=by
 unfold cs
 rw[List.map_cons,List.sum_cons]
theorem eD(b:Bk)(ps qs:List (Int×Sd)):cs b (ps++qs)=cs b ps+cs b qs:=by
 unfold cs
 rw[List.map_append,List.sum_append]
theorem wb(b:Bk):∀(f:Nat) (s:Sd),0<=Go b f s
 | 0,s=>by rw[Go]; decide
 | f+1,s=>by
  rw[Go]
  generalize jd b s=ps
  induction ps with
  | nil=>simp
  | cons p ps ih=>
   have:=wb b f p.2
   rw[List.map_cons,List.sum_cons]
   omega
theorem vX(b:Bk)(s:Sd):0<=Jg b s:=wb b _ s
theorem gr(b:Bk):∀ps:List (Int×Sd),0<=cs b ps
 | []=>by simp[cs]
 | p::ps=>by
  have h1:=vX b p.2
  have h2:=gr b ps
  rw[Za]
  omega
def GU(b:Bk):List (Int×Sd)->Int->Option ((Int×Sd)×Int)
 | [],_=>none
 | p::ps,x=>if x < Jg b p.2 then some (p,x)else GU b ps (x - Jg b p.2)
theorem Ws(b:Bk):∀(ps:List (Int×Sd)) (x:Int),0<=x->x < cs b ps->∃pre p post y,ps=pre++p::post/\GU b ps x=some (p,y)/\0<=y/\y < Jg b p.2/\x=cs b pre+y
 | [],x,h0,h1=>by simp[cs]at h1; omega
 | p::ps,x,h0,h1=>by
  rw[Za]at h1
  by_cases c:x < Jg b p.2
  ·exact⟨[],p,ps,x,rfl,by rw[GU,if_pos c],h0,c,by simp[cs]⟩
  ·obtain⟨pre,q,post,y,e1,e2,e3,e4,e5⟩:=Ws b ps (x - Jg b p.2) (by omega) (by omega)
   exact⟨p::pre,q,post,y,by rw[e1]; rfl,by rw[GU,if_neg c]; exact e2,e3,e4,by rw[Za]; omega⟩
theorem AU(b:Bk){p:Int×Sd}{post:List (Int×Sd)}{y:Int}(h0:0<=y)(h:y < Jg b p.2):∀pre:List (Int×Sd),GU b (pre++p::post) (cs b pre+y)=some (p,y)
 | []=>by
  rw[List.nil_append,GU,if_pos (by simp[cs]; omega)]
  simp[cs]
 | q::pre=>by
  have h1:=gr b pre
  rw[List.cons_append,GU,Za,if_neg (by omega),show Jg b q.2+cs b pre+y - Jg b q.2=cs b pre+y by omega]
  exact AU b h0 h pre
theorem wc(b:Bk)(s:Sd):∀n,(ZH b s n).Pairwise (fun p q=>p.1 < q.1)/\∀p∈ZH b s n,p.1 < (n:Int)
 | 0=>⟨List.Pairwise.nil,fun p hp=>by cases hp⟩
 | n+1=>by
  obtain⟨h1,h2⟩:=wc b s n
  rw[UD]
  cases hs:yv b s (n:Int)with
  | none=>
   rw[List.append_nil]
   exact⟨h1,fun p hp=>by have:=h2 p hp; omega⟩
  | some t=>
   refine⟨List.pairwise_append.mpr ⟨h1,List.pairwise_singleton _ _,fun p hp q hq=>?_⟩,fun p hp=>?_⟩
   ·rw[List.mem_singleton]at hq
    subst hq
    exact h2 p hp
   ·rcases List.mem_append.mp hp with hp | hp
    ·have:=h2 p hp; omega
    ·rw[List.mem_singleton]at hp
     subst hp
     show(n:Int) < _
     omega
theorem wd{pre post:List (Int×Sd)}{p:Int×Sd}(h:(pre++p::post).Pairwise (fun p q=>p.1 < q.1)):(pre++p::post).filter (fun q=>decide (q.1 < p.1))=pre:=by
 obtain⟨_,h2,h3⟩:=List.pairwise_append.mp h
 rw[List.filter_append]
 have e1:pre.filter (fun q=>decide (q.1 < p.1))=pre:=List.filter_eq_self.mpr fun q hq=>decide_eq_true (h3 q hq p wNa)
 have e2:(p::post).filter (fun q=>decide (q.1 < p.1))=[]:=List.filter_eq_nil_iff.mpr fun q hq=>by
  rcases List.mem_cons.mp hq with rfl | hq
  ·simp
  ·have:=(List.pairwise_cons.mp h2).1 q hq
   simp
   omega
 rw[e1,e2,List.append_nil]
def Vr(b:Bk):Sd->List Int->Int
 | _,[]=>0
 | s,k::r=>cs b ((jd b s).filter fun p=>decide (p.1 < k))+Vr b (jC b s k) r
def zW(b:Bk):Nat->Sd->Int->List Int
 | 0,_,_=>[]
 | f+1,s,x=>match GU b (jd b s) x with
  | some (p,y)=>p.1::zW b f p.2 y
  | none=>[]
theorem qI{b:Bk}:∀(f:Nat) (s:Sd) (x:Int),Fit b s->s.place+(f:Int)=b.size->0<=x->x < Jg b s->(zW b f s x).length=f/\(∃s',J0 b s (zW b f s x)=(s',none))/\(∀k∈zW b f s x,JZ b k)/\Vr b s (zW b f s x)=x
 | 0,s,x,X,hf,h0,h1=>by
  rw[Gp (by omega)]at h1
  exact⟨rfl,⟨s,rfl⟩,(fun k hk=>vDa hk (by simp[zW])),by show(0:Int)=x; omega⟩
 | f+1,s,x,X,hf,h0,h1=>by
  have e:=Vq (b:=b) X (by omega)
  rw[e]at h1
  obtain⟨pre,p,post,y,e1,e2,e3,e4,e5⟩:=Ws b (jd b s) x h0 h1
  have hp:p∈jd b s:=by rw[e1]; simp
  obtain⟨c,hc,g1,g2⟩:=YD hp
  obtain⟨b1,b2,b3⟩:=Z9 g2
  have X2:=(yw X hc g2).1
  have pl:=(yw X hc g2).2.1
  obtain⟨i1,⟨s',i2⟩,i3,i4⟩:=qI f p.2 y X2 (by omega) e3 e4
  have es:zW b (f+1) s x=p.1::zW b f p.2 y:=by rw[zW,e2]
  rw[es]
  refine⟨by rw[List.length_cons,i1],⟨s',?_⟩,?_,?_⟩
  ·rw[J0,g1,b1]
   show J0 b (jC b s (c:Int)) _=_
   rw[<-b2]
   exact i2
  ·intro k hk
   rcases List.mem_cons.mp hk with rfl | hk
   ·rw[g1]; exact⟨by omega,by omega⟩
   ·exact i3 k hk
  ·rw[Vr,show jC b s p.1=p.2 by rw[g1,<-b2],i4]
   have ha:=(wc b s b.kinds.length).1
   have ha:(jd b s).Pairwise (fun p q=>p.1 < q.1):=ha
   rw[e1]at ha⊢
   rw[wd ha]
   exact e5.symm
theorem xn{b:Bk}:∀(ext:List Int) (s s':Sd),Fit b s->s.place+(ext.length:Int)=b.size->(∀k∈ext,JZ b k)->J0 b s ext=(s',none)->0<=Vr b s ext/\Vr b s ext < Jg b s/\zW b ext.length s (Vr b s ext)=ext
 | [],s,s',X,hp,_,_=>by
  rw[Gp (by simpa using hp)]
  exact⟨by show(0:Int)<=0; decide,by show(0:Int) < 1; decide,rfl⟩
 | k::r,s,s',X,hp,hk,hw=>by
  rw[List.length_cons]at hp
  have kk:=hk k wNa
  rw[J0]at hw
  cases hb:jV b s k with
  | some w=>rw[hb]at hw; cases hw
  | none=>
   rw[hb]at hw
   have hw:J0 b (jC b s k) r=(s',none):=hw
   have ek:((k.toNat:Nat):Int)=k:=by have:=kk.1; omega
   have es:yv b s ((k.toNat:Nat):Int)=some (jC b s k):=by
    rw[ek]
    unfold yv
    rw[if_neg (by omega),hb]
    rfl
   have hc:k.toNat < b.kinds.length:=by have:=kk.1; have:=kk.2; omega
   have X2:=(yw X hc es).1
   have pl:=(yw X hc es).2.1
   obtain⟨i1,i2,i3⟩:=xn r (jC b s k) s' X2 (by omega) (fun z hz=>hk z (wMa _ hz)) hw
   have hm:(k,jC b s k)∈jd b s:=by
    unfold jd ZH
    exact List.mem_filterMap.mpr ⟨k.toNat,List.mem_range.mpr hc,by rw[es,ek]; rfl⟩
   obtain⟨pre,post,e1⟩:=List.append_of_mem hm
   have ha:(jd b s).Pairwise (fun p q=>p.1 < q.1):=(wc b s b.kinds.length).1
   have hfl:(jd b s).filter (fun p=>decide (p.1 < k))=pre:=by
    rw[e1]at ha⊢
    exact wd (p:=(k,jC b s k)) ha
   have hpre:=gr b pre
   have hpost:=gr b post
   have e:=Vq (b:=b) X (by omega)
   have e:Jg b s=cs b (jd b s):=e
   rw[Vr,hfl]
   refine⟨by omega,?_,?_⟩
   ·rw[e,e1,eD,Za]
    show cs b pre+Vr b (jC b s k) r < cs b pre+(Jg b (jC b s k)+cs b post)
    omega
   ·rw[List.length_cons,zW,e1,AU b (p:=(k,jC b s k)) i1 i2 pre]
    show k::zW b r.length (jC b s k) (Vr b (jC b s k) r)=_
    rw[i3]
end M
namespace M
open PySem L2 DS
noncomputable def Jp(row costs:List Int)(i k:Int):Int:=if row.getD i.toNat 0=k then 0 else costs.getD i.toNat 0
section
variable (b:Bk) (row costs:List Int) (dead:Int)
def ad:Nat->Sd->Int
 | 0,_=>0
 | f+1,s=>(yK ((jd b s).map fun p=>ad f p.2+Jp row costs s.place p.1)).getD dead
def JA(s:Sd):Int:=ad b row costs dead (b.size - s.place).toNat s
def nD(s:Sd):D:=.int (JA b row costs dead s)
end
variable {b:Bk} {row costs:List Int} {dead:Int}
theorem Wt{s:Sd}(h:s.place=b.size):JA b row costs dead s=0:=by
 unfold JA
 rw[h,Int.sub_self]
 rfl
theorem Vs{s:Sd}(X:Fit b s)(h:s.place < b.size):JA b row costs dead s=(yK ((jd b s).map fun p=>JA b row costs dead p.2+Jp row costs s.place p.1)).getD dead:=by
 have e:(b.size - s.place).toNat=(b.size - (s.place+1)).toNat+1:=by omega
 unfold JA
 rw[e,ad]
 congr 2
 refine List.map_congr_left fun p hp=>?_
 obtain⟨c,hc,e1,e2⟩:=YD hp
 rw[(yw X hc e2).2.1]
theorem Wu(C:Addr)(s:Sd)(k:Int)(h0:0<=s.place)(h1:s.place < (row.length:Int))(h2:s.place < (costs.length:Int)):Jw C [.lst (row.map .int),.lst (costs.map .int),j5 s,.int k]=some (.int (Jp row costs s.place k)):=by
 have e1:=JC (f:=D.int) (xs:=row) (d:=0) h0 h1
 have e2:=JC (f:=D.int) (xs:=costs) (d:=0) h0 h2
 simp only[Jw,zM]
 by_cases c:row.getD s.place.toNat 0=k
 ·simp[-List.getD_eq_getElem?_getD,e1,c,Jp]
 ·simp[-List.getD_eq_getElem?_getD,e1,e2,c,Jp]
theorem Wv:∀l:List Int,yO (l.map D.int)=some l
 | []=>rfl
 | x::l=>by rw[List.map_cons,yO,Wv l]; rfl
section
variable (C:Addr) (ok:OkB b) (hr:(row.length:Int)=b.size) (hc:(costs.length:Int)=b.size)
include ok hr hc
theorem Fo(r3 x6:Sl)(t:Sd)(X:Fit b t)(h0:0<=t.place)(hp:t.place<=b.size)(l:List Sd)(hl:l.length < 10000000)(hs:∀p∈jd b t,p.2∈l)(x9:Sl):∃y9:Sl,
  yf C [.bo (jg C b),.bo (.lst (row.map .int)),.bo (.lst (costs.map .int)),r3,.cl (.int dead),.ow none (.dct (l.map j5) (l.map (nD b row costs dead))),x6,.cl (j5 t),.cl (yR b t),x9]=
   some (.nx [.bo (jg C b),.bo (.lst (row.map .int)),.bo (.lst (costs.map .int)),r3,.cl (.int dead),.ow none (.dct ((jG l t).map j5) ((jG l t).map (nD b row costs dead))),x6,.cl (j5 t),.cl (yR b t),y9]):=by
 have hl':l.length < sizeLine:=by
  have e:(10000000:Nat) < sizeLine:=by decide
  omega
 have ef:jA C "size" (jg C b)=some (.int b.size):=by simp[jA,jg]
 unfold yf
 rw[CQ]
 by_cases h:t.place=b.size
 ·refine⟨x9,?_⟩
  have e0:jv (d2 Je (d2 jb (dV 7) (dK (.int 0))) (d1 (jA C "size") (dV 0))) [.bo (jg C b),.bo (.lst (row.map .int)),.bo (.lst (costs.map .int)),r3,.cl (.int dead),.ow none (.dct (l.map j5) (l.map (nD b row costs dead))),x6,.cl (j5 t),.cl (yR b t),x9]=some true:=by
   simp[ef,h]
  rw[e0]
  simp only[Option.bind_some,if_true]
  rw[gq (l:=l) (f:=nD b row costs dead) (s:=t) (q:=none) rfl (by simp[nD,Wt h]) rfl hl']
  rfl
 ·refine⟨.cl (.lst ((jd b t).map fun p=>.int (JA b row costs dead p.2+Jp row costs t.place p.1))),?_⟩
  have e0:jv (d2 Je (d2 jb (dV 7) (dK (.int 0))) (d1 (jA C "size") (dV 0))) [.bo (jg C b),.bo (.lst (row.map .int)),.bo (.lst (costs.map .int)),r3,.cl (.int dead),.ow none (.dct (l.map j5) (l.map (nD b row costs dead))),x6,.cl (j5 t),.cl (yR b t),x9]=some false:=by
   simp[ef,h]
  have e1:J8 (gT 2 (gC (gN 0) (gC (gN 1) gZ))) jH (d2 jB (d2 yJ (dV 2) (dV 1)) (j9 (Jw C) [(false,(dV 3)),(false,(dV 4)),(false,(dV 5)),(false,(dV 0))])) ((jd b t).map pD) [.un,.un,.ow none (.dct (l.map j5) (l.map (nD b row costs dead))),.bo (.lst (row.map .int)),.bo (.lst (costs.map .int)),.cl (j5 t)]=some ((jd b t).map fun p=>.int (JA b row costs dead p.2+Jp row costs t.place p.1)):=
   Jf pD _ fun p hq=>⟨[.cl (.int p.1),.cl (j5 p.2),.ow none (.dct (l.map j5) (l.map (nD b row costs dead))),.bo (.lst (row.map .int)),.bo (.lst (costs.map .int)),.cl (j5 t)],rfl,rfl,by
    have g:=vW (f:=nD b row costs dead) (hs p hq)
    have g2:=Wu (row:=row) (costs:=costs) C t p.1 h0 (by omega) (by omega)
    simp[g,g2,nD]⟩
  have e2:(jd b t).length<=sizeLine:=wSa (Wp b t _) (wQa (jw (by have:=ok.k2; omega)))
  rw[e0]
  simp only[Option.bind_some,Bool.false_eq_true,if_false]
  have e3:jr 9 (dL (JL 2 [5,1,2,7] (Jb (dP 8)) (gT 2 (gC (gN 0) (gC (gN 1) gZ))) jH (d2 jB (d2 yJ (dV 2) (dV 1)) (j9 (Jw C) [(false,(dV 3)),(false,(dV 4)),(false,(dV 5)),(false,(dV 0))])))) [.bo (jg C b),.bo (.lst (row.map .int)),.bo (.lst (costs.map .int)),r3,.cl (.int dead),.ow none (.dct (l.map j5) (l.map (nD b row costs dead))),x6,.cl (j5 t),.cl (yR b t),x9]=
    some (.nx [.bo (jg C b),.bo (.lst (row.map .int)),.bo (.lst (costs.map .int)),r3,.cl (.int dead),.ow none (.dct (l.map j5) (l.map (nD b row costs dead))),x6,.cl (j5 t),.cl (yR b t),.cl (.lst ((jd b t).map fun p=>.int (JA b row costs dead p.2+Jp row costs t.place p.1)))]):=by
   generalize (d2 jB (d2 yJ (dV 2) (dV 1)) (j9 (Jw C) [(false,(dV 3)),(false,(dV 4)),(false,(dV 5)),(false,(dV 0))]))=dd at e1⊢
   simp only[yR]
   simp[e1,e2,YM]
  rw[Qr,e3]
  simp only[Option.bind_some]
  rw[gq (l:=l) (f:=nD b row costs dead) (s:=t) (q:=none) rfl (by
   simp[KY (fun p:Int×Sd=>JA b row costs dead p.2+Jp row costs t.place p.1),nD,Vs (dead:=dead) X (by omega)]) rfl hl']
  rfl
theorem AV(r3 x6:Sl)(up:List Sd):∀(ts l:List Sd),(∀t∈ts,Fit b t/\0<=t.place/\t.place<=b.size/\∀p∈jd b t,p.2∈up)->(∀t∈up,t∈l)->l.length+ts.length < 10000000->∀x7 x8 x9:Sl,∃y7 y8 y9:Sl,
  Jj zd (yf C) (ts.map (AO b)) [.bo (jg C b),.bo (.lst (row.map .int)),.bo (.lst (costs.map .int)),r3,.cl (.int dead),.ow none (.dct (l.map j5) (l.map (nD b row costs dead))),x6,x7,x8,x9]=
  some (.nx [.bo (jg C b),.bo (.lst (row.map .int)),.bo (.lst (costs.map .int)),r3,.cl (.int dead),.ow none (.dct ((ts.foldl jG l).map j5) ((ts.foldl jG l).map (nD b row costs dead))),x6,y7,y8,y9])
 | [],l,_,_,_,x7,x8,x9=>⟨x7,x8,x9,rfl⟩
 | t::ts,l,h,hu,hl,x7,x8,x9=>by
  obtain⟨f1,f0,f2,f3⟩:=h t wNa
  have hlen:=UC l t
  rw[List.length_cons]at hl
  obtain⟨z9,e1⟩:=Fo (dead:=dead) C ok hr hc r3 x6 t f1 f0 f2 l (by omega) (fun p hp=>hu _ (f3 p hp)) x9
  obtain⟨y7,y8,y9,e2⟩:=AV r3 x6 up ts (jG l t) (fun u hu=>h u (wMa _ hu)) (fun u hv=>KU.mpr (.inl (hu u hv))) (by omega) (.cl (j5 t)) (.cl (yR b t)) z9
  refine⟨y7,y8,y9,?_⟩
  rw[List.map_cons,List.foldl_cons,Jj]
  have e0:zd (AO b t) [.bo (jg C b),.bo (.lst (row.map .int)),.bo (.lst (costs.map .int)),r3,.cl (.int dead),.ow none (.dct (l.map j5) (l.map (nD b row costs dead))),x6,x7,x8,x9]=some [.bo (jg C b),.bo (.lst (row.map .int)),.bo (.lst (costs.map .int)),r3,.cl (.int dead),.ow none (.dct (l.map j5) (l.map (nD b row costs dead))),x6,.cl (j5 t),.cl (yR b t),x9]:=rfl
  rw[e0]
  show(yf C _).bind _=_
  rw[e1]
  exact e2
theorem AW(s:Sd)(L:Lim b s)(r3:Sl):∀(m:Nat) (l:List Sd),(∀t∈jc b s m,t∈l)->l.length+((List.range m).flatMap (jc b s)).length < 10000000->∀x6 x7 x8 x9:Sl,∃(l':List Sd) (y6 y7 y8 y9:Sl),
  Jj ze (yg C) (JW b s m).reverse [.bo (jg C b),.bo (.lst (row.map .int)),.bo (.lst (costs.map .int)),r3,.cl (.int dead),.ow none (.dct (l.map j5) (l.map (nD b row costs dead))),x6,x7,x8,x9]=
  some (.nx [.bo (jg C b),.bo (.lst (row.map .int)),.bo (.lst (costs.map .int)),r3,.cl (.int dead),.ow none (.dct (l'.map j5) (l'.map (nD b row costs dead))),y6,y7,y8,y9])/\(∀t∈l,t∈l')/\∀j,j<=m->∀t∈jc b s j,t∈l'
 | 0,l,h,_,x6,x7,x8,x9=>⟨l,x6,x7,x8,x9,rfl,fun t ht=>ht,fun j hj t ht=>by
  have e:j=0:=by omega
  subst e
  exact h t ht⟩
 | m+1,l,h,hl,x6,x7,x8,x9=>by
  rw[List.range_succ,List.flatMap_append,List.length_append]at hl
  simp only[List.flatMap_cons,List.flatMap_nil,List.append_nil]at hl
  have p0:=L.p0
  obtain⟨y7,y8,y9,e1⟩:=AV (dead:=dead) C ok hr hc r3 (.cl (Yz b (jc b s m))) (jc b s (m+1)) (jc b s m) l (fun t ht=>⟨(YE L.fit m t ht).1,by have:=(YE L.fit m t ht).2.1; omega,by
   by_cases q:0 < m
   ·exact(YE L.fit m t ht).2.2 q
   ·have:=(YE L.fit m t ht).2.1
    have:=L.p1
    omega,fun p hp=>zg.mpr ⟨t,ht,p,hp,rfl⟩⟩) h (by omega) x7 x8 x9
  have hf:=Vp (jc b s m) l
  obtain⟨l',z6,z7,z8,z9,e2,e3,e6⟩:=AW s L r3 m ((jc b s m).foldl jG l) (fun t ht=>ZG.mpr (.inr ht)) (by omega) (.cl (Yz b (jc b s m))) y7 y8 y9
  refine⟨l',z6,z7,z8,z9,?_,fun t ht=>e3 t (ZG.mpr (.inl ht)),fun j hj t ht=>?_⟩
  rotate_left
  ·by_cases q:j<=m
   ·exact e6 j q t ht
   ·have e:j=m+1:=by omega
    subst e
    exact e3 t (ZG.mpr (.inl (h t ht)))
  rw[GR,List.reverse_append,List.reverse_singleton,List.singleton_append,Jj]
  have e0:ze (Yz b (jc b s m)) [.bo (jg C b),.bo (.lst (row.map .int)),.bo (.lst (costs.map .int)),r3,.cl (.int dead),.ow none (.dct (l.map j5) (l.map (nD b row costs dead))),x6,x7,x8,x9]=some [.bo (jg C b),.bo (.lst (row.map .int)),.bo (.lst (costs.map .int)),r3,.cl (.int dead),.ow none (.dct (l.map j5) (l.map (nD b row costs dead))),.cl (Yz b (jc b s m)),x7,x8,x9]:=rfl
  have e4:yg C [.bo (jg C b),.bo (.lst (row.map .int)),.bo (.lst (costs.map .int)),r3,.cl (.int dead),.ow none (.dct (l.map j5) (l.map (nD b row costs dead))),.cl (Yz b (jc b s m)),x7,x8,x9]=some (.nx [.bo (jg C b),.bo (.lst (row.map .int)),.bo (.lst (costs.map .int)),r3,.cl (.int dead),.ow none (.dct (((jc b s m).foldl jG l).map j5) (((jc b s m).foldl jG l).map (nD b row costs dead))),.cl (Yz b (jc b s m)),y7,y8,y9]):=by
   unfold yg
   rw[Qu]
   have e5:ud (dP 6) [.bo (jg C b),.bo (.lst (row.map .int)),.bo (.lst (costs.map .int)),r3,.cl (.int dead),.ow none (.dct (l.map j5) (l.map (nD b row costs dead))),.cl (Yz b (jc b s m)),x7,x8,x9]=some ((jc b s m).map (AO b)):=by
    rw[Xq]
    show vM (Yz b (jc b s m))=_
    rw[Yz,QG,GT]
   rw[e5,Option.bind_some]
   exact e1
  rw[e0]
  show(yg C _).bind _=_
  rw[e4]
  exact e2
theorem kb(s:Sd)(L:Lim b s)(n:Nat)(e2:jc b s n=[]):∃l:List Sd,ZB C [jg C b,.lst (row.map .int),.lst (costs.map .int),.lst (JW b s n)]=some (.dct (l.map j5) (l.map (nD b row costs (costs.sum+1))))/\∀j,j<=n->∀t∈jc b s j,t∈l:=by
 obtain⟨l,y6,y7,y8,y9,e3,_,e4⟩:=AW (dead:=costs.sum+1) C ok hr hc s L (.bo (.lst (JW b s n))) n [] (fun t ht=>by rw[e2]at ht; cases ht) (by have:=L.tot n; simpa using this) .un .un .un .un
 refine⟨l,?_,e4⟩
 simp only[ZB,ZA]
 rw[List.map_nil,List.map_nil]at e3
 simp[Wv,ZS,e3]
end
end M
namespace M
open PySem L2 DS
theorem we:∀(l:List Int) (x:Int),zV x l<=x/\∀y∈l,zV x l<=y
 | [],x=>⟨vEa _,fun y hy=>vDa hy (by simp)⟩
 | z::l,x=>by
  obtain⟨h1,h2⟩:=we l (if z < x then z else x)
  have e:zV x (z::l)=zV (if z < x then z else x) l:=rfl
  rw[e]
  have h3:(if z < x then z else x)<=x/\(if z < x then z else x)<=z:=by split <;> omega
  refine⟨by omega,fun y hy=>?_⟩
  rcases List.mem_cons.mp hy with rfl | hy
  ·omega
  ·exact h2 y hy
theorem Ww:∀(l:List Int) (x:Int),zV x l=x∨zV x l∈l
 | [],x=>.inl rfl
 | z::l,x=>by
  have e:zV x (z::l)=zV (if z < x then z else x) l:=rfl
  rw[e]
  rcases Ww l (if z < x then z else x)with h | h
  ·rw[h]
   split
   ·exact .inr wNa
   ·exact .inl rfl
  ·exact .inr (wMa _ h)
theorem BG{l:List Int}{m y:Int}(h:yK l=some m)(hy:y∈l):m<=y:=by
 cases l with
 | nil=>cases h
 | cons x l=>
  cases h
  rcases List.mem_cons.mp hy with rfl | hy
  ·exact(we l y).1
  ·exact(we l x).2 y hy
theorem wf{l:List Int}{m:Int}(h:yK l=some m):m∈l:=by
 cases l with
 | nil=>cases h
 | cons x l=>
  cases h
  rcases Ww l x with h | h
  ·rw[h]; exact wNa
  ·exact wMa _ h
def Vt(row costs:List Int):Int->List Int->Int
 | _,[]=>0
 | i,k::r=>Jp row costs i k+Vt row costs (i+1) r
variable {b:Bk} {row costs:List Int} {dead:Int}
theorem Wx{s:Sd}{k:Int}(kk:JZ b k)(hb:jV b s k=none)(hp:s.place < b.size):(k,jC b s k)∈jd b s:=by
 have ek:((k.toNat:Nat):Int)=k:=by have:=kk.1; omega
 have es:yv b s ((k.toNat:Nat):Int)=some (jC b s k):=by
  rw[ek]
  unfold yv
  rw[if_neg (by omega),hb]
  rfl
 have hc:k.toNat < b.kinds.length:=by have:=kk.1; have:=kk.2; omega
 exact List.mem_filterMap.mpr ⟨k.toNat,List.mem_range.mpr hc,by rw[es,ek]; rfl⟩
theorem xo:∀(ext:List Int) (s s':Sd),Fit b s->s.place+(ext.length:Int)=b.size->(∀k∈ext,JZ b k)->J0 b s ext=(s',none)->JA b row costs dead s<=Vt row costs s.place ext
 | [],s,s',X,hp,_,_=>by
  rw[Wt (by simpa using hp)]
  exact vEa _
 | k::r,s,s',X,hp,hk,hw=>by
  rw[List.length_cons]at hp
  have kk:=hk k wNa
  rw[J0]at hw
  cases hb:jV b s k with
  | some w=>rw[hb]at hw; cases hw
  | none=>
   rw[hb]at hw
   have hw:J0 b (jC b s k) r=(s',none):=hw
   have hm:=Wx kk hb (by omega)
   have X2:Fit b (jC b s k):=X.next kk
   have pl:(jC b s k).place=s.place+1:=rfl
   have ih:=xo r (jC b s k) s' X2 (by omega) (fun z hz=>hk z (wMa _ hz)) hw
   rw[Vs X (by omega),Vt]
   cases hmin:yK ((jd b s).map fun p=>JA b row costs dead p.2+Jp row costs s.place p.1)with
   | none=>
    exfalso
    cases he:jd b s with
    | nil=>rw[he]at hm; cases hm
    | cons a l=>rw[he]at hmin; cases hmin
   | some m=>
    have:m<=JA b row costs dead (jC b s k)+Jp row costs s.place k:=BG hmin (List.mem_map.mpr ⟨_,hm,rfl⟩)
    rw[pl]at ih
    show m<=_
    omega
theorem Wy{b:Bk}:∀{ps:List (Int×Sd)},cs b ps=0->∀p∈ps,Jg b p.2=0
 | [],_,p,hp=>by cases hp
 | q::ps,h,p,hp=>by
  rw[Za]at h
  have h1:=vX b q.2
  have h2:=gr b ps
  rcases List.mem_cons.mp hp with rfl | hp
  ·omega
  ·exact Wy (by omega) p hp
theorem Wz(hc:∀c∈costs,0<=c)(i k:Int):0<=Jp row costs i k:=by
 unfold Jp
 split
 ·exact vEa _
 ·by_cases h:i.toNat < costs.length
  ·rw[List.getD_eq_getElem?_getD,List.getElem?_eq_getElem h]
   exact hc _ (List.getElem_mem h)
  ·rw[List.getD_eq_getElem?_getD,List.getElem?_eq_none (by omega)]
   exact vEa _
theorem wg(hc:∀c∈costs,0<=c):∀(f:Nat) (s:Sd),Fit b s->s.place+(f:Int)=b.size->Jg b s=0->dead<=JA b row costs dead s
 | 0,s,X,hp,h=>by
  rw[Gp (by omega)]at h
  omega
 | f+1,s,X,hp,h=>by
  have e:=Vq (b:=b) X (by omega)
  have e:Jg b s=cs b (jd b s):=e
  rw[h]at e
  rw[Vs X (by omega)]
  cases hmin:yK ((jd b s).map fun p=>JA b row costs dead p.2+Jp row costs s.place p.1)with
  | none=>exact vEa _
  | some m=>
   obtain⟨p,hp1,rfl⟩:=List.mem_map.mp (wf hmin)
   obtain⟨c,hcc,g1,g2⟩:=YD hp1
   have sf:=yw X hcc g2
   have ih:=wg hc f p.2 sf.1 (by have:=sf.2.1; omega) (Wy e.symm p hp1)
   have:=Wz (row:=row) hc s.place p.1
   show dead<=JA b row costs dead p.2+Jp row costs s.place p.1
   omega
theorem xp:∀{l:List Int},(∀c∈l,0<=c)->0<=l.sum
 | [],_=>vEa _
 | x::l,h=>by
  rw[List.sum_cons]
  have h1:=h x wNa
  have h2:=xp fun c (hc:c∈l)=>h c (wMa _ hc)
  omega
theorem wj(hc:∀c∈costs,0<=c):∀(ext:List Int) (i:Nat),i+ext.length<=costs.length->Vt row costs (i:Int) ext<=(costs.drop i).sum
 | [],i,_=>by
  show 0<=_
  exact xp fun c h=>hc c (List.mem_of_mem_drop h)
 | k::r,i,h=>by
  rw[List.length_cons]at h
  have hi:i < costs.length:=by omega
  have ih:=wj hc r (i+1) (by omega)
  rw[List.drop_eq_getElem_cons hi,List.sum_cons,Vt]
  have ht:Jp row costs (i:Int) k<=costs[i]:=by
   unfold Jp
   split
   ·exact hc _ (List.getElem_mem hi)
   ·rw[Int.toNat_natCast,List.getD_eq_getElem?_getD,List.getElem?_eq_getElem hi]
    exact vEa _
  have e:((i:Int)+1)=((i+1:Nat):Int):=by omega
  rw[e]
  omega
end M
namespace M
open PySem L2 DS
variable {b:Bk} {row costs:List Int} {dead:Int}
theorem wk{s:Sd}:∀(ext:List Int) (j:Nat) (t t':Sd),t∈jc b s j->t.place+(ext.length:Int)<=b.size->(∀k∈ext,JZ b k)->J0 b t ext=(t',none)->t'∈jc b s (j+ext.length)
 | [],j,t,t',ht,_,_,hw=>by cases hw; exact ht
 | k::r,j,t,t',ht,hp,hk,hw=>by
  rw[List.length_cons]at hp
  rw[J0]at hw
  cases hb:jV b t k with
  | some w=>rw[hb]at hw; cases hw
  | none=>
   rw[hb]at hw
   have hw:J0 b (jC b t k) r=(t',none):=hw
   have hm:=Wx (hk k wNa) hb (by omega)
   have pl:(jC b t k).place=t.place+1:=rfl
   have:=wk r (j+1) (jC b t k) t' (zg.mpr ⟨t,ht,_,hm,rfl⟩) (by omega) (fun z hz=>hk z (wMa _ hz)) hw
   rw[List.length_cons,show j+(r.length+1)=j+1+r.length by omega]
   exact this
theorem WA{s:Sd}:∀(j:Nat) (t:Sd),t∈jc b s j->∃ext:List Int,ext.length=j/\(∀k∈ext,JZ b k)/\J0 b s ext=(t,none)
 | 0,t,h=>by
  simp[jc]at h
  subst h
  exact⟨[],rfl,(fun k hk=>vDa hk (by simp)),rfl⟩
 | j+1,t,h=>by
  obtain⟨u,hu,p,hp,rfl⟩:=zg.mp h
  obtain⟨c,hc,e1,e2⟩:=YD hp
  obtain⟨b1,b2,b3⟩:=Z9 e2
  obtain⟨ext,h1,h2,h3⟩:=WA j u hu
  refine⟨ext++[(c:Int)],by rw[List.length_append,h1]; rfl,ZF h2 ⟨by omega,by omega⟩,?_⟩
  rw[b2]
  exact gl h3 b1
theorem WB{s:Sd}(X:Fit b s){m:Nat}(hm:s.place+(m:Int)=b.size):jc b s m=[]↔Jg b s=0:=by
 constructor
 ·intro h
  refine Classical.byContradiction fun c=>?_
  have:=vX b s
  obtain⟨i1,⟨s',i2⟩,i3,_⟩:=qI m s 0 X hm (vEa 0) (by omega)
  have:=wk (s:=s) (zW b m s 0) 0 s s' (by simp[jc]) (by rw[i1]; omega) i3 i2
  rw[i1,Nat.zero_add,h]at this
  cases this
 ·intro h
  rw[List.eq_nil_iff_forall_not_mem]
  intro t ht
  obtain⟨ext,h1,h2,h3⟩:=WA m t ht
  obtain⟨n1,n2,_⟩:=xn ext s t X (by rw[h1]; exact hm) h2 h3
  omega
theorem UE{s:Sd}{n:Nat}(h:jc b s n=[]):∀m,jc b s (n+m)=[]
 | 0=>h
 | m+1=>by
  show YV b (jc b s (n+m))=[]
  rw[UE h m]
  rfl
section
variable (b row costs dead)
def UF(s:Sd)(p:Int×Sd):Bool:=decide (JA b row costs dead p.2+Jp row costs s.place p.1=JA b row costs dead s)
def WC:Nat->Sd->List Int
 | 0,_=>[]
 | f+1,s=>match (jd b s).find? (UF b row costs dead s)with
  | some p=>p.1::WC f p.2
  | none=>[]
end
theorem xq{s:Sd}(X:Fit b s)(hp:s.place < b.size)(hc:0 < Jg b s):∃p,(jd b s).find? (UF b row costs dead s)=some p/\p∈jd b s/\JA b row costs dead p.2+Jp row costs s.place p.1=JA b row costs dead s:=by
 cases hf:(jd b s).find? (UF b row costs dead s)with
 | some p=>exact⟨p,rfl,List.mem_of_find?_eq_some hf,by
   have h:UF b row costs dead s p=true:=List.find?_some hf
   exact vCa h⟩
 | none=>
  exfalso
  rw[List.find?_eq_none]at hf
  have e:=Vq (b:=b) X hp
  cases hs:jd b s with
  | nil=>rw[e,hs]at hc; simp at hc
  | cons q l=>
   have e2:=Vs (row:=row) (costs:=costs) (dead:=dead) X hp
   cases hmin:yK ((jd b s).map fun p=>JA b row costs dead p.2+Jp row costs s.place p.1)with
   | none=>rw[hs]at hmin; cases hmin
   | some m=>
    rw[hmin]at e2
    obtain⟨p,hp1,hp2⟩:=List.mem_map.mp (wf hmin)
    exact hf p hp1 (decide_eq_true (by rw[hp2,e2]; rfl))
section
variable (C:Addr) (ok:OkB b) (hr:(row.length:Int)=b.size) (hc:(costs.length:Int)=b.size)
include ok hr hc
theorem WD(r0:Sl)(l:List Sd)(s:Sd)(hs:s∈l)(h0:0<=s.place)(h1:s.place < b.size):∀(ps:List (Int×Sd)),(∀p∈ps,p.2∈l)->∀(x5 x6:Sl),∃y5 y6:Sl,
  Jj Y9 (J4 C) (ps.map pD) [r0,.bo (.lst (row.map .int)),.bo (.lst (costs.map .int)),.bo (.dct (l.map j5) (l.map (nD b row costs dead))),.bo (j5 s),x5,x6]=
  match ps.find? (UF b row costs dead s)with
  | some p=>some (.rt (.tup [.int p.1,j5 p.2]))
  | none=>some (.nx [r0,.bo (.lst (row.map .int)),.bo (.lst (costs.map .int)),.bo (.dct (l.map j5) (l.map (nD b row costs dead))),.bo (j5 s),y5,y6])
 | [],_,x5,x6=>⟨x5,x6,rfl⟩
 | p::ps,h,x5,x6=>by
  have g:=vW (f:=nD b row costs dead) (h p wNa)
  have g1:=vW (f:=nD b row costs dead) hs
  have g2:=Wu (row:=row) (costs:=costs) C s p.1 h0 (by omega) (by omega)
  obtain⟨y5,y6,e⟩:=WD r0 l s hs h0 h1 ps (fun q hq=>h q (wMa _ hq)) (.cl (.int p.1)) (.cl (j5 p.2))
  refine⟨y5,y6,?_⟩
  rw[List.map_cons,Jj,List.find?_cons]
  have e0:Y9 (pD p) [r0,.bo (.lst (row.map .int)),.bo (.lst (costs.map .int)),.bo (.dct (l.map j5) (l.map (nD b row costs dead))),.bo (j5 s),x5,x6]=some [r0,.bo (.lst (row.map .int)),.bo (.lst (costs.map .int)),.bo (.dct (l.map j5) (l.map (nD b row costs dead))),.bo (j5 s),.cl (.int p.1),.cl (j5 p.2)]:=rfl
  rw[e0]
  show(J4 C _).bind _=_
  cases hf:UF b row costs dead s p with
  | true=>
   have hf:=vCa hf
   have e1:J4 C [r0,.bo (.lst (row.map .int)),.bo (.lst (costs.map .int)),.bo (.dct (l.map j5) (l.map (nD b row costs dead))),.bo (j5 s),.cl (.int p.1),.cl (j5 p.2)]=some (.rt (.tup [.int p.1,j5 p.2])):=by
    simp only[J4]
    simp[g,g1,g2,nD,hf]
   rw[e1]
   rfl
  | false=>
   have hf:=of_decide_eq_false hf
   have e1:J4 C [r0,.bo (.lst (row.map .int)),.bo (.lst (costs.map .int)),.bo (.dct (l.map j5) (l.map (nD b row costs dead))),.bo (j5 s),.cl (.int p.1),.cl (j5 p.2)]=some (.nx [r0,.bo (.lst (row.map .int)),.bo (.lst (costs.map .int)),.bo (.dct (l.map j5) (l.map (nD b row costs dead))),.bo (j5 s),.cl (.int p.1),.cl (j5 p.2)]):=by
    simp only[J4]
    simp[g,g1,g2,nD,hf]
   rw[e1]
   exact e
theorem ae(l:List Sd)(s:Sd)(X:Fit b s)(hs:s∈l)(h0:0<=s.place)(h1:s.place < b.size)(hl:∀p∈jd b s,p.2∈l)(p:Int×Sd)(hp:(jd b s).find? (UF b row costs dead s)=some p):YU C [jg C b,.lst (row.map .int),.lst (costs.map .int),.dct (l.map j5) (l.map (nD b row costs dead)),j5 s]=some (.tup [.int p.1,j5 p.2]):=by
 have e5:=KW C b s ok X
 obtain⟨y5,y6,e⟩:=WD (dead:=dead) C ok hr hc (.bo (jg C b)) l s hs h0 h1 (jd b s) hl .un .un
 rw[hp]at e
 simp only[YU,YT]
 simp[e5,e]
theorem wl(hcc:∀c∈costs,0<=c)(s0:Sd)(l:List Sd)(hl:∀j,∀t∈jc b s0 j,t∈l):∀(m n:Nat) (r:List Int) (t:Sd) (j:Nat),(r.length:Int)+(m:Int)=b.size->m < n->Fit b t->t.place=(r.length:Int)->t∈jc b s0 j->0 < Jg b t->JA b row costs dead t < dead->∀x6:Sl,∃y5 y6:Sl,
  zT (Ji C) (JU C) n [.bo (jg C b),.bo (.lst (row.map .int)),.bo (.lst (costs.map .int)),.bo (.dct (l.map j5) (l.map (nD b row costs dead))),.ow none (.lst (r.map .int)),.cl (j5 t),x6]=
  some (.nx [.bo (jg C b),.bo (.lst (row.map .int)),.bo (.lst (costs.map .int)),.bo (.dct (l.map j5) (l.map (nD b row costs dead))),.ow none (.lst ((r++WC b row costs dead m t).map .int)),y5,y6])
 | m,0,_,_,_,_,hn,_,_,_,_,_,x6=>vDa hn (Nat.not_lt_zero _)
 | 0,n+1,r,t,j,hm,hn,X,hp,ht,h1,hd,x6=>by
  have ef:jA C "size" (jg C b)=some (.int b.size):=by simp[jA,jg]
  have hq:Ji C [.bo (jg C b),.bo (.lst (row.map .int)),.bo (.lst (costs.map .int)),.bo (.dct (l.map j5) (l.map (nD b row costs dead))),.ow none (.lst (r.map .int)),.cl (j5 t),x6]=some false:=by
   have:¬(r.length:Int) < b.size:=by omega
   simp only[Ji]
   simp[ef,JD,this]
  refine⟨.cl (j5 t),x6,?_⟩
  rw[zT,hq,WC,List.append_nil]
  rfl
 | m+1,n+1,r,t,j,hm,hn,X,hp,ht,h1,hd,x6=>by
  have s2:=ok.s2
  have ef:jA C "size" (jg C b)=some (.int b.size):=by simp[jA,jg]
  have hq:Ji C [.bo (jg C b),.bo (.lst (row.map .int)),.bo (.lst (costs.map .int)),.bo (.dct (l.map j5) (l.map (nD b row costs dead))),.ow none (.lst (r.map .int)),.cl (j5 t),x6]=some true:=by
   have:(r.length:Int) < b.size:=by omega
   simp only[Ji]
   simp[ef,JD,this]
  have hst:∀p∈jd b t,p.2∈jc b s0 (j+1):=fun p hp=>zg.mpr ⟨t,ht,p,hp,rfl⟩
  obtain⟨p,e1,e2,e3⟩:=xq (row:=row) (costs:=costs) (dead:=dead) X (by omega) h1
  have ev:=ae (dead:=dead) C ok hr hc l t X (hl _ _ ht) (by omega) (by omega) (fun p hp=>hl _ _ (hst p hp)) p e1
  obtain⟨c,hcl,g1,g2⟩:=YD e2
  have sf:=yw X hcl g2
  have pl:=sf.2.1
  have htl:=Wz (row:=row) hcc t.place p.1
  have hpc:0 < Jg b p.2:=by
   have h0:=vX b p.2
   refine Classical.byContradiction fun z=>?_
   have:=wg (row:=row) (dead:=dead) hcc m p.2 sf.1 (by omega) (by omega)
   omega
  have zl:r.length < sizeLine:=jw (by omega)
  have ew:JU C [.bo (jg C b),.bo (.lst (row.map .int)),.bo (.lst (costs.map .int)),.bo (.dct (l.map j5) (l.map (nD b row costs dead))),.ow none (.lst (r.map .int)),.cl (j5 t),x6]=some (.nx [.bo (jg C b),.bo (.lst (row.map .int)),.bo (.lst (costs.map .int)),.bo (.dct (l.map j5) (l.map (nD b row costs dead))),.ow none (.lst ((r++[p.1]).map .int)),.cl (j5 p.2),.cl (.int p.1)]):=by
   simp only[JU]
   simp[ev,zl]
  obtain⟨y5,y6,ih⟩:=wl hcc s0 l hl m n (r++[p.1]) p.2 (j+1) (by simp; omega) (by omega) sf.1 (by simp; omega) (hst p e2) hpc (by omega) (.cl (.int p.1))
  refine⟨y5,y6,?_⟩
  rw[zT,hq,Option.bind_some,if_pos rfl,ew]
  show zT _ _ n _=_
  rw[ih,WC,e1,List.append_assoc]
  rfl
end
end M
namespace M
open PySem L2 DS
variable {b:Bk} {row costs:List Int}
theorem GV(ok:OkB b):Lim b (jj b):=eC (row:=[]) ok ⟨(fun n hn=>vDa hn (by simp)),by have:=ok.s1; show((0:Nat):Int)<=_; omega⟩ rfl
section
variable (C:Addr) (ok:OkB b) (hr:(row.length:Int)=b.size) (hk:∀n∈row,JZ b n) (hc:(costs.length:Int)=b.size) (hcc:∀c∈costs,1<=c/\c<=9)
include ok hr hk hc hcc
theorem vY:ye C [jg C b,.lst (row.map .int),.lst (costs.map .int)]=some .non:=by
 have s2:=ok.s2
 have e1:=uq C b row ok ⟨hk,by omega⟩
 have ef:jA C "size" (jg C b)=some (.int b.size):=by simp[jA,jg]
 have e2:J8 (gN 0) jH (jR jM jM (dK (.int 1)) (dV 0) (dK (.int 9))) (costs.map D.int) [.un]=some (costs.map fun _=>.bl true):=Jf D.int _ fun c hx=>⟨[.cl (.int c)],rfl,rfl,by
  have h:=hcc c hx
  simp[jM,h.1,h.2]⟩
 have e3:Y7 [.lst (costs.map fun _=>D.bl true)]=some (.bl true):=by
  show(Zf _).bind _=_
  rw[Vb]
  simp
 have z:costs.length<=sizeLine:=wQa (jw (by omega))
 have n1:¬(row.length:Int) < b.size:=by omega
 simp only[ye,Zp]
 simp[-Y7,e1,ef,hc,hr,n1,e2,e3,z,JD]
theorem af(hcnt:0 < Jg b (jj b)):JA b row costs (costs.sum+1) (jj b) < costs.sum+1:=by
 have s1:=ok.s1
 have X:=Fit.empty b
 have hp:(jj b).place+(((b.size).toNat:Nat):Int)=b.size:=by show(0:Int)+_=_; omega
 obtain⟨i1,⟨s',i2⟩,i3,i4⟩:=qI b.size.toNat (jj b) 0 X hp (vEa 0) hcnt
 have h1:=xo (row:=row) (costs:=costs) (dead:=costs.sum+1) _ (jj b) s' X (by rw[i1]; exact hp) i3 i2
 have h2:=wj (row:=row) (costs:=costs) (fun c h=>by have:=hcc c h; omega) (zW b b.size.toNat (jj b) 0) 0 (by rw[i1]; omega)
 rw[List.drop_zero]at h2
 have h3:Vt row costs (jj b).place (zW b b.size.toNat (jj b) 0)=Vt row costs ((0:Nat):Int) (zW b b.size.toNat (jj b) 0):=rfl
 omega
theorem xr(hcnt:Jg b (jj b)=0):ZC C [jg C b,.lst (row.map .int),.lst (costs.map .int)]=some .non:=by
 have s1:=ok.s1
 have e1:=vY C ok hr hk hc hcc
 have e2:=Uz C b ok
 obtain⟨n,e3,_,e4,e5⟩:=GS C b ok (jj b) (GV ok)
 have hn:(n:Int)<=b.size:=by
  refine Classical.byContradiction fun c=>?_
  have hl:=(WB (b:=b) (Fit.empty b) (m:=b.size.toNat) (by show(0:Int)+_=_; omega)).mpr hcnt
  exact e5 b.size.toNat (by omega) hl
 have ef:jA C "size" (jg C b)=some (.int b.size):=by simp[jA,jg]
 simp only[ZC,Vk]
 simp[e1,e2,e3,ef,ZI,jM,hn]
theorem xt(hcnt:0 < Jg b (jj b)):∃P:D,ZC C [jg C b,.lst (row.map .int),.lst (costs.map .int)]=some (.tup [.int (JA b row costs (costs.sum+1) (jj b)),.lst ((WC b row costs (costs.sum+1) b.size.toNat (jj b)).map .int),P]):=by
 have s1:=ok.s1
 have s2:=ok.s2
 have e1:=vY C ok hr hk hc hcc
 have e2:=Uz C b ok
 have L:=GV ok
 obtain⟨n,e3,n32,e4,e5⟩:=GS C b ok (jj b) L
 have hn:¬(n:Int)<=b.size:=fun c=>by
  have h1:=UE e4 (b.size.toNat - n)
  rw[show n+(b.size.toNat - n)=b.size.toNat by omega]at h1
  have hl:=(WB (b:=b) (Fit.empty b) (m:=b.size.toNat) (by show(0:Int)+_=_; omega)).mp h1
  omega
 obtain⟨l,e6,e7⟩:=kb (row:=row) (costs:=costs) C ok hr hc (jj b) L n e4
 have hl:∀j,∀t∈jc b (jj b) j,t∈l:=fun j t ht=>by
  by_cases q:j<=n
  ·exact e7 j q t ht
  ·have:=UE e4 (j - n)
   rw[show n+(j - n)=j by omega]at this
   rw[this]at ht
   cases ht
 have h0:jj b∈jc b (jj b) 0:=by simp[jc]
 have hlt:=af ok hr hk hc hcc hcnt
 obtain⟨y5,y6,e8⟩:=wl (dead:=costs.sum+1) C ok hr hc (fun c h=>by have:=hcc c h; omega) (jj b) l hl b.size.toNat 20000 [] (jj b) 0 (by simp; omega) (by omega) (Fit.empty b) rfl h0 hcnt hlt .un
 rw[List.nil_append,List.map_nil]at e8
 have e9:Yw C [jg C b,.lst (row.map .int),.lst (costs.map .int),.dct (l.map j5) (l.map (nD b row costs (costs.sum+1)))]=some (.lst ((WC b row costs (costs.sum+1) b.size.toNat (jj b)).map .int)):=by
  simp only[Yw,Yv]
  simp[e2,e8]
 have g:=vW (f:=nD b row costs (costs.sum+1)) (hl 0 _ h0)
 have ein:∀j,J8 (gN 0) jH (ym [(true,(dC 0)),(true,(d2 yJ (dV 1) (dV 0)))]) ((jc b (jj b) j).map j5) [.un,.cl (.dct (l.map j5) (l.map (nD b row costs (costs.sum+1))))]=some ((jc b (jj b) j).map fun t=>.tup [j5 t,nD b row costs (costs.sum+1) t]):=fun j=>
  Jf j5 _ fun t ht=>⟨[.cl (j5 t),.cl (.dct (l.map j5) (l.map (nD b row costs (costs.sum+1))))],rfl,rfl,by
   have:=vW (f:=nD b row costs (costs.sum+1)) (hl j t ht)
   simp[this]⟩
 have eout:J8 (gN 0) jH (dL (JL 1 [1] (uL (dP 0)) (gN 0) jH (ym [(true,(dC 0)),(true,(d2 yJ (dV 1) (dV 0)))]))) (JW b (jj b) n) [.un,.cl (.dct (l.map j5) (l.map (nD b row costs (costs.sum+1))))]=some ((List.range n).map fun j=>.lst ((jc b (jj b) j).map fun t=>.tup [j5 t,nD b row costs (costs.sum+1) t])):=by
  unfold JW
  refine Jf _ _ fun j hj=>⟨[.cl (Yz b (jc b (jj b) j)),.cl (.dct (l.map j5) (l.map (nD b row costs (costs.sum+1))))],rfl,rfl,?_⟩
  have zj:(jc b (jj b) j).length<=sizeLine:=by
   have:=L.len j
   have e:(10000000:Nat) < sizeLine:=by decide
   omega
  have ek:=ein j
  revert ek
  generalize (ym [(true,(dC 0)),(true,(d2 yJ (dV 1) (dV 0)))])=dd
  intro ek
  simp[Yz,uc,ek,zj,YM]
 have ef:jA C "size" (jg C b)=some (.int b.size):=by simp[jA,jg]
 have zn:n<=sizeLine:=wQa (jw (by omega))
 refine⟨.lst ((List.range n).map fun j=>.lst ((jc b (jj b) j).map fun t=>.tup [j5 t,nD b row costs (costs.sum+1) t])),?_⟩
 simp only[ZC,Vk]
 revert eout
 generalize (dL (JL 1 [1] (uL (dP 0)) (gN 0) jH (ym [(true,(dC 0)),(true,(d2 yJ (dV 1) (dV 0)))])))=dd
 intro eout
 simp[e1,e2,e3,ef,ZI,jM,hn,e6,e9,eout,zn,g,YM]
 rfl
end
end M
namespace M
open PySem L2 DS
theorem ah(C:Addr)(b:Bk)(ok:OkB b)(ds:List Int)(hd:41<=ds.length):∃row:List Int,zw C [YX b,.lst (ds.map .int)]=some (.lst (row.map .int))/\(row.length:Int)=b.size/\∀n∈row,JZ b n:=by
 have s1:=ok.s1
 have s2:=ok.s2
 have k1:=ok.k1
 have z62:j_ b.size=true:=y_ (by omega) (by omega)
 have a40:=JC (f:=D.int) (xs:=ds) (d:=0) (k:=40) (by decide) (by omega)
 generalize ds.getD (40:Int).toNat 0=v40 at a40
 obtain⟨ρ1,L1,r,x3,rfl,hr,hk⟩:=yV (g:=VB) (s:=Yn C) (items:=jT 0 b.size.toNat)
  (fun i ρ=>∃(r:List Int) (x3:Sl),ρ=[.bo (YX b),.bo (.lst (ds.map .int)),.ow none (.lst (r.map .int)),x3]/\r.length=i/\∀n∈r,JZ b n) (by
  rintro i d ρ hd' ⟨r,x3,rfl,hr,hk⟩
  obtain⟨hi,rfl⟩:=KO hd'
  have hi2:(i:Int) < (ds.length:Int):=by omega
  have ai:=JC (f:=D.int) (xs:=ds) (d:=0) (k:=(i:Int)) (by omega) hi2
  generalize ds.getD (i:Int).toNat 0=v at ai
  have pk:0 < b.kinds.length:=by omega
  have m1:=J1 (a:=v) (b:=(b.kinds.length:Int)) (by omega)
  have zr:r.length < sizeLine:=jw (by omega)
  have hk1:∀n∈r++[v % (b.kinds.length:Int)],JZ b n:=ZF hk ⟨m1.1,by omega⟩
  generalize ez:v % (b.kinds.length:Int)=z at hk1
  have em:r.map D.int++[D.int z]=(r++[z]).map D.int:=by rw[List.map_append]; rfl
  by_cases c:(v40 % 2=1/\0 < (i:Int))/\0 < v / 7 % 3
  ·obtain⟨⟨c1,c2⟩,c3⟩:=c
   have hl1:(i:Int) - 1 < ((r++[z]).length:Int):=by rw[List.length_append,hr]; simp; omega
   have ap:=JC (f:=D.int) (xs:=r++[z]) (d:=0) (k:=(i:Int) - 1) (by omega) hl1
   have hy:JZ b ((r++[z]).getD ((i:Int) - 1).toNat 0):=hk1 _ (XW (by omega) hl1)
   generalize (r++[z]).getD ((i:Int) - 1).toNat 0=y at ap hy
   have ix:∀n:Nat,n=i+1->vF n (i:Int)=some i:=fun n hn=>by
    have:=gh (n:=n) (k:=(i:Int)) (by omega) (by omega)
    rwa [Int.toNat_natCast]at this
   refine⟨_,_,rfl,?_,(r++[z]).set i y,.cl (.int (i:Int)),rfl,by rw[List.length_set,List.length_append,hr]; rfl,fun n hn=>?_⟩
   ·simp only[Yn]
    have c2':0 < i:=by omega
    have zi:i < sizeLine:=hr▸zr
    have es:((r++[z]).map D.int).set i (D.int y)=((r++[z]).set i y).map D.int:=by rw[List.map_set]
    simp[-List.map_append,-List.map_set,ai,a40,pk,ez,zi,em,c1,c2',c3,ap,ix,hr,yM,es]
   ·rcases List.mem_or_eq_of_mem_set hn with hn | rfl
    ·exact hk1 n hn
    ·exact hy
  ·refine⟨_,_,rfl,?_,r++[z],.cl (.int (i:Int)),rfl,by rw[List.length_append,hr]; rfl,hk1⟩
   simp only[Yn]
   by_cases c1:v40 % 2=1
   ·by_cases c2:0 < i
    ·have c3:¬0 < v / 7 % 3:=fun z=>c ⟨⟨c1,by omega⟩,z⟩
     simp[ai,a40,pk,ez,zr,c1,c2,c3,yM]
    ·simp[ai,a40,pk,ez,zr,c1,c2,yM]
   ·simp[ai,a40,pk,ez,zr,c1,yM]) (ρ:=[.bo (YX b),.bo (.lst (ds.map .int)),.ow none (.lst []),.un]) ⟨[],.un,rfl,rfl,fun n hn=>vDa hn (by simp)⟩
 rw[show(jT 0 b.size.toNat).length=b.size.toNat by simp[jT]]at hr
 refine⟨r,?_,by omega,hk⟩
 simp only[zw,vk]
 simp[z62,L1]
theorem aj(C:Addr)(b:Bk)(ok:OkB b)(ds:List Int)(hd:41<=ds.length):∃costs:List Int,yW C [YX b,.lst (ds.map .int)]=some (.lst (costs.map .int))/\(costs.length:Int)=b.size/\∀c∈costs,1<=c/\c<=9:=by
 have s1:=ok.s1
 have s2:=ok.s2
 have z62:j_ b.size=true:=y_ (by omega) (by omega)
 have zz:(jT 0 b.size.toNat).length<=sizeLine:=by rw[jT,List.length_map,List.length_range]; exact wQa (jw (by omega))
 have a40:=JC (f:=D.int) (xs:=ds) (d:=0) (k:=40) (by decide) (by omega)
 generalize ds.getD (40:Int).toNat 0=v40 at a40
 by_cases c:v40 % 3=0
 ·have e1:J8 (gN 0) jH (dK (.int 1)) (jT 0 b.size.toNat) [.un]=some ((List.range b.size.toNat).map fun _=>.int 1):=Jf _ _ fun i hi=>⟨_,rfl,rfl,rfl⟩
  refine⟨(List.range b.size.toNat).map fun _=>1,?_,by simp; omega,fun c hc=>?_⟩
  ·have em:((List.range b.size.toNat).map fun _=>(1:Int)).map D.int=(List.range b.size.toNat).map fun _=>D.int 1:=by rw[List.map_map]; rfl
   rw[em]
   simp only[yW,YO]
   simp[a40,c,z62,e1,zz,YM]
  ·obtain⟨_,_,rfl⟩:=List.mem_map.mp hc
   decide
 ·have e1:J8 (gN 0) jH (d2 jB (dK (.int 1)) (d2 jq (d2 jb (dV 1) (dV 0)) (dK (.int 9)))) (jT 0 b.size.toNat) [.un,.bo (.lst (ds.map .int))]=some ((List.range b.size.toNat).map fun(i:Nat)=>.int (1+ds.getD i 0 % 9)):=Jf _ _ fun i hi=>⟨[.cl (.int (0+(i:Int))),.bo (.lst (ds.map .int))],rfl,rfl,by
   rw[List.mem_range]at hi
   have ai:=JC (f:=D.int) (xs:=ds) (d:=0) (k:=(i:Int)) (by omega) (by omega)
   rw[Int.toNat_natCast]at ai
   simp[-List.getD_eq_getElem?_getD,ai]⟩
  refine⟨(List.range b.size.toNat).map fun(i:Nat)=>1+ds.getD i 0 % 9,?_,by simp; omega,fun c hc=>?_⟩
  ·have em:((List.range b.size.toNat).map fun(i:Nat)=>1+ds.getD i 0 % 9).map D.int=(List.range b.size.toNat).map fun(i:Nat)=>D.int (1+ds.getD i 0 % 9):=by rw[List.map_map]; rfl
   rw[em]
   simp only[yW,YO]
   generalize (d2 jB (dK (.int 1)) (d2 jq (d2 jb (dV 1) (dV 0)) (dK (.int 9))))=dd at e1⊢
   simp[-List.getD_eq_getElem?_getD,a40,c,z62,e1,zz,YM]
  ·obtain⟨i,_,rfl⟩:=List.mem_map.mp hc
   have:=J1 (a:=ds.getD i 0) (b:=9) (by decide)
   omega
end M
namespace M
open PySem L2 DS CP
noncomputable def gu(b:Bk)(row:List Int):Bool:=row.all fun n=>decide (0<=n)&&decide (n < (b.kinds.length:Int))
noncomputable def UG(costs:List Int):Bool:=costs.all fun c=>decide (1<=c)&&decide (c<=9)
def yL(b:Bk)(row costs:List Int):Option Str:=
 if gu b row=false then some "NoKind" else if b.size < (row.length:Int)then some "TooLong" else if (row.length:Int) < b.size then some "NotFull" else if (costs.length:Int)≠b.size then some "BadCosts" else if UG costs=false then some "BadCosts" else none
theorem xu{b:Bk}{row:List Int}(h:gu b row=true):∀n∈row,JZ b n:=fun n hn=>by
 have:=List.all_eq_true.mp h n hn
 rw[Bool.and_eq_true]at this
 exact⟨vCa this.1,vCa this.2⟩
theorem BH{costs:List Int}(h:UG costs=true):∀c∈costs,1<=c/\c<=9:=fun n hn=>by
 have:=List.all_eq_true.mp h n hn
 rw[Bool.and_eq_true]at this
 exact⟨vCa this.1,vCa this.2⟩
theorem BI(C:Addr)(b:Bk)(row:List Int)(hl:row.length<=1000):yX C [jg C b,.lst (row.map .int)]=if gu b row=false then some "NoKind" else if b.size < (row.length:Int)then some "TooLong" else none:=by
 have e1:=vT C b row hl
 have e1:Jm C [jg C b,.lst (row.map .int)]=some (.bl (gu b row)):=e1
 have ef:jA C "size" (jg C b)=some (.int b.size):=by simp[jA,jg]
 cases hk:gu b row with
 | false=>
  rw[hk]at e1
  simp[yX,yP,yG,Jy,Y5,e1]
 | true=>
  rw[hk]at e1
  by_cases c:b.size < (row.length:Int)
  ·simp[yX,yP,yG,Jy,Y5,e1,ef,yM,c,yz]
  ·simp[yX,yP,yG,Jy,Y5,e1,ef,yM,c,yz]
theorem xw(costs:List Int):J8 (gN 0) jH (jR jM jM (dK (.int 1)) (dV 0) (dK (.int 9))) (costs.map D.int) [.un]=some (costs.map fun c=>.bl (decide (1<=c)&&decide (c<=9))):=Jf D.int _ fun c hx=>⟨[.cl (.int c)],rfl,rfl,by
 by_cases h:1<=c
 ·by_cases h2:c<=9
  ·simp[jM,h,h2]
  ·simp[jM,h,h2]
 ·simp[jM,h]⟩
theorem eE{α:Type}(f:α->Bool)(l:List α):Y7 [.lst (l.map fun x=>D.bl (f x))]=some (.bl (l.all f)):=by
 have h:∀l:List α,Zf (l.map fun x=>D.bl (f x))=some (l.map f):=fun l=>by
  induction l with
  | nil=>rfl
  | cons x l ih=>rw[List.map_cons,Zf,ih]; rfl
 show(Zf _).bind _=_
 rw[h]
 simp
theorem wm(C:Addr)(b:Bk)(ok:OkB b)(row costs:List Int)(hl:row.length<=1000)(hc:costs.length<=1000):Jc C [jg C b,.lst (row.map .int),.lst (costs.map .int)]=yL b row costs:=by
 have e1:=BI C b row hl
 have ef:jA C "size" (jg C b)=some (.int b.size):=by simp[jA,jg]
 unfold yL
 cases hk:gu b row with
 | false=>
  rw[hk]at e1
  simp[Jc,yP,Jl,Jy,Jz,e1]
 | true=>
  rw[hk]at e1
  by_cases c1:b.size < (row.length:Int)
  ·simp[c1]at e1
   simp[Jc,yP,Jl,Jy,Jz,e1,c1]
  ·simp[c1]at e1
   have e2:=uq C b row ok ⟨xu hk,by omega⟩
   by_cases c2:(row.length:Int) < b.size
   ·simp[Jc,yP,Jl,Jy,Jz,Y5,e1,e2,c1,c2,ef,JD]
   ·by_cases c3:(costs.length:Int)=b.size
    ·have e3:=xw costs
     have e4:=eE (fun c:Int=>decide (1<=c)&&decide (c<=9)) costs
     have e4:Y7 [.lst (costs.map fun c=>D.bl (decide (1<=c)&&decide (c<=9)))]=some (.bl (UG costs)):=e4
     have z:costs.length<=sizeLine:=wQa (jw (by omega))
     cases hok:UG costs with
     | false=>
      rw[hok]at e4
      simp[-Y7,Jc,yP,Jl,Jy,Jz,Y5,e1,e2,c1,c2,c3,ef,JD,e3,e4,z,yz]
     | true=>
      rw[hok]at e4
      simp[-Y7,Jc,yP,Jl,Jy,Jz,Y5,e1,e2,c1,c2,c3,ef,JD,e3,e4,z,yz]
    ·simp[Jc,yP,Jl,Jy,Jz,Y5,e1,e2,c1,c2,c3,ef,JD,yz]
end M
namespace M
open PySem L2 DS CP
noncomputable def v4:Option Str->List Bool
 | none=>[]
 | some c=>(["NoKind", "TooLong", "NotFull", "BadCosts"]:List Str).map fun a=>c==a
theorem i5:v4 (some "NoKind")=[true,false,false,false]:=by decide
theorem i6:v4 (some "TooLong")=[false,true,false,false]:=by decide
theorem i7:v4 (some "NotFull")=[false,false,true,false]:=by decide
theorem eF:v4 (some "BadCosts")=[false,false,false,true]:=by decide
theorem WE{α:Type}(f:α->Bool)(l:List α):(l.filter fun x=>!f x)=[]↔l.all f=true:=by
 rw[List.filter_eq_nil_iff,List.all_eq_true]
 exact⟨fun h x hx=>by have:=h x hx; simpa using this,fun h x hx=>by simp[h x hx]⟩
theorem xx(f:Int->Bool)(l:List Int):Jr (.lst ((l.filter fun x=>!f x).map D.int)) (.lst [])=some (.bl (!l.all f)):=by
 rw[xi]
 congr 3
 cases h:l.all f with
 | true=>exact decide_eq_true ((WE f l).mpr h)
 | false=>exact vBa fun c=>by rw[(WE f l).mp c]at h; cases h
section
variable (C:Addr) (b:Bk) (ok:OkB b) (row costs:List Int) (hl:row.length<=1000) (hc:costs.length<=1000)
include ok hl hc
theorem BJ:Z4 C [YX b,.lst (row.map .int),.lst (costs.map .int)]=some (.lst ((v4 (yL b row costs)).map .bl)):=by
 have f1:J8 (gN 0) (Jn (jv (jR jM JD (dK (.int 0)) (dV 0) (j9 jO [(false,(d2 jb (dV 1) (dK (.int 1))))])))) (dC 0) (row.map .int) [.un,.bo (YX b)]=some ((row.filter fun n=>!(decide (0<=n)&&decide (n < (b.kinds.length:Int)))).map .int):=vc D.int _ D.int fun n hn=>⟨[.cl (.int n),.bo (YX b)],rfl,by
  by_cases h:0<=n
  ·by_cases h2:n < (b.kinds.length:Int)
   ·simp[jM,JD,h,h2]
   ·simp[jM,JD,h,h2]
  ·simp[jM,JD,h],rfl⟩
 have g1:=xx (fun n:Int=>decide (0<=n)&&decide (n < (b.kinds.length:Int))) row
 have g1:Jr (.lst ((row.filter fun n=>!(decide (0<=n)&&decide (n < (b.kinds.length:Int)))).map D.int)) (.lst [])=some (.bl (!gu b row)):=g1
 have f2:J8 (gN 0) (Jn (jv (jR jM jM (dK (.int 1)) (dV 0) (dK (.int 9))))) (dC 0) (costs.map .int) [.un]=some ((costs.filter fun n=>!(decide (1<=n)&&decide (n<=9))).map .int):=vc D.int _ D.int fun n hn=>⟨[.cl (.int n)],rfl,by
  by_cases h:1<=n
  ·by_cases h2:n<=9
   ·simp[jM,h,h2]
   ·simp[jM,h,h2]
  ·simp[jM,h],rfl⟩
 have g2:=xx (fun n:Int=>decide (1<=n)&&decide (n<=9)) costs
 have g2:Jr (.lst ((costs.filter fun n=>!(decide (1<=n)&&decide (n<=9))).map D.int)) (.lst [])=some (.bl (!UG costs)):=g2
 revert f1 g1 f2 g2
 generalize ((row.filter fun n=>!(decide (0<=n)&&decide (n < (b.kinds.length:Int)))).map D.int)=u1
 generalize ((costs.filter fun n=>!(decide (1<=n)&&decide (n<=9))).map D.int)=u2
 intro f1 g1 f2 g2
 have z1:row.length<=sizeLine:=wQa (jw (by omega))
 have z2:costs.length<=sizeLine:=wQa (jw (by omega))
 unfold yL
 simp only[Z4,Vd]
 cases hk:gu b row with
 | false=>
  rw[hk]at g1
  simp[-Jr,f1,g1,z1,i5]
 | true=>
  rw[hk]at g1
  by_cases c1:b.size < (row.length:Int)
  ·simp[-Jr,f1,g1,z1,i6,yM,c1]
  ·by_cases c2:(row.length:Int) < b.size
   ·simp[-Jr,f1,g1,z1,i7,yM,JD,c1,c2]
   ·by_cases c3:(costs.length:Int)=b.size
    ·have e5:Jr (.int b.size) (.int b.size)=some (.bl false):=by simp
     cases hok:UG costs with
     | false=>
      rw[hok]at g2
      simp[-Jr,f1,g1,z1,z2,eF,yM,JD,c1,c2,e5,f2,g2,c3]
     | true=>
      rw[hok]at g2
      simp[-Jr,f1,g1,z1,z2,v4,yM,JD,c1,c2,e5,f2,g2,c3]
    ·have e5:Jr (.int (costs.length:Int)) (.int b.size)=some (.bl true):=by simp[c3]
     simp[-Jr,f1,g1,z1,z2,eF,yM,JD,c1,c2,e5,c3]
theorem Vu(h:yL b row costs=none):(row.length:Int)=b.size/\(∀n∈row,JZ b n)/\(costs.length:Int)=b.size/\∀c∈costs,1<=c/\c<=9:=by
 unfold yL at h
 cases hk:gu b row with
 | false=>rw[hk]at h; simp at h
 | true=>
  rw[hk]at h
  by_cases c1:b.size < (row.length:Int)
  ·simp[c1]at h
  ·by_cases c2:(row.length:Int) < b.size
   ·simp[c1,c2]at h
   ·by_cases c3:(costs.length:Int)=b.size
    ·cases hok:UG costs with
     | false=>rw[hok]at h; simp[c1,c2,c3]at h
     | true=>exact⟨by omega,xu hk,c3,BH hok⟩
    ·simp[c1,c2,c3]at h
theorem BK:ZZ C [jg C b,.lst (row.map .int),.lst (costs.map .int)]=yL b row costs:=by
 have e:=wm C b ok row costs hl hc
 cases h:yL b row costs with
 | some c=>
  rw[h]at e
  simp[ZZ,yP,ZD,Jy,Jz,e]
 | none=>
  rw[h]at e
  obtain⟨h1,h2,h3,h4⟩:=Vu b ok row costs hl hc h
  simp[ZZ,yP,ZD,Jy,Jz,e,yz,vY C ok h1 h2 h3 h4]
theorem BL:Y3 C [jg C b,.lst (row.map .int),.lst (costs.map .int),.lst [],.int 0]=yL b row costs:=by
 have e:=wm C b ok row costs hl hc
 cases h:yL b row costs with
 | some c=>
  rw[h]at e
  simp[Y3,yP,yB,Jy,Jz,e]
 | none=>
  rw[h]at e
  obtain⟨h1,h2,h3,h4⟩:=Vu b ok row costs hl hc h
  simp[Y3,yP,yB,Jy,Jz,e,yz,vY C ok h1 h2 h3 h4]
theorem xy{c:Str}(h:yL b row costs=some c):U3.contains c=true:=by
 unfold yL at h
 split at h
 ·cases h; decide
 split at h
 ·cases h; decide
 split at h
 ·cases h; decide
 split at h
 ·cases h; decide
 split at h
 ·cases h; decide
 cases h
theorem eG:Ja C [.int 0,jg C b,.lst (row.map .int),.lst (costs.map .int)]=some (.lst ((v4 (yL b row costs)).map .bl)):=by
 have e:=BK C b ok row costs hl hc
 cases h:yL b row costs with
 | some c=>
  rw[h]at e
  have q:c∈U3:=by simpa using xy b ok row costs hl hc h
  simp only[Ja,JH]
  simp[Us,Y5,Jz,e,q,v4]
 | none=>
  rw[h]at e
  obtain⟨h1,h2,h3,h4⟩:=Vu b ok row costs hl hc h
  simp only[Ja,JH]
  by_cases z:Jg b (jj b)=0
  ·have m:=xr C ok h1 h2 h3 h4 z
   simp[Us,Y5,Jz,e,v4,m]
  ·obtain⟨P,m⟩:=xt C ok h1 h2 h3 h4 (by have:=vX b (jj b); omega)
   simp[Us,Y5,Jz,e,v4,m]
theorem BM(h:yL b row costs=none):zO C [jg C b,.lst (row.map .int),.lst (costs.map .int),.lst [],.int 0]=some (.bl false):=by
 obtain⟨h1,h2,h3,h4⟩:=Vu b ok row costs hl hc h
 have e1:=vY C ok h1 h2 h3 h4
 have e2:=Uz C b ok
 simp only[zO,zN]
 simp[e1,e2]
theorem eH:Ja C [.int 1,jg C b,.lst (row.map .int),.lst (costs.map .int)]=some (.lst ((v4 (yL b row costs)).map .bl)):=by
 have e:=BL C b ok row costs hl hc
 cases h:yL b row costs with
 | some c=>
  rw[h]at e
  have q:c∈U3:=by simpa using xy b ok row costs hl hc h
  simp only[Ja,JH]
  simp[Us,Y5,Jz,e,q,v4]
 | none=>
  rw[h]at e
  have m:=BM C b ok row costs hl hc h
  simp only[Ja,JH]
  simp[Us,Y5,Jz,e,v4,m]
end
theorem eI(l:List Bool):Je (.lst (l.map D.bl)) (.lst (l.map D.bl))=some (.bl true):=by
 have h1:Yp (l.map D.bl) (l.map D.bl)=some true:=by
  induction l with
  | nil=>rfl
  | cons x l ih=>rw[List.map_cons,Yp,ih]; simp[zU]
 simp[u9,dep,KP,zU,h1]
end M
namespace M
open PySem L2 DS CP
def U5:DS.DS:=(jo (jv (d2 Je (d2 jq (d2 jb (dV 1) (dK (.int 160))) (dK (.int 4))) (dK (.int 1)))) (Jk 5 (y2 (dV 5) (fun _=>some none) (fun ρ=>((d2 jq (d2 jb (dV 1) (dK (.int 161))) (d2 jB (j9 jO [(false,(dV 5))]) (dK (.int 1)))) ρ).bind YI))) jD)
def WF:DS.DS:=(jo (jv (d2 Je (d2 jq (d2 jb (dV 1) (dK (.int 160))) (dK (.int 4))) (dK (.int 2)))) (Jk 5 (kW gR (dV 5) (dL (JL 1 [4] (Jb (dL (y2 (dV 1) (fun ρ=>((dK (.int 162)) ρ).bind YI) (fun ρ=>((d2 jB (dK (.int 163)) (d2 jq (d2 jb (dV 1) (dK (.int 161))) (dK (.int 3)))) ρ).bind YI)))) (gN 0) jH (d2 jq (dV 0) (dV 1)))))) jD)
def U6:DS.DS:=(jo (jv (d2 Je (d2 jq (d2 jb (dV 1) (dK (.int 166))) (dK (.int 3))) (dK (.int 1)))) (j3 (jr 7 (d2 jb (dL (jY [(true,(Ze (dK (.int 1)))),(true,(dC 4)),(true,(d2 Uk (dK (.int 10)) (dK (.int 20))))])) (d2 jq (d2 jb (dV 1) (dK (.int 167))) (dK (.int 3))))) (G1 5 (d2 jq (d2 jb (dV 1) (dK (.int 168))) (d2 jB (j9 jO [(false,(dV 5))]) (dK (.int 1)))) (dC 7))) jD)
def wo:DS.DS:=(jo (jv (d2 Je (d2 jq (d2 jb (dV 1) (dK (.int 169))) (dK (.int 5))) (dK (.int 1)))) (Jk 6 (y2 (dV 6) (fun ρ=>((dK (.int 1)) ρ).bind YI) (fun _=>some none))) jD)
def GW:DS.DS:=(jo (jv (d2 Je (d2 jq (d2 jb (dV 1) (dK (.int 169))) (dK (.int 5))) (dK (.int 2)))) (JR 6 (dK (.int 1))) jD)
def gw:DS.DS:=(jo (yZ (jv (d2 Je (d2 jq (d2 jb (dV 1) (dK (.int 170))) (dK (.int 3))) (dK (.int 1)))) (jv (d2 Jr (dV 6) (dL (jY []))))) (Z0 6 (d2 jq (d2 jb (dV 1) (dK (.int 171))) (j9 jO [(false,(dV 6))])) (d2 jb (dL (jY [(true,(dK (.int 0))),(true,(dK (.int 10))),(true,(Ze (dK (.int 1)))),(true,(d2 Uk (dK (.int 10)) (dK (.int 20))))])) (d2 jq (d2 jb (dV 1) (dK (.int 172))) (dK (.int 4))))) jD)
theorem ao(C:Addr):kv C=j3 (jr 1 (dL (jW (Y0 C) [(false,(dV 0)),(false,(dK (.int 190)))]))) (j3 (jr 2 (j9 (zo C) [(false,(dV 1)),(false,(dK (.int 8)))])) (j3 (jr 3 (dL (jW (zu C) [(false,(dV 2))]))) (j3 (jr 4 (j9 jO [(false,(d2 jb (dV 2) (dK (.int 1))))])) (j3 (Jk 5 (jW (zw C) [(false,(dV 2)),(false,(dL (y2 (dV 1) (fun ρ=>((dK (.int 60)) ρ).bind YI) (fun _=>some none))))])) (j3 (Jk 6 (jW (yW C) [(false,(dV 2)),(false,(dL (y2 (dV 1) (fun ρ=>((dK (.int 110)) ρ).bind YI) (fun _=>some none))))])) (j3 U5 (j3 WF (j3 U6 (j3 wo (j3 GW (j3 gw (j3 (jr 8 (dL (jW (Z4 C) [(false,(dV 2)),(false,(dV 5)),(false,(dV 6))]))) (ju (y0 (d2 Je (j9 (Ja C) [(false,(dK (.int 0))),(false,(dV 3)),(false,(dV 5)),(false,(dV 6))]) (dV 8)) (d2 Je (j9 (Ja C) [(false,(dK (.int 1))),(false,(dV 3)),(false,(dV 5)),(false,(dV 6))]) (dV 8)))))))))))))))):=rfl
def yi(C:Addr)(ns ms:List Int)(b:Bk)(row costs:List Int)(x y:Sl):j8:=[.bo (.scr ns),.cl (.lst (ms.map .int)),.cl (YX b),.cl (jg C b),.cl (.int b.kinds.length),.ow none (.lst (row.map .int)),.ow none (.lst (costs.map .int)),x,y]
section
variable (C:Addr) (ns ms:List Int) (b:Bk) (hm:ms.length=190) (ok:OkB b)
include hm
theorem VE{i:Int}(h0:0<=i)(h1:i < 190):∃v:Int,atI (ms.map D.int) i=some (.int v):=⟨_,JC (f:=D.int) (xs:=ms) (d:=0) h0 (by omega)⟩
theorem IE(row costs:List Int)(x y:Sl):∃row':List Int,row'.length<=row.length/\U5 (yi C ns ms b row costs x y)=some (.nx (yi C ns ms b row' costs x y)):=by
 obtain⟨v,a⟩:=VE ms hm (i:=160) (by decide) (by decide)
 obtain⟨w,a'⟩:=VE ms hm (i:=161) (by decide) (by decide)
 by_cases c:v % 4=1
 ·have p:(0:Int) < (row.length:Int)+1:=by omega
  have q:jP (row.map D.int) none (some (w % ((row.length:Int)+1)))=(jP row none (some (w % ((row.length:Int)+1)))).map D.int:=Yy _ _ _ _
  refine⟨jP row none (some (w % ((row.length:Int)+1))),ZE _ _ _,?_⟩
  simp[U5,yi,a,a',c,p,q]
 ·exact⟨row,wPa _,by simp[U5,yi,a,c]⟩
include ok in
theorem IG(row costs:List Int)(x y:Sl)(hl:row.length<=100):∃row':List Int,row'.length<=row.length+190/\WF (yi C ns ms b row costs x y)=some (.nx (yi C ns ms b row' costs x y)):=by
 obtain⟨v,a⟩:=VE ms hm (i:=160) (by decide) (by decide)
 obtain⟨w,a'⟩:=VE ms hm (i:=161) (by decide) (by decide)
 by_cases c:v % 4=2
 ·have p:0 < b.kinds.length:=by have:=ok.k1; omega
  have q:jP (ms.map D.int) (some 162) (some (163+w % 3))=(jP ms (some 162) (some (163+w % 3))).map D.int:=Yy _ _ _ _
  have ql:=ZE ms (some 162) (some (163+w % 3))
  revert q ql
  generalize jP ms (some 162) (some (163+w % 3))=l
  intro q ql
  have e:J8 (gN 0) jH (d2 jq (dV 0) (dV 1)) (l.map D.int) [.un,.cl (.int b.kinds.length)]=some (l.map fun n=>.int (n % (b.kinds.length:Int))):=Jf D.int _ fun n hn=>⟨[.cl (.int n),.cl (.int b.kinds.length)],rfl,rfl,by simp[p]⟩
  have z1:l.length<=sizeLine:=wQa (jw (by omega))
  have z2:row.length+l.length<=sizeLine:=wQa (jw (by omega))
  refine⟨row++l.map fun n=>n % (b.kinds.length:Int),by rw[List.length_append,List.length_map]; omega,?_⟩
  simp[WF,yi,a,a',c,q,e,z1,z2,List.map_map,Function.comp_def]
 ·exact⟨row,vKa _ _,by simp[WF,yi,a,c]⟩
theorem IH(row costs:List Int)(x y:Sl)(hl:row.length<=400):∃(row':List Int) (x':Sl),row'.length<=row.length+1/\U6 (yi C ns ms b row costs x y)=some (.nx (yi C ns ms b row' costs x' y)):=by
 obtain⟨v,a⟩:=VE ms hm (i:=166) (by decide) (by decide)
 obtain⟨w,a'⟩:=VE ms hm (i:=167) (by decide) (by decide)
 obtain⟨u,a''⟩:=VE ms hm (i:=168) (by decide) (by decide)
 by_cases c:v % 3=1
 ·have p:(0:Int) < (row.length:Int)+1:=by omega
  have g1:=Int.emod_nonneg u (show(row.length:Int)+1≠0 by omega)
  have g2:=Int.emod_lt_of_pos u p
  obtain⟨o,ho⟩:∃o:Int,atI [.int (-1),.int (b.kinds.length:Int),.int 100000000000000000000] (w % 3)=some (D.int o):=by
   rcases(by omega:w % 3=0∨w % 3=1∨w % 3=2)with h | h | h <;> rw[h] <;> exact⟨_,rfl⟩
  have g3:u % ((row.length:Int)+1)<=(row.length:Int):=by omega
  have g4:row.length < 1000000:=by omega
  have cp:WW 10 20=true:=by decide
  generalize hk:u % ((row.length:Int)+1)=k at g1 g2 g3
  refine⟨row.take k.toNat++o::row.drop k.toNat,.cl (.int o),?_,?_⟩
  ·rw[List.length_append,List.length_cons,List.length_take,List.length_drop]; omega
  ·simp[U6,yi,a,a',a'',c,p,hk,ho,g1,g3,g4,cp]
 ·exact⟨row,x,vKa _ _,by simp[U6,yi,a,c]⟩
theorem II(row costs:List Int)(x y:Sl):∃cs:List Int,cs.length<=costs.length/\wo (yi C ns ms b row costs x y)=some (.nx (yi C ns ms b row cs x y)):=by
 obtain⟨v,a⟩:=VE ms hm (i:=169) (by decide) (by decide)
 by_cases c:v % 5=1
 ·have q:jP (costs.map D.int) (some 1) none=(jP costs (some 1) none).map D.int:=Yy _ _ _ _
  exact⟨jP costs (some 1) none,ZE _ _ _,by simp[wo,yi,a,c,q]⟩
 ·exact⟨costs,wPa _,by simp[wo,yi,a,c]⟩
theorem IJ(row costs:List Int)(x y:Sl)(hl:costs.length<=100):∃cs:List Int,cs.length<=costs.length+1/\GW (yi C ns ms b row costs x y)=some (.nx (yi C ns ms b row cs x y)):=by
 obtain⟨v,a⟩:=VE ms hm (i:=169) (by decide) (by decide)
 by_cases c:v % 5=2
 ·have z:costs.length < sizeLine:=jw (by omega)
  exact⟨costs++[1],by simp,by simp[GW,yi,a,c,z]⟩
 ·exact⟨costs,vKa _ _,by simp[GW,yi,a,c]⟩
theorem IK(row costs:List Int)(x y:Sl):∃cs:List Int,cs.length<=costs.length/\gw (yi C ns ms b row costs x y)=some (.nx (yi C ns ms b row cs x y)):=by
 obtain⟨v,a⟩:=VE ms hm (i:=170) (by decide) (by decide)
 obtain⟨w,a'⟩:=VE ms hm (i:=171) (by decide) (by decide)
 obtain⟨u,a''⟩:=VE ms hm (i:=172) (by decide) (by decide)
 have en:=xi costs
 by_cases c:v % 3=1
 ·by_cases d:costs=[]
  ·rw[decide_eq_true d]at en
   exact⟨costs,wPa _,by simp[-Jr,gw,yi,a,c,en]⟩
  ·rw[decide_eq_false d]at en
   have p:0 < costs.length:=List.length_pos_iff.mpr d
   have g1:=Int.emod_nonneg w (show(costs.length:Int)≠0 by omega)
   have g2:=Int.emod_lt_of_pos w (show(0:Int) < (costs.length:Int) by omega)
   obtain⟨o,ho⟩:∃o:Int,atI [.int 0,.int 10,.int (-1),.int 100000000000000000000] (u % 4)=some (D.int o):=by
    rcases(by omega:u % 4=0∨u % 4=1∨u % 4=2∨u % 4=3)with h | h | h | h <;> rw[h] <;> exact⟨_,rfl⟩
   have cp:WW 10 20=true:=by decide
   generalize hk:w % (costs.length:Int)=k at g1 g2
   have ix:=gh g1 g2
   refine⟨costs.set k.toNat o,by rw[List.length_set]; exact wPa _,?_⟩
   simp[-Jr,gw,yi,a,a',a'',c,en,p,hk,ho,cp,ix]
 ·exact⟨costs,wPa _,by simp[-Jr,gw,yi,a,c]⟩
end
theorem aq(C:Addr)(ns:List Int)(h:ns.length<=63):kx C [.scr ns]=some (.bl true):=by
 obtain⟨ms,e1,hm⟩:=qG C ns 190 h (by decide) (by decide)
 have hml:ms.length=190:=by omega
 obtain⟨b,eb,ok,hbs⟩:=Bz C ms 8 (by omega) (by omega) (by omega) (by omega)
 have s1:=ok.s1
 have s2:=ok.s2
 have em:=Bt C b ok
 have tl:∀l:List D,(OD.lst l).toD=.lst l:=fun _=>rfl
 have cl:∀n:Nat,jP (ms.map D.int) (some (n:Int)) none=(ms.drop n).map D.int:=fun n=>by rw[Yy,et]
 have c60:jP (ms.map D.int) (some 60) none=(ms.drop 60).map D.int:=cl 60
 have c110:jP (ms.map D.int) (some 110) none=(ms.drop 110).map D.int:=cl 110
 obtain⟨row,er,hr,hk⟩:=ah C b ok (ms.drop 60) (by rw[List.length_drop]; omega)
 obtain⟨co,ec,hc,hcc⟩:=aj C b ok (ms.drop 110) (by rw[List.length_drop]; omega)
 obtain⟨r1,l1,F1⟩:=IE C ns ms b hml row co .un .un
 obtain⟨r2,l2,F2⟩:=IG C ns ms b hml ok r1 co .un .un (by omega)
 obtain⟨r3,x,l3,F3⟩:=IH C ns ms b hml r2 co .un .un (by omega)
 obtain⟨c1,m1,F4⟩:=II C ns ms b hml r3 co x .un
 obtain⟨c2,m2,F5⟩:=IJ C ns ms b hml r3 c1 x .un (by omega)
 obtain⟨c3,m3,F6⟩:=IK C ns ms b hml r3 c2 x .un
 have q1:=BJ C b ok r3 c3 (by omega) (by omega)
 have q2:=eG C b ok r3 c3 (by omega) (by omega)
 have q3:=eH C b ok r3 c3 (by omega) (by omega)
 have q4:=eI (v4 (yL b r3 c3))
 revert c60 c110 er ec
 generalize ms.drop 60=m60
 generalize ms.drop 110=m110
 intro c60 c110 er ec
 unfold yi at F1 F2 F3 F4 F5 F6
 simp only[kx,ao]
 simp[-OD.toD,-Je,tl,e1,eb,em,XM,c60,c110,er,ec,F1,F2,F3,F4,F5,F6,q1,q2,q3,q4]
end M
noncomputable section
namespace M
open PySem L2 DS CP
noncomputable def top(i:Nat):Stmt:=PySem.Challenge.pw_moonseat_k20_mends_refused.main.body.getD i (.Pass ⟨0,0,0,0⟩)
noncomputable def T0(C:Addr):Tb:=⟨C,[("LEAST_COST",.con 1),("MOST_COST",.con 9),("MOST_SIZE",.con 30),("MOST_KINDS",.con 4),("MOST_SHUNS",.con 20),("MOST_BARS",.con 12),("MOST_DUES",.con 3),("MOST_RUN",.con 4),("MOST_REST",.con 4),("MOST_FAR",.con 2),("all",.blt),("any",.blt),("isinstance",.blt),("len",.blt),("list",.blt),("max",.blt),("min",.blt),("range",.blt),("reversed",.blt),("sum",.blt),("tuple",.blt),("zip",.blt)],[],["size", "kind_rows", "shun_rows", "bar_rows", "due_rows"]⟩
noncomputable def eJ:List (Str×Zi):=[]
def vZ(C:Addr):De:=⟨"_law_numbers", "_law_numbers",(top 56),["_law_script", "_law_many"],["_law_row", "_law_seed", "_law_cell", "_law_rest", "_law_k"],[false,false],(Y_ C),[],[],[2]⟩
theorem Gr(C:Addr):Ck (T0 C) (vZ C) true:=⟨by kernel_rfl,rfl,fun _ _ _ _ _ _ us hl=>zE us hl fun _ _=>rfl⟩
def T1(C:Addr):Tb:=(T0 C).ag "_law_numbers" ((vZ C).F 0)
def v_(C:Addr):De:=⟨"_law_windows", "_law_windows",(top 57),["_law_many", "_law_size", "_law_count", "_law_d"],["_law_rows", "_law_k", "_law_first"],[false,false,false,false],(za C),[],[],[4]⟩
theorem Gs(C:Addr):Ck (T1 C) (v_ C) true:=⟨by kernel_rfl,rfl,fun _ _ _ _ _ _ us hl=>KB us hl fun _ _ _ _=>rfl⟩
def T2(C:Addr):Tb:=(T1 C).ag "_law_windows" ((v_ C).F 2)
def U7(C:Addr):De:=⟨"_law_book", "_law_book",(top 58),["_law_d", "_law_most"],["_law_many", "_law_size", "_law_kinds", "_law_k", "_law_least", "_law_rest", "_law_shuns", "_law_at", "_law_wide", "_law_bars", "_law_wanted"],[false,false],(vd C),[((294,16,82),[0])],[(299,4),(299,8)],[4,8]⟩
theorem wH(C:Addr):Ck (T2 C) (U7 C) false:=⟨by kernel_rfl,rfl,fun _ _ _ _ _ _ us hl=>zE us hl fun _ _=>rfl⟩
def T3(C:Addr):Tb:=(T2 C).ag "_law_book" ((U7 C).E 4)
def VF(C:Addr):De:=⟨"fits_counts", "fits_counts",(top 52),["size", "kinds", "shuns", "bars", "dues"],[],[false,false,false,false,false],(zG C),[],[],[]⟩
theorem ke(C:Addr):Ck (T3 C) (VF C) false:=⟨by kernel_rfl,rfl,fun _ _ _ _ _ _ us hl=>qD us hl fun _ _ _ _ _=>rfl⟩
def T4(C:Addr):Tb:=(T3 C).ag "fits_counts" ((VF C).E 6)
def U8(C:Addr):De:=⟨"fits_kind", "fits_kind",(top 49),["row"],["least", "most", "rest"],[true],(ve C),[],[],[]⟩
theorem wI(C:Addr):Ck (T4 C) (U8 C) false:=⟨by kernel_rfl,rfl,fun _ _ _ _ _ _ us hl=>qC us hl fun _=>rfl⟩
def T5(C:Addr):Tb:=(T4 C).ag "fits_kind" ((U8 C).E 8)
def U9(C:Addr):De:=⟨"fits_shun", "fits_shun",(top 50),["row", "many"],["one", "other", "far"],[true,false],(vf C),[],[],[]⟩
theorem wJ(C:Addr):Ck (T5 C) (U9 C) false:=⟨by kernel_rfl,rfl,fun _ _ _ _ _ _ us hl=>zE us hl fun _ _=>rfl⟩
def T6(C:Addr):Tb:=(T5 C).ag "fits_shun" ((U9 C).E 10)
def Ua(C:Addr):De:=⟨"fits_span", "fits_span",(top 51),["row", "many", "size"],["kind", "first", "last"],[true,false,false],(vg C),[],[],[]⟩
theorem wK(C:Addr):Ck (T6 C) (Ua C) false:=⟨by kernel_rfl,rfl,fun _ _ _ _ _ _ us hl=>Yr us hl fun _ _ _=>rfl⟩
def T7(C:Addr):Tb:=(T6 C).ag "fits_span" ((Ua C).E 12)
def Ub(C:Addr):De:=⟨"fits_rows", "fits_rows",(top 53),["size", "kinds", "shuns", "bars", "dues"],["many"],[false,false,false,false,false],(vh C),[((227,15,54),[5]),((229,54,65),[]),((229,15,66),[5,0])],[],[]⟩
theorem wL(C:Addr):Ck (T7 C) (Ub C) false:=⟨by kernel_rfl,rfl,fun _ _ _ _ _ _ us hl=>qD us hl fun _ _ _ _ _=>rfl⟩
def T8(C:Addr):Tb:=(T7 C).ag "fits_rows" ((Ub C).E 14)
def yx(C:Addr):De:=⟨"__init__", "Rules.__init__",(inClass (top 54) 0),["self", "size", "kinds", "shuns", "bars", "dues"],[],[true,false,false,false,false],(yu C),[],[],[0]⟩
theorem UH(C:Addr):GM (T8 C) (yx C) false=some (yu C):=by kernel_rfl
theorem UI(C:Addr):Bd "__init__" "Rules.__init__" (inClass (top 54) 0) ["self", "size", "kinds", "shuns", "bars", "dues"]:=fun _ _ _ _ _ _ us hl=>H_ us hl fun _ _ _ _ _ _=>rfl
def T9(C:Addr):Tb:=(T8 C).ag "Rules" (.mk 17 (yx C).ps (yx C).ks (yb C) (JG C))
def Uc(C:Addr):De:=⟨"_law_made", "_law_made",(top 59),["_law_book_here"],[],[false],(vj C),[],[],[]⟩
theorem wM(C:Addr):Ck (T9 C) (Uc C) true:=⟨by kernel_rfl,rfl,fun _ _ _ _ _ _ us hl=>qC us hl fun _=>rfl⟩
def eK(C:Addr):Tb:=(T9 C).ag "_law_made" ((Uc C).F 18)
def Ud(C:Addr):De:=⟨"_law_full", "_law_full",(top 60),["_law_book_here", "_law_d"],["_law_row", "_law_k"],[false,false],(vk C),[],[],[2]⟩
theorem wN(C:Addr):Ck (eK C) (Ud C) true:=⟨by kernel_rfl,rfl,fun _ _ _ _ _ _ us hl=>zE us hl fun _ _=>rfl⟩
def eL(C:Addr):Tb:=(eK C).ag "_law_full" ((Ud C).F 20)
def ut(C:Addr):De:=⟨"_law_costs", "_law_costs",(top 61),["_law_book_here", "_law_d"],[],[false,false],(YO C),[((312,11,74),[1])],[],[]⟩
theorem wp(C:Addr):Ck (eL C) (ut C) true:=⟨by kernel_rfl,rfl,fun _ _ _ _ _ _ us hl=>zE us hl fun _ _=>rfl⟩
def eM(C:Addr):Tb:=(eL C).ag "_law_costs" ((ut C).F 22)
def gy(C:Addr):De:=⟨"_law_due", "_law_due",(top 63),["_law_book_here", "_law_row", "_law_costs_here"],[],[false,false,false],(Vd C),[((324,7,91),[0])],[],[]⟩
theorem qJ(C:Addr):Ck (eM C) (gy C) true:=⟨by kernel_rfl,rfl,fun _ _ _ _ _ _ us hl=>Yr us hl fun _ _ _=>rfl⟩
def eN(C:Addr):Tb:=(eM C).ag "_law_due" ((gy C).F 24)
def ZK(C:Addr):De:=⟨"many", "Rules.many",(inClass (top 54) 5),["self"],[],[false],(Zo C),[],[],[]⟩
theorem wq(C:Addr):Ck (eN C) (ZK C) false:=⟨by kernel_rfl,rfl,fun _ _ _ _ _ _ us hl=>qC us hl fun _=>rfl⟩
def eO(C:Addr):Tb:=(eN C).am "many" ((ZK C).E 26)
def GX(C:Addr):De:=⟨"is_kind", "is_kind",(top 25),["rules", "number"],[],[false,false],(ui C),[],[],[]⟩
theorem xz(C:Addr):Ck (eO C) (GX C) false:=⟨by kernel_rfl,rfl,fun _ _ _ _ _ _ us hl=>zE us hl fun _ _=>rfl⟩
def eP(C:Addr):Tb:=(eO C).ag "is_kind" ((GX C).E 28)
def zX(C:Addr):De:=⟨"has_kinds_alone", "has_kinds_alone",(top 26),["rules", "row"],[],[false,false],(Y8 C),[((117,15,57),[0])],[],[]⟩
theorem uW(C:Addr):Ck (eP C) (zX C) false:=⟨by kernel_rfl,rfl,fun _ _ _ _ _ _ us hl=>zE us hl fun _ _=>rfl⟩
def eQ(C:Addr):Tb:=(eP C).ag "has_kinds_alone" ((zX C).E 30)
def JX(C:Addr):De:=⟨"check_row", "check_row",(top 27),["rules", "row"],[],[false,false],(vm C),[],[],[]⟩
theorem Ue(C:Addr):Ck (eQ C) (JX C) false:=⟨by kernel_rfl,rfl,fun _ _ _ _ _ _ us hl=>zE us hl fun _ _=>rfl⟩
def AX(C:Addr):Tb:=(eQ C).ag "check_row" ((JX C).E 32)
theorem wt(C:Addr):Ge (AX C) eJ U3 (JX C)=some (yG C):=by kernel_rfl
def eR(C:Addr):List (Str×Zi):=("check_row",⟨35,(JX C).ps,(JX C).ks,yP (JX C).ks (JX C).lo.length (yG C)⟩)::eJ
def JI(C:Addr):De:=⟨"check_full", "check_full",(top 31),["rules", "row", "costs"],[],[false,false,false],(Zp C),[],[],[]⟩
theorem uu(C:Addr):Ck (AX C) (JI C) false:=⟨by kernel_rfl,rfl,fun _ _ _ _ _ _ us hl=>Yr us hl fun _ _ _=>rfl⟩
def AY(C:Addr):Tb:=(AX C).ag "check_full" ((JI C).E 36)
theorem kf(C:Addr):Ge (AY C) (eR C) U3 (JI C)=some (Jl C):=by kernel_rfl
def eS(C:Addr):List (Str×Zi):=("check_full",⟨39,(JI C).ps,(JI C).ks,yP (JI C).ks (JI C).lo.length (Jl C)⟩)::(eR C)
def VG(C:Addr):De:=⟨"empty_stand", "empty_stand",(top 8),["rules"],["waits", "met"],[false],(zI C),[],[],[]⟩
theorem kg(C:Addr):Ck (AY C) (VG C) false:=⟨by kernel_rfl,rfl,fun _ _ _ _ _ _ us hl=>qC us hl fun _=>rfl⟩
def eT(C:Addr):Tb:=(AY C).ag "empty_stand" ((VG C).E 40)
def Uf(C:Addr):De:=⟨"is_barred", "is_barred",(top 13),["rules", "stand", "kind"],["place", "barred", "first", "last"],[false,false,false],(vn C),[],[],[]⟩
theorem wO(C:Addr):Ck (eT C) (Uf C) false:=⟨by kernel_rfl,rfl,fun _ _ _ _ _ _ us hl=>Yr us hl fun _ _ _=>rfl⟩
def eU(C:Addr):Tb:=(eT C).ag "is_barred" ((Uf C).E 42)
def GY(C:Addr):De:=⟨"is_long", "is_long",(top 14),["rules", "stand", "kind"],[],[false,false,false],(uj C),[],[],[]⟩
theorem xA(C:Addr):Ck (eU C) (GY C) false:=⟨by kernel_rfl,rfl,fun _ _ _ _ _ _ us hl=>Yr us hl fun _ _ _=>rfl⟩
def eV(C:Addr):Tb:=(eU C).ag "is_long" ((GY C).E 44)
def gz(C:Addr):De:=⟨"is_short", "is_short",(top 15),["rules", "stand", "kind"],["last"],[false,false,false],(Ve C),[],[],[]⟩
theorem qK(C:Addr):Ck (eV C) (gz C) false:=⟨by kernel_rfl,rfl,fun _ _ _ _ _ _ us hl=>Yr us hl fun _ _ _=>rfl⟩
def eW(C:Addr):Tb:=(eV C).ag "is_short" ((gz C).E 46)
def gA(C:Addr):De:=⟨"is_early", "is_early",(top 16),["stand", "kind"],[],[false,false],(Vg C),[],[],[]⟩
theorem qL(C:Addr):Ck (eW C) (gA C) false:=⟨by kernel_rfl,rfl,fun _ _ _ _ _ _ us hl=>zE us hl fun _ _=>rfl⟩
def eX(C:Addr):Tb:=(eW C).ag "is_early" ((gA C).E 48)
def uv(C:Addr):De:=⟨"is_shunned", "is_shunned",(top 17),["rules", "stand", "kind"],["one", "other", "far", "ahead"],[false,false,false],(Zq C),[],[],[]⟩
theorem wu(C:Addr):Ck (eX C) (uv C) false:=⟨by kernel_rfl,rfl,fun _ _ _ _ _ _ us hl=>Yr us hl fun _ _ _=>rfl⟩
def eY(C:Addr):Tb:=(eX C).ag "is_shunned" ((uv C).E 50)
def gB(C:Addr):De:=⟨"met_with", "met_with",(top 11),["rules", "stand", "kind"],["place", "met", "due", "is_met", "meant", "first", "last"],[false,false,false],(Vi C),[],[],[4]⟩
theorem qM(C:Addr):Ck (eY C) (gB C) false:=⟨by kernel_rfl,rfl,fun _ _ _ _ _ _ us hl=>Yr us hl fun _ _ _=>rfl⟩
def eZ(C:Addr):Tb:=(eY C).ag "met_with" ((gB C).E 52)
def uw(C:Addr):De:=⟨"misses_due", "misses_due",(top 18),["rules", "stand", "kind"],["place", "due", "is_met"],[false,false,false],(Zt C),[],[],[]⟩
theorem wv(C:Addr):Ck (eZ C) (uw C) false:=⟨by kernel_rfl,rfl,fun _ _ _ _ _ _ us hl=>Yr us hl fun _ _ _=>rfl⟩
def e_(C:Addr):Tb:=(eZ C).ag "misses_due" ((uw C).E 54)
def gD(C:Addr):De:=⟨"run_with", "run_with",(top 9),["stand", "kind"],[],[false,false],(Vj C),[],[],[]⟩
theorem qN(C:Addr):Ck (e_ C) (gD C) false:=⟨by kernel_rfl,rfl,fun _ _ _ _ _ _ us hl=>zE us hl fun _ _=>rfl⟩
def E1(C:Addr):Tb:=(e_ C).ag "run_with" ((gD C).E 56)
def ww(C:Addr):De:=⟨"is_cut", "is_cut",(top 19),["rules", "stand", "kind"],[],[false,false,false],(Uu C),[],[],[]⟩
theorem ar(C:Addr):Ck (E1 C) (ww C) false:=⟨by kernel_rfl,rfl,fun _ _ _ _ _ _ us hl=>Yr us hl fun _ _ _=>rfl⟩
def E2(C:Addr):Tb:=(E1 C).ag "is_cut" ((ww C).E 58)
def wx(C:Addr):De:=⟨"breach", "breach",(top 20),["rules", "stand", "kind"],[],[false,false,false],(Uw C),[],[],[]⟩
theorem au(C:Addr):Ck (E2 C) (wx C) false:=⟨by kernel_rfl,rfl,fun _ _ _ _ _ _ us hl=>Yr us hl fun _ _ _=>rfl⟩
def E3(C:Addr):Tb:=(E2 C).ag "breach" ((wx C).E 60)
def uz(C:Addr):De:=⟨"waits_with", "waits_with",(top 10),["rules", "stand", "kind"],["last", "waits"],[false,false,false],(Zv C),[],[],[4]⟩
theorem wy(C:Addr):Ck (E3 C) (uz C) false:=⟨by kernel_rfl,rfl,fun _ _ _ _ _ _ us hl=>Yr us hl fun _ _ _=>rfl⟩
def E4(C:Addr):Tb:=(E3 C).ag "waits_with" ((uz C).E 62)
def uA(C:Addr):De:=⟨"stand_with", "stand_with",(top 12),["rules", "stand", "kind"],["length", "waits", "met"],[false,false,true],(Zx C),[],[],[]⟩
theorem wz(C:Addr):Ck (E4 C) (uA C) false:=⟨by kernel_rfl,rfl,fun _ _ _ _ _ _ us hl=>Yr us hl fun _ _ _=>rfl⟩
def E5(C:Addr):Tb:=(E4 C).ag "stand_with" ((uA C).E 64)
def GZ(C:Addr):De:=⟨"stepped", "stepped",(top 21),["rules", "stand", "kind"],[],[false,false,true],(um C),[],[],[]⟩
theorem xB(C:Addr):Ck (E5 C) (GZ C) false:=⟨by kernel_rfl,rfl,fun _ _ _ _ _ _ us hl=>Yr us hl fun _ _ _=>rfl⟩
def E6(C:Addr):Tb:=(E5 C).ag "stepped" ((GZ C).E 66)
def uB(C:Addr):De:=⟨"steps_from", "steps_from",(top 22),["rules", "stand"],["steps", "kind", "after"],[false,false],(Zz C),[],[],[2]⟩
theorem wA(C:Addr):Ck (E6 C) (uB C) true:=⟨by kernel_rfl,rfl,fun _ _ _ _ _ _ us hl=>zE us hl fun _ _=>rfl⟩
def E7(C:Addr):Tb:=(E6 C).ag "steps_from" ((uB C).F 68)
def VH(C:Addr):De:=⟨"layers_from", "layers_from",(top 23),["rules", "stand"],["layers", "ahead", "layer", "behind", "each", "kind", "after"],[false,true],(zK C),[((107,12,23),[]),((108,31,42),[]),((109,16,29),[]),((111,16,28),[])],[(110,4)],[2,4,5]⟩
theorem kh(C:Addr):Ck (E7 C) (VH C) true:=⟨by kernel_rfl,rfl,fun _ _ _ _ _ _ us hl=>zE us hl fun _ _=>rfl⟩
def E8(C:Addr):Tb:=(E7 C).ag "layers_from" ((VH C).F 70)
def VI(C:Addr):De:=⟨"cost_behind", "cost_behind",(top 32),["row", "costs", "stand", "kind"],["at"],[false,false,false,false],(zM C),[],[],[]⟩
theorem ki(C:Addr):Ck (E8 C) (VI C) false:=⟨by kernel_rfl,rfl,fun _ _ _ _ _ _ us hl=>KB us hl fun _ _ _ _=>rfl⟩
def E9(C:Addr):Tb:=(E8 C).ag "cost_behind" ((VI C).E 72)
def uC(C:Addr):De:=⟨"numbers_of", "numbers_of",(top 33),["rules", "row", "costs", "layers"],["dead", "numbers", "layer", "stand", "steps", "sums"],[false,false,false,false],(ZA C),[((145,16,30),[]),((147,24,38),[]),((147,23,103),[5,1,2,7]),((148,16,30),[])],[],[5]⟩
theorem wB(C:Addr):Ck (E9 C) (uC C) true:=⟨by kernel_rfl,rfl,fun _ _ _ _ _ _ us hl=>KB us hl fun _ _ _ _=>rfl⟩
def Ea(C:Addr):Tb:=(E9 C).ag "numbers_of" ((uC C).F 74)
def v5(C:Addr):De:=⟨"cheapest_step", "cheapest_step",(top 34),["rules", "row", "costs", "numbers", "stand"],["kind", "after"],[false,false,false,false,false],(YT C),[((152,11,25),[]),((152,68,82),[])],[],[]⟩
theorem gE(C:Addr):Ck (Ea C) (v5 C) false:=⟨by kernel_rfl,rfl,fun _ _ _ _ _ _ us hl=>qD us hl fun _ _ _ _ _=>rfl⟩
def Eb(C:Addr):Tb:=(Ea C).ag "cheapest_step" ((v5 C).E 76)
def ZL(C:Addr):De:=⟨"cheapest_sheet", "cheapest_sheet",(top 35),["rules", "row", "costs", "numbers"],["sheet", "stand", "kind"],[false,false,false,false],(Yv C),[],[],[4]⟩
theorem UJ(C:Addr):Ck (Eb C) (ZL C) true:=⟨by kernel_rfl,rfl,fun _ _ _ _ _ _ us hl=>KB us hl fun _ _ _ _=>rfl⟩
def Ec(C:Addr):Tb:=(Eb C).ag "cheapest_sheet" ((ZL C).F 78)
def YA(C:Addr):De:=⟨"mended", "mended",(top 36),["rules", "row", "costs"],["first", "layers", "numbers", "sheet", "prices"],[false,false,false],(Vk C),[((170,52,57),[9]),((170,23,37),[]),((170,14,58),[1]),((170,13,79),[5]),((171,12,26),[]),((164,0,0),[])],[],[]⟩
theorem wC(C:Addr):Ck (Ec C) (YA C) false:=⟨by kernel_rfl,rfl,fun _ _ _ _ _ _ us hl=>Yr us hl fun _ _ _=>rfl⟩
def AZ(C:Addr):Tb:=(Ec C).ag "mended" ((YA C).E 80)
theorem xC(C:Addr):Ge (AZ C) (eS C) U3 (YA C)=some (ZD C):=by kernel_rfl
def Ed(C:Addr):List (Str×Zi):=("mended",⟨83,(YA C).ps,(YA C).ks,yP (YA C).ks (YA C).lo.length (ZD C)⟩)::(eS C)
def Jx(C:Addr):De:=⟨"prices_hold", "prices_hold",(top 39),["rules", "row", "costs", "prices", "cost"],["first", "at", "pairs", "behind"],[false,false,false,false,false],(zN C),[((186,29,95),[5,4]),((185,0,0),[])],[(188,1000)],[]⟩
theorem VJ(C:Addr):Ck (AZ C) (Jx C) false:=⟨by kernel_rfl,rfl,fun _ _ _ _ _ _ us hl=>qD us hl fun _ _ _ _ _=>rfl⟩
def A_(C:Addr):Tb:=(AZ C).ag "prices_hold" ((Jx C).E 84)
theorem Gu(C:Addr):Ge (A_ C) (Ed C) U3 (Jx C)=some (yB C):=by kernel_rfl
def FT(C:Addr):List (Str×Zi):=("prices_hold",⟨87,(Jx C).ps,(Jx C).ks,yP (Jx C).ks (Jx C).lo.length (yB C)⟩)::(Ed C)
def uD(C:Addr):De:=⟨"_law_marks", "_law_marks",(top 62),["_law_way", "_law_rules", "_law_row", "_law_costs_here"],["_law_marks_here", "e"],[false,false,false,false],(JH C),[],[],[]⟩
theorem wD(C:Addr):DW (A_ C) (FT C) U3 "VerseError" (uD C)=some (JH C):=by kernel_rfl
theorem wE(C:Addr):Bd "_law_marks" "_law_marks" (top 62) ["_law_way", "_law_rules", "_law_row", "_law_costs_here"]:=fun _ _ _ _ _ _ us hl=>KB us hl fun _ _ _ _=>rfl
def FU(C:Addr):Tb:=(A_ C).ag "_law_marks" ((uD C).E 88)
def b7(C:Addr):De:=⟨"law", "law",(top 64),["_law_script"],["_law_numbers_here", "_law_book_here", "_law_rules", "_law_many", "_law_row", "_law_costs_here", "_law_odd", "_law_due_here"],[false],(kv C),[((343,19,130),[]),((343,30,130),[4])],[],[5,6]⟩
theorem Fp(C:Addr):GM (FU C) (b7 C) false=some (kv C):=by kernel_rfl
end M
set_option maxHeartbeats 0
noncomputable def PySem.W.Fast.tw2070431227900246260:PySem.Program:=PySem.Challenge.pw_moonseat_k20_mends_refused
theorem PySem.W.Fast.te2070431227900246260:PySem.Challenge.pw_moonseat_k20_mends_refused=PySem.W.Fast.tw2070431227900246260:=rfl
namespace Hd
noncomputable section
open PySem PySem.W PyProof.Rows L2 M
noncomputable abbrev pw:=PySem.Challenge.pw_moonseat_k20_mends_refused
theorem prm:((fun(_:Params->Obj)=>true) boot_o_0)=true:=by first | k_qdec | rfl
noncomputable def de(P:Params)(x:Str)(t:Nat)(v:Value):DictEntry:=⟨PyData.keyHash P x,.str x t,v⟩
noncomputable def f3(a b:Int)(r:Nat)(l:List Value):List Value:=.int a 0::.int b 0::.ref r::l
noncomputable def fC(n q:Str)(a b c:Nat)(l x1 x2 x3 x4:Int)(r1:Nat)(z:Bool)(k:Int)(r2:Nat)(m:Int)(e:Nat):Data:=.fields #[.str n a,.str q b,.str "/claim/cut.py" c,.int l 0,.int x1 0,.int x2 0,.int x3 0,.int x4 0,.ref r1,.bool z,.int k 0,.ref r2,.none,.none,.none,.none,.int m 0,.int l 0,.str "/claim/cut.py" e]
noncomputable def oU(l:List Value):Obj:=⟨.type "tuple",none,.seq (List.toArray l) 0,#[]⟩
def oF(n q:Str)(s:Stmt)(m:Str)(t cd:Nat):Obj:=⟨.type "function",none,.func (fnOf n q (defArgs s) (defBody s) (defScope s) .none .none .none (.str m t) none (.ref cd) .none),#[]⟩
def oT(n q:Str)(s:Stmt):Obj:=⟨.none,none,.func { name:=n,qualname:=q,params:=defArgs s,body:=.stmts (defBody s),scope:=defScope s,globals:=0,closure:=[],defaults:=.none,kwdefaults:=.none,doc:=.none,pyModule:=.none,annotations:=none,code:=.none,closureTuple:=.none,builtins:=0 },#[]⟩
noncomputable def oS(t:Nat):List Str->List Value
 | []=>[]
 | x::l=>.str x t::oS (t+1) l
noncomputable def oV(t:Nat)(l:List Str):Obj:=oU (oS t l)
noncomputable def oC(n q:Str)(a:Nat)(l x1:Int)(r:Nat)(l':List Value)(m:Nat):Obj:=⟨.type "code",none,.fields (List.toArray (.str n a::.str q (a+1)::.str "/claim/cut.py" (a+2)::.int l 0::.int x1 0::.int 0 0::.int 0 0::.int 3 0::.ref r::.bool true::.int 181 0::.ref (r+1)::.none::List.append l' [.int m 0,.int l 0,.str "/claim/cut.py" (m+1)])),#[]⟩
noncomputable def oc(n:Str)(a:Nat)(l x1:Int)(r m:Nat):Obj:=oC n n a l x1 r [.ref (r+2),.ref (r+3),.ref (r+4)] m
noncomputable def od(n:Str)(a:Nat)(l x1:Int)(r m:Nat):Obj:=oC n n a l x1 r [.none,.none,.ref (r+2)] m
noncomputable def oG(n:Str)(s:Stmt)(c:Nat):Obj:=oF n n s "law_moonseat_k20_mends_refused" 710 c
noncomputable def oH(n:Str)(s:Stmt):Obj:=oT n n s
noncomputable def nz:Nat->List Obj->List (Nat×Obj)
 | _,[]=>[]
 | n,o::l=>(n,o)::nz (n+1) l
noncomputable def ins2:BT->Nat->Obj->BT
 | .nil,_,o=>.node o .nil .nil
 | .node v l r,i,o=>match Nat.beq i 0 with
  | true=>.node o l r
  | false=>match Nat.beq (i % 2) 1 with
   | true=>.node v (ins2 l (i / 2) o) r
   | false=>.node v l (ins2 r (i / 2 - 1) o)
def putAll(t:BT)(l:List (Nat×Obj)):BT:=l.foldl (fun t q=>ins2 t q.1 q.2) t
noncomputable def env:Env:={ scope:=pw.main.scope,locals:=mainNs,globals:=mainNs,cells:=[],code:=.ref 13,frame:=some 14 }
noncomputable def bd:List Stmt:=behindTheImports pw
def cE:Code:=.body bd env
noncomputable def o0:Obj:=oU []
noncomputable def o1:Obj:=⟨.none,none,(.fields #[]),#[]⟩
noncomputable def o2:Obj:=⟨.type "code",none,(fC "<module>" "<module>" 182 183 184 1 0 0 0 0 11 false 181 12 185 186),#[]⟩
noncomputable def o3:Obj:=⟨.type "frame",none,.plain,#[some (.ref 13),some (.ref 3),some (.ref 3),none,some (.str "__main__" 164),none,some (.ref 0)]⟩
noncomputable def c4(P:Params):List Obj:=[boot_o_0 P,boot_o_1 P,boot_o_2 P,boot_o_3 P,boot_o_4 P,boot_o_5 P,boot_o_6 P,boot_o_7 P]
def c5(P:Params):List Obj:=[boot_o_8 P,boot_o_9 P,boot_o_10 P,o0,o1,o2,o3]
noncomputable def c6(P:Params):List (Nat×Obj):=nz 0 [boot_o_0 P,boot_o_1 P,boot_o_2 P,boot_o_3 P,boot_o_4 P,boot_o_5 P,boot_o_6 P,boot_o_7 P]
def c7(P:Params):List (Nat×Obj):=nz 8 [boot_o_8 P,boot_o_9 P,boot_o_10 P,o0,o1,o2,o3]
noncomputable def c8(P:Params):List DictEntry:=[de P "__name__" 165 (.str "moonseat.errors" 187),de P "__doc__" 166 .none,de P "__package__" 167 .none,de P "__loader__" 168 (.builtin "__main__.__loader__#opaque"),de P "__spec__" 169 .none,de P "__annotations__" 170 (.ref 6),de P "__builtins__" 171 (.ref 4),de P "__file__" 173 (.str "/claim/cut.py" 172)]
noncomputable def c9(P:Params):List DictEntry:=[de P "__cached__" 174 .none,de P "VerseError" 206 (.ref 24),de P "BadRules" 222 (.ref 37),de P "NoKind" 238 (.ref 49),de P "TooLong" 254 (.ref 61)]
def o10(P:Params):Obj:=⟨.type "dict",none,(.dict (List.toArray (List.append (c8 P) (c9 P))) 13),#[]⟩
noncomputable def c11:List Value:=f3 2 0 20 (f3 4 0 33 (f3 6 0 45 (f3 8 0 57 ([]))))
def o12:Obj:=⟨.none,none,(.fields (List.toArray (c11))),#[]⟩
noncomputable def o13:Obj:=oU [.type "ValueError"]
noncomputable def o14:Obj:=⟨.type "builtin_function_or_method",none,(.fields #[.builtin "type.__prepare__",.type "type"]),#[]⟩
noncomputable def o15(P:Params):Obj:=⟨.type "dict",none,(.dict (List.toArray [de P "__module__" 196 (.str "moonseat.errors" 187),de P "__qualname__" 198 (.str "VerseError" 197),de P "__firstlineno__" 200 (.int 2 199),de P "__static_attributes__" 201 (.ref 22)]) 4),#[]⟩
noncomputable def o16:Obj:=⟨.type "code",none,(fC "VerseError" "VerseError" 191 192 193 2 0 0 0 0 18 false 181 19 194 195),#[]⟩
noncomputable def o17:Obj:=⟨.type "frame",none,.plain,#[some (.ref 20),some (.ref 3),some (.ref 17),none,some (.str "moonseat.errors" 187),none,some (.ref 0)]⟩
noncomputable def o18(P:Params):Obj:=⟨.type "dict",none,(.dict (List.toArray [de P "__module__" 196 (.str "moonseat.errors" 187),de P "__firstlineno__" 200 (.int 2 199),de P "__static_attributes__" 201 (.ref 22),de P "__weakref__" 203 (.ref 25),de P "__doc__" 204 .none]) 3),#[]⟩
noncomputable def o19:Obj:=⟨.type "type",none,(.cls { name := "VerseError",bases:=[.type "ValueError"],mro:=[.ref 24,.type "ValueError",.type "Exception",.type "BaseException",.type "object"],ns:=23,qualname := "VerseError",hasDict:=true,slotNames:=[],subclasses:=[.ref 37,.ref 49,.ref 61],abstract:=false,collection:=none,hasDel:=false }),#[some (.ref 15),none,some (.str "VerseError" 189),some (.str "VerseError" 197),some (.builtin "ValueError.__new__"),some (.bool true)]⟩
noncomputable def o20:Obj:=⟨.type "getset_descriptor",none,(.fields #[.str "__weakref__" 202,.ref 24,.builtin "ExceptionGroup.__weakref__",.none]),#[]⟩
noncomputable def o21:Obj:=⟨.type "super",none,(.fields #[.ref 24,.ref 24,.ref 24]),#[]⟩
noncomputable def o22:Obj:=⟨.type "builtin_function_or_method",none,(.fields #[.builtin "object.__init_subclass__",.ref 24]),#[]⟩
noncomputable def o23:Obj:=oU [.ref 24]
noncomputable def o24(P:Params):Obj:=⟨.type "dict",none,(.dict (List.toArray [de P "__module__" 214 (.str "moonseat.errors" 187),de P "__qualname__" 216 (.str "BadRules" 215),de P "__firstlineno__" 218 (.int 4 217),de P "__static_attributes__" 219 (.ref 35)]) 4),#[]⟩
noncomputable def o25:Obj:=⟨.type "code",none,(fC "BadRules" "BadRules" 209 210 211 4 0 0 0 0 31 false 181 32 212 213),#[]⟩
noncomputable def o26:Obj:=⟨.type "frame",none,.plain,#[some (.ref 33),some (.ref 3),some (.ref 30),none,some (.str "moonseat.errors" 187),none,some (.ref 0)]⟩
noncomputable def o27(P:Params):Obj:=⟨.type "dict",none,(.dict (List.toArray [de P "__module__" 214 (.str "moonseat.errors" 187),de P "__firstlineno__" 218 (.int 4 217),de P "__static_attributes__" 219 (.ref 35),de P "__doc__" 220 .none]) 2),#[]⟩
noncomputable def o28:Obj:=⟨.type "type",none,(.cls { name := "BadRules",bases:=[.ref 24],mro:=[.ref 37,.ref 24,.type "ValueError",.type "Exception",.type "BaseException",.type "object"],ns:=36,qualname := "BadRules",hasDict:=true,slotNames:=[],subclasses:=[],abstract:=false,collection:=none,hasDel:=false }),#[some (.ref 28),none,some (.str "BadRules" 207),some (.str "BadRules" 215),some (.builtin "ValueError.__new__"),some (.bool true)]⟩
noncomputable def o29:Obj:=⟨.type "super",none,(.fields #[.ref 37,.ref 37,.ref 37]),#[]⟩
noncomputable def o30:Obj:=⟨.type "builtin_function_or_method",none,(.fields #[.builtin "object.__init_subclass__",.ref 37]),#[]⟩
noncomputable def o31(P:Params):Obj:=⟨.type "dict",none,(.dict (List.toArray [de P "__module__" 230 (.str "moonseat.errors" 187),de P "__qualname__" 232 (.str "NoKind" 231),de P "__firstlineno__" 234 (.int 6 233),de P "__static_attributes__" 235 (.ref 47)]) 4),#[]⟩
noncomputable def o32:Obj:=⟨.type "code",none,(fC "NoKind" "NoKind" 225 226 227 6 0 0 0 0 43 false 181 44 228 229),#[]⟩
noncomputable def o33:Obj:=⟨.type "frame",none,.plain,#[some (.ref 45),some (.ref 3),some (.ref 42),none,some (.str "moonseat.errors" 187),none,some (.ref 0)]⟩
noncomputable def o34(P:Params):Obj:=⟨.type "dict",none,(.dict (List.toArray [de P "__module__" 230 (.str "moonseat.errors" 187),de P "__firstlineno__" 234 (.int 6 233),de P "__static_attributes__" 235 (.ref 47),de P "__doc__" 236 .none]) 2),#[]⟩
noncomputable def o35:Obj:=⟨.type "type",none,(.cls { name := "NoKind",bases:=[.ref 24],mro:=[.ref 49,.ref 24,.type "ValueError",.type "Exception",.type "BaseException",.type "object"],ns:=48,qualname := "NoKind",hasDict:=true,slotNames:=[],subclasses:=[],abstract:=false,collection:=none,hasDel:=false }),#[some (.ref 40),none,some (.str "NoKind" 223),some (.str "NoKind" 231),some (.builtin "ValueError.__new__"),some (.bool true)]⟩
noncomputable def o36:Obj:=⟨.type "super",none,(.fields #[.ref 49,.ref 49,.ref 49]),#[]⟩
noncomputable def o37:Obj:=⟨.type "builtin_function_or_method",none,(.fields #[.builtin "object.__init_subclass__",.ref 49]),#[]⟩
noncomputable def o38(P:Params):Obj:=⟨.type "dict",none,(.dict (List.toArray [de P "__module__" 246 (.str "moonseat.errors" 187),de P "__qualname__" 248 (.str "TooLong" 247),de P "__firstlineno__" 250 (.int 8 249),de P "__static_attributes__" 251 (.ref 59)]) 4),#[]⟩
noncomputable def o39:Obj:=⟨.type "code",none,(fC "TooLong" "TooLong" 241 242 243 8 0 0 0 0 55 false 181 56 244 245),#[]⟩
noncomputable def o40:Obj:=⟨.type "frame",none,.plain,#[some (.ref 57),some (.ref 3),some (.ref 54),none,some (.str "moonseat.errors" 187),none,some (.ref 0)]⟩
noncomputable def o41(P:Params):Obj:=⟨.type "dict",none,(.dict (List.toArray [de P "__module__" 246 (.str "moonseat.errors" 187),de P "__firstlineno__" 250 (.int 8 249),de P "__static_attributes__" 251 (.ref 59),de P "__doc__" 252 .none]) 2),#[]⟩
noncomputable def o42:Obj:=⟨.type "type",none,(.cls { name := "TooLong",bases:=[.ref 24],mro:=[.ref 61,.ref 24,.type "ValueError",.type "Exception",.type "BaseException",.type "object"],ns:=60,qualname := "TooLong",hasDict:=true,slotNames:=[],subclasses:=[],abstract:=false,collection:=none,hasDel:=false }),#[some (.ref 52),none,some (.str "TooLong" 239),some (.str "TooLong" 247),some (.builtin "ValueError.__new__"),some (.bool true)]⟩
noncomputable def o43:Obj:=⟨.type "super",none,(.fields #[.ref 61,.ref 61,.ref 61]),#[]⟩
noncomputable def o44:Obj:=⟨.type "builtin_function_or_method",none,(.fields #[.builtin "object.__init_subclass__",.ref 61]),#[]⟩
def c45(P:Params):List (Nat×Obj):=List.append [(3,o10 P),(12,o12)] (nz 15 [o13,o14,o15 P,o0,o1,o16])
def c46(P:Params):List (Nat×Obj):=nz 21 [o17,o0,o18 P,o19,o20,o21,o22,o23]
def c47(P:Params):List (Nat×Obj):=nz 29 [o14,o24 P,o0,o1,o25,o26,o0,o27 P]
def c48(P:Params):List (Nat×Obj):=nz 37 [o28,o29,o30,o23,o14,o31 P,o0,o1]
def c49(P:Params):List (Nat×Obj):=nz 45 [o32,o33,o0,o34 P,o35,o36,o37,o23]
def c50(P:Params):List (Nat×Obj):=nz 53 [o14,o38 P,o0,o1,o39,o40,o0,o41 P]
def c51:List (Nat×Obj):=nz 61 [o42,o43,o44]
noncomputable def c52(P:Params):List DictEntry:=[de P "__name__" 165 (.str "moonseat.sheets" 458),de P "__doc__" 166 .none,de P "__package__" 167 .none,de P "__loader__" 168 (.builtin "__main__.__loader__#opaque"),de P "__spec__" 169 .none,de P "__annotations__" 170 (.ref 6),de P "__builtins__" 171 (.ref 4),de P "__file__" 173 (.str "/claim/cut.py" 172)]
noncomputable def c53(P:Params):List DictEntry:=[de P "__cached__" 174 .none,de P "VerseError" 206 (.ref 24),de P "BadRules" 222 (.ref 37),de P "NoKind" 238 (.ref 49),de P "TooLong" 254 (.ref 61),de P "NotFull" 270 (.ref 73),de P "BadCosts" 286 (.ref 85),de P "empty_stand" 297 (.ref 94)]
noncomputable def c54(P:Params):List DictEntry:=[de P "run_with" 305 (.ref 101),de P "waits_with" 311 (.ref 106),de P "met_with" 327 (.ref 113),de P "stand_with" 339 (.ref 120),de P "is_barred" 352 (.ref 127),de P "is_long" 361 (.ref 134),de P "is_short" 371 (.ref 141),de P "is_early" 379 (.ref 148)]
noncomputable def c55(P:Params):List DictEntry:=[de P "is_shunned" 392 (.ref 155),de P "misses_due" 404 (.ref 162),de P "is_cut" 413 (.ref 169),de P "breach" 422 (.ref 176),de P "stepped" 431 (.ref 183),de P "steps_from" 442 (.ref 190),de P "layers_from" 457 (.ref 197),de P "is_kind" 467 (.ref 204)]
def o56(P:Params):Obj:=⟨.type "dict",none,(.dict (List.toArray (List.append (c52 P) (List.append (c53 P) (List.append (c54 P) (c55 P))))) 32),#[]⟩
noncomputable def c57:List Value:=f3 2 0 20 (f3 4 0 33 (f3 6 0 45 (f3 8 0 57 (f3 10 0 69 (f3 12 0 81 (f3 15 0 93 (f3 19 0 100 ([]))))))))
noncomputable def c58:List Value:=f3 23 0 105 (f3 30 0 112 (f3 37 0 119 (f3 42 0 126 (f3 48 0 133 (f3 50 0 140 (f3 55 0 147 (f3 57 0 154 ([]))))))))
noncomputable def c59:List Value:=f3 63 0 161 (f3 69 0 168 (f3 73 0 175 (f3 89 0 182 (f3 93 0 189 (f3 100 0 196 (f3 114 0 203 ([])))))))
def o60:Obj:=⟨.none,none,(.fields (List.toArray (List.append (c57) (List.append (c58) (c59))))),#[]⟩
noncomputable def o61:Obj:=⟨.type "type",none,(.cls { name := "VerseError",bases:=[.type "ValueError"],mro:=[.ref 24,.type "ValueError",.type "Exception",.type "BaseException",.type "object"],ns:=23,qualname := "VerseError",hasDict:=true,slotNames:=[],subclasses:=[.ref 37,.ref 49,.ref 61,.ref 73,.ref 85],abstract:=false,collection:=none,hasDel:=false }),#[some (.ref 15),none,some (.str "VerseError" 189),some (.str "VerseError" 197),some (.builtin "ValueError.__new__"),some (.bool true)]⟩
noncomputable def o62(P:Params):Obj:=⟨.type "dict",none,(.dict (List.toArray [de P "__module__" 262 (.str "moonseat.errors" 187),de P "__qualname__" 264 (.str "NotFull" 263),de P "__firstlineno__" 266 (.int 10 265),de P "__static_attributes__" 267 (.ref 71)]) 4),#[]⟩
noncomputable def o63:Obj:=⟨.type "code",none,(fC "NotFull" "NotFull" 257 258 259 10 0 0 0 0 67 false 181 68 260 261),#[]⟩
noncomputable def o64:Obj:=⟨.type "frame",none,.plain,#[some (.ref 69),some (.ref 3),some (.ref 66),none,some (.str "moonseat.errors" 187),none,some (.ref 0)]⟩
noncomputable def o65(P:Params):Obj:=⟨.type "dict",none,(.dict (List.toArray [de P "__module__" 262 (.str "moonseat.errors" 187),de P "__firstlineno__" 266 (.int 10 265),de P "__static_attributes__" 267 (.ref 71),de P "__doc__" 268 .none]) 2),#[]⟩
noncomputable def o66:Obj:=⟨.type "type",none,(.cls { name := "NotFull",bases:=[.ref 24],mro:=[.ref 73,.ref 24,.type "ValueError",.type "Exception",.type "BaseException",.type "object"],ns:=72,qualname := "NotFull",hasDict:=true,slotNames:=[],subclasses:=[],abstract:=false,collection:=none,hasDel:=false }),#[some (.ref 64),none,some (.str "NotFull" 255),some (.str "NotFull" 263),some (.builtin "ValueError.__new__"),some (.bool true)]⟩
noncomputable def o67:Obj:=⟨.type "super",none,(.fields #[.ref 73,.ref 73,.ref 73]),#[]⟩
noncomputable def o68:Obj:=⟨.type "builtin_function_or_method",none,(.fields #[.builtin "object.__init_subclass__",.ref 73]),#[]⟩
noncomputable def o69(P:Params):Obj:=⟨.type "dict",none,(.dict (List.toArray [de P "__module__" 278 (.str "moonseat.errors" 187),de P "__qualname__" 280 (.str "BadCosts" 279),de P "__firstlineno__" 282 (.int 12 281),de P "__static_attributes__" 283 (.ref 83)]) 4),#[]⟩
noncomputable def o70:Obj:=⟨.type "code",none,(fC "BadCosts" "BadCosts" 273 274 275 12 0 0 0 0 79 false 181 80 276 277),#[]⟩
noncomputable def o71:Obj:=⟨.type "frame",none,.plain,#[some (.ref 81),some (.ref 3),some (.ref 78),none,some (.str "moonseat.errors" 187),none,some (.ref 0)]⟩
noncomputable def o72(P:Params):Obj:=⟨.type "dict",none,(.dict (List.toArray [de P "__module__" 278 (.str "moonseat.errors" 187),de P "__firstlineno__" 282 (.int 12 281),de P "__static_attributes__" 283 (.ref 83),de P "__doc__" 284 .none]) 2),#[]⟩
noncomputable def o73:Obj:=⟨.type "type",none,(.cls { name := "BadCosts",bases:=[.ref 24],mro:=[.ref 85,.ref 24,.type "ValueError",.type "Exception",.type "BaseException",.type "object"],ns:=84,qualname := "BadCosts",hasDict:=true,slotNames:=[],subclasses:=[],abstract:=false,collection:=none,hasDel:=false }),#[some (.ref 76),none,some (.str "BadCosts" 271),some (.str "BadCosts" 279),some (.builtin "ValueError.__new__"),some (.bool true)]⟩
noncomputable def o74:Obj:=⟨.type "super",none,(.fields #[.ref 85,.ref 85,.ref 85]),#[]⟩
noncomputable def o75:Obj:=⟨.type "builtin_function_or_method",none,(.fields #[.builtin "object.__init_subclass__",.ref 85]),#[]⟩
noncomputable def o76:Obj:=oV 292 ["rules", "waits", "met"]
def o77:Obj:=oH "empty_stand" (top 8)
noncomputable def o78:Obj:=oc "empty_stand" 289 15 1 88 295
def o79:Obj:=oF "empty_stand" "empty_stand" (top 8) "moonseat.stands" 287 93
noncomputable def o80:Obj:=oV 301 ["stand", "kind"]
def o81:Obj:=oH "run_with" (top 9)
noncomputable def o82:Obj:=oc "run_with" 298 19 2 95 303
def o83:Obj:=oF "run_with" "run_with" (top 9) "moonseat.stands" 287 100
def o84:Obj:=oH "waits_with" (top 10)
noncomputable def o85:Obj:=od "waits_with" 306 23 3 102 309
def o86:Obj:=oF "waits_with" "waits_with" (top 10) "moonseat.stands" 287 105
noncomputable def o87:Obj:=oV 315 ["rules", "stand", "kind", "place", "met", "due", "is_met", "meant", "first", "last"]
def o88:Obj:=oH "met_with" (top 11)
noncomputable def o89:Obj:=oc "met_with" 312 30 3 107 325
def o90:Obj:=oF "met_with" "met_with" (top 11) "moonseat.stands" 287 112
noncomputable def o91:Obj:=oV 331 ["rules", "stand", "kind", "length", "waits", "met"]
def o92:Obj:=oH "stand_with" (top 12)
noncomputable def o93:Obj:=oc "stand_with" 328 37 3 114 337
def o94:Obj:=oF "stand_with" "stand_with" (top 12) "moonseat.stands" 287 119
noncomputable def o95:Obj:=oV 343 ["rules", "stand", "kind", "place", "barred", "first", "last"]
def o96:Obj:=oH "is_barred" (top 13)
noncomputable def o97:Obj:=oc "is_barred" 340 42 3 121 350
def o98:Obj:=oF "is_barred" "is_barred" (top 13) "moonseat.stands" 287 126
noncomputable def o99:Obj:=oV 356 ["rules", "stand", "kind"]
def o100:Obj:=oH "is_long" (top 14)
noncomputable def o101:Obj:=oc "is_long" 353 48 3 128 359
def o102:Obj:=oF "is_long" "is_long" (top 14) "moonseat.stands" 287 133
noncomputable def o103:Obj:=oV 365 ["rules", "stand", "kind", "last"]
def o104:Obj:=oH "is_short" (top 15)
noncomputable def o105:Obj:=oc "is_short" 362 50 3 135 369
def o106:Obj:=oF "is_short" "is_short" (top 15) "moonseat.stands" 287 140
noncomputable def o107:Obj:=oV 375 ["stand", "kind"]
def o108:Obj:=oH "is_early" (top 16)
noncomputable def o109:Obj:=oc "is_early" 372 55 2 142 377
def o110:Obj:=oF "is_early" "is_early" (top 16) "moonseat.stands" 287 147
noncomputable def o111:Obj:=oV 383 ["rules", "stand", "kind", "one", "other", "far", "ahead"]
def o112:Obj:=oH "is_shunned" (top 17)
noncomputable def o113:Obj:=oc "is_shunned" 380 57 3 149 390
def o114:Obj:=oF "is_shunned" "is_shunned" (top 17) "moonseat.stands" 287 154
noncomputable def o115:Obj:=oV 396 ["rules", "stand", "kind", "place", "due", "is_met"]
def o116:Obj:=oH "misses_due" (top 18)
noncomputable def o117:Obj:=oc "misses_due" 393 63 3 156 402
def o118:Obj:=oF "misses_due" "misses_due" (top 18) "moonseat.stands" 287 161
noncomputable def o119:Obj:=oV 408 ["rules", "stand", "kind"]
def o120:Obj:=oH "is_cut" (top 19)
noncomputable def o121:Obj:=oc "is_cut" 405 69 3 163 411
def o122:Obj:=oF "is_cut" "is_cut" (top 19) "moonseat.stands" 287 168
noncomputable def o123:Obj:=oV 417 ["rules", "stand", "kind"]
def o124:Obj:=oH "breach" (top 20)
noncomputable def o125:Obj:=oc "breach" 414 73 3 170 420
def o126:Obj:=oF "breach" "breach" (top 20) "moonseat.stands" 287 175
noncomputable def o127:Obj:=oV 426 ["rules", "stand", "kind"]
def o128:Obj:=oH "stepped" (top 21)
noncomputable def o129:Obj:=oc "stepped" 423 89 3 177 429
def o130:Obj:=oF "stepped" "stepped" (top 21) "moonseat.stands" 287 182
noncomputable def o131:Obj:=oV 435 ["rules", "stand", "steps", "kind", "after"]
def o132:Obj:=oH "steps_from" (top 22)
noncomputable def o133:Obj:=oc "steps_from" 432 93 2 184 440
def o134:Obj:=oF "steps_from" "steps_from" (top 22) "moonseat.stands" 287 189
noncomputable def o135:Obj:=oV 446 ["rules", "stand", "layers", "ahead", "layer", "behind", "each", "kind", "after"]
def o136:Obj:=oH "layers_from" (top 23)
noncomputable def o137:Obj:=oc "layers_from" 443 100 2 191 455
def o138:Obj:=oF "layers_from" "layers_from" (top 23) "moonseat.stands" 287 196
noncomputable def o139:Obj:=oV 463 ["rules", "number"]
def o140:Obj:=oH "is_kind" (top 25)
noncomputable def o141:Obj:=oc "is_kind" 460 114 2 198 465
def o142:Obj:=oF "is_kind" "is_kind" (top 25) "moonseat.sheets" 458 203
def c143(P:Params):List (Nat×Obj):=List.append [(3,o56 P),(12,o60),(24,o61)] (nz 64 [o23,o14,o62 P,o0,o1])
def c144(P:Params):List (Nat×Obj):=nz 69 [o63,o64,o0,o65 P,o66,o67,o68,o23]
def c145(P:Params):List (Nat×Obj):=nz 77 [o14,o69 P,o0,o1,o70,o71,o0,o72 P]
def c146:List (Nat×Obj):=nz 85 [o73,o74,o75,o0,o1,o76,o0,o77]
def c147:List (Nat×Obj):=nz 93 [o78,o79,o0,o1,o80,o0,o81,o82]
def c148:List (Nat×Obj):=nz 101 [o83,o0,o1,o84,o85,o86,o0,o1]
def c149:List (Nat×Obj):=nz 109 [o87,o0,o88,o89,o90,o0,o1,o91]
def c150:List (Nat×Obj):=nz 117 [o0,o92,o93,o94,o0,o1,o95,o0]
def c151:List (Nat×Obj):=nz 125 [o96,o97,o98,o0,o1,o99,o0,o100]
def c152:List (Nat×Obj):=nz 133 [o101,o102,o0,o1,o103,o0,o104,o105]
def c153:List (Nat×Obj):=nz 141 [o106,o0,o1,o107,o0,o108,o109,o110]
def c154:List (Nat×Obj):=nz 149 [o0,o1,o111,o0,o112,o113,o114,o0]
def c155:List (Nat×Obj):=nz 157 [o1,o115,o0,o116,o117,o118,o0,o1]
def c156:List (Nat×Obj):=nz 165 [o119,o0,o120,o121,o122,o0,o1,o123]
def c157:List (Nat×Obj):=nz 173 [o0,o124,o125,o126,o0,o1,o127,o0]
def c158:List (Nat×Obj):=nz 181 [o128,o129,o130,o0,o1,o131,o0,o132]
def c159:List (Nat×Obj):=nz 189 [o133,o134,o0,o1,o135,o0,o136,o137]
def c160:List (Nat×Obj):=nz 197 [o138,o0,o1,o139,o0,o140,o141,o142]
noncomputable def c161(P:Params):List DictEntry:=[de P "__name__" 165 (.str "law_moonseat_k20_mends_refused" 710),de P "__doc__" 166 .none,de P "__package__" 167 .none,de P "__loader__" 168 (.builtin "__main__.__loader__#opaque"),de P "__spec__" 169 .none,de P "__annotations__" 170 (.ref 6),de P "__builtins__" 171 (.ref 4),de P "__file__" 173 (.str "/claim/cut.py" 172)]
noncomputable def c162(P:Params):List DictEntry:=[de P "has_kinds_alone" 473 (.ref 209),de P "check_row" 481 (.ref 216),de P "LEAST_COST" 485 (.int 1 484),de P "MOST_COST" 487 (.int 9 486),de P "check_full" 493 (.ref 221),de P "cost_behind" 504 (.ref 228),de P "numbers_of" 510 (.ref 233),de P "cheapest_step" 523 (.ref 240)]
noncomputable def c163(P:Params):List DictEntry:=[de P "cheapest_sheet" 536 (.ref 247),de P "mended" 542 (.ref 252),de P "each_once" 548 (.ref 257),de P "pair_holds" 563 (.ref 264),de P "prices_hold" 569 (.ref 269),de P "MOST_SIZE" 573 (.int 30 572),de P "MOST_KINDS" 575 (.int 4 574),de P "MOST_SHUNS" 577 (.int 20 576)]
noncomputable def c164(P:Params):List DictEntry:=[de P "MOST_BARS" 579 (.int 12 578),de P "MOST_DUES" 581 (.int 3 580),de P "MOST_RUN" 583 (.int 4 582),de P "MOST_REST" 585 (.int 4 584),de P "MOST_FAR" 587 (.int 2 586),de P "fits_kind" 597 (.ref 276),de P "fits_shun" 608 (.ref 283),de P "fits_span" 620 (.ref 290)]
noncomputable def c165(P:Params):List DictEntry:=[de P "fits_counts" 631 (.ref 297),de P "fits_rows" 637 (.ref 302),de P "Rules" 709 (.ref 354)]
def o166(P:Params):Obj:=⟨.type "dict",none,(.dict (List.toArray (List.append (c161 P) (List.append (c53 P) (List.append (c54 P) (List.append (c55 P) (List.append (c162 P) (List.append (c163 P) (List.append (c164 P) (c165 P))))))))) 59),#[]⟩
noncomputable def c167:List Value:=f3 63 0 161 (f3 69 0 168 (f3 73 0 175 (f3 89 0 182 (f3 93 0 189 (f3 100 0 196 (f3 114 0 203 (f3 116 0 208 ([]))))))))
noncomputable def c168:List Value:=f3 118 0 215 (f3 126 0 220 (f3 134 0 227 (f3 139 0 232 (f3 150 0 239 (f3 155 0 246 (f3 162 0 251 (f3 172 0 256 ([]))))))))
noncomputable def c169:List Value:=f3 175 0 263 (f3 183 0 268 (f3 204 0 275 (f3 209 0 282 (f3 214 0 289 (f3 219 0 296 (f3 223 0 301 (f3 230 0 308 ([]))))))))
def o170:Obj:=⟨.none,none,(.fields (List.toArray (List.append (c57) (List.append (c58) (List.append (c167) (List.append (c168) (c169))))))),#[]⟩
def o171:Obj:=oH "has_kinds_alone" (top 26)
noncomputable def o172:Obj:=od "has_kinds_alone" 468 116 2 205 471
def o173:Obj:=oF "has_kinds_alone" "has_kinds_alone" (top 26) "moonseat.sheets" 458 208
noncomputable def o174:Obj:=oV 477 ["rules", "row"]
def o175:Obj:=oH "check_row" (top 27)
noncomputable def o176:Obj:=oc "check_row" 474 118 2 210 479
def o177:Obj:=oF "check_row" "check_row" (top 27) "moonseat.sheets" 458 215
def o178:Obj:=oH "check_full" (top 31)
noncomputable def o179:Obj:=od "check_full" 488 126 3 217 491
def o180:Obj:=oF "check_full" "check_full" (top 31) "moonseat.mends" 482 220
noncomputable def o181:Obj:=oV 497 ["row", "costs", "stand", "kind", "at"]
def o182:Obj:=oH "cost_behind" (top 32)
noncomputable def o183:Obj:=oc "cost_behind" 494 134 4 222 502
def o184:Obj:=oF "cost_behind" "cost_behind" (top 32) "moonseat.mends" 482 227
def o185:Obj:=oH "numbers_of" (top 33)
noncomputable def o186:Obj:=od "numbers_of" 505 139 4 229 508
def o187:Obj:=oF "numbers_of" "numbers_of" (top 33) "moonseat.mends" 482 232
noncomputable def o188:Obj:=oV 514 ["rules", "row", "costs", "numbers", "stand", "kind", "after"]
def o189:Obj:=oH "cheapest_step" (top 34)
noncomputable def o190:Obj:=oc "cheapest_step" 511 150 5 234 521
def o191:Obj:=oF "cheapest_step" "cheapest_step" (top 34) "moonseat.mends" 482 239
noncomputable def o192:Obj:=oV 527 ["rules", "row", "costs", "numbers", "sheet", "stand", "kind"]
def o193:Obj:=oH "cheapest_sheet" (top 35)
noncomputable def o194:Obj:=oc "cheapest_sheet" 524 155 4 241 534
def o195:Obj:=oF "cheapest_sheet" "cheapest_sheet" (top 35) "moonseat.mends" 482 246
def o196:Obj:=oH "mended" (top 36)
noncomputable def o197:Obj:=od "mended" 537 162 3 248 540
def o198:Obj:=oF "mended" "mended" (top 36) "moonseat.mends" 482 251
def o199:Obj:=oH "each_once" (top 37)
noncomputable def o200:Obj:=od "each_once" 543 172 2 253 546
def o201:Obj:=oF "each_once" "each_once" (top 37) "moonseat.mends" 482 256
noncomputable def o202:Obj:=oV 552 ["rules", "row", "costs", "pair", "behind", "stand", "number", "kind", "after"]
def o203:Obj:=oH "pair_holds" (top 38)
noncomputable def o204:Obj:=oc "pair_holds" 549 175 5 258 561
def o205:Obj:=oF "pair_holds" "pair_holds" (top 38) "moonseat.mends" 482 263
def o206:Obj:=oH "prices_hold" (top 39)
noncomputable def o207:Obj:=od "prices_hold" 564 183 5 265 567
def o208:Obj:=oF "prices_hold" "prices_hold" (top 39) "moonseat.mends" 482 268
noncomputable def o209:Obj:=oV 591 ["row", "least", "most", "rest"]
def o210:Obj:=oH "fits_kind" (top 49)
noncomputable def o211:Obj:=oc "fits_kind" 588 204 1 270 595
def o212:Obj:=oF "fits_kind" "fits_kind" (top 49) "moonseat.rules" 570 275
noncomputable def o213:Obj:=oV 601 ["row", "many", "one", "other", "far"]
def o214:Obj:=oH "fits_shun" (top 50)
noncomputable def o215:Obj:=oc "fits_shun" 598 209 2 277 606
def o216:Obj:=oF "fits_shun" "fits_shun" (top 50) "moonseat.rules" 570 282
noncomputable def o217:Obj:=oV 612 ["row", "many", "size", "kind", "first", "last"]
def o218:Obj:=oH "fits_span" (top 51)
noncomputable def o219:Obj:=oc "fits_span" 609 214 3 284 618
def o220:Obj:=oF "fits_span" "fits_span" (top 51) "moonseat.rules" 570 289
noncomputable def o221:Obj:=oV 624 ["size", "kinds", "shuns", "bars", "dues"]
def o222:Obj:=oH "fits_counts" (top 52)
noncomputable def o223:Obj:=oc "fits_counts" 621 219 5 291 629
def o224:Obj:=oF "fits_counts" "fits_counts" (top 52) "moonseat.rules" 570 296
def o225:Obj:=oH "fits_rows" (top 53)
noncomputable def o226:Obj:=od "fits_rows" 632 223 5 298 635
def o227:Obj:=oF "fits_rows" "fits_rows" (top 53) "moonseat.rules" 570 301
noncomputable def c228(P:Params):List DictEntry:=[de P "__module__" 645 (.str "moonseat.rules" 570),de P "__qualname__" 647 (.str "Rules" 646),de P "__firstlineno__" 649 (.int 230 648),de P "__init__" 661 (.ref 316),de P "kinds" 668 (.ref 323),de P "shuns" 675 (.ref 330),de P "bars" 682 (.ref 337),de P "dues" 689 (.ref 344)]
noncomputable def c229(P:Params):List DictEntry:=[de P "many" 696 (.ref 351),de P "__static_attributes__" 702 (.ref 352)]
def o230(P:Params):Obj:=⟨.type "dict",none,(.dict (List.toArray (List.append (c228 P) (c229 P))) 10),#[]⟩
noncomputable def c231:List Value:=f3 232 4 315 (f3 243 4 322 (f3 246 4 329 (f3 249 4 336 (f3 252 4 343 (f3 255 4 350 ([]))))))
def o232:Obj:=⟨.none,none,(.fields (List.toArray (c231))),#[]⟩
noncomputable def o233:Obj:=⟨.type "code",none,(fC "Rules" "Rules" 640 641 642 230 0 0 0 0 306 false 181 307 643 644),#[]⟩
noncomputable def o234:Obj:=⟨.type "frame",none,.plain,#[some (.ref 308),some (.ref 3),some (.ref 305),none,some (.str "moonseat.rules" 570),none,some (.ref 0)]⟩
noncomputable def o235:Obj:=oV 653 ["self", "size", "kinds", "shuns", "bars", "dues"]
def o236:Obj:=oT "__init__" "Rules.__init__" (inClass (top 54) 0)
noncomputable def o237:Obj:=oC "__init__" "Rules.__init__" 650 232 6 310 [.ref 312,.ref 313,.ref 314] 659
def o238:Obj:=oF "__init__" "Rules.__init__" (inClass (top 54) 0) "moonseat.rules" 570 315
noncomputable def o239:Obj:=oV 665 ["self"]
def o240:Obj:=oT "kinds" "Rules.kinds" (inClass (top 54) 1)
noncomputable def o241:Obj:=oC "kinds" "Rules.kinds" 662 243 1 317 [.ref 319,.ref 320,.ref 321] 666
def o242:Obj:=oF "kinds" "Rules.kinds" (inClass (top 54) 1) "moonseat.rules" 570 322
noncomputable def o243:Obj:=oV 672 ["self"]
def o244:Obj:=oT "shuns" "Rules.shuns" (inClass (top 54) 2)
noncomputable def o245:Obj:=oC "shuns" "Rules.shuns" 669 246 1 324 [.ref 326,.ref 327,.ref 328] 673
def o246:Obj:=oF "shuns" "Rules.shuns" (inClass (top 54) 2) "moonseat.rules" 570 329
noncomputable def o247:Obj:=oV 679 ["self"]
def o248:Obj:=oT "bars" "Rules.bars" (inClass (top 54) 3)
noncomputable def o249:Obj:=oC "bars" "Rules.bars" 676 249 1 331 [.ref 333,.ref 334,.ref 335] 680
def o250:Obj:=oF "bars" "Rules.bars" (inClass (top 54) 3) "moonseat.rules" 570 336
noncomputable def o251:Obj:=oV 686 ["self"]
def o252:Obj:=oT "dues" "Rules.dues" (inClass (top 54) 4)
noncomputable def o253:Obj:=oC "dues" "Rules.dues" 683 252 1 338 [.ref 340,.ref 341,.ref 342] 687
def o254:Obj:=oF "dues" "Rules.dues" (inClass (top 54) 4) "moonseat.rules" 570 343
noncomputable def o255:Obj:=oV 693 ["self"]
def o256:Obj:=oT "many" "Rules.many" (inClass (top 54) 5)
noncomputable def o257:Obj:=oC "many" "Rules.many" 690 255 1 345 [.ref 347,.ref 348,.ref 349] 694
def o258:Obj:=oF "many" "Rules.many" (inClass (top 54) 5) "moonseat.rules" 570 350
noncomputable def o259:Obj:=oV 697 ["bar_rows", "due_rows", "kind_rows", "shun_rows", "size"]
noncomputable def c260(P:Params):List DictEntry:=[de P "__module__" 645 (.str "moonseat.rules" 570),de P "__firstlineno__" 649 (.int 230 648),de P "__init__" 661 (.ref 316),de P "kinds" 668 (.ref 323),de P "shuns" 675 (.ref 330),de P "bars" 682 (.ref 337),de P "dues" 689 (.ref 344),de P "many" 696 (.ref 351)]
noncomputable def c261(P:Params):List DictEntry:=[de P "__static_attributes__" 702 (.ref 352),de P "__dict__" 704 (.ref 355),de P "__weakref__" 706 (.ref 356),de P "__doc__" 707 .none]
def o262(P:Params):Obj:=⟨.type "dict",none,(.dict (List.toArray (List.append (c260 P) (c261 P))) 4),#[]⟩
noncomputable def o263:Obj:=⟨.type "type",none,(.cls { name := "Rules",bases:=[.type "object"],mro:=[.ref 354,.type "object"],ns:=353,qualname := "Rules",hasDict:=true,slotNames:=[],subclasses:=[],abstract:=false,collection:=none,hasDel:=false }),#[none,none,some (.str "Rules" 638),some (.str "Rules" 646),some (.builtin "object.__new__"),some (.bool true)]⟩
noncomputable def o264:Obj:=⟨.type "getset_descriptor",none,(.fields #[.str "__dict__" 703,.ref 354,.builtin "function.__dict__",.builtin "function.__dict__#set"]),#[]⟩
noncomputable def o265:Obj:=⟨.type "getset_descriptor",none,(.fields #[.str "__weakref__" 705,.ref 354,.builtin "ExceptionGroup.__weakref__",.none]),#[]⟩
noncomputable def o266:Obj:=⟨.type "super",none,(.fields #[.ref 354,.ref 354,.ref 354]),#[]⟩
noncomputable def o267:Obj:=⟨.type "builtin_function_or_method",none,(.fields #[.builtin "object.__init_subclass__",.ref 354]),#[]⟩
def c268(P:Params):List (Nat×Obj):=List.append [(3,o166 P),(12,o170)] (nz 205 [o0,o1,o171,o172,o173,o0])
def c269:List (Nat×Obj):=nz 211 [o1,o174,o0,o175,o176,o177,o0,o1]
def c270:List (Nat×Obj):=nz 219 [o178,o179,o180,o0,o1,o181,o0,o182]
def c271:List (Nat×Obj):=nz 227 [o183,o184,o0,o1,o185,o186,o187,o0]
def c272:List (Nat×Obj):=nz 235 [o1,o188,o0,o189,o190,o191,o0,o1]
def c273:List (Nat×Obj):=nz 243 [o192,o0,o193,o194,o195,o0,o1,o196]
def c274:List (Nat×Obj):=nz 251 [o197,o198,o0,o1,o199,o200,o201,o0]
def c275:List (Nat×Obj):=nz 259 [o1,o202,o0,o203,o204,o205,o0,o1]
def c276:List (Nat×Obj):=nz 267 [o206,o207,o208,o0,o1,o209,o0,o210]
def c277:List (Nat×Obj):=nz 275 [o211,o212,o0,o1,o213,o0,o214,o215]
def c278:List (Nat×Obj):=nz 283 [o216,o0,o1,o217,o0,o218,o219,o220]
def c279:List (Nat×Obj):=nz 291 [o0,o1,o221,o0,o222,o223,o224,o0]
def c280(P:Params):List (Nat×Obj):=nz 299 [o1,o225,o226,o227,o0,o14,o230 P,o0]
def c281:List (Nat×Obj):=nz 307 [o232,o233,o234,o0,o1,o235,o0,o236]
def c282:List (Nat×Obj):=nz 315 [o237,o238,o0,o1,o239,o0,o240,o241]
def c283:List (Nat×Obj):=nz 323 [o242,o0,o1,o243,o0,o244,o245,o246]
def c284:List (Nat×Obj):=nz 331 [o0,o1,o247,o0,o248,o249,o250,o0]
def c285:List (Nat×Obj):=nz 339 [o1,o251,o0,o252,o253,o254,o0,o1]
def c286(P:Params):List (Nat×Obj):=nz 347 [o255,o0,o256,o257,o258,o259,o262 P,o263]
def c287:List (Nat×Obj):=nz 355 [o264,o265,o266,o267]
noncomputable def c288(P:Params):List DictEntry:=[de P "fits_counts" 631 (.ref 297),de P "fits_rows" 637 (.ref 302),de P "Rules" 709 (.ref 354),de P "_law_numbers" 724 (.ref 365),de P "_law_windows" 737 (.ref 372),de P "_law_book" 743 (.ref 377),de P "_law_made" 750 (.ref 384),de P "_law_full" 760 (.ref 391)]
noncomputable def c289(P:Params):List DictEntry:=[de P "_law_costs" 766 (.ref 396),de P "_law_marks" 778 (.ref 403),de P "_law_due" 784 (.ref 408),de P "law" 790 (.ref 413)]
def o290(P:Params):Obj:=⟨.type "dict",none,(.dict (List.toArray (List.append (c161 P) (List.append (c53 P) (List.append (c54 P) (List.append (c55 P) (List.append (c162 P) (List.append (c163 P) (List.append (c164 P) (List.append (c288 P) (c289 P)))))))))) 68),#[]⟩
noncomputable def c291:List Value:=f3 258 0 364 (f3 274 0 371 (f3 280 0 376 (f3 300 0 383 (f3 302 0 390 (f3 309 0 395 (f3 313 0 402 (f3 323 0 407 ([]))))))))
noncomputable def c292:List Value:=f3 333 0 412 ([])
def o293:Obj:=⟨.none,none,(.fields (List.toArray (List.append (c57) (List.append (c58) (List.append (c167) (List.append (c168) (List.append (c169) (List.append (c291) (c292))))))))),#[]⟩
noncomputable def o294:Obj:=oV 715 ["_law_script", "_law_many", "_law_row", "_law_seed", "_law_cell", "_law_rest", "_law_k"]
def o295:Obj:=oH "_law_numbers" (top 56)
noncomputable def o296:Obj:=oc "_law_numbers" 712 258 2 359 722
def o297:Obj:=oG "_law_numbers" (top 56) 364
noncomputable def o298:Obj:=oV 728 ["_law_many", "_law_size", "_law_count", "_law_d", "_law_rows", "_law_k", "_law_first"]
def o299:Obj:=oH "_law_windows" (top 57)
noncomputable def o300:Obj:=oc "_law_windows" 725 274 4 366 735
def o301:Obj:=oG "_law_windows" (top 57) 371
def o302:Obj:=oH "_law_book" (top 58)
noncomputable def o303:Obj:=od "_law_book" 738 280 2 373 741
def o304:Obj:=oG "_law_book" (top 58) 376
noncomputable def o305:Obj:=oV 747 ["_law_book_here"]
def o306:Obj:=oH "_law_made" (top 59)
noncomputable def o307:Obj:=oc "_law_made" 744 300 1 378 748
def o308:Obj:=oG "_law_made" (top 59) 383
noncomputable def o309:Obj:=oV 754 ["_law_book_here", "_law_d", "_law_row", "_law_k"]
def o310:Obj:=oH "_law_full" (top 60)
noncomputable def o311:Obj:=oc "_law_full" 751 302 2 385 758
def o312:Obj:=oG "_law_full" (top 60) 390
def o313:Obj:=oH "_law_costs" (top 61)
noncomputable def o314:Obj:=od "_law_costs" 761 309 2 392 764
def o315:Obj:=oG "_law_costs" (top 61) 395
noncomputable def o316:Obj:=oV 770 ["_law_way", "_law_rules", "_law_row", "_law_costs_here", "_law_marks_here", "e"]
def o317:Obj:=oH "_law_marks" (top 62)
noncomputable def o318:Obj:=oc "_law_marks" 767 313 4 397 776
def o319:Obj:=oG "_law_marks" (top 62) 402
def o320:Obj:=oH "_law_due" (top 63)
noncomputable def o321:Obj:=od "_law_due" 779 323 3 404 782
def o322:Obj:=oG "_law_due" (top 63) 407
def o323:Obj:=oH "law" (top 64)
noncomputable def o324:Obj:=od "law" 785 333 1 409 788
def o325:Obj:=oG "law" (top 64) 412
def c326(P:Params):List (Nat×Obj):=List.append [(3,o290 P),(12,o293)] (nz 359 [o0,o1,o294,o0,o295,o296])
def c327:List (Nat×Obj):=nz 365 [o297,o0,o1,o298,o0,o299,o300,o301]
def c328:List (Nat×Obj):=nz 373 [o0,o1,o302,o303,o304,o0,o1,o305]
def c329:List (Nat×Obj):=nz 381 [o0,o306,o307,o308,o0,o1,o309,o0]
def c330:List (Nat×Obj):=nz 389 [o310,o311,o312,o0,o1,o313,o314,o315]
def c331:List (Nat×Obj):=nz 397 [o0,o1,o316,o0,o317,o318,o319,o0]
def c332:List (Nat×Obj):=nz 405 [o1,o320,o321,o322,o0,o1,o323,o324]
def c333:List (Nat×Obj):=[(413,o325)]
def c334(P:Params):List Obj:=[boot_o_0 P,boot_o_1 P,boot_o_2 P,o290 P,boot_o_4 P,boot_o_5 P,boot_o_6 P,boot_o_7 P]
def c335(P:Params):List Obj:=[boot_o_8 P,boot_o_9 P,boot_o_10 P,o0,o293,o2,o3,o13]
def c336(P:Params):List Obj:=[o14,o15 P,o0,o1,o16,o17,o0,o18 P]
def c337(P:Params):List Obj:=[o61,o20,o21,o22,o23,o14,o24 P,o0]
def c338(P:Params):List Obj:=[o1,o25,o26,o0,o27 P,o28,o29,o30]
def c339(P:Params):List Obj:=[o23,o14,o31 P,o0,o1,o32,o33,o0]
def c340(P:Params):List Obj:=[o34 P,o35,o36,o37,o23,o14,o38 P,o0]
def c341(P:Params):List Obj:=[o1,o39,o40,o0,o41 P,o42,o43,o44]
def c342(P:Params):List Obj:=[o23,o14,o62 P,o0,o1,o63,o64,o0]
def c343(P:Params):List Obj:=[o65 P,o66,o67,o68,o23,o14,o69 P,o0]
def c344(P:Params):List Obj:=[o1,o70,o71,o0,o72 P,o73,o74,o75]
def c345:List Obj:=[o0,o1,o76,o0,o77,o78,o79,o0]
def c346:List Obj:=[o1,o80,o0,o81,o82,o83,o0,o1]
def c347:List Obj:=[o84,o85,o86,o0,o1,o87,o0,o88]
def c348:List Obj:=[o89,o90,o0,o1,o91,o0,o92,o93]
def c349:List Obj:=[o94,o0,o1,o95,o0,o96,o97,o98]
def c350:List Obj:=[o0,o1,o99,o0,o100,o101,o102,o0]
def c351:List Obj:=[o1,o103,o0,o104,o105,o106,o0,o1]
def c352:List Obj:=[o107,o0,o108,o109,o110,o0,o1,o111]
def c353:List Obj:=[o0,o112,o113,o114,o0,o1,o115,o0]
def c354:List Obj:=[o116,o117,o118,o0,o1,o119,o0,o120]
def c355:List Obj:=[o121,o122,o0,o1,o123,o0,o124,o125]
def c356:List Obj:=[o126,o0,o1,o127,o0,o128,o129,o130]
def c357:List Obj:=[o0,o1,o131,o0,o132,o133,o134,o0]
def c358:List Obj:=[o1,o135,o0,o136,o137,o138,o0,o1]
def c359:List Obj:=[o139,o0,o140,o141,o142,o0,o1,o171]
def c360:List Obj:=[o172,o173,o0,o1,o174,o0,o175,o176]
def c361:List Obj:=[o177,o0,o1,o178,o179,o180,o0,o1]
def c362:List Obj:=[o181,o0,o182,o183,o184,o0,o1,o185]
def c363:List Obj:=[o186,o187,o0,o1,o188,o0,o189,o190]
def c364:List Obj:=[o191,o0,o1,o192,o0,o193,o194,o195]
def c365:List Obj:=[o0,o1,o196,o197,o198,o0,o1,o199]
def c366:List Obj:=[o200,o201,o0,o1,o202,o0,o203,o204]
def c367:List Obj:=[o205,o0,o1,o206,o207,o208,o0,o1]
def c368:List Obj:=[o209,o0,o210,o211,o212,o0,o1,o213]
def c369:List Obj:=[o0,o214,o215,o216,o0,o1,o217,o0]
def c370:List Obj:=[o218,o219,o220,o0,o1,o221,o0,o222]
def c371:List Obj:=[o223,o224,o0,o1,o225,o226,o227,o0]
def c372(P:Params):List Obj:=[o14,o230 P,o0,o232,o233,o234,o0,o1]
def c373:List Obj:=[o235,o0,o236,o237,o238,o0,o1,o239]
def c374:List Obj:=[o0,o240,o241,o242,o0,o1,o243,o0]
def c375:List Obj:=[o244,o245,o246,o0,o1,o247,o0,o248]
def c376:List Obj:=[o249,o250,o0,o1,o251,o0,o252,o253]
def c377:List Obj:=[o254,o0,o1,o255,o0,o256,o257,o258]
def c378(P:Params):List Obj:=[o259,o262 P,o263,o264,o265,o266,o267,o0]
def c379:List Obj:=[o1,o294,o0,o295,o296,o297,o0,o1]
def c380:List Obj:=[o298,o0,o299,o300,o301,o0,o1,o302]
def c381:List Obj:=[o303,o304,o0,o1,o305,o0,o306,o307]
def c382:List Obj:=[o308,o0,o1,o309,o0,o310,o311,o312]
def c383:List Obj:=[o0,o1,o313,o314,o315,o0,o1,o316]
def c384:List Obj:=[o0,o317,o318,o319,o0,o1,o320,o321]
def c385:List Obj:=[o322,o0,o1,o323,o324,o325]
noncomputable def o386:Obj:=⟨.none,none,(.dict (List.toArray []) 0),#[]⟩
def hA(P:Params):Heap:=⟨⟨(List.append (c4 P) (c5 P))⟩,{}⟩
def t0(P:Params):BT:=putAll .nil (List.append (c6 P) (c7 P))
def t1(P:Params):BT:=putAll (t0 P) (List.append (c45 P) (List.append (c46 P) (List.append (c47 P) (List.append (c48 P) (List.append (c49 P) (List.append (c50 P) (c51)))))))
def t2(P:Params):BT:=putAll (t1 P) (List.append (c143 P) (List.append (c144 P) (List.append (c145 P) (List.append (c146) (List.append (c147) (List.append (c148) (List.append (c149) (List.append (c150) (List.append (c151) (List.append (c152) (List.append (c153) (List.append (c154) (List.append (c155) (List.append (c156) (List.append (c157) (List.append (c158) (List.append (c159) (c160))))))))))))))))))
def t3(P:Params):BT:=putAll (t2 P) (List.append (c268 P) (List.append (c269) (List.append (c270) (List.append (c271) (List.append (c272) (List.append (c273) (List.append (c274) (List.append (c275) (List.append (c276) (List.append (c277) (List.append (c278) (List.append (c279) (List.append (c280 P) (List.append (c281) (List.append (c282) (List.append (c283) (List.append (c284) (List.append (c285) (List.append (c286 P) (c287))))))))))))))))))))
def t4(P:Params):BT:=putAll (t3 P) (List.append (c326 P) (List.append (c327) (List.append (c328) (List.append (c329) (List.append (c330) (List.append (c331) (List.append (c332) (c333))))))))
def sts0:List Stmt:=[top 0,top 1,top 2,top 3,top 4]
def sts1:List Stmt:=[top 5,top 6,top 7,top 8,top 9,top 10,top 11,top 12,top 13,top 14,top 15,top 16,top 17,top 18,top 19,top 20,top 21,top 22,top 23,top 24,top 25]
def sts2:List Stmt:=[top 26,top 27,top 28,top 29,top 30,top 31,top 32,top 33,top 34,top 35,top 36,top 37,top 38,top 39,top 40,top 41,top 42,top 43,top 44,top 45,top 46,top 47,top 48,top 49,top 50,top 51,top 52,top 53,top 54,top 55]
def sts3:List Stmt:=[top 56,top 57,top 58,top 59,top 60,top 61,top 62,top 63,top 64]
def hF(P:Params):Heap:=⟨⟨(List.append (c334 P) (List.append (c335 P) (List.append (c336 P) (List.append (c337 P) (List.append (c338 P) (List.append (c339 P) (List.append (c340 P) (List.append (c341 P) (List.append (c342 P) (List.append (c343 P) (List.append (c344 P) (List.append (c345) (List.append (c346) (List.append (c347) (List.append (c348) (List.append (c349) (List.append (c350) (List.append (c351) (List.append (c352) (List.append (c353) (List.append (c354) (List.append (c355) (List.append (c356) (List.append (c357) (List.append (c358) (List.append (c359) (List.append (c360) (List.append (c361) (List.append (c362) (List.append (c363) (List.append (c364) (List.append (c365) (List.append (c366) (List.append (c367) (List.append (c368) (List.append (c369) (List.append (c370) (List.append (c371) (List.append (c372 P) (List.append (c373) (List.append (c374) (List.append (c375) (List.append (c376) (List.append (c377) (List.append (c378 P) (List.append (c379) (List.append (c380) (List.append (c381) (List.append (c382) (List.append (c383) (List.append (c384) (c385))))))))))))))))))))))))))))))))))))))))))))))))))))⟩,{}⟩
def K(P:Params):Frag:=((nat_lit 2,o386)::(nat_lit 3,o290 P)::(nat_lit 15,o13)::(nat_lit 22,o0)::(nat_lit 23,o18 P)::(nat_lit 24,o61)::(nat_lit 25,o20)::(nat_lit 28,o23)::(nat_lit 35,o0)::(nat_lit 36,o27 P)::(nat_lit 37,o28)::(nat_lit 40,o23)::(nat_lit 47,o0)::(nat_lit 48,o34 P)::(nat_lit 49,o35)::(nat_lit 52,o23)::(nat_lit 59,o0)::(nat_lit 60,o41 P)::(nat_lit 61,o42)::(nat_lit 64,o23)::(nat_lit 71,o0)::(nat_lit 72,o65 P)::(nat_lit 73,o66)::(nat_lit 76,o23)::(nat_lit 83,o0)::(nat_lit 84,o72 P)::(nat_lit 85,o73)::(nat_lit 88,o0)::(nat_lit 90,o76)::(nat_lit 91,o0)::(nat_lit 93,o78)::(nat_lit 94,o79)::(nat_lit 95,o0)::(nat_lit 97,o80)::(nat_lit 98,o0)::(nat_lit 100,o82)::(nat_lit 101,o83)::(nat_lit 102,o0)::(nat_lit 105,o85)::(nat_lit 106,o86)::(nat_lit 107,o0)::(nat_lit 109,o87)::(nat_lit 110,o0)::(nat_lit 112,o89)::(nat_lit 113,o90)::(nat_lit 114,o0)::(nat_lit 116,o91)::(nat_lit 117,o0)::(nat_lit 119,o93)::(nat_lit 120,o94)::(nat_lit 121,o0)::(nat_lit 123,o95)::(nat_lit 124,o0)::(nat_lit 126,o97)::(nat_lit 127,o98)::(nat_lit 128,o0)::(nat_lit 130,o99)::(nat_lit 131,o0)::(nat_lit 133,o101)::(nat_lit 134,o102)::(nat_lit 135,o0)::(nat_lit 137,o103)::(nat_lit 138,o0)::(nat_lit 140,o105)::(nat_lit 141,o106)::(nat_lit 142,o0)::(nat_lit 144,o107)::(nat_lit 145,o0)::(nat_lit 147,o109)::(nat_lit 148,o110)::(nat_lit 149,o0)::(nat_lit 151,o111)::(nat_lit 152,o0)::(nat_lit 154,o113)::(nat_lit 155,o114)::(nat_lit 156,o0)::(nat_lit 158,o115)::(nat_lit 159,o0)::(nat_lit 161,o117)::(nat_lit 162,o118)::(nat_lit 163,o0)::(nat_lit 165,o119)::(nat_lit 166,o0)::(nat_lit 168,o121)::(nat_lit 169,o122)::(nat_lit 170,o0)::(nat_lit 172,o123)::(nat_lit 173,o0)::(nat_lit 175,o125)::(nat_lit 176,o126)::(nat_lit 177,o0)::(nat_lit 179,o127)::(nat_lit 180,o0)::(nat_lit 182,o129)::(nat_lit 183,o130)::(nat_lit 184,o0)::(nat_lit 186,o131)::(nat_lit 187,o0)::(nat_lit 189,o133)::(nat_lit 190,o134)::(nat_lit 191,o0)::(nat_lit 193,o135)::(nat_lit 194,o0)::(nat_lit 196,o137)::(nat_lit 197,o138)::(nat_lit 198,o0)::(nat_lit 200,o139)::(nat_lit 201,o0)::(nat_lit 203,o141)::(nat_lit 204,o142)::(nat_lit 205,o0)::(nat_lit 208,o172)::(nat_lit 209,o173)::(nat_lit 210,o0)::(nat_lit 212,o174)::(nat_lit 213,o0)::(nat_lit 215,o176)::(nat_lit 216,o177)::(nat_lit 217,o0)::(nat_lit 220,o179)::(nat_lit 221,o180)::(nat_lit 222,o0)::(nat_lit 224,o181)::(nat_lit 225,o0)::(nat_lit 227,o183)::(nat_lit 228,o184)::(nat_lit 229,o0)::(nat_lit 232,o186)::(nat_lit 233,o187)::(nat_lit 234,o0)::(nat_lit 236,o188)::(nat_lit 237,o0)::(nat_lit 239,o190)::(nat_lit 240,o191)::(nat_lit 241,o0)::(nat_lit 243,o192)::(nat_lit 244,o0)::(nat_lit 246,o194)::(nat_lit 247,o195)::(nat_lit 248,o0)::(nat_lit 251,o197)::(nat_lit 252,o198)::(nat_lit 253,o0)::(nat_lit 256,o200)::(nat_lit 257,o201)::(nat_lit 258,o0)::(nat_lit 260,o202)::(nat_lit 261,o0)::(nat_lit 263,o204)::(nat_lit 264,o205)::(nat_lit 265,o0)::(nat_lit 268,o207)::(nat_lit 269,o208)::(nat_lit 270,o0)::(nat_lit 272,o209)::(nat_lit 273,o0)::(nat_lit 275,o211)::(nat_lit 276,o212)::(nat_lit 277,o0)::(nat_lit 279,o213)::(nat_lit 280,o0)::(nat_lit 282,o215)::(nat_lit 283,o216)::(nat_lit 284,o0)::(nat_lit 286,o217)::(nat_lit 287,o0)::(nat_lit 289,o219)::(nat_lit 290,o220)::(nat_lit 291,o0)::(nat_lit 293,o221)::(nat_lit 294,o0)::(nat_lit 296,o223)::(nat_lit 297,o224)::(nat_lit 298,o0)::(nat_lit 301,o226)::(nat_lit 302,o227)::(nat_lit 310,o0)::(nat_lit 312,o235)::(nat_lit 313,o0)::(nat_lit 315,o237)::(nat_lit 316,o238)::(nat_lit 317,o0)::(nat_lit 319,o239)::(nat_lit 320,o0)::(nat_lit 322,o241)::(nat_lit 323,o242)::(nat_lit 324,o0)::(nat_lit 326,o243)::(nat_lit 327,o0)::(nat_lit 329,o245)::(nat_lit 330,o246)::(nat_lit 331,o0)::(nat_lit 333,o247)::(nat_lit 334,o0)::(nat_lit 336,o249)::(nat_lit 337,o250)::(nat_lit 338,o0)::(nat_lit 340,o251)::(nat_lit 341,o0)::(nat_lit 343,o253)::(nat_lit 344,o254)::(nat_lit 345,o0)::(nat_lit 347,o255)::(nat_lit 348,o0)::(nat_lit 350,o257)::(nat_lit 351,o258)::(nat_lit 352,o259)::(nat_lit 353,o262 P)::(nat_lit 354,o263)::(nat_lit 355,o264)::(nat_lit 356,o265)::(nat_lit 359,o0)::(nat_lit 361,o294)::(nat_lit 362,o0)::(nat_lit 364,o296)::(nat_lit 365,o297)::(nat_lit 366,o0)::(nat_lit 368,o298)::(nat_lit 369,o0)::(nat_lit 371,o300)::(nat_lit 372,o301)::(nat_lit 373,o0)::(nat_lit 376,o303)::(nat_lit 377,o304)::(nat_lit 378,o0)::(nat_lit 380,o305)::(nat_lit 381,o0)::(nat_lit 383,o307)::(nat_lit 384,o308)::(nat_lit 385,o0)::(nat_lit 387,o309)::(nat_lit 388,o0)::(nat_lit 390,o311)::(nat_lit 391,o312)::(nat_lit 392,o0)::(nat_lit 395,o314)::(nat_lit 396,o315)::(nat_lit 397,o0)::(nat_lit 399,o316)::(nat_lit 400,o0)::(nat_lit 402,o318)::(nat_lit 403,o319)::(nat_lit 404,o0)::(nat_lit 407,o321)::(nat_lit 408,o322)::(nat_lit 409,o0)::(nat_lit 412,o324)::(nat_lit 413,o325)::[])
noncomputable def kA:List Addr:=(2::3::15::22::23::24::25::28::35::36::37::40::47::48::49::52::59::60::61::64::71::72::73::76::83::84::85::88::90::91::93::94::95::97::98::100::101::102::105::106::107::109::110::112::113::114::116::117::119::120::121::123::124::126::127::128::130::131::133::134::135::137::138::140::141::142::144::145::147::148::149::151::152::154::155::156::158::159::161::162::163::165::166::168::169::170::172::173::175::176::177::179::180::182::183::184::186::187::189::190::191::193::194::196::197::198::200::201::203::204::205::208::209::210::212::213::215::216::217::220::221::222::224::225::227::228::229::232::233::234::236::237::239::240::241::243::244::246::247::248::251::252::253::256::257::258::260::261::263::264::265::268::269::270::272::273::275::276::277::279::280::282::283::284::286::287::289::290::291::293::294::296::297::298::301::302::310::312::313::315::316::317::319::320::322::323::324::326::327::329::330::331::333::334::336::337::338::340::341::343::344::345::347::348::350::351::352::353::354::355::356::359::361::362::364::365::366::368::369::371::372::373::376::377::378::380::381::383::384::385::387::388::390::391::392::395::396::397::399::400::402::403::404::407::408::409::412::413::[])
theorem kOk:∀P,kA=(K P).map (·.1):=fun _=>by kernel_rfl
def q:Program:={ pw with main:={ pw.main with body:=(top 1::top 2::top 3::top 4::top 5::top 6::top 8::top 9::top 10::top 11::top 12::top 13::top 14::top 15::top 16::top 17::top 18::top 19::top 20::top 21::top 22::top 23::top 25::top 26::top 27::top 29::top 30::top 31::top 32::top 33::top 34::top 35::top 36::top 37::top 38::top 39::top 41::top 42::top 43::top 44::top 45::top 46::top 47::top 48::top 49::top 50::top 51::top 52::top 53::top 54::top 56::top 57::top 58::top 59::top 60::top 61::top 62::top 63::top 64::[]) } }
noncomputable abbrev Xt:Shared->Bool:=fun s=>xlAt q [] s&&recOk (RowW.records (OpenRow.toRowW (OpenLaw.row PySem.Challenge.rw_moonseat_k20_mends_refused))) s
noncomputable def G2(p:Program)(w:World)(m:Nat)(an:Option Value)(n:Nat)(s:Shared)(t:Thread):=segRun treeTable p w m an 1 n s t
lay_quick G2
theorem g2{p:Program}{w:World}{m:Nat}{an:Option Value}{n:Nat}{s:Shared}{t:Thread}{r}(e:PySem.W.Fast.tw10880070632800087129 p w m an n s t=r):segRun treeTable p w m an 1 n s t=r:=by rw[<-PySem.W.Fast.te10880070632800087129]at e; exact e
noncomputable def G3(p:Program)(w:World)(m:Nat)(an:Option Value)(n:Nat)(s:SharedT)(t:Thread):=segRunT treeTable p w m an 1 n s t
lay_quick G3
theorem g3{p:Program}{w:World}{m:Nat}{an:Option Value}{n:Nat}{s:SharedT}{t:Thread}{r}(e:PySem.W.Fast.tw4145583888436359099 p w m an n s t=r):segRunT treeTable p w m an 1 n s t=r:=by rw[<-PySem.W.Fast.te4145583888436359099]at e; exact e
noncomputable def G4(p:Program)(w:World)(m:Nat)(an:Option Value)(n:Nat)(s:Shared)(t:Thread):=topRun treeTable p w m an n s t
lay_quick G4
theorem g4{p:Program}{w:World}{m:Nat}{an:Option Value}{n:Nat}{s:Shared}{t:Thread}{r}(e:PySem.W.Fast.tw6531939937263253831 p w m an n s t=r):topRun treeTable p w m an n s t=r:=by rw[<-PySem.W.Fast.te6531939937263253831]at e; exact e
noncomputable def G7(p:Program)(g h:Heap)(s:Shared):=(staticsOk (importedModules p.main.body) g h&&namesBound p h&&gensDone s&&laidKept g h)
lay_quick G7
theorem g7{p:Program}{g h:Heap}{s:Shared}{r}(e:PySem.W.Fast.tw9566738594451217396 p g h s=r):(staticsOk (importedModules p.main.body) g h&&namesBound p h&&gensDone s&&laidKept g h)=r:=by rw[<-PySem.W.Fast.te9566738594451217396]at e; exact e
noncomputable def G9(h:Heap):=(h.isNs mainGlobals&&(Array.mk []:Array GenState).size==0,h.objs.size,h.nsMap mainGlobals "__annotations__")
lay_quick G9
theorem g9{h:Heap}{r}(e:PySem.W.Fast.tw14578262778655688011 h=r):(h.isNs mainGlobals&&(Array.mk []:Array GenState).size==0,h.objs.size,h.nsMap mainGlobals "__annotations__")=r:=by rw[<-PySem.W.Fast.te14578262778655688011]at e; exact e
noncomputable def G5(q:Program)(R:WRecords)(md:List Str)(s:Shared):=(openSeen q [] md (fun s=>xlAt q [] s&&recOk R s) true s)
noncomputable def G6(q:Program):=openGood q []
lay_quick G5 G6
theorem g5{q:Program}{R:WRecords}{md:List Str}{s:Shared}{α:Type}(f:_->α)(e:f (PySem.W.Fast.tw5989712690265804088 q R md s)=f (PySem.W.Fast.tw12956129408465502666 q)):f (openSeen q [] md (fun s=>xlAt q [] s&&recOk R s) true s)=f (openGood q []):=by rw[<-PySem.W.Fast.te5989712690265804088,<-PySem.W.Fast.te12956129408465502666]at e; exact e
noncomputable def Lpre(w:World)(os:OsState):=topGo treeTable pw w 11 (some (.ref 6)) 12 (⟨boot_heap w.params,Array.mk [],boot_drawn,boot_toks,os⟩:Shared) (topStub pw)
def Rpre(w:World)(os:OsState):=some ((⟨hA w.params,Array.mk [],{},187,os⟩:Shared),(⟨denote treeTable cE,cE,(⟨0,0,0,0⟩:Pos),[topFrame (⟨0,0,0,0⟩:Pos)]⟩:Thread))
lay_quick Lpre Rpre
theorem Qpre:Lpre=Rpre:=PySem.W.Fast.te10476676399240795362.trans ((by kernel_rfl:PySem.W.Fast.tw10476676399240795362=PySem.W.Fast.tw9996742816549557572).trans PySem.W.Fast.te9996742816549557572.symm)
theorem Ppre(w:World)(os:OsState):topGo treeTable pw w 11 (some (.ref 6)) 12 (⟨boot_heap w.params,Array.mk [],boot_drawn,boot_toks,os⟩:Shared) (topStub pw)=some ((⟨hA w.params,Array.mk [],{},187,os⟩:Shared),(⟨denote treeTable cE,cE,(⟨0,0,0,0⟩:Pos),[topFrame (⟨0,0,0,0⟩:Pos)]⟩:Thread)):=congrFun (congrFun Qpre w) os
theorem Pblk(w:World)(os:OsState):segRun treeTable pw w 11 (some (.ref 6)) 1 1 (⟨hA w.params,Array.mk [],{},187,os⟩:Shared) (blockOf bd env cE (⟨0,0,0,0⟩:Pos) [topFrame (⟨0,0,0,0⟩:Pos)])=some (Flow.next,SharedT.abs (⟨t0 w.params,15,{},Array.mk [],{},187,os⟩:SharedT),cE,(⟨0,0,0,0⟩:Pos)):=g2 (by kernel_rfl)
theorem P0(w:World)(os:OsState):segRunT treeTable pw w 11 (some (.ref 6)) 1 835 (⟨t0 w.params,15,{},Array.mk [],{},187,os⟩:SharedT) (piecesOf sts0 env cE (⟨0,0,0,0⟩:Pos) [topFrame (⟨0,0,0,0⟩:Pos)])=some (Flow.next,(⟨t1 w.params,64,{},Array.mk [],{},255,os⟩:SharedT),cE,(⟨8,0,9,8⟩:Pos)):=g3 (by kernel_rfl)
theorem P1(w:World)(os:OsState):segRunT treeTable pw w 11 (some (.ref 6)) 1 994 (⟨t1 w.params,64,{},Array.mk [],{},255,os⟩:SharedT) (piecesOf sts1 env cE (⟨8,0,9,8⟩:Pos) [topFrame (⟨0,0,0,0⟩:Pos)])=some (Flow.next,(⟨t2 w.params,205,{},Array.mk [],{},468,os⟩:SharedT),cE,(⟨114,0,115,37⟩:Pos)):=g3 (by kernel_rfl)
theorem P2(w:World)(os:OsState):segRunT treeTable pw w 11 (some (.ref 6)) 1 987 (⟨t2 w.params,205,{},Array.mk [],{},468,os⟩:SharedT) (piecesOf sts2 env cE (⟨114,0,115,37⟩:Pos) [topFrame (⟨0,0,0,0⟩:Pos)])=some (Flow.next,(⟨t3 w.params,359,{},Array.mk [],{},712,os⟩:SharedT),cE,(⟨257,0,257,8⟩:Pos)):=g3 (by kernel_rfl)
theorem P3(w:World)(os:OsState):segRunT treeTable pw w 11 (some (.ref 6)) 1 270 (⟨t3 w.params,359,{},Array.mk [],{},712,os⟩:SharedT) (piecesOf sts3 env cE (⟨257,0,257,8⟩:Pos) [topFrame (⟨0,0,0,0⟩:Pos)])=some (Flow.next,(⟨t4 w.params,414,{},Array.mk [],{},791,os⟩:SharedT),cE,(⟨333,0,354,154⟩:Pos)):=g3 (by kernel_rfl)
theorem Pfin(w:World)(os:OsState):topRun treeTable pw w 11 (some (.ref 6)) 2 (SharedT.abs (⟨t4 w.params,414,{},Array.mk [],{},791,os⟩:SharedT)) (⟨doneF .next,cE,(⟨333,0,354,154⟩:Pos),[topFrame (⟨0,0,0,0⟩:Pos)]⟩:Thread)=some (⟨hF w.params,Array.mk [],{},791,os⟩:Shared):=g4 (by kernel_rfl)
theorem Pc0(w:World)(os:OsState):(openSeen q [] (importedModules pw.main.body) Xt true (⟨hF w.params,Array.mk [],{},791,os⟩:Shared)).1=(openGood q []).1:=g5 (·.1) (by kernel_rfl)
theorem Pc1(w:World)(os:OsState):(openSeen q [] (importedModules pw.main.body) Xt true (⟨hF w.params,Array.mk [],{},791,os⟩:Shared)).2.1=(openGood q []).2.1:=g5 (·.2.1) (by kernel_rfl)
theorem Pc2(w:World)(os:OsState):(openSeen q [] (importedModules pw.main.body) Xt true (⟨hF w.params,Array.mk [],{},791,os⟩:Shared)).2.2.1=(openGood q []).2.2.1:=g5 (·.2.2.1) (by kernel_rfl)
theorem Pc3(w:World)(os:OsState):(openSeen q [] (importedModules pw.main.body) Xt true (⟨hF w.params,Array.mk [],{},791,os⟩:Shared)).2.2.2.1=(openGood q []).2.2.2.1:=g5 (·.2.2.2.1) (by kernel_rfl)
theorem Pc4(w:World)(os:OsState):(openSeen q [] (importedModules pw.main.body) Xt true (⟨hF w.params,Array.mk [],{},791,os⟩:Shared)).2.2.2.2.1=(openGood q []).2.2.2.2.1:=g5 (·.2.2.2.2.1) (by kernel_rfl)
theorem Pc5(w:World)(os:OsState):(openSeen q [] (importedModules pw.main.body) Xt true (⟨hF w.params,Array.mk [],{},791,os⟩:Shared)).2.2.2.2.2.1=(openGood q []).2.2.2.2.2.1:=g5 (·.2.2.2.2.2.1) (by kernel_rfl)
theorem Pc6(w:World)(os:OsState):(openSeen q [] (importedModules pw.main.body) Xt true (⟨hF w.params,Array.mk [],{},791,os⟩:Shared)).2.2.2.2.2.2.1=(openGood q []).2.2.2.2.2.2.1:=g5 (·.2.2.2.2.2.2.1) (by kernel_rfl)
theorem Pc7(w:World)(os:OsState):(openSeen q [] (importedModules pw.main.body) Xt true (⟨hF w.params,Array.mk [],{},791,os⟩:Shared)).2.2.2.2.2.2.2.1=(openGood q []).2.2.2.2.2.2.2.1:=g5 (·.2.2.2.2.2.2.2.1) (by kernel_rfl)
theorem Pc8(w:World)(os:OsState):(openSeen q [] (importedModules pw.main.body) Xt true (⟨hF w.params,Array.mk [],{},791,os⟩:Shared)).2.2.2.2.2.2.2.2=(openGood q []).2.2.2.2.2.2.2.2:=g5 (·.2.2.2.2.2.2.2.2) (by kernel_rfl)
theorem Pa(w:World)(os:OsState):(staticsOk (importedModules pw.main.body) (boot_heap w.params) (hF w.params)&&namesBound pw (hF w.params)&&gensDone (⟨hF w.params,Array.mk [],{},791,os⟩:Shared)&&laidKept (boot_heap w.params) (hF w.params))=true:=g7 (by kernel_rfl)
theorem Py(w:World)(os:OsState):kA.map ((⟨hF w.params,Array.mk [],{},791,os⟩:Shared)).heap.get?=(K w.params).map fun p=>some p.2:=by kernel_rfl
theorem Pz(w:World):((boot_heap w.params).isNs mainGlobals&&(Array.mk []:Array GenState).size==0,(boot_heap w.params).objs.size,(boot_heap w.params).nsMap mainGlobals "__annotations__")=(true,11,(some (.ref 6))):=g9 (by kernel_rfl)
theorem run(w:World)(os:OsState):topRun treeTable pw w 11 (some (.ref 6)) (12+(1+(835+(994+(987+(270+2)))))) (⟨boot_heap w.params,Array.mk [],boot_drawn,boot_toks,os⟩:Shared) (topStub pw)=some (⟨hF w.params,Array.mk [],{},791,os⟩:Shared):=
 go_top (Ppre w os) (piece_block (Pblk w os) (piece_app (l:=sts0) (segRun_of (P0 w os)) (piece_app (l:=sts1) (segRun_of (P1 w os)) (piece_app (l:=sts2) (segRun_of (P2 w os)) (piece_app (l:=sts3) (segRun_of (P3 w os)) (piece_nil (Pfin w os)))))))
theorem opn:opening pw=plainProg pw.main.scope.names:=by kernel_rfl
theorem fen(s:Shared):fenceModules? pw s=some s:=by kernel_rfl
theorem left:LeftO pw q [] Xt (Hook.obs (kHook K kA kOk)) (Hook.val (kHook K kA kOk)) 6290:=
 LeftO.of_pieces (H₀:=boot_heap) (H₁:=hF) (boot_open opn (by decide) fen) Pz run (by decide) fun w=>funext fun os=>Prod.ext (Pa w os) (Prod.ext (Prod.ext (Pc0 w os) (Prod.ext (Pc1 w os) (Prod.ext (Pc2 w os) (Prod.ext (Pc3 w os) (Prod.ext (Pc4 w os) (Prod.ext (Pc5 w os) (Prod.ext (Pc6 w os) (Prod.ext (Pc7 w os) (Pc8 w os))))))))) (Py w os))
end
end Hd
namespace M
open PySem L2 DS CP
def gF(K:W.Frag):Sp:=fun vs H Q _=>∃(a:Addr) (ns:List Int),vs=[.ref a]/\jt K H a (ns.map V.int)/\ns.length<=63/\∀H',Q (.bl true) H'
theorem BN{K:W.Frag}{C:Addr}(vs:List V)(H:Hp)(Q:VK)(E:XK)(h:gF K vs H Q E):K5 K [false] (kx C) vs H Q E:=by
 obtain⟨a,ns,rfl,hS,hl,q⟩:=h
 have e:ja H []=H:=by funext b; rfl
 exact⟨[],[.scr ns],.bl true,(fun a h=>by cases h),⟨.inl (by rw[e]; show DS.j6 K H (.scr ns) _; rw[DS.j6]; exact⟨a,rfl,hS⟩),trivial⟩,aq C ns hl,fun v H' _ r=>by rw[DS.j6]at r; rw[r]; exact q H'⟩
theorem Ee{l:W.OpenLaw}{w:World}{K:W.Frag}{h:Heap}{mg:Str->Option Value}{fa C:Addr}(X:K.In h)(G:h.Ns mainGlobals mg)(hfa:mg "law" = some (.ref fa))
 (aC:W.nsIn K mainGlobals "Rules" = some (some (.ref C)))
 (pg:W.plainGet K C Str.empty=true)
 (hd:W.hasDictIn K C=true)
 (po:W.plainOver K C=true)
 (sa:W.findIn K (.ref C) "__setattr__" = some (some (.builtin "object.__setattr__")))
 (mk:W.makesIn K C=true)
 (kc:W.keepIn K (.ref C)=true)
 (h__law_numbers:At K "_law_numbers" "_law_numbers" (top 56))
 (h__law_windows:At K "_law_windows" "_law_windows" (top 57))
 (h__law_book:At K "_law_book" "_law_book" (top 58))
 (h_fits_counts:At K "fits_counts" "fits_counts" (top 52))
 (h_fits_kind:At K "fits_kind" "fits_kind" (top 49))
 (h_fits_shun:At K "fits_shun" "fits_shun" (top 50))
 (h_fits_span:At K "fits_span" "fits_span" (top 51))
 (h_fits_rows:At K "fits_rows" "fits_rows" (top 53))
 (h_Rules___init__:QV K C "__init__" "Rules.__init__" (inClass (top 54) 0))
 (h__law_made:At K "_law_made" "_law_made" (top 59))
 (h__law_full:At K "_law_full" "_law_full" (top 60))
 (h__law_costs:At K "_law_costs" "_law_costs" (top 61))
 (h__law_due:At K "_law_due" "_law_due" (top 63))
 (h_Rules_many:QV K C "many" "Rules.many" (inClass (top 54) 5))
 (h_is_kind:At K "is_kind" "is_kind" (top 25))
 (h_has_kinds_alone:At K "has_kinds_alone" "has_kinds_alone" (top 26))
 (h_check_row:At K "check_row" "check_row" (top 27))
 (h_check_full:At K "check_full" "check_full" (top 31))
 (h_empty_stand:At K "empty_stand" "empty_stand" (top 8))
 (h_is_barred:At K "is_barred" "is_barred" (top 13))
 (h_is_long:At K "is_long" "is_long" (top 14))
 (h_is_short:At K "is_short" "is_short" (top 15))
 (h_is_early:At K "is_early" "is_early" (top 16))
 (h_is_shunned:At K "is_shunned" "is_shunned" (top 17))
 (h_met_with:At K "met_with" "met_with" (top 11))
 (h_misses_due:At K "misses_due" "misses_due" (top 18))
 (h_run_with:At K "run_with" "run_with" (top 9))
 (h_is_cut:At K "is_cut" "is_cut" (top 19))
 (h_breach:At K "breach" "breach" (top 20))
 (h_waits_with:At K "waits_with" "waits_with" (top 10))
 (h_stand_with:At K "stand_with" "stand_with" (top 12))
 (h_stepped:At K "stepped" "stepped" (top 21))
 (h_steps_from:At K "steps_from" "steps_from" (top 22))
 (h_layers_from:At K "layers_from" "layers_from" (top 23))
 (h_cost_behind:At K "cost_behind" "cost_behind" (top 32))
 (h_numbers_of:At K "numbers_of" "numbers_of" (top 33))
 (h_cheapest_step:At K "cheapest_step" "cheapest_step" (top 34))
 (h_cheapest_sheet:At K "cheapest_sheet" "cheapest_sheet" (top 35))
 (h_mended:At K "mended" "mended" (top 36))
 (h_prices_hold:At K "prices_hold" "prices_hold" (top 39))
 (h__law_marks:At K "_law_marks" "_law_marks" (top 62))
 (h_law:At K "law" "law" (top 64))
 (ek:ExK K U3 "VerseError")
 (hF:∀f∈(T0 C).fl,yS K C f)
 (hG:∀p∈(T0 C).gs,G0 K p.1 p.2):
  ∃fd:FuncData,(∀(s:Shared) (v:Value),BindsTo s fd ⟨[v],[]⟩ [("_law_script",v)])/\∀base:Heap,K.In base->base.Ns mainGlobals mg->FnOk l.prog w K mg base Yd 91 fa fd ["_law_script"] (gF K):=by
 have XG:∀x v,W.nsIn K mainGlobals x=some (some v)->mg x=some v:=fun x v a=>W.mg_of X G a
 obtain⟨f_law,kx,a_law,F_law⟩:=h_law
 have e:=hfa.symm.trans (XG _ _ a_law)
 cases e
 obtain⟨_,_,kV,dc,pm,an,cd,ct,_,rfl,_,_⟩:=F_law.ex
 refine⟨W.fnOf "law" "law" (defArgs (top 64)) (defBody (top 64)) (defScope (top 64)) .none kV dc pm an cd ct,fun s v=>.of_eq rfl,fun base _ _=>?_⟩
 have h:TOk l.prog w K mg base 0 (T0 C):=⟨fun p hp=>Fg XG (fun x a=>W.mg_none_of X G a) (hG p hp),(fun _ h=>by cases h),⟨pg,hd,po,sa⟩,hF⟩
 have hz:yU l.prog w K mg base 0 eJ:=fun _ h=>by cases h
 have h:TOk l.prog w K mg base 2 (T1 C):=TOk.F XG h h__law_numbers (Gr C)
 have h:TOk l.prog w K mg base 4 (T2 C):=TOk.F XG h h__law_windows (Gs C)
 have h:TOk l.prog w K mg base 6 (T3 C):=TOk.E XG h h__law_book (wH C)
 have h:TOk l.prog w K mg base 8 (T4 C):=TOk.E XG h h_fits_counts (ke C)
 have h:TOk l.prog w K mg base 10 (T5 C):=TOk.E XG h h_fits_kind (wI C)
 have h:TOk l.prog w K mg base 12 (T6 C):=TOk.E XG h h_fits_shun (wJ C)
 have h:TOk l.prog w K mg base 14 (T7 C):=TOk.E XG h h_fits_span (wK C)
 have h:TOk l.prog w K mg base 16 (T8 C):=TOk.E XG h h_fits_rows (wL C)
 have h:TOk l.prog w K mg base 18 (T9 C):=TOk.I XG (d:=yx C) h h_Rules___init__ rfl (UH C) rfl (UI C) mk kc aC (uV C)
 have h:TOk l.prog w K mg base 20 (eK C):=TOk.F XG h h__law_made (wM C)
 have h:TOk l.prog w K mg base 22 (eL C):=TOk.F XG h h__law_full (wN C)
 have h:TOk l.prog w K mg base 24 (eM C):=TOk.F XG h h__law_costs (wp C)
 have h:TOk l.prog w K mg base 26 (eN C):=TOk.F XG h h__law_due (qJ C)
 have h:TOk l.prog w K mg base 28 (eO C):=TOk.mE (d:=ZK C) h h_Rules_many (wq C) rfl
 have h:TOk l.prog w K mg base 30 (eP C):=TOk.E XG h h_is_kind (xz C)
 have h:TOk l.prog w K mg base 32 (eQ C):=TOk.E XG h h_has_kinds_alone (uW C)
 have h:TOk l.prog w K mg base 34 (AX C):=TOk.E XG h h_check_row (Ue C)
 have hz:yU l.prog w K mg base 36 (eR C):=yU.Z XG h (hz.mono (by decide)) ek h_check_row (wt C) rfl (Ue C).b
 have h:=h.mono (m:=36) (by decide)
 have h:TOk l.prog w K mg base 38 (AY C):=TOk.E XG h h_check_full (uu C)
 have hz:yU l.prog w K mg base 40 (eS C):=yU.Z XG h (hz.mono (by decide)) ek h_check_full (kf C) rfl (uu C).b
 have h:=h.mono (m:=40) (by decide)
 have h:TOk l.prog w K mg base 42 (eT C):=TOk.E XG h h_empty_stand (kg C)
 have h:TOk l.prog w K mg base 44 (eU C):=TOk.E XG h h_is_barred (wO C)
 have h:TOk l.prog w K mg base 46 (eV C):=TOk.E XG h h_is_long (xA C)
 have h:TOk l.prog w K mg base 48 (eW C):=TOk.E XG h h_is_short (qK C)
 have h:TOk l.prog w K mg base 50 (eX C):=TOk.E XG h h_is_early (qL C)
 have h:TOk l.prog w K mg base 52 (eY C):=TOk.E XG h h_is_shunned (wu C)
 have h:TOk l.prog w K mg base 54 (eZ C):=TOk.E XG h h_met_with (qM C)
 have h:TOk l.prog w K mg base 56 (e_ C):=TOk.E XG h h_misses_due (wv C)
 have h:TOk l.prog w K mg base 58 (E1 C):=TOk.E XG h h_run_with (qN C)
 have h:TOk l.prog w K mg base 60 (E2 C):=TOk.E XG h h_is_cut (ar C)
 have h:TOk l.prog w K mg base 62 (E3 C):=TOk.E XG h h_breach (au C)
 have h:TOk l.prog w K mg base 64 (E4 C):=TOk.E XG h h_waits_with (wy C)
 have h:TOk l.prog w K mg base 66 (E5 C):=TOk.E XG h h_stand_with (wz C)
 have h:TOk l.prog w K mg base 68 (E6 C):=TOk.E XG h h_stepped (xB C)
 have h:TOk l.prog w K mg base 70 (E7 C):=TOk.F XG h h_steps_from (wA C)
 have h:TOk l.prog w K mg base 72 (E8 C):=TOk.F XG h h_layers_from (kh C)
 have h:TOk l.prog w K mg base 74 (E9 C):=TOk.E XG h h_cost_behind (ki C)
 have h:TOk l.prog w K mg base 76 (Ea C):=TOk.F XG h h_numbers_of (wB C)
 have h:TOk l.prog w K mg base 78 (Eb C):=TOk.E XG h h_cheapest_step (gE C)
 have h:TOk l.prog w K mg base 80 (Ec C):=TOk.F XG h h_cheapest_sheet (UJ C)
 have h:TOk l.prog w K mg base 82 (AZ C):=TOk.E XG h h_mended (wC C)
 have hz:yU l.prog w K mg base 84 (Ed C):=yU.Z XG h (hz.mono (by decide)) ek h_mended (xC C) rfl (wC C).b
 have h:=h.mono (m:=84) (by decide)
 have h:TOk l.prog w K mg base 86 (A_ C):=TOk.E XG h h_prices_hold (VJ C)
 have hz:yU l.prog w K mg base 88 (FT C):=yU.Z XG h (hz.mono (by decide)) ek h_prices_hold (Gu C) rfl (VJ C).b
 have h:=h.mono (m:=88) (by decide)
 have h:TOk l.prog w K mg base 90 (FU C):=TOk.Tr XG h (hz.mono (by decide)) ek h__law_marks (wD C) rfl (wE C)
 exact(DR (d:=b7 C) h F_law (Fp C) rfl).imp BN
theorem walk{l:W.OpenLaw}{q:Program}{loose:List Str}{XP:(Str->Option Value)->Heap->Prop}{YP:World->Heap->Prop}{d:DefRec}{K:Params->W.Frag}(hn:l.most=some 63)(hdf:d.params.defaults=[])
  (hY:∀(w:World) (h:Heap),YP w h->(K w.params).In h)
  (F:∀(w:World) (mg:Str->Option Value) (fa:Addr) (h:Heap),(K w.params).In h->h.Ns mainGlobals mg->mg d.name=some (.ref fa)->
   ∃fd:FuncData,(∀(s:Shared) (u:Value),BindsTo s fd ⟨[u],[]⟩ [("_law_script",u)])/\∀base:Heap,(K w.params).In base->base.Ns mainGlobals mg->FnOk l.prog w (K w.params) mg base Yd 91 fa fd ["_law_script"] (gF (K w.params))):
  W.WalkO q loose XP YP l.row.toRowW d [] (fun f vs=>PySem.call f vs):=
 L2.bE (n:=63) (k:=91) (x := "_law_script") (CX:=fun _=>Yd) (sp:=fun w=>gF (K w.params)) hn (by decide) hdf ⟨rfl,by decide,by decide⟩ hY F (fun _ _ a ns hl _ hS=>⟨a,ns,rfl,hS,hl,fun _=>rfl⟩) fun _ _ _ _ _ z=>z
end M
open PySem PySem.W PyProof.Rows
set_option maxRecDepth 100000 in
set_option maxHeartbeats 0 in
theorem PySem.Challenge.cw_moonseat_k20_mends_refused_holds : PySem.Challenge.rw_moonseat_k20_mends_refused.Holds := by
 w_on; o_law
 refine holds_open (q:=Hd.q) (loose:=[]) (Xt:=Hd.Xt) (XP:=XL Hd.q []) (Yf:=Hook.obs (kHook Hd.K Hd.kA Hd.kOk)) (Ya:=Hook.val (kHook Hd.K Hd.kA Hd.kOk)) (YP:=Hook.says (kHook Hd.K Hd.kA Hd.kOk)) (N:=6290) Hd.left (Hook.of _) (Hook.keeps _) (fun s e=>xl_of s (Bool.and_eq_true_iff.mp e).1) XL.keeps (by rfl) (by rfl) (by rfl) (fun s e=>recFacts_of (Bool.and_eq_true_iff.mp e).2) (by rfl) (by assumption) (by decide +kernel) ⟨rfl,rfl,rfl,rfl,rfl,by decide +kernel⟩ ?hw ?hc
 case hw=>w_witness2
 k_fill
 refine M.walk (l:=PySem.Challenge.rw_moonseat_k20_mends_refused) rfl rfl (fun w h Y=>kIn_of Y) ?F
 case F=>
  intro w mg fa h KX G hmg
  refine' M.Ee KX G hmg ?_ ?_ ?_ ?_ ?_ ?_ ?_ ?_ ?_ ?_ ?_ ?_ ?_ ?_ ?_ ?_ ?_ ?_ ?_ ?_ ?_ ?_ ?_ ?_ ?_ ?_ ?_ ?_ ?_ ?_ ?_ ?_ ?_ ?_ ?_ ?_ ?_ ?_ ?_ ?_ ?_ ?_ ?_ ?_ ?_ ?_ ?_ ?_ ?_ ?_ ?_ ?_
  rotate_left 1
  iterate 7 (next=>k_is)
  iterate 8 (next=>exact CP.qA (by k_is) (L2.VV (by k_is) (by k_is) (by k_is)))
  iterate 1 (next=>exact CP.QW (by k_is) (by k_is) (L2.VV (by k_is) (by k_is) (by k_is)))
  iterate 4 (next=>exact CP.qA (by k_is) (L2.VV (by k_is) (by k_is) (by k_is)))
  iterate 1 (next=>exact CP.QW (by k_is) (by k_is) (L2.VV (by k_is) (by k_is) (by k_is)))
  iterate 28 (next=>exact CP.qA (by k_is) (L2.VV (by k_is) (by k_is) (by k_is)))
  iterate 1 (next=>exact CP.DV (cs:=[("NoKind",49),("TooLong",61),("NotFull",73),("BadCosts",85)]) (V:=24) (by k_is) (CP.jN ⟨by k_is,by kernel_rfl,by k_is,by k_is,by k_is,by k_is,by k_is,by k_is,by k_is,by k_is⟩ (CP.jN ⟨by k_is,by kernel_rfl,by k_is,by k_is,by k_is,by k_is,by k_is,by k_is,by k_is,by k_is⟩ (CP.jN ⟨by k_is,by kernel_rfl,by k_is,by k_is,by k_is,by k_is,by k_is,by k_is,by k_is,by k_is⟩ (CP.jN ⟨by k_is,by kernel_rfl,by k_is,by k_is,by k_is,by k_is,by k_is,by k_is,by k_is,by k_is⟩ CP.gf)))) (CP.jN (by kernel_rfl) (CP.jN (by kernel_rfl) (CP.jN (by kernel_rfl) (CP.jN (by kernel_rfl) CP.gf)))) (CP.jN ((CP.jN (by kernel_rfl) (CP.jN (by kernel_rfl) (CP.jN (by kernel_rfl) (CP.jN (by kernel_rfl) CP.gf))))) (CP.jN ((CP.jN (by kernel_rfl) (CP.jN (by kernel_rfl) (CP.jN (by kernel_rfl) (CP.jN (by kernel_rfl) CP.gf))))) (CP.jN ((CP.jN (by kernel_rfl) (CP.jN (by kernel_rfl) (CP.jN (by kernel_rfl) (CP.jN (by kernel_rfl) CP.gf))))) (CP.jN ((CP.jN (by kernel_rfl) (CP.jN (by kernel_rfl) (CP.jN (by kernel_rfl) (CP.jN (by kernel_rfl) CP.gf))))) CP.gf)))))
  iterate 1 (next=>exact CP.jN (show W.findIn _ _ _=_ by k_is) (CP.jN (show W.findIn _ _ _=_ by k_is) (CP.jN (show W.findIn _ _ _=_ by k_is) (CP.jN (show W.findIn _ _ _=_ by k_is) (CP.jN (show W.findIn _ _ _=_ by k_is) (CP.gf))))))
  iterate 1 (next=>exact CP.jN ⟨_,by k_is⟩ (CP.jN ⟨_,by k_is⟩ (CP.jN ⟨_,by k_is⟩ (CP.jN ⟨_,by k_is⟩ (CP.jN ⟨_,by k_is⟩ (CP.jN ⟨_,by k_is⟩ (CP.jN ⟨_,by k_is⟩ (CP.jN ⟨_,by k_is⟩ (CP.jN ⟨_,by k_is⟩ (CP.jN ⟨_,by k_is⟩ (CP.jN (show W.nsIn _ _ _=_ by k_is) (CP.jN (show W.nsIn _ _ _=_ by k_is) (CP.jN (show W.nsIn _ _ _=_ by k_is) (CP.jN (show W.nsIn _ _ _=_ by k_is) (CP.jN (show W.nsIn _ _ _=_ by k_is) (CP.jN (show W.nsIn _ _ _=_ by k_is) (CP.jN (show W.nsIn _ _ _=_ by k_is) (CP.jN (show W.nsIn _ _ _=_ by k_is) (CP.jN (show W.nsIn _ _ _=_ by k_is) (CP.jN (show W.nsIn _ _ _=_ by k_is) (CP.jN (show W.nsIn _ _ _=_ by k_is) (CP.jN (show W.nsIn _ _ _=_ by k_is) (CP.gf)))))))))))))))))))))))
