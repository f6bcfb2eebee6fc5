import PyProof.Rows.All
import Wide.All
import OpenK.AllK
import Wide.FinOn
import Lean
import PyProof.EqAt
import PyProof.EqKinds
import PyProof.TupleCall
import PyProof.NeKinds
import PyProof.IsiTupleOf
import PyProof.IsiPairs
import PyProof.IsiHeapPairs
import PyProof.ConsumeWalk
import PyProof.EnumFor
import PyProof.EnumMake
import PyProof.AutoSeq1
import PyProof.ListRange
import KE.KRevIter
import PyProof.SumWalkG
import PySem.Challenge.RW_moonseat_k26_verdicts_and_advice
set_option Elab.async false
set_option linter.all false
set_option maxRecDepth 100000
set_option maxHeartbeats 1000000
namespace L2
open PySem PySem.Spec PyProof.Rows
inductive KD where
  | i (n:Int) | s (x:Str) | t (l:List KD)
noncomputable instance:DecidableEq KD:=fun _ _=>Classical.propDecidable _
mutual
noncomputable def jC(h:Heap):KD->Value->Prop
  | .i n,v=>(∃t,v=.int n t)∨∃b:Bool,v=.bool b/\n=(if b then 1 else 0)
  | .s x,v=>∃t,v=.str x t
  | .t l,v=>∃a its,v=.ref a/\h.IsTuple a its/\jM h l its.toList
noncomputable def jM(h:Heap):List KD->List Value->Prop
  | [],vs=>vs=[]
  | k :: ks,vs=>∃v r,vs=v :: r/\jC h k v/\jM h ks r
end
mutual
noncomputable def KD.dep:KD->Nat
  | .i _=>0
  | .s _=>0
  | .t l=>yV l + 1
noncomputable def yV:List KD->Nat
  | []=>0
  | k :: ks=>max k.dep (yV ks)
end
mutual
noncomputable def KD.drw:KD->Nat
  | .i _=>1
  | .s _=>1
  | .t l=>UN l + 1
noncomputable def UN:List KD->Nat
  | []=>0
  | k :: ks=>k.drw + UN ks
end
mutual
noncomputable def uw(w:World):KD->Int
  | .i n=>hashInt n
  | .s x=>hashStr w x
  | .t l=>reduceHash (Builtin.Tuple.tupleHashOf (VD w l))
noncomputable def VD(w:World):List KD->List Int
  | []=>[]
  | k :: ks=>uw w k :: VD w ks
end
mutual
theorem jC.inj{h:Heap}:∀{x y:KD} {v:Value},jC h x v->jC h y v->x=y
  | .i n,.i m,v,p,q=>by
    rw[jC]at p; rw[jC]at q
    rcases p with⟨t,rfl⟩ | ⟨b,rfl,rfl⟩
    · rcases q with⟨t,e⟩ | ⟨b,e,_⟩ <;> cases e
      rfl
    · rcases q with⟨t,e⟩ | ⟨b,e,rfl⟩ <;> cases e
      rfl
  | .s n,.s m,v,p,q=>by
    rw[jC]at p; rw[jC]at q
    obtain⟨t,rfl⟩:=p
    obtain⟨t,e⟩:=q
    cases e
    rfl
  | .t n,.t m,v,p,q=>by
    rw[jC]at p; rw[jC]at q
    obtain⟨a,its,rfl,o1,p⟩:=p
    obtain⟨a',its',e,o2,q⟩:=q
    cases e
    obtain⟨o,g,_,_,d⟩:=o1
    obtain⟨o',g',_,_,d'⟩:=o2
    rw[g]at g'
    cases g'
    rw[d]at d'
    cases d'
    rw[jM.inj p q]
  | .i n,.s m,v,p,q=>by
    rw[jC]at p; rw[jC]at q
    obtain⟨t,rfl⟩:=q
    rcases p with⟨t,e⟩ | ⟨b,e,_⟩ <;> cases e
  | .i n,.t m,v,p,q=>by
    rw[jC]at p; rw[jC]at q
    obtain⟨_,_,rfl,_⟩:=q
    rcases p with⟨t,e⟩ | ⟨b,e,_⟩ <;> cases e
  | .s n,.i m,v,p,q=>by
    rw[jC]at p; rw[jC]at q
    obtain⟨t,rfl⟩:=p
    rcases q with⟨t,e⟩ | ⟨b,e,_⟩ <;> cases e
  | .s n,.t m,v,p,q=>by
    rw[jC]at p; rw[jC]at q
    obtain⟨t,rfl⟩:=p
    obtain⟨_,_,e,_⟩:=q
    cases e
  | .t n,.i m,v,p,q=>by
    rw[jC]at p; rw[jC]at q
    obtain⟨_,_,rfl,_⟩:=p
    rcases q with⟨t,e⟩ | ⟨b,e,_⟩ <;> cases e
  | .t n,.s m,v,p,q=>by
    rw[jC]at p; rw[jC]at q
    obtain⟨_,_,rfl,_⟩:=p
    obtain⟨t,e⟩:=q
    cases e
theorem jM.inj{h:Heap}:∀{x y:List KD} {v:List Value},jM h x v->jM h y v->x=y
  | [],[],_,_,_=>rfl
  | [],_ :: _,_,p,q=>by
    rw[jM]at p; rw[jM]at q
    subst p
    obtain⟨_,_,e,_⟩:=q
    cases e
  | _ :: _,[],_,p,q=>by
    rw[jM]at p; rw[jM]at q
    subst q
    obtain⟨_,_,e,_⟩:=p
    cases e
  | x :: xs,y :: ys,_,p,q=>by
    rw[jM]at p; rw[jM]at q
    obtain⟨v,r,rfl,p1,p2⟩:=p
    obtain⟨v',r',e,q1,q2⟩:=q
    cases e
    rw[jC.inj p1 q1,jM.inj p2 q2]
end
mutual
theorem jC.keep{h h':Heap}(m:∀a its,h.IsTuple a its->h'.IsTuple a its):∀{k:KD} {v:Value},jC h k v->jC h' k v
  | .i _,_,p=>by rw[jC]at p⊢; exact p
  | .s _,_,p=>by rw[jC]at p⊢; exact p
  | .t l,_,p=>by
    rw[jC]at p⊢
    obtain⟨a,its,rfl,o,p⟩:=p
    exact⟨a,its,rfl,m a its o,jM.keep m p⟩
theorem jM.keep{h h':Heap}(m:∀a its,h.IsTuple a its->h'.IsTuple a its):∀{k:List KD} {v:List Value},jM h k v->jM h' k v
  | [],_,p=>by rw[jM]at p⊢; exact p
  | k :: ks,_,p=>by
    rw[jM]at p⊢
    obtain⟨v,r,rfl,p1,p2⟩:=p
    exact⟨v,r,rfl,jC.keep m p1,jM.keep m p2⟩
end
section
variable {prog:Program} {w:World} {E:Value->Shared->Prop}
theorem W_{A:Around}{s:Shared}{b:Bool}{Q:Int->Shared->Prop}(hu:A.units < cLine)(h:Q (hashInt (if b then 1 else 0)) { s with toks:=s.toks + 1 }):wpAny (model prog w) A (pyHash (.bool b)) Q E s:=by
  refine PySem.W.pyHash_slot (v:=.bool b) (T := "bool") rfl F.slot_bool_hash entry_int_hash (args_int_hash _) (beq_builtin_none _) (.inr hu) ?_
  cases b
  · exact(show wpAny _ _ (do ret (<-mkInt 0)) _ _ s from wpAny_bind (wpAny_mkInt (wpAny_pure ⟨_,_,rfl,by
                                                                                                             have e:reduceHash 0=hashInt 0:=by decide
                                                                                                             rw[e]; exact h⟩)))
  · exact(show wpAny _ _ (do ret (<-mkInt 1)) _ _ s from wpAny_bind (wpAny_mkInt (wpAny_pure ⟨_,_,rfl,by
                                                                                                             have e:reduceHash 1=hashInt 1:=by decide
                                                                                                             rw[e]; exact h⟩)))
mutual
theorem wE:∀(k:KD) (v:Value) (A:Around) (s:Shared) (Q:Int->Shared->Prop),jC s.heap k v->A.units + k.dep < cLine->Q (uw w k) { s with toks:=s.toks + k.drw }->wpAny (model prog w) A (pyHash v) Q E s
  | .i n,v,A,s,Q,p,hu,h=>by
    rw[jC]at p
    rw[uw,KD.drw]at h
    rcases p with⟨t,rfl⟩ | ⟨b,rfl,rfl⟩
    · exact wpAny_pyHash_int h
    · exact W_ (by rw[KD.dep]at hu; exact hu) h
  | .s x,v,A,s,Q,p,hu,h=>by
    rw[jC]at p
    rw[uw,KD.drw]at h
    obtain⟨t,rfl⟩:=p
    exact wpAny_pyHash_str h
  | .t l,v,A,s,Q,p,hu,h=>by
    rw[jC]at p
    rw[uw,KD.drw]at h
    rw[KD.dep]at hu
    obtain⟨a,its,rfl,o,p⟩:=p
    obtain⟨ob,g,c,n,dt⟩:=o
    refine PySem.W.pyHash_slot (v:=.ref a) (T := "tuple") ⟨_,g,c⟩ F.slot_tuple_hash F.entry_tuple_hash (F.args_tuple_hash_1 _) (beq_builtin_none _) (.inr (by omega)) ?_
    refine(show wpAny _ _ (Builtin.Tuple.tupleItemsOf (.ref a) >>= _) _ _ s from wpAny_bind (wpAny_tupleItemsOf g dt (wpAny_bind ?_)))
    rw[<-Array.forIn_toList]
    refine ko l its.toList A.in1 s #[] _ p (by rw[Around.in1_units]; omega) fun b' hb=>?_
    show wpAny _ _ (retInt (Builtin.Tuple.tupleHashOf b'.toList)) _ _ _
    rw[hb]
    exact wpAny_bind (wpAny_mkInt (wpAny_pure ⟨_,_,rfl,by simpa[Nat.add_assoc]using h⟩))
theorem ko:∀(ks:List KD) (vs:List Value) (A:Around) (s:Shared) (b:Array Int) (Q:Array Int->Shared->Prop),jM s.heap ks vs->A.units + yV ks < cLine->(∀b':Array Int,b'.toList=b.toList ++ VD w ks->Q b' { s with toks:=s.toks + UN ks })->
    wpAny (model prog w) A (forIn vs b fun x r=>do let h<-pyHash x; pure (ForInStep.yield (r.push h))) Q E s
  | [],vs,A,s,b,Q,p,hu,h=>by
    rw[jM]at p
    subst p
    rw[List.forIn_nil]
    exact wpAny_pure (by simpa[UN,VD]using h b)
  | k :: ks,vs,A,s,b,Q,p,hu,h=>by
    rw[jM]at p
    rw[yV]at hu
    obtain⟨v,r,rfl,p1,p2⟩:=p
    rw[List.forIn_cons]
    refine wpAny_bind (wpAny_bind (wE k v A s _ p1 (by omega) (wpAny_pure ?_)))
    refine ko ks r A _ _ Q p2 (by omega) fun b' hb=>?_
    have:=h b' (by rw[hb,VD]; simp)
    rw[UN]at this
    simpa[Nat.add_assoc]using this
end
end
section
open SeqAt
variable {s:Shared}
theorem vz{α:Type}[DecidableEq α]{a b:α}{c:Bool}(h:c=true↔a=b):decide (a=b)=c:=by
  cases c with
  | true=>exact decide_eq_true (h.mp rfl)
  | false=>exact decide_eq_false fun z=>by have:=h.mpr z; cases this
theorem jM.len{h:Heap}:∀{ks:List KD} {vs:List Value},jM h ks vs->vs.length=ks.length
  | [],_,p=>by rw[jM]at p; subst p; rfl
  | k :: ks,_,p=>by
    rw[jM]at p
    obtain⟨v,r,rfl,_,p2⟩:=p
    simp[p2.len]
theorem jM.get{h:Heap}:∀{ks:List KD} {vs:List Value} {j:Nat} {v:Value},jM h ks vs->vs[j]?=some v->∃k,ks[j]?=some k/\jC h k v
  | [],_,_,_,p,e=>by rw[jM]at p; subst p; simp at e
  | k :: ks,_,j,v',p,e=>by
    rw[jM]at p
    obtain⟨v,r,rfl,p1,p2⟩:=p
    cases j with
    | zero=>cases e; exact⟨k,rfl,p1⟩
    | succ j=>exact p2.get (j:=j) e
theorem Gr:∀{ks:List KD} {k:KD},k∈ks->k.dep<=yV ks
  | [],_,h=>by cases h
  | x :: xs,k,h=>by
    rw[yV]
    rcases List.mem_cons.mp h with rfl | h
    · omega
    · have:=Gr h
      omega
theorem Xj:∀(n:Nat) (x y:KD) (u v:Value) (A:Around),x.dep<=n->jC s.heap x u->jC s.heap y v->A.units + n < cLine->EqAt A s u v (decide (x=y))
  | n,.i a,.i b,u,v,A,hn,p,q,hu=>by
    rw[jC]at p; rw[jC]at q
    rcases p with⟨t,rfl⟩ | ⟨c,rfl,rfl⟩
    · rcases q with⟨t',rfl⟩ | ⟨c',rfl,rfl⟩
      · rw[vz (c:=(a == b)) (by simp)]; exact .int_int a t b t'
      · rw[vz (c:=(a == if c' then 1 else 0)) (by simp)]; exact .int_bool a t c'
    · rcases q with⟨t',rfl⟩ | ⟨c',rfl,rfl⟩
      · rw[vz (c:=((if c then 1 else 0) == b)) (by simp)]; exact .bool_int c b t'
      · rw[vz (c:=(c == c')) (by cases c <;> cases c' <;> simp)]; exact .bool_bool c c'
  | n,.s a,.s b,u,v,A,hn,p,q,hu=>by
    rw[jC]at p; rw[jC]at q
    obtain⟨t,rfl⟩:=p
    obtain⟨t',rfl⟩:=q
    rw[vz (c:=(a == b)) (by simp)]; exact .str_str a t b t'
  | n,.i a,.s b,u,v,A,hn,p,q,hu=>by
    rw[jC]at p; rw[jC]at q
    obtain⟨t',rfl⟩:=q
    rw[decide_eq_false (by intro z; cases z)]
    rcases p with⟨t,rfl⟩ | ⟨c,rfl,rfl⟩
    · exact .int_str a t b t'
    · exact .bool_str c b t'
  | n,.s a,.i b,u,v,A,hn,p,q,hu=>by
    rw[jC]at p; rw[jC]at q
    obtain⟨t',rfl⟩:=p
    rw[decide_eq_false (by intro z; cases z)]
    rcases q with⟨t,rfl⟩ | ⟨c,rfl,rfl⟩
    · exact .str_int a t' b t
    · exact .str_bool a t' c
  | n,.i a,.t b,u,v,A,hn,p,q,hu=>by
    rw[jC]at p; rw[jC]at q
    obtain⟨e,its,rfl,o,_⟩:=q
    rw[decide_eq_false (by intro z; cases z)]
    rcases p with⟨t,rfl⟩ | ⟨c,rfl,rfl⟩
    · exact .int_tuple a t o (by omega)
    · exact .bool_tuple c o (by omega)
  | n,.t a,.i b,u,v,A,hn,p,q,hu=>by
    rw[jC]at p; rw[jC]at q
    obtain⟨e,its,rfl,o,_⟩:=p
    rw[decide_eq_false (by intro z; cases z)]
    rcases q with⟨t,rfl⟩ | ⟨c,rfl,rfl⟩
    · exact .tuple_int b t o (by omega)
    · exact .tuple_bool c o (by omega)
  | n,.s a,.t b,u,v,A,hn,p,q,hu=>by
    rw[jC]at p; rw[jC]at q
    obtain⟨e,its,rfl,o,_⟩:=q
    obtain⟨t,rfl⟩:=p
    rw[decide_eq_false (by intro z; cases z)]
    exact .str_tuple a t o (by omega)
  | n,.t a,.s b,u,v,A,hn,p,q,hu=>by
    rw[jC]at p; rw[jC]at q
    obtain⟨e,its,rfl,o,_⟩:=p
    obtain⟨t,rfl⟩:=q
    rw[decide_eq_false (by intro z; cases z)]
    exact .tuple_str b t o (by omega)
  | 0,.t a,.t b,u,v,A,hn,p,q,hu=>by rw[KD.dep]at hn; omega
  | n + 1,.t a,.t b,u,v,A,hn,p,q,hu=>by
    rw[KD.dep]at hn
    rw[jC]at p; rw[jC]at q
    obtain⟨l,its,rfl,o,p⟩:=p
    obtain⟨l',its',rfl,o',q⟩:=q
    by_cases hl:l=l'
    · subst hl
      obtain⟨z,g,_,_,d⟩:=o
      obtain⟨z',g',_,_,d'⟩:=o'
      rw[g]at g'
      cases g'
      rw[d]at d'
      cases d'
      rw[jM.inj p q,decide_eq_true rfl]
      exact .same _
    · have l1:=p.len
      have l2:=q.len
      have ev:=RcAt.tuples (A:=A) (e:=fun j=>decide (a[j]?=b[j]?)) o o' (by omega) fun j h1 h2=>by
        have g1:its.toList[j]?=some its[j]:=by simp[h1]
        have g2:its'.toList[j]?=some its'[j]:=by simp[h2]
        obtain⟨k1,e1,r1⟩:=p.get g1
        obtain⟨k2,e2,r2⟩:=q.get g2
        have:=Xj n k1 k2 _ _ A.in1 (Nat.le_trans (Gr (List.mem_of_getElem? e1)) (by omega)) r1 r2 (by rw[Around.in1_units]; omega)
        rw[e1,e2]
        have ee:decide (some k1=some k2)=decide (k1=k2):=by
          by_cases z:k1=k2
          · rw[decide_eq_true z,decide_eq_true (by rw[z])]
          · rw[decide_eq_false z,decide_eq_false (fun y=>z (Option.some.inj y))]
        rw[ee]
        exact this
      refine .of_refs hl ?_
      rw[vz (c:=((List.range (min its.size its'.size)).all (fun j=>decide (a[j]?=b[j]?)) && its.size == its'.size))]
      · exact ev
      · rw[Bool.and_eq_true,beq_iff_eq,List.all_eq_true]
        have z1:its.size=a.length:=by rw[<-l1]; simp
        have z2:its'.size=b.length:=by rw[<-l2]; simp
        rw[z1,z2]
        constructor
        · rintro⟨h1,h2⟩
          congr 1
          refine List.ext_getElem? fun j=>?_
          by_cases hj:j < a.length
          · exact of_decide_eq_true (h1 j (by simp; omega))
          · rw[List.getElem?_eq_none (by omega),List.getElem?_eq_none (by omega)]
        · intro h
          cases h
          exact⟨fun j _=>by simp,rfl⟩
end
section
variable {prog:Program} {w:World} {E:Value->Shared->Prop} {s:Shared}
theorem kq:∀(n:Nat) (k:KD) (v:Value) (A:Around) (Q:Bool->Shared->Prop),k.dep<=n->jC s.heap k v->Q true s->wpAny (model prog w) A (eqIsQuiet n v) Q E s
  | n,.i _,v,A,Q,_,p,h=>by
    rw[jC]at p
    rcases p with⟨t,rfl⟩ | ⟨b,rfl,_⟩
    · rw[eqIsQuiet_byValue n (v:=.int _ t) rfl]; exact wpAny_pure h
    · rw[eqIsQuiet_byValue n (v:=.bool b) rfl]; exact wpAny_pure h
  | n,.s x,v,A,Q,_,p,h=>by
    rw[jC]at p
    obtain⟨t,rfl⟩:=p
    rw[eqIsQuiet_byValue n (v:=.str x t) rfl]; exact wpAny_pure h
  | 0,.t l,v,A,Q,hn,p,h=>by rw[KD.dep]at hn; omega
  | n + 1,.t l,v,A,Q,hn,p,h=>by
    rw[KD.dep]at hn
    rw[jC]at p
    obtain⟨a,its,rfl,o,p⟩:=p
    obtain⟨ob,g,c,m,dt⟩:=o
    have ty:s.TypeIs (.ref a) "tuple" := ⟨ob,g,c⟩
    unfold eqIsQuiet
    refine wpAny_bind (wpAny_specialOf ty F.slot_tuple_eq.lookup ?_)
    refine(show wpAny _ _ (isInstance (.ref a) (.type "tuple") >>= _) _ _ s from wpAny_bind (wpAny_isInstance ty isSubtype_tuple_tuple ?_))
    rw[if_neg (by decide)]
    refine wpAny_bind (wpAny_seqItems g dt (wpAny_bind ?_))
    rw[Option.getD_some,<-Array.forIn_toList]
    have ql:∀(rest:List Value),(∃ks,jM s.heap ks rest/\yV ks<=n)->wpAny (model prog w) A (forIn rest ((none:Option Bool),PUnit.unit) fun y r=>do
        if (!(<-eqIsQuiet n y))=true then pure (ForInStep.done (some false,PUnit.unit))else do pure PUnit.unit; pure (ForInStep.yield (none,PUnit.unit))) (fun r s'=>r=(none,PUnit.unit)/\s'=s) E s:=by
      intro rest
      induction rest with
      | nil=>intro _; rw[List.forIn_nil]; exact wpAny_pure ⟨rfl,rfl⟩
      | cons y rest ih=>
        rintro⟨ks,hk,hd⟩
        cases ks with
        | nil=>rw[jM]at hk; cases hk
        | cons k ks=>
          rw[jM]at hk
          obtain⟨_,_,e,k1,k2⟩:=hk
          cases e
          rw[yV]at hd
          rw[List.forIn_cons]
          refine wpAny_bind (wpAny_bind (kq n k y A _ (by omega) k1 ?_))
          rw[if_neg (by decide)]
          exact wpAny_pure (ih ⟨ks,k2,by omega⟩)
    refine wpAny_mono (ql its.toList ⟨l,p,by omega⟩) ?_ fun _ _ x=>x
    rintro r s' ⟨rfl,rfl⟩
    exact wpAny_pure h
end
noncomputable def JG(prog:Program)(w:World):HeapKind prog w KD where
  is:=fun h k a=>jC h k (.ref a)/\k.dep<=8
  hash:=uw w
  draws:=KD.drw
  room:=fun A=>A.units + 8 < cLine
  inj:=fun p q=>p.1.inj q.1
  keeps:=fun p ho hd hs=>by
    refine⟨p.1.keep fun b its t=>?_,p.2⟩
    obtain⟨ob,g,c,m,dt⟩:=t
    refine⟨ob,(hs.2 b ?_).trans g,c,m,dt⟩
    rintro rfl
    rw[ho]at g
    cases g
    rw[hd]at dt
    cases dt
  pyHash:=fun hu p h=>wE _ _ _ _ _ p.1 (by have:=p.2; omega) h
  eqBool:=fun hu p q h=>Xj 8 _ _ _ _ _ p.2 p.1 q.1 hu _ _ _ _ h
  quiet:=fun p h=>kq 8 _ _ _ _ p.2 p.1 h
end L2
namespace L2
open PySem PySem.Spec PyProof.Rows
noncomputable abbrev zU:=Sum Int Str
noncomputable def Xk:zU->Value->Bool
  | .inl k,v=>Value.isInt k v
  | .inr x,v=>Value.isStrOf x v
noncomputable def Ev(w:World):zU->Int
  | .inl k=>hashInt k
  | .inr x=>hashStr w x
theorem Jh:∀{k:zU} {v:Value},Xk k v=true->(∃i t,k=Sum.inl i/\v=Value.int i t)∨(∃x t,k=Sum.inr x/\v=Value.str x t)
  | .inl i,v,h=>by
    obtain⟨t,e⟩:=Value.isInt_shape (k:=i) (v:=v) h
    exact .inl ⟨i,t,rfl,e⟩
  | .inr x,v,h=>by
    obtain⟨t,e⟩:=Value.isStrOf_shape (x:=x) (v:=v) h
    exact .inr ⟨x,t,rfl,e⟩
theorem bj(a b:Int):decide ((Sum.inl a:zU)=Sum.inl b)=(a == b):=by
  by_cases e:a=b
  · subst e; simp
  · have h:¬(Sum.inl a:zU)=Sum.inl b:=fun q=>e (Sum.inl.inj q)
    rw[decide_eq_false h]
    exact(beq_eq_false_iff_ne.mpr e).symm
theorem bm(a b:Str):decide ((Sum.inr a:zU)=Sum.inr b)=decide (a=b):=by
  by_cases e:a=b
  · subst e; simp
  · have h:¬(Sum.inr a:zU)=Sum.inr b:=fun q=>e (Sum.inr.inj q)
    rw[decide_eq_false h,decide_eq_false e]
theorem bn(a:Int)(b:Str):decide ((Sum.inl a:zU)=Sum.inr b)=false:=decide_eq_false (fun q=>nomatch q)
theorem bp(a:Str)(b:Int):decide ((Sum.inr a:zU)=Sum.inl b)=false:=decide_eq_false (fun q=>nomatch q)
noncomputable def gF(prog:Program)(w:World):PySem.KeyKind prog w zU where
  is:=Xk
  hash:=Ev w
  inj:=fun v a b ha hb=>by
    rcases Jh ha with⟨i,t,rfl,rfl⟩ | ⟨x,t,rfl,rfl⟩
    · rcases Jh hb with⟨j,u,rfl,e⟩ | ⟨y,u,rfl,e⟩
      · injection e with e1 _; rw[e1]
      · exact nomatch e
    · rcases Jh hb with⟨j,u,rfl,e⟩ | ⟨y,u,rfl,e⟩
      · exact nomatch e
      · injection e with e1 _; rw[e1]
  byValue:=fun k v h=>by
    rcases Jh h with⟨i,t,rfl,rfl⟩ | ⟨x,t,rfl,rfl⟩ <;> rfl
  pyHash:=fun hv h=>by
    rcases Jh hv with⟨i,t,rfl,rfl⟩ | ⟨x,t,rfl,rfl⟩
    · exact wpAny_pyHash_int h
    · exact wpAny_pyHash_str h
  eqBool:=fun hu hv h=>by
    rcases Jh hu with⟨i,t,rfl,rfl⟩ | ⟨x,t,rfl,rfl⟩
    · rcases Jh hv with⟨j,u,rfl,rfl⟩ | ⟨y,u,rfl,rfl⟩
      · rw[bj]at h; exact wpAny_eqBool_int h
      · rw[bn]at h; exact SeqAt.EqAt.int_str i t y u _ _ _ _ h
    · rcases Jh hv with⟨j,u,rfl,rfl⟩ | ⟨y,u,rfl,rfl⟩
      · rw[bp]at h; exact SeqAt.EqAt.str_int x t j u _ _ _ _ h
      · rw[bm]at h; exact wpAny_eqBool_str h
  «strs»:=fun k x t v h=>by
    rcases Jh h with⟨i,u,rfl,e⟩ | ⟨y,u,rfl,e⟩
    · exact nomatch e
    · injection e with e1 _
      subst e1
      cases v <;> rfl
end L2
namespace L2
open PySem PySem.Spec PyProof.Rows
inductive V where
  | non | bl (b:Bool) | int (i:Int) | str (x:Str) | byt (b:Array UInt8) | flt (b:UInt64) | ref (a:Addr) | ty (n:String)
  deriving DecidableEq
noncomputable def jl:V->Value->Prop
  | .non,u=>u=Value.none
  | .bl b,u=>u=Value.bool b
  | .int i,u=>∃t,u=Value.int i t
  | .str x,u=>∃t,u=Value.str x t
  | .byt b,u=>∃t,u=Value.bytes b t
  | .flt b,u=>∃t,u=Value.float b t
  | .ref a,u=>u=Value.ref a
  | .ty n,u=>u=Value.type n
noncomputable abbrev jd:List V->List Value->Prop:=Paired jl
theorem jd.length{xs:List V}{us:List Value}(r:jd xs us):xs.length=us.length:=Paired.length r
theorem jd.get:∀{xs:List V} {us:List Value} {i:Nat} {x:V},jd xs us->xs[i]?=some x->∃u,us[i]?=some u/\jl x u
  | _,_,_,_,.nil,e=>by simp at e
  | _,_,0,_,.cons r _,e=>by simp at e; subst e; exact⟨_,rfl,r⟩
  | _,_,i + 1,x,.cons _ t,e=>by
    obtain⟨u,h1,h2⟩:=jd.get (i:=i) (x:=x) t (by simpa using e)
    exact⟨u,by simpa using h1,h2⟩
theorem jd.set{x:V}{u:Value}(r:jl x u):∀{xs:List V} {us:List Value} (i:Nat),jd xs us->jd (xs.set i x) (us.set i u)
  | _,_,_,.nil=>.nil
  | _,_,0,.cons _ t=>.cons r t
  | _,_,i + 1,.cons q t=>.cons q (jd.set r i t)
theorem jd.append:∀{xs ys:List V} {us ws:List Value},jd xs us->jd ys ws->jd (xs ++ ys) (us ++ ws)
  | _,_,_,_,.nil,s=>s
  | _,_,_,_,.cons r t,s=>.cons r (jd.append t s)
theorem jd.take:∀{xs:List V} {us:List Value} (n:Nat),jd xs us->jd (xs.take n) (us.take n)
  | _,_,0,_=>.nil
  | _,_,_ + 1,.nil=>.nil
  | _,_,n + 1,.cons r t=>.cons r (jd.take n t)
theorem jd.drop:∀{xs:List V} {us:List Value} (n:Nat),jd xs us->jd (xs.drop n) (us.drop n)
  | _,_,0,r=>r
  | _,_,_ + 1,.nil=>.nil
  | _,_,n + 1,.cons _ t=>jd.drop n t
noncomputable def Z_:Option V->Option Value->Prop
  | some v,some u=>jl v u
  | none,none=>True
  | _,_=>False
noncomputable def KV{κ:Type}:List (κ×V)->List (κ×Value)->Prop:=Paired fun(p:κ×V) (q:κ×Value)=>p.1=q.1/\jl p.2 q.2
noncomputable def kV:zU->V
  | .inl i=>.int i
  | .inr x=>.str x
inductive HO where
  | lst (xs:List V)
  | tup (xs:List V)
  | dK (kvs:List (zU×V)) | dT (kvs:List (List zU×V))
  | dD (kvs:List (KD×Addr×V)) (ep:Nat)
  | set (S:Int->Bool) (n:Nat)
  | ins (C dx:Addr) (fs:List (Str×V))
  | own (x:Addr)
  | xd (fs:List (Str×V))
  | met (f x:Addr)
  | rng (lo hi:Int)
  | frz (o:Obj) (u:HO)
  | tbl (ps:Array Value)
  | ext (φ:Heap->Prop)
noncomputable abbrev Hp:=Addr->Option HO
noncomputable def upd(H:Hp)(a:Addr)(o:HO):Hp:=fun b=>if b=a then some o else H b
theorem J7{H:Hp}{a:Addr}{o:HO}:upd H a o a=some o:=by unfold upd; rw[if_pos rfl]
theorem jm{H:Hp}{a b:Addr}{o:HO}(h:b≠a):upd H a o b=H b:=by unfold upd; rw[if_neg h]
theorem jx{H:Hp}{a b:Addr}{o:HO}(h:H a=some o)(h':H b=none):a≠b:=by
  intro e; subst e; rw[h]at h'; cases h'
section
variable (P:Program) (w:World)
noncomputable def JQ(H:Hp)(h:Heap)(a:Addr):HO->Prop
  | .lst xs=>xs.length<=sizeLine/\∃(its:List Value) (n:Nat),jd xs its/\h.get? a=some { cls:=.type "list",data:=.seq its.toArray n }
  | .tup xs=>xs.length<=sizeLine/\∃its:List Value,jd xs its/\IsTup h a its.toArray
  | .dK kvs=>kvs.length<=sizeLine/\(a == sysModules)=false/\∃vs,KV kvs vs/\h.DictOf (gF P w) a vs
  | .dT kvs=>kvs.length<=sizeLine/\(a == sysModules)=false/\∃xs:List (List zU×Addr×Value),
      Paired (fun(p:List zU×V) (q:List zU×Addr×Value)=>p.1=q.1/\H q.2.1=some (.tup (p.1.map kV))/\jl p.2 q.2.2) kvs xs/\
      ∃o es ep,h.get? a=some o/\o.ExactDict/\o.data=.dict es ep/\es.toList=xs.map (entryOfKey (tupleKind (gF P w)))/\(xs.map (·.1)).Nodup
  | .dD kvs ep=>kvs.length<=sizeLine/\(a == sysModules)=false/\(kvs.map (·.1)).Nodup/\∃xs:List (KD×Addr×Value),
      Paired (fun(p:KD×Addr×V) (q:KD×Addr×Value)=>p.1=q.1/\p.2.1=q.2.1/\jl p.2.2 q.2.2) kvs xs/\
      ∃o es,h.get? a=some o/\o.ExactDict/\o.data=.dict es ep/\es.toList=xs.map (entryOfKey (JG P w))
  | .set S n=>h.SetOf (intKind P w) a S n
  | .ins C dx fs=>H dx=some (.own a)/\fs.length<=1000/\dx≠a/\h.get? a=some (PySem.W.instObj C dx)/\
      ∃mA,h.Ns1 dx mA/\(∀f,Z_ (fs.lookup f) (mA f))/\PySem.Within mA (fs.map (·.1))
  | .own _=>∃o,h.get? a=some o
  | .xd fs=>∃mA,h.Ns1 a mA/\∀f,Z_ (fs.lookup f) (mA f)
  | .rng lo hi=>∃t u v,h.get? a=some { cls:=.type "range",data:=.fields #[.int lo t,.int hi u,.int 1 v] }
  | .frz o u=>h.get? a=some o/\JQ H h a u
  | .tbl ps=>h.get? a=some { cls:=.none,data:=.fields ps }
  | .met f x=>h.get? a=some (PySem.W.methodObj (.ref f) (.ref x))
  | .ext φ=>φ h/\(∃o,h.get? a=some o)/\∀h1 h2:Heap,φ h1->(∀o,h1.get? a=some o->h2.get? a=some o)->φ h2
noncomputable def JT(H:Hp)(h:Heap):Prop:=∀a o,H a=some o->JQ P w H h a o
end
section
variable {P:Program} {w:World} {H H':Hp} {h h':Heap} {a:Addr} {o:HO}
theorem JQ.lt(x:JQ P w H h a o):a < h.objs.size:=by
  cases o with
  | lst xs=>obtain⟨_,_,_,_,e⟩:=x; exact Heap.lt_size e
  | tup xs=>obtain⟨_,_,_,p⟩:=x; exact p.lt
  | dK kvs=>obtain⟨_,_,_,_,o,_,_,e,_⟩:=x; exact Heap.lt_size e
  | dT kvs=>obtain⟨_,_,_,_,o,_,_,e,_⟩:=x; exact Heap.lt_size e
  | dD kvs ep=>obtain⟨_,_,_,_,_,o,_,e,_⟩:=x; exact Heap.lt_size e
  | set S n=>obtain⟨o,_,_,_,e,_⟩:=x; exact Heap.lt_size e
  | ins C dx fs=>obtain⟨_,_,_,e,_⟩:=x; exact Heap.lt_size e
  | own y=>obtain⟨_,e⟩:=x; exact Heap.lt_size e
  | xd fs=>obtain⟨_,⟨_,_,_,e,_⟩,_⟩:=x; exact Heap.lt_size e
  | rng lo hi=>obtain⟨_,_,_,e⟩:=x; exact Heap.lt_size e
  | frz ob u=>obtain⟨e,_⟩:=x; exact Heap.lt_size e
  | tbl ps=>exact Heap.lt_size (show h.get? a=some _ from x)
  | met f y=>exact Heap.lt_size (show h.get? a=some _ from x)
  | ext φ=>obtain⟨_,⟨_,e⟩,_⟩:=x; exact Heap.lt_size e
theorem Paired.mapP{α β:Type}{F G:α->β->Prop}:∀{l₁:List α} {l₂:List β},Paired F l₁ l₂->(∀a b,F a b->G a b)->Paired G l₁ l₂
  | _,_,.nil,_=>.nil
  | _,_,.cons r t,f=>.cons (f _ _ r) (Paired.mapP t f)
theorem JQ.stay(x:JQ P w H h a o)(k:∀b u,(b=a∨H b=some (.own a))->h.get? b=some u->h'.get? b=some u)
    (ho:∀b,H b=some (.own a)->H' b=some (.own a)) (ht:∀b xs,H b=some (.tup xs)->H' b=some (.tup xs)):JQ P w H' h' a o:=by
  induction o with
  | lst xs=>obtain⟨z,its,n,r,e⟩:=x; exact⟨z,its,n,r,k _ _ (.inl rfl) e⟩
  | tup xs=>obtain⟨z,its,r,ob,e,c⟩:=x; exact⟨z,its,r,ob,k _ _ (.inl rfl) e,c⟩
  | dK kvs=>obtain⟨z,y,vs,r,ob,es,ep,e,c⟩:=x; exact⟨z,y,vs,r,ob,es,ep,k _ _ (.inl rfl) e,c⟩
  | dT kvs=>
    obtain⟨z,y,xs,r,ob,es,ep,e,c⟩:=x
    exact⟨z,y,xs,Paired.mapP r fun p q z=>⟨z.1,ht _ _ z.2.1,z.2.2⟩,ob,es,ep,k _ _ (.inl rfl) e,c⟩
  | dD kvs ep=>obtain⟨z,y,nd,xs,r,ob,es,e,c⟩:=x; exact⟨z,y,nd,xs,r,ob,es,k _ _ (.inl rfl) e,c⟩
  | set S n=>obtain⟨ob,es,ep,t,e,c⟩:=x; exact⟨ob,es,ep,t,k _ _ (.inl rfl) e,c⟩
  | ins C dx fs=>
    obtain⟨d,z,ne,e,mA,⟨od,es,ep,e2,c⟩,r⟩:=x
    exact⟨ho _ d,z,ne,k _ _ (.inl rfl) e,mA,⟨od,es,ep,k _ _ (.inr d) e2,c⟩,r⟩
  | own y=>obtain⟨ob,e⟩:=x; exact⟨ob,k _ _ (.inl rfl) e⟩
  | xd fs=>obtain⟨mA,⟨od,es,ep,e,c⟩,r⟩:=x; exact⟨mA,⟨od,es,ep,k _ _ (.inl rfl) e,c⟩,r⟩
  | rng lo hi=>obtain⟨t,u,v,e⟩:=x; exact⟨t,u,v,k _ _ (.inl rfl) e⟩
  | frz ob u ih=>obtain⟨e,q⟩:=x; exact⟨k _ _ (.inl rfl) e,ih q⟩
  | tbl ps=>
    have e:h.get? a=some { cls:=.none,data:=.fields ps }:=x
    show h'.get? a=some { cls:=.none,data:=.fields ps }
    exact k a _ (.inl rfl) e
  | met f y=>
    have e:h.get? a=some (PySem.W.methodObj (.ref f) (.ref y)):=x
    show h'.get? a=some (PySem.W.methodObj (.ref f) (.ref y))
    exact k a _ (.inl rfl) e
  | ext φ=>obtain⟨p,⟨o,e⟩,st⟩:=x; exact⟨st _ _ p fun o q=>k _ _ (.inl rfl) q,⟨o,k _ _ (.inl rfl) e⟩,st⟩
theorem JT.lt(x:JT P w H h)(e:H a=some o):a < h.objs.size:=(x a o e).lt
theorem JT.fresh(x:JT P w H h)(e:h.objs.size<=a):H a=none:=by
  cases q:H a with
  | none=>rfl
  | some u=>exact absurd (Nat.lt_of_lt_of_le (x.lt q) e) (Nat.lt_irrefl _)
theorem JT.kept(x:JT P w H h)(k:∀b u,h.get? b=some u->h'.get? b=some u):JT P w H h':=fun a o e=>
  (x a o e).stay (fun b u _ q=>k b u q) (fun _ q=>q) fun _ _ q=>q
theorem JT.laid(x:JT P w H h)(k:∀b u,h.get? b=some u->h'.get? b=some u)(hp:h.objs.size<=a)(new:JQ P w (upd H a o) h' a o):JT P w (upd H a o) h':=fun b u e=>by
  have hn:=x.fresh hp
  by_cases hb:b=a
  · subst hb; rw[J7]at e; cases e; exact new
  · rw[jm hb]at e
    exact(x b u e).stay (fun c v _ q=>k c v q) (fun c q=>by rw[jm (jx q hn)]; exact q) fun c xs q=>by rw[jm (jx q hn)]; exact q
end
noncomputable def Rd(H:Hp)(a:Addr)(u:HO):Prop:=H a=some u∨∃o,H a=some (.frz o u)
theorem Rd.ok{P:Program}{w:World}{H:Hp}{h:Heap}{a:Addr}{u:HO}(r:Rd H a u)(x:JT P w H h):JQ P w H h a u:=by
  rcases r with r | ⟨o,r⟩
  · exact x a u r
  · obtain⟨_,q⟩:=x a _ r
    exact q
noncomputable def Xl:Option HO->Prop
  | some (.lst _)=>True
  | some (.dK _)=>True
  | some (.dT _)=>True
  | some (.dD _ _)=>True
  | some (.set _ _)=>True
  | some (.ins _ _ _)=>True
  | some (.ext _)=>True
  | _=>False
section
variable {P:Program} {w:World} {H:Hp} {h h':Heap} {x e:Addr} {o':HO}
theorem JT.write(ok:JT P w H h)(mu:Xl (H x))(he:e=x∨H e=some (.own x))(k:∀b u,b≠e->h.get? b=some u->h'.get? b=some u)(heo:∃u,h'.get? e=some u)
    (new:JQ P w (upd H x o') h' x o'):JT P w (upd H x o') h':=fun b u q=>by
  have nown:∀c y,H c=some (.own y)->c≠x:=fun c y r z=>by subst z; rw[r]at mu; exact mu
  have ntup:∀c xs,H c=some (.tup xs)->c≠x:=fun c xs r z=>by subst z; rw[r]at mu; exact mu
  by_cases hb:b=x
  · subst hb; rw[J7]at q; cases q; exact new
  · rw[jm hb]at q
    by_cases hbe:b=e
    · have q':H b=some (.own x):=by
        rcases he with z | z
        · exact absurd (hbe.trans z) hb
        · rw[hbe]; exact z
      rw[q]at q'; cases q'
      obtain⟨v,hv⟩:=heo
      exact⟨v,by rw[hbe]; exact hv⟩
    · refine(ok b u q).stay (fun c v hc r=>k c v ?_ r) (fun c r=>by rw[jm (nown c b r)]; exact r) fun c xs r=>by rw[jm (ntup c xs r)]; exact r
      rcases hc with rfl | hc
      · exact hbe
      · rintro rfl
        rcases he with z | z
        · exact nown c b hc z
        · rw[hc]at z; cases z; exact hb rfl
end
structure Un (fs ex:List Addr) (H H':Hp) (h h':Heap):Prop where
  keep:∀b o,h.get? b=some o->H b=none->b∉fs->b∉ex->h'.get? b=some o
  slot:∀b o,h.get? b=some o->H b=none->b∈fs->b∉ex->∃sl,h'.get? b=some { o with slots:=sl }
  free:∀b o,h.get? b=some o->H b=none->b∉ex->H' b=none
  there:∀b o,h.get? b=some o->b∉ex->∃o',h'.get? b=some o'
  tups:∀b xs,H b=some (.tup xs)->H' b=some (.tup xs)
  frzs:∀b o u,H b=some (.frz o u)->H' b=some (.frz o u)
  tbls:∀b ps,H b=some (.tbl ps)->∃more,H' b=some (.tbl (ps ++ more))
section
variable {fs fs' ex ex':List Addr} {H H1 H2:Hp} {h h1 h2 h':Heap} {a x e:Addr} {o:HO}
theorem Un.any(u:Un fs ex H H1 h h1){b:Addr}{ob:Obj}(q:h.get? b=some ob)(n:H b=none)(hx:b∉ex):∃sl,h1.get? b=some { ob with slots:=sl }:=by
  by_cases hb:b∈fs
  · exact u.slot b ob q n hb hx
  · exact⟨ob.slots,u.keep b ob q n hb hx⟩
theorem Un.kept(k:∀b u,h.get? b=some u->h'.get? b=some u):Un fs ex H H h h':=
  ⟨fun b ob q _ _ _=>k b ob q,fun b ob q _ _ _=>⟨ob.slots,k b ob q⟩,fun _ _ _ n _=>n,fun b ob q _=>⟨ob,k b ob q⟩,fun _ _ q=>q,fun _ _ _ q=>q,fun _ ps q=>⟨#[],by rw[q]; simp⟩⟩
theorem Un.refl:Un fs ex H H h h:=Un.kept fun _ _ q=>q
theorem Un.laid(k:∀b u,h.get? b=some u->h'.get? b=some u)(hp:h.objs.size<=a)(hn:H a=none):Un fs ex H (upd H a o) h h' where
  keep:=fun b u q _ _ _=>k b u q
  slot:=fun b u q _ _ _=>⟨u.slots,k b u q⟩
  free:=fun b u q n _=>by rw[jm (Nat.ne_of_lt (Nat.lt_of_lt_of_le (Heap.lt_size q) hp))]; exact n
  there:=fun b u q _=>⟨u,k b u q⟩
  tups:=fun b xs q=>by rw[jm (jx q hn)]; exact q
  frzs:=fun b u xs q=>by rw[jm (jx q hn)]; exact q
  tbls:=fun b ps q=>⟨#[],by rw[jm (jx q hn),q]; simp⟩
theorem Un.write(mu:Xl (H x))(he:e=x∨H e=some (.own x))(k:∀b u,b≠e->h.get? b=some u->h'.get? b=some u)(heo:∃u,h'.get? e=some u):Un fs ex H (upd H x o) h h':=by
  have hx:∀b,H b=none->b≠x:=fun b n z=>by subst z; rw[n]at mu; exact mu
  have hb:∀b,H b=none->b≠e:=fun b n z=>by
    subst z
    rcases he with r | r
    · exact hx b n r
    · rw[n]at r; cases r
  have hm:∀b u,H b=some u->¬Xl (some u)->b≠x:=fun b u q nm z=>by subst z; rw[q]at mu; exact nm mu
  refine⟨fun b u q n _ _=>k b u (hb b n) q,fun b u q n _ _=>⟨u.slots,k b u (hb b n) q⟩,fun b u q n _=>by rw[jm (hx b n)]; exact n,fun b u q _=>?_,
    fun b xs q=>by rw[jm (hm b _ q fun z=>z)]; exact q,fun b u xs q=>by rw[jm (hm b _ q fun z=>z)]; exact q,fun b ps q=>⟨#[],by rw[jm (hm b _ q fun z=>z),q]; simp⟩⟩
  by_cases hbe:b=e
  · subst hbe; exact heo
  · exact⟨u,k b u hbe q⟩
end
noncomputable def Xm(h:Heap)(H:Hp):List Addr:=(List.range h.objs.size).filter fun a=>(H a).isSome
noncomputable def vR(h:Heap)(H:Hp):Heap:=PySem.W.hideAll h (Xm h H)
theorem qc(h:Heap)(H:Hp):(vR h H).objs.size=h.objs.size:=PySem.W.hideAll_size _ _
theorem QP{h:Heap}{H:Hp}{b:Addr}{o:Obj}(e:h.get? b=some o)(n:H b=none):(vR h H).get? b=some o:=
  PySem.W.hideAll_get _ e fun hm=>by
    have q:(H b).isSome=true:=(List.mem_filter.mp hm).2
    rw[n]at q; simp at q
theorem aN{h:Heap}{H:Hp}{b:Addr}{o:Obj}(e:(vR h H).get? b=some o):h.get? b=some o/\H b=none:=by
  have e':h.get? b=some o:=PySem.W.of_hideAll (Xm h H) e
  refine⟨e',?_⟩
  cases q:H b with
  | none=>rfl
  | some x=>
    have hm:b∈Xm h H:=List.mem_filter.mpr ⟨List.mem_range.mpr (Heap.lt_size e'),by simp[q]⟩
    have z:(vR h H).get? b=none:=PySem.W.hideAll_none (Xm h H) hm
    rw[z]at e; cases e
end L2
namespace L2
open PySem PySem.Spec PyProof.Rows
structure Mod (K:PySem.W.Frag) (mg:Str->Option Value) (base:Heap):Prop where
  kin:K.In base
  glob:base.Ns mainGlobals mg
  blt:∃mb,base.Ns builtinsNs mb/\∀x:Str,x≠ "__name__" ->mb x=bootBuiltins x
  nolimit:base.NoLimit
structure Cx where
  prog:Program
  w:World
  K:PySem.W.Frag
  mg:Str->Option Value
  base:Heap
  A:Around
  N:List Str
  s₀:Shared
  H₀:Hp
  env:Env
  outer:List Env
  stack:List Env
  ex:List Addr
  fn:Str->Bool
  calm:Bool
  pn:List (Addr×Obj)
  xe:Value->Shared->Prop
noncomputable def Vj(l:List Env):List Addr:=l.filterMap (·.frame)
noncomputable abbrev Cx.fs(X:Cx):List Addr:=Vj X.outer
noncomputable def wF(sc:Scope)(x:Str):Prop:=sc.names.lookup x=some .local∨sc.names.lookup x=some .cell∨sc.names.lookup x=some .free
noncomputable def uU(sc:Scope)(x:Str):Prop:=sc.names.lookup x=some .local∨sc.names.lookup x=some .cell
noncomputable def Ew(env:Env)(h:Heap)(m:Str->Option Value)(x:Str)(u:Value):Prop:=
  (env.kindOf x=some .local/\m x=some u)∨((env.kindOf x=some .cell∨env.kindOf x=some .free)/\∃c,env.cells.lookup x=some c/\h.IsCell c (some u))
structure Cx.Ok (X:Cx):Prop where
  mod:Mod X.K X.mg X.base
  kind:X.env.scope.kind=.function
  glob:X.env.globals=mainGlobals
  blt:X.env.builtins=builtinsNs
  above:X.s₀.heap.objs.size<=X.env.locals
  inj:∀x y c,X.env.cells.lookup x=some c->X.env.cells.lookup y=some c->x=y
  has:∀x,(X.env.kindOf x=some .cell∨X.env.kindOf x=some .free)->∃c,X.env.cells.lookup x=some c
  cab:∀x c,X.fn x=true->X.env.cells.lookup x=some c->X.s₀.heap.objs.size<=c
  hd:X.calm=true->X.A.handled=none
  frames:X.A.frames=some X.stack
  stk:X.stack=X.outer∨(X.stack=X.env :: X.outer/\X.env.frame=some X.env.locals)
  exf:∀b∈X.ex,b≠X.env.locals/\∀x c,X.env.cells.lookup x=some c->c≠b
  bs:∀b o,X.base.get? b=some o->X.s₀.heap.get? b=some o/\X.H₀ b=none
  bsz:X.base.objs.size<=X.s₀.heap.objs.size
  noex:∀b o,X.base.get? b=some o->b∉X.ex
  exfs:∀b∈X.ex,b∉X.fs
  funs:X.s₀.heap.FunFrames X.base X.outer
  frf:∀b∈X.fs,X.H₀ b=none
structure Inv (X:Cx) (pins:List (Addr×Obj)) (σ:List (Option V)) (H:Hp) (s:Shared):Prop where
  ok:X.Ok
  os:s.os=X.s₀.os
  bare:AllBare s.gens
  base:Un X.fs X.ex X.H₀ H X.s₀.heap s.heap
  loc:∃m,s.heap.Ns X.env.locals m/\∀(i:Nat) (x:Str) (v:V),X.N[i]?=some x->σ[i]?=some (some v)->wF X.env.scope x->∃u,jl v u/\Ew X.env s.heap m x u
  cell:∀x c,X.env.cells.lookup x=some c->∃v,s.heap.IsCell c v
  free:H X.env.locals=none
  freeC:∀x c,X.env.cells.lookup x=some c->H c=none
  pin:∀p∈X.pn ++ pins,s.heap.get? p.1=some p.2/\H p.1=none/\p.1≠X.env.locals/\p.1∉X.fs/\∀v,p.2.data≠.cell v
  hok:JT X.prog X.w H s.heap
  len:σ.length=X.N.length
section
variable {X:Cx} {pins:List (Addr×Obj)} {σ:List (Option V)} {H H':Hp} {s:Shared} {h':Heap}
theorem Cx.Ok.nofr(ok:X.Ok){b:Addr}{o:Obj}(e:X.base.get? b=some o):b∉X.fs:=fun hb=>by
  have:=(ok.funs.mem hb).1
  rw[e]at this; cases this
theorem Inv.bs(I:Inv X pins σ H s):∀b o,X.base.get? b=some o->s.heap.get? b=some o/\H b=none:=fun b o e=>
  ⟨I.base.keep b o (I.ok.bs b o e).1 (I.ok.bs b o e).2 (I.ok.nofr e) (I.ok.noex b o e),I.base.free b o (I.ok.bs b o e).1 (I.ok.bs b o e).2 (I.ok.noex b o e)⟩
theorem Inv.bk(I:Inv X pins σ H s):∀b o,X.base.get? b=some o->s.heap.get? b=some o:=fun b o e=>(I.bs b o e).1
theorem Inv.mod(I:Inv X pins σ H s):Mod X.K X.mg X.base:=I.ok.mod
theorem Inv.kIn(I:Inv X pins σ H s):X.K.In s.heap:=I.ok.mod.kin.keeps I.bk
theorem Inv.lt(I:Inv X pins σ H s):X.env.locals < s.heap.objs.size:=let ⟨_,hn,_⟩:=I.loc; hn.lt
theorem Inv.sz(I:Inv X pins σ H s):X.s₀.heap.objs.size<=s.heap.objs.size:=Nat.le_trans I.ok.above (Nat.le_of_lt I.lt)
theorem Inv.nofs(I:Inv X pins σ H s){a:Addr}(h:s.heap.objs.size<=a):a∉X.fs:=fun hb=>by
  obtain⟨_,o,ho,_⟩:=I.ok.funs.mem hb
  exact absurd (Nat.lt_of_lt_of_le (Heap.lt_size ho) (Nat.le_trans I.sz h)) (Nat.lt_irrefl _)
theorem Inv.cne(I:Inv X pins σ H s):∀x c,X.env.cells.lookup x=some c->c≠X.env.locals:=fun x c e z=>by
  obtain⟨v,o,ho,hd⟩:=I.cell x c e
  obtain⟨m,⟨o',es,ep,ho',hd',_⟩,_⟩:=I.loc
  rw[z,ho']at ho; cases ho; rw[hd']at hd; cases hd
theorem Inv.funs(I:Inv X pins σ H s):s.heap.FunFrames X.base X.outer:=by
  have all:∀(l:List Env),(∀b∈Vj l,b∈X.fs)->X.s₀.heap.FunFrames X.base l->s.heap.FunFrames X.base l:=by
    intro l
    induction l with
    | nil=>intro _ _; trivial
    | cons env r ih=>
      intro hs hl
      obtain⟨hk,⟨L,o,hf,hn,ho,hd⟩,hr⟩:=hl
      have hL:L∈X.fs:=hs L (by unfold Vj; rw[List.filterMap_cons,hf]; exact List.mem_cons_self)
      obtain⟨sl,e⟩:=I.base.slot L o ho (I.ok.frf L hL) hL fun z=>I.ok.exfs L z hL
      exact⟨hk,⟨L,_,hf,hn,e,hd⟩,ih (fun b hb=>hs b (by unfold Vj; rw[List.filterMap_cons,hf]; exact List.mem_cons_of_mem _ hb)) hr⟩
  exact all X.outer (fun _ hb=>hb) I.ok.funs
theorem Inv.stack(I:Inv X pins σ H s):s.heap.FunFrames X.base X.stack:=by
  rcases I.ok.stk with e | ⟨e,hf⟩
  · rw[e]; exact I.funs
  · rw[e]
    obtain⟨m,hn,_⟩:=I.loc
    refine .cons (by rw[I.ok.kind]; decide) hf hn ?_ I.funs
    exact Heap.get?_none_of_le (Nat.le_trans I.ok.bsz I.ok.above)
theorem Inv.stkSub(I:Inv X pins σ H s):∀b∈Vj X.stack,b∈X.env.locals :: X.fs:=fun b hb=>by
  rcases I.ok.stk with e | ⟨e,hf⟩
  · rw[e]at hb; exact List.mem_cons_of_mem _ hb
  · rw[e]at hb
    unfold Vj at hb
    rw[List.filterMap_cons,hf]at hb
    exact hb
theorem Inv.stkFree(I:Inv X pins σ H s):∀b∈Vj X.stack,H b=none:=fun b hb=>by
  rcases List.mem_cons.mp (I.stkSub b hb)with e | hb
  · rw[e]; exact I.free
  · obtain⟨_,o,ho,_⟩:=I.ok.funs.mem hb
    exact I.base.free b o ho (I.ok.frf b hb) fun z=>I.ok.exfs b z hb
theorem Inv.step{g':Array GenState}{t':Nat}{d':Drawn}{ch:List Addr}(I:Inv X pins σ H s)
    (hch:∀b∈ch,(b∈X.ex∨X.s₀.heap.objs.size<=b)/\b≠X.env.locals/\(∀x c,X.env.cells.lookup x=some c->c≠b)/\∀p∈X.pn ++ pins,p.1≠b)
    (keep:∀b o,b≠X.env.locals->b∉X.fs->b∉ch->s.heap.get? b=some o->H b=none->h'.get? b=some o)
    (slot:∀b o,b≠X.env.locals->b∈X.fs->b∉ch->s.heap.get? b=some o->H b=none->∃sl,h'.get? b=some { o with slots:=sl }) (free:∀b o,b∉ch->s.heap.get? b=some o->H b=none->H' b=none)
    (there:∀b o,b∉ch->s.heap.get? b=some o->∃o',h'.get? b=some o')
    (tups:∀b xs,H b=some (.tup xs)->H' b=some (.tup xs)) (frzs:∀b o u,H b=some (.frz o u)->H' b=some (.frz o u)) (tbls:∀b ps,H b=some (.tbl ps)->∃more,H' b=some (.tbl (ps ++ more)))
    (ns:∀m,s.heap.Ns X.env.locals m->h'.Ns X.env.locals m) (hok:JT X.prog X.w H' h') (hg:AllBare g'):
    Inv X pins σ H' { s with heap:=h',gens:=g',drawn:=d',toks:=t' }:=by
  have neL:∀b o,X.s₀.heap.get? b=some o->b≠X.env.locals:=fun b o e=>Nat.ne_of_lt (Nat.lt_of_lt_of_le (Heap.lt_size e) I.ok.above)
  have neC:∀b o,X.s₀.heap.get? b=some o->b∉X.ex->b∉ch:=fun b o e hx hb=>by
    rcases(hch b hb).1 with z | z
    · exact hx z
    · exact absurd (Nat.lt_of_lt_of_le (Heap.lt_size e) z) (Nat.lt_irrefl _)
  have cellK:∀x c,X.env.cells.lookup x=some c->∀v,s.heap.IsCell c v->h'.IsCell c v:=fun x c e v ⟨o,ho,hd⟩=>by
    have nch:c∉ch:=fun z=>(hch c z).2.2.1 x c e rfl
    by_cases hc:c∈X.fs
    · obtain⟨sl,q⟩:=slot c o (I.cne x c e) hc nch ho (I.freeC x c e)
      exact⟨_,q,hd⟩
    · exact⟨o,keep c o (I.cne x c e) hc nch ho (I.freeC x c e),hd⟩
  refine⟨I.ok,I.os,hg,⟨fun b o e n hb hx=>?_,fun b o e n hb hx=>?_,fun b o e n hx=>?_,fun b o e hx=>?_,fun b xs e=>tups b xs (I.base.tups b xs e),fun b o xs e=>frzs b o xs (I.base.frzs b o xs e),fun b ps e=>?_⟩,?_,fun x c e=>?_,?_,fun x c e=>?_,fun p hp=>?_,hok,I.len⟩
  · exact keep b o (neL b o e) hb (neC b o e hx) (I.base.keep b o e n hb hx) (I.base.free b o e n hx)
  · obtain⟨sl,e1⟩:=I.base.slot b o e n hb hx
    obtain⟨sl',e2⟩:=slot b _ (neL b o e) hb (neC b o e hx) e1 (I.base.free b o e n hx)
    exact⟨sl',e2⟩
  · obtain⟨o',e1⟩:=I.base.there b o e hx
    exact free b o' (neC b o e hx) e1 (I.base.free b o e n hx)
  · obtain⟨o',e1⟩:=I.base.there b o e hx
    exact there b o' (neC b o e hx) e1
  · obtain⟨m1,e1⟩:=I.base.tbls b ps e
    obtain⟨m2,e2⟩:=tbls b _ e1
    exact⟨m1 ++ m2,by rw[e2,Array.append_assoc]⟩
  · obtain⟨m,hn,hl⟩:=I.loc
    refine⟨m,ns m hn,fun i x v e1 e2 e3=>?_⟩
    obtain⟨u,r,l⟩:=hl i x v e1 e2 e3
    refine⟨u,r,?_⟩
    rcases l with l | ⟨k,c,e,z⟩
    · exact .inl l
    · exact .inr ⟨k,c,e,cellK x c e _ z⟩
  · obtain⟨v,z⟩:=I.cell x c e
    exact⟨v,cellK x c e v z⟩
  · obtain⟨m,⟨o,_,_,ho,_⟩,_⟩:=I.loc
    exact free _ o (fun z=>(hch _ z).2.1 rfl) ho I.free
  · obtain⟨v,o,ho,hd⟩:=I.cell x c e
    exact free c o (fun z=>(hch c z).2.2.1 x c e rfl) ho (I.freeC x c e)
  · obtain⟨e,n,ne,nf,d⟩:=I.pin p hp
    have nch:p.1∉ch:=fun z=>(hch p.1 z).2.2.2 p hp rfl
    exact⟨keep p.1 p.2 ne nf nch e n,free p.1 p.2 nch e n,ne,nf,d⟩
theorem Inv.un{t':Nat}(I:Inv X pins σ H s)(u:Un X.fs [] H H' s.heap h')(hok:JT X.prog X.w H' h'):Inv X pins σ H' { s with heap:=h',toks:=t' }:=by
  obtain⟨m,⟨o,es,ep,ho,r⟩,_⟩:=id I.loc
  obtain⟨sl,hL⟩:=u.any ho I.free (by simp)
  exact I.step (g':=s.gens) (d':=s.drawn) (ch:=[]) (fun _ z=>nomatch z) (fun b o _ hb _ e n=>u.keep b o e n hb (by simp)) (fun b o _ hb _ e n=>u.slot b o e n hb (by simp)) (fun b o _ e n=>u.free b o e n (by simp)) (fun b o _ e=>u.there b o e (by simp)) u.tups u.frzs u.tbls (fun m' hm=>by
    obtain⟨o',es',ep',ho',r'⟩:=hm
    rw[ho]at ho'; cases ho'
    exact⟨_,es',ep',hL,r'⟩) hok I.bare
theorem Inv.call{g':Array GenState}{t':Nat}{d':Drawn}{ch:List Addr}(I:Inv X pins σ H s)(u:Un (Vj X.stack) ch H H' s.heap h')(hok:JT X.prog X.w H' h')(hg:AllBare g')
    (hch:∀b∈ch,(b∈X.ex∨X.s₀.heap.objs.size<=b)/\b≠X.env.locals/\(∀x c,X.env.cells.lookup x=some c->c≠b)/\∀p∈X.pn ++ pins,p.1≠b):
    Inv X pins σ H' { s with heap:=h',gens:=g',drawn:=d',toks:=t' }:=by
  obtain⟨m,⟨o,es,ep,ho,r⟩,_⟩:=id I.loc
  obtain⟨sl,hL⟩:=u.any ho I.free fun z=>(hch _ z).2.1 rfl
  exact I.step (ch:=ch) hch (fun b o hL hb hc e n=>u.keep b o e n (fun z=>(List.mem_cons.mp (I.stkSub b z)).elim hL hb) hc) (fun b o _ _ hc e n=>u.any e n hc) (fun b o hc e n=>u.free b o e n hc) (fun b o hc e=>u.there b o e hc) u.tups u.frzs u.tbls (fun m' hm=>by
    obtain⟨o',es',ep',ho',r'⟩:=hm
    rw[ho]at ho'; cases ho'
    exact⟨_,es',ep',hL,r'⟩) hok hg
theorem Inv.turned{t':Nat}{it:Addr}(I:Inv X pins σ H s)(k:∀b o,b≠it->s.heap.get? b=some o->h'.get? b=some o)(hn:H it=none)(hL:it≠X.env.locals)
    (h1:it∈X.ex∨X.s₀.heap.objs.size<=it) (h2:∀x c,X.env.cells.lookup x=some c->c≠it) (h3:∀p∈X.pn ++ pins,p.1≠it):Inv X pins σ H { s with heap:=h',toks:=t' }:=by
  have nit:∀b u,H b=some u->b≠it:=fun b u e z=>by rw[z,hn]at e; cases e
  refine I.step (g':=s.gens) (d':=s.drawn) (ch:=[it]) (fun b hb=>?_) (fun b o _ _ hc e _=>k b o (fun z=>hc (by simp[z])) e) (fun b o _ _ hc e _=>⟨o.slots,k b o (fun z=>hc (by simp[z])) e⟩) (fun _ _ _ _ n=>n)
    (fun b o hc e=>⟨o,k b o (fun z=>hc (by simp[z])) e⟩) (fun _ _ e=>e) (fun _ _ _ e=>e) (fun b ps e=>⟨#[],by rw[e]; simp⟩) (fun m hm=>?_) (fun b u e=>?_) I.bare
  · have e:b=it:=by simpa using hb
    subst e
    exact⟨h1,hL,h2,h3⟩
  · obtain⟨o,es,ep,ho,r⟩:=hm
    exact⟨o,es,ep,k _ o (Ne.symm hL) ho,r⟩
  · refine(I.hok b u e).stay (fun c v hc q=>k c v ?_ q) (fun _ q=>q) fun _ _ q=>q
    rcases hc with z | z
    · rw[z]; exact nit b u e
    · exact nit c _ z
theorem Inv.tok(I:Inv X pins σ H s)(t:Nat):Inv X pins σ H { s with toks:=t }:=I.un (h':=s.heap) (t':=t) Un.refl I.hok
theorem Inv.kept{t':Nat}(I:Inv X pins σ H s)(k:∀b u,s.heap.get? b=some u->h'.get? b=some u):Inv X pins σ H { s with heap:=h',toks:=t' }:=I.un (Un.kept k) (I.hok.kept k)
theorem Inv.laid{a:Addr}{o:HO}{t':Nat}(I:Inv X pins σ H s)(k:∀b u,s.heap.get? b=some u->h'.get? b=some u)(hp:s.heap.objs.size<=a)(new:JQ X.prog X.w (upd H a o) h' a o):
    Inv X pins σ (upd H a o) { s with heap:=h',toks:=t' }:=I.un (Un.laid k hp (I.hok.fresh hp)) (I.hok.laid k hp new)
theorem Inv.write{x e:Addr}{o:HO}{t':Nat}(I:Inv X pins σ H s)(mu:Xl (H x))(he:e=x∨H e=some (.own x))(k:∀b u,b≠e->s.heap.get? b=some u->h'.get? b=some u)(heo:∃u,h'.get? e=some u)
    (new:JQ X.prog X.w (upd H x o) h' x o):Inv X pins σ (upd H x o) { s with heap:=h',toks:=t' }:=I.un (Un.write mu he k heo) (I.hok.write mu he k heo new)
theorem Inv.weak{σ':List (Option V)}(I:Inv X pins σ H s)(hl:σ'.length=σ.length)(w:∀(i:Nat) v,σ'[i]?=some (some v)->σ[i]?=some (some v)):Inv X pins σ' H s:=
  ⟨I.ok,I.os,I.bare,I.base,let ⟨m,hn,hl'⟩:=I.loc; ⟨m,hn,fun i x v e1 e2 e3=>hl' i x v e1 (w i v e2) e3⟩,I.cell,I.free,I.freeC,I.pin,I.hok,hl.trans I.len⟩
theorem Inv.pins_of{pins':List (Addr×Obj)}(I:Inv X pins σ H s)(h:∀p∈pins',s.heap.get? p.1=some p.2/\H p.1=none/\p.1≠X.env.locals/\p.1∉X.fs/\∀v,p.2.data≠.cell v):Inv X pins' σ H s:=
  ⟨I.ok,I.os,I.bare,I.base,I.loc,I.cell,I.free,I.freeC,fun p hp=>(List.mem_append.mp hp).elim (fun z=>I.pin p (List.mem_append_left _ z)) (h p),I.hok,I.len⟩
theorem kr{N:List Str}(hN:N.Nodup){i j:Nat}{x:Str}(a:N[i]?=some x)(b:N[j]?=some x):i=j:=by
  obtain⟨h1,e1⟩:=List.getElem?_eq_some_iff.mp a
  obtain⟨h2,e2⟩:=List.getElem?_eq_some_iff.mp b
  exact(List.getElem_inj hN).mp (e1.trans e2.symm)
theorem Gs{M:Model}{A:Around}{E:Value->Shared->Prop}{i:Nat}{x:Str}{v:V}{u:Value}{Q:Unit->Shared->Prop}(I:Inv X pins σ H s)(hN:X.N.Nodup)(hi:X.N[i]?=some x)(hx:uU X.env.scope x)(r:jl v u)
    (h:∀s',Inv X pins (σ.set i (some v)) H s'->(∃a,Heap.SameBut a s.heap s'.heap/\(a=X.env.locals∨X.env.cells.lookup x=some a))->Q () s') (hf:X.fn x=true∨X.env.scope.names.lookup x=some .local:=by first | exact .inl rfl | exact .inr rfl | assumption):wpAny M A (storeName X.env x u) Q E s:=by
  obtain⟨m,hn,hl⟩:=id I.loc
  have hcls:(X.env.scope.kind == .class || (X.env.scope.kind == .module && X.env.locals != X.env.globals))=false:=by rw[I.ok.kind]; rfl
  have hiσ:i < σ.length:=by rw[I.len]; exact(List.getElem?_eq_some_iff.mp hi).1
  have cne:=I.cne
  have tracked:∀{a:Addr} {h':Heap},(∃o,s.heap.get? a=some o/\H a=none)->Heap.SameBut a s.heap h'->JT X.prog X.w H h':=fun {a h'} ha hs b ob e=>by
    obtain⟨_,_,hfree⟩:=ha
    refine(I.hok b ob e).stay (fun c w' hc q=>(hs.2 c ?_).trans q) (fun _ q=>q) fun _ _ q=>q
    rintro rfl
    rcases hc with rfl | hc
    · rw[hfree]at e; cases e
    · rw[hfree]at hc; cases hc
  rcases hx with hk | hk
  · refine wpAny_storeName_local hk hn (fun h' hn' hs=>?_) hcls
    obtain⟨oL,_,_,hoL,_⟩:=id hn
    refine h _ ⟨I.ok,I.os,I.bare,⟨fun b o e n hb hx=>?_,fun b o e n hb hx=>?_,I.base.free,fun b o e hx=>?_,I.base.tups,I.base.frzs,I.base.tbls⟩,⟨_,hn',fun j y v' e1 e2 e3=>?_⟩,fun y c e=>?_,I.free,I.freeC,fun p hp=>?_,tracked ⟨oL,hoL,I.free⟩ hs,by simpa using I.len⟩ ⟨_,hs,.inl rfl⟩
    · exact(hs.2 b (Nat.ne_of_lt (Nat.lt_of_lt_of_le (Heap.lt_size e) I.ok.above))).trans (I.base.keep b o e n hb hx)
    · obtain⟨sl,e1⟩:=I.base.slot b o e n hb hx
      exact⟨sl,(hs.2 b (Nat.ne_of_lt (Nat.lt_of_lt_of_le (Heap.lt_size e) I.ok.above))).trans e1⟩
    · obtain⟨o',e1⟩:=I.base.there b o e hx
      exact⟨o',(hs.2 b (Nat.ne_of_lt (Nat.lt_of_lt_of_le (Heap.lt_size e) I.ok.above))).trans e1⟩
    · by_cases hj:j=i
      · subst hj
        rw[hi]at e1; cases e1
        rw[List.getElem?_set_self hiσ]at e2
        cases e2
        exact⟨u,r,.inl ⟨hk,by simp⟩⟩
      · rw[List.getElem?_set_ne (Ne.symm hj)]at e2
        obtain⟨u',r',q⟩:=hl j y v' e1 e2 e3
        refine⟨u',r',?_⟩
        rcases q with⟨k,e⟩ | ⟨k,c,e,z⟩
        · refine .inl ⟨k,?_⟩
          have:y≠x:=fun e=>hj (kr hN e1 (e▸hi))
          simp[this,e]
        · exact .inr ⟨k,c,e,z.sameBut hs (cne y c e)⟩
    · obtain⟨w',z⟩:=I.cell y c e
      exact⟨w',z.sameBut hs (cne y c e)⟩
    · obtain⟨e,n,ne,nf,d⟩:=I.pin p hp
      exact⟨(hs.2 p.1 ne).trans e,n,ne,nf,d⟩
  · have hfn:X.fn x=true:=by
      rcases hf with z | z
      · exact z
      · rw[z]at hk; cases hk
    obtain⟨c,hc⟩:=I.ok.has x (.inl hk)
    obtain⟨w',z⟩:=I.cell x c hc
    refine wpAny_storeName_cell I.ok.kind hk hc z (fun h' hc' hs=>?_)
    obtain⟨oc,hoc,hocd⟩:=id z
    refine h { s with heap:=h' } ⟨I.ok,I.os,I.bare,⟨fun b o e n hb hx=>?_,fun b o e n hb hx=>?_,I.base.free,fun b o e hx=>?_,I.base.tups,I.base.frzs,I.base.tbls⟩,⟨m,hn.sameBut hs (Ne.symm (cne x c hc)),fun j y v' e1 e2 e3=>?_⟩,fun y c' e=>?_,I.free,I.freeC,fun p hp=>?_,tracked ⟨oc,hoc,I.freeC x c hc⟩ hs,by simpa using I.len⟩ ⟨c,hs,.inr hc⟩
    · exact(hs.2 b (Nat.ne_of_lt (Nat.lt_of_lt_of_le (Heap.lt_size e) (I.ok.cab x c hfn hc)))).trans (I.base.keep b o e n hb hx)
    · obtain⟨sl,e1⟩:=I.base.slot b o e n hb hx
      exact⟨sl,(hs.2 b (Nat.ne_of_lt (Nat.lt_of_lt_of_le (Heap.lt_size e) (I.ok.cab x c hfn hc)))).trans e1⟩
    · obtain⟨o',e1⟩:=I.base.there b o e hx
      exact⟨o',(hs.2 b (Nat.ne_of_lt (Nat.lt_of_lt_of_le (Heap.lt_size e) (I.ok.cab x c hfn hc)))).trans e1⟩
    · by_cases hj:j=i
      · subst hj
        rw[hi]at e1; cases e1
        rw[List.getElem?_set_self hiσ]at e2
        cases e2
        exact⟨u,r,.inr ⟨.inl hk,c,hc,hc'⟩⟩
      · rw[List.getElem?_set_ne (Ne.symm hj)]at e2
        obtain⟨u',r',q⟩:=hl j y v' e1 e2 e3
        refine⟨u',r',?_⟩
        rcases q with q | ⟨k,c',e,z'⟩
        · exact .inl q
        · refine .inr ⟨k,c',e,z'.sameBut hs ?_⟩
          rintro rfl
          exact hj (kr hN e1 (I.ok.inj _ _ _ e hc▸hi))
    · by_cases hcc:c'=c
      · subst hcc; exact⟨_,hc'⟩
      · obtain⟨w2,z2⟩:=I.cell y c' e
        exact⟨w2,z2.sameBut hs hcc⟩
    · obtain⟨e,n,ne,nf,d⟩:=I.pin p hp
      refine⟨(hs.2 p.1 ?_).trans e,n,ne,nf,d⟩
      intro q
      rw[q,hoc]at e
      have q':oc=p.2:=Option.some.inj e
      exact d w' (by rw[<-q']; exact hocd)
theorem Uf{M:Model}{A:Around}{E:Value->Shared->Prop}{i:Nat}{x:Str}{v:V}{u:Value}{Q:Unit->Shared->Prop}(I:Inv X pins σ H s)(hN:X.N.Nodup)(hi:X.N[i]?=some x)(hx:uU X.env.scope x)(r:jl v u)
    (h:∀s',Inv X pins (σ.set i (some v)) H s'->Q () s') (hf:X.fn x=true∨X.env.scope.names.lookup x=some .local:=by first | exact .inl rfl | exact .inr rfl | assumption):wpAny M A (storeName X.env x u) Q E s:=
  Gs I hN hi hx r (fun s' I' _=>h s' I') hf
theorem Inv.call'{s':Shared}{ch:List Addr}(I:Inv X pins σ H s)(ho:s'.os=s.os)(u:Un (Vj X.stack) ch H H' s.heap s'.heap)(hok:JT X.prog X.w H' s'.heap)(hg:AllBare s'.gens)
    (hch:∀b∈ch,(b∈X.ex∨X.s₀.heap.objs.size<=b)/\b≠X.env.locals/\(∀x c,X.env.cells.lookup x=some c->c≠b)/\∀p∈X.pn ++ pins,p.1≠b):Inv X pins σ H' s':=by
  obtain⟨h',g',d',t',o'⟩:=s'
  have e:o'=s.os:=ho
  subst e
  exact I.call (g':=g') (t':=t') (d':=d') u hok hg hch
end
noncomputable abbrev XK:=Value->Option Addr->Hp->Prop
noncomputable abbrev St:=List (Option V)
noncomputable abbrev VK:=V->Hp->Prop
noncomputable abbrev TE:=St->Hp->VK->Prop
noncomputable abbrev TT:=St->Hp->(Bool->Hp->Prop)->Prop
noncomputable abbrev TA:=St->Hp->(List V->Hp->Prop)->Prop
structure Ends where
  nx:St->Hp->Prop
  rt:VK
  bk:St->Hp->Prop:=fun _ _=>False
  ct:St->Hp->Prop:=fun _ _=>False
noncomputable abbrev TS:=Ends->St->Hp->Prop
noncomputable def EP(X:Cx)(pins:List (Addr×Obj))(σ:St)(Q:VK)(u:Value)(s':Shared):Prop:=∃v H',Inv X pins σ H' s'/\jl v u/\Q v H'
noncomputable def TP(X:Cx)(pins:List (Addr×Obj))(σ:St)(Q:Bool->Hp->Prop)(b:Bool)(s':Shared):Prop:=∃H',Inv X pins σ H' s'/\Q b H'
noncomputable def AP(X:Cx)(pins:List (Addr×Obj))(σ:St)(Q:List V->Hp->Prop)(us:List Value)(s':Shared):Prop:=∃vs H',Inv X pins σ H' s'/\jd vs us/\Q vs H'
noncomputable def SP(X:Cx)(pins:List (Addr×Obj))(D:Ends)(f:Flow)(s':Shared):Prop:=
  match f with
  | .next=>∃σ' H',Inv X pins σ' H' s'/\D.nx σ' H'
  | .brk=>∃σ' H',Inv X pins σ' H' s'/\D.bk σ' H'
  | .cont=>∃σ' H',Inv X pins σ' H' s'/\D.ct σ' H'
  | .ret u=>∃v σ' H',Inv X pins σ' H' s'/\jl v u/\D.rt v H'
noncomputable def PE(X:Cx)(e:Expr)(t:TE):Prop:=
  ∀(pins:List (Addr×Obj)) (s:Shared) (σ:St) (H:Hp) (Q:VK),Inv X pins σ H s->t σ H Q->wpAny (model X.prog X.w) X.A (eval e X.env) (EP X pins σ Q) X.xe s
noncomputable def PT(X:Cx)(e:Expr)(t:TT):Prop:=
  ∀(pins:List (Addr×Obj)) (s:Shared) (σ:St) (H:Hp) (Q:Bool->Hp->Prop),Inv X pins σ H s->t σ H Q->wpAny (model X.prog X.w) X.A (isTrue e X.env (eval e X.env)) (TP X pins σ Q) X.xe s
noncomputable def PW(X:Cx)(e:Expr)(t:TT):Prop:=
  ∀(whole:Sem Value) (pins:List (Addr×Obj)) (s:Shared) (σ:St) (H:Hp) (Q:Bool->Hp->Prop),Inv X pins σ H s->t σ H Q->wpAny (model X.prog X.w) X.A (isTrue e X.env whole) (TP X pins σ Q) X.xe s
theorem PW.pt{X:Cx}{e:Expr}{t:TT}(h:PW X e t):PT X e t:=h _
noncomputable def PA(X:Cx)(es:List Expr)(t:TA):Prop:=
  ∀(pos:Pos) (pins:List (Addr×Obj)) (s:Shared) (σ:St) (H:Hp) (Q:List V->Hp->Prop),Inv X pins σ H s->t σ H Q->wpAny (model X.prog X.w) X.A (spliced (backTo pos (starEach es X.env))) (AP X pins σ Q) X.xe s
noncomputable def PS(X:Cx)(st:Stmt)(t:TS):Prop:=
  ∀(pins:List (Addr×Obj)) (s:Shared) (σ:St) (H:Hp) (D:Ends),Inv X pins σ H s->t D σ H->wpAny (model X.prog X.w) X.A (exec st X.env) (SP X pins D) X.xe s
noncomputable def Je(X:Cx)(st:List Stmt)(t:TS):Prop:=
  ∀(pins:List (Addr×Obj)) (s:Shared) (σ:St) (H:Hp) (D:Ends),Inv X pins σ H s->t D σ H->wpAny (model X.prog X.w) X.A (execs st X.env) (SP X pins D) X.xe s
theorem jp{α:Type}{t:Sem α}{Q Q':α->Shared->Prop}{M:Model}{A:Around}{E:Value->Shared->Prop}{s:Shared}(h:wpAny M A t Q E s)(hQ:∀a s,Q a s->Q' a s):wpAny M A t Q' E s:=wpAny_mono h hQ fun _ _ x=>x
end L2
namespace L2
open PySem PySem.Spec PyProof.Rows
section
variable {X:Cx}
noncomputable def Zd(i:Nat):TE:=fun σ H Q=>∃v,σ[i]?=some (some v)/\Q v H
noncomputable def tC(v:V):TE:=fun _ H Q=>Q v H
theorem bq{i:Nat}{x:Str}{pos:Pos}(hN:X.N[i]?=some x)(hv:wF X.env.scope x)(hd:(x == ("__debug__" : Str))=false:=by decide)(hcd:(x == ("__classdict__" : Str))=false:=by decide):PE X (.Name x pos) (Zd i):=by
  intro pins s σ H Q I h
  obtain⟨v,e,h⟩:=h
  obtain⟨m,hn,hl⟩:=I.loc
  obtain⟨u,r,l⟩:=hl i x v hN e hv
  have fin:EP X pins σ Q u s:=⟨v,H,I,r,h⟩
  rcases l with⟨hk,hm⟩ | ⟨hk,c,hc,hcell⟩
  · exact wpAny_Name (wpAny_loadName_local I.ok.kind hk hn hm fin) hd
  · rcases hk with hk | hk
    · exact wpAny_Name (wpAny_loadName_cell I.ok.kind hk hc hcell fin) hd
    · exact wpAny_Name (wpAny_loadName_free I.ok.kind hk hc hcell fin hcd) hd
theorem br{i j pos}:PE X (.Constant (.int i) j pos) (tC (.int i)):=fun _ _ _ H _ I h=>wpAny_Constant_int ⟨.int i,H,I.tok _,⟨_,rfl⟩,h⟩
theorem dX{b j pos}:PE X (.Constant (.bool b) j pos) (tC (.bl b)):=fun _ _ _ H _ I h=>Constant_bool ⟨.bl b,H,I,rfl,h⟩
theorem bu{j pos}:PE X (.Constant .none j pos) (tC .non):=fun _ _ _ H _ I h=>Constant_none ⟨.non,H,I,rfl,h⟩
theorem bv{x j pos}:PE X (.Constant (.str x) j pos) (tC (.str x)):=fun _ _ _ H _ I h=>Calls.Constant_str ⟨.str x,H,I.tok _,⟨_,rfl⟩,h⟩
noncomputable def Gl(X:Cx)(x:Str):Prop:=X.env.kindOf x=some .globalImplicit
theorem gG{E:Value->Shared->Prop}{pins:List (Addr×Obj)}{s:Shared}{σ:St}{H:Hp}{x:Str}{u:Value}{pos:Pos}{Q:Value->Shared->Prop}(I:Inv X pins σ H s)(hg:Gl X x)(hm:X.mg x=some u)(h:Q u s)
    (hd:(x == ("__debug__" : Str))=false:=by decide):wpAny (model X.prog X.w) X.A (eval (.Name x pos) X.env) Q E s:=
  Calls.Name_function_global I.ok.kind hg (Calls.loadGlobal_global (by rw[I.ok.glob]; exact I.mod.glob.keeps I.bk) hm h) hd
theorem Y8{E:Value->Shared->Prop}{pins:List (Addr×Obj)}{s:Shared}{σ:St}{H:Hp}{x:Str}{u:Value}{pos:Pos}{Q:Value->Shared->Prop}(I:Inv X pins σ H s)(hg:Gl X x)(hm:X.mg x=none)(hv:bootBuiltins x=some u)(h:Q u s)
    (hn:x≠ "__name__" := by decide) (hd:(x == ("__debug__" : Str))=false:=by decide):wpAny (model X.prog X.w) X.A (eval (.Name x pos) X.env) Q E s:=by
  obtain⟨mb,h1,h2⟩:=I.mod.blt
  exact Calls.Name_function_global I.ok.kind hg (Calls.loadGlobal_builtin (by rw[I.ok.glob]; exact I.mod.glob.keeps I.bk) hm (by rw[I.ok.blt]; exact h1.keeps I.bk) ((h2 x hn).trans hv) h) hd
theorem aO{x:Str}{v:V}{u:Value}{pos:Pos}(hg:Gl X x)(hm:X.mg x=some u)(r:jl v u)(hd:(x == ("__debug__" : Str))=false:=by decide):PE X (.Name x pos) (tC v):=
  fun _ _ _ H _ I h=>gG I hg hm ⟨v,H,I,r,h⟩ hd
theorem gH{x:Str}{v:V}{u:Value}{pos:Pos}(hg:Gl X x)(hm:X.mg x=none)(hv:bootBuiltins x=some u)(r:jl v u)(hn:x≠ "__name__" := by decide)(hd:(x == ("__debug__" : Str))=false:=by decide):PE X (.Name x pos) (tC v):=
  fun _ _ _ H _ I h=>Y8 I hg hm hv ⟨v,H,I,r,h⟩ hn hd
variable {a b:Expr} {ta tb:TE} {pos:Pos}
variable {tA tB':TT} {rest:List Expr}
noncomputable def Ex(t u:TT):TT:=fun σ H Q=>t σ H fun c H1=>if c=true then u σ H1 Q else Q false H1
noncomputable def FD(t u:TT):TT:=fun σ H Q=>t σ H fun c H1=>if c=true then Q true H1 else u σ H1 Q
noncomputable def Ey(t:TT):TT:=fun σ H Q=>t σ H fun c H1=>Q (!c) H1
theorem aP(ha:PT X a tA):PW X (.BoolOp .And [a] pos) tA:=by
  intro wh pins s σ H Q I h
  refine isTrue_and (jp (ha pins s σ H Q I h) fun c s1 e=>?_)
  cases c with
  | true=>exact isTrue_and_nil e
  | false=>exact e
theorem bw(ha:PT X a tA):PW X (.BoolOp .Or [a] pos) tA:=by
  intro wh pins s σ H Q I h
  refine isTrue_or (jp (ha pins s σ H Q I h) fun c s1 e=>?_)
  cases c with
  | false=>exact isTrue_or_nil e
  | true=>exact e
theorem bx(ha:PT X a tA)(hb:PW X (.BoolOp .And (b :: rest) pos) tB'):PW X (.BoolOp .And (a :: b :: rest) pos) (Ex tA tB'):=by
  intro wh pins s σ H Q I h
  refine isTrue_and (jp (ha pins s σ H _ I h) fun c s1 ⟨H1,I1,q1⟩=>?_)
  cases c with
  | true=>exact hb wh pins s1 σ H1 Q I1 q1
  | false=>exact⟨H1,I1,q1⟩
theorem dY(ha:PT X a tA)(hb:PW X (.BoolOp .Or (b :: rest) pos) tB'):PW X (.BoolOp .Or (a :: b :: rest) pos) (FD tA tB'):=by
  intro wh pins s σ H Q I h
  refine isTrue_or (jp (ha pins s σ H _ I h) fun c s1 ⟨H1,I1,q1⟩=>?_)
  cases c with
  | true=>exact⟨H1,I1,q1⟩
  | false=>exact hb wh pins s1 σ H1 Q I1 q1
theorem bA(ha:PT X a tA):PT X (.UnaryOp .Not a pos) (Ey tA):=by
  intro pins s σ H Q I h
  exact isTrue_not (ha pins s σ H (fun c H1=>Q (!c) H1) I h)
noncomputable def dZ(ta tb:TE):TE:=fun σ H Q=>ta σ H fun x H1=>∃c,x=.bl c/\if c=true then tb σ H1 Q else Q (.bl false) H1
noncomputable def Ez(ta tb:TE):TE:=fun σ H Q=>ta σ H fun x H1=>∃c,x=.bl c/\if c=true then Q (.bl true) H1 else tb σ H1 Q
noncomputable def d_(ta:TE):TE:=fun σ H Q=>ta σ H fun x H1=>∃c,x=.bl c/\Q (.bl (!c)) H1
theorem bB{op}{t:TE}(h:PE X a t):PE X (.BoolOp op [a] pos) t:=fun pins s σ H Q I hw=>BoolOp_one (h pins s σ H Q I hw)
theorem bC(ha:PE X a ta)(hb:PE X (.BoolOp .And (b :: rest) pos) tb):PE X (.BoolOp .And (a :: b :: rest) pos) (dZ ta tb):=by
  intro pins s σ H Q I h
  refine BoolOp_and (jp (ha pins s σ H _ I h) fun v s1 ⟨x,H1,I1,r1,q1⟩=>?_)
  obtain⟨c,rfl,q1⟩:=q1
  cases r1
  refine wpAny_truthy_bool ?_
  cases c with
  | true=>exact hb pins s1 σ H1 Q I1 q1
  | false=>exact⟨.bl false,H1,I1,rfl,q1⟩
theorem D0(ha:PE X a ta)(hb:PE X (.BoolOp .Or (b :: rest) pos) tb):PE X (.BoolOp .Or (a :: b :: rest) pos) (Ez ta tb):=by
  intro pins s σ H Q I h
  refine BoolOp_or (jp (ha pins s σ H _ I h) fun v s1 ⟨x,H1,I1,r1,q1⟩=>?_)
  obtain⟨c,rfl,q1⟩:=q1
  cases r1
  refine wpAny_truthy_bool ?_
  cases c with
  | false=>exact hb pins s1 σ H1 Q I1 q1
  | true=>exact⟨.bl true,H1,I1,rfl,q1⟩
theorem bD(ha:PE X a ta):PE X (.UnaryOp .Not a pos) (d_ ta):=by
  intro pins s σ H Q I h
  refine UnaryOp_ (jp (ha pins s σ H _ I h) fun v s1 ⟨x,H1,I1,r1,q1⟩=>?_)
  obtain⟨c,rfl,q1⟩:=q1
  cases r1
  exact not_of (wpAny_truthy_bool ⟨.bl (!c),H1,I1,rfl,q1⟩)
noncomputable def FE(t:TT)(ta tb:TE):TE:=fun σ H Q=>t σ H fun c H1=>if c=true then ta σ H1 Q else tb σ H1 Q
theorem QQ{c:Expr}(hc:PT X c tA)(ha:PE X a ta)(hb:PE X b tb):PE X (.IfExp c a b pos) (FE tA ta tb):=by
  intro pins s σ H Q I h
  refine wpAny_IfExp (jp (hc pins s σ H _ I h) fun d s1 ⟨H1,I1,q1⟩=>?_)
  cases d with
  | true=>exact ha pins s1 σ H1 Q I1 q1
  | false=>exact hb pins s1 σ H1 Q I1 q1
end
end L2
namespace L2
open PySem PySem.Spec PyProof.Rows
noncomputable def jy(K:PySem.W.Frag)(H:Hp)(a:Addr)(xs:List V):Prop:=
  Rd H a (.lst xs)∨
    ∃(o:Obj) (its:Array Value) (n:Nat),K.lookup a=some o/\o.cls=.type "list" /\o.dict=none/\o.data=.seq its n/\its.size<=sizeLine/\jd xs its.toList
noncomputable def Ju(K:PySem.W.Frag)(H:Hp)(a:Addr)(xs:List V):Prop:=
  Rd H a (.tup xs)∨
    ∃(o:Obj) (its:Array Value) (n:Nat),K.lookup a=some o/\o.cls=.type "tuple" /\o.data=.seq its n/\its.size<=sizeLine/\jd xs its.toList
noncomputable def EA:Value->Option V
  | .none=>some .non
  | .bool b=>some (.bl b)
  | .int i _=>some (.int i)
  | .str x _=>some (.str x)
  | .bytes b _=>some (.byt b)
  | .float b _=>some (.flt b)
  | .ref a=>some (.ref a)
  | .type n=>some (.ty n)
  | _=>none
theorem jl.abs{x:V}{u:Value}(r:jl x u):EA u=some x:=by
  cases x with
  | non=>cases r; rfl
  | bl _=>cases r; rfl
  | int _=>obtain⟨t,rfl⟩:=r; rfl
  | str _=>obtain⟨t,rfl⟩:=r; rfl
  | byt _=>obtain⟨t,rfl⟩:=r; rfl
  | flt _=>obtain⟨t,rfl⟩:=r; rfl
  | ref _=>cases r; rfl
  | ty _=>cases r; rfl
theorem jl.inj{x y:V}{u:Value}(r:jl x u)(q:jl y u):x=y:=Option.some.inj (r.abs.symm.trans q.abs)
theorem jd.inj:∀{xs ys:List V} {us:List Value},jd xs us->jd ys us->xs=ys
  | _,_,_,.nil,.nil=>rfl
  | _,_,_,.cons r t,.cons r' t'=>by rw[r.inj r',jd.inj t t']
section
variable {X:Cx} {pins:List (Addr×Obj)} {σ:St} {H:Hp} {s:Shared} {a:Addr} {xs ys:List V}
theorem jy.of{K:PySem.W.Frag}(h:H a=some (.lst xs)):jy K H a xs:=.inl (.inl h)
theorem Ju.of{K:PySem.W.Frag}(h:H a=some (.tup xs)):Ju K H a xs:=.inl (.inl h)
theorem Inv.list(I:Inv X pins σ H s)(h:jy X.K H a xs):∃its:List Value,jd xs its/\PlainL s.heap a its.toArray/\xs.length<=sizeLine:=by
  rcases h with h | ⟨o,its,n,hk,hc,hd,hs,hz,r⟩
  · obtain⟨z,its,n,r,e⟩:=h.ok I.hok
    exact⟨its,r,⟨_,n,e,rfl,rfl,rfl⟩,z⟩
  · refine⟨its.toList,r,⟨o,n,I.kIn a o hk,hc,hd,by simpa using hs⟩,?_⟩
    have e:=r.length
    simp only[Array.length_toList]at e
    omega
theorem Inv.tuple(I:Inv X pins σ H s)(h:Ju X.K H a xs):∃its:List Value,jd xs its/\IsTup s.heap a its.toArray/\xs.length<=sizeLine:=by
  rcases h with h | ⟨o,its,n,hk,hc,hs,hz,r⟩
  · obtain⟨z,its,r,p⟩:=h.ok I.hok
    exact⟨its,r,p,z⟩
  · refine⟨its.toList,r,⟨o,I.kIn a o hk,hc,n,by simpa using hs⟩,?_⟩
    have e:=r.length
    simp only[Array.length_toList]at e
    omega
theorem Inv.list_inj(I:Inv X pins σ H s)(h:jy X.K H a xs)(h':jy X.K H a ys):xs=ys:=by
  obtain⟨its,r,⟨o,n,e,_,_,d⟩,_⟩:=I.list h
  obtain⟨its',r',⟨o',n',e',_,_,d'⟩,_⟩:=I.list h'
  rw[e]at e'; cases e'
  rw[d]at d'
  injection d' with d1 _
  have:its=its':=by simpa using congrArg Array.toList d1
  subst this
  exact r.inj r'
theorem Inv.tuple_inj(I:Inv X pins σ H s)(h:Ju X.K H a xs)(h':Ju X.K H a ys):xs=ys:=by
  obtain⟨its,r,⟨o,e,_,n,d⟩,_⟩:=I.tuple h
  obtain⟨its',r',⟨o',e',_,n',d'⟩,_⟩:=I.tuple h'
  rw[e]at e'; cases e'
  rw[d]at d'
  injection d' with d1 _
  have:its=its':=by simpa using congrArg Array.toList d1
  subst this
  exact r.inj r'
end
noncomputable abbrev Cx.wish(X:Cx)(E:Value->Shared->Prop):Cx:={ X with xe:=E }
noncomputable abbrev Cx.nox(X:Cx):Cx:=X.wish fun _ _=>False
theorem Cx.Ok.wish{X:Cx}(ok:X.Ok)(E:Value->Shared->Prop):(X.wish E).Ok:=
  ⟨ok.mod,ok.kind,ok.glob,ok.blt,ok.above,ok.inj,ok.has,ok.cab,ok.hd,ok.frames,ok.stk,ok.exf,ok.bs,ok.bsz,ok.noex,ok.exfs,ok.funs,ok.frf⟩
theorem Cx.Ok.unwish{X:Cx}{E:Value->Shared->Prop}(ok:(X.wish E).Ok):X.Ok:=
  ⟨ok.mod,ok.kind,ok.glob,ok.blt,ok.above,ok.inj,ok.has,ok.cab,ok.hd,ok.frames,ok.stk,ok.exf,ok.bs,ok.bsz,ok.noex,ok.exfs,ok.funs,ok.frf⟩
section
variable {X:Cx} {pins:List (Addr×Obj)} {σ:St} {H:Hp} {s:Shared} {E:Value->Shared->Prop}
theorem Inv.wish(I:Inv X pins σ H s)(E:Value->Shared->Prop):Inv (X.wish E) pins σ H s:=⟨I.ok.wish E,I.os,I.bare,I.base,I.loc,I.cell,I.free,I.freeC,I.pin,I.hok,I.len⟩
theorem Inv.unwish(I:Inv (X.wish E) pins σ H s):Inv X pins σ H s:=⟨I.ok.unwish,I.os,I.bare,I.base,I.loc,I.cell,I.free,I.freeC,I.pin,I.hok,I.len⟩
theorem SP.unwish{D:Ends}{f:Flow}{s':Shared}(h:SP (X.wish E) pins D f s'):SP X pins D f s':=by
  cases f with
  | next=>obtain⟨σ',H',I,q⟩:=h; exact⟨σ',H',I.unwish,q⟩
  | brk=>obtain⟨σ',H',I,q⟩:=h; exact⟨σ',H',I.unwish,q⟩
  | cont=>obtain⟨σ',H',I,q⟩:=h; exact⟨σ',H',I.unwish,q⟩
  | ret u=>obtain⟨v,σ',H',I,r,q⟩:=h; exact⟨v,σ',H',I.unwish,r,q⟩
theorem Je.nox{st:List Stmt}{t:TS}(h:Je X.nox st t):Je X st t:=fun pins s σ H D I hw=>
  wpAny_mono (h pins s σ H D (I.wish _) hw) (fun _ _ q=>q.unwish) fun _ _ z=>False.elim z
end
section
variable {X:Cx} {st:Stmt} {rest:List Stmt} {t u:TS} {e:Expr} {te:TE} {pos:Pos}
noncomputable def Xn:TS:=fun D σ H=>D.nx σ H
noncomputable def EB(t u:TS):TS:=fun D σ H=>t { D with nx:=u D } σ H
theorem aQ:Je X [] Xn:=fun _ _ σ H _ I h=>wpAny_execs_nil ⟨σ,H,I,h⟩
theorem QR(h1:PS X st t)(h2:Je X rest u):Je X (st :: rest) (EB t u):=by
  intro pins s σ H D I h
  refine wpAny_execs_cons (jp (h1 pins s σ H { D with nx:=u D } I h) fun f s1 q=>?_)
  cases f with
  | next=>
    obtain⟨σ',H',I',q⟩:=q
    exact h2 pins s1 σ' H' D I' q
  | ret v=>exact q
  | brk=>exact q
  | cont=>exact q
theorem aR(h1:PS X st t):Je X [st] t:=by
  intro pins s σ H D I h
  refine wpAny_execs_cons (jp (h1 pins s σ H D I h) fun f s1 q=>?_)
  cases f with
  | next=>exact wpAny_execs_nil q
  | ret v=>exact q
  | brk=>exact q
  | cont=>exact q
noncomputable def bE:TS:=fun D σ H=>D.bk σ H
noncomputable def D4:TS:=fun D σ H=>D.ct σ H
theorem aS:PS X (.Pass pos) Xn:=fun _ _ σ H _ I h=>wpAny_Pass ⟨σ,H,I,h⟩
theorem QS:PS X (.Break pos) bE:=fun _ _ σ H _ I h=>wpAny_Break ⟨σ,H,I,h⟩
theorem wo:PS X (.Continue pos) D4:=fun _ _ σ H _ I h=>wpAny_Continue ⟨σ,H,I,h⟩
theorem Inv.quiet{pins:List (Addr×Obj)}{σ:St}{H:Hp}{s:Shared}(I:Inv X pins σ H s):interactive X.env=false:=by simp[interactive,I.ok.kind]
noncomputable def Wg(te:TE):TS:=fun D σ H=>te σ H fun _ H1=>D.nx σ H1
theorem gI(he:PE X e te)(hs:swapsWith e none pos.line X.env=pure false:=by rfl):PS X (.Expr e pos) (Wg te):=by
  intro pins s σ H D I h
  exact wpAny_Expr_any (jp (he pins s σ H _ I h) fun v s1 ⟨x,H1,I1,r1,q1⟩=>⟨σ,H1,I1,q1⟩) I.quiet hs
noncomputable def EC(te:TE):TS:=fun D σ H=>te σ H D.rt
theorem kt(he:PE X e te):PS X (.Return (some e) pos) (EC te):=by
  intro pins s σ H D I h
  exact wpAny_Return_some (jp (he pins s σ H _ I h) fun v s1 ⟨x,H1,I1,r1,q1⟩=>⟨x,σ,H1,I1,r1,q1⟩)
noncomputable def D5:TS:=fun D _ H=>D.rt .non H
theorem aU:PS X (.Return none pos) D5:=fun _ _ σ H _ I h=>wpAny_Return_none ⟨.non,σ,H,I,rfl,h⟩
noncomputable def ED(c:TT)(t u:TS):TS:=fun D σ H=>c σ H fun b H1=>if b=true then t D σ H1 else u D σ H1
theorem D6{c:Expr}{a b:List Stmt}{tc:TT}(hc:PT X c tc)(ha:Je X a t)(hb:Je X b u):PS X (.If c a b pos) (ED tc t u):=by
  intro pins s σ H D I h
  refine wpAny_If (jp (hc pins s σ H _ I h) fun d s1 ⟨H1,I1,q1⟩=>?_)
  cases d with
  | true=>exact ha pins s1 σ H1 D I1 q1
  | false=>exact hb pins s1 σ H1 D I1 q1
noncomputable def bF:TS:=fun _ _ _=>False
theorem qd{sts:List Stmt}:Je X sts bF:=fun _ _ _ _ _ _ h=>h.elim
end
noncomputable abbrev TG:=V->St->Hp->(St->Hp->Prop)->Prop
noncomputable abbrev UO:=List V->St->Hp->(St->Hp->Prop)->Prop
noncomputable def PG(X:Cx)(target:Expr)(t:TG):Prop:=
  ∀(pins:List (Addr×Obj)) (s:Shared) (σ:St) (H:Hp) (v:V) (u:Value) (Q:St->Hp->Prop),Inv X pins σ H s->jl v u->t v σ H Q->
    wpAny (model X.prog X.w) X.A (assign target X.env u) (fun _ s'=>∃σ' H',Inv X pins σ' H' s'/\Q σ' H') X.xe s
noncomputable def VE(X:Cx)(ts:List Expr)(t:UO):Prop:=
  ∀(pins:List (Addr×Obj)) (s:Shared) (σ:St) (H:Hp) (vs:List V) (us:List Value) (Q:St->Hp->Prop),Inv X pins σ H s->jd vs us->t vs σ H Q->
    wpAny (model X.prog X.w) X.A (assignInOrder ((assignEach ts X.env).map (·.2)) us) (fun _ s'=>∃σ' H',Inv X pins σ' H' s'/\Q σ' H') X.xe s
noncomputable abbrev QT:=V->V->V->Hp->(Hp->Prop)->Prop
noncomputable def QU(X:Cx)(t:QT):Prop:=
  ∀(pins:List (Addr×Obj)) (s:Shared) (σ:St) (H:Hp) (o i v:V) (ov iv u:Value) (Q:Hp->Prop),Inv X pins σ H s->jl o ov->jl i iv->jl v u->t o i v H Q->
    wpAny (model X.prog X.w) X.A (setItem ov iv u) (fun _ s'=>∃H',Inv X pins σ H' s'/\Q H') X.xe s
noncomputable abbrev Xo:=V->V->Hp->VK->Prop
noncomputable def bG(X:Cx)(op:Operator)(t:Xo):Prop:=
  ∀(pins:List (Addr×Obj)) (s:Shared) (σ:St) (H:Hp) (x y:V) (v u:Value) (Q:VK),Inv X pins σ H s->jl x v->jl y u->t x y H Q->
    wpAny (model X.prog X.w) X.A (inplaceOp op v u) (EP X pins σ Q) X.xe s
section
variable {X:Cx} {pos:Pos}
noncomputable def ZL(i:Nat):TG:=fun v σ H Q=>Q (σ.set i (some v)) H
theorem aV{i:Nat}{x:Str}(hN:X.N.Nodup)(hi:X.N[i]?=some x)(hx:uU X.env.scope x)(hf:X.fn x=true∨X.env.scope.names.lookup x=some .local:=by first | exact .inl rfl | exact .inr rfl | assumption):PG X (.Name x pos) (ZL i):=by
  intro pins s σ H v u Q I r h
  exact wpAny_assign_Name (Uf I hN hi hx r (fun s' I'=>⟨_,H,I',h⟩) hf)
noncomputable def EE:UO:=fun vs σ H Q=>vs=[]/\Q σ H
noncomputable def D7(t:TG)(u:UO):UO:=fun vs σ H Q=>∃v r,vs=v :: r/\t v σ H fun σ' H'=>u r σ' H' Q
theorem aW:VE X [] EE:=by
  intro pins s σ H vs us Q I r h
  obtain⟨e,h⟩:=h
  subst e
  cases r
  exact assignInOrder_nil ⟨σ,H,I,h⟩
theorem QV{e:Expr}{es:List Expr}{t:TG}{u:UO}(h1:PG X e t)(h2:VE X es u)
    (hs:(assignEach (e :: es) X.env).map (·.2)=assign e X.env :: (assignEach es X.env).map (·.2):=by rfl):VE X (e :: es) (D7 t u):=by
  intro pins s σ H vs us Q I r h
  obtain⟨v,vr,e1,h⟩:=h
  subst e1
  cases r with
  | cons r rr=>
    rw[hs]
    refine assignInOrder_cons (jp (h1 pins s σ H _ _ _ I r h) fun _ s1 ⟨σ1,H1,I1,q1⟩=>?_)
    exact h2 pins s1 σ1 H1 _ _ Q I1 rr q1
noncomputable def EF(K:PySem.W.Frag)(n:Nat)(t:UO):TG:=fun v σ H Q=>∃a xs,v=.ref a/\Ju K H a xs/\xs.length=n/\t xs σ H Q
theorem bH{es:List Expr}{k:Nat}{t:UO}{n:Nat}(hc:X.calm=true)(h:VE X es t)
    (hn:(assignEach es X.env).length=n:=by rfl) (hst:(assignEach es X.env).findIdx? (·.1)=none:=by rfl):PG X (.Tuple es k pos) (EF X.K n t):=by
  intro pins s σ H v u Q I r hw
  obtain⟨a,xs,e1,hq,hl,hw⟩:=hw
  subst e1
  cases r
  obtain⟨its,rv,ht,hz⟩:=I.tuple hq
  refine assign_Tuple_tuple (I.ok.hd hc) ht (by simp[hn,<-hl,rv.length]) hst fun h' hx=>?_
  have I1:Inv X pins σ H { s with heap:=h' }:=I.kept (t':=s.toks) fun b o e=>hx b o (Nat.ne_of_lt (Heap.lt_size e)) e
  exact h pins _ σ H xs _ Q I1 (by simpa using rv) hw
noncomputable def QW(to ti:TE)(t:QT):TG:=fun v σ H Q=>to σ H fun o H1=>ti σ H1 fun i H2=>t o i v H2 fun H3=>Q σ H3
theorem qe{o i:Expr}{to ti:TE}{t:QT}(ho:PE X o to)(hi:PE X i ti)(hs:QU X t)
    (ha:∀v,assign (.Subscript o i pos) X.env v=(do
      let ov<-holding [v] (eval o X.env)
      let iv<-holding [v,ov] (eval i X.env)
      standAt pos
      holding [v,ov,iv] (setItem ov iv v)
      release [v,ov,iv] []):=by intro _; rfl):PG X (.Subscript o i pos) (QW to ti t):=by
  intro pins s σ H v u Q I r h
  rw[ha]
  refine wpAny_bind (wpAny_holding (jp (ho pins s σ H _ I h) fun ov s1 ⟨x,H1,I1,r1,q1⟩=>?_))
  refine wpAny_bind (wpAny_holding (jp (hi pins s1 σ H1 _ I1 q1) fun iv s2 ⟨y,H2,I2,r2,q2⟩=>?_))
  refine wpAny_bind (wpAny_standAt (wpAny_bind (wpAny_holding (jp (hs pins s2 σ H2 x y v ov iv u _ I2 r1 r2 r q2) fun _ s3 ⟨H3,I3,q3⟩=>?_))))
  exact wpAny_release ⟨σ,H3,I3,q3⟩
noncomputable def zA(te:TE)(g:TG):TS:=fun D σ H=>te σ H fun x H1=>g x σ H1 D.nx
theorem ku{tg e:Expr}{te:TE}{g:TG}(he:PE X e te)(hg:PG X tg g)(hs:swapsWithSole [tg] e pos.line X.env=pure false:=by rfl)(hw:swappedStores [tg] e X.env=pure none:=by rfl)
    (h1:(assignEach [tg] X.env).map (·.2)=[assign tg X.env]:=by rfl):PS X (.Assign [tg] e pos) (zA te g):=by
  intro pins s σ H D I h
  refine wpAny_Assign_stores (jp (he pins s σ H _ I h) fun v s1 ⟨x,H1,I1,r1,q1⟩=>?_) hs hw
  rw[h1]
  exact jp (hg pins s1 σ H1 x v _ I1 r1 q1) fun _ s2 q=>q
theorem qf{i:Nat}{x:Str}{e:Expr}{te:TE}{pos':Pos}(hN:X.N.Nodup)(hi:X.N[i]?=some x)(hx:uU X.env.scope x)(he:PE X e te)(hs:swapsWith e (some (.Name x pos')) pos.line X.env=pure false:=by rfl)(hf:X.fn x=true∨X.env.scope.names.lookup x=some .local:=by first | exact .inl rfl | exact .inr rfl | assumption):
    PS X (.Assign [.Name x pos'] e pos) (zA te (ZL i)):=by
  intro pins s σ H D I h
  refine wpAny_Assign_Name (jp (he pins s σ H _ I h) fun v s1 ⟨y,H1,I1,r1,q1⟩=>?_) hs
  exact Uf I1 hN hi hx r1 (fun s2 I2=>⟨_,H1,I2,q1⟩) hf
noncomputable def bI(i:Nat)(te:TE)(ti:Xo):TS:=fun D σ H=>∃x,σ[i]?=some (some x)/\te σ H fun y H1=>ti x y H1 fun z H2=>D.nx (σ.set i (some z)) H2
theorem qg{i:Nat}{x:Str}{e:Expr}{te:TE}{op:Operator}{ti:Xo}{pos':Pos}(hN:X.N.Nodup)(hi:X.N[i]?=some x)(hx:uU X.env.scope x)(he:PE X e te)(ho:bG X op ti)(hf:X.fn x=true∨X.env.scope.names.lookup x=some .local:=by first | exact .inl rfl | exact .inr rfl | assumption):
    PS X (.AugAssign (.Name x pos') op e pos) (bI i te ti):=by
  intro pins s σ H D I h
  obtain⟨v,e1,h⟩:=h
  obtain⟨m,hn,hl⟩:=I.loc
  have vis:wF X.env.scope x:=by rcases hx with k | k; exact .inl k; exact .inr (.inl k)
  obtain⟨u,r,l⟩:=hl i x v hi e1 vis
  refine wpAny_AugAssign_Name ?_
  have go:wpAny (model X.prog X.w) X.A (eval e X.env) (fun w s₂=>wpAny (model X.prog X.w) X.A (inplaceOp op u w) (fun r s₃=>wpAny (model X.prog X.w) X.A (storeName X.env x r) (fun _=>SP X pins D .next) X.xe s₃) X.xe s₂) X.xe s:=by
    refine jp (he pins s σ H _ I h) fun w s1 ⟨y,H1,I1,r1,q1⟩=>?_
    refine jp (ho pins s1 σ H1 v y u w _ I1 r r1 q1) fun z s2 ⟨zv,H2,I2,r2,q2⟩=>?_
    exact Uf I2 hN hi hx r2 (fun s3 I3=>⟨_,H2,I3,q2⟩) hf
  rcases l with⟨hk,hm⟩ | ⟨hk,c,hc,hcell⟩
  · exact wpAny_loadName_local I.ok.kind hk hn hm go
  · rcases hk with hk | hk
    · exact wpAny_loadName_cell I.ok.kind hk hc hcell go
    · rcases hx with k | k
      · have:X.env.scope.names.lookup x=some .free:=hk
        rw[k]at this; cases this
      · have:X.env.scope.names.lookup x=some .free:=hk
        rw[k]at this; cases this
noncomputable def bJ(f:Int->Int->Int):Xo:=fun x y H Q=>∃i j,x=.int i/\y=.int j/\Q (.int (f i j)) H
theorem bK:bG X .Add (bJ fun i j=>i + j):=by
  intro pins s σ H x y v u Q I r1 r2 h
  obtain⟨i,j,e1,e2,q⟩:=h
  subst e1; subst e2
  obtain⟨t,rfl⟩:=r1
  obtain⟨t',rfl⟩:=r2
  exact iadd_int ⟨.int _,H,I.tok _,⟨_,rfl⟩,q⟩
theorem bL:bG X .Sub (bJ fun i j=>i - j):=by
  intro pins s σ H x y v u Q I r1 r2 h
  obtain⟨i,j,e1,e2,q⟩:=h
  subst e1; subst e2
  obtain⟨t,rfl⟩:=r1
  obtain⟨t',rfl⟩:=r2
  exact isub_int ⟨.int _,H,I.tok _,⟨_,rfl⟩,q⟩
end
section
variable {X:Cx} {pos:Pos}
noncomputable def bM(c:TT)(tb:TS):TS:=fun D σ H=>∃W:Nat->St->Hp->Prop,(∃m,W m σ H)/\∀m σ H,W m σ H->
  c σ H fun b H1=>if b=true then∃N:St->Hp->Prop,(∀σ' H',N σ' H'->∃m',m' < m/\W m' σ' H')/\tb { D with nx:=N,ct:=N,bk:=D.nx } σ H1 else D.nx σ H1
theorem QX{c:Expr}{body:List Stmt}{tc:TT}{tb:TS}(hp:PassesOwn (model X.prog X.w) X.A X.env X.xe)(hc:PT X c tc)(hb:Je X body tb):PS X (.While c body [] pos) (bM tc tb):=by
  intro pins s σ H D I h
  obtain⟨W,⟨m0,w0⟩,turn⟩:=h
  refine wpAny_While (codeAny_whileLoop (fun n s'=>∃σ' H',Inv X pins σ' H' s'/\W n σ' H') ?_ m0 ⟨σ,H,I,w0⟩)
  rintro n s1 ⟨σ1,H1,I1,w1⟩
  refine wpAny_passesOwn hp (jp (hc pins s1 σ1 H1 _ I1 (turn n σ1 H1 w1)) fun b s2 ⟨H2,I2,q2⟩=>?_)
  cases b with
  | true=>
    obtain⟨N,hN,q2⟩:=q2
    rw[if_pos rfl]
    refine wpAny_passesOwn hp (jp (hb pins s2 σ1 H2 _ I2 q2) fun f s3 q3=>?_)
    cases f with
    | next=>
      obtain⟨σ3,H3,I3,n3⟩:=q3
      obtain⟨m',hm,w3⟩:=hN σ3 H3 n3
      exact⟨m',hm,σ3,H3,I3,w3⟩
    | cont=>
      obtain⟨σ3,H3,I3,n3⟩:=q3
      obtain⟨m',hm,w3⟩:=hN σ3 H3 n3
      exact⟨m',hm,σ3,H3,I3,w3⟩
    | brk=>exact q3
    | ret v=>exact q3
  | false=>
    rw[if_neg Bool.false_ne_true]
    exact wpAny_execs_nil ⟨σ1,H2,I2,q2⟩
end
structure It where
  go:Nat->Hp->Prop
  yld:Nat->Hp->V->Hp->Prop
  stop:Nat->Hp->Prop
noncomputable def Jm(X:Cx)(pins:List (Addr×Obj))(H:Hp)(b:Addr):Prop:=
  H b=none/\b≠X.env.locals/\b∉X.fs/\(b∈X.ex∨X.s₀.heap.objs.size<=b)/\(∀x c,X.env.cells.lookup x=some c->c≠b)/\∀p∈X.pn ++ pins,p.1≠b
theorem Inv.fpOk{X:Cx}{pins:List (Addr×Obj)}{σ:St}{H H':Hp}{s:Shared}{b:Addr}(I:Inv X pins σ H s)(hb:s.heap.objs.size<=b)(hn:H' b=none):Jm X pins H' b:=by
  refine⟨hn,Nat.ne_of_gt (Nat.lt_of_lt_of_le I.lt hb),I.nofs hb,.inr (Nat.le_trans I.sz hb),fun x c e z=>?_,fun p hp z=>?_⟩
  · obtain⟨v,q⟩:=I.cell x c e
    exact absurd (Nat.lt_of_lt_of_le q.lt (by rw[z]; exact hb)) (Nat.lt_irrefl _)
  · exact absurd (Nat.lt_of_lt_of_le (Heap.lt_size (I.pin p hp).1) (by rw[z]; exact hb)) (Nat.lt_irrefl _)
structure Turn (P:Program) (w:World) (K:PySem.W.Frag) (tg:Expr) (J:It) (fp:List Addr) (it:Addr) (tn:Nat->Heap->Prop):Prop where
  mem:it∈fp
  obj:∀i h,tn i h->∀b∈fp,∃o,h.get? b=some o/\∀v,o.data≠.cell v
  keep:∀i h h',tn i h->(∀b∈fp,∀o,h.get? b=some o->h'.get? b=some o)->tn i h'
  item:∀(X:Cx),X.prog=P->X.w=w->X.K=K->X.calm=true->∀(i:Nat) (pins:List (Addr×Obj)) (s:Shared) (σ:St) (H:Hp) (E:Value->Shared->Prop),Inv X pins σ H s->(∀b∈fp,Jm X pins H b)->tn i s.heap->J.go i H->
    wpAny (model P w) X.A (pyNext (.ref it)) (fun r s1=>∃u,r=some u/\
      wpAny (model P w) X.A (letOwnedTupleGo tg (.ref it) u) (fun _ s2=>∃x H',Inv X pins σ H' s2/\jl x u/\J.yld i H x H'/\tn (i + 1) s2.heap/\∀b∈fp,H' b=none) E s1) E s
  done:∀(X:Cx),X.prog=P->X.w=w->X.K=K->X.calm=true->∀(i:Nat) (pins:List (Addr×Obj)) (s:Shared) (σ:St) (H:Hp) (E:Value->Shared->Prop),Inv X pins σ H s->(∀b∈fp,Jm X pins H b)->tn i s.heap->J.stop i H->
    wpAny (model P w) X.A (pyNext (.ref it)) (fun r s1=>r=none/\Inv X pins σ H s1) E s
  self:∀(A:Around) (i:Nat) (s:Shared) (Q:Value->Shared->Prop) (E:Value->Shared->Prop),tn i s.heap->Q (.ref it) s->wpAny (model P w) A (pyIter (.ref it)) Q E s
noncomputable abbrev TI:=St->Hp->(It->Hp->Prop)->Prop
noncomputable def E6(X:Cx)(pins:List (Addr×Obj))(σ:St)(tg:Expr)(R:It->Hp->Prop)(itv:Value)(s2:Shared):Prop:=
  ∃(it:Addr) (fp:List Addr) (tn:Nat->Heap->Prop) (J:It) (H':Hp),itv=.ref it/\Inv X pins σ H' s2/\Turn X.prog X.w X.K tg J fp it tn/\tn 0 s2.heap/\(∀b∈fp,Jm X pins H' b)/\R J H'
noncomputable def PI(X:Cx)(tg iter:Expr)(wi:TI):Prop:=
  ∀(pins:List (Addr×Obj)) (s:Shared) (σ:St) (H:Hp) (R:It->Hp->Prop),Inv X pins σ H s->wi σ H R->
    wpAny (model X.prog X.w) X.A (eval iter X.env) (fun v s1=>wpAny (model X.prog X.w) X.A (pyIter v) (E6 X pins σ tg R) X.xe s1) X.xe s
theorem uz{M:Model}{A:Around}{E:Value->Shared->Prop}{s:Shared}{tg:Expr}{it:Addr}{u:Value}{o:Obj}{n:String}{vs:Array Value}{Q:Unit->Shared->Prop}(ho:s.heap.get? it=some o)(hc:o.cls=.type n)(hd:o.data=.fields vs)
    (hn:["enumerate", "zip", "dict_itemiterator", "dict_reverseitemiterator", "odict_iterator", "itertools.zip_longest", "itertools.pairwise"].contains n=false) (hQ:Q () s):wpAny M A (letOwnedTupleGo tg (.ref it) u) Q E s:=by
  unfold letOwnedTupleGo
  cases tg <;> first
    | exact wpAny_pure hQ
    | (cases u <;> first
        | exact wpAny_pure hQ
        | (refine wpAny_bind (wpAny_load ho ?_)
           rw[hc,hd]
           show wpAny M A (if (["enumerate", "zip", "dict_itemiterator", "dict_reverseitemiterator", "odict_iterator", "itertools.zip_longest", "itertools.pairwise"].contains n && vs[0]? == some (rawInt _))=true then _ else _) Q E s
           rw[if_neg (by intro h; rw[hn,Bool.false_and]at h; cases h)]
           exact wpAny_pure hQ))
noncomputable def bN(K:PySem.W.Frag)(a:Addr):It:=
  ⟨fun i H=>∃xs x,jy K H a xs/\xs[i]?=some x,fun i H x H'=>H'=H/\∀xs,jy K H a xs->xs[i]?=some x,fun i H=>∃xs,jy K H a xs/\xs.length<=i⟩
noncomputable def bO(K:PySem.W.Frag)(a:Addr):It:=
  ⟨fun i H=>∃xs x,Ju K H a xs/\xs[i]?=some x,fun i H x H'=>H'=H/\∀xs,Ju K H a xs->xs[i]?=some x,fun i H=>∃xs,Ju K H a xs/\xs.length<=i⟩
noncomputable def qh(lo:Int)(n:Nat):It:=⟨fun i _=>i < n,fun i H x H'=>H'=H/\x=.int (lo + i),fun i _=>n<=i⟩
theorem qi{P:Program}{w:World}{K:PySem.W.Frag}{tg:Expr}(a it:Addr):Turn P w K tg (bN K a) [it] it (fun i h=>h.IsListIter it a i) where
  mem:=by simp
  obj:=fun i h st b hb=>by
    have e:b=it:=by simpa using hb
    subst e
    obtain⟨o,e,c,d⟩:=st
    exact⟨o,e,fun v z=>by rw[d]at z; cases z⟩
  keep:=fun i h h' st k=>st.at fun o e=>k it (by simp) o e
  item:=by
    intro X hP hw hK hc i pins s σ H E I hf st hg
    subst hP hw hK
    obtain⟨xs,x,hq,hx⟩:=hg
    obtain⟨its,rv,p,hz⟩:=I.list hq
    obtain⟨u,hu,ru⟩:=rv.get hx
    obtain⟨f0,f1,f2,f3,f4,f5⟩:=hf it (by simp)
    refine wpAny_pyNext_list_item st p.isList (x:=u) (by simpa using hu) fun h' st' sb=>?_
    have I1:Inv X pins σ H { s with heap:=h' }:=I.turned (t':=s.toks) (fun b o hb e=>(sb.2 b hb).trans e) f0 f1 f3 f4 f5
    obtain⟨o,e,c,d⟩:=id st'
    exact⟨u,rfl,uz (s:={ s with heap:=h' }) e c d (by decide) ⟨x,H,I1,ru,⟨rfl,fun ys hy=>by rw[I.list_inj hy hq]; exact hx⟩,st',fun b hb=>(hf b hb).1⟩⟩
  done:=by
    intro X hP hw hK hc i pins s σ H E I hf st hg
    subst hP hw hK
    obtain⟨xs,hq,hx⟩:=hg
    obtain⟨its,rv,p,hz⟩:=I.list hq
    obtain⟨f0,f1,f2,f3,f4,f5⟩:=hf it (by simp)
    have hl:=rv.length
    exact wpAny_pyNext_list_end (I.ok.hd hc) st p.isList (by simp; omega) fun h' eb=>⟨rfl,I.turned (t':=s.toks) (fun b o hb e=>eb b o hb e) f0 f1 f3 f4 f5⟩
  self:=fun _ _ _ _ _ st h=>wpAny_pyIter_listiter st h
theorem Wh{P:Program}{w:World}{K:PySem.W.Frag}{tg:Expr}(a it:Addr):Turn P w K tg (bO K a) [it] it (fun i h=>h.IsTupleIter it a i) where
  mem:=by simp
  obj:=fun i h st b hb=>by
    have e:b=it:=by simpa using hb
    subst e
    obtain⟨o,e,c,d⟩:=st
    exact⟨o,e,fun v z=>by rw[d]at z; cases z⟩
  keep:=fun i h h' st k=>st.at fun o e=>k it (by simp) o e
  item:=by
    intro X hP hw hK hc i pins s σ H E I hf st hg
    subst hP hw hK
    obtain⟨xs,x,hq,hx⟩:=hg
    obtain⟨its,rv,p,hz⟩:=I.tuple hq
    obtain⟨u,hu,ru⟩:=rv.get hx
    obtain⟨f0,f1,f2,f3,f4,f5⟩:=hf it (by simp)
    refine wpAny_pyNext_tuple_item st (show s.heap.IsTuple a its.toArray from p) (x:=u) (by simpa using hu) fun h' st' sb=>?_
    have I1:Inv X pins σ H { s with heap:=h' }:=I.turned (t':=s.toks) (fun b o hb e=>(sb.2 b hb).trans e) f0 f1 f3 f4 f5
    obtain⟨o,e,c,d⟩:=id st'
    exact⟨u,rfl,uz (s:={ s with heap:=h' }) e c d (by decide) ⟨x,H,I1,ru,⟨rfl,fun ys hy=>by rw[I.tuple_inj hy hq]; exact hx⟩,st',fun b hb=>(hf b hb).1⟩⟩
  done:=by
    intro X hP hw hK hc i pins s σ H E I hf st hg
    subst hP hw hK
    obtain⟨xs,hq,hx⟩:=hg
    obtain⟨its,rv,p,hz⟩:=I.tuple hq
    obtain⟨f0,f1,f2,f3,f4,f5⟩:=hf it (by simp)
    have hl:=rv.length
    exact wpAny_pyNext_tuple_end (I.ok.hd hc) st (show s.heap.IsTuple a its.toArray from p) (by simp; omega) fun h' eb=>⟨rfl,I.turned (t':=s.toks) (fun b o hb e=>eb b o hb e) f0 f1 f3 f4 f5⟩
  self:=fun _ _ _ _ _ st h=>wpAny_pyIter_tupleiter st h
theorem Wi{P:Program}{w:World}{K:PySem.W.Frag}{tg:Expr}(it:Addr)(lo:Int)(n:Nat):Turn P w K tg (qh lo n) [it] it (fun i h=>IsRangeIter h it (lo + (i:Nat) * 1) ((n:Int) - (i:Nat)) 1) where
  mem:=by simp
  obj:=fun i h st b hb=>by
    have e:b=it:=by simpa using hb
    subst e
    exact⟨_,st,fun v z=>by
      have z':Data.fields _=Data.cell v:=z
      cases z'⟩
  keep:=fun i h h' st k=>k it (by simp) _ st
  item:=by
    intro X hP hw hK hc i pins s σ H E I hf st hg
    subst hP hw hK
    obtain⟨f0,f1,f2,f3,f4,f5⟩:=hf it (by simp)
    have W:=Walks.range (prog:=X.prog) (w:=X.w) (I.ok.hd hc) it lo 1 n
    refine W.item i s _ _ hg st fun v h' tk hv st' kk=>?_
    obtain⟨t,rfl⟩:=hv
    have I1:Inv X pins σ H { s with heap:=h',toks:=tk }:=I.turned (fun b o hb e=>kk b o (by simpa using hb) e) f0 f1 f3 f4 f5
    refine⟨_,rfl,uz (s:={ s with heap:=h',toks:=tk }) (n := "range_iterator") st' rfl rfl (by decide) ⟨.int (lo + i),H,I1,⟨t,?_⟩,⟨rfl,rfl⟩,st',fun b hb=>(hf b hb).1⟩⟩
    rw[Int.mul_one]
  done:=by
    intro X hP hw hK hc i pins s σ H E I hf st hg
    subst hP hw hK
    obtain⟨f0,f1,f2,f3,f4,f5⟩:=hf it (by simp)
    exact wpAny_pyNext_range_end (I.ok.hd hc) st (by have:n<=i:=hg; omega) fun h' eb=>⟨rfl,I.turned (t':=s.toks) (fun b o hb e=>eb b o hb e) f0 f1 f3 f4 f5⟩
  self:=fun _ _ _ _ _ st h=>wpAny_pyIter_rangeiter st h
end L2
namespace L2
open PySem PySem.Spec PyProof.Rows
section
variable {X:Cx} {tg:Expr}
theorem kv{pins:List (Addr×Obj)}{σ:St}{H:Hp}{s:Shared}{R:It->Hp->Prop}{E:Value->Shared->Prop}{lo hi:Int}{t u v:Tok}{tk:Nat}(I:Inv X pins σ H s)(h1:-(2 ^ 62)<=lo)(h2:lo < 2 ^ 62)(h3:-(2 ^ 62)<=hi)(h4:hi < 2 ^ 62)
    (q:R (qh lo (hi - lo).toNat) H):wpAny (model X.prog X.w) X.A (pyIter (.ref s.heap.objs.size)) (E6 X pins σ tg R) E { s with heap:=s.heap.push { cls:=.type "range",data:=.fields #[.int lo t,.int hi u,.int 1 v] },toks:=tk }:=by
  refine wpAny_pyIter_range (IsRange.new ..) (small_one h1 h2 h3 h4) ?_
  have I1:Inv X pins σ H { s with heap:=s.heap.push { cls:=.type "range",data:=.fields #[.int lo t,.int hi u,.int 1 v] },toks:=tk }:=I.kept fun b o e=>Heap.get?_push_of_some _ e
  refine⟨(s.heap.push { cls:=.type "range",data:=.fields #[.int lo t,.int hi u,.int 1 v] }).objs.size,[(s.heap.push { cls:=.type "range",data:=.fields #[.int lo t,.int hi u,.int 1 v] }).objs.size],_,_,H,rfl,
    I1.kept (t':=tk) fun b o e=>Heap.get?_push_of_some _ e,Wi _ lo (hi - lo).toNat,?_,fun b hb=>?_,q⟩
  · have e1:lo + ((0:Nat):Int) * 1=lo:=by simp
    have e2:(((hi - lo).toNat:Nat):Int) - ((0:Nat):Int)=Builtin.Range.rangeSize lo hi 1:=by rw[rangeSize_one]; split <;> omega
    show IsRangeIter _ _ (lo + ((0:Nat):Int) * 1) ((((hi - lo).toNat:Nat):Int) - ((0:Nat):Int)) 1
    rw[e1,e2]
    exact Heap.get?_push_size _ rfl
  · have e:b=(s.heap.push { cls:=.type "range",data:=.fields #[.int lo t,.int hi u,.int 1 v] }).objs.size:=by simpa using hb
    subst e
    exact I1.fpOk (Nat.le_refl _) (I1.hok.fresh (Nat.le_refl _))
noncomputable def D8(ta:TA):TI:=fun σ H R=>ta σ H fun vs H1=>∃j:Int,vs=[.int j]/\-(2 ^ 62)<=j/\j < 2 ^ 62/\R (qh 0 j.toNat) H1
noncomputable def D9(ta:TA):TI:=fun σ H R=>ta σ H fun vs H1=>∃i j:Int,vs=[.int i,.int j]/\(-(2 ^ 62)<=i/\i < 2 ^ 62/\-(2 ^ 62)<=j/\j < 2 ^ 62)/\R (qh i (j - i).toNat) H1
theorem qj{a:Expr}{ta:TA}{p pos:Pos}(hg:Gl X "range")(hm:X.mg "range" = none)(ha:PA X [a] ta)(hs:starEach [a] X.env=[(false,eval a X.env)]:=by rfl):PI X tg (.Call (.Name "range" p) [a] [] pos) (D8 ta):=by
  intro pins s σ H R I h
  refine Call_ (Y8 I hg hm boot_range (PyProof.Rows.callWith_type1 (jp (ha pos pins s σ H _ I h) fun us s1 ⟨vs,H1,I1,r1,q1⟩=>?_) hs rfl))
  obtain⟨j,e,q1,q2,q⟩:=q1
  subst e
  cases r1 with
  | cons r rr=>
    cases rr
    obtain⟨t,rfl⟩:=r
    exact call_range_1 (kv I1 (by omega) (by omega) q1 q2 (by simpa using q))
theorem qk{a b:Expr}{ta:TA}{p pos:Pos}(hg:Gl X "range")(hm:X.mg "range" = none)(ha:PA X [a,b] ta)(hs:starEach [a,b] X.env=[(false,eval a X.env),(false,eval b X.env)]:=by rfl)(hs2:starEach [b] X.env=[(false,eval b X.env)]:=by rfl):
    PI X tg (.Call (.Name "range" p) [a,b] [] pos) (D9 ta):=by
  intro pins s σ H R I h
  refine Call_ (Y8 I hg hm boot_range (PyProof.Rows.callWith_type1 (jp (ha pos pins s σ H _ I h) fun us s1 ⟨vs,H1,I1,r1,q1⟩=>?_) (by rw[hs,hs2]) (by rw[hs2]; rfl)))
  obtain⟨i,j,e,⟨q1,q2,q3,q4⟩,q⟩:=q1
  subst e
  cases r1 with
  | cons r rr=>
    cases rr with
    | cons r' rr=>
      cases rr
      obtain⟨t,rfl⟩:=r
      obtain⟨t',rfl⟩:=r'
      exact call_range_2 (kv I1 q1 q2 q3 q4 q)
noncomputable def EG(wi:TI)(g:TG)(tb:TS):TS:=fun D σ H=>wi σ H fun J H1=>∃W:Nat->Nat->St->Hp->Prop,(∃m,W 0 m σ H1)/\∀i m σ H,W i m σ H->
  (J.stop i H/\D.nx σ H)∨(J.go i H/\∃N:St->Hp->Prop,(∀σ' H',N σ' H'->∃m',m' < m/\W (i + 1) m' σ' H')/\∀x H',J.yld i H x H'->g x σ H' fun σ2 H2=>tb { D with nx:=N,ct:=N,bk:=D.nx } σ2 H2)
noncomputable def VF(fp:List Addr)(h:Heap):List (Addr×Obj):=fp.filterMap fun b=>(h.get? b).map fun o=>(b,o)
theorem z_{fp:List Addr}{h:Heap}{b:Addr}{o:Obj}(hb:b∈fp)(e:h.get? b=some o):(b,o)∈VF fp h:=List.mem_filterMap.mpr ⟨b,hb,by rw[e]; rfl⟩
theorem qo{fp:List Addr}{h:Heap}{p:Addr×Obj}(hp:p∈VF fp h):p.1∈fp/\h.get? p.1=some p.2:=by
  obtain⟨b,hb,e⟩:=List.mem_filterMap.mp hp
  cases q:h.get? b with
  | none=>rw[q]at e; cases e
  | some o=>
    rw[q]at e
    have e':(b,o)=p:=Option.some.inj e
    subst e'
    exact⟨hb,q⟩
theorem Inv.pinned{pins:List (Addr×Obj)}{σ:St}{H:Hp}{s:Shared}{fp:List Addr}(I:Inv X pins σ H s)(hf:∀b∈fp,Jm X pins H b)(ho:∀b∈fp,∃o,s.heap.get? b=some o/\∀v,o.data≠.cell v):Inv X (pins ++ VF fp s.heap) σ H s:=
  I.pins_of fun p hp=>(List.mem_append.mp hp).elim (fun z=>I.pin p (List.mem_append_right _ z)) fun z=>by
    obtain⟨hb,e⟩:=qo z
    obtain⟨f0,f1,f2,_⟩:=hf p.1 hb
    obtain⟨o,e',d⟩:=ho p.1 hb
    rw[e]at e'; cases e'
    exact⟨e,f0,f1,f2,d⟩
theorem Inv.unpinned{pins pl:List (Addr×Obj)}{σ:St}{H:Hp}{s:Shared}(I:Inv X (pins ++ pl) σ H s):Inv X pins σ H s:=I.pins_of fun p hp=>I.pin p (List.mem_append_right _ (List.mem_append_left _ hp))
theorem bP{iter:Expr}{body:List Stmt}{wi:TI}{g:TG}{tb:TS}{pos:Pos}(hp:PassesOwn (model X.prog X.w) X.A X.env X.xe)(hc:X.calm=true)(hi:PI X tg iter wi)(hg:PG X tg g)(hb:Je X body tb)
    (hs:∀x,foldedSetIterable iter X.env x=pure x:=by intro _; rfl):PS X (.For tg iter body [] pos) (EG wi g tb):=by
  intro pins s σ H D I h
  refine wpAny_For (jp (hi pins s σ H _ I h) fun v s1 h1=>jp h1 fun itv s2 h2=>?_) hs
  obtain⟨it,fp,tn,J,H2,e,I2,T,st2,f2,W,⟨m0,w0⟩,turn⟩:=h2
  subst e
  have stat:∀{H':Hp},(∀b∈fp,H' b=none)->∀b∈fp,Jm X pins H' b:=fun hn b hb=>⟨hn b hb,(f2 b hb).2⟩
  refine codeAny_forLoop_any (fun n s'=>∃i σ' H',Inv X pins σ' H' s'/\tn i s'.heap/\(∀b∈fp,H' b=none)/\W i n σ' H') ?_ m0 ⟨0,σ,H2,I2,st2,fun b hb=>(f2 b hb).1,w0⟩
  rintro n s3 ⟨i,σ3,H3,I3,st3,fr3,w3⟩
  rcases turn i n σ3 H3 w3 with⟨stop,qn⟩ | ⟨go,N,hN,step⟩
  · refine wpAny_passesOwn hp (jp (T.done X rfl rfl rfl hc i pins s3 σ3 H3 X.xe I3 (stat fr3) st3 stop) fun r s4 ⟨hr,I4⟩=>?_)
    subst hr
    exact wpAny_execs_nil ⟨σ3,H3,I4,qn⟩
  · refine wpAny_passesOwn hp (jp (T.item X rfl rfl rfl hc i pins s3 σ3 H3 X.xe I3 (stat fr3) st3 go) fun r s4 ⟨u,hr,h4⟩=>?_)
    subst hr
    refine wpAny_passesOwn hp (jp h4 fun _ s5 ⟨x,H5,I5,r5,y5,st5,fr5⟩=>?_)
    have I5':=I5.pinned (stat fr5) (T.obj _ _ st5)
    refine wpAny_passesOwn hp (jp (hg _ s5 σ3 H5 x u _ I5' r5 (step x H5 y5)) fun _ s6 ⟨σ6,H6,I6,q6⟩=>?_)
    refine wpAny_passesOwn hp (jp (hb _ s6 σ6 H6 _ I6 q6) fun f s7 q7=>?_)
    have again:∀{σ7:St} {H7:Hp},Inv X (pins ++ VF fp s5.heap) σ7 H7 s7->N σ7 H7->∃m,m < n/\∃i σ' H',Inv X pins σ' H' s7/\tn i s7.heap/\(∀b∈fp,H' b=none)/\W i m σ' H':=fun {σ7 H7} I7 n7=>by
      obtain⟨m',hm,w7⟩:=hN σ7 H7 n7
      refine⟨m',hm,i + 1,σ7,H7,I7.unpinned,T.keep _ _ _ st5 fun b hb o e=>(I7.pin (b,o) (List.mem_append_right _ (List.mem_append_right _ (z_ hb e)))).1,fun b hb=>?_,w7⟩
      obtain⟨o,e,d⟩:=T.obj _ _ st5 b hb
      exact(I7.pin (b,o) (List.mem_append_right _ (List.mem_append_right _ (z_ hb e)))).2.1
    cases f with
    | next=>obtain⟨σ7,H7,I7,n7⟩:=q7; exact again I7 n7
    | cont=>obtain⟨σ7,H7,I7,n7⟩:=q7; exact again I7 n7
    | brk=>obtain⟨σ7,H7,I7,q7⟩:=q7; exact⟨σ7,H7,I7.unpinned,q7⟩
    | ret v=>obtain⟨x7,σ7,H7,I7,r7,q7⟩:=q7; exact⟨x7,σ7,H7,I7.unpinned,r7,q7⟩
end
end L2
namespace L2
open PySem PySem.Spec PyProof.Rows
noncomputable abbrev R2:=V->V->Hp->VK->Prop
noncomputable def jH(X:Cx)(f:Value->Value->Sem Value)(r:R2):Prop:=
  ∀(pins:List (Addr×Obj)) (s:Shared) (σ:St) (H:Hp) (x y:V) (v u:Value) (Q:VK),Inv X pins σ H s->jl x v->jl y u->r x y H Q->
    wpAny (model X.prog X.w) X.A (f v u) (EP X pins σ Q) X.xe s
noncomputable def bQ(X:Cx)(f:Value->Sem Value)(r:V->Hp->VK->Prop):Prop:=
  ∀(pins:List (Addr×Obj)) (s:Shared) (σ:St) (H:Hp) (x:V) (v:Value) (Q:VK),Inv X pins σ H s->jl x v->r x H Q->
    wpAny (model X.prog X.w) X.A (f v) (EP X pins σ Q) X.xe s
noncomputable def yW(X:Cx)(f:Value)(r:List V->Hp->VK->Prop):Prop:=
  ∀(pins:List (Addr×Obj)) (s:Shared) (σ:St) (H:Hp) (xs:List V) (us:List Value) (Q:VK),Inv X pins σ H s->jd xs us->r xs H Q->
    wpAny (model X.prog X.w) X.A (call f us) (EP X pins σ Q) X.xe s
noncomputable def EH(X:Cx)(r:V->Hp->(Bool->Hp->Prop)->Prop):Prop:=
  ∀(pins:List (Addr×Obj)) (s:Shared) (σ:St) (H:Hp) (x:V) (v:Value) (Q:Bool->Hp->Prop),Inv X pins σ H s->jl x v->r x H Q->
    wpAny (model X.prog X.w) X.A (truthy v) (TP X pins σ Q) X.xe s
noncomputable def qp(r:R2)(ta tb:TE):TE:=fun σ H Q=>ta σ H fun x H1=>tb σ H1 fun y H2=>r x y H2 Q
noncomputable def FF(r:V->Hp->VK->Prop)(ta:TE):TE:=fun σ H Q=>ta σ H fun x H1=>r x H1 Q
noncomputable def rI(C:Int->Int->Prop)(g:Int->Int->V):R2:=fun x y H Q=>∃i j,x=.int i/\y=.int j/\C i j/\Q (g i j) H
noncomputable def zV(g:Int->Int->V):R2:=fun x y H Q=>∃i j,x=.int i/\y=.int j/\Q (g i j) H
noncomputable def rU(g:Int->V):V->Hp->VK->Prop:=fun x H Q=>∃i,x=.int i/\Q (g i) H
section
variable {X:Cx} {a b c:Expr} {ta tb tc:TE} {pos:Pos}
theorem QY(ha:PE X a ta)(hb:PE X b tb){pins:List (Addr×Obj)}{s:Shared}{σ:St}{H:Hp}{R:V->V->Hp->Prop}(I:Inv X pins σ H s)
    (h:ta σ H fun x H1=>tb σ H1 fun y H2=>R x y H2) {Q:Value->Shared->Prop} {f:Value->Value->Sem Value}
    (hf:∀v u s2 x y H2,Inv X pins σ H2 s2->jl x v->jl y u->R x y H2->wpAny (model X.prog X.w) X.A (f v u) Q X.xe s2):
    wpAny (model X.prog X.w) X.A (eval a X.env) (fun v s₁=>wpAny (model X.prog X.w) X.A (eval b X.env) (fun u s₂=>wpAny (model X.prog X.w) X.A (f v u) Q X.xe s₂) X.xe s₁) X.xe s:=by
  refine jp (ha pins s σ H _ I h) fun v s1 ⟨x,H1,I1,r1,q1⟩=>?_
  refine jp (hb pins s1 σ H1 _ I1 q1) fun u s2 ⟨y,H2,I2,r2,q2⟩=>?_
  exact hf v u s2 x y H2 I2 r1 r2 q2
theorem Xp{op:Operator}{r:R2}(ho:jH X (binaryOp op) r)(ha:PE X a ta)(hb:PE X b tb):PE X (.BinOp a op b pos) (qp r ta tb):=by
  intro pins s σ H Q I h
  exact wpAny_BinOp (QY ha hb I h fun v u s2 x y H2 I2 rx ry q=>ho pins s2 σ H2 x y v u Q I2 rx ry q)
theorem Da{op:UnaryOp}{r:V->Hp->VK->Prop}(ho:bQ X (unaryOp op) r)(ha:PE X a ta):PE X (.UnaryOp op a pos) (FF r ta):=by
  intro pins s σ H Q I h
  exact UnaryOp_ (jp (ha pins s σ H _ I h) fun v s1 ⟨x,H1,I1,r1,q1⟩=>ho pins s1 σ H1 x v Q I1 r1 q1)
theorem Xq{f:Value->Value->Sem Value}{C:Int->Int->Prop}{g:Int->Int->Int}
    (rule:∀(i j:Int) (t u:Tok) (s:Shared) (Q:Value->Shared->Prop) (E:Value->Shared->Prop),C i j->Q (.int (g i j) s.toks) { s with toks:=s.toks + 1 }->wpAny (model X.prog X.w) X.A (f (.int i t) (.int j u)) Q E s):
    jH X f (rI C fun i j=>.int (g i j)):=by
  intro pins s σ H x y v u Q I rx ry h
  obtain⟨i,j,rfl,rfl,hc,q⟩:=h
  obtain⟨t,rfl⟩:=rx
  obtain⟨t',rfl⟩:=ry
  exact rule i j t t' s _ _ hc ⟨.int (g i j),H,I.tok _,⟨_,rfl⟩,q⟩
theorem bR{f:Value->Value->Sem Value}{g:Int->Int->Int}
    (rule:∀(i j:Int) (t u:Tok) (s:Shared) (Q:Value->Shared->Prop) (E:Value->Shared->Prop),Q (.int (g i j) s.toks) { s with toks:=s.toks + 1 }->wpAny (model X.prog X.w) X.A (f (.int i t) (.int j u)) Q E s):
    jH X f (zV fun i j=>.int (g i j)):=by
  intro pins s σ H x y v u Q I rx ry h
  obtain⟨i,j,rfl,rfl,q⟩:=h
  obtain⟨t,rfl⟩:=rx
  obtain⟨t',rfl⟩:=ry
  exact rule i j t t' s _ _ ⟨.int (g i j),H,I.tok _,⟨_,rfl⟩,q⟩
theorem Wj{f:Value->Value->Sem Value}{g:Int->Int->Bool}
    (rule:∀(i j:Int) (t u:Tok) (s:Shared) (Q:Value->Shared->Prop) (E:Value->Shared->Prop),Q (.bool (g i j)) s->wpAny (model X.prog X.w) X.A (f (.int i t) (.int j u)) Q E s):
    jH X f (zV fun i j=>.bl (g i j)):=by
  intro pins s σ H x y v u Q I rx ry h
  obtain⟨i,j,rfl,rfl,q⟩:=h
  obtain⟨t,rfl⟩:=rx
  obtain⟨t',rfl⟩:=ry
  exact rule i j t t' s _ _ ⟨.bl (g i j),H,I,rfl,q⟩
noncomputable def QZ(i j:Int):Prop:=0 < j/\j < 1073741824
noncomputable def Q_(i j:Int):Prop:=0<=j/\j<=1000000/\i.natAbs < 2 ^ 64
noncomputable def Ug(i j:Int):Prop:=(-(2 ^ 64) < i/\i < 2 ^ 64)∨(-(2 ^ 64) < j/\j < 2 ^ 64)
theorem Ug.ok{i j:Int}(h:Ug i j):IntMulOk i j:=by
  rcases h with⟨h1,h2⟩ | ⟨h1,h2⟩
  · exact .of_left (intBits_le_64 h1 h2)
  · exact .of_right (intBits_le_64 h1 h2)
theorem bS:jH X (binaryOp .Add) (zV fun i j=>.int (i + j)):=bR fun _ _ _ _ _ _ _ q=>add_int q
theorem bT:jH X (binaryOp .Sub) (zV fun i j=>.int (i - j)):=bR fun _ _ _ _ _ _ _ q=>sub_int q
theorem bU:jH X (binaryOp .Mult) (rI Ug fun i j=>.int (i * j)):=Xq fun _ _ _ _ _ _ _ hc q=>mul_int q hc.ok
theorem aX:jH X (binaryOp .FloorDiv) (rI QZ fun i j=>.int (i / j)):=Xq fun i j _ _ _ _ _ hc q=>by
  have h1:(0:Int) < j:=hc.1
  have h2:j < 1073741824:=hc.2
  exact floordiv_int (by omega) (by rw[Int.fdiv_eq_ediv_of_nonneg i (by omega)]; exact q) (.inl (PyProof.noPylong_small (by omega)))
theorem bV:jH X (binaryOp .Mod) (rI (fun _ j=>0 < j) fun i j=>.int (i % j)):=Xq fun i j _ _ _ _ _ hc q=>by
  have h1:(0:Int) < j:=hc
  exact mod_int' (by omega) (by rw[Int.fmod_eq_emod_of_nonneg i (by omega)]; exact q)
theorem bW:jH X (binaryOp .Pow) (rI Q_ fun i j=>.int (i ^ j.toNat)):=Xq fun _ _ _ _ _ _ _ hc q=>pow_int_small hc.1 hc.2.1 hc.2.2 q
theorem FG{f:Value->Sem Value}{g:Int->Int}
    (rule:∀(i:Int) (t:Tok) (s:Shared) (Q:Value->Shared->Prop) (E:Value->Shared->Prop),Q (.int (g i) s.toks) { s with toks:=s.toks + 1 }->wpAny (model X.prog X.w) X.A (f (.int i t)) Q E s):
    bQ X f (rU fun i=>.int (g i)):=by
  intro pins s σ H x v Q I rx h
  obtain⟨i,rfl,q⟩:=h
  obtain⟨t,rfl⟩:=rx
  exact rule i t s _ _ ⟨.int (g i),H,I.tok _,⟨_,rfl⟩,q⟩
theorem bX:bQ X (unaryOp .USub) (rU fun i=>.int (-i)):=FG fun _ _ _ _ _ q=>neg_int q
end
noncomputable def bZ:V->V->Bool
  | .non,.non=>true | .non,.int _=>true | .int _,.non=>true | .non,.bl _=>true | .bl _,.non=>true | .non,.str _=>true | .str _,.non=>true
  | .int _,.int _=>true | .bl _,.bl _=>true | .str _,.str _=>true | .byt _,.byt _=>true
  | .int _,.str _=>true | .str _,.int _=>true | .bl _,.str _=>true | .str _,.bl _=>true
  | _,_=>false
noncomputable def Xr:R2:=fun x y H Q=>bZ x y=true/\Q (.bl (decide (x=y))) H
noncomputable def Xs:R2:=fun x y H Q=>bZ x y=true/\Q (.bl (!decide (x=y))) H
theorem vA{i j:Int}:decide (V.int i=V.int j)=(i == j):=by
  rw[Bool.eq_iff_iff]
  simp
theorem VG{i j:Bool}:decide (V.bl i=V.bl j)=(i == j):=by
  rw[Bool.eq_iff_iff]
  simp
theorem vB{i j:Str}:decide (V.str i=V.str j)=(i == j):=by
  rw[Bool.eq_iff_iff]
  simp
theorem wG{i j:Array UInt8}:decide (V.byt i=V.byt j)=(i.toList == j.toList):=by
  rw[Bool.eq_iff_iff]
  cases i
  cases j
  simp
section
variable {X:Cx} {a b c:Expr} {ta tb tc:TE} {pos:Pos}
theorem jD{pins:List (Addr×Obj)}{σ:St}{H:Hp}{s:Shared}{Q:VK}{k k':Bool}(I:Inv X pins σ H s)(q:Q (.bl k) H)(e:k=k'):EP X pins σ Q (.bool k') s:=by
  subst e
  exact⟨.bl k,H,I,rfl,q⟩
theorem Db:jH X (compareOp .Eq) Xr:=by
  intro pins s σ H x y v u Q I rx ry h
  obtain⟨hs,q⟩:=h
  cases x with
  | non=>
    cases rx
    cases y with
    | non=>cases ry; exact PySem.EqNone.eq_none_none (jD I q (by simp))
    | bl j=>cases ry; exact PySem.EqNone.eq_none_bool (jD I q (by simp))
    | int j=>obtain⟨t',rfl⟩:=ry; exact PySem.EqNone.eq_none_int (jD I q (by simp))
    | str j=>obtain⟨t',rfl⟩:=ry; exact PySem.EqNone.eq_none_str (jD I q (by simp))
    | _=>exact absurd (show false=true from hs) Bool.false_ne_true
  | bl i=>
    cases rx
    cases y with
    | non=>cases ry; exact PySem.EqNone.eq_bool_none (jD I q (by simp))
    | bl j=>cases ry; exact eq_bool (jD I q VG)
    | str j=>obtain⟨t',rfl⟩:=ry; exact PySem.EqMixed.eq_bool_str (jD I q (by simp))
    | _=>exact absurd (show false=true from hs) Bool.false_ne_true
  | int i=>
    obtain⟨t,rfl⟩:=rx
    cases y with
    | non=>cases ry; exact PySem.EqNone.eq_int_none (jD I q (by simp))
    | int j=>obtain⟨t',rfl⟩:=ry; exact eq_int (jD I q vA)
    | str j=>obtain⟨t',rfl⟩:=ry; exact PySem.EqMixed.eq_int_str (jD I q (by simp))
    | _=>exact absurd (show false=true from hs) Bool.false_ne_true
  | str i=>
    obtain⟨t,rfl⟩:=rx
    cases y with
    | non=>cases ry; exact PySem.EqNone.eq_str_none (jD I q (by simp))
    | bl j=>cases ry; exact PySem.EqMixed.eq_str_bool (jD I q (by simp))
    | int j=>obtain⟨t',rfl⟩:=ry; exact PySem.EqMixed.eq_str_int (jD I q (by simp))
    | str j=>obtain⟨t',rfl⟩:=ry; exact eq_str (jD I q vB)
    | _=>exact absurd (show false=true from hs) Bool.false_ne_true
  | byt i=>
    obtain⟨t,rfl⟩:=rx
    cases y with
    | byt j=>obtain⟨t',rfl⟩:=ry; exact PySem.W.eq_bytes (jD I q wG)
    | _=>exact absurd (show false=true from hs) Bool.false_ne_true
  | _=>cases y <;> exact absurd (show false=true from hs) Bool.false_ne_true
theorem Dc:jH X (compareOp .NotEq) Xs:=by
  intro pins s σ H x y v u Q I rx ry h
  obtain⟨hs,q⟩:=h
  cases x with
  | non=>
    cases rx
    cases y with
    | non=>cases ry; exact PySem.EqNone.ne_none_none (jD I q (by simp))
    | bl j=>cases ry; exact PySem.EqNone.ne_none_bool (jD I q (by simp))
    | int j=>obtain⟨t',rfl⟩:=ry; exact PySem.EqNone.ne_none_int (jD I q (by simp))
    | str j=>obtain⟨t',rfl⟩:=ry; exact PySem.EqNone.ne_none_str (jD I q (by simp))
    | _=>exact absurd (show false=true from hs) Bool.false_ne_true
  | bl i=>
    cases rx
    cases y with
    | non=>cases ry; exact PySem.EqNone.ne_bool_none (jD I q (by simp))
    | bl j=>cases ry; exact ne_bool (jD I q (congrArg not VG))
    | str j=>obtain⟨t',rfl⟩:=ry; exact PySem.EqMixed.ne_bool_str (jD I q (by simp))
    | _=>exact absurd (show false=true from hs) Bool.false_ne_true
  | int i=>
    obtain⟨t,rfl⟩:=rx
    cases y with
    | non=>cases ry; exact PySem.EqNone.ne_int_none (jD I q (by simp))
    | int j=>obtain⟨t',rfl⟩:=ry; exact ne_int (jD I q (congrArg not vA))
    | str j=>obtain⟨t',rfl⟩:=ry; exact PySem.EqMixed.ne_int_str (jD I q (by simp))
    | _=>exact absurd (show false=true from hs) Bool.false_ne_true
  | str i=>
    obtain⟨t,rfl⟩:=rx
    cases y with
    | non=>cases ry; exact PySem.EqNone.ne_str_none (jD I q (by simp))
    | bl j=>cases ry; exact PySem.EqMixed.ne_str_bool (jD I q (by simp))
    | int j=>obtain⟨t',rfl⟩:=ry; exact PySem.EqMixed.ne_str_int (jD I q (by simp))
    | str j=>obtain⟨t',rfl⟩:=ry; exact ne_str (jD I q (congrArg not vB))
    | _=>exact absurd (show false=true from hs) Bool.false_ne_true
  | byt i=>
    obtain⟨t,rfl⟩:=rx
    cases y with
    | byt j=>obtain⟨t',rfl⟩:=ry; exact PySem.W.ne_bytes (jD I q (congrArg not wG))
    | _=>exact absurd (show false=true from hs) Bool.false_ne_true
  | _=>cases y <;> exact absurd (show false=true from hs) Bool.false_ne_true
theorem Df:jH X (compareOp .Lt) (zV fun i j=>.bl (decide (i < j))):=Wj fun _ _ _ _ _ _ _ q=>lt_int q
theorem Dg:jH X (compareOp .LtE) (zV fun i j=>.bl (decide (i<=j))):=Wj fun _ _ _ _ _ _ _ q=>le_int q
theorem Dh:jH X (compareOp .Gt) (zV fun i j=>.bl (decide (j < i))):=Wj fun _ _ _ _ _ _ _ q=>gt_int q
theorem Di:jH X (compareOp .GtE) (zV fun i j=>.bl (decide (j<=i))):=Wj fun _ _ _ _ _ _ _ q=>ge_int q
theorem b_:jH X (compareOp .Is) (fun x y H Q=>y=.non/\Q (.bl (decide (x=.non))) H):=by
  intro pins s σ H x y v u Q I rx ry h
  obtain⟨rfl,q⟩:=h
  cases ry
  refine is_none_gen (jD I q ?_)
  cases x <;> first
    | (cases rx; rfl)
    | (obtain⟨t,rfl⟩:=rx; rfl)
theorem aY:jH X (compareOp .IsNot) (fun x y H Q=>y=.non/\Q (.bl (!decide (x=.non))) H):=by
  intro pins s σ H x y v u Q I rx ry h
  obtain⟨rfl,q⟩:=h
  cases ry
  refine isnot_none_gen (jD I q ?_)
  cases x <;> first
    | (cases rx; rfl)
    | (obtain⟨t,rfl⟩:=rx; rfl)
theorem jH.or{f:Value->Value->Sem Value}{r r':R2}(h:jH X f r)(h':jH X f r'):jH X f (fun x y H Q=>r x y H Q∨r' x y H Q):=by
  intro pins s σ H x y v u Q I rx ry q
  rcases q with q | q
  · exact h pins s σ H x y v u Q I rx ry q
  · exact h' pins s σ H x y v u Q I rx ry q
theorem aZ{op:CmpOp}{r:R2}(ho:jH X (compareOp op) r)(ha:PE X a ta)(hb:PE X b tb)(hm:behindInMarks op b=false):PE X (.Compare a [op] [b] pos) (qp r ta tb):=by
  intro pins s σ H Q I h
  exact wpAny_Compare1 (QY ha hb I h fun v u s2 x y H2 I2 rx ry q=>ho pins s2 σ H2 x y v u Q I2 rx ry q) hm
noncomputable def Xu(t:TE):TT:=fun σ H Q=>t σ H fun x H'=>∃k,x=.bl k/\Q k H'
theorem a_{op:CmpOp}{r:R2}(ho:jH X (compareOp op) r)(ha:PE X a ta)(hb:PE X b tb)(hm:behindInMarks op b=false):PT X (.Compare a [op] [b] pos) (Xu (qp r ta tb)):=by
  intro pins s σ H Q I h
  refine wpAny_isTrue_Compare1 (jp (ha pins s σ H _ I h) fun v s1 ⟨x,H1,I1,r1,q1⟩=>jp (hb pins s1 σ H1 _ I1 q1) fun u s2 ⟨y,H2,I2,r2,q2⟩=>
    jp (ho pins s2 σ H2 x y v u _ I2 r1 r2 q2) fun c s3 ⟨z,H3,I3,r3,k,e,q3⟩=>?_) hm
  subst e
  cases r3
  exact wpAny_truthy_bool ⟨H3,I3,q3⟩
noncomputable def ky(r r':R2)(ta tb tc:TE):TE:=fun σ H Q=>ta σ H fun x H1=>tb σ H1 fun y H2=>r x y H2 fun z H3=>∃k,z=.bl k/\
  (if k=true then tc σ H3 fun w' H4=>r' y w' H4 Q else Q (.bl false) H3)
theorem xa{op op':CmpOp}{r r':R2}(ho:jH X (compareOp op) r)(ho':jH X (compareOp op') r')(ha:PE X a ta)(hb:PE X b tb)(hc:PE X c tc)
    (hm:lastMarks [op,op'] [b,c]=false:=by with_unfolding_all rfl):PE X (.Compare a [op,op'] [b,c] pos) (ky r r' ta tb tc):=by
  intro pins s σ H Q I h
  refine Compare_chain (jp (ha pins s σ H _ I h) fun v s1 ⟨x,H1,I1,r1,q1⟩=>chain_link (jp (hb pins s1 σ H1 _ I1 q1) fun u s2 ⟨y,H2,I2,r2,q2⟩=>
    jp (ho pins s2 σ H2 x y v u _ I2 r1 r2 q2) fun d s3 ⟨z,H3,I3,r3,k,e,q3⟩=>?_)) hm
  subst e
  cases r3
  refine wpAny_truthy_bool ?_
  cases k with
  | false=>exact ite_ff ⟨.bl false,H3,I3,rfl,q3⟩
  | true=>exact ite_tt (chain_last (jp (hc pins s3 σ H3 _ I3 q3) fun w' s4 ⟨z',H4,I4,r4,q4⟩=>ho' pins s4 σ H4 y z' u w' Q I4 r2 r4 q4))
theorem xb{op op':CmpOp}{r r':R2}(ho:jH X (compareOp op) r)(ho':jH X (compareOp op') r')(ha:PE X a ta)(hb:PE X b tb)(hc:PE X c tc)
    (hm:lastMarks [op,op'] [b,c]=false:=by with_unfolding_all rfl):PT X (.Compare a [op,op'] [b,c] pos) (Xu (ky r r' ta tb tc)):=by
  intro pins s σ H Q I h
  refine isTrue_chain (jp (ha pins s σ H _ I h) fun v s1 ⟨x,H1,I1,r1,q1⟩=>test_link (jp (hb pins s1 σ H1 _ I1 q1) fun u s2 ⟨y,H2,I2,r2,q2⟩=>
    jp (ho pins s2 σ H2 x y v u _ I2 r1 r2 q2) fun d s3 ⟨z,H3,I3,r3,k,e,q3⟩=>?_)) hm
  subst e
  cases r3
  refine wpAny_truthy_bool ?_
  cases k with
  | false=>
    obtain⟨k',e',q'⟩:=q3
    cases e'
    exact ite_ff ⟨H3,I3,q'⟩
  | true=>
    refine ite_tt (test_last (jp (hc pins s3 σ H3 _ I3 q3) fun w' s4 ⟨z',H4,I4,r4,q4⟩=>jp (ho' pins s4 σ H4 y z' u w' _ I4 r2 r4 q4) fun d' s5 ⟨z2,H5,I5,r5,k2,e2,q5⟩=>?_))
    subst e2
    cases r5
    exact wpAny_truthy_bool ⟨H5,I5,q5⟩
noncomputable def xc(K:PySem.W.Frag)(x:V)(H:Hp)(k:Bool):Prop:=
  match x with
  | .non=>k=false
  | .bl b=>k=b
  | .int i=>k=(i != 0)
  | .str y=>y.length<=sizeLine/\k=((y.length:Int) != 0)
  | .byt y=>y.size<=sizeLine/\k=((y.size:Int) != 0)
  | .ref p=>(∃xs,jy K H p xs/\k=!xs.isEmpty)∨(∃xs,Ju K H p xs/\k=!xs.isEmpty)∨∃kvs,H p=some (.dK kvs)/\k=!kvs.isEmpty
  | _=>False
theorem Wk{κ:Type}{kvs:List (κ×V)}{vs:List (κ×Value)}(r:KV kvs vs):(!vs.isEmpty)=!kvs.isEmpty:=by
  cases r <;> rfl
theorem UP{xs:List V}{its:List Value}(r:jd xs its):(!its.toArray.isEmpty)=!xs.isEmpty:=by
  cases r <;> simp
theorem vC:(sizeLine:Nat) < 2 ^ 63:=by rw[sizeLine_eq]; decide
theorem B0:EH X (fun x H Q=>∃k,xc X.K x H k/\Q k H):=by
  intro pins s σ H x v Q I rx h
  obtain⟨k,e,q⟩:=h
  have hl:=vC
  have hs:sizeLine=16777216:=sizeLine_eq
  cases x with
  | non=>
    cases rx
    have e':k=false:=e
    subst e'
    exact truthy_none ⟨H,I,q⟩
  | bl b=>
    cases rx
    have e':k=b:=e
    subst e'
    exact wpAny_truthy_bool ⟨H,I,q⟩
  | int i=>
    obtain⟨t,rfl⟩:=rx
    have e':k=(i != 0):=e
    subst e'
    exact PySem.P.truthy_int ⟨H,I,q⟩
  | str y=>
    obtain⟨t,rfl⟩:=rx
    obtain⟨hy,e'⟩:y.length<=sizeLine/\k=((y.length:Int) != 0):=e
    subst e'
    exact PySem.P.truthy_str (by omega) ⟨H,I.tok _,q⟩
  | byt y=>
    obtain⟨t,rfl⟩:=rx
    obtain⟨hy,e'⟩:y.size<=sizeLine/\k=((y.size:Int) != 0):=e
    subst e'
    exact PySem.W.truthy_bytes (by omega) ⟨H,I.tok _,q⟩
  | ref p=>
    cases rx
    have e':(∃xs,jy X.K H p xs/\k=!xs.isEmpty)∨(∃xs,Ju X.K H p xs/\k=!xs.isEmpty)∨∃kvs,H p=some (.dK kvs)/\k=!kvs.isEmpty:=e
    rcases e' with⟨xs,hx,e'⟩ | ⟨xs,hx,e'⟩ | ⟨kvs,hx,e'⟩
    · subst e'
      obtain⟨its,r,pl,hz⟩:=I.list hx
      have hlen:=r.length
      exact wpAny_truthy_list pl.isList (by simp only[List.size_toArray]; omega) ⟨H,I.tok _,by rw[UP r]; exact q⟩
    · subst e'
      obtain⟨its,r,pl,hz⟩:=I.tuple hx
      have hlen:=r.length
      exact truthy_tuple pl (by simp only[List.size_toArray]; omega) ⟨H,I.tok _,by rw[UP r]; exact q⟩
    · subst e'
      obtain⟨hz,hS,vs,r,m⟩:kvs.length<=sizeLine/\(p == sysModules)=false/\∃vs,KV kvs vs/\s.heap.DictOf (gF X.prog X.w) p vs:=I.hok p _ hx
      have hlen:kvs.length=vs.length:=Paired.length r
      exact wpAny_truthy_dict hS m (by omega) ⟨H,I.tok _,by rw[Wk r]; exact q⟩
  | _=>exact(show False from e).elim
theorem xf(ha:PE X a ta)(he:∀whole,isTrue a X.env whole=(do let v<-whole; standAt a.pos; holding [v] (truthy v))):
    PT X a (fun σ H Q=>ta σ H fun x H'=>∃k,xc X.K x H' k/\Q k H'):=by
  intro pins s σ H Q I h
  exact isTrue_plain (jp (ha pins s σ H _ I h) fun v s1 ⟨x,H1,I1,r1,q1⟩=>B0 pins s1 σ H1 x v Q I1 r1 q1) (he _)
theorem Wl:jH X (binaryOp .Add) (fun x y H Q=>∃i j,x=.str i/\y=.str j/\i.length + j.length<=sizeLine/\Q (.str (i ++ j)) H):=by
  intro pins s σ H x y v u Q I rx ry h
  obtain⟨i,j,rfl,rfl,hz,q⟩:=h
  obtain⟨t,rfl⟩:=rx
  obtain⟨t',rfl⟩:=ry
  exact add_str (fun t' tk=>⟨.str (i ++ j),H,I.tok _,⟨_,rfl⟩,q⟩) hz
theorem UQ{x:V}{us:List Value}(r:jd [x] us):∃u,us=[u]/\jl x u:=by
  cases r with
  | cons r1 r2=>cases r2; exact⟨_,rfl,r1⟩
theorem Xv{x y:V}{us:List Value}(r:jd [x,y] us):∃u w',us=[u,w']/\jl x u/\jl y w':=by
  cases r with
  | cons r1 r2=>
    cases r2 with
    | cons r3 r4=>cases r4; exact⟨_,_,rfl,r1,r3⟩
theorem qr(hc:X.calm=true):yW X (.builtin "max") (fun xs H Q=>∃i j,xs=[.int i,.int j]/\Q (.int (if j > i then j else i)) H):=by
  intro pins s σ H xs us Q I r h
  obtain⟨i,j,rfl,q⟩:=h
  obtain⟨u,w',rfl,⟨t,rfl⟩,⟨t',rfl⟩⟩:=Xv r
  refine max_two_ints (I.ok.hd hc) fun h' tk k=>⟨_,H,I.kept k,?_,q⟩
  by_cases hj:j > i
  · rw[if_pos hj,if_pos hj]; exact⟨_,rfl⟩
  · rw[if_neg hj,if_neg hj]; exact⟨_,rfl⟩
theorem qt(hc:X.calm=true):yW X (.builtin "min") (fun xs H Q=>∃i j,xs=[.int i,.int j]/\Q (.int (if j < i then j else i)) H):=by
  intro pins s σ H xs us Q I r h
  obtain⟨i,j,rfl,q⟩:=h
  obtain⟨u,w',rfl,⟨t,rfl⟩,⟨t',rfl⟩⟩:=Xv r
  refine min_two_ints (I.ok.hd hc) fun h' tk k=>⟨_,H,I.kept k,?_,q⟩
  by_cases hj:j < i
  · rw[if_pos hj,if_pos hj]; exact⟨_,rfl⟩
  · rw[if_neg hj,if_neg hj]; exact⟨_,rfl⟩
theorem qu:yW X (.type "int") (fun xs H Q=>(∃i,xs=[.int i]/\Q (.int i) H)∨∃k,xs=[.bl k]/\Q (.int (if k then 1 else 0)) H):=by
  intro pins s σ H xs us Q I r h
  rcases h with⟨i,rfl,q⟩ | ⟨k,rfl,q⟩
  · obtain⟨u,rfl,t,rfl⟩:=UQ r
    exact call_int_int ⟨.int i,H,I,⟨_,rfl⟩,q⟩
  · obtain⟨u,rfl,r1⟩:=UQ r
    cases r1
    exact call_int_bool ⟨.int (if k then 1 else 0),H,I.tok _,⟨_,rfl⟩,q⟩
end
end L2
namespace L2
open PySem PySem.Spec PyProof.Rows
structure ObjM (h:Heap) (x dx C:Addr) (mA:Str->Option Value):Prop where
  obj:h.get? x=some (PySem.W.instObj C dx)
  ns:h.Ns1 dx mA
  ne:dx≠x
theorem qv{h:Heap}{dx:Addr}{mA:Str->Option Value}(n:h.Ns1 dx mA):∃od,h.get? dx=some od/\∀name,PySem.W.lookIn name od=some (mA name):=by
  obtain⟨o,es,ep,ho,hd,hk,_,hm⟩:=n
  refine⟨o,ho,fun name=>?_⟩
  have e:=hm name
  unfold nsFind findBy at e
  rw[<-Array.find?_toList]at e
  unfold PySem.W.lookIn
  rw[hd]
  dsimp only
  split
  · rename_i y q
    rw[q]at e
    exact congrArg some e
  · rename_i q
    rw[q]at e
    have a:es.toList.any (·.refKey)=false:=by
      rw[List.any_eq_false]
      intro y hy
      obtain⟨z,t,hkey⟩:=hk y (Array.mem_toList_iff.mp hy)
      simp[DictEntry.refKey,hkey]
    have a':¬es.toList.any (·.refKey)=true:=by rw[a]; exact Bool.false_ne_true
    rw[if_neg a']
    exact congrArg some e
theorem ObjM.look{h:Heap}{x dx C:Addr}{mA:Str->Option Value}(I:ObjM h x dx C mA):∃od,PySem.W.InstAt h x (PySem.W.instObj C dx) C (some od)/\∀name,PySem.W.lookIn name od=some (mA name):=
  let ⟨od,ho,hl⟩:=qv I.ns
  ⟨od,⟨I.obj,rfl,rfl,ho⟩,hl⟩
section
variable {prog:Program} {w:World} {A:Around} {E:Value->Shared->Prop} {s:Shared} {K:PySem.W.Frag} {x dx C f:Addr} {mA:Str->Option Value} {name:Str} {v:Value}
theorem A0{expr:Bool}{Q:Value->Shared->Prop}(X:K.In s.heap)(I:ObjM s.heap x dx C mA)(hg:PySem.W.plainGet K C name=true)(hh:PySem.W.hasDictIn K C=true)
    (ha:PySem.W.findIn K (.ref C) name=some none) (hv:mA name=some v) (hv':PySem.W.handedIn v=true) (h:Q v { s with toks:=s.toks + 1 }):
    wpAny (model prog w) A (getAttr (.ref x) name expr) Q E s:=by
  obtain⟨od,J,hl⟩:=I.look
  exact PySem.W.get_value X J (PySem.W.plainGet_of hg).1 (PySem.W.findObj_own hh ha rfl (by rw[hl,hv])) hv' h
theorem xg{pl:Sem Bool}{Q:Value×List Value->Shared->Prop}(X:K.In s.heap)(I:ObjM s.heap x dx C mA)(hg:PySem.W.plainGet K C name=true)
    (hf:PySem.W.findIn K (.ref C) name=some (some (.ref f))) (ht:PySem.W.isFn K (.ref f)=true) (hv:mA name=none) (h:Q (.ref f,[.ref x]) s):
    wpAny (model prog w) A (getMethod (.ref x) name pl) Q E s:=by
  obtain⟨od,J,hl⟩:=I.look
  exact PySem.W.method_fn X J (PySem.W.plainGet_of hg).1 (PySem.W.plainGet_of hg).2 hf (beq_iff_eq.mp ht) (by show(PySem.W.lookIn name od).map (·.isSome)=some false; rw[hl,hv]; rfl) h
theorem A1{ns:List Str}{Q:Unit->Shared->Prop}(X:K.In s.heap)(I:ObjM s.heap x dx C mA)
    (hs:PySem.W.findIn K (.ref C) "__setattr__" = some (some (.builtin "object.__setattr__"))) (hp:PySem.W.plainOver K C=true) (ht:PySem.W.takerIn K C name=some none) (hh:PySem.W.hasDictIn K C=true)
    (hw:PySem.Within mA ns) (hsz:ns.length<=sizeLine)
    (h:∀h',ObjM h' x dx C (fun y=>if y=name then some v else mA y)->Heap.SameBut dx s.heap h'->Q () { s with heap:=h',toks:=s.toks + 2 }):
    wpAny (model prog w) A (setAttr (.ref x) name v) Q E s:=by
  obtain⟨od,J,hl⟩:=I.look
  refine PySem.W.set_plain X J hs (PySem.W.osa_open (s:={ s with toks:=s.toks + 1 }) (r:=none) X J hp ht fun b=>?_)
  obtain⟨cd,hc,hd'⟩:=PySem.W.any_some hh
  have hx:s.heap.get? x=some ⟨.ref C,some dx,.plain,#[]⟩:=I.obj
  refine wpAny_bind (wpAny_pure (wpAny_bind (wpAny_bind (wpAny_loadPart hx (wpAny_bind (PySem.W.Looks.here (s:={ s with toks:=s.toks + 1 }) (PySem.W.looks_clsIn X hc) ?_))))))
  rw[hd']
  refine wpAny_pure (a:=some dx) (wpAny_bind (wpAny_pure (wpAny_bind ?_)))
  refine wpAny_nsSet1 (s:={ s with toks:=s.toks + 1 }) I.ns fun h' hn2 hs2=>?_
  obtain⟨oD,esD,epD,hoD,hdD,hcD⟩:=hn2.count (PySem.Within.cons name v hw)
  refine wpAny_bind (wpAny_lookBehind hoD (by rw[hdD]; exact pastItsLine_dict (Nat.le_trans hcD (by rw[List.length_cons]; omega))) ?_)
  exact wpAny_pure (h _ ⟨(hs2.2 _ (Ne.symm I.ne)).trans I.obj,hn2,I.ne⟩ hs2)
theorem xh{R:Result->Shared->Prop}{vs:List Value}{kw:List (Str×Value)}(X:K.In s.heap)(hm:PySem.W.makesIn K C=true)
    (hi:PySem.W.findIn K (.ref C) "__init__" = some (some (.ref f))) (hf:PySem.W.typeIn K (.ref f)=some (.type "function"))
    (h:codeAny (model prog w) (A.under (.builtin "type.__call__" ⟨.ref C :: vs,kw⟩)) (.call (.ref f) ⟨.ref (s.heap.objs.size + 1) :: vs,kw⟩) (PySem.W.InitBack (s.heap.objs.size + 1) R)
      { s with heap:=(s.heap.push PySem.W.emptyDict).push (PySem.W.instObj C s.heap.objs.size) }):
    codeAny (model prog w) A (.call (.ref C) ⟨vs,kw⟩) R s:=by
  obtain⟨hh,g,d,t,os⟩:=s
  exact PySem.W.make_core (PySem.W.makes_of X hm) (PySem.W.looks_findIn X hi) (fun self=>PySem.W.bind_fn X self hf) (.inl rfl) h
end
noncomputable def yw(f:Str)(v:V):List (Str×V)->List (Str×V)
  | []=>[(f,v)]
  | (g,x) :: r=>if g=f then(g,v) :: r else(g,x) :: yw f v r
theorem uV(f g:Str)(v:V):∀fs:List (Str×V),(yw f v fs).lookup g=if g=f then some v else fs.lookup g
  | []=>by
    show List.lookup g [(f,v)]=_
    by_cases h:g=f
    · have hb:(g == f)=true:=beq_iff_eq.mpr h
      simp only[List.lookup,hb,if_pos h]
    · have hb:(g == f)=false:=beq_eq_false_iff_ne.mpr h
      simp only[List.lookup,hb,if_neg h]
  | (k,x) :: r=>by
    have ih:=uV f g v r
    rw[show yw f v ((k,x) :: r)=(if k=f then(k,v) :: r else(k,x) :: yw f v r) from rfl]
    by_cases hk:k=f
    · rw[if_pos hk]
      by_cases h:g=k
      · have hb:(g == k)=true:=beq_iff_eq.mpr h
        simp only[List.lookup,hb,if_pos (h.trans hk)]
      · have hb:(g == k)=false:=beq_eq_false_iff_ne.mpr h
        simp only[List.lookup,hb,if_neg (fun e:g=f=>h (e.trans hk.symm))]
    · rw[if_neg hk]
      by_cases h:g=k
      · have hb:(g == k)=true:=beq_iff_eq.mpr h
        simp only[List.lookup,hb,if_neg (fun e:g=f=>hk (h.symm.trans e))]
      · have hb:(g == k)=false:=beq_eq_false_iff_ne.mpr h
        simp only[List.lookup,hb]
        exact ih
theorem VH(f:Str)(v:V):∀fs:List (Str×V),f∈(yw f v fs).map (·.1)/\∀g,g∈fs.map (·.1)->g∈(yw f v fs).map (·.1)
  | []=>⟨by simp[yw],fun g h=>by simp at h⟩
  | (k,x) :: r=>by
    obtain⟨i1,i2⟩:=VH f v r
    rw[show yw f v ((k,x) :: r)=(if k=f then(k,v) :: r else(k,x) :: yw f v r) from rfl]
    by_cases hk:k=f
    · rw[if_pos hk]
      subst hk
      exact⟨by simp,fun g h=>by simpa using h⟩
    · rw[if_neg hk]
      refine⟨?_,fun g h=>?_⟩
      · rw[List.map_cons]
        exact List.mem_cons_of_mem _ i1
      · rw[List.map_cons]at h⊢
        rcases List.mem_cons.mp h with e | e
        · exact List.mem_cons.mpr (.inl e)
        · exact List.mem_cons_of_mem _ (i2 g e)
theorem uW(f:Str)(v:V):∀fs:List (Str×V),(yw f v fs).length<=fs.length + 1
  | []=>by simp[yw]
  | (k,x) :: r=>by
    have ih:=uW f v r
    rw[show yw f v ((k,x) :: r)=(if k=f then(k,v) :: r else(k,x) :: yw f v r) from rfl]
    by_cases hk:k=f
    · rw[if_pos hk,List.length_cons,List.length_cons]; omega
    · rw[if_neg hk,List.length_cons,List.length_cons]; omega
theorem Z_.some_of{v:V}{o:Option Value}(r:Z_ (some v) o):∃u,o=some u/\jl v u:=by
  cases o with
  | none=>exact(show False from r).elim
  | some u=>exact⟨u,rfl,r⟩
theorem Z_.none_of{o:Option Value}(r:Z_ none o):o=none:=by
  cases o with
  | none=>rfl
  | some u=>exact(show False from r).elim
theorem qw{v:V}{u:Value}(r:jl v u):PySem.W.handedIn u=true:=by
  cases v with
  | non=>cases (show u=Value.none from r); rfl
  | bl b=>cases (show u=Value.bool b from r); rfl
  | int i=>obtain⟨t,e⟩:=(show∃t,u=Value.int i t from r); cases e; rfl
  | str x=>obtain⟨t,e⟩:=(show∃t,u=Value.str x t from r); cases e; rfl
  | byt b=>obtain⟨t,e⟩:=(show∃t,u=Value.bytes b t from r); cases e; rfl
  | flt b=>obtain⟨t,e⟩:=(show∃t,u=Value.float b t from r); cases e; rfl
  | ref a=>cases (show u=Value.ref a from r); rfl
  | ty n=>cases (show u=Value.type n from r); rfl
section
variable {P:Program} {w:World} {H H':Hp} {h h':Heap} {a C dx:Addr} {fs fs':List (Str×V)}
theorem gJ(hok:JT P w H h)(e:H a=some (.ins C dx fs)):∃mA,ObjM h a dx C mA/\(∀f,Z_ (fs.lookup f) (mA f))/\PySem.Within mA (fs.map (·.1))/\fs.length<=1000/\H dx=some (.own a):=by
  obtain⟨d,z,ne,ob,mA,n,r,q⟩:=(show JQ P w H h a (.ins C dx fs) from hok a _ e)
  exact⟨mA,⟨ob,n,ne⟩,r,q,z,d⟩
end
structure Cls (K:PySem.W.Frag) (C:Addr):Prop where
  pg:PySem.W.plainGet K C Str.empty=true
  hd:PySem.W.hasDictIn K C=true
  po:PySem.W.plainOver K C=true
  sa:PySem.W.findIn K (.ref C) "__setattr__" = some (some (.builtin "object.__setattr__"))
theorem Cls.get{K:PySem.W.Frag}{C:Addr}(c:Cls K C)(f:Str):PySem.W.plainGet K C f=true:=c.pg
noncomputable def yI(K:PySem.W.Frag)(C:Addr)(f:Str):Prop:=PySem.W.findIn K (.ref C) f=some none
theorem yI.taker{K:PySem.W.Frag}{C:Addr}{f:Str}(n:yI K C f):PySem.W.takerIn K C f=some none:=by
  unfold PySem.W.takerIn
  rw[show PySem.W.findIn K (.ref C) f=some none from n]
  rfl
structure Meth (K:PySem.W.Frag) (C:Addr) (m:Str) (f:Addr):Prop where
  at_:PySem.W.findIn K (.ref C) m=some (some (.ref f))
  fn:PySem.W.isFn K (.ref f)=true
  kp:PySem.W.keepIn K (.ref f)=true
section
variable {X:Cx} {pins:List (Addr×Obj)} {σ:St} {H:Hp} {s:Shared} {a C dx:Addr} {fs:List (Str×V)} {f:Str} {v:V} {A:Around} {E:Value->Shared->Prop}
theorem Wm{b:Bool}{Q:Value->Shared->Prop}(I:Inv X pins σ H s)(e:H a=some (.ins C dx fs))(c:Cls X.K C)(n:yI X.K C f)(l:fs.lookup f=some v)
    (h:∀u s',Inv X pins σ H s'->jl v u->Q u s'):wpAny (model X.prog X.w) A (getAttr (.ref a) f b) Q E s:=by
  obtain⟨mA,O,r,_,_,_⟩:=gJ I.hok e
  obtain⟨u,hu,ru⟩:=Z_.some_of (v:=v) (o:=mA f) (by rw[<-l]; exact r f)
  exact A0 I.kIn O (c.get f) c.hd n hu (qw ru) (h u _ (I.tok _) ru)
theorem Wn{m:Str}{g:Addr}{pl:Sem Bool}{Q:Value×List Value->Shared->Prop}(I:Inv X pins σ H s)(e:H a=some (.ins C dx fs))(c:Cls X.K C)(k:Meth X.K C m g)(l:fs.lookup m=none)
    (h:Q (.ref g,[.ref a]) s):wpAny (model X.prog X.w) A (getMethod (.ref a) m pl) Q E s:=by
  obtain⟨mA,O,r,_,_,_⟩:=gJ I.hok e
  have hn:mA m=none:=Z_.none_of (by rw[<-l]; exact r m)
  exact xg I.kIn O (c.get m) k.at_ k.fn hn h
theorem Wo{y:V}{u:Value}{Q:Unit->Shared->Prop}(I:Inv X pins σ H s)(e:H a=some (.ins C dx fs))(c:Cls X.K C)(n:yI X.K C f)(hl:fs.length < 1000)(ry:jl y u)
    (h:∀s',Inv X pins σ (upd H a (.ins C dx (yw f y fs))) s'->Q () s'):wpAny (model X.prog X.w) A (setAttr (.ref a) f u) Q E s:=by
  obtain⟨mA,O,r,wi,_,ho⟩:=gJ I.hok e
  have hz:(fs.map (·.1)).length<=sizeLine:=by rw[List.length_map,sizeLine_eq]; omega
  refine A1 I.kIn O c.sa c.po n.taker c.hd wi hz fun h' O' sb=>h _ ?_
  have hd:∃o,h'.get? dx=some o:=let ⟨o,_,_,e',_⟩:=O'.ns; ⟨o,e'⟩
  refine I.write (x:=a) (e:=dx) (by rw[e]; exact True.intro) (.inr ho) (fun b q hb z=>(sb.2 b hb).trans z) hd ?_
  refine⟨by rw[jm O.ne]; exact ho,?_,O.ne,O'.obj,_,O'.ns,fun g=>?_,fun g hg=>?_⟩
  · have:=uW f y fs; omega
  · show Z_ ((yw f y fs).lookup g) (if g=f then some u else mA g)
    rw[uV]
    by_cases q:g=f
    · rw[if_pos q,if_pos q]; exact ry
    · rw[if_neg q,if_neg q]; exact r g
  · by_cases q:g=f
    · rw[q]; exact(VH f y fs).1
    · refine(VH f y fs).2 g (wi g fun z=>hg ?_)
      show(if g=f then some u else mA g)=none
      rw[if_neg q]; exact z
theorem Inv.made(I:Inv X pins σ H s):Inv X pins σ (upd (upd H s.heap.objs.size (.own (s.heap.objs.size + 1))) (s.heap.objs.size + 1) (.ins C s.heap.objs.size []))
    { s with heap:=(s.heap.push PySem.W.emptyDict).push (PySem.W.instObj C s.heap.objs.size) }:=by
  have e1:(s.heap.push PySem.W.emptyDict).get? s.heap.objs.size=some PySem.W.emptyDict:=Heap.get?_push_size s.heap rfl
  have e2:((s.heap.push PySem.W.emptyDict).push (PySem.W.instObj C s.heap.objs.size)).get? (s.heap.objs.size + 1)=some (PySem.W.instObj C s.heap.objs.size):=by
    have:=Heap.get?_push_size (s.heap.push PySem.W.emptyDict) (o:=PySem.W.instObj C s.heap.objs.size) rfl
    rwa [Heap.size_push]at this
  have e3:(s.heap.push PySem.W.emptyDict).Ns s.heap.objs.size (fun _=>none):=⟨PySem.W.emptyDict,#[],_,e1,rfl,(fun e he=>absurd he (by simp)),fun _=>rfl⟩
  have I1:=I.laid (a:=s.heap.objs.size) (o:=.own (s.heap.objs.size + 1)) (h':=s.heap.push PySem.W.emptyDict) (t':=s.toks) (fun b u q=>Heap.get?_push_of_some _ q) (Nat.le_refl _) ⟨_,e1⟩
  refine I1.laid (a:=s.heap.objs.size + 1) (o:=.ins C s.heap.objs.size []) (t':=s.toks) (fun b u q=>Heap.get?_push_of_some _ q) (Nat.le_of_eq (Heap.size_push _ _)) ?_
  have ne:s.heap.objs.size≠s.heap.objs.size + 1:=Nat.ne_of_lt (Nat.lt_succ_self _)
  refine⟨by rw[jm ne,J7],Nat.zero_le _,ne,e2,fun _=>none,(Heap.Ns1.of_empty e3).at fun o q=>Heap.get?_push_of_some _ q,fun _=>True.intro,fun y hy=>absurd rfl hy⟩
theorem uA{prog:Program}{w:World}{env:Env}{e:Expr}{f:Str}{pos:Pos}{s:Shared}{Q:Value->Shared->Prop}(hb:attributeBase e f env (eval e env)=eval e env)
    (h:wpAny (model prog w) A (eval e env) (fun o s₁=>wpAny (model prog w) A (getAttr o f true) Q E s₁) E s):wpAny (model prog w) A (eval (.Attribute e f pos) env) Q E s:=
  Attribute_any_ h (by rw[arm_eval_Attribute,hb])
end
noncomputable def EI(K:PySem.W.Frag)(ta:TE)(f:Str):TE:=fun σ H Q=>ta σ H fun x H1=>∃a C dx fs v,x=.ref a/\H1 a=some (.ins C dx fs)/\Cls K C/\yI K C f/\fs.lookup f=some v/\Q v H1
noncomputable def B4(K:PySem.W.Frag)(ta tv:TE)(f:Str):TS:=fun D σ H=>tv σ H fun y H1=>ta σ H1 fun x H2=>∃a C dx fs,x=.ref a/\H2 a=some (.ins C dx fs)/\Cls K C/\yI K C f/\fs.length < 1000/\
  D.nx σ (upd H2 a (.ins C dx (yw f y fs)))
section
variable {X:Cx} {o e value:Expr} {f:Str} {pos pos' tpos:Pos} {ta tv:TE}
theorem B5(he:PE X e ta)(hb:attributeBase e f X.env (eval e X.env)=eval e X.env):PE X (.Attribute e f pos) (EI X.K ta f):=by
  intro pins s σ H Q I h
  refine uA hb (jp (he pins s σ H _ I h) fun u s1 ⟨x,H1,I1,rx,a,C,dx,fs,v,ex,ea,c,n,l,q⟩=>?_)
  subst ex
  obtain rfl:u=Value.ref a:=rx
  exact Wm I1 ea c n l fun u' s2 I2 ru=>⟨v,H1,I2,ru,q⟩
theorem B6(ha:PE X o ta)(hv:PE X value tv)(hs:swapsWith value (some (.Attribute o f pos')) pos.line X.env=pure false):PS X (.Assign [.Attribute o f pos'] value pos) (B4 X.K ta tv f):=by
  intro pins s σ H D I h
  refine plainObj_wpAny_Assign_Attribute (jp (hv pins s σ H _ I h) fun u s1 ⟨y,H1,I1,ry,q⟩=>jp (ha pins s1 σ H1 _ I1 q) fun ov s2 ⟨x,H2,I2,rx,a,C,dx,fs,ex,ea,c,n,l,q2⟩=>?_) hs
  subst ex
  obtain rfl:ov=Value.ref a:=rx
  exact Wo I2 ea c n l ry fun s3 I3=>⟨σ,_,I3,q2⟩
end
end L2
namespace L2
open PySem PySem.Spec PyProof.Rows
structure Room (k:Nat) (A:Around):Prop where
  hd:A.handled=none
  dp:A.depth + 3 * k + 5 < recursionLimit
  un:A.units + 16 * k + 200 < cLine
theorem Room.mono{j k:Nat}{A:Around}(r:Room k A)(h:j<=k):Room j A:=⟨r.hd,by have:=r.dp; omega,by have:=r.un; omega⟩
theorem Room.deeper{k:Nat}{A:Around}(r:Room (k + 1) A)(env:Env):Room k (A.deeper env):=
  ⟨r.hd,by have:=r.dp; show A.depth + 1 + 3 * k + 5 < _; omega,by have:=r.un; show A.units + 3 + 16 * k + 200 < _; omega⟩
theorem Wp{A:Around}{C:Addr}{us:List Value}{kw:List (Str×Value)}:(A.under (.builtin "type.__call__" ⟨.ref C :: us,kw⟩)).depth=A.depth + 1:=by
  first | rfl | simp[Around.under,Code.weight,Code.isCreation,Code.isGuard,Code.isCaller,Code.frames,Code.isFrame,guardIds]
theorem Wq{A:Around}{C:Addr}{us:List Value}{kw:List (Str×Value)}:(A.under (.builtin "type.__call__" ⟨.ref C :: us,kw⟩)).units=A.units + 1:=by
  first | rfl | simp[Around.under,Code.cUnits,Code.frames,Code.isFrame]
theorem Room.make{k:Nat}{A:Around}(r:Room (k + 1) A)(C:Addr)(us:List Value)(kw:List (Str×Value)):Room k (A.under (.builtin "type.__call__" ⟨.ref C :: us,kw⟩)):=
  ⟨r.hd,by have:=r.dp; rw[Wp]; omega,by have:=r.un; rw[Wq]; omega⟩
theorem Room.depth{k:Nat}{A:Around}(r:Room k A):A.depth < recursionLimit:=by have:=r.dp; omega
theorem Room.units{k:Nat}{A:Around}(r:Room k A):A.units + 64 < cLine:=by have:=r.un; omega
noncomputable def gK:TA:=fun _ H Q=>Q [] H
noncomputable def uB(ta:TE)(tr:TA):TA:=fun σ H Q=>ta σ H fun x H1=>tr σ H1 fun xs H2=>Q (x :: xs) H2
section
variable {X:Cx} {e:Expr} {es:List Expr} {te:TE} {t:TA} {pos:Pos}
theorem Y9:PA X [] gK:=fun _ _ _ _ H Q I h=>Calls.spliced_nil ⟨[],H,I,.nil,h⟩
theorem Jd(ha:PE X e te)(hr:PA X es t)(hs:starEach (e :: es) X.env=(false,eval e X.env) :: starEach es X.env:=by rfl):PA X (e :: es) (uB te t):=by
  intro pos pins s σ H Q I h
  rw[hs]
  show wpAny _ _ (spliced ((false,eval e X.env) :: backTo pos (starEach es X.env))) _ _ s
  refine Calls.spliced_cons (jp (ha pins s σ H _ I h) fun u s1 ⟨x,H1,I1,r1,q1⟩=>?_)
  exact jp (hr pos pins s1 σ H1 _ I1 q1) fun us s2 ⟨xs,H2,I2,r2,q2⟩=>⟨x :: xs,H2,I2,.cons r1 r2,q2⟩
noncomputable def EJ(t:TA):TE:=fun σ H Q=>t σ H fun xs H1=>xs.length<=sizeLine/\∀p,H1 p=none->Q (.ref p) (upd H1 p (.tup xs))
noncomputable def EK(t:TA):TE:=fun σ H Q=>t σ H fun xs H1=>xs.length<=sizeLine/\∀p,H1 p=none->Q (.ref p) (upd H1 p (.lst xs))
theorem B7{x1}(h:PA X es t):PE X (.Tuple es x1 pos) (EJ t):=by
  intro pins s σ H Q I hq
  refine wpAny_Tuple_spliced (jp (h pos pins s σ H _ I hq) fun us s1 ⟨xs,H1,I1,r,z,q⟩=>⟨by rw[<-r.length]; exact z,?_⟩)
  have hf:H1 s1.heap.objs.size=none:=I1.hok.fresh (Nat.le_refl _)
  refine⟨.ref s1.heap.objs.size,upd H1 s1.heap.objs.size (.tup xs),I1.laid (t':=s1.toks) (fun b u e=>Heap.get?_push_of_some _ e) (Nat.le_refl _) ?_,rfl,q _ hf⟩
  exact⟨z,us,r,⟨_,Heap.get?_push_size _ rfl,rfl,_,rfl⟩⟩
theorem B8(h:PA X es t):PE X (.List es pos) (EK t):=by
  intro pins s σ H Q I hq
  refine wpAny_List_spliced (jp (h pos pins s σ H _ I hq) fun us s1 ⟨xs,H1,I1,r,z,q⟩=>⟨by rw[<-r.length]; exact z,?_⟩)
  have hf:H1 s1.heap.objs.size=none:=I1.hok.fresh (Nat.le_refl _)
  refine⟨.ref s1.heap.objs.size,upd H1 s1.heap.objs.size (.lst xs),I1.laid (t':=s1.toks) (fun b u e=>Heap.get?_push_of_some _ e) (Nat.le_refl _) ?_,rfl,q _ hf⟩
  exact⟨z,us,0,r,Heap.get?_push_size _ rfl⟩
end
noncomputable abbrev Sp:=List V->Hp->VK->XK->Prop
noncomputable abbrev VI:=List Env->Hp->Shared->XK->Value->Shared->Prop
structure Env0 (P:Program) (w:World) (K:PySem.W.Frag) (mg:Str->Option Value) (base:Heap) (A:Around) (outer:List Env) (s:Shared) (H:Hp):Prop where
  frames:A.frames=some outer
  mod:Mod K mg base
  bs:∀b o,base.get? b=some o->s.heap.get? b=some o/\H b=none
  bsz:base.objs.size<=s.heap.objs.size
  funs:s.heap.FunFrames base outer
  frf:∀b∈Vj outer,H b=none
  hok:JT P w H s.heap
  bare:AllBare s.gens
noncomputable def CE(outer:List Env)(P:Program)(w:World)(H:Hp)(s:Shared)(Q:VK)(u:Value)(s':Shared):Prop:=
  ∃v H',s'.os=s.os/\AllBare s'.gens/\Un (Vj outer) [] H H' s.heap s'.heap/\JT P w H' s'.heap/\jl v u/\Q v H'
noncomputable def CR(CX:VI)(outer:List Env)(P:Program)(w:World)(H:Hp)(s:Shared)(Q:VK)(E:XK)(r:Result)(s':Shared):Prop:=
  match r with
  | .ok (.ret u)=>CE outer P w H s Q u s'
  | .ok _=>False
  | .error e=>CX outer H s E e s'
structure FnOk (P:Program) (w:World) (K:PySem.W.Frag) (mg:Str->Option Value) (base:Heap) (CX:VI) (k:Nat) (f:Addr) (fd:FuncData) (ps:List Str) (sp:Sp):Prop where
  len:∀vs H Q E,sp vs H Q E->vs.length=ps.length
  run:∀(A:Around) (outer:List Env) (s:Shared) (H:Hp) (args:Args) (us:List Value) (vs:List V) (Q:VK) (E:XK),Room k A->Env0 P w K mg base A outer s H->BindsTo s fd args (ps.zip us)->jd vs us->sp vs H Q E->
    codeAny (model P w) A (.call (.ref f) args) (CR CX outer P w H s Q E) s
theorem FnOk.imp{P:Program}{w:World}{K:PySem.W.Frag}{mg:Str->Option Value}{base:Heap}{CX:VI}{k:Nat}{f:Addr}{fd:FuncData}{ps:List Str}{sp sp':Sp}(F:FnOk P w K mg base CX k f fd ps sp)
    (h:∀vs H Q E,sp' vs H Q E->sp vs H Q E):FnOk P w K mg base CX k f fd ps sp':=
  ⟨fun vs H Q E q=>F.len vs H Q E (h _ _ _ _ q),fun A outer s H args us vs Q E hr he hb hv hs=>F.run A outer s H args us vs Q E hr he hb hv (h _ _ _ _ hs)⟩
theorem Env0.make{P:Program}{w:World}{K:PySem.W.Frag}{mg:Str->Option Value}{base:Heap}{A:Around}{outer:List Env}{s:Shared}{H:Hp}(e:Env0 P w K mg base A outer s H)(C:Addr)(us:List Value)(kw:List (Str×Value)):
    Env0 P w K mg base (A.under (.builtin "type.__call__" ⟨.ref C :: us,kw⟩)) outer s H:=⟨by first | exact e.frames | (simpa[Around.under,Code.envs,Code.isFrame,pushEnvs]using e.frames),e.mod,e.bs,e.bsz,e.funs,e.frf,e.hok,e.bare⟩
section
variable {X:Cx} {pins:List (Addr×Obj)} {σ:St} {H:Hp} {s s':Shared}
theorem Inv.env0(I:Inv X pins σ H s):Env0 X.prog X.w X.K X.mg X.base X.A X.stack s H:=
  ⟨I.ok.frames,I.ok.mod,I.bs,Nat.le_trans I.ok.bsz I.sz,I.stack,I.stkFree,I.hok,I.bare⟩
theorem Inv.after{Q:VK}{u:Value}(I:Inv X pins σ H s)(h:CE X.stack X.prog X.w H s Q u s'):EP X pins σ Q u s':=by
  obtain⟨v,H',os,bare,un,hok,r,q⟩:=h
  obtain⟨hh,g,d,t,os'⟩:=s'
  obtain rfl:os'=s.os:=os
  exact⟨v,H',I.call (h':=hh) (g':=g) (d':=d) (t':=t) (ch:=[]) un hok bare (fun b z=>absurd z (by simp)),r,q⟩
end
noncomputable def Xw(sp:Sp)(dvs:List V)(E:XK)(t:TA):TE:=fun σ H Q=>t σ H fun vs H1=>sp (vs ++ dvs) H1 Q E
noncomputable def Xx(C:Addr)(m:Str)(sp:Sp)(dvs:List V)(E:XK)(ta:TE)(t:TA):TE:=fun σ H Q=>ta σ H fun x H1=>∃a dx fs,x=.ref a/\H1 a=some (.ins C dx fs)/\fs.lookup m=none/\
  t σ H1 fun vs H2=>sp (x :: (vs ++ dvs)) H2 Q E
noncomputable def Xy(C:Addr)(sp:Sp)(dvs:List V)(E:XK)(t:TA):TE:=fun σ H Q=>t σ H fun vs H1=>∀x dx,H1 x=none->H1 dx=none->dx≠x->
  sp (.ref x :: (vs ++ dvs)) (upd (upd H1 dx (.own x)) x (.ins C dx [])) (fun v H2=>v=.non/\Q (.ref x) H2) E
noncomputable def Yp(K:PySem.W.Frag)(fd:FuncData)(ps:List Str)(ds:List Value):Prop:=
  ∀(s:Shared) (us:List Value),K.In s.heap->(us ++ ds).length=ps.length->BindsTo s fd ⟨us,[]⟩ (ps.zip (us ++ ds))
theorem Yp.all{K:PySem.W.Frag}{fd:FuncData}{ps:List Str}(h:∀us:List Value,us.length=ps.length->bindArgs fd ⟨us,[]⟩=pure (ps.zip us)):Yp K fd ps []:=fun s us _ hl=>by
  rw[List.append_nil]at hl⊢
  exact .of_eq (h us hl)
noncomputable def vE(CX:VI)(X:Cx)(E:XK):Prop:=∀(pins:List (Addr×Obj)) (σ:St) (H:Hp) (s:Shared) (e:Value) (s':Shared),Inv X pins σ H s->CX X.stack H s E e s'->X.xe e s'
section
variable {X:Cx} {CX:VI} {k:Nat} {f C:Addr} {fd:FuncData} {ps:List Str} {sp:Sp} {dvs:List V} {ds:List Value} {E:XK} {x m:Str} {p pos apos:Pos} {e o:Expr} {es:List Expr} {ta:TE} {t:TA}
theorem qx{pins:List (Addr×Obj)}{σ:St}{H:Hp}{s:Shared}{Q:VK}{us:List Value}{vs:List V}(F:FnOk X.prog X.w X.K X.mg X.base CX k f fd ps sp)(hr:Room k X.A)(hb:Yp X.K fd ps ds)(hd:jd dvs ds)(hx:vE CX X E)
    (I:Inv X pins σ H s) (r:jd vs us) (h:sp (vs ++ dvs) H Q E):wpAny (model X.prog X.w) X.A (call (.ref f) us) (EP X pins σ Q) X.xe s:=by
  have r2:jd (vs ++ dvs) (us ++ ds):=r.append hd
  have hl:(us ++ ds).length=ps.length:=by rw[<-r2.length]; exact F.len _ _ _ _ h
  refine wpAny_call (codeAny_mono (F.run X.A X.stack s H ⟨us,[]⟩ (us ++ ds) (vs ++ dvs) Q E hr I.env0 (hb s us I.kIn hl) r2 h) fun r s' hq=>?_)
  cases r with
  | error e=>exact hx pins σ H s e s' I hq
  | ok fl=>
    cases fl with
    | ret u=>exact I.after hq
    | next=>exact False.elim hq
    | brk=>exact False.elim hq
    | cont=>exact False.elim hq
theorem A2(F:FnOk X.prog X.w X.K X.mg X.base CX k f fd ps sp)(hr:Room k X.A)(hg:Gl X x)(hm:X.mg x=some (.ref f))(hk:PySem.W.keepIn X.K (.ref f)=true)(hb:Yp X.K fd ps ds)(hd:jd dvs ds)(hx:vE CX X E)
    (ha:PA X (e :: es) t) (hdb:(x == ("__debug__" : Str))=false:=by decide) (he:starEach (e :: es) X.env=(false,eval e X.env) :: starEach es X.env:=by rfl) (hpl:(backTo pos (starEach es X.env)).any (·.1)=false:=by rfl):
    PE X (.Call (.Name x p) (e :: es) [] pos) (Xw sp dvs E t):=by
  intro pins s σ H Q I h
  refine wpAny_Call_Name_kw (gG I hg hm ?_ hdb)
  refine PySem.W.callWith_K (h₀:=X.base) I.ok.mod.kin hk (jp (ha pos pins s σ H _ I h) fun us s1 ⟨vs,H1,I1,r,q⟩=>⟨I1.kIn,?_⟩) he hpl
  exact qx F hr hb hd hx I1 r q
theorem xi{pl:Sem Bool}(he:PE X o ta)(c:Cls X.K C)(hm:Meth X.K C m f)(F:FnOk X.prog X.w X.K X.mg X.base CX k f fd ps sp)(hr:Room k X.A)(hb:Yp X.K fd ps ds)(hd:jd dvs ds)(hx:vE CX X E)
    (ht:eval (.Call (.Attribute o m apos) [] [] pos) X.env=(do
      let ov<-eval o X.env
      standAt apos.atName
      let (f,first)<-holding [ov] (getMethod ov m pl)
      callWith pos f first (backTo pos (starEach [] X.env)) (backToKw pos (keywordEach [] X.env))):=by rfl):
    PE X (.Call (.Attribute o m apos) [] [] pos) (Xx C m sp dvs E ta gK):=by
  intro pins s σ H Q I h
  refine PySem.W.methodCall_KW (pl:=pl) (jp (he pins s σ H _ I h) fun u s1 ⟨x,H1,I1,rx,a,dx,fs,ex,ea,l,q⟩=>?_) ht
  subst ex
  obtain rfl:u=Value.ref a:=rx
  refine Wn I1 ea c hm l ?_
  exact PySem.W.callWith_K0 (first:=[.ref a]) I1.kIn hm.kp (qx (us:=[.ref a]) (vs:=[.ref a]) F hr hb hd hx I1 (.cons rfl .nil) q)
structure Mk (K:PySem.W.Frag) (C f:Addr):Prop where
  makes:PySem.W.makesIn K C=true
  init:PySem.W.findIn K (.ref C) "__init__" = some (some (.ref f))
  fn:PySem.W.isFn K (.ref f)=true
  kp:PySem.W.keepIn K (.ref C)=true
theorem xj{pins:List (Addr×Obj)}{σ:St}{H:Hp}{s:Shared}{Q:VK}{us:List Value}{vs:List V}(M:Mk X.K C f)(F:FnOk X.prog X.w X.K X.mg X.base CX k f fd ps sp)(hr:Room (k + 1) X.A)(hb:Yp X.K fd ps ds)(hd:jd dvs ds)
    (hx:vE CX X E) (I:Inv X pins σ H s) (r:jd vs us)
    (h:∀x dx,H x=none->H dx=none->dx≠x->sp (.ref x :: (vs ++ dvs)) (upd (upd H dx (.own x)) x (.ins C dx [])) (fun v H2=>v=.non/\Q (.ref x) H2) E):
    wpAny (model X.prog X.w) X.A (call (.ref C) us) (EP X pins σ Q) X.xe s:=by
  have hq:=h (s.heap.objs.size + 1) s.heap.objs.size (I.hok.fresh (Nat.le_succ _)) (I.hok.fresh (Nat.le_refl _)) (Nat.ne_of_lt (Nat.lt_succ_self _))
  have I2:=Inv.made (C:=C) I
  have r2:jd (V.ref (s.heap.objs.size + 1) :: (vs ++ dvs)) (Value.ref (s.heap.objs.size + 1) :: (us ++ ds)):=.cons rfl (r.append hd)
  have hl:(Value.ref (s.heap.objs.size + 1) :: us ++ ds).length=ps.length:=by
    have e:=r2.length
    rw[F.len _ _ _ _ hq]at e
    exact e.symm
  refine wpAny_call (xh (f:=f) I.kIn M.makes M.init (beq_iff_eq.mp M.fn) (codeAny_mono (F.run _ X.stack _ _ ⟨Value.ref (s.heap.objs.size + 1) :: us,[]⟩ (Value.ref (s.heap.objs.size + 1) :: (us ++ ds)) _ _ E (hr.make C us [])
    (I2.env0.make C us []) (hb _ (Value.ref (s.heap.objs.size + 1) :: us) I2.kIn hl) r2 hq) fun r s' hq'=>?_))
  cases r with
  | error e=>exact hx pins σ _ _ e s' I2 hq'
  | ok fl=>
    cases fl with
    | ret u=>
      obtain⟨v,H',I3,rv,ev,q3⟩:=I2.after hq'
      subst ev
      exact⟨rv,⟨V.ref (s.heap.objs.size + 1),H',I3,rfl,q3⟩⟩
    | next=>exact False.elim hq'
    | brk=>exact False.elim hq'
    | cont=>exact False.elim hq'
theorem A3(M:Mk X.K C f)(F:FnOk X.prog X.w X.K X.mg X.base CX k f fd ps sp)(hr:Room (k + 1) X.A)(hg:Gl X x)(hm:X.mg x=some (.ref C))(hb:Yp X.K fd ps ds)(hd:jd dvs ds)(hx:vE CX X E)
    (ha:PA X (e :: es) t) (hdb:(x == ("__debug__" : Str))=false:=by decide) (he:starEach (e :: es) X.env=(false,eval e X.env) :: starEach es X.env:=by rfl) (hpl:(backTo pos (starEach es X.env)).any (·.1)=false:=by rfl):
    PE X (.Call (.Name x p) (e :: es) [] pos) (Xy C sp dvs E t):=by
  intro pins s σ H Q I h
  refine wpAny_Call_Name_kw (gG I hg hm ?_ hdb)
  refine PySem.W.callWith_K (h₀:=X.base) I.ok.mod.kin M.kp (jp (ha pos pins s σ H _ I h) fun us s1 ⟨vs,H1,I1,r,q⟩=>⟨I1.kIn,?_⟩) he hpl
  exact xj M F hr hb hd hx I1 r q
end
structure FnScope (N P:List Str) (sc:Scope):Prop where
  kind:sc.kind=.function
  co:sc.isCoroutine=false
  gen:sc.isGenerator=false
  nd:N.Nodup
  pre:N.take P.length=P
  par:∀x∈P,sc.names.lookup x=some .local∨sc.names.lookup x=some .cell
  nofree:∀y∈sc.names,y.2≠.free
theorem Gu{kindOf:Str->Option NameKind}{x:Str}:∀{binds:List (Str×Value)} {m:Str->Option Value},(∀v,(x,v)∉binds)->bindL kindOf binds m x=m x
  | [],_,_=>rfl
  | (n,v) :: r,m,h=>by
    unfold bindL
    rw[Gu fun w hw=>h w (List.mem_cons_of_mem _ hw)]
    split
    · have:x≠n:=by rintro rfl; exact h v List.mem_cons_self
      simp[this]
    · rfl
theorem Gv{kindOf:Str->Option NameKind}{x:Str}:∀{binds:List (Str×Value)} {m:Str->Option Value},(∀v,(x,v)∉binds)->bindC kindOf binds m x=m x
  | [],_,_=>rfl
  | (n,v) :: r,m,h=>by
    unfold bindC
    rw[Gv fun w hw=>h w (List.mem_cons_of_mem _ hw)]
    split
    · rfl
    · have:x≠n:=by rintro rfl; exact h v List.mem_cons_self
      simp[this]
theorem Gw{kindOf:Str->Option NameKind}{x:Str}{v:Value}:∀{P:List Str} {vs:List Value} {i:Nat} {m:Str->Option Value},P.Nodup->P[i]?=some x->vs[i]?=some v->kindOf x=some .local->
    bindL kindOf (P.zip vs) m x=some v
  | [],_,_,_,_,h,_,_=>by simp at h
  | _ :: _,[],_,_,_,_,h,_=>by simp at h
  | p :: P,w :: vs,0,m,nd,h1,h2,hk=>by
    simp at h1 h2; subst h1; subst h2
    show bindL kindOf ((p,w) :: P.zip vs) m p=_
    unfold bindL
    rw[Gu fun v hv=>(List.nodup_cons.mp nd).1 (List.of_mem_zip hv).1,if_pos hk]
    simp
  | p :: P,w :: vs,i + 1,m,nd,h1,h2,hk=>by
    show bindL kindOf ((p,w) :: P.zip vs) m x=_
    unfold bindL
    exact Gw (i:=i) (List.nodup_cons.mp nd).2 (by simpa using h1) (by simpa using h2) hk
theorem Gx{kindOf:Str->Option NameKind}{x:Str}{v:Value}:∀{P:List Str} {vs:List Value} {i:Nat} {m:Str->Option Value},P.Nodup->P[i]?=some x->vs[i]?=some v->kindOf x≠some .local->
    bindC kindOf (P.zip vs) m x=some v
  | [],_,_,_,_,h,_,_=>by simp at h
  | _ :: _,[],_,_,_,_,h,_=>by simp at h
  | p :: P,w :: vs,0,m,nd,h1,h2,hk=>by
    simp at h1 h2; subst h1; subst h2
    show bindC kindOf ((p,w) :: P.zip vs) m p=_
    unfold bindC
    rw[Gv fun v hv=>(List.nodup_cons.mp nd).1 (List.of_mem_zip hv).1,if_neg hk]
    simp
  | p :: P,w :: vs,i + 1,m,nd,h1,h2,hk=>by
    show bindC kindOf ((p,w) :: P.zip vs) m x=_
    unfold bindC
    exact Gx (i:=i) (List.nodup_cons.mp nd).2 (by simpa using h1) (by simpa using h2) hk
noncomputable def Yq(N:List Str)(vs:List V):St:=vs.map some ++ List.replicate (N.length - vs.length) none
noncomputable def Ze(CX:VI)(P:Program)(w:World)(K:PySem.W.Frag)(mg:Str->Option Value)(base:Heap)(N:List Str)(qual:Str)(scope:Scope)(f:Addr)(cd:Value)(A:Around)(outer:List Env)(s:Shared)(H:Hp)(E:XK):Cx where
  prog:=P
  w:=w
  K:=K
  mg:=mg
  base:=base
  A:=A.deeper (envOfC qual scope s.heap.objs.size f cd)
  N:=N
  s₀:=s
  H₀:=H
  env:=envOfC qual scope s.heap.objs.size f cd
  outer:=outer
  stack:=envOfC qual scope s.heap.objs.size f cd :: outer
  ex:=[]
  calm:=true
  fn:=fun _=>true
  pn:=[]
  xe:=fun e s'=>wpAny (model P w) (A.deeper (envOfC qual scope s.heap.objs.size f cd)) (leaving (envOfC qual scope s.heap.objs.size f cd) e) (fun _ s''=>CX outer H s E e s'') (fun e' s''=>CX outer H s E e' s'') s'
theorem kz{sc:Scope}{n:Nat}{x:Str}(h:sc.names.lookup x=some .cell):∃c,(cellsFrom n sc.names []).lookup x=some c:=by
  have q:=PySem.W.cellsFrom_some sc.names n [] (.inl h)
  exact Option.isSome_iff_exists.mp q
theorem qy{CX:VI}{P:Program}{w:World}{K:PySem.W.Frag}{mg:Str->Option Value}{base:Heap}{N ps:List Str}{qual:Str}{scope:Scope}{f:Addr}{cd:Value}{A:Around}{outer:List Env}{s s1:Shared}{H:Hp}{E:XK}{us:List Value}{vs:List V}
    (S:FnScope N ps scope) (hd:A.handled=none) (e0:Env0 P w K mg base A outer s H) (hl:vs.length=ps.length) (r:jd vs us)
    (x:InCallC s s.heap.objs.size (bindL (envOfC qual scope s.heap.objs.size f cd).kindOf (ps.zip us) fun _=>none) (cellsFrom (s.heap.objs.size + 1) scope.names []) (bindC (envOfC qual scope s.heap.objs.size f cd).kindOf (ps.zip us) fun _=>none) s1):
    Inv (Ze CX P w K mg base N qual scope f cd A outer s H E) [] (Yq N vs) H s1:=by
  have hpl:ps.length<=N.length:=by have:=congrArg List.length S.pre; rw[List.length_take]at this; omega
  obtain⟨h1,tk,rfl,hk⟩:=x.done
  have noA:∀b:Addr,b∉(Ze CX P w K mg base N qual scope f cd A outer s H E).ex:=fun b z=>absurd (show b∈([]:List Addr) from z) (by simp)
  refine⟨⟨e0.mod,S.kind,rfl,rfl,Nat.le_refl _,fun y z c h1 h2=>?_,fun y hy=>?_,fun y c _ h=>?_,fun _=>hd,Around.frames_deeper e0.frames,.inr ⟨rfl,rfl⟩,fun b z=>absurd z (noA b),e0.bs,e0.bsz,fun b _ _=>noA b,fun b z=>absurd z (noA b),e0.funs,e0.frf⟩,
    rfl,e0.bare,Un.kept hk,⟨_,x.toInCall.ns,fun i y v h1 h2 h3=>?_⟩,fun y c h=>⟨_,x.cell y c h⟩,e0.hok.fresh (Nat.le_refl _),fun y c h=>?_,fun p hp=>absurd (show p∈([]:List (Addr×Obj)) from hp) (by simp),e0.hok.kept hk,?_⟩
  · exact name_of_addr x.apart (PySem.mem_of_lookup h1) (PySem.mem_of_lookup h2)
  · have hy:scope.names.lookup y=some .cell∨scope.names.lookup y=some .free:=hy
    rcases hy with hy | hy
    · exact kz hy
    · exact absurd rfl (S.nofree _ (PySem.mem_of_lookup hy))
  · exact Nat.le_of_lt (x.above y c (PySem.mem_of_lookup h))
  · have hi:i < vs.length:=by
      unfold Yq at h2
      by_cases hi:i < vs.length
      · exact hi
      · rw[List.getElem?_append_right (by simpa using hi)]at h2
        rw[List.getElem?_replicate]at h2
        split at h2 <;> cases h2
    have ha:vs[i]?=some v:=by
      unfold Yq at h2
      rw[List.getElem?_append_left (by simpa using hi),List.getElem?_map]at h2
      cases e:vs[i]? with
      | none=>rw[e]at h2; cases h2
      | some a=>rw[e]at h2; cases h2; rfl
    obtain⟨u,hu,rv⟩:=r.get ha
    have hp:ps[i]?=some y:=by
      rw[<-S.pre,List.getElem?_take_of_lt (by omega)]; exact h1
    have ndP:ps.Nodup:=by rw[<-S.pre]; exact S.nd.sublist (List.take_sublist _ _)
    refine⟨u,rv,?_⟩
    rcases S.par y (List.mem_of_getElem? hp)with k | k
    · exact .inl ⟨k,Gw ndP hp hu k⟩
    · obtain⟨c,e⟩:=kz (n:=s.heap.objs.size + 1) k
      refine .inr ⟨.inl k,c,e,?_⟩
      have q:=x.cell y c e
      rw[Gx ndP hp hu (by show scope.names.lookup y≠_; rw[k]; decide)]at q
      exact q
  · exact e0.hok.fresh (Nat.le_of_lt (x.above y c (PySem.mem_of_lookup h)))
  · unfold Yq
    show _=N.length
    rw[List.length_append,List.length_map,List.length_replicate]
    omega
theorem Dj{CX:VI}{P:Program}{w:World}{K:PySem.W.Frag}{mg:Str->Option Value}{base:Heap}{k:Nat}{f:Addr}{name qual:Str}{params:Arguments}{body:List Stmt}{scope:Scope}{dV kV doc pm cdv ct oc:Value}{an od:Option Addr}
    {osl:Array (Option Value)} {N ps:List Str} {sp:Sp} (lk:K.lookup f=some ⟨oc,od,.func (PySem.W.fnOf name qual params body scope dV kV doc pm an cdv ct),osl⟩) (hcd:PySem.W.codeIn K cdv qual=true) (S:FnScope N ps scope)
    (len:∀vs H Q E,sp vs H Q E->vs.length=ps.length)
    (hbody:∀(A:Around) (outer:List Env) (s:Shared) (H:Hp) (vs:List V) (Q:VK) (E:XK),Room k (A.deeper (envOfC qual scope s.heap.objs.size f cdv))->sp vs H Q E->
      ∃t,Je (Ze CX P w K mg base N qual scope f cdv A outer s H E) body t/\t { nx:=fun _ H'=>Q .non H',rt:=Q } (Yq N vs) H):
    FnOk P w K mg base CX (k + 1) f (PySem.W.fnOf name qual params body scope dV kV doc pm an cdv ct) ps sp:=by
  refine⟨len,fun A outer s H args us vs Q E hr e0 hb r hsp=>?_⟩
  have hl:=len _ _ _ _ hsp
  have KX:K.In s.heap:=e0.mod.kin.keeps fun b o e=>(e0.bs b o e).1
  have lim:s.heap.NoLimit:=e0.mod.nolimit.keeps fun b o e=>(e0.bs b o e).1
  have hkind:∀y∈ps.zip us,scope.names.lookup y.1=some .local∨(scope.names.lookup y.1=some .cell/\((cellsFrom (s.heap.objs.size + 1) scope.names []).lookup y.1).isSome=true):=fun⟨n,v⟩ hy=>by
    rcases S.par n (List.of_mem_zip hy).1 with q | q
    · exact .inl q
    · exact .inr ⟨q,PySem.W.cellsFrom_some _ _ _ (.inl q)⟩
  refine codeAny_call_function hr.depth (KX _ _ lk) rfl S.co S.gen rfl (PySem.W.codeRec_of KX hcd) (hb _ _ _ _ ?_)
  refine wpAny_newFunctionEnv_cells S.kind hkind fun env he s1 x=>?_
  subst he
  refine⟨lim.keeps x.toInCall.keep,codeAny_func ?_⟩
  obtain⟨t,ht,hq⟩:=hbody A outer s H vs Q E (hr.deeper _) hsp
  have I:Inv (Ze CX P w K mg base N qual scope f cdv A outer s H E) [] (Yq N vs) H s1:=qy S hr.hd e0 hl r x
  refine wpAny_mono (ht [] s1 (Yq N vs) H _ I hq) (fun fl s' hs=>?_) fun e s' hs=>hs
  have fin:∀{σ':St} {H':Hp} {v:V} {u:Value},Inv (Ze CX P w K mg base N qual scope f cdv A outer s H E) [] σ' H' s'->jl v u->Q v H'->CE outer P w H s Q u s':=
    fun {σ' H' v u} J rv q=>⟨v,H',J.os,J.bare,J.base,J.hok,rv,q⟩
  cases fl with
  | ret u=>
    obtain⟨v,σ',H',J,rv,q⟩:=hs
    exact fin J rv q
  | next=>
    obtain⟨σ',H',J,q⟩:=hs
    exact fin (v:=V.non) (u:=Value.none) J rfl q
  | brk=>
    obtain⟨_,_,_,q⟩:=hs
    exact False.elim q
  | cont=>
    obtain⟨_,_,_,q⟩:=hs
    exact False.elim q
end L2
namespace L2
open PySem PySem.Spec PyProof.Rows
section
variable {X:Cx} {x:Str} {p pos:Pos} {e:Expr} {es:List Expr} {t:TA} {id T:String} {r:List V->Hp->VK->Prop}
noncomputable def qz(r:List V->Hp->VK->Prop)(t:TA):TE:=fun σ H Q=>t σ H fun vs H1=>r vs H1 Q
theorem Yh(hc:yW X (.builtin id) r)(hg:Gl X x)(hm:X.mg x=none)(hv:bootBuiltins x=some (.builtin id))(ha:PA X (e :: es) t)(hn:x≠ "__name__" := by decide)(hdb:(x == ("__debug__" : Str))=false:=by decide)
    (he:starEach (e :: es) X.env=(false,eval e X.env) :: starEach es X.env:=by rfl) (hpl:(backTo pos (starEach es X.env)).any (·.1)=false:=by rfl):PE X (.Call (.Name x p) (e :: es) [] pos) (qz r t):=by
  intro pins s σ H Q I h
  refine wpAny_Call_Name_kw (Y8 I hg hm hv ?_ hn hdb)
  exact PyProof.Rows.callWith_builtin1 (jp (ha pos pins s σ H _ I h) fun us s1 ⟨vs,H1,I1,r1,q1⟩=>hc pins s1 σ H1 vs us Q I1 r1 q1) he hpl
theorem ZM(hc:yW X (.type T) r)(hg:Gl X x)(hm:X.mg x=none)(hv:bootBuiltins x=some (.type T))(ha:PA X (e :: es) t)(hn:x≠ "__name__" := by decide)(hdb:(x == ("__debug__" : Str))=false:=by decide)
    (he:starEach (e :: es) X.env=(false,eval e X.env) :: starEach es X.env:=by rfl) (hpl:(backTo pos (starEach es X.env)).any (·.1)=false:=by rfl):PE X (.Call (.Name x p) (e :: es) [] pos) (qz r t):=by
  intro pins s σ H Q I h
  refine wpAny_Call_Name_kw (Y8 I hg hm hv ?_ hn hdb)
  exact PyProof.Rows.callWith_type1 (jp (ha pos pins s σ H _ I h) fun us s1 ⟨vs,H1,I1,r1,q1⟩=>hc pins s1 σ H1 vs us Q I1 r1 q1) he hpl
end
end L2
namespace HT
open PySem PyProof.Rows
section
open PySem.SeqAt
open PySem.AutoSeq1 (wpAny_loadPart')
open PySem.MeetsSeq PySem.MeetsSeq2 PySem.MeetsSeq3
end
section
variable {prog:Program} {w:World} {A:Around} {E:Value->Shared->Prop} {s:Shared}
theorem cat_tup{t b:Addr}{vs ws:List Value}{Q:Value->Shared->Prop}(ht:IsTup s.heap t vs.toArray)(hb:IsTup s.heap b ws.toArray)(hv:vs≠[])
    (h1:ws=[]->Q (.ref t) s) (h2:ws≠[]->Q (.ref s.heap.objs.size) { s with heap:=s.heap.push { cls:=.type "tuple",data:=.seq (vs ++ ws).toArray } })
    (hsz:vs.length + ws.length<=sizeLine):wpAny (model prog w) A (binaryOp .Add (.ref t) (.ref b)) Q E s:=by
  obtain⟨⟨cls,dd,data,sl⟩,ho,hc,n,hd⟩:=id ht
  obtain⟨⟨cls2,dd2,data2,sl2⟩,ho2,hc2,n2,hd2⟩:=id hb
  simp only at hc hd hc2 hd2
  subst hc hd hc2 hd2
  have e:vs.toArray ++ ws.toArray=(vs ++ ws).toArray:=by simp
  by_cases hw:ws=[]
  · exact concat_meets ⟨_,ho,rfl⟩ ⟨_,ho2,rfl⟩ noFill_tuple_add seq_tuple_add PySem.F.slot_tuple_add PySem.F.entry_tuple_add (PySem.F.args_tuple_add_2 _ _)
      (tuple_addW1 t b vs.toArray ws.toArray n n2 dd dd2 sl sl2 (by simpa using hv) (by simp[hw])) ⟨ho,ho2,h1 hw⟩
  · refine concat_meets ⟨_,ho,rfl⟩ ⟨_,ho2,rfl⟩ noFill_tuple_add seq_tuple_add PySem.F.slot_tuple_add PySem.F.entry_tuple_add (PySem.F.args_tuple_add_2 _ _)
      (tuple_addW2 t b vs.toArray ws.toArray n n2 dd dd2 sl sl2 (by simpa using hv) (by simpa using hw) (by rw[List.size_toArray,List.size_toArray]; exact hsz)) ⟨ho,ho2,?_⟩
    rw[e]
    exact h2 hw
noncomputable def sIx(n d:Nat):Option Int->Nat
  | none=>d
  | some v=>if v < 0 then(v + (n:Int)).toNat else min v.toNat n
theorem sIx_nat(n d k:Nat):sIx n d (some (k:Int))=min k n:=by
  show(if (k:Int) < 0 then((k:Int) + (n:Int)).toNat else min (k:Int).toNat n)=min k n
  rw[if_neg (by omega),Int.toNat_natCast]
theorem sIx_le(n d:Nat)(hd:d<=n)(o:Option Int):sIx n d o<=n:=by
  cases o with
  | none=>exact hd
  | some v=>
    show(if v < 0 then(v + (n:Int)).toNat else min v.toNat n)<=n
    by_cases hv:v < 0
    · rw[if_pos hv]; omega
    · rw[if_neg hv]; exact Nat.min_le_right _ _
theorem clip_eq(v:Int)(n d:Nat):(if v < 0 then max (v + (n:Int)) 0 else min v (n:Int))=((sIx n d (some v):Nat):Int):=by
  show(if v < 0 then max (v + (n:Int)) 0 else min v (n:Int))=(((if v < 0 then(v + (n:Int)).toNat else min v.toNat n):Nat):Int)
  by_cases hv:v < 0
  · simp only[if_pos hv]; omega
  · simp only[if_neg hv]; omega
theorem adjust_gen(lo hi:Option Int)(n:Nat):Builtin.Slice.sliceAdjust lo hi 1 (n:Int)=(((sIx n 0 lo:Nat):Int),((sIx n n hi:Nat):Int)):=by
  have h1:¬((1:Int) < 0):=by omega
  unfold Builtin.Slice.sliceAdjust
  simp only[h1,if_false]
  refine Prod.ext ?_ ?_
  · cases lo with
    | none=>rfl
    | some v=>exact clip_eq v n 0
  · cases hi with
    | none=>rfl
    | some v=>exact clip_eq v n n
theorem places_gen(i j:Nat):Builtin.Slice.slicePlaces (i:Int) (j:Int) 1=j - i:=by
  unfold Builtin.Slice.slicePlaces
  have h1:(1:Int) > 0:=by omega
  simp only[h1,if_true,Int.ediv_one]
  split <;> omega
theorem slicePart_{v:Value}{o:Option Int}{Q:Option Int->Shared->Prop}(p:IsPart v o)(h:Q o s):wpAny (model prog w) A (Builtin.Slice.slicePartIndex v) Q E s:=by
  cases p with
  | none=>exact slicePart_none h
  | int i t=>exact slicePart_int h
theorem sliceApplied_gen{sl:Addr}{vl vu:Value}{lo hi:Option Int}{n:Nat}{Q:Int×Int×Nat->Shared->Prop}(hs:s.heap.IsSliceOf sl vl vu .none)(pl:IsPart vl lo)(pu:IsPart vu hi)
    (h:Q (((sIx n 0 lo:Nat):Int),1,sIx n n hi - sIx n 0 lo) s):wpAny (model prog w) A (Builtin.Slice.sliceApplied (.ref sl) (pure (n:Int))) Q E s:=by
  obtain⟨os,hos,hcs,hds⟩:=id hs
  unfold Builtin.Slice.sliceApplied Builtin.Slice.sliceFields
  refine wpAny_bind (wpAny_bind (wpAny_field hos hds (x:=vl) rfl (wpAny_bind (wpAny_field hos hds (x:=vu) rfl (wpAny_bind (wpAny_field hos hds (x:=.none) rfl (wpAny_pure ?_)))))))
  refine wpAny_bind (slicePart_none ?_)
  show wpAny _ _ (if ((1:Int) == 0)=true then _ else _) _ _ s
  rw[if_neg (by decide)]
  refine wpAny_bind (slicePart_ pl (wpAny_bind (slicePart_ pu (wpAny_bind (wpAny_pure ?_)))))
  show wpAny _ _ (match Builtin.Slice.sliceAdjust lo hi 1 (n:Int)with | (lo,hi)=>pure (lo,(1:Int),Builtin.Slice.slicePlaces lo hi 1)) _ _ s
  rw[adjust_gen lo hi n]
  show wpAny _ _ (pure (((sIx n 0 lo:Nat):Int),(1:Int),Builtin.Slice.slicePlaces ((sIx n 0 lo:Nat):Int) ((sIx n n hi:Nat):Int) 1)) _ _ s
  rw[places_gen]
  exact wpAny_pure h
theorem pick_gen(xs:Array Value)(i k:Nat):((List.range k).filterMap fun(m:Nat)=>xs[((i:Int) + (m:Int) * 1).toNat]?).toArray=((xs.toList.drop i).take k).toArray:=by
  have e:(fun(m:Nat)=>xs[((i:Int) + (m:Int) * 1).toNat]?)=fun m=>xs[i + m]?:=by
    funext m
    have:((i:Int) + (m:Int) * 1).toNat=i + m:=by omega
    rw[this]
  rw[e]
  have:=pick_run xs i k
  rw[List.filterMap_map]at this
  have e2:((fun x=>xs[x]?)∘fun x=>i + x)=fun m=>xs[i + m]?:=rfl
  rw[e2]at this
  rw[this]
theorem getItem_tuple_cut{t sl:Addr}{items:Array Value}{vl vu:Value}{lo hi:Option Int}{Q:Value->Shared->Prop}(ht:IsTup s.heap t items)(hs:s.heap.IsSliceOf sl vl vu .none)(pl:IsPart vl lo)(pu:IsPart vu hi)
    (hw:¬(sIx items.size 0 lo=0/\sIx items.size items.size hi=items.size))
    (h:Q (.ref s.heap.objs.size) { s with heap:=s.heap.push { cls:=.type "tuple",data:=.seq ((items.toList.drop (sIx items.size 0 lo)).take (sIx items.size items.size hi - sIx items.size 0 lo)).toArray } })
    (hsz:items.size<=sizeLine):wpAny (model prog w) A (getItem (.ref t) (.ref sl)) Q E s:=by
  have htake:sizeOk (.seq ((items.toList.drop (sIx items.size 0 lo)).take (sIx items.size items.size hi - sIx items.size 0 lo)).toArray):=by
    show((items.toList.drop (sIx items.size 0 lo)).take (sIx items.size items.size hi - sIx items.size 0 lo)).toArray.size<=sizeLine
    rw[List.size_toArray,List.length_take,List.length_drop,Array.length_toList]
    omega
  have hj:sIx items.size items.size hi<=items.size:=sIx_le _ _ (Nat.le_refl _) hi
  obtain⟨os,hos,hcs,hds⟩:=id hs
  have hTs:s.TypeIs (.ref sl) "slice" := ⟨os,hos,hcs⟩
  unfold getItem
  try with_reducible refine wpAny_holding ?_
  first | refine wpAny_bind (wpAny_pure ?_) | skip
  refine wpAny_bind (wpAny_sequenceKey ht.typeIs (by decide) ?_)
  refine wpAny_bind (wpAny_callSpecial?_slot (name:=Str.ofString "__getitem__") ht.typeIs PyProof.Rows.slot_tuple_getitem
    (wpAny_call_entry PyProof.Rows.slot_tuple_getitem ht.typeIs entry_tuple_getitem ?_ (args_tuple_getitem _ _)))
  show wpAny _ _ (Builtin.Tuple.tupleItemsOf (.ref t) >>= _) _ _ s
  refine wpAny_bind (tupleItemsOf_ ht ?_)
  refine wpAny_bind (wpAny_typeOf hTs ?_)
  rw[if_pos (by decide)]
  refine wpAny_bind (sliceApplied_gen hs pl pu ?_)
  have hno:¬((((sIx items.size 0 lo:Nat):Int) == 0 && (1:Int) == 1 && (sIx items.size items.size hi - sIx items.size 0 lo) == items.size)=true):=by
    intro q
    rw[Bool.and_eq_true,Bool.and_eq_true]at q
    have q1:((sIx items.size 0 lo:Nat):Int)=0:=eq_of_beq q.1.1
    have q2:sIx items.size items.size hi - sIx items.size 0 lo=items.size:=eq_of_beq q.2
    exact hw ⟨by omega,by omega⟩
  show wpAny _ _ (if (((sIx items.size 0 lo:Nat):Int) == 0 && (1:Int) == 1 && (sIx items.size items.size hi - sIx items.size 0 lo) == items.size)=true then _ else _) _ _ s
  rw[if_neg hno,pick_gen]
  first
    | exact wpAny_bind (m:=Builtin.Tuple.tupleExact _) (wpAny_newObj_type (wpAny_pure ⟨_,rfl,wpAny_pure h⟩) htake)
    | exact wpAny_bind (m:=Builtin.Tuple.tupleExact _) (wpAny_newObj_type (wpAny_bind (wpAny_pure (wpAny_pure ⟨_,rfl,wpAny_pure h⟩))) htake)
    | exact wpAny_bind (wpAny_bind (m:=Builtin.Tuple.tupleExact _) (wpAny_newObj_type (wpAny_pure (wpAny_pure ⟨_,rfl,wpAny_pure h⟩)) htake))
    | exact wpAny_bind (wpAny_bind (m:=Builtin.Tuple.tupleExact _) (wpAny_newObj_type (wpAny_pure ⟨_,rfl,wpAny_pure h⟩) htake))
end
end HT
namespace L2
open PySem PySem.Spec PyProof.Rows
noncomputable abbrev TO:=St->Hp->(Option Int->Hp->Prop)->Prop
noncomputable def PO(X:Cx)(e:Option Expr)(t:TO):Prop:=
  ∀(pins:List (Addr×Obj)) (s:Shared) (σ:St) (H:Hp) (Q:Option Int->Hp->Prop),Inv X pins σ H s->t σ H Q->
    wpAny (model X.prog X.w) X.A (evalPart e X.env) (fun u s'=>∃o H',Inv X pins σ H' s'/\IsPart u o/\Q o H') X.xe s
noncomputable def A4:TO:=fun _ H Q=>Q none H
noncomputable def Dk(t:TE):TO:=fun σ H Q=>t σ H fun x H1=>∃i,x=.int i/\Q (some i) H1
section
variable {X:Cx} {e:Expr} {te:TE} {lo hi:Option Expr} {tl th:TO} {pos p2:Pos}
theorem A5:PO X none A4:=by
  intro pins s σ H Q I h
  rw[evalPart_none]
  exact wpAny_pure ⟨none,H,I,.none,h⟩
theorem A6(h:PE X e te):PO X (some e) (Dk te):=by
  intro pins s σ H Q I hw
  rw[evalPart_some]
  refine jp (h pins s σ H _ I hw) fun u s1 ⟨x,H1,I1,r1,q1⟩=>?_
  obtain⟨i,rfl,q⟩:=q1
  obtain⟨t,rfl⟩:=r1
  exact⟨some i,H1,I1,.int i t,q⟩
noncomputable def B9(X:Cx)(r:V->Option Int->Option Int->Hp->VK->Prop):Prop:=
  ∀(pins:List (Addr×Obj)) (s:Shared) (σ:St) (H:Hp) (x:V) (v vl vu:Value) (lo hi:Option Int) (sl:Addr) (Q:VK),Inv X pins σ H s->jl x v->s.heap.IsSliceOf sl vl vu .none->IsPart vl lo->IsPart vu hi->r x lo hi H Q->
    ∃T id,typeLookup (.type T) "__getitem__" = pure (some (.builtin id))/\s.TypeIs v T/\wpAny (model X.prog X.w) X.A (getItem v (.ref sl)) (EP X pins σ Q) X.xe s
noncomputable def FH(r:V->Option Int->Option Int->Hp->VK->Prop)(te:TE)(tl th:TO):TE:=fun σ H Q=>te σ H fun x H1=>tl σ H1 fun l H2=>th σ H2 fun u H3=>r x l u H3 Q
theorem kC{r:V->Option Int->Option Int->Hp->VK->Prop}(hr:B9 X r)(he:PE X e te)(hl:PO X lo tl)(hu:PO X hi th):PE X (.Subscript e (.Slice lo hi none p2) pos) (FH r te tl th):=by
  intro pins s σ H Q I h
  refine Subscript_ (jp (he pins s σ H _ I h) fun v s1 ⟨x,H1,I1,r1,q1⟩=>?_)
  refine wpAny_Slice (jp (hl pins s1 σ H1 _ I1 q1) fun vl s2 ⟨l,H2,I2,pl,q2⟩=>jp (hu pins s2 σ H2 _ I2 q2) fun vu s3 ⟨u,H3,I3,pu,q3⟩=>?_)
  rw[evalPart_none]
  refine wpAny_pure ?_
  have I4:Inv X pins σ H3 { s3 with heap:=s3.heap.push { cls:=.type "slice",data:=.fields #[vl,vu,.none] } }:=I3.kept (t':=s3.toks) fun b ob q=>Heap.get?_push_of_some _ q
  obtain⟨T,id,hT,ht,hg⟩:=hr pins { s3 with heap:=s3.heap.push { cls:=.type "slice",data:=.fields #[vl,vu,.none] } } σ H3 x v vl vu l u s3.heap.objs.size Q I4 r1 (Heap.IsSliceOf.new ..) pl pu q3
  show wpAny (model X.prog X.w) X.A (subscriptTail e (.Slice lo hi none p2) v (.ref s3.heap.objs.size)) (EP X pins σ Q) X.xe { s3 with heap:=s3.heap.push { cls:=.type "slice",data:=.fields #[vl,vu,.none] } }
  exact tail_any (ops:=[.ref s3.heap.objs.size,v]) ht hT hg (by with_unfolding_all rfl)
noncomputable def VJ(xs:List V)(lo hi:Option Int):List V:=(xs.drop (HT.sIx xs.length 0 lo)).take (HT.sIx xs.length xs.length hi - HT.sIx xs.length 0 lo)
theorem uX(xs:List V)(lo hi:Option Int):(VJ xs lo hi).length<=xs.length:=by
  unfold VJ
  rw[List.length_take,List.length_drop]
  omega
noncomputable def EL(K:PySem.W.Frag):V->Option Int->Option Int->Hp->VK->Prop:=fun x lo hi H Q=>∃a xs,x=.ref a/\Ju K H a xs/\
  ¬(HT.sIx xs.length 0 lo=0/\HT.sIx xs.length xs.length hi=xs.length)/\∀p,H p=none->Q (.ref p) (upd H p (.tup (VJ xs lo hi)))
theorem Ba:B9 X (EL X.K):=by
  intro pins s σ H x v vl vu lo hi sl Q I rx hs pl pu h
  obtain⟨a,xs,rfl,hx,hw,q⟩:=h
  cases rx
  obtain⟨its,r,ht,hz⟩:=I.tuple hx
  have hlen:its.toArray.size=xs.length:=by rw[List.size_toArray]; exact r.length.symm
  refine⟨"tuple",_,PyProof.Rows.slot_tuple_getitem.lookup,ht.typeIs,?_⟩
  refine HT.getItem_tuple_cut ht hs pl pu (by rw[hlen]; exact hw) ?_ (by rw[hlen]; exact hz)
  rw[hlen]
  refine⟨.ref s.heap.objs.size,_,I.laid (t':=s.toks) (o:=.tup (VJ xs lo hi)) (fun b ob q=>Heap.get?_push_of_some _ q) (Nat.le_refl _) ?_,rfl,q _ (I.hok.fresh (Nat.le_refl _))⟩
  exact⟨Nat.le_trans (uX xs lo hi) hz,_,(r.drop (HT.sIx xs.length 0 lo)).take (HT.sIx xs.length xs.length hi - HT.sIx xs.length 0 lo),IsTup.new _ _⟩
noncomputable def Wr(K:PySem.W.Frag):R2:=fun x y H Q=>∃a b xs ys,x=.ref a/\y=.ref b/\Ju K H a xs/\Ju K H b ys/\xs≠[]/\xs.length + ys.length<=sizeLine/\
  (ys=[]->Q (.ref a) H)/\(ys≠[]->∀p,H p=none->Q (.ref p) (upd H p (.tup (xs ++ ys))))
theorem jd.nil_iff{xs:List V}{us:List Value}(r:jd xs us):us=[]↔xs=[]:=by
  cases r with
  | nil=>simp
  | cons _ _=>simp
theorem A7:jH X (binaryOp .Add) (Wr X.K):=by
  intro pins s σ H x y v u Q I rx ry h
  obtain⟨a,b,xs,ys,rfl,rfl,ha,hb,hx,hz,q1,q2⟩:=h
  cases rx
  cases ry
  obtain⟨its,r1,p1,_⟩:=I.tuple ha
  obtain⟨its2,r2,p2,_⟩:=I.tuple hb
  refine HT.cat_tup p1 p2 (fun z=>hx (r1.nil_iff.mp z)) (fun z=>⟨.ref a,H,I,rfl,q1 (r2.nil_iff.mp z)⟩) (fun z=>?_) (by rw[<-r1.length,<-r2.length]; exact hz)
  refine⟨.ref s.heap.objs.size,_,I.laid (t':=s.toks) (o:=.tup (xs ++ ys)) (fun b ob q=>Heap.get?_push_of_some _ q) (Nat.le_refl _) ?_,rfl,q2 (fun w=>z (r2.nil_iff.mpr w)) _ (I.hok.fresh (Nat.le_refl _))⟩
  exact⟨by rw[List.length_append]; exact hz,_,r1.append r2,IsTup.new _ _⟩
end
end L2
namespace L2
open PySem PySem.Spec PyProof.Rows
noncomputable def Zf(n:Nat)(i:Int):Option Nat:=if 0<=i then(if i < n then some i.toNat else none)else if -(n:Int)<=i then some (i + n).toNat else none
noncomputable def atI{α:Type}(xs:List α)(i:Int):Option α:=(Zf xs.length i).bind fun j=>xs[j]?
theorem wH{n:Nat}{i:Int}{j:Nat}(h:Zf n i=some j):seqIndex? i n=some j/\j < n/\-(n:Int)<=i/\i < n:=by
  unfold Zf at h
  by_cases h0:0<=i
  · rw[if_pos h0]at h
    by_cases h1:i < n
    · rw[if_pos h1]at h
      have e:i.toNat=j:=Option.some.inj h
      exact⟨by rw[seqIndex_of h0 h1,e],by omega,by omega,h1⟩
    · rw[if_neg h1]at h; cases h
  · rw[if_neg h0]at h
    by_cases h1:-(n:Int)<=i
    · rw[if_pos h1]at h
      have e:(i + n).toNat=j:=Option.some.inj h
      exact⟨by rw[seqIndex_neg (by omega) h1,e],by omega,h1,by omega⟩
    · rw[if_neg h1]at h; cases h
theorem gL{α:Type}{xs:List α}{i:Int}{v:α}(h:atI xs i=some v):∃j,seqIndex? i xs.length=some j/\xs[j]?=some v/\j < xs.length/\-(xs.length:Int)<=i/\i < xs.length:=by
  unfold atI at h
  cases e:Zf xs.length i with
  | none=>rw[e]at h; cases h
  | some j=>
    rw[e]at h
    obtain⟨h1,h2,h3,h4⟩:=wH e
    exact⟨j,h1,h,h2,h3,h4⟩
noncomputable def gM(b:Expr):Prop:=∀o i,subscripted b false o i=operate [o,i] (getItem o i)
noncomputable def VL(X:Cx)(r:R2):Prop:=
  ∀(value slice:Expr) (pins:List (Addr×Obj)) (s:Shared) (σ:St) (H:Hp) (x y:V) (v u:Value) (Q:VK),Inv X pins σ H s->jl x v->jl y u->r x y H Q->
    subscripted slice false v u=operate [v,u] (getItem v u)->wpAny (model X.prog X.w) X.A (subscriptTail value slice v u) (EP X pins σ Q) X.xe s
noncomputable def FI(X:Cx)(id:String)(r:V->List V->Hp->VK->Prop):Prop:=
  ∀(pins:List (Addr×Obj)) (s:Shared) (σ:St) (H:Hp) (x:V) (xs:List V) (v:Value) (us:List Value) (Q:VK),Inv X pins σ H s->jl x v->jd xs us->r x xs H Q->
    wpAny (model X.prog X.w) X.A (call (.builtin id) (v :: us)) (EP X pins σ Q) X.xe s
section
variable {X:Cx} {a b:Expr} {ta tb:TE} {pos:Pos}
theorem VL.or{r r':R2}(h:VL X r)(h':VL X r'):VL X (fun x y H Q=>r x y H Q∨r' x y H Q):=by
  intro value slice pins s σ H x y v u Q I rx ry q hs
  rcases q with q | q
  · exact h value slice pins s σ H x y v u Q I rx ry q hs
  · exact h' value slice pins s σ H x y v u Q I rx ry q hs
theorem Dl{r:R2}(hr:VL X r)(ha:PE X a ta)(hb:PE X b tb)(hs:gM b):PE X (.Subscript a b pos) (qp r ta tb):=by
  intro pins s σ H Q I h
  exact Subscript_ (QY ha hb I h fun v u s2 x y H2 I2 rx ry q=>hr a b pins s2 σ H2 x y v u Q I2 rx ry q (hs _ _))
noncomputable def Bb(K:PySem.W.Frag):R2:=fun x y H Q=>∃p xs i v,x=.ref p/\y=.int i/\jy K H p xs/\atI xs i=some v/\Q v H
noncomputable def Bc(K:PySem.W.Frag):R2:=fun x y H Q=>∃p xs i v,x=.ref p/\y=.int i/\Ju K H p xs/\atI xs i=some v/\Q v H
noncomputable def Be:R2:=fun x y H Q=>∃z i c,x=.str z/\y=.int i/\z.length<=sizeLine/\atI z.cps.toList i=some c/\Q (.str ⟨#[c]⟩) H
theorem A8:VL X (Bb X.K):=by
  intro value slice pins s σ H x y v u Q I rx ry h hs
  obtain⟨p,xs,i,z,rfl,rfl,hq,he,q⟩:=h
  cases rx
  obtain⟨t,rfl⟩:=ry
  obtain⟨its,r,pl,hz⟩:=I.list hq
  obtain⟨j,h1,h2,h3,h4,h5⟩:=gL he
  obtain⟨w,ew,rw'⟩:=r.get h2
  have hl:=r.length
  have hn:=vC
  have fin:EP X pins σ Q w s:=⟨z,H,I,rw',q⟩
  by_cases h0:0<=i
  · have hj:i.toNat=j:=by
      rw[seqIndex_of h0 h5]at h1
      exact Option.some.inj h1
    exact item_listR pl.isList h0 (by omega) (by rw[hj]; simpa using ew) fin hs
  · have hj:(i + (its.toArray.size:Int)).toNat=j:=by
      rw[seqIndex_neg (by omega) h4]at h1
      rw[List.size_toArray,<-hl]
      exact Option.some.inj h1
    exact subscriptTail_builtinR (x:=w) pl.isList.typeIs slot_list_getitem.lookup
      (wpAny_getItem_list_neg (Q:=fun r s'=>r=w/\EP X pins σ Q r s') pl.isList (by omega) (by rw[List.size_toArray] <;> omega) (by omega) (by rw[hj]; simpa using ew) ⟨rfl,fin⟩) hs
theorem Bf:VL X (Bc X.K):=by
  intro value slice pins s σ H x y v u Q I rx ry h hs
  obtain⟨p,xs,i,z,rfl,rfl,hq,he,q⟩:=h
  cases rx
  obtain⟨t,rfl⟩:=ry
  obtain⟨its,r,pl,hz⟩:=I.tuple hq
  obtain⟨j,h1,h2,h3,h4,h5⟩:=gL he
  obtain⟨w,ew,rw'⟩:=r.get h2
  have hl:=r.length
  have hn:=vC
  have fin:EP X pins σ Q w s:=⟨z,H,I,rw',q⟩
  exact subscriptTail_builtinR (x:=w) pl.typeIs slot_tuple_getitem.lookup
    (getItem_tuple (j:=j) (Q:=fun r s'=>r=w/\EP X pins σ Q r s') pl (by omega) (by omega) (by rw[List.size_toArray,<-hl]; exact h1) (by simpa using ew) ⟨rfl,fin⟩) hs
theorem Bg:VL X Be:=by
  intro value slice pins s σ H x y v u Q I rx ry h hs
  obtain⟨z,i,c,rfl,rfl,hz,he,q⟩:=h
  obtain⟨t,rfl⟩:=rx
  obtain⟨t',rfl⟩:=ry
  obtain⟨j,h1,h2,h3,h4,h5⟩:=gL he
  have hl:z.cps.toList.length=z.length:=by simp[Str.length]
  rw[hl]at h1 h4 h5
  have hn:=vC
  exact tail_any (typeIs_str s z t) slot_str_getitem.lookup (getItem_str (c:=c) (by
    have e1:decide (i < -(2 ^ 63:Int))=false:=decide_eq_false (by omega)
    have e2:decide (i>=2 ^ 63)=false:=decide_eq_false (by omega)
    rw[e1,e2,Bool.or_false]) (by rw[h1]; simpa using h2) ⟨.str ⟨#[c]⟩,H,I.tok _,⟨_,rfl⟩,q⟩) hs
noncomputable def E7(K:PySem.W.Frag):R2:=fun x y H Q=>Bb K x y H Q∨Bc K x y H Q∨Be x y H Q
theorem Bh:VL X (E7 X.K):=A8.or (Bf.or Bg)
theorem Ws(its:List Value)(n j:Nat)(u:Value):Obj.mapSeq (·.setIfInBounds j u) { cls:=.type "list",data:=.seq its.toArray n }={ cls:=.type "list",data:=.seq (its.set j u).toArray n }:=by
  simp[Obj.mapSeq]
theorem Inv.lst{pins:List (Addr×Obj)}{σ:St}{H:Hp}{s:Shared}{p:Addr}{xs:List V}(I:Inv X pins σ H s)(h:H p=some (.lst xs)):
    ∃(its:List Value) (n:Nat),jd xs its/\s.heap.get? p=some { cls:=.type "list",data:=.seq its.toArray n }/\xs.length<=sizeLine:=by
  obtain⟨z,its,n,r,e⟩:=I.hok p _ h
  exact⟨its,n,r,e,z⟩
theorem Inv.lstUpd{pins:List (Addr×Obj)}{σ:St}{H:Hp}{s:Shared}{p:Addr}{xs ys:List V}{its its':List Value}{n n':Nat}{f:Obj->Obj}(I:Inv X pins σ H s)(h:H p=some (.lst xs))
    (ho:s.heap.get? p=some { cls:=.type "list",data:=.seq its.toArray n }) (hf:f { cls:=.type "list",data:=.seq its.toArray n }={ cls:=.type "list",data:=.seq its'.toArray n' }) (r:jd ys its') (hz:ys.length<=sizeLine) (t:Nat):
    Inv X pins σ (upd H p (.lst ys)) { s with heap:=s.heap.update p f,toks:=t }:=by
  have e:(s.heap.update p f).get? p=some { cls:=.type "list",data:=.seq its'.toArray n' }:=by
    rw[Heap.get?_update_self f ho (by rw[hf] <;> rfl),hf]
  refine I.write (x:=p) (e:=p) (by rw[h]; trivial) (.inl rfl) (fun b u hb q=>(Heap.get?_update_other _ _ (Ne.symm hb)).trans q) ⟨_,e⟩ ?_
  exact⟨hz,its',n',r,e⟩
noncomputable def Xz:V->V->V->Hp->(Hp->Prop)->Prop:=fun o i v H Q=>∃p xs k j,o=.ref p/\i=.int k/\H p=some (.lst xs)/\Zf xs.length k=some j/\Q (upd H p (.lst (xs.set j v)))
theorem xk:QU X Xz:=by
  intro pins s σ H o i v ov iv u Q I ro ri rv h
  obtain⟨p,xs,k,j,rfl,rfl,hp,hj,q⟩:=h
  cases ro
  obtain⟨t,rfl⟩:=ri
  obtain⟨its,n,r,ho,hz⟩:=I.lst hp
  obtain⟨h1,h2,h3,h4⟩:=wH hj
  have hl:=r.length
  have hn:=vC
  have I':Inv X pins σ (upd H p (.lst (xs.set j v))) { s with heap:=s.heap.update p (Obj.mapSeq (·.setIfInBounds j u)) }:=
    I.lstUpd hp ho (Ws its n j u) (r.set rv j) (by rw[List.length_set]; exact hz) s.toks
  by_cases h0:0<=k
  · have hk:k.toNat=j:=by
      rw[seqIndex_of h0 h4]at h1
      exact Option.some.inj h1
    exact PySem.W.ki_setAt ho h0 (by omega) (by rw[List.size_toArray,<-hl]; exact h4) (by rw[hk]; exact⟨_,I',q⟩)
  · have hk:(k + (its.toArray.size:Int)).toNat=j:=by
      rw[seqIndex_neg (by omega) h3]at h1
      rw[List.size_toArray,<-hl]
      exact Option.some.inj h1
    exact PySem.W.ki_setBack ho (by omega) (by rw[List.size_toArray,<-hl]; exact h3) (by omega) (by rw[hk]; exact⟨_,I',q⟩)
theorem kD(lo hi:Option Int)(n:Nat):(sliceBounds lo hi none n).1=((HT.sIx n 0 lo:Nat):Int)/\(sliceBounds lo hi none n).2.1=((HT.sIx n n hi:Nat):Int)/\(sliceBounds lo hi none n).2.2=1:=by
  refine⟨?_,?_,rfl⟩
  · cases lo with
    | none=>simp[sliceBounds,HT.sIx]
    | some i=>
      simp only[sliceBounds,HT.sIx,Option.getD_none,show(1:Int) > 0 by decide,if_true]
      by_cases h:i < 0
      · simp only[h,if_true] <;> omega
      · simp only[h,if_false] <;> omega
  · cases hi with
    | none=>simp[sliceBounds,HT.sIx]
    | some i=>
      simp only[sliceBounds,HT.sIx,Option.getD_none,show(1:Int) > 0 by decide,if_true]
      by_cases h:i < 0
      · simp only[h,if_true] <;> omega
      · simp only[h,if_false] <;> omega
theorem GV(its:List Value)(lo hi:Option Int):slicePick its.toArray lo hi none=((its.drop (HT.sIx its.length 0 lo)).take (HT.sIx its.length its.length hi - HT.sIx its.length 0 lo)).toArray:=by
  obtain⟨h1,h2,h3⟩:=kD lo hi its.toArray.size
  unfold slicePick
  rw[h1,h2,h3]
  simp only[sliceRange_one,pick_run,List.size_toArray] <;> rfl
noncomputable def EM(K:PySem.W.Frag):V->Option Int->Option Int->Hp->VK->Prop:=fun x lo hi H Q=>∃a xs,x=.ref a/\jy K H a xs/\∀p,H p=none->Q (.ref p) (upd H p (.lst (VJ xs lo hi)))
theorem A9:B9 X (EM X.K):=by
  intro pins s σ H x v vl vu lo hi sl Q I rx hs pl pu h
  obtain⟨a,xs,rfl,hx,q⟩:=h
  cases rx
  obtain⟨its,r,ht,hz⟩:=I.list hx
  have hlen:=r.length
  refine⟨"list",_,slot_list_getitem.lookup,ht.isList.typeIs,?_⟩
  refine wpAny_getItem_list_slice ht.isList hs pl pu .none (by simp) ?_ (by rw[List.size_toArray] <;> omega)
  rw[GV,<-hlen]
  refine⟨.ref s.heap.objs.size,_,I.laid (t':=s.toks) (o:=.lst (VJ xs lo hi)) (fun b ob q=>Heap.get?_push_of_some _ q) (Nat.le_refl _) ?_,rfl,q _ (I.hok.fresh (Nat.le_refl _))⟩
  exact⟨Nat.le_trans (uX xs lo hi) hz,_,0,(r.drop (HT.sIx xs.length 0 lo)).take (HT.sIx xs.length xs.length hi - HT.sIx xs.length 0 lo),Heap.get?_push_size _ rfl⟩
noncomputable def zc:V->Bool
  | .non=>true
  | .bl _=>true
  | .int _=>true
  | .str _=>true
  | _=>false
noncomputable def UR:V->V->Bool
  | .non,.non=>true
  | .bl a,.bl b=>a == b
  | .bl a,.int b=>(if a then 1 else 0) == b
  | .int a,.bl b=>a == (if b then 1 else 0)
  | .int a,.int b=>a == b
  | .str a,.str b=>a == b
  | _,_=>false
theorem Bi{A:Around}{s:Shared}{y x:V}{u v:Value}(ry:jl y u)(rx:jl x v)(fy:zc y=true)(fx:zc x=true):SeqAt.EqAt A s u v (UR y x):=by
  cases y with
  | non=>
    cases ry
    cases x with
    | non=>cases rx; exact SeqAt.EqAt.same _
    | bl b=>cases rx; exact SeqAt.EqAt.none_bool b
    | int b=>obtain⟨t,rfl⟩:=rx; exact SeqAt.EqAt.none_int b t
    | str b=>obtain⟨t,rfl⟩:=rx; exact SeqAt.EqAt.none_str b t
    | _=>exact absurd (show false=true from fx) Bool.false_ne_true
  | bl a=>
    cases ry
    cases x with
    | non=>cases rx; exact SeqAt.EqAt.bool_none a
    | bl b=>cases rx; exact SeqAt.EqAt.bool_bool a b
    | int b=>obtain⟨t,rfl⟩:=rx; exact SeqAt.EqAt.bool_int a b t
    | str b=>obtain⟨t,rfl⟩:=rx; exact SeqAt.EqAt.bool_str a b t
    | _=>exact absurd (show false=true from fx) Bool.false_ne_true
  | int a=>
    obtain⟨t',rfl⟩:=ry
    cases x with
    | non=>cases rx; exact SeqAt.EqAt.int_none a t'
    | bl b=>cases rx; exact SeqAt.EqAt.int_bool a t' b
    | int b=>obtain⟨t,rfl⟩:=rx; exact SeqAt.EqAt.int_int a t' b t
    | str b=>obtain⟨t,rfl⟩:=rx; exact SeqAt.EqAt.int_str a t' b t
    | _=>exact absurd (show false=true from fx) Bool.false_ne_true
  | str a=>
    obtain⟨t',rfl⟩:=ry
    cases x with
    | non=>cases rx; exact SeqAt.EqAt.str_none a t'
    | bl b=>cases rx; exact SeqAt.EqAt.str_bool a t' b
    | int b=>obtain⟨t,rfl⟩:=rx; exact SeqAt.EqAt.str_int a t' b t
    | str b=>obtain⟨t,rfl⟩:=rx; exact SeqAt.EqAt.str_str a t' b t
    | _=>exact absurd (show false=true from fx) Bool.false_ne_true
  | _=>exact absurd (show false=true from fy) Bool.false_ne_true
noncomputable def Zg(x:V)(u:Value):Bool:=match u with
  | .none=>UR .non x
  | .bool b=>UR (.bl b) x
  | .int i _=>UR (.int i) x
  | .str z _=>UR (.str z) x
  | _=>false
theorem qA{x y:V}{u:Value}(r:jl y u)(f:zc y=true):Zg x u=UR y x:=by
  cases y with
  | non=>cases r; rfl
  | bl b=>cases r; rfl
  | int i=>obtain⟨t,rfl⟩:=r; rfl
  | str z=>obtain⟨t,rfl⟩:=r; rfl
  | _=>exact absurd (show false=true from f) Bool.false_ne_true
theorem vF{x:V}:∀{xs:List V} {us:List Value},jd xs us->xs.all zc=true->us.any (Zg x)=xs.any fun y=>UR y x
  | _,_,.nil,_=>rfl
  | y :: xs,u :: us,.cons r t,f=>by
    rw[List.all_cons,Bool.and_eq_true]at f
    rw[List.any_cons,List.any_cons,qA r f.1,vF t f.2]
theorem Zh{A:Around}{s:Shared}{x:V}{v:Value}(rx:jl x v)(fx:zc x=true):∀{xs:List V} {us:List Value},jd xs us->xs.all zc=true->∀u∈us,SeqAt.EqAt A s u v (Zg x u)
  | _,_,.nil,_=>fun u hu=>by cases hu
  | y :: xs,u :: us,.cons r t,f=>fun u' hu=>by
    rw[List.all_cons,Bool.and_eq_true]at f
    rcases List.mem_cons.mp hu with rfl | hu
    · rw[qA r f.1]; exact Bi r rx f.1 fx
    · exact Zh rx fx t f.2 u' hu
noncomputable def wI(x:V)(xs:List V):Bool:=xs.any fun y=>UR y x
noncomputable def Bj(K:PySem.W.Frag)(neg:Bool):R2:=fun x y H Q=>∃p xs,y=.ref p/\(jy K H p xs∨Ju K H p xs)/\zc x=true/\xs.all zc=true/\Q (.bl (if neg then !wI x xs else wI x xs)) H
theorem qB:jH X (compareOp .In) (Bj X.K false):=by
  intro pins s σ H x y v u Q I rx ry h
  obtain⟨p,xs,rfl,hq,fx,fs,q⟩:=h
  cases ry
  rcases hq with hq | hq
  · obtain⟨its,r,pl,hz⟩:=I.list hq
    refine SeqAt.in_listAt (Zg x) pl.isList (fun w hw=>Zh rx fx r fs w (by simpa using hw)) ⟨.bl _,H,I,rfl,?_⟩
    rw[show its.toArray.any (Zg x)=its.any (Zg x) by simp,vF r fs]
    exact q
  · obtain⟨its,r,pl,hz⟩:=I.tuple hq
    refine SeqAt.in_tupleAt (Zg x) pl (fun w hw=>Zh rx fx r fs w (by simpa using hw)) ⟨.bl _,H,I,rfl,?_⟩
    rw[show its.toArray.any (Zg x)=its.any (Zg x) by simp,vF r fs]
    exact q
theorem kE:jH X (compareOp .NotIn) (Bj X.K true):=by
  intro pins s σ H x y v u Q I rx ry h
  obtain⟨p,xs,rfl,hq,fx,fs,q⟩:=h
  cases ry
  rcases hq with hq | hq
  · obtain⟨its,r,pl,hz⟩:=I.list hq
    refine SeqAt.notIn_listAt (Zg x) pl.isList (fun w hw=>Zh rx fx r fs w (by simpa using hw)) ⟨.bl _,H,I,rfl,?_⟩
    rw[show its.toArray.any (Zg x)=its.any (Zg x) by simp,vF r fs]
    exact q
  · obtain⟨its,r,pl,hz⟩:=I.tuple hq
    refine SeqAt.notIn_tupleAt (Zg x) pl (fun w hw=>Zh rx fx r fs w (by simpa using hw)) ⟨.bl _,H,I,rfl,?_⟩
    rw[show its.toArray.any (Zg x)=its.any (Zg x) by simp,vF r fs]
    exact q
theorem kG:yW X (.builtin "len") (fun xs H Q=>∃p ys,xs=[.ref p]/\(jy X.K H p ys∨Ju X.K H p ys)/\Q (.int ys.length) H):=by
  intro pins s σ H xs us Q I r h
  obtain⟨p,ys,rfl,hq,q⟩:=h
  obtain⟨u,rfl,rx⟩:=UQ r
  cases rx
  have hn:=vC
  rcases hq with hq | hq
  · obtain⟨its,r',pl,hz⟩:=I.list hq
    have hlen:=r'.length
    exact Calls.call_len_list pl.isList (by simp only[List.size_toArray] <;> omega) ⟨.int ys.length,H,I.tok _,⟨s.toks + 1,by rw[List.size_toArray,hlen]⟩,q⟩
  · obtain⟨its,r',pl,hz⟩:=I.tuple hq
    have hlen:=r'.length
    exact len_tuple pl (by simp only[List.size_toArray] <;> omega) ⟨.int ys.length,H,I.tok _,⟨s.toks + 1,by rw[List.size_toArray,hlen]⟩,q⟩
theorem kH:yW X (.type "list") (fun xs H Q=>∃p ys,xs=[.ref p]/\(jy X.K H p ys∨Ju X.K H p ys)/\∀l,H l=none->Q (.ref l) (upd H l (.lst ys))):=by
  intro pins s σ H xs us Q I r h
  obtain⟨p,ys,rfl,hq,q⟩:=h
  obtain⟨u,rfl,rx⟩:=UQ r
  cases rx
  have fin:∀(its:List Value),jd ys its->ys.length<=sizeLine->∀(h':Heap) (c':Nat),(∀b o',s.heap.get? b=some o'->h'.get? b=some o')->
      h'.get? s.heap.objs.size=some { cls:=.type "list",dict:=none,data:=.seq its.toArray c',slots:=#[] }->EP X pins σ Q (.ref s.heap.objs.size) { s with heap:=h' }:=fun its r' hz h' c' kp e=>
    ⟨.ref s.heap.objs.size,_,I.laid (t':=s.toks) kp (Nat.le_refl _) (show JQ X.prog X.w _ h' _ (.lst ys) from⟨hz,its,c',r',e⟩),rfl,q _ (I.hok.fresh (Nat.le_refl _))⟩
  rcases hq with hq | hq
  · obtain⟨its,r',pl,hz⟩:=I.list hq
    have hlen:=r'.length
    obtain⟨o,ho,hc,n,hd⟩:=pl.isList
    exact call_list_seq p (.inl rfl) ho hc hd (fun h' c' kp e=>fin its r' hz h' c' kp e) (by simp only[List.size_toArray] <;> omega)
  · obtain⟨its,r',pl,hz⟩:=I.tuple hq
    have hlen:=r'.length
    obtain⟨o,ho,hc,n,hd⟩:=pl
    exact call_list_seq p (.inr rfl) ho hc hd (fun h' c' kp e=>fin its r' hz h' c' kp e) (by simp only[List.size_toArray] <;> omega)
theorem GW:yW X (.type "tuple") (fun xs H Q=>∃p ys,xs=[.ref p]/\((jy X.K H p ys/\∀l,H l=none->Q (.ref l) (upd H l (.tup ys)))∨(Ju X.K H p ys/\Q (.ref p) H))):=by
  intro pins s σ H xs us Q I r h
  obtain⟨p,ys,rfl,h⟩:=h
  obtain⟨u,rfl,rx⟩:=UQ r
  cases rx
  rcases h with⟨hq,q⟩ | ⟨hq,q⟩
  · obtain⟨its,r',pl,hz⟩:=I.list hq
    have hlen:=r'.length
    refine call_tuple_list pl.isList (fun h' kp=>?_) (by simp only[List.size_toArray] <;> omega)
    have I1:Inv X pins σ H { s with heap:=h' }:=I.kept (t':=s.toks) kp
    have I2:Inv X pins σ (upd H h'.objs.size (.tup ys)) { s with heap:=h'.push { cls:=.type "tuple",data:=.seq its.toArray } }:=
      I1.laid (t':=s.toks) (fun b o e=>Heap.get?_push_of_some _ e) (Nat.le_refl _) (show JQ X.prog X.w _ _ _ (.tup ys) from⟨hz,its,r',IsTup.new _ _⟩)
    exact⟨.ref h'.objs.size,_,I2,rfl,q _ (I1.hok.fresh (Nat.le_refl _))⟩
  · obtain⟨its,r',pl,hz⟩:=I.tuple hq
    exact call_tuple_same pl ⟨.ref p,H,I,rfl,q⟩
noncomputable def E8(K:PySem.W.Frag)(T:String)(x:V)(H:Hp):Prop:=match x with
  | .str _=>T = "str"
  | .int _=>T = "int"
  | .ref p=>(T = "list" /\∃xs,jy K H p xs)∨(T = "tuple" /\∃o,K.lookup p=some o/\o.cls=.type "tuple" /\o.dict=none)∨
      (T = "dict" /\((∃kvs,H p=some (.dK kvs))∨∃kvs,H p=some (.dT kvs)))∨(T = "set" /\∃S n,H p=some (.set S n))
  | _=>False
theorem Bl{pins:List (Addr×Obj)}{σ:St}{H:Hp}{s:Shared}{T:String}{x:V}{v:Value}(I:Inv X pins σ H s)(r:jl x v)(ty:E8 X.K T x H):
    s.TypeIs v T/\∀a,v=.ref a->∃ob,s.heap.get? a=some ob/\ob.dict=none:=by
  cases x with
  | str z=>
    obtain⟨t,rfl⟩:=r
    cases (show T = "str" from ty)
    exact⟨typeIs_str s z t,fun _ e=>nomatch e⟩
  | int i=>
    obtain⟨t,rfl⟩:=r
    cases (show T = "int" from ty)
    exact⟨typeIs_int s i t,fun _ e=>nomatch e⟩
  | ref p=>
    cases r
    rcases ty with⟨rfl,xs,hq⟩ | ⟨rfl,o,hk,hc,hd⟩ | ⟨rfl,hk⟩ | ⟨rfl,S,n,hk⟩
    · obtain⟨its,_,pl,_⟩:=I.list hq
      refine⟨pl.isList.typeIs,fun a e=>?_⟩
      cases e
      obtain⟨o,n,e,c,hd,_⟩:=pl
      exact⟨o,e,hd⟩
    · refine⟨⟨o,I.kIn p o hk,hc⟩,fun a e=>?_⟩
      cases e
      exact⟨o,I.kIn _ o hk,hd⟩
    · have z:∃o,s.heap.get? p=some o/\o.ExactDict:=by
        rcases hk with⟨kvs,hk⟩ | ⟨kvs,hk⟩
        · obtain⟨_,_,_,_,o,_,_,e,ex,_⟩:=I.hok p _ hk
          exact⟨o,e,ex⟩
        · obtain⟨_,_,_,_,o,_,_,e,ex,_⟩:=I.hok p _ hk
          exact⟨o,e,ex⟩
      obtain⟨o,e,ex⟩:=z
      refine⟨⟨o,e,ex.1⟩,fun a e2=>?_⟩
      cases e2
      exact⟨o,e,ex.2.1⟩
    · obtain⟨o,_,_,_,e,ex,_⟩:=I.hok p _ hk
      refine⟨⟨o,e,ex.1⟩,fun a e2=>?_⟩
      cases e2
      exact⟨o,e,ex.2.1⟩
  | _=>exact False.elim ty
noncomputable def Bm(K:PySem.W.Frag)(T:String)(r:V->List V->Hp->VK->Prop)(to:TE)(t:TA):TE:=fun σ H Q=>to σ H fun x H1=>E8 K T x H1/\t σ H1 fun xs H2=>r x xs H2 Q
variable {o e:Expr} {es:List Expr} {to:TE} {t:TA} {name:Str} {apos cpos:Pos} {T id:String} {r:V->List V->Hp->VK->Prop}
theorem Dm(pa:PlainAttrs T)(slot:Slot T name id)(hty:typeOf (.builtin id)=pure (.type "method_descriptor"))(hm:FI X id r)(ho:PE X o to)(ha:PA X (e :: es) t)
    (hbase:attributeBase o name X.env (eval o X.env)=eval o X.env:=by rfl)
    (hfew:((backTo cpos (starEach (e :: es) X.env)).all (fun x=>!x.1) && (backToKw cpos (keywordEach [] X.env)).all (fun x=>x.1.isSome)
      && decide ((e :: es).length + ([]:List Keyword).length + (if ([]:List Keyword).isEmpty then 0 else 1) < 30))=true:=by rfl)
    (hline:(apos.endLine == cpos.line)=true:=by rfl) (hs:starEach (e :: es) X.env=(false,eval e X.env) :: starEach es X.env:=by rfl) (hplain:(backTo cpos (starEach es X.env)).any (·.1)=false:=by rfl):
    PE X (.Call (.Attribute o name apos) (e :: es) [] cpos) (Bm X.K T r to t):=by
  intro pins s σ H Q I h
  refine wpAny_Call_method_late hbase hfew hline rfl (jp (ho pins s σ H _ I h) fun v s1 ⟨x,H1,I1,r1,ty,q1⟩=>?_)
  obtain⟨h1,h2⟩:=Bl I1 r1 ty
  refine⟨T,id,pa,slot,hty,h1,h2,?_⟩
  have hA:=ha cpos pins s1 σ H1 _ I1 q1
  rw[hs]at hA⊢
  refine Calls.callWith_builtin (by show(false || (backTo cpos (starEach es X.env)).any (·.1))=false; rw[hplain] <;> rfl) (Calls.evalArgs_plain ?_)
  exact jp hA fun us s2 ⟨vs,H2,I2,r2,q2⟩=>hm pins s2 σ H2 x vs v us Q I2 r1 r2 q2
end
end L2
namespace L2
open PySem PySem.Spec PyProof.Rows
noncomputable def FJ(X:Cx)(id:String)(r:V->List V->Hp->VK->Prop):Prop:=
  ∀(pins:List (Addr×Obj)) (s:Shared) (σ:St) (H:Hp) (x:V) (xs:List V) (v:Value) (us:List Value) (Q:VK),Inv X pins σ H s->jl x v->jd xs us->r x xs H Q->
    wpAny (model X.prog X.w) X.A (call (.builtin id) (v :: us)) (EP X pins σ Q) X.xe s
theorem jd.one:∀{x:V} {us:List Value},jd [x] us->∃u,us=[u]/\jl x u
  | _,_,.cons r .nil=>⟨_,rfl,r⟩
theorem jd.rep{xs:List V}{us:List Value}(h:jd xs us):∀k:Nat,jd (List.replicate k xs).flatten (List.replicate k us).flatten
  | 0=>.nil
  | k + 1=>by
    rw[List.replicate_succ,List.replicate_succ,List.flatten_cons,List.flatten_cons]
    exact jd.append h (jd.rep h k)
theorem Gy(its:List Value):∀(k:Nat) (acc:List Value),
    List.foldl (fun x1 x2=>x1 ++ x2) acc.toArray (List.replicate k its.toArray)=(acc ++ (List.replicate k its).flatten).toArray
  | 0,acc=>by simp
  | k + 1,acc=>by
    have e:acc.toArray ++ its.toArray=(acc ++ its).toArray:=by simp
    have e2:(acc ++ its) ++ (List.replicate k its).flatten=acc ++ (List.replicate (k + 1) its).flatten:=by
      rw[List.replicate_succ,List.flatten_cons,List.append_assoc]
    rw[<-e2,<-Gy its k (acc ++ its),<-e,List.replicate_succ,List.foldl_cons]
section
variable {X:Cx} {pins:List (Addr×Obj)} {σ:St} {H:Hp} {s:Shared} {l b:Addr} {xs ys zs:List V}
theorem Inv.lset{its its':List Value}{n:Nat}{f:Array Value->Array Value}{t':Nat}(I:Inv X pins σ H s)(hH:H l=some (.lst xs))
    (e:s.heap.get? l=some { cls:=.type "list",data:=.seq its.toArray n }) (hf:f its.toArray=its'.toArray) (hv:jd ys its') (hz:ys.length<=sizeLine):
    Inv X pins σ (upd H l (.lst ys)) { s with heap:=s.heap.update l (Obj.mapSeq f),toks:=t' }:=by
  have q:=PySem.IsL.update e f
  rw[hf]at q
  refine I.write (x:=l) (e:=l) (by rw[hH]; exact trivial) (.inl rfl) (fun b' u hb hu=>(Heap.get?_update_other s.heap (Obj.mapSeq f) (Ne.symm hb)).trans hu) ⟨_,q⟩ ?_
  exact⟨hz,its',_,hv,q⟩
theorem Inv.lnew{its:List Value}{t':Nat}(I:Inv X pins σ H s)(hv:jd ys its)(hz:ys.length<=sizeLine):
    Inv X pins σ (upd H s.heap.objs.size (.lst ys)) { s with heap:=s.heap.push { cls:=.type "list",data:=.seq its.toArray },toks:=t' }:=
  I.laid (fun _ _ q=>Heap.get?_push_of_some _ q) (Nat.le_refl _) ⟨hz,its,0,hv,Heap.get?_push_size _ rfl⟩
theorem Inv.fresh(I:Inv X pins σ H s):H s.heap.objs.size=none:=I.hok.fresh (Nat.le_refl _)
theorem Inv.lstM(I:Inv X pins σ H s)(hH:H l=some (.lst xs)):xs.length<=sizeLine/\∃(its:List Value) (n:Nat),jd xs its/\xs.length=its.length/\s.heap.get? l=some { cls:=.type "list",data:=.seq its.toArray n }:=by
  obtain⟨z,its,n,r,e⟩:=I.hok l _ hH
  exact⟨z,its,n,r,r.length,e⟩
theorem xl{n:Nat}(h:n<=sizeLine):Builtin.List.listTooLong n=false:=by
  unfold Builtin.List.listTooLong
  exact decide_eq_false (by omega)
end
section
variable {X:Cx}
noncomputable def gO:V->List V->Hp->VK->Prop:=fun x vs H Q=>∃l xs y,x=.ref l/\vs=[y]/\H l=some (.lst xs)/\xs.length < sizeLine/\Q .non (upd H l (.lst (xs ++ [y])))
theorem qC:FJ X "list.append" gO:=by
  intro pins s σ H x vs v us Q I rx rv h
  obtain⟨l,xs,y,rfl,rfl,hH,hz,q⟩:=h
  cases rx
  obtain⟨u,rfl,ru⟩:=rv.one
  obtain⟨z,its,n,r,hl,e⟩:=I.lstM hH
  refine call_meets F.slot_list_append ⟨_,e,rfl⟩ F.entry_list_append (F.args_list_append_2 _ _) (PySem.list_append l its.toArray n u (by rw[List.size_toArray]; omega)) ⟨e,?_⟩
  refine⟨.non,_,I.lset (its':=its ++ [u]) hH e (by simp) (r.append (.cons ru .nil)) ?_,rfl,q⟩
  rw[List.length_append,List.length_singleton]
  omega
noncomputable def Bn:R2:=fun x y H Q=>∃l b xs zs,x=.ref l/\y=.ref b/\H l=some (.lst xs)/\H b=some (.lst zs)/\xs.length + zs.length<=sizeLine/\∀p,H p=none->Q (.ref p) (upd H p (.lst (xs ++ zs)))
theorem Bo:jH X (binaryOp .Add) Bn:=by
  intro pins s σ H x y v u Q I rx ry h
  obtain⟨l,b,xs,zs,rfl,rfl,hH,hB,hz,q⟩:=h
  cases rx
  cases ry
  obtain⟨z,its,n,r,hl,e⟩:=I.lstM hH
  obtain⟨z2,its2,n2,r2,hl2,e2⟩:=I.lstM hB
  refine PySem.P.add_list e e2 ?_ (by rw[List.size_toArray,List.size_toArray]; omega)
  have ea:its.toArray ++ its2.toArray=(its ++ its2).toArray:=by simp
  rw[ea]
  exact⟨.ref _,_,I.lnew (t':=s.toks) (r.append r2) (by rw[List.length_append]; omega),rfl,q _ I.fresh⟩
noncomputable def Bp:R2:=fun x y H Q=>∃l k xs,x=.ref l/\y=.int k/\H l=some (.lst xs)/\-(2 ^ 63)<=k/\k < 2 ^ 63/\xs.length * k.toNat<=sizeLine/\
  ∀p,H p=none->Q (.ref p) (upd H p (.lst (List.replicate k.toNat xs).flatten))
theorem Aa{α:Type}(xs:List α)(k:Nat):(List.replicate k xs).flatten.length=k * xs.length:=by
  induction k with
  | zero=>simp
  | succ k ih=>rw[List.replicate_succ,List.flatten_cons,List.length_append,ih,Nat.succ_mul,Nat.add_comm]
theorem Bq:jH X (binaryOp .Mult) Bp:=by
  intro pins s σ H x y v u Q I rx ry h
  obtain⟨l,k,xs,rfl,rfl,hH,h1,h2,hz,q⟩:=h
  cases rx
  obtain⟨t,rfl⟩:=ry
  obtain⟨z,its,n,r,hl,e⟩:=I.lstM hH
  have hlen:its.toArray.size * k.toNat<=sizeLine:=by rw[List.size_toArray,<-hl]; exact hz
  have hcap:¬its.toArray.size * k.toNat > (2 ^ 63 - 1) / 8:=by
    have:(sizeLine:Nat)<=(2 ^ 63 - 1) / 8:=by decide
    omega
  have hfit:¬(!Builtin.List.listFitsIndex k)=true:=by
    rw[fitsIndex_both h1 h2]
    exact Bool.false_ne_true
  have hlong:¬Builtin.List.listTooLong (its.toArray.size * k.toNat)=true:=by
    rw[xl hlen]
    exact Bool.false_ne_true
  have hnew:List.foldl (fun x1 x2=>x1 ++ x2) #[] (List.replicate (if its.toArray.isEmpty=true then 0 else k.toNat) its.toArray)=(List.replicate k.toNat its).flatten.toArray:=by
    have f0:∀m:Nat,List.foldl (fun x1 x2=>x1 ++ x2) #[] (List.replicate m its.toArray)=(List.replicate m its).flatten.toArray:=fun m=>by
      have:=Gy its m []
      rw[List.nil_append]at this
      exact this
    rw[f0]
    cases its with
    | nil=>simp
    | cons a r'=>rw[if_neg (by simp)]
  refine wpAny_binaryOp_repeat_ref (T := "list") (U := "int") (by decide) ⟨_,e,rfl⟩ (fun s'=>typeIs_int s' k t) noFill_list_mul F.fills_int_mul F.slot_int_rmul repeat_list F.slot_int_index.lookup
    (call_meets F.slot_int_rmul (typeIs_int s k t) F.entry_int_rmul (F.args_int_rmul_2 _ _) (int___rmul___int_list k t l its.toArray n)
      ⟨e,rfl,⟨_,e,rfl⟩,call_meets F.slot_list_mul ⟨_,e,rfl⟩ F.entry_list_mul (F.args_list_mul_2 _ _) (AutoListH.list___mul___list_int_3 l its.toArray n k t hfit hcap hlong) ⟨e,?_⟩⟩)
  rw[hnew]
  exact⟨.ref _,_,I.lnew (t':=s.toks) (r.rep k.toNat) (by rw[Aa,Nat.mul_comm]; exact hz),rfl,q _ I.fresh⟩
end
end L2
namespace Att
open PySem PySem.W PySem.Calls PyProof.Rows
theorem ints_of_wellAll{P:Params}{h:Heap}:∀(ns:List Int) (vs:List Value),WellAll P h vs (ns.map WData.int)->IntsAre vs ns:=by
  intro ns
  induction ns with
  | nil=>
    intro vs w
    rw[List.map_nil]at w
    cases w
    exact .nil
  | cons n ns ih=>
    intro vs w
    rw[List.map_cons]at w
    cases w with
    | cons a b=>
      cases a
      exact .cons _ _ (ih _ b)
theorem script_of{l:OpenLaw}{n:Nat}(hn:l.most=some n){P:Params}{h:Heap}{args:List WData}{vals:List Value}
    (hpre:l.row.toRowW.claim.pre args=true) (hwl:WellAll P h vals args):
    ∃a vs ns,vals=[Value.ref a]/\args=[WData.list (ns.map WData.int)]/\h.get? a=some { cls:=.type "list",data:=.seq vs.toArray }/\IntsAre vs ns/\ns.length<=n:=by
  have hsh:WShape.hasAll [] args [.list .int]=true:=(pre_splitW hpre).1
  have hc:l.pre.holds [] { args:=args }=true:=(pre_splitW hpre).2
  obtain⟨d,r,rfl,h1,h2⟩:=hasAllW_cons hsh
  obtain rfl:=hasAllW_nil h2
  obtain⟨xs,rfl,h3⟩:=hasW_list h1
  obtain⟨ns,rfl⟩:=items_int h3
  have hlen:ns.length<=n:=by
    unfold OpenLaw.pre at hc
    have h4:(WTm.not (.lt (.lit (.int (n:Int))) (.len (.arg 0)))).holds [] { args:=[.list (ns.map .int)] }=true:=by
      have h4:=(holds_andW hc).1
      rw[hn]at h4
      exact h4
    have h5:=condW_of h4 (w_not (w_lt w_lit (w_len_list (w_arg rfl))))
    rw[List.length_map]at h5
    refine Nat.le_of_not_lt fun q=>?_
    have q':(n:Int) < ((ns.length:Nat):Int):=by omega
    first
      | (rw[decide_eq_true q']at h5; exact absurd h5 (by decide))
      | (simp at h5; omega)
  cases hwl with
  | cons w1 w2=>
    cases w2
    cases w1 with
    | list ho hall=>exact⟨_,_,ns,rfl,rfl,ho,ints_of_wellAll ns _ hall,hlen⟩
theorem post_true(l:OpenLaw)(args:List WData):l.row.toRowW.claim.post args (.bool true) args=true:=
  postW_of (r:=l.row.toRowW) (X:=(true == true))
    (show WShape.has [] (.bool true) .bool=true by first | rfl | decide | simp[WShape.has,WShape.arms,WShape.armsAll])
    (show(WTm.eq .res (.lit (.bool true))).value [] { args:=args,res:=some (.bool true),after:=args }=some (.bool (true == true)) from w_eq_bool (w_res rfl) w_lit) rfl
theorem attach_call{l:OpenLaw}{n:Nat}{q:Program}{loose:List Str}{XP:(Str->Option Value)->Heap->Prop}{YP:World->Heap->Prop}{d:DefRec}
    (hn:l.most=some n) (hdf:d.params.defaults=[])
    (call:∀(w:World) (s₀ s₁:Shared) (mg mb:Str->Option Value) (fa:Addr) (o:Obj) (pm cd doc:Value) (a:Addr) (vs:List Value) (ns:List Int),
      Ground q loose [] XP w s₀ mg mb s₁.heap->YP w s₁.heap->
      s₁.heap.get? fa=some o->o.data=.func (docDef d.name d.params d.body d.scope pm cd doc)->s₁.heap.CodeRec cd d.name->mg d.name=some (.ref fa)->
      s₁.heap.get? a=some { cls:=.type "list",data:=.seq vs.toArray }->IntsAre vs ns->ns.length<=n->s₁.gens=#[]->
      codeAny (model l.prog w) callerA (.call (.ref fa) ⟨[.ref a],[]⟩) (fun r s'=>r=.ok (.ret (.bool true))/\OldK s₁.heap s'.heap/\s'.os=s₁.os/\AllBare s'.gens) s₁):
    WalkO q loose XP YP l.row.toRowW d [] (fun f vs=>PySem.call f vs):=by
  intro w s₀ s₁ mg mb G Y fa o pm cd doc dV kV ho hd hcd hD hmg hg args vals as hpre hlay hrd hwl hlo
  obtain rfl:dV=.none:=Dflts.none hD hdf
  obtain rfl:kV=.none:=Dflts.noKw hD
  obtain⟨a,vs,ns,rfl,rfl,hobj,hints,hlen⟩:=script_of hn hpre hwl
  refine enter_call (codeAny_mono (call w s₀ s₁ mg mb fa o pm cd doc a vs ns G Y ho (fd_plain hd) hcd hmg hobj hints hlen hg) fun r s' hq=>?_)
  obtain⟨rfl,h2,h3,h4⟩:=hq
  exact⟨.inl ⟨.bool true,.bool true,[],rfl,fun _=>rfl,.bool true,post_true l _,fun _=>⟨List.Pairwise.nil,fun _ hm=>(nomatch hm)⟩⟩,h2,h3,h4⟩
end Att
namespace L2
open PySem PySem.Spec PyProof.Rows
theorem Gz:∀{vs:List Value} {ns:List Int},IntsAre vs ns->jd (ns.map V.int) vs
  | _,_,.nil=>.nil
  | _,_,.cons n t h=>.cons ⟨t,rfl⟩ (Gz h)
noncomputable def xm(H:Hp):Prop:=∀b,H b=none∨∃o xs,H b=some (.frz o (.lst xs))
theorem xn{P:Program}{w:World}{K:PySem.W.Frag}{mg mb:Str->Option Value}{CX:VI}{k:Nat}{fa a:Addr}{fd:FuncData}{x:Str}{sp:Sp}{s₁:Shared}{vs:List Value}{ns:List Int}
    (KX:K.In s₁.heap) (hns:s₁.heap.Ns mainGlobals mg) (hb:s₁.heap.Ns builtinsNs mb) (hbb:∀x:Str,x≠ "__name__" ->mb x=bootBuiltins x) (hlim:s₁.heap.NoLimit) (hg:s₁.gens=#[])
    (ha:s₁.heap.get? a=some { cls:=.type "list",data:=.seq vs.toArray }) (hi:IntsAre vs ns) (hl:ns.length<=sizeLine) (hr:Room k callerA)
    (F:∀base:Heap,K.In base->base.Ns mainGlobals mg->FnOk P w K mg base CX k fa fd [x] sp) (hbind:∀(s:Shared) (u:Value),BindsTo s fd ⟨[u],[]⟩ [(x,u)])
    (hsp:∀H:Hp,xm H->jy K H a (ns.map V.int)->sp [.ref a] H (fun v _=>v=.bl true) fun _ _ _=>False)
    (hCX:∀H e s',CX [] H s₁ (fun _ _ _=>False) e s'->False):
    codeAny (model P w) callerA (.call (.ref fa) ⟨[.ref a],[]⟩) (fun r s'=>r=.ok (.ret (.bool true))/\OldK s₁.heap s'.heap/\s'.os=s₁.os/\AllBare s'.gens) s₁:=by
  have rv:=Gz hi
  have lenV:=hi.length
  have core:∀H:Hp,xm H->jy K H a (ns.map V.int)->JT P w H s₁.heap->(∀b,H b≠none->b=a)->(H a≠none->K.lookup a=none)->
      codeAny (model P w) callerA (.call (.ref fa) ⟨[.ref a],[]⟩) (fun r s'=>r=.ok (.ret (.bool true))/\OldK s₁.heap s'.heap/\s'.os=s₁.os/\AllBare s'.gens) s₁:=by
    intro H hO hS hok hA hK
    have base_of:∀{b:Addr} {o:Obj},s₁.heap.get? b=some o->H b=none->(vR s₁.heap H).get? b=some o:=fun e n=>QP e n
    have noA:∀{b:Addr} {o:Obj} {es:Array DictEntry} {ep:Nat},s₁.heap.get? b=some o->o.data=.dict es ep->H b=none:=fun {b o es ep} e d=>by
      cases q:H b with
      | none=>rfl
      | some u=>
        have e':b=a:=hA b (by rw[q]; simp)
        subst e'
        rw[ha]at e; cases e
        have d':Data.seq vs.toArray _=Data.dict es ep:=d
        cases d'
    have nsK:∀{b:Addr} {m:Str->Option Value},s₁.heap.Ns b m->(vR s₁.heap H).Ns b m:=fun {b m} ⟨o,es,ep,e,d,r⟩=>⟨o,es,ep,base_of e (noA e d),d,r⟩
    have hKb:K.In (vR s₁.heap H):=fun b o e=>base_of (KX b o e) (by
      cases q:H b with
      | none=>rfl
      | some u=>
        have e':b=a:=hA b (by rw[q]; simp)
        subst e'
        rw[hK (by rw[q]; simp)]at e; cases e)
    have hM:Mod K mg (vR s₁.heap H):=⟨hKb,nsK hns,⟨mb,nsK hb,hbb⟩,let ⟨mc,h1,h2⟩:=hlim; ⟨mc,nsK h1,h2⟩⟩
    have e0:Env0 P w K mg (vR s₁.heap H) callerA [] s₁ H:=⟨rfl,hM,fun b o e=>aN e,Nat.le_of_eq (qc _ _),trivial,fun b hb=>absurd (show b∈([]:List Addr) from hb) (by simp),hok,.of_eq hg⟩
    refine codeAny_mono ((F _ hKb (nsK hns)).run callerA [] s₁ H ⟨[.ref a],[]⟩ [.ref a] [.ref a] _ _ hr e0 (hbind s₁ (.ref a)) (.cons rfl .nil) (hsp H hO hS)) fun r s' h=>?_
    cases r with
    | error e=>exact(hCX H e s' h).elim
    | ok fl=>
      cases fl with
      | next=>exact False.elim h
      | brk=>exact False.elim h
      | cont=>exact False.elim h
      | ret u=>
        obtain⟨v,H',os,bare,un,hok',r',q⟩:=h
        have q':v=.bl true:=q
        subst q'
        obtain rfl:u=Value.bool true:=r'
        refine⟨rfl,OldK.of_keep fun b o e=>?_,os,bare⟩
        cases q:H b with
        | none=>exact un.keep b o e q (by intro z; exact absurd (show b∈([]:List Addr) from z) (by simp)) (by simp)
        | some u=>
          rcases hO b with z | ⟨ob,xs,z⟩
          · rw[q]at z; cases z
          · have z2:=un.frzs b ob _ z
            obtain⟨e1,_⟩:=hok b _ z
            obtain⟨e2,_⟩:=hok' b _ z2
            rw[e]at e1; cases e1
            exact e2
  cases hk:K.lookup a with
  | some o=>
    have e:=KX a o hk
    rw[ha]at e
    cases e
    refine core (fun _=>none) (fun _=>.inl rfl) (.inr ⟨_,vs.toArray,_,hk,rfl,rfl,rfl,by rw[List.size_toArray,lenV]; exact hl,by simpa using rv⟩) (fun b u z=>by have z':(none:Option HO)=some u:=z; cases z') (fun b z=>absurd rfl z) fun z=>absurd rfl z
  | none=>
    refine core (fun b=>if b=a then some (.frz { cls:=.type "list",data:=.seq vs.toArray } (.lst (ns.map V.int)))else none) (fun b=>?_) (.inl (.inr ⟨{ cls:=.type "list",data:=.seq vs.toArray },if_pos rfl⟩)) (fun b u z=>?_) (fun b z=>?_) fun _=>hk
    · by_cases hb:b=a
      · exact .inr ⟨_,_,if_pos hb⟩
      · exact .inl (if_neg hb)
    · by_cases hb:b=a
      · have z':=(if_pos hb).symm.trans z
        cases z'
        subst hb
        exact⟨ha,by rw[List.length_map]; exact hl,vs,_,rv,ha⟩
      · have z':=(if_neg hb).symm.trans z
        cases z'
    · by_cases hb:b=a
      · exact hb
      · exact absurd (if_neg hb) z
end L2
namespace L2
open PySem PySem.Spec PyProof.Rows
noncomputable abbrev i0{K:PySem.W.Frag}{h:Heap}(_:K.In h):PySem.W.Frag:=K
theorem Ab{l:PySem.W.OpenLaw}{n k:Nat}{q:Program}{loose:List Str}{XP:(Str->Option Value)->Heap->Prop}{YP:World->Heap->Prop}{d:DefRec}{K:Params->PySem.W.Frag}{CX:World->VI}{sp:World->Sp}{x:Str}
    (hn:l.most=some n) (hn2:n<=sizeLine) (hdf:d.params.defaults=[]) (hr:Room k callerA)
    (hY:∀(w:World) (h:Heap),YP w h->(K w.params).In h)
    (F:∀(w:World) (mg:Str->Option Value) (fa:Addr) (h:Heap),(K w.params).In h->h.Ns mainGlobals mg->mg d.name=some (.ref fa)->
      ∃fd:FuncData,(∀(s:Shared) (u:Value),BindsTo s fd ⟨[u],[]⟩ [(x,u)])/\
        ∀base:Heap,(K w.params).In base->base.Ns mainGlobals mg->FnOk l.prog w (K w.params) mg base (CX w) k fa fd [x] (sp w))
    (hsp:∀(w:World) (H:Hp) (a:Addr) (ns:List Int),ns.length<=n->xm H->jy (K w.params) H a (ns.map V.int)->sp w [.ref a] H (fun v _=>v=.bl true) fun _ _ _=>False)
    (hCX:∀(w:World) (H:Hp) (s:Shared) (e:Value) (s':Shared),CX w [] H s (fun _ _ _=>False) e s'->False):
    PySem.W.WalkO q loose XP YP l.row.toRowW d [] (fun f vs=>PySem.call f vs):=by
  refine Att.attach_call hn hdf fun w s₀ s₁ mg mb fa o pm cd doc a vs ns G Y ho hd hcd hmg hobj hints hlen hg=>?_
  have KX:=hY w _ Y
  obtain⟨fd,hb,hF⟩:=F w mg fa _ KX G.T.g hmg
  exact xn KX G.T.g G.T.b G.T.builtins G.T.nolimit hg hobj hints (Nat.le_trans hlen hn2) hr hF hb (fun H hO hS=>hsp w H a ns hlen hO hS) fun H e s'=>hCX w H s₁ e s'
end L2
namespace L2
open PySem PySem.Spec PyProof.Rows
noncomputable def inClass(s:Stmt)(j:Nat):Stmt:=match s with
  | .ClassDef _ _ _ body _ _ _ _ _ _ _=>body.getD j (.Pass ⟨0,0,0,0⟩)
  | _=>.Pass ⟨0,0,0,0⟩
noncomputable def defArgs(s:Stmt):Arguments:=match s with
  | .FunctionDef _ a _ _ _ _ _ _ _ _=>a
  | _=>{ posonlyargs:=[],args:=[],vararg:=none,kwonlyargs:=[],kw_defaults:=[],kwarg:=none,defaults:=[] }
noncomputable def defBody(s:Stmt):List Stmt:=match s with
  | .FunctionDef _ _ b _ _ _ _ _ _ _=>b
  | _=>[]
noncomputable def defScope(s:Stmt):Scope:=match s with
  | .FunctionDef _ _ _ _ _ _ sc _ _ _=>sc
  | _=>{ kind:=.function,names:=[],isGenerator:=false,isCoroutine:=false }
noncomputable abbrev Yb:VI:=fun _ _ _ _ _ _=>False
noncomputable abbrev E0:XK:=fun _ _ _=>False
theorem Wt{X:Cx}:vE Yb X E0:=fun _ _ _ _ _ _ _ h=>h.elim
structure Fun (K:PySem.W.Frag) (x qual:Str) (st:Stmt) (f:Addr) (fd:FuncData):Prop where
  ex:∃(oc:Value) (od:Option Addr) (kV doc pm:Value) (an:Option Addr) (cdv ct:Value) (osl:Array (Option Value)),
    fd=PySem.W.fnOf x qual (defArgs st) (defBody st) (defScope st) .none kV doc pm an cdv ct/\K.lookup f=some ⟨oc,od,.func fd,osl⟩/\PySem.W.codeIn K cdv qual=true
  kp:PySem.W.keepIn K (.ref f)=true
section
variable {P:Program} {w:World} {K:PySem.W.Frag} {mg:Str->Option Value} {base:Heap}
theorem Fun.ok{x qual:Str}{st:Stmt}{f:Addr}{fd:FuncData}{N ps:List Str}{k:Nat}{sp:Sp}(F:Fun K x qual st f fd)(S:FnScope N ps (defScope st))(len:∀vs H Q E,sp vs H Q E->vs.length=ps.length)
    (hbody:∀(cdv:Value) (A:Around) (outer:List Env) (s:Shared) (H:Hp) (vs:List V) (Q:VK) (E:XK),Room k (A.deeper (envOfC qual (defScope st) s.heap.objs.size f cdv))->sp vs H Q E->
      ∃t,Je (Ze Yb P w K mg base N qual (defScope st) f cdv A outer s H E).nox (defBody st) t/\t { nx:=fun _ H'=>Q .non H',rt:=Q } (Yq N vs) H):FnOk P w K mg base Yb (k + 1) f fd ps sp:=by
  obtain⟨oc,od,kV,doc,pm,an,cdv,ct,osl,rfl,lk,hcd⟩:=F.ex
  refine Dj lk hcd S len fun A outer s H vs Q E hr hsp=>?_
  obtain⟨t,h,q⟩:=hbody cdv A outer s H vs Q E hr hsp
  exact⟨t,h.nox,q⟩
theorem Fun.binds{x qual:Str}{st:Stmt}{f:Addr}{fd:FuncData}{ps:List Str}(F:Fun K x qual st f fd)
    (h:∀(kV doc pm:Value) (an:Option Addr) (cdv ct:Value) (us:List Value),us.length=ps.length->bindArgs (PySem.W.fnOf x qual (defArgs st) (defBody st) (defScope st) .none kV doc pm an cdv ct) ⟨us,[]⟩=pure (ps.zip us)):Yp K fd ps []:=by
  obtain⟨oc,od,kV,doc,pm,an,cdv,ct,osl,rfl,lk,hcd⟩:=F.ex
  exact .all (h kV doc pm an cdv ct)
theorem VM{x qual:Str}{st:Stmt}{f:Addr}{oc:Value}{od an:Option Addr}{osl:Array (Option Value)}{kV doc pm cdv ct:Value}(l:K.lookup f=some ⟨oc,od,.func (PySem.W.fnOf x qual (defArgs st) (defBody st) (defScope st) .none kV doc pm an cdv ct),osl⟩)
    (c:PySem.W.codeIn K cdv qual=true) (k:PySem.W.keepIn K (.ref f)=true):Fun K x qual st f (PySem.W.fnOf x qual (defArgs st) (defBody st) (defScope st) .none kV doc pm an cdv ct):=⟨⟨oc,od,kV,doc,pm,an,cdv,ct,osl,rfl,l,c⟩,k⟩
end
theorem qD{n:Nat}(h:n<=1000):n < sizeLine:=Nat.lt_of_le_of_lt h (by decide)
section
variable {X:Cx}
theorem pv(i:Nat){x:Str}{pos:Pos}(hN:X.N[i]?=some x:=by rfl)(hv:wF X.env.scope x:=by first | exact Or.inl rfl | exact Or.inr (Or.inl rfl) | exact Or.inr (Or.inr rfl))(hd:(x == ("__debug__" : Str))=false:=by decide)
    (hcd:(x == ("__classdict__" : Str))=false:=by decide):PE X (.Name x pos) (Zd i):=bq hN hv hd hcd
end
theorem zB{A B:Prop}(h:B):if false=true then A else B:=by
  rw[if_neg Bool.false_ne_true]
  exact h
theorem zC{A B:Prop}(h:A):if true=true then A else B:=by
  rw[if_pos rfl]
  exact h
noncomputable def j4(H H':Hp):Prop:=∀b o,H b=some o->H' b=some o
theorem j4.refl(H:Hp):j4 H H:=fun _ _ h=>h
theorem j4.trans{H H1 H2:Hp}(a:j4 H H1)(b:j4 H1 H2):j4 H H2:=fun c o h=>b c o (a c o h)
theorem j4.free{H H':Hp}(e:j4 H H'){l:Addr}(h:H' l=Option.none):H l=Option.none:=by
  cases q:H l with
  | none=>rfl
  | some o=>
    rw[e l o q]at h
    cases h
theorem j4.seq{K:PySem.W.Frag}{H H':Hp}{a:Addr}{xs:List V}(e:j4 H H')(h:jy K H a xs):jy K H' a xs:=by
  rcases h with(h | ⟨o,h⟩) | h
  · exact .inl (.inl (e _ _ h))
  · exact .inl (.inr ⟨o,e _ _ h⟩)
  · exact .inr h
end L2
set_option maxHeartbeats 4000000
namespace L2
open PySem PySem.Spec PyProof.Rows
noncomputable def Y2(env:Env):List (Str×NameKind)->List (Str×Addr)->List (Str×Addr)
  | [],cs=>cs
  | (n,k) :: r,cs=>Y2 env r (if k == .free then(match env.cells.lookup n with | some a=>(n,a) :: cs | none=>cs)else cs)
theorem gP{env:Env}:∀{ns:List (Str×NameKind)} {cs:List (Str×Addr)},(∀x c,cs.lookup x=some c->env.cells.lookup x=some c)->∀x c,(Y2 env ns cs).lookup x=some c->env.cells.lookup x=some c
  | [],_,h,x,c,e=>h x c e
  | (n,k) :: r,cs,h,x,c,e=>by
    refine gP (ns:=r) ?_ x c e
    intro y d q
    by_cases hk:(k == NameKind.free)=true
    · rw[if_pos hk]at q
      cases hl:env.cells.lookup n with
      | none=>rw[hl]at q; exact h y d q
      | some a=>
        rw[hl]at q
        have q:((n,a) :: cs).lookup y=some d:=q
        rw[List.lookup_cons]at q
        cases hy:(y == n)with
        | true=>
          rw[hy]at q
          have e1:y=n:=by simpa using hy
          have e2:a=d:=by simpa using q
          rw[e1,hl,e2]
        | false=>rw[hy]at q; exact h y d q
    · rw[if_neg hk]at q; exact h y d q
theorem GA{env:Env}:∀{ns:List (Str×NameKind)} {cs:List (Str×Addr)} {x:Str},(∃c,cs.lookup x=some c)->∃c,(Y2 env ns cs).lookup x=some c
  | [],_,_,h=>h
  | (n,k) :: r,cs,x,h=>by
    refine GA (ns:=r) ?_
    by_cases hk:(k == NameKind.free)=true
    · rw[if_pos hk]
      cases hl:env.cells.lookup n with
      | none=>exact h
      | some a=>
        show∃c,((n,a) :: cs).lookup x=some c
        rw[List.lookup_cons]
        cases hy:(x == n)with
        | true=>exact⟨a,rfl⟩
        | false=>exact h
    · rw[if_neg hk]; exact h
theorem Uh{env:Env}:∀{ns:List (Str×NameKind)} {cs:List (Str×Addr)} {x:Str},(x,NameKind.free)∈ns->(∃c,env.cells.lookup x=some c)->∃c,(Y2 env ns cs).lookup x=some c
  | (n,k) :: r,cs,x,hm,hc=>by
    rcases List.mem_cons.mp hm with e | hm
    · cases e
      obtain⟨c,hc⟩:=hc
      refine GA (ns:=r) ?_
      rw[if_pos (by rfl)]
      rw[hc]
      exact⟨c,by rw[List.lookup_cons]; simp⟩
    · exact Uh (ns:=r) hm hc
theorem wJ{scope:Scope}{env:Env}(h:∀y∈scope.names,y.2=.free->∃c,env.cells.lookup y.1=some c):closureFor scope env=pure (Y2 env scope.names []):=by
  unfold closureFor
  have go:∀(ns:List (Str×NameKind)) (cs:List (Str×Addr)),(∀y∈ns,y.2=.free->∃c,env.cells.lookup y.1=some c)->
      (forIn ns cs fun(x:Str×NameKind) (r:List (Str×Addr))=>(match x with
        | (name,kind)=>if (kind == NameKind.free)=true then(do let a<-cellOf env name; pure (ForInStep.yield ((name,a) :: r)))else pure (ForInStep.yield r):Sem (ForInStep (List (Str×Addr)))))=pure (Y2 env ns cs):=by
    intro ns
    induction ns with
    | nil=>intro cs _; rfl
    | cons p r ih=>
      obtain⟨n,k⟩:=p
      intro cs hh
      rw[List.forIn_cons]
      by_cases hk:(k == NameKind.free)=true
      · obtain⟨c,hc⟩:=hh (n,k) List.mem_cons_self (by simpa using hk)
        have hc:env.cells.lookup n=some c:=hc
        have e1:cellOf env n=pure c:=by unfold cellOf; rw[hc]
        have e2:Y2 env ((n,k) :: r) cs=Y2 env r ((n,c) :: cs):=by
          show Y2 env r (if (k == NameKind.free)=true then _ else _)=_
          rw[if_pos hk,hc]
        dsimp only
        rw[if_pos hk,e1,e2,<-ih ((n,c) :: cs) fun y hy=>hh y (List.mem_cons_of_mem _ hy)]
        rfl
      · have e2:Y2 env ((n,k) :: r) cs=Y2 env r cs:=by
          show Y2 env r (if (k == NameKind.free)=true then _ else _)=_
          rw[if_neg hk]
        dsimp only
        rw[if_neg hk,e2,<-ih cs fun y hy=>hh y (List.mem_cons_of_mem _ hy)]
        rfl
  exact(congrArg (fun m=>m >>= fun r=>(pure r:Sem (List (Str×Addr)))) (go scope.names [] h)).trans rfl
noncomputable def Cx.comp(X:Cx)(N':List Str)(scope:Scope)(s3:Shared)(H3:Hp)(ex':List Addr):Cx:=
  { X with N:=N',s₀:=s3,H₀:=H3,env:=compEnvC scope (Y2 X.env scope.names []) s3.heap.objs.size X.env,outer:=X.stack,stack:=X.stack,ex:=ex',fn:=fun _=>false,pn:=[],xe:=fun _ _=>False }
inductive Caps (X:Cx) (scope:Scope):List (Str×Nat)->Prop
  | nil:Caps X scope []
  | cons {y:Str} {j:Nat} {r:List (Str×Nat)}:X.N[j]?=some y->(X.env.kindOf y=some .cell∨X.env.kindOf y=some .free)->scope.names.lookup y=some .free->Caps X scope r->Caps X scope ((y,j) :: r)
theorem Caps.get{X:Cx}{scope:Scope}:∀{caps:List (Str×Nat)} {k:Nat} {y:Str} {j:Nat},Caps X scope caps->caps[k]?=some (y,j)->
    X.N[j]?=some y/\(X.env.kindOf y=some .cell∨X.env.kindOf y=some .free)/\scope.names.lookup y=some .free
  | _,_,_,_,.nil,e=>by simp at e
  | _,0,_,_,.cons a b c _,e=>by simp at e; obtain⟨rfl,rfl⟩:=e; exact⟨a,b,c⟩
  | _,k + 1,_,_,.cons _ _ _ t,e=>Caps.get (k:=k) t (by simpa using e)
noncomputable abbrev cN(own:List Str)(caps:List (Str×Nat)):List Str:=own ++ caps.map (·.1)
noncomputable abbrev ZN(own:List Str)(caps:List (Str×Nat))(σ:St):St:=own.map (fun _=>none) ++ caps.map fun p=>(σ[p.2]?).join
noncomputable def zD(X:Cx)(ifs:List Expr)(t:TT):Prop:=
  ∀(pins:List (Addr×Obj)) (s:Shared) (σ:St) (H:Hp) (Q:Bool->Hp->Prop),Inv X pins σ H s->t σ H Q->
    wpAny (model X.prog X.w) X.A (forIn ifs true fun c r=>if r=true then do let ok<-isTrue c X.env (eval c X.env); pure (ForInStep.yield ok)else pure (ForInStep.yield r)) (TP X pins σ Q) X.xe s
noncomputable def Dp:TT:=fun _ H Q=>Q true H
theorem Ad{X:Cx}:zD X [] Dp:=fun _ _ _ H _ I h=>wpAny_tests_nil ⟨H,I,h⟩
theorem Ae{X:Cx}{c:Expr}{t:TT}(h:PT X c t):zD X [c] t:=fun pins s σ H Q I q=>wpAny_tests_one (h pins s σ H Q I q)
theorem VN{scope:Scope}{env:Env}{x:Str}{k:NameKind}(h:(relabel scope env).names.lookup x=some k):∃k0,scope.names.lookup x=some k0/\(k=k0∨(k0=.free/\k=.cell)):=by
  have go:∀ns:List (Str×NameKind),(ns.map fun(n,k)=>if (k == NameKind.free && env.scope.kind == .function && env.kindOf n == some .cell)then(n,NameKind.cell)else(n,k)).lookup x=some k->
      ∃k0,ns.lookup x=some k0/\(k=k0∨(k0=.free/\k=.cell)):=by
    intro ns
    induction ns with
    | nil=>intro q; simp at q
    | cons p r ih=>
      obtain⟨n,k1⟩:=p
      intro q
      have q:List.lookup x ((if (k1 == NameKind.free && env.scope.kind == .function && env.kindOf n == some .cell)=true then(n,NameKind.cell)else(n,k1)) :: (r.map fun(n,k)=>if (k == NameKind.free && env.scope.kind == .function && env.kindOf n == some .cell)then(n,NameKind.cell)else(n,k)))=some k:=q
      by_cases hc:(k1 == NameKind.free && env.scope.kind == .function && env.kindOf n == some .cell)=true
      · rw[if_pos hc,List.lookup_cons]at q
        rw[List.lookup_cons]
        cases hx:(x == n)with
        | true=>
          rw[hx]at q
          have e:NameKind.cell=k:=by simpa using q
          refine⟨k1,rfl,.inr ⟨?_,e.symm⟩⟩
          simp only[Bool.and_eq_true]at hc
          simpa using hc.1.1
        | false=>rw[hx]at q; exact ih q
      · rw[if_neg hc,List.lookup_cons]at q
        rw[List.lookup_cons]
        cases hx:(x == n)with
        | true=>
          rw[hx]at q
          have e:k1=k:=by simpa using q
          exact⟨k1,rfl,.inl e.symm⟩
        | false=>rw[hx]at q; exact ih q
  exact go scope.names h
noncomputable def kI(k:Nat)(J:It)(σ0:St)(g:TG)(tc:TT)(te:TE)(Qv:VK)(W:Nat->Nat->List V->Hp->Prop):Prop:=∀i m vs H,W i m vs H->
    (J.stop i H/\vs.length<=sizeLine/\∀D,H D=none->Qv (.ref D) (upd H D (.lst vs)))∨
    (J.go i H/\vs.length < sizeLine/\∃N:List V->Hp->Prop,(∀vs' H',N vs' H'->∃m',m' < m/\W (i + 1) m' vs' H')/\
      ∀x H',J.yld i H x H'->g x σ0 H' fun σ2 H2=>σ2.drop k=σ0.drop k/\tc σ2 H2 fun b H3=>if b=true then te σ2 H3 fun y H4=>N (vs ++ [y]) H4 else N vs H3)
section
variable {X:Cx} {elt tg iter:Expr} {ifs:List Expr} {scope:Scope} {pos:Pos} {own:List Str} {caps:List (Str×Nat)} {g:TG} {tc:TT} {te:TE} {pins:List (Addr×Obj)} {σ:St} {H:Hp} {s2:Shared} {J:It} {fp:List Addr} {it:Addr} {tn:Nat->Heap->Prop} {Qv:VK}
theorem Af(hcell:∀y∈scope.names,y.2≠.cell)(hkind:scope.kind=.function)
    (hfr:∀y∈scope.names,y.2=.free->X.env.kindOf y.1=some .cell∨X.env.kindOf y.1=some .free)
    (I:Inv X pins σ H s2) {ex':List Addr} (hf:∀b∈ex',b < s2.heap.objs.size/\Jm X pins H b):(X.comp (cN own caps) scope s2 H ex').Ok:=by
  have cin:∀x c,(Y2 X.env scope.names []).lookup x=some c->X.env.cells.lookup x=some c:=gP fun _ _ e=>by simp at e
  refine⟨I.ok.mod,hkind,I.ok.glob,I.ok.blt,Nat.le_refl _,fun x y c h1 h2=>I.ok.inj x y c (cin x c h1) (cin y c h2),fun x hx=>?_,fun _ _ z=>(by cases z),I.ok.hd,I.ok.frames,.inl rfl,fun b hb=>⟨Nat.ne_of_lt (hf b hb).1,fun x c h=>(hf b hb).2.2.2.2.2.1 x c (cin x c h)⟩,
    I.bs,Nat.le_trans I.ok.bsz I.sz,fun b o e hb=>?_,fun b hb hs=>?_,I.stack,I.stkFree⟩
  · have q:∃k,(relabel scope X.env).names.lookup x=some k/\(k=.cell∨k=.free):=by
      rcases hx with hx | hx
      · exact⟨_,hx,.inl rfl⟩
      · exact⟨_,hx,.inr rfl⟩
    obtain⟨k,q,hk⟩:=q
    obtain⟨k0,q0,hk0⟩:=VN q
    have m0:=PySem.mem_of_lookup q0
    have e0:k0=.free:=by
      rcases hk0 with e | e
      · rcases hk with z | z
        · exact absurd (e.symm.trans z) (hcell _ m0)
        · exact e.symm.trans z
      · exact e.1
    subst e0
    exact Uh m0 (I.ok.has x (hfr _ m0 rfl))
  · rcases(hf b hb).2.2.2.2.1 with z | z
    · exact I.ok.noex b o e z
    · exact absurd (Nat.lt_of_lt_of_le (Heap.lt_size e) (Nat.le_trans I.ok.bsz z)) (Nat.lt_irrefl _)
  · rcases List.mem_cons.mp (I.stkSub b hs)with z | z
    · exact(hf b hb).2.2.1 z
    · exact(hf b hb).2.2.2.1 z
theorem Wu(hcell:∀y∈scope.names,y.2≠.cell)(hkind:scope.kind=.function)
    (hfr:∀y∈scope.names,y.2=.free->X.env.kindOf y.1=some .cell∨X.env.kindOf y.1=some .free) (hcap:Caps X scope caps)
    (I:Inv X pins σ H s2) {ex':List Addr} (hf:∀b∈ex',b < s2.heap.objs.size/\Jm X pins H b) {h1:Heap} {t:Nat} {m:Str->Option Value} (hn:h1.Ns s2.heap.objs.size m) (hk:∀b o,s2.heap.get? b=some o->h1.get? b=some o):
    Inv (X.comp (cN own caps) scope s2 H ex') [] (ZN own caps σ) H { s2 with heap:=h1,toks:=t }:=by
  have cin:∀x c,(Y2 X.env scope.names []).lookup x=some c->X.env.cells.lookup x=some c:=gP fun _ _ e=>by simp at e
  have ok:=Af (own:=own) (caps:=caps) hcell hkind hfr I hf
  refine⟨ok,rfl,I.bare,Un.kept hk,⟨m,hn,fun i x v e1 e2 e3=>?_⟩,fun x c e=>?_,I.hok.fresh (Nat.le_refl _),fun x c e=>I.freeC x c (cin x c e),fun p hp=>absurd (show p∈([]:List (Addr×Obj)) from hp) (by simp),I.hok.kept hk,by simp[Cx.comp,cN,ZN]⟩
  · by_cases hi:i < own.length
    · have e2:(own.map (fun _=>(none:Option V)) ++ caps.map fun p=>(σ[p.2]?).join)[i]?=some (some v):=e2
      rw[List.getElem?_append_left (by simpa using hi),List.getElem?_map]at e2
      cases q:own[i]? with
      | none=>rw[q]at e2; cases e2
      | some _=>rw[q]at e2; cases e2
    · have e2:(own.map (fun _=>(none:Option V)) ++ caps.map fun p=>(σ[p.2]?).join)[i]?=some (some v):=e2
      have e1:(own ++ caps.map (·.1))[i]?=some x:=e1
      rw[List.getElem?_append_right (by simpa using hi),List.getElem?_map]at e2
      rw[List.getElem?_append_right (by simpa using hi),List.getElem?_map]at e1
      rw[List.length_map]at e2
      cases q:caps[i - own.length]? with
      | none=>rw[q]at e1; cases e1
      | some p=>
        obtain⟨y,j⟩:=p
        rw[q]at e1 e2
        have e1:y=x:=Option.some.inj e1
        subst e1
        have e2:(σ[j]?).join=some v:=Option.some.inj e2
        obtain⟨a1,a2,a3⟩:=hcap.get q
        have sj:σ[j]?=some (some v):=by
          cases z:σ[j]? with
          | none=>rw[z]at e2; cases e2
          | some z'=>rw[z]at e2; exact congrArg some e2
        obtain⟨m0,hn0,hl0⟩:=I.loc
        have vis:wF X.env.scope y:=by
          rcases a2 with z | z
          · exact .inr (.inl z)
          · exact .inr (.inr z)
        obtain⟨u,r,l⟩:=hl0 j y v a1 sj vis
        refine⟨u,r,.inr ⟨?_,?_⟩⟩
        · rcases e3 with z | z
          · obtain⟨k0,q0,hk0⟩:=VN z
            rw[a3]at q0
            cases q0
            rcases hk0 with z' | z'
            · cases z'
            · cases z'.2
          · exact z
        · rcases l with⟨hk',_⟩ | ⟨_,c,hc,z⟩
          · rcases a2 with z | z <;> rw[hk']at z <;> cases z
          · obtain⟨c',hc'⟩:=Uh (cs:=[]) (PySem.mem_of_lookup a3) ⟨c,hc⟩
            have:=cin y c' hc'
            rw[hc]at this
            cases this
            obtain⟨o,ho,hd⟩:=z
            exact⟨c,hc',o,hk c o ho,hd⟩
  · obtain⟨v,o,ho,hd⟩:=I.cell x c (cin x c e)
    exact⟨v,o,hk c o ho,hd⟩
end
end L2
namespace L2
open PySem PySem.Spec PyProof.Rows
section
variable {X:Cx} {elt tg iter:Expr} {ifs:List Expr} {scope:Scope} {pos:Pos} {own:List Str} {caps:List (Str×Nat)} {g:TG} {tc:TT} {te:TE} {pins:List (Addr×Obj)} {σ:St} {H:Hp} {s2:Shared} {J:It} {fp:List Addr} {it:Addr} {tn:Nat->Heap->Prop} {Qv:VK}
theorem JT.adopt{P:Program}{w:World}{H:Hp}{h:Heap}{D:Addr}{vs:List V}{ys:List Value}{k:Nat}(x:JT P w H h)(hn:H D=none)(hl:vs.length<=sizeLine)(r:jd vs ys)(e:h.get? D=some { cls:=.type "list",data:=.seq ys.toArray k }):JT P w (upd H D (.lst vs)) h:=fun b u q=>by
  by_cases hb:b=D
  · subst hb
    rw[J7]at q
    cases q
    exact⟨hl,ys,k,r,e⟩
  · rw[jm hb]at q
    exact(x b u q).stay (fun _ _ _ z=>z) (fun c z=>by rw[jm (jx z hn)]; exact z) fun c xs z=>by rw[jm (jx z hn)]; exact z
theorem qE{N':List Str}{σ':St}{H':Hp}{s':Shared}{D:Addr}{vs:List V}{ys:List Value}{k:Nat}(I:Inv X pins σ H s2)(hD:D < s2.heap.objs.size)(fD:Jm X pins H D)(hf:∀b∈fp,Jm X pins H b)
    (J':Inv (X.comp N' scope s2 H (D :: fp)) [] σ' H' s') (hn:H' D=none) (hl:vs.length<=sizeLine) (r:jd vs ys) (e:s'.heap.get? D=some { cls:=.type "list",data:=.seq ys.toArray k }):
    Inv X pins σ (upd H' D (.lst vs)) s':=by
  have u:Un (Vj X.stack) (D :: fp) H H' s2.heap s'.heap:=J'.base
  have nD:∀b,b∉D :: fp->b≠D:=fun b hb z=>hb (by rw[z]; exact List.mem_cons_self)
  refine I.call' (ch:=D :: fp) J'.os ⟨u.keep,u.slot,fun b o q n hx=>?_,u.there,fun b xs q=>?_,fun b o v q=>?_,fun b ps q=>?_⟩ (J'.hok.adopt hn hl r e) J'.bare fun b hb=>?_
  · rw[jm (nD b hx)]; exact u.free b o q n hx
  · rw[jm (jx q fD.1)]; exact u.tups b xs q
  · rw[jm (jx q fD.1)]; exact u.frzs b o v q
  · rw[jm (jx q fD.1)]; exact u.tbls b ps q
  · have F:Jm X pins H b:=by
      rcases List.mem_cons.mp hb with z | z
      · rw[z]; exact fD
      · exact hf b z
    exact⟨F.2.2.2.1,F.2.1,F.2.2.2.2.1,F.2.2.2.2.2⟩
theorem Ag{C:Addr}{D:Addr}{W:Nat->Nat->List V->Hp->Prop}(hc:X.calm=true)
    (hg:∀s3 H3 ex',PG (X.comp (cN own caps) scope s3 H3 ex') tg g) (ht:∀s3 H3 ex',zD (X.comp (cN own caps) scope s3 H3 ex') ifs tc) (he:∀s3 H3 ex',PE (X.comp (cN own caps) scope s3 H3 ex') elt te)
    (I:Inv X pins σ H s2) (hD:D < s2.heap.objs.size) (fD:Jm X pins H D) (nDf:D∉fp) (hfl:∀b∈fp,b < s2.heap.objs.size) (hf:∀b∈fp,Jm X pins H b) (T:Turn X.prog X.w X.K tg J fp it tn) (turn:kI own.length J (ZN own caps σ) g tc te Qv W)
    (R:Result->Shared->Prop) (hR:∀s',(∃H' m,Inv X pins σ H' s'/\s'.heap.Ns s2.heap.objs.size m/\Jm X pins H' s2.heap.objs.size/\Qv (.ref D) H')->R (.ok .next) s')
    (n:Nat) (s4:Shared) (st:∃i vs H' ys k,Inv (X.comp (cN own caps) scope s2 H (D :: fp)) [] (ZN own caps σ) H' s4/\tn i s4.heap/\(∀b∈fp,H' b=none)/\H' D=none/\
      s4.heap.get? D=some { cls:=.type "list",data:=.seq (ys:List Value).toArray k }/\jd vs ys/\W i n vs H'):
    codeAny (model X.prog X.w) X.A (.compLoop (.ListComp elt [⟨tg,iter,ifs,0⟩] scope pos) 0 (.ref it) (.ref D) (X.comp (cN own caps) scope s2 H (D :: fp)).env) R s4:=by
  let Y:=X.comp (cN own caps) scope s2 H (D :: fp)
  have stat:∀{H':Hp},H' D=none->(∀b∈fp,H' b=none)->∀s':Shared,∀σ',Inv Y [] σ' H' s'->∀b∈D :: fp,Jm Y [] H' b:=fun {H'} h0 h1 s' σ' I' b hb=>by
    have hb':b < s2.heap.objs.size:=by
      rcases List.mem_cons.mp hb with z | z
      · rw[z]; exact hD
      · exact hfl b z
    refine⟨?_,Nat.ne_of_lt hb',I'.ok.exfs b hb,.inl hb,(I'.ok.exf b hb).2,fun p hp=>absurd (show p∈([]:List (Addr×Obj)) from hp) (by simp)⟩
    rcases List.mem_cons.mp hb with z | z
    · rw[z]; exact h0
    · exact h1 b z
  refine codeAny_loop rfl (fun n s'=>∃i vs H' ys k,Inv Y [] (ZN own caps σ) H' s'/\tn i s'.heap/\(∀b∈fp,H' b=none)/\H' D=none/\
      s'.heap.get? D=some { cls:=.type "list",data:=.seq (ys:List Value).toArray k }/\jd vs ys/\W i n vs H') ?_ n st
  rintro n s3 ⟨i,vs,H3,ys,k,I3,st3,fr3,n3,g3,r3,w3⟩
  show wpAny _ _ ((compTurn (.ListComp elt [⟨tg,iter,ifs,0⟩] scope pos) 0 (.ref it) (.ref D) Y.env).onRaise (fun x=>do noteFrame x Y.env; theTreesLotGoes x)) _ _ s3
  refine wpAny_noted ?_
  rw[compTurn_list]
  have F0:=stat n3 fr3 s3 _ I3
  have pinD:∀{σ':St} {H':Hp} {s':Shared} {ps:List (Addr×Obj)} {zs:List Value} {kk:Nat},Inv Y ps σ' H' s'->H' D=none->s'.heap.get? D=some { cls:=.type "list",data:=.seq zs.toArray kk }->Inv Y (ps ++ [(D,{ cls:=.type "list",data:=.seq zs.toArray kk })]) σ' H' s':=fun {σ' H' s' ps zs kk} I' hn hg'=>
    I'.pins_of fun p hp=>(List.mem_append.mp hp).elim (fun z=>I'.pin p (List.mem_append_right _ z)) fun z=>by
      have e:p=(D,{ cls:=.type "list",data:=.seq zs.toArray kk }):=by simpa using z
      subst e
      have f:=(stat n3 fr3 s3 _ I3) D List.mem_cons_self
      exact⟨hg',hn,f.2.1,f.2.2.1,fun v z=>by cases z⟩
  have I3p:=pinD I3 n3 g3
  have F3:∀b∈fp,Jm Y ([] ++ [(D,{ cls:=.type "list",data:=.seq ys.toArray k })]) H3 b:=fun b hb=>by
    obtain⟨f0,f1,f2,f3,f4,f5⟩:=F0 b (List.mem_cons_of_mem _ hb)
    refine⟨f0,f1,f2,f3,f4,fun p hp z=>?_⟩
    have e:p=(D,{ cls:=.type "list",data:=.seq ys.toArray k }):=by simpa[Y,Cx.comp]using hp
    subst e
    exact nDf (by rw[show D=b from z]; exact hb)
  rcases turn i n vs H3 w3 with⟨stop,hl,q⟩ | ⟨go,hl,N,hN,step⟩
  · refine wpAny_bind (wpAny_standAt (wpAny_bind (wpAny_mono (T.done Y rfl rfl rfl hc i _ s3 _ H3 (fun _ _=>False) I3p F3 st3 stop) (fun r s5 h5=>?_) fun _ _ z=>z.elim)))
    obtain⟨hr,I5p⟩:=h5
    subst hr
    refine wpAny_pure (hR s5 ?_)
    have g5:s5.heap.get? D=some { cls:=.type "list",data:=.seq ys.toArray k }:=(I5p.pin (D,_) (by simp)).1
    have I5:Inv Y [] (ZN own caps σ) H3 s5:=I5p.unpinned (pins:=[])
    obtain⟨m5,hm5,_⟩:=id I5.loc
    refine⟨_,m5,qE I hD fD hf I5 n3 hl r3 g5,hm5,I.fpOk (Nat.le_refl _) ?_,q D n3⟩
    rw[jm (Nat.ne_of_gt hD)]
    exact I5.free
  · refine wpAny_bind (wpAny_standAt (wpAny_bind (wpAny_mono (T.item Y rfl rfl rfl hc i _ s3 _ H3 (fun _ _=>False) I3p F3 st3 go) (fun r s5 h5=>?_) fun _ _ z=>z.elim)))
    obtain⟨u,hr,h5⟩:=h5
    subst hr
    refine wpAny_bind (wpAny_mono h5 (fun _ s6 h6=>?_) fun _ _ z=>z.elim)
    obtain⟨x,H6,I6,r6,y6,st6,fr6⟩:=h6
    have F6:∀b∈fp,Jm Y ([] ++ [(D,{ cls:=.type "list",data:=.seq ys.toArray k })]) H6 b:=fun b hb=>⟨fr6 b hb,(F3 b hb).2⟩
    have I6':=I6.pinned F6 (T.obj _ _ st6)
    refine wpAny_bind (wpAny_mono (hg s2 H (D :: fp) _ s6 _ H6 x u _ I6' r6 (step x H6 y6)) (fun _ s7 h7=>?_) fun _ _ z=>z.elim)
    obtain⟨σ7,H7,I7,d7,q7⟩:=h7
    refine wpAny_bind (wpAny_mono (ht s2 H (D :: fp) _ s7 σ7 H7 _ I7 q7) (fun b s8 h8=>?_) fun _ _ z=>z.elim)
    obtain⟨H8,I8,q8⟩:=h8
    have fin:∀{s9:Shared} {H9:Hp} {vs':List V} {zs:List Value} {kk:Nat},Inv Y [] σ7 H9 s9->tn (i + 1) s9.heap->(∀b∈fp,H9 b=none)->H9 D=none->s9.heap.get? D=some { cls:=.type "list",data:=.seq zs.toArray kk }->jd vs' zs->N vs' H9->
        ∃m,m < n/\∃i vs H' ys k,Inv Y [] (ZN own caps σ) H' s9/\tn i s9.heap/\(∀b∈fp,H' b=none)/\H' D=none/\s9.heap.get? D=some { cls:=.type "list",data:=.seq (ys:List Value).toArray k }/\jd vs ys/\W i m vs H':=fun {s9 H9 vs' zs kk} I9 st9 fr9 n9 g9 r9 w9=>by
      obtain⟨m',hm,w'⟩:=hN vs' H9 w9
      refine⟨m',hm,i + 1,vs',H9,zs,kk,?_,st9,fr9,n9,g9,r9,w'⟩
      have l9:σ7.length=(ZN own caps σ).length:=I9.len.trans (by simp[Y,Cx.comp,cN,ZN])
      refine I9.weak l9.symm fun j v e=>?_
      by_cases hj:j < own.length
      · rw[List.getElem?_append_left (by simpa using hj),List.getElem?_map]at e
        cases q:own[j]? with
        | none=>rw[q]at e; cases e
        | some _=>rw[q]at e; cases e
      · have z:=congrArg (fun l=>l[j - own.length]?) d7
        simp only[List.getElem?_drop]at z
        have ej:own.length + (j - own.length)=j:=by omega
        rw[ej]at z
        exact z.trans e
    have pins8:∀{s9:Shared} {H9:Hp},Inv Y ([] ++ [(D,{ cls:=.type "list",data:=.seq ys.toArray k })] ++ VF fp s6.heap) σ7 H9 s9->tn (i + 1) s9.heap/\(∀b∈fp,H9 b=none)/\H9 D=none/\s9.heap.get? D=some { cls:=.type "list",data:=.seq ys.toArray k }:=fun {s9 H9} I9=>by
      refine⟨T.keep _ _ _ st6 fun b hb o e=>(I9.pin (b,o) (List.mem_append_right _ (List.mem_append_right _ (z_ hb e)))).1,fun b hb=>?_,(I9.pin (D,{ cls:=.type "list",data:=.seq ys.toArray k }) (List.mem_append_right _ (List.mem_append_left _ (by simp)))).2.1,(I9.pin (D,{ cls:=.type "list",data:=.seq ys.toArray k }) (List.mem_append_right _ (List.mem_append_left _ (by simp)))).1⟩
      obtain⟨o,e,d⟩:=T.obj _ _ st6 b hb
      exact(I9.pin (b,o) (List.mem_append_right _ (List.mem_append_right _ (z_ hb e)))).2.1
    cases b with
    | false=>
      obtain⟨a1,a2,a3,a4⟩:=pins8 I8
      exact wpAny_pure ⟨rfl,fin (I8.unpinned.unpinned) a1 a2 a3 a4 r3 q8⟩
    | true=>
      refine wpAny_bind (wpAny_bind (wpAny_mono (he s2 H (D :: fp) _ s8 σ7 H8 _ I8 q8) (fun y s9 h9=>?_) fun _ _ z=>z.elim))
      obtain⟨v9,H9,I9,r9,q9⟩:=h9
      obtain⟨a1,a2,a3,a4⟩:=pins8 I9
      have hlz:ys.toArray.size<=sizeLine:=by
        have:=r3.length
        simp only[List.size_toArray]
        omega
      refine wpAny_bind (wpAny_list_append_plain (hsz:=hlz) ⟨k,a4⟩ fun h' hp sb=>wpAny_pure (wpAny_pure ⟨rfl,?_⟩))
      obtain⟨k',g'⟩:=hp
      have I9':Inv Y [] σ7 H9 s9:=I9.unpinned.unpinned
      have F9:=stat a3 a2 s9 _ I9' D List.mem_cons_self
      obtain⟨f0,f1,f2,f3,f4,f5⟩:=F9
      have I10:Inv Y [] σ7 H9 { s9 with heap:=h' }:=I9'.turned (t':=s9.toks) (fun b o hb e=>(sb.2 b hb).trans e) f0 f1 f3 f4 f5
      refine fin (zs:=ys ++ [y]) (kk:=k') I10 (T.keep _ _ _ a1 fun b hb o e=>(sb.2 b fun z=>nDf (by rw[<-z]; exact hb)).trans e) a2 a3 ?_ (r3.append (.cons r9 .nil)) q9
      rw[g']
      simp
end
end L2
namespace L2
open PySem PySem.Spec PyProof.Rows
structure CScope (X:Cx) (scope:Scope):Prop where
  kind:scope.kind=.function
  loc:(scope.names.all fun y=>y.2 != .local || scope.names.lookup y.1 == some .local)=true
  nocell:(scope.names.all fun y=>y.2 != .cell)=true
  free:(scope.names.all fun y=>y.2 != .free || X.env.scope.names.lookup y.1 == some .cell || X.env.scope.names.lookup y.1 == some .free)=true
section
variable {X:Cx} {elt tg iter:Expr} {ifs:List Expr} {scope:Scope} {pos:Pos} {own:List Str} {caps:List (Str×Nat)} {g:TG} {tc:TT} {te:TE} {pins:List (Addr×Obj)} {σ:St} {H:Hp} {s2:Shared} {J:It} {fp:List Addr} {it:Addr} {tn:Nat->Heap->Prop} {Qv:VK}
theorem CScope.l(S:CScope X scope):∀x∈scope.names,x.2=.local->scope.names.lookup x.1=some .local:=fun x hx e=>by
  have:=List.all_eq_true.mp S.loc x hx
  rw[e]at this
  simpa using this
theorem CScope.c(S:CScope X scope):∀x∈scope.names,x.2≠.cell:=fun x hx e=>by
  have:=List.all_eq_true.mp S.nocell x hx
  rw[e]at this
  simp at this
theorem CScope.f(S:CScope X scope):∀y∈scope.names,y.2=.free->X.env.kindOf y.1=some .cell∨X.env.kindOf y.1=some .free:=fun x hx e=>by
  have:=List.all_eq_true.mp S.free x hx
  rw[e]at this
  simpa[Env.kindOf]using this
theorem wK{E:Value->Shared->Prop}{RR:Value->Addr->Result->Shared->Prop}(S:CScope X scope)(hcap:Caps X scope caps)(hc:X.calm=true)
    (hg:∀s3 H3 ex',PG (X.comp (cN own caps) scope s3 H3 ex') tg g) (ht:∀s3 H3 ex',zD (X.comp (cN own caps) scope s3 H3 ex') ifs tc) (he:∀s3 H3 ex',PE (X.comp (cN own caps) scope s3 H3 ex') elt te)
    (I:Inv X pins σ H s2) (T:Turn X.prog X.w X.K tg J fp it tn) (st:tn 0 s2.heap) (hf:∀b∈fp,Jm X pins H b)
    (w:∃W,(∃m,W 0 m [] H)/\kI own.length J (ZN own caps σ) g tc te Qv W)
    (hRR:∀D C s' H' m,Inv X pins σ H' s'->s'.heap.Ns C m->Jm X pins H' C->Qv (.ref D) H'->RR (.ref D) C (.ok .next) s'):
    wpAny (model X.prog X.w) X.A (newList []) (fun acc s3=>wpAny (model X.prog X.w) X.A (newFunctionEnv scope X.env.globals (Y2 X.env scope.names []) [] X.env.qual none .none (some X.env)) (fun cenv s4=>
      codeAny (model X.prog X.w) X.A (.compStart (.ListComp elt [⟨tg,iter,ifs,0⟩] scope pos) 0 (.ref it) acc { cenv with scope:=relabel scope X.env }) (RR acc cenv.locals) s4) E s3) E s2:=by
  obtain⟨W,⟨m0,w0⟩,turn⟩:=w
  refine wpAny_newObj_type (wpAny_newFunctionEnv S.c (by intro y hy; simp at hy) (fun h1 hns hsb=>?_) S.kind)
  have hlt:∀b∈fp,b < s2.heap.objs.size:=fun b hb=>by
    obtain⟨o,e,_⟩:=T.obj _ _ st b hb
    exact Heap.lt_size e
  let s3:Shared:={ s2 with heap:=s2.heap.push { cls:=.type "list",dict:=none,data:=.seq ([]:List Value).toArray } }
  have e3:s3.heap.objs.size=s2.heap.objs.size + 1:=Heap.size_push ..
  have I3:Inv X pins σ H s3:=I.kept (t':=s2.toks) fun b o e=>Heap.get?_push_of_some _ e
  have fD:Jm X pins H s2.heap.objs.size:=I.fpOk (Nat.le_refl _) (I.hok.fresh (Nat.le_refl _))
  have hk:∀b o,s3.heap.get? b=some o->h1.get? b=some o:=fun b o e=>hsb.extBut b o (Nat.ne_of_lt (Heap.lt_size e)) (Heap.get?_push_of_some _ e)
  have hD:s2.heap.objs.size < s3.heap.objs.size:=by rw[e3]; exact Nat.lt_succ_self _
  have hl3:∀b∈fp,b < s3.heap.objs.size:=fun b hb=>Nat.lt_trans (hlt b hb) hD
  have I4:Inv (X.comp (cN own caps) scope s3 H (s2.heap.objs.size :: fp)) [] (ZN own caps σ) H { s3 with heap:=h1,toks:=s2.toks + ([]:List (Str×Value)).length }:=by
    refine Wu S.c S.kind S.f hcap I3 (fun b hb=>?_) hns hk
    rcases List.mem_cons.mp hb with z | z
    · rw[z]; exact⟨hD,fD⟩
    · exact⟨hl3 b z,hf b z⟩
  have st4:tn 0 h1:=T.keep _ _ _ st fun b hb o e=>hk b o (Heap.get?_push_of_some _ e)
  have g4:h1.get? s2.heap.objs.size=some { cls:=.type "list",data:=.seq ([]:List Value).toArray }:=hk _ _ (Heap.get?_push_size _ rfl)
  have loop:=Ag (C:=0) (iter:=iter) (pos:=pos) hc hg ht he I3 hD fD (fun z=>Nat.lt_irrefl _ (hlt _ z)) hl3 hf T turn (RR (.ref s2.heap.objs.size) s3.heap.objs.size) (fun s' ⟨H',m,a1,a2,a3,a4⟩=>hRR _ _ s' H' m a1 a2 a3 a4) m0
    { s3 with heap:=h1,toks:=s2.toks + ([]:List (Str×Value)).length } ⟨0,[],H,[],0,I4,st4,fun b hb=>(hf b hb).1,fD.1,g4,.nil,w0⟩
  exact codeAny_compStart_list loop (T.self _ 0 _ _ _ st4 loop)
noncomputable def Br(own:List Str)(caps:List (Str×Nat))(wi:TI)(g:TG)(tc:TT)(te:TE):TE:=fun σ H Q=>wi σ H fun J H1=>∃W,(∃m,W 0 m [] H1)/\kI own.length J (ZN own caps σ) g tc te Q W
theorem Dq{wi:TI}(own:List Str)(caps:List (Str×Nat))(S:CScope X scope)(hcap:Caps X scope caps)(hc:X.calm=true)(hi:PI X tg iter wi)
    (hg:∀s3 H3 ex',PG (X.comp (cN own caps) scope s3 H3 ex') tg g) (ht:∀s3 H3 ex',zD (X.comp (cN own caps) scope s3 H3 ex') ifs tc) (he:∀s3 H3 ex',PE (X.comp (cN own caps) scope s3 H3 ex') elt te)
    (hs:∀x,foldedSetIterable iter X.env x=pure x:=by intro _; rfl):PE X (.ListComp elt [⟨tg,iter,ifs,0⟩] scope pos) (Br own caps wi g tc te):=by
  intro pins s σ H Q I h
  rw[eval_ListComp]
  refine wpAny_comprehension_free (use:=none) rfl hs (wJ fun y hy e=>I.ok.has y.1 (S.f y hy e)) S.kind S.l (jp (hi pins s σ H _ I h) fun xv s1 h1=>jp h1 fun itv s2 h2=>?_)
  obtain⟨it,fp,tn,J,H2,e,I2,T,st,f2,w⟩:=h2
  subst e
  refine wK (RR:=fun acc C=>compPost (model X.prog X.w) X.A X.xe none (EP X pins σ Q) acc C) S hcap hc hg ht he I2 T st f2 w ?_
  intro D C s' H' m I' hn hf' q
  refine⟨m,hn,fun h' sb=>⟨.ref D,H',?_,rfl,q⟩⟩
  obtain⟨f0,f1,f2,f3,f4,f5⟩:=hf'
  exact I'.turned (t':=s'.toks) (fun b o hb e=>(sb.2 b hb).trans e) f0 f1 f3 f4 f5
theorem kJ{wi:TI}(own:List Str)(caps:List (Str×Nat)){i:Nat}{x:Str}{pos' spos:Pos}(hN:X.N.Nodup)(hix:X.N[i]?=some x)(hx:uU X.env.scope x)(S:CScope X scope)(hcap:Caps X scope caps)(hc:X.calm=true)(hi:PI X tg iter wi)
    (hg:∀s3 H3 ex',PG (X.comp (cN own caps) scope s3 H3 ex') tg g) (ht:∀s3 H3 ex',zD (X.comp (cN own caps) scope s3 H3 ex') ifs tc) (he:∀s3 H3 ex',PE (X.comp (cN own caps) scope s3 H3 ex') elt te)
    (hs:∀x,foldedSetIterable iter X.env x=pure x:=by intro _; rfl)
    (hsw:swapsWith (.ListComp elt [⟨tg,iter,ifs,0⟩] scope pos) (some (.Name x pos')) spos.line X.env=pure true:=by rfl) (hf:X.fn x=true∨X.env.scope.names.lookup x=some .local:=by first | exact .inl rfl | exact .inr rfl | assumption):
    PS X (.Assign [.Name x pos'] (.ListComp elt [⟨tg,iter,ifs,0⟩] scope pos) spos) (zA (Br own caps wi g tc te) (ZL i)):=by
  intro pins s σ H D I h
  rw[exec_Assign_Name_used _ _ _ _ hsw]
  refine wpAny_bind (wpAny_standAt (wpAny_bind ?_))
  show wpAny _ _ (do let _<-comprehension (.ListComp elt [⟨tg,iter,ifs,0⟩] scope pos) scope X.env _ (newList []) false (eval iter X.env) (some (assign (.Name x pos') X.env))) _ _ s
  refine wpAny_bind (wpAny_mono (wpAny_comprehension_free (use:=some (assign (.Name x pos') X.env)) (Q:=fun _ s'=>SP X pins D .next s') rfl hs (wJ fun y hy e=>I.ok.has y.1 (S.f y hy e)) S.kind S.l
    (jp (hi pins s σ H _ I h) fun xv s1 h1=>jp h1 fun itv s2 h2=>?_)) (fun _ s' hq=>wpAny_pure (wpAny_pure hq)) fun _ _ e=>e)
  obtain⟨it,fp,tn,J,H2,e,I2,T,st,f2,w⟩:=h2
  subst e
  refine wK (RR:=fun acc C=>compPost (model X.prog X.w) X.A X.xe (some (assign (.Name x pos') X.env)) (fun _ s'=>SP X pins D .next s') acc C) S hcap hc hg ht he I2 T st f2 w ?_
  intro A C s' H' m I' hn hf' q
  obtain⟨f0,f1,f2,f3,f4,f5⟩:=hf'
  show wpAny _ _ (assign (.Name x pos') X.env (.ref A)) _ _ _
  refine wpAny_assign_Name (Gs (v:=.ref A) I' hN hix hx rfl (fun s'' I'' hsb=>?_) hf)
  obtain⟨a,sb,ha⟩:=hsb
  have aC:C≠a:=by
    rcases ha with z | z
    · rw[z]; exact f1
    · exact fun e=>f4 x a z e.symm
  refine⟨m,hn.sameBut sb aC,fun h' sb'=>⟨_,H',?_,q⟩⟩
  exact I''.turned (t':=s''.toks) (fun b o hb e=>(sb'.2 b hb).trans e) f0 f1 f3 f4 f5
end
end L2
namespace L2
open PySem PySem.Spec PyProof.Rows
inductive Sk where
  | l | t
noncomputable def Vk(K:PySem.W.Frag):Sk->Hp->Addr->List V->Prop
  | .l=>jy K
  | .t=>Ju K
noncomputable def jV:Sk->Heap->Addr->Array Value->Prop
  | .l,h,a,vs=>h.IsList a vs
  | .t,h,a,vs=>h.IsTuple a vs
noncomputable def jX:Sk->Heap->Addr->Addr->Nat->Prop
  | .l,h,it,a,i=>h.IsListIter it a i
  | .t,h,it,a,i=>h.IsTupleIter it a i
theorem jV.at{k:Sk}{h h':Heap}{a:Addr}{vs:Array Value}(x:jV k h a vs)(e:∀o,h.get? a=some o->h'.get? a=some o):jV k h' a vs:=by
  cases k
  · exact Heap.IsList.at x e
  · obtain⟨o,ho,r⟩:=x; exact⟨o,e o ho,r⟩
theorem jX.at{k:Sk}{h h':Heap}{it a:Addr}{i:Nat}(x:jX k h it a i)(e:∀o,h.get? it=some o->h'.get? it=some o):jX k h' it a i:=by
  cases k <;> (obtain⟨o,ho,r⟩:=x; exact⟨o,e o ho,r⟩)
theorem jX.obj{k:Sk}{h:Heap}{it a:Addr}{i:Nat}(x:jX k h it a i):∃o,h.get? it=some o/\∀v,o.data≠.cell v:=by
  cases k <;> (obtain⟨o,ho,_,d⟩:=x; exact⟨o,ho,fun v z=>by rw[d]at z; cases z⟩)
theorem jV.lt{k:Sk}{h:Heap}{a:Addr}{vs:Array Value}(x:jV k h a vs):a < h.objs.size:=by
  cases k <;> (obtain⟨o,ho,_⟩:=x; exact Heap.lt_size ho)
section
variable {prog:Program} {w:World} {A:Around} {E:Value->Shared->Prop} {s:Shared} {it a:Addr} {i:Nat} {its:Array Value} {x:Value}
theorem GX{Q:Value->Shared->Prop}(hi:s.heap.IsTupleIter it a i)(ht:s.heap.IsTuple a its)(hx:its[i]?=some x)
    (hQ:∀h',h'.IsTupleIter it a (i + 1)->Heap.SameBut it s.heap h'->Q x { s with heap:=h' }):wpAny (model prog w) A (Builtin.SmallTypes.nextOf (.ref it)) Q E s:=by
  obtain⟨o,ho,hc,hd⟩:=id hi
  obtain⟨oa,hoa,_,na,hda⟩:=ht
  unfold Builtin.SmallTypes.nextOf
  refine wpAny_bind (wpAny_callSpecial?_slot (name:=Str.ofString "__next__") hi.typeIs F.slot_tuple_iterator_next (wpAny_call_entry F.slot_tuple_iterator_next hi.typeIs F.entry_tuple_iterator_next ?_ (F.args_tuple_iterator_next_1 _)))
  show wpAny _ _ (field (.ref it) 0 >>= _) _ _ s
  refine wpAny_bind (wpAny_field ho hd (x:=.ref a) rfl ?_)
  show wpAny _ _ (if (Value.ref a == Value.none)=true then _ else _) _ _ s
  have nn:¬((Value.ref a == Value.none)=true):=Bool.false_ne_true
  rw[if_neg nn]
  show wpAny _ _ (field (.ref it) 1 >>= _) _ _ s
  refine wpAny_bind (wpAny_field ho hd (x:=.int i 0) rfl ?_)
  show wpAny _ _ (seqItems? (.ref a) >>= _) _ _ s
  refine wpAny_bind (wpAny_seqItems hoa hda ?_)
  simp only[Int.toNat_natCast,hx]
  refine wpAny_bind (wpAny_setField ho hd (by simp) (wpAny_pure ⟨x,rfl,wpAny_pure (hQ _ ⟨_,Heap.get?_update_self _ ho (Obj.isFreed_of_fields (Obj.data_mapFields hd _)),(Obj.cls_mapFields ..).trans hc,?_⟩ (Heap.SameBut.update ..))⟩))
  rw[Obj.data_mapFields hd]
  simp[rawInt]
theorem kK{Q:Value->Shared->Prop}(hh:A.handled=none)(hi:s.heap.IsTupleIter it a i)(ht:s.heap.IsTuple a its)(hx:its[i]?=none)
    (hE:∀h' e,Heap.ExtBut it s.heap h'->(∃o,h'.get? e=some o/\o.cls=.type "StopIteration")->E (.ref e) { s with heap:=h' }):wpAny (model prog w) A (Builtin.SmallTypes.nextOf (.ref it)) Q E s:=by
  obtain⟨o,ho,hc,hd⟩:=id hi
  obtain⟨oa,hoa,_,na,hda⟩:=ht
  unfold Builtin.SmallTypes.nextOf
  refine wpAny_bind (wpAny_callSpecial?_slot (name:=Str.ofString "__next__") hi.typeIs F.slot_tuple_iterator_next (wpAny_call_entry F.slot_tuple_iterator_next hi.typeIs F.entry_tuple_iterator_next ?_ (F.args_tuple_iterator_next_1 _)))
  show wpAny _ _ (field (.ref it) 0 >>= _) _ _ s
  refine wpAny_bind (wpAny_field ho hd (x:=.ref a) rfl ?_)
  show wpAny _ _ (if (Value.ref a == Value.none)=true then _ else _) _ _ s
  have nn:¬((Value.ref a == Value.none)=true):=Bool.false_ne_true
  rw[if_neg nn]
  show wpAny _ _ (field (.ref it) 1 >>= _) _ _ s
  refine wpAny_bind (wpAny_field ho hd (x:=.int i 0) rfl ?_)
  show wpAny _ _ (seqItems? (.ref a) >>= _) _ _ s
  refine wpAny_bind (wpAny_seqItems hoa hda ?_)
  simp only[Int.toNat_natCast,hx]
  refine wpAny_bind (wpAny_rule (wpAny_bind (wpAny_setField ho hd (by simp) ?_)))
  show wpAny _ _ (newExc (.type "StopIteration") [] >>= _) _ _ _
  refine wpAny_bind ?_
  simp only[newExc,newTuple]
  refine wpAny_bind (wpAny_newObj_type ?_ (by size_fits))
  refine wpAny_bind (m:=firstArgMember _ _) (wpAny_of_eq (a:=Value.none) (by first | rfl | (simp only[firstArgMember]; rfl)) (wpAny_newObj_type ?_ (by size_fits)))
  simp only[raiseNew]
  refine wpAny_bind (wpAny_handled ?_)
  first | rw[show A.in1.handled=none from hh] | rw[hh]
  exact wpAny_bind (wpAny_pure (wpAny_throw (hE _ _ (((Heap.SameBut.update ..).extBut.push _).push _) ⟨_,Heap.get?_push_size _ rfl,rfl⟩)))
theorem VO{k:Sk}{Q:Value->Shared->Prop}(hi:jX k s.heap it a i)(ht:jV k s.heap a its)(hx:its[i]?=some x)
    (hQ:∀h',jX k h' it a (i + 1)->Heap.SameBut it s.heap h'->Q x { s with heap:=h' }):wpAny (model prog w) A (Builtin.SmallTypes.nextOf (.ref it)) Q E s:=by
  cases k
  · exact wpAny_nextOf_list_item hi ht hx hQ
  · exact GX hi ht hx hQ
theorem kL{k:Sk}{Q:Value->Shared->Prop}(hh:A.handled=none)(hi:jX k s.heap it a i)(ht:jV k s.heap a its)(hx:its[i]?=none)
    (hE:∀h' e,Heap.ExtBut it s.heap h'->(∃o,h'.get? e=some o/\o.cls=.type "StopIteration")->E (.ref e) { s with heap:=h' }):wpAny (model prog w) A (Builtin.SmallTypes.nextOf (.ref it)) Q E s:=by
  cases k
  · exact wpAny_nextOf_list_end hh hi ht hx hE
  · exact kK hh hi ht hx hE
noncomputable def vS(k:Sk)(a:Addr):Obj:={ cls:=.type (match k with | .l => "list_iterator" | .t => "tuple_iterator"),data:=.fields #[.ref a,.int 0 0] }
theorem US{k:Sk}{h:Heap}{it a:Addr}(e:h.get? it=some (vS k a)):jX k h it a 0:=by
  cases k <;> exact⟨_,e,rfl,rfl⟩
theorem wL{k:Sk}{Q:Value->Shared->Prop}(ht:jV k s.heap a its)(hQ:Q (.ref s.heap.objs.size) { s with heap:=s.heap.push (vS k a) }):wpAny (model prog w) A (pyIter (.ref a)) Q E s:=by
  cases k
  · exact wpAny_pyIter_list ht hQ
  · exact wpAny_pyIter_tuple ht hQ
end
noncomputable abbrev XA(k:Sk)(h:Heap)(a:Addr):Heap:=h.push (vS k a)
noncomputable abbrev qF(k j:Sk)(h:Heap)(a b:Addr):Heap:=(XA k h a).push (vS j b)
noncomputable abbrev XB(k j:Sk)(h:Heap)(a b:Addr):Heap:=(qF k j h a b).push { cls:=.type "tuple",data:=.seq #[.ref h.objs.size,.ref (XA k h a).objs.size] }
noncomputable abbrev XC(k j:Sk)(h:Heap)(a b:Addr):Heap:=(XB k j h a b).push { cls:=.type "tuple",data:=.seq #[.none,.none] }
noncomputable abbrev kM(k j:Sk)(h:Heap)(a b:Addr):Heap:=(XC k j h a b).push { cls:=.type "zip",data:=.fields #[.none,.bool false,.bool false,.ref (qF k j h a b).objs.size,.ref (XB k j h a b).objs.size] }
theorem GY(k j:Sk)(a b:Addr)(xs ys:Array Value):
    Meets (Builtin.«zip.__new__» ⟨[.type "zip",.ref a,.ref b],[]⟩) (fun _ R s=>jV k s.heap a xs/\jV j s.heap b ys/\R (.ok (.ret (.ref (XC k j s.heap a b).objs.size))) { s with heap:=kM k j s.heap a b }):=
  .of_wp fun prog w A R s h=>by
    obtain⟨hp,g,d,tk,os⟩:=s
    obtain⟨ha,hb,h⟩:=h
    have hsub:=sub_zip
    have ha':jV k (Shared.heap ⟨hp,g,d,tk,os⟩) a xs:=ha
    have hb':jV j (Shared.heap ⟨hp.push (vS k a),g,d,tk,os⟩) b ys:=hb.at fun o e=>Heap.get?_push_of_some _ e
    wp_walk using wL ha',wL hb'
    exact⟨_,rfl,h⟩
section
variable {prog:Program} {w:World} {A:Around} {E:Value->Shared->Prop} {s:Shared}
theorem xo{k j:Sk}{a b:Addr}{xs ys:Array Value}{Q:Value->Shared->Prop}(ha:jV k s.heap a xs)(hb:jV j s.heap b ys)
    (h:∀h',IsZip h' (s.heap.objs.size + 4) (s.heap.objs.size + 2) (s.heap.objs.size + 3) .none->IsPair h' (s.heap.objs.size + 2) (.ref s.heap.objs.size) (.ref (s.heap.objs.size + 1))->
      IsPair h' (s.heap.objs.size + 3) .none .none->jX k h' s.heap.objs.size a 0->jX j h' (s.heap.objs.size + 1) b 0->
      (∀c o,s.heap.get? c=some o->h'.get? c=some o)->Q (.ref (s.heap.objs.size + 4)) { s with heap:=h' }):
    wpAny (model prog w) A (call (.type "zip") [.ref a,.ref b]) Q E s:=by
  refine callType_new F.called_zip (by decide) (F.typeCall_zip_2 _ _) (F.newCall_zip_2 _ _) (fun obj=>F.args_object_init_3 obj _ _) F.entry_zip_new (GY k j a b xs ys) ⟨ha,hb,?_⟩
  have z1:(XA k s.heap a).objs.size=s.heap.objs.size + 1:=Heap.size_push ..
  have z2:(qF k j s.heap a b).objs.size=s.heap.objs.size + 2:=by rw[Heap.size_push,z1]
  have z3:(XB k j s.heap a b).objs.size=s.heap.objs.size + 3:=by rw[Heap.size_push,z2]
  have z4:(XC k j s.heap a b).objs.size=s.heap.objs.size + 4:=by rw[Heap.size_push,z3]
  have up:∀c o,(qF k j s.heap a b).get? c=some o->(kM k j s.heap a b).get? c=some o:=fun c o e=>Heap.get?_push_of_some _ (Heap.get?_push_of_some _ (Heap.get?_push_of_some _ e))
  have g5:(kM k j s.heap a b).get? (XC k j s.heap a b).objs.size=some _:=Heap.get?_push_size _ rfl
  have g4:(kM k j s.heap a b).get? (XB k j s.heap a b).objs.size=some _:=Heap.get?_push_of_some _ (Heap.get?_push_size _ rfl)
  have g3:(kM k j s.heap a b).get? (qF k j s.heap a b).objs.size=some _:=Heap.get?_push_of_some _ (Heap.get?_push_of_some _ (Heap.get?_push_size _ rfl))
  have g2:(kM k j s.heap a b).get? (XA k s.heap a).objs.size=some (vS j b):=up _ _ (Heap.get?_push_size _ rfl)
  have g1:(kM k j s.heap a b).get? s.heap.objs.size=some (vS k a):=up _ _ (Heap.get?_push_of_some _ (Heap.get?_push_size _ rfl))
  show _/\_
  rw[z2,z3,z4]at g5
  rw[z1,z2]at g3
  rw[z3]at g4
  rw[z1]at g2
  rw[z4]
  exact⟨⟨_,g5,rfl⟩,h _ g5 g3 g4 (US g1) (US g2) fun c o x=>up c o (Heap.get?_push_of_some _ (Heap.get?_push_of_some _ x))⟩
variable {z TI TO i1 i2 a b:Addr} {k j:Sk} {n1 n2:Nat} {xs ys:Array Value} {x y:Value}
theorem xp{u v:Value}{Q:Value->Shared->Prop}(D:ZipApart z TI TO i1 i2 a b)(hz:IsZip s.heap z TI TO .none)(hTI:IsPair s.heap TI (.ref i1) (.ref i2))(hTO:IsPair s.heap TO u v)
    (h1:jX k s.heap i1 a n1) (h2:jX j s.heap i2 b n2) (ha:jV k s.heap a xs) (hb:jV j s.heap b ys) (hx:xs[n1]?=some x) (hy:ys[n2]?=some y)
    (hQ:∀h',IsZip h' z TI TO (rawInt s.heap.objs.size)->IsPair h' TO x y->jX k h' i1 a (n1 + 1)->jX j h' i2 b (n2 + 1)->IsPair h' s.heap.objs.size x y->
      (∀c o,c≠z->c≠TO->c≠i1->c≠i2->s.heap.get? c=some o->h'.get? c=some o)->Q (.ref s.heap.objs.size) { s with heap:=h' }):
    wpAny (model prog w) A (Builtin.«zip.__next__» ⟨[.ref z],[]⟩) (fun fin s'=>∃v,fin=.done (.ret v)/\Q v s') E s:=by
  show wpAny _ _ (field (.ref z) 2 >>= _) _ _ _
  refine wpAny_bind (wpAny_field hz rfl (x:=.bool false) rfl ?_)
  show wpAny _ _ (field (.ref z) 3 >>= _) _ _ _
  refine wpAny_bind (wpAny_field hz rfl (x:=.ref TI) rfl (wpAny_bind (wpAny_seqItems hTI rfl ?_)))
  show wpAny _ _ (Builtin.SmallTypes.ownedTupleIsFree (.ref z) >>= _) _ _ _
  refine wpAny_bind ?_
  unfold Builtin.SmallTypes.ownedTupleIsFree
  refine wpAny_bind (wpAny_field hz rfl (x:=.none) rfl (wpAny_pure ?_))
  simp only[if_true]
  refine wpAny_bind (wpAny_rule (wpAny_bind (wpAny_field hz rfl (x:=.ref TO) rfl (wpAny_bind (wpAny_setField_rec hz (by simp) fun g1 z1 s1=>?_)))))
  replace z1:IsZip g1 z TI TO .ellipsis:=z1
  refine wpAny_bind ?_
  simp only[List.zipIdx_cons,List.zipIdx_nil,List.forIn_cons,List.forIn_nil]
  have e1:∀c o,c≠z->s.heap.get? c=some o->g1.get? c=some o:=fun c o hc e=>s1.extBut c o hc e
  refine wpAny_bind (wpAny_bind (wpAny_onRaise ?_))
  show wpAny _ _ (Builtin.SmallTypes.nextOf (.ref i1) >>= _) _ _ _
  refine wpAny_bind (VO (h1.at fun o e=>e1 _ o D.i1z e) (ha.at fun o e=>e1 _ o D.l1z e) hx fun g2 it2 s2=>wpAny_pure ?_)
  have e2:∀c o,c≠z->c≠i1->s.heap.get? c=some o->g2.get? c=some o:=fun c o hc hd e=>s2.extBut c o hd (e1 c o hc e)
  have t2:IsPair g2 TO u v:=e2 _ _ D.TOz D.TOi1 hTO
  refine wpAny_bind (wpAny_seqItems t2 rfl (wpAny_bind (wpAny_updateSeq_pair t2 fun g3 t3 s3=>?_)))
  replace t3:IsPair g3 TO x v:=t3
  refine wpAny_bind (wpAny_letGo (wpAny_pure (wpAny_bind (wpAny_bind (wpAny_onRaise ?_)))))
  have e3:∀c o,c≠z->c≠i1->c≠TO->s.heap.get? c=some o->g3.get? c=some o:=fun c o hc hd he e=>s3.extBut c o he (e2 c o hc hd e)
  show wpAny _ _ (Builtin.SmallTypes.nextOf (.ref i2) >>= _) _ _ _
  refine wpAny_bind (VO (h2.at fun o e=>e3 _ o D.i2z D.i12.symm D.TOi2.symm e) (hb.at fun o e=>e3 _ o D.l2z D.l2i1 D.l2TO e) hy fun g4 it4 s4=>wpAny_pure ?_)
  have t4:IsPair g4 TO x v:=s4.extBut _ _ D.TOi2 t3
  refine wpAny_bind (wpAny_seqItems t4 rfl (wpAny_bind (wpAny_updateSeq_pair t4 fun g5 t5 s5=>?_)))
  replace t5:IsPair g5 TO x y:=t5
  refine wpAny_bind (wpAny_letGo (wpAny_pure (wpAny_pure (wpAny_bind (wpAny_seqItems t5 rfl (wpAny_bind (wpAny_newTuple ?_)))))))
  have sz:g5.objs.size=s.heap.objs.size:=by rw[s5.1,s4.1,s3.1,s2.1,s1.1]
  have z5:IsZip g5 z TI TO .ellipsis:=s5.extBut _ _ D.TOz.symm (s4.extBut _ _ D.i2z.symm (s3.extBut _ _ D.TOz.symm (s2.extBut _ _ D.i1z.symm z1)))
  have e5:∀c o,c≠z->c≠TO->c≠i1->c≠i2->s.heap.get? c=some o->g5.get? c=some o:=fun c o c1 c2 c3 c4 e=>s5.extBut _ _ c2 (s4.extBut _ _ c4 (e3 c o c1 c3 c2 e))
  have it5:jX k g5 i1 a (n1 + 1):=((it2.at fun o e=>s3.extBut _ o D.TOi1.symm e).at fun o e=>s4.extBut _ o D.i12 e).at fun o e=>s5.extBut _ o D.TOi1.symm e
  have jt5:jX j g5 i2 b (n2 + 1):=it4.at fun o e=>s5.extBut _ o D.TOi2.symm e
  have lz:z < g5.objs.size:=Heap.lt_size z5
  show wpAny _ _ (Builtin.SmallTypes.ownedTupleHandOut (.ref z) (.ref g5.objs.size) >>= _) _ _ _
  refine wpAny_bind ?_
  unfold Builtin.SmallTypes.ownedTupleHandOut
  have z6:IsZip (g5.push { cls:=.type "tuple",data:=.seq #[x,y] }) z TI TO .ellipsis:=Heap.get?_push_of_some _ z5
  refine wpAny_bind (wpAny_setField_rec z6 (by simp) fun g7 z7 s7=>?_)
  replace z7:IsZip g7 z TI TO (rawInt g5.objs.size):=z7
  refine wpAny_setField_rec z7 (by simp) fun g8 z8 s8=>?_
  replace z8:IsZip g8 z TI TO (rawInt g5.objs.size):=z8
  have up:∀c o,c≠z->g5.get? c=some o->g8.get? c=some o:=fun c o c1 e=>s8.extBut _ _ c1 (s7.extBut _ _ c1 (Heap.get?_push_of_some _ e))
  have t8:IsPair g8 g5.objs.size x y:=s8.extBut _ _ (Nat.ne_of_gt lz) (s7.extBut _ _ (Nat.ne_of_gt lz) (Heap.get?_push_size _ rfl))
  rw[sz]at z8 t8
  refine wpAny_pure ⟨_,rfl,?_⟩
  show Q (.ref g5.objs.size) _
  rw[sz]
  exact hQ g8 z8 (up _ _ D.TOz t5) (it5.at fun o e=>up _ o D.i1z e) (jt5.at fun o e=>up _ o D.i2z e) t8 fun c o c1 c2 c3 c4 e=>up c o c1 (e5 c o c1 c2 c3 c4 e)
theorem xq{u v:Value}{Q:Fin->Shared->Prop}(hh:A.handled=none)(D:ZipApart z TI TO i1 i2 a b)(hz:IsZip s.heap z TI TO .none)(hTI:IsPair s.heap TI (.ref i1) (.ref i2))(hTO:IsPair s.heap TO u v)
    (h1:jX k s.heap i1 a n1) (h2:jX j s.heap i2 b n2) (ha:jV k s.heap a xs) (hb:jV j s.heap b ys) (hend:xs[n1]?=none∨ys[n2]?=none)
    (hE:∀h' e,(∀c o,c≠z->c≠TO->c≠i1->c≠i2->s.heap.get? c=some o->h'.get? c=some o)->(∃o,h'.get? e=some o/\o.cls=.type "StopIteration")->E (.ref e) { s with heap:=h' }):
    wpAny (model prog w) A (Builtin.«zip.__next__» ⟨[.ref z],[]⟩) Q E s:=by
  show wpAny _ _ (field (.ref z) 2 >>= _) _ _ _
  refine wpAny_bind (wpAny_field hz rfl (x:=.bool false) rfl ?_)
  show wpAny _ _ (field (.ref z) 3 >>= _) _ _ _
  refine wpAny_bind (wpAny_field hz rfl (x:=.ref TI) rfl (wpAny_bind (wpAny_seqItems hTI rfl ?_)))
  show wpAny _ _ (Builtin.SmallTypes.ownedTupleIsFree (.ref z) >>= _) _ _ _
  refine wpAny_bind ?_
  unfold Builtin.SmallTypes.ownedTupleIsFree
  refine wpAny_bind (wpAny_field hz rfl (x:=.none) rfl (wpAny_pure ?_))
  simp only[if_true]
  refine wpAny_bind (wpAny_rule (wpAny_bind (wpAny_field hz rfl (x:=.ref TO) rfl (wpAny_bind (wpAny_setField_rec hz (by simp) fun g1 z1 s1=>?_)))))
  replace z1:IsZip g1 z TI TO .ellipsis:=z1
  refine wpAny_bind ?_
  simp only[List.zipIdx_cons,List.zipIdx_nil,List.forIn_cons,List.forIn_nil]
  have e1:∀c o,c≠z->s.heap.get? c=some o->g1.get? c=some o:=fun c o hc e=>s1.extBut c o hc e
  refine wpAny_bind (wpAny_bind (wpAny_onRaise ?_))
  show wpAny _ _ (Builtin.SmallTypes.nextOf (.ref i1) >>= _) _ _ _
  cases hx:xs[n1]? with
  | none=>
    refine wpAny_bind (kL hh (h1.at fun o e=>e1 _ o D.i1z e) (ha.at fun o e=>e1 _ o D.l1z e) hx fun g2 e s2 he=>?_)
    obtain⟨oe,hoe,hce⟩:=he
    have z2:IsZip g2 z TI TO .ellipsis:=s2 _ _ D.i1z.symm z1
    have ez:e≠z:=fun q=>by subst q; rw[z2]at hoe; cases hoe; simp at hce
    exact wpAny_setField_rec z2 (by simp) fun g3 _ s3=>hE g3 e (fun c o c1 _ c3 _ q=>s3.extBut _ _ c1 (s2 _ _ c3 (e1 _ _ c1 q))) ⟨oe,s3.extBut _ _ ez hoe,hce⟩
  | some x=>
    have hy:ys[n2]?=none:=by
      rcases hend with q | q
      · rw[hx]at q; cases q
      · exact q
    refine wpAny_bind (VO (h1.at fun o e=>e1 _ o D.i1z e) (ha.at fun o e=>e1 _ o D.l1z e) hx fun g2 it2 s2=>wpAny_pure ?_)
    have e2:∀c o,c≠z->c≠i1->s.heap.get? c=some o->g2.get? c=some o:=fun c o hc hd e=>s2.extBut c o hd (e1 c o hc e)
    have t2:IsPair g2 TO u v:=e2 _ _ D.TOz D.TOi1 hTO
    refine wpAny_bind (wpAny_seqItems t2 rfl (wpAny_bind (wpAny_updateSeq_pair t2 fun g3 t3 s3=>?_)))
    refine wpAny_bind (wpAny_letGo (wpAny_pure (wpAny_bind (wpAny_bind (wpAny_onRaise ?_)))))
    have e3:∀c o,c≠z->c≠i1->c≠TO->s.heap.get? c=some o->g3.get? c=some o:=fun c o hc hd he e=>s3.extBut c o he (e2 c o hc hd e)
    show wpAny _ _ (Builtin.SmallTypes.nextOf (.ref i2) >>= _) _ _ _
    refine wpAny_bind (kL hh (h2.at fun o e=>e3 _ o D.i2z D.i12.symm D.TOi2.symm e) (hb.at fun o e=>e3 _ o D.l2z D.l2i1 D.l2TO e) hy fun g4 e s4 he=>?_)
    obtain⟨oe,hoe,hce⟩:=he
    have z4:IsZip g4 z TI TO .ellipsis:=s4 _ _ D.i2z.symm (s3.extBut _ _ D.TOz.symm (s2.extBut _ _ D.i1z.symm z1))
    have ez:e≠z:=fun q=>by subst q; rw[z4]at hoe; cases hoe; simp at hce
    exact wpAny_setField_rec z4 (by simp) fun g5 _ s5=>hE g5 e (fun c o c1 c2 c3 c4 q=>s5.extBut _ _ c1 (s4 _ _ c4 (e3 c o c1 c3 c2 q))) ⟨oe,s5.extBut _ _ ez hoe,hce⟩
theorem Wv{u v:Value}{Q:Option Value->Shared->Prop}(D:ZipApart z TI TO i1 i2 a b)(hz:IsZip s.heap z TI TO .none)(hTI:IsPair s.heap TI (.ref i1) (.ref i2))(hTO:IsPair s.heap TO u v)
    (h1:jX k s.heap i1 a n1) (h2:jX j s.heap i2 b n2) (ha:jV k s.heap a xs) (hb:jV j s.heap b ys) (hx:xs[n1]?=some x) (hy:ys[n2]?=some y)
    (hQ:∀h',IsZip h' z TI TO (rawInt s.heap.objs.size)->IsPair h' TO x y->jX k h' i1 a (n1 + 1)->jX j h' i2 b (n2 + 1)->IsPair h' s.heap.objs.size x y->
      (∀c o,c≠z->c≠TO->c≠i1->c≠i2->s.heap.get? c=some o->h'.get? c=some o)->Q (some (.ref s.heap.objs.size)) { s with heap:=h' }):
    wpAny (model prog w) A (pyNext (.ref z)) Q E s:=by
  have hT:s.TypeIs (.ref z) "zip" := ⟨_,hz,rfl⟩
  unfold pyNext
  exact wpAny_bind (wpAny_attempt (wpAny_callSpecial?_slot (name:=Str.ofString "__next__") hT F.slot_zip_next (wpAny_call_entry F.slot_zip_next hT F.entry_zip_next
      (xp D hz hTI hTO h1 h2 ha hb hx hy fun h' a1 a2 a3 a4 a5 a6=>wpAny_pure (hQ h' a1 a2 a3 a4 a5 a6)) (F.args_zip_next_1 _))))
theorem qG{u v:Value}{Q:Option Value->Shared->Prop}(hh:A.handled=none)(D:ZipApart z TI TO i1 i2 a b)(hz:IsZip s.heap z TI TO .none)(hTI:IsPair s.heap TI (.ref i1) (.ref i2))(hTO:IsPair s.heap TO u v)
    (h1:jX k s.heap i1 a n1) (h2:jX j s.heap i2 b n2) (ha:jV k s.heap a xs) (hb:jV j s.heap b ys) (hend:xs[n1]?=none∨ys[n2]?=none)
    (hQ:∀h',(∀c o,c≠z->c≠TO->c≠i1->c≠i2->s.heap.get? c=some o->h'.get? c=some o)->Q none { s with heap:=h' }):wpAny (model prog w) A (pyNext (.ref z)) Q E s:=by
  have hT:s.TypeIs (.ref z) "zip" := ⟨_,hz,rfl⟩
  unfold pyNext
  refine wpAny_bind (wpAny_attempt (wpAny_callSpecial?_slot (name:=Str.ofString "__next__") hT F.slot_zip_next (wpAny_call_entry F.slot_zip_next hT F.entry_zip_next (xq hh D hz hTI hTO h1 h2 ha hb hend fun h' e hk he=>?_) (F.args_zip_next_1 _))))
  obtain⟨o,ho,hc⟩:=he
  exact wpAny_bind (wpAny_isInstance (T := "StopIteration") (b:=true) ⟨o,ho,hc⟩ isSubtype_stop (wpAny_pure (hQ _ hk)))
end
end L2
namespace L2
open PySem PySem.Spec PyProof.Rows
section
variable {X:Cx} {pins:List (Addr×Obj)} {σ:St} {H:Hp} {s:Shared} {h':Heap}
theorem Inv.turnedL{t':Nat}{ch:List Addr}(I:Inv X pins σ H s)(hch:∀b∈ch,Jm X pins H b)(k:∀c o,c∉ch->s.heap.get? c=some o->h'.get? c=some o):Inv X pins σ H { s with heap:=h',toks:=t' }:=by
  have nit:∀b u,H b=some u->b∉ch:=fun b u e z=>by rw[(hch b z).1]at e; cases e
  refine I.step (g':=s.gens) (d':=s.drawn) (ch:=ch) (fun b hb=>?_) (fun b o _ _ hc e _=>k b o hc e) (fun b o _ _ hc e _=>⟨o.slots,k b o hc e⟩) (fun _ _ _ _ n=>n)
    (fun b o hc e=>⟨o,k b o hc e⟩) (fun _ _ e=>e) (fun _ _ _ e=>e) (fun b ps e=>⟨#[],by rw[e]; simp⟩) (fun m hm=>?_) (fun b u e=>?_) I.bare
  · obtain⟨f0,f1,f2,f3,f4,f5⟩:=hch b hb
    exact⟨f3,f1,f4,f5⟩
  · obtain⟨o,es,ep,ho,r⟩:=hm
    exact⟨o,es,ep,k _ o (fun z=>(hch _ z).2.1 rfl) ho,r⟩
  · refine(I.hok b u e).stay (fun c v hc q=>k c v ?_ q) (fun _ q=>q) fun _ _ q=>q
    rcases hc with z | z
    · rw[z]; exact nit b u e
    · exact nit c _ z
theorem Inv.tupled{t':Nat}{ch:List Addr}{T:Addr}{vs:List V}{us:List Value}(I:Inv X pins σ H s)(hT:T=s.heap.objs.size)(hch:∀b∈ch,Jm X pins H b)(k:∀c o,c∉ch->s.heap.get? c=some o->h'.get? c=some o)
    (r:jd vs us) (hz:vs.length<=sizeLine) (ht:IsTup h' T us.toArray):Inv X pins σ (upd H T (.tup vs)) { s with heap:=h',toks:=t' }:=by
  have nit:∀b u,H b=some u->b∉ch:=fun b u e z=>by rw[(hch b z).1]at e; cases e
  have nT:∀b o,s.heap.get? b=some o->b≠T:=fun b o e=>by rw[hT]; exact Nat.ne_of_lt (Heap.lt_size e)
  have fT:H T=none:=by rw[hT]; exact I.hok.fresh (Nat.le_refl _)
  refine I.step (g':=s.gens) (d':=s.drawn) (ch:=ch) (fun b hb=>?_) (fun b o _ _ hc e _=>k b o hc e) (fun b o _ _ hc e _=>⟨o.slots,k b o hc e⟩) (fun b o _ e n=>by rw[jm (nT b o e)]; exact n)
    (fun b o hc e=>⟨o,k b o hc e⟩) (fun b xs e=>by rw[jm (jx e fT)]; exact e) (fun b o u e=>by rw[jm (jx e fT)]; exact e) (fun b ps e=>⟨#[],by rw[jm (jx e fT),e]; simp⟩) (fun m hm=>?_) (fun b u e=>?_) I.bare
  · obtain⟨f0,f1,f2,f3,f4,f5⟩:=hch b hb
    exact⟨f3,f1,f4,f5⟩
  · obtain⟨o,es,ep,ho,r⟩:=hm
    exact⟨o,es,ep,k _ o (fun z=>(hch _ z).2.1 rfl) ho,r⟩
  · by_cases hb:b=T
    · subst hb
      rw[J7]at e
      cases e
      exact⟨hz,us,r,ht⟩
    · rw[jm hb]at e
      refine(I.hok b u e).stay (fun c v hc q=>k c v ?_ q) (fun c q=>by rw[jm (jx q fT)]; exact q) fun c xs q=>by rw[jm (jx q fT)]; exact q
      rcases hc with z | z
      · rw[z]; exact nit b u e
      · exact nit c _ z
theorem Inv.seqK{k:Sk}{a:Addr}{xs:List V}(I:Inv X pins σ H s)(h:Vk X.K k H a xs):∃its:List Value,jd xs its/\jV k s.heap a its.toArray/\xs.length<=sizeLine:=by
  cases k
  · obtain⟨its,r,p,z⟩:=I.list h
    exact⟨its,r,p.isList,z⟩
  · obtain⟨its,r,p,z⟩:=I.tuple h
    exact⟨its,r,p,z⟩
theorem Inv.seqK_inj{k:Sk}{a:Addr}{xs ys:List V}(I:Inv X pins σ H s)(h:Vk X.K k H a xs)(h':Vk X.K k H a ys):xs=ys:=by
  cases k
  · exact I.list_inj h h'
  · exact I.tuple_inj h h'
end
theorem zm:2<=sizeLine:=by decide
noncomputable def E9(K:PySem.W.Frag)(k j:Sk)(a b:Addr):It:=
  ⟨fun i H=>∃xs ys x y,Vk K k H a xs/\Vk K j H b ys/\xs[i]?=some x/\ys[i]?=some y,
   fun i H v H'=>∃p,H p=none/\v=.ref p/\∀xs ys x y,Vk K k H a xs->Vk K j H b ys->xs[i]?=some x->ys[i]?=some y->H'=upd H p (.tup [x,y]),
   fun i H=>∃xs ys,Vk K k H a xs/\Vk K j H b ys/\(xs.length<=i∨ys.length<=i)⟩
theorem xr{P:Program}{w:World}{K:PySem.W.Frag}{es:List Expr}{x1:Nat}{tp:Pos}{k j:Sk}{a b z TI TO i1 i2:Addr}(D:ZipApart z TI TO i1 i2 a b):
    Turn P w K (.Tuple es x1 tp) (E9 K k j a b) [z,TI,TO,i1,i2] z (fun i h=>IsZip h z TI TO .none/\IsPair h TI (.ref i1) (.ref i2)/\(∃u v,IsPair h TO u v)/\jX k h i1 a i/\jX j h i2 b i) where
  mem:=by simp
  obj:=fun i h st c hc=>by
    obtain⟨s1,s2,⟨u,v,s3⟩,s4,s5⟩:=st
    simp only[List.mem_cons,List.not_mem_nil,or_false]at hc
    rcases hc with rfl | rfl | rfl | rfl | rfl
    · exact⟨_,s1,fun v z=>by cases z⟩
    · exact⟨_,s2,fun v z=>by cases z⟩
    · exact⟨_,s3,fun v z=>by cases z⟩
    · exact s4.obj
    · exact s5.obj
  keep:=fun i h h' st kk=>by
    obtain⟨s1,s2,⟨u,v,s3⟩,s4,s5⟩:=st
    exact⟨kk z (by simp) _ s1,kk TI (by simp) _ s2,⟨u,v,kk TO (by simp) _ s3⟩,s4.at fun o e=>kk i1 (by simp) o e,s5.at fun o e=>kk i2 (by simp) o e⟩
  item:=by
    intro X hP hw hK hc i pins s σ H E I hf st hg
    subst hP hw hK
    obtain⟨s1,s2,⟨u,v,s3⟩,s4,s5⟩:=st
    obtain⟨xs,ys,x,y,qa,qb,ex,ey⟩:=hg
    obtain⟨ia,ra,pa,_⟩:=I.seqK qa
    obtain⟨ib,rb,pb,_⟩:=I.seqK qb
    obtain⟨ux,eux,rx⟩:=ra.get ex
    obtain⟨uy,euy,ry⟩:=rb.get ey
    refine Wv D s1 s2 s3 s4 s5 pa pb (x:=ux) (y:=uy) (by simpa using eux) (by simpa using euy) fun h' b1 b2 b3 b4 b5 bk=>?_
    refine⟨_,rfl,wpAny_letOwnedTupleGo_zip b1 fun h2 c1 c2=>?_⟩
    have F4:∀c∈[z,TO,i1,i2],Jm X pins H c:=fun c hc=>hf c (by
      simp only[List.mem_cons,List.not_mem_nil,or_false]at hc⊢
      rcases hc with q | q | q | q
      · exact .inl q
      · exact .inr (.inr (.inl q))
      · exact .inr (.inr (.inr (.inl q)))
      · exact .inr (.inr (.inr (.inr q))))
    have kp:∀c o,c∉[z,TO,i1,i2]->s.heap.get? c=some o->h2.get? c=some o:=fun c o hc e=>by
      simp only[List.mem_cons,List.not_mem_nil,or_false,not_or]at hc
      exact c2.extBut c o hc.1 (bk c o hc.1 hc.2.1 hc.2.2.1 hc.2.2.2 e)
    have nz:s.heap.objs.size≠z:=Nat.ne_of_gt (Heap.lt_size s1)
    have ht:IsTup h2 s.heap.objs.size ([ux,uy]:List Value).toArray:=⟨_,c2.extBut _ _ nz b5,rfl,_,rfl⟩
    have I2:=I.tupled (t':=s.toks) (h':=h2) rfl F4 kp (vs:=[x,y]) (us:=[ux,uy]) (.cons rx (.cons ry .nil)) zm ht
    refine⟨.ref s.heap.objs.size,_,I2,rfl,⟨s.heap.objs.size,I.hok.fresh (Nat.le_refl _),rfl,fun xs' ys' x' y' qa' qb' ex' ey'=>?_⟩,⟨c1,kp _ _ (by simp[D.TIz,D.TITO,D.TIi1,D.TIi2]) s2,⟨ux,uy,c2.extBut _ _ D.TOz b2⟩,b3.at fun o e=>c2.extBut _ o D.i1z e,b4.at fun o e=>c2.extBut _ o D.i2z e⟩,fun c hc=>?_⟩
    · rw[I.seqK_inj qa' qa,ex]at ex'
      rw[I.seqK_inj qb' qb,ey]at ey'
      cases ex'
      cases ey'
      rfl
    · have q:=(hf c hc).1
      rw[jm ?_]
      · exact q
      · intro e
        have:c < s.heap.objs.size:=by
          simp only[List.mem_cons,List.not_mem_nil,or_false]at hc
          rcases hc with rfl | rfl | rfl | rfl | rfl
          · exact Heap.lt_size s1
          · exact Heap.lt_size s2
          · exact Heap.lt_size s3
          · obtain⟨o,e,_⟩:=s4.obj; exact Heap.lt_size e
          · obtain⟨o,e,_⟩:=s5.obj; exact Heap.lt_size e
        rw[e]at this
        exact Nat.lt_irrefl _ this
  done:=by
    intro X hP hw hK hc i pins s σ H E I hf st hg
    subst hP hw hK
    obtain⟨s1,s2,⟨u,v,s3⟩,s4,s5⟩:=st
    obtain⟨xs,ys,qa,qb,hend⟩:=hg
    obtain⟨ia,ra,pa,_⟩:=I.seqK qa
    obtain⟨ib,rb,pb,_⟩:=I.seqK qb
    have la:=ra.length
    have lb:=rb.length
    have hend':ia.toArray[i]?=none∨ib.toArray[i]?=none:=by
      rcases hend with q | q
      · exact .inl (by simp; omega)
      · exact .inr (by simp; omega)
    refine qG (I.ok.hd hc) D s1 s2 s3 s4 s5 pa pb hend' fun h' bk=>⟨rfl,?_⟩
    refine I.turnedL (t':=s.toks) (ch:=[z,TI,TO,i1,i2]) hf fun c o hc e=>?_
    simp only[List.mem_cons,List.not_mem_nil,or_false,not_or]at hc
    exact bk c o hc.1 hc.2.2.1 hc.2.2.2.1 hc.2.2.2.2 e
  self:=fun _ _ _ _ _ st h=>wpAny_pyIter_zip st.1 h
end L2
namespace L2
open PySem PySem.Spec PyProof.Rows
theorem j4.tup{K:PySem.W.Frag}{H H':Hp}{a:Addr}{xs:List V}(e:j4 H H')(h:Ju K H a xs):Ju K H' a xs:=by
  rcases h with(h | ⟨o,h⟩) | h
  · exact .inl (.inl (e _ _ h))
  · exact .inl (.inr ⟨o,e _ _ h⟩)
  · exact .inr h
section
variable {X:Cx}
theorem xt(hc:X.calm=true):yW X (.builtin "all") (fun xs H Q=>∃(p:Addr) (bs:List Bool),xs=[.ref p]/\jy X.K H p (bs.map V.bl)/\Q (.bl (bs.all id)) H):=by
  intro pins s σ H xs us Q I r h
  obtain⟨p,bs,e,hq,q⟩:=h
  subst e
  cases r with
  | cons r rr=>
    cases rr
    cases r
    obtain⟨its,rv,pl,hz⟩:=I.list hq
    refine call_all_walk (wpAny_pyIter_list pl.isList ?_)
    have hp:p < s.heap.objs.size:=by obtain⟨o,ho,_⟩:=pl.isList; exact Heap.lt_size ho
    have hlen:its.length=bs.length:=by have:=rv.length; simp at this; omega
    refine⟨s.heap.objs.size,_,_,_,_,_,fun i=>(bs[i]?).getD true,rfl,Walks.list (A:=X.A.in1) (I.ok.hd hc) s.heap.objs.size p (Nat.ne_of_lt hp) its.toArray,⟨⟨_,Heap.get?_push_size _ rfl,rfl,rfl⟩,Heap.IsList.at pl.isList fun o e=>Heap.get?_push_of_some _ e⟩,?_,fun h' tk hk=>?_⟩
    · intro i v s' Q' E' hv hq'
      have hv:its[i]?=some v:=by simpa using hv
      have hi:i < bs.length:=by rw[<-hlen]; exact(List.getElem?_eq_some_iff.mp hv).1
      obtain⟨u,eu,ru⟩:=rv.get (i:=i) (x:=V.bl bs[i]) (by simp[hi])
      rw[hv]at eu
      cases eu
      cases ru
      have e1:(bs[i]?).getD true=bs[i]:=by simp[hi]
      have hq':Q' ((bs[i]?).getD true) s':=hq'
      rw[e1]at hq'
      exact wpAny_truthy_bool hq'
    · have e:((List.range its.toArray.size).all fun i=>(bs[i]?).getD true)=bs.all id:=by
        rw[List.size_toArray,hlen,Bool.eq_iff_iff]
        simp only[List.all_eq_true,List.mem_range,id]
        constructor
        · intro hh x hx
          obtain⟨i,hi,rfl⟩:=List.mem_iff_getElem.mp hx
          have:=hh i hi
          simpa[hi]using this
        · intro hh i hi
          have:=hh bs[i] (List.getElem_mem hi)
          simpa[hi]using this
      rw[e]
      have I':Inv X pins σ H { s with heap:=h',toks:=tk }:=I.turnedL (t':=tk) (ch:=[s.heap.objs.size]) (fun b hb=>by
        have e:b=s.heap.objs.size:=by simpa using hb
        subst e
        exact I.fpOk (Nat.le_refl _) (I.hok.fresh (Nat.le_refl _))) (fun c o hc' e'=>hk c o hc' (Heap.get?_push_of_some _ e'))
      exact⟨.bl (bs.all id),H,I',rfl,q⟩
inductive Kd where
  | i | b | s | l | t
noncomputable def xu(K:PySem.W.Frag)(H:Hp):V->Kd->Prop
  | .int _,.i=>True
  | .bl _,.b=>True
  | .str _,.s=>True
  | .ref a,.l=>∃xs,jy K H a xs
  | .ref a,.t=>∃xs,Ju K H a xs
  | _,_=>False
noncomputable def Vl:Kd->String->Option Bool
  | .i, "int" => some true | .i, "bool" => some false | .i, "str" => some false | .i, "list" => some false | .i, "tuple" => some false
  | .b, "int" => some true | .b, "bool" => some true | .b, "str" => some false | .b, "list" => some false | .b, "tuple" => some false
  | .s, "int" => some false | .s, "bool" => some false | .s, "str" => some true | .s, "list" => some false | .s, "tuple" => some false
  | .l, "int" => some false | .l, "bool" => some false | .l, "str" => some false | .l, "list" => some true | .l, "tuple" => some false
  | .t, "int" => some false | .t, "bool" => some false | .t, "str" => some false | .t, "list" => some false | .t, "tuple" => some true
  | _,_=>none
noncomputable def Bs(K:PySem.W.Frag):List V->Hp->VK->Prop:=fun xs H Q=>∃x T k b,xs=[x,.ty T]/\xu K H x k/\Vl k T=some b/\Q (.bl b) H
theorem xw:yW X (.builtin "isinstance") (Bs X.K):=by
  intro pins s σ H xs us Q I r h
  obtain⟨x,T,k,b,e,hk,hb,q⟩:=h
  subst e
  cases r with
  | cons r rr=>
    cases rr with
    | cons r' rr=>
      cases rr
      cases r'
      have fin:∀tk,EP X pins σ Q (.bool b) { s with toks:=tk }:=fun tk=>⟨.bl b,H,I.tok tk,rfl,q⟩
      have fin0:EP X pins σ Q (.bool b) s:=⟨.bl b,H,I,rfl,q⟩
      cases k with
      | i=>
        cases x <;> try exact hk.elim
        obtain⟨t,rfl⟩:=r
        unfold Vl at hb
        split at hb <;> first | (cases hb; done) | (rename_i z; cases z; done) | skip
        all_goals (cases hb; first | exact IsiPair.int_int fin0 | exact IsiPair.int_bool (fin _) | exact IsiPair.int_str (fin _) | exact IsiPair.int_list (fin _) | exact IsiPair.int_tuple (fin _))
      | b=>
        cases x <;> try exact hk.elim
        cases r
        unfold Vl at hb
        split at hb <;> first | (cases hb; done) | (rename_i z; cases z; done) | skip
        all_goals (cases hb; first | exact IsiPair.bool_int fin0 | exact IsiPair.bool_bool fin0 | exact IsiPair.bool_str (fin _) | exact IsiPair.bool_list (fin _) | exact IsiPair.bool_tuple (fin _))
      | s=>
        cases x <;> try exact hk.elim
        obtain⟨t,rfl⟩:=r
        unfold Vl at hb
        split at hb <;> first | (cases hb; done) | (rename_i z; cases z; done) | skip
        all_goals (cases hb; first | exact IsiPair.str_str fin0 | exact IsiPair.str_int (fin _) | exact IsiPair.str_bool (fin _) | exact IsiPair.str_list (fin _) | exact IsiPair.str_tuple (fin _))
      | l=>
        cases x <;> try exact hk.elim
        cases r
        obtain⟨ys,hq⟩:=hk
        obtain⟨its,rv,pl,_⟩:=I.list hq
        obtain⟨o,ho,hc,_⟩:=pl.isList
        unfold Vl at hb
        split at hb <;> first | (cases hb; done) | (rename_i z; cases z; done) | skip
        all_goals (cases hb; first | exact IsiPair.list_list ho hc fin0 | exact IsiPair.list_int ho hc (fin _) | exact IsiPair.list_bool ho hc (fin _) | exact IsiPair.list_str ho hc (fin _) | exact IsiPair.list_tuple ho hc (fin _))
      | t=>
        cases x <;> try exact hk.elim
        cases r
        obtain⟨ys,hq⟩:=hk
        obtain⟨its,rv,pl,_⟩:=I.tuple hq
        obtain⟨o,ho,hc,_⟩:=pl
        unfold Vl at hb
        split at hb <;> first | (cases hb; done) | (rename_i z; cases z; done) | skip
        all_goals (cases hb; first | exact IsiPair.tuple_tuple ho hc fin0 | exact IsiPair.tuple_int ho hc (fin _) | exact IsiPair.tuple_bool ho hc (fin _) | exact IsiPair.tuple_str ho hc (fin _) | exact IsiPair.tuple_list ho hc (fin _))
noncomputable def vT:Kd->Bool
  | .l=>true
  | .t=>true
  | _=>false
noncomputable def XD(K:PySem.W.Frag)(te:TE):TE:=fun σ H Q=>te σ H fun x H1=>∃k,xu K H1 x k/\∀p,H1 p=none->Q (.bl (vT k)) (upd H1 p (.tup [.ty "list",.ty "tuple"]))
theorem Ah{e:Expr}{te:TE}{p p1 p2 tp pos:Pos}{x1:Nat}(hgi:Gl X "isinstance")(hmi:X.mg "isinstance" = none)(hgl:Gl X "list")(hml:X.mg "list" = none)(hgt:Gl X "tuple")(hmt:X.mg "tuple" = none)(he:PE X e te)
    (hs:starEach [e,.Tuple [.Name "list" p1,.Name "tuple" p2] x1 tp] X.env=(false,eval e X.env) :: starEach [.Tuple [.Name "list" p1,.Name "tuple" p2] x1 tp] X.env:=by rfl)
    (hs2:starEach [.Tuple [.Name "list" p1,.Name "tuple" p2] x1 tp] X.env=(false,eval (.Tuple [.Name "list" p1,.Name "tuple" p2] x1 tp) X.env) :: starEach [] X.env:=by rfl):
    PE X (.Call (.Name "isinstance" p) [e,.Tuple [.Name "list" p1,.Name "tuple" p2] x1 tp] [] pos) (XD X.K te):=by
  intro pins s σ H Q I h
  refine wpAny_Call_Name_kw (Y8 I hgi hmi boot_isinstance ?_)
  refine PyProof.Rows.callWith_builtin1 ?_ hs (by rw[hs2]; rfl)
  rw[hs]
  show wpAny _ _ (spliced ((false,eval e X.env) :: backTo pos (starEach [.Tuple [.Name "list" p1,.Name "tuple" p2] x1 tp] X.env))) _ _ s
  refine Calls.spliced_cons (jp (he pins s σ H _ I h) fun u s1 ⟨x,H1,I1,r1,k,hk,q⟩=>?_)
  rw[hs2]
  show wpAny _ _ (spliced ((false,eval (.Tuple [.Name "list" p1,.Name "tuple" p2] x1 tp) X.env) :: backTo pos (starEach [] X.env))) _ _ s1
  refine Calls.spliced_cons ?_
  have hpa:PA X [.Name "list" p1,.Name "tuple" p2] (uB (tC (.ty "list")) (uB (tC (.ty "tuple")) gK)):=Jd (gH hgl hml boot_list rfl) (Jd (gH hgt hmt boot_tuple rfl) Y9)
  refine wpAny_Tuple_spliced (jp (hpa tp pins s1 σ H1 (fun vs H2=>vs=[.ty "list",.ty "tuple"]/\H2=H1) I1 ⟨rfl,rfl⟩) fun us s2 ⟨xs,H2,I2,r2,e1,e2⟩=>?_)
  subst e1 e2
  have eu:us=[.type "list",.type "tuple"]:=by
    cases r2 with
    | cons a b=>
      cases b with
      | cons c d=>
        cases d
        cases a
        cases c
        rfl
  subst eu
  refine⟨zm,Calls.spliced_nil ?_⟩
  have hf:H2 s2.heap.objs.size=none:=I2.hok.fresh (Nat.le_refl _)
  have I3:=I2.laid (h':=s2.heap.push { cls:=.type "tuple",data:=.seq ([.type "list",.type "tuple"]:List Value).toArray }) (t':=s2.toks) (o:=.tup [.ty "list",.ty "tuple"]) (fun b u e=>Heap.get?_push_of_some _ e) (Nat.le_refl _)
    ⟨zm,[.type "list",.type "tuple"],.cons rfl (.cons rfl .nil),⟨_,Heap.get?_push_size _ rfl,rfl,_,rfl⟩⟩
  have fin:∀b tk,b=vT k->EP X pins σ Q (.bool b) { s2 with heap:=s2.heap.push { cls:=.type "tuple",data:=.seq ([.type "list",.type "tuple"]:List Value).toArray },toks:=tk }:=fun b tk eb=>by
    subst eb
    exact⟨.bl (vT k),_,I3.tok tk,rfl,q _ hf⟩
  have tob:∀a o,s2.heap.get? a=some o->(s2.heap.push { cls:=.type "tuple",data:=.seq ([.type "list",.type "tuple"]:List Value).toArray }).get? a=some o:=fun a o e=>Heap.get?_push_of_some _ e
  cases k with
  | i=>
    cases x <;> try exact hk.elim
    obtain⟨t,rfl⟩:=r1
    exact IsiPair.tupleOf (Tx := "int") (cs:=[.type "list",.type "tuple"]) (vs:=[false,false]) ⟨Answers.of_false_int (by decide +kernel) F.isi_meta_list F.sub_int_list,Answers.of_false_int (by decide +kernel) F.isi_meta_tuple F.sub_int_tuple,trivial⟩ rfl (Heap.get?_push_size _ rfl) fun tk=>fin _ tk rfl
  | b=>
    cases x <;> try exact hk.elim
    cases r1
    exact IsiPair.tupleOf (Tx := "bool") (cs:=[.type "list",.type "tuple"]) (vs:=[false,false]) ⟨Answers.of_false_bool (by decide +kernel) F.isi_meta_list F.sub_bool_list,Answers.of_false_bool (by decide +kernel) F.isi_meta_tuple F.sub_bool_tuple,trivial⟩ rfl (Heap.get?_push_size _ rfl) fun tk=>fin _ tk rfl
  | s=>
    cases x <;> try exact hk.elim
    obtain⟨t,rfl⟩:=r1
    exact IsiPair.tupleOf (Tx := "str") (cs:=[.type "list",.type "tuple"]) (vs:=[false,false]) ⟨Answers.of_false_str (by decide +kernel) F.isi_meta_list F.sub_str_list,Answers.of_false_str (by decide +kernel) F.isi_meta_tuple F.sub_str_tuple,trivial⟩ rfl (Heap.get?_push_size _ rfl) fun tk=>fin _ tk rfl
  | l=>
    cases x <;> try exact hk.elim
    cases r1
    obtain⟨ys,hq⟩:=hk
    obtain⟨its,rv,pl,_⟩:=I2.list hq
    obtain⟨o,ho,hc,_⟩:=pl.isList
    exact IsiPair.tupleOf (Tx := "list") (cs:=[.type "list",.type "tuple"]) (vs:=[true,false]) ⟨Answers.of_true F.isi_meta_list F.sub_list_list,Answers.of_false_list (by decide +kernel) F.isi_meta_tuple F.sub_list_tuple,trivial⟩ ⟨o,tob _ _ ho,hc⟩ (Heap.get?_push_size _ rfl) fun tk=>fin _ tk rfl
  | t=>
    cases x <;> try exact hk.elim
    cases r1
    obtain⟨ys,hq⟩:=hk
    obtain⟨its,rv,pl,_⟩:=I2.tuple hq
    obtain⟨o,ho,hc,_⟩:=pl
    exact IsiPair.tupleOf (Tx := "tuple") (cs:=[.type "list",.type "tuple"]) (vs:=[false,true]) ⟨Answers.of_false_tuple (by decide +kernel) F.isi_meta_list F.sub_tuple_list,Answers.of_true F.isi_meta_tuple F.sub_tuple_tuple,trivial⟩ ⟨o,tob _ _ ho,hc⟩ (Heap.get?_push_size _ rfl) fun tk=>fin _ tk rfl
end
end L2
namespace L2
open PySem PySem.Spec PyProof.Rows
noncomputable def Ai(r r' r'':R2)(ta tb tc td:TE):TE:=fun σ H Q=>ta σ H fun x H1=>tb σ H1 fun y H2=>r x y H2 fun z H3=>∃k,z=.bl k/\
  (if k=true then tc σ H3 fun w' H4=>r' y w' H4 fun z' H5=>∃k',z'=.bl k'/\(if k'=true then td σ H5 fun q H6=>r'' w' q H6 Q else Q (.bl false) H5)else Q (.bl false) H3)
section
variable {X:Cx} {a b c d:Expr} {ta tb tc td:TE} {pos:Pos}
theorem qH{op op' op'':CmpOp}{r r' r'':R2}(ho:jH X (compareOp op) r)(ho':jH X (compareOp op') r')(ho'':jH X (compareOp op'') r'')(ha:PE X a ta)(hb:PE X b tb)(hc:PE X c tc)(hd:PE X d td)
    (hm:lastMarks [op,op',op''] [b,c,d]=false:=by with_unfolding_all rfl):PE X (.Compare a [op,op',op''] [b,c,d] pos) (Ai r r' r'' ta tb tc td):=by
  intro pins s σ H Q I h
  refine Compare_chain (jp (ha pins s σ H _ I h) fun v s1 ⟨x,H1,I1,r1,q1⟩=>chain_link (jp (hb pins s1 σ H1 _ I1 q1) fun u s2 ⟨y,H2,I2,r2,q2⟩=>
    jp (ho pins s2 σ H2 x y v u _ I2 r1 r2 q2) fun _ s3 ⟨z,H3,I3,r3,k,e,q3⟩=>?_)) hm
  subst e
  cases r3
  refine wpAny_truthy_bool ?_
  cases k with
  | false=>exact ite_ff ⟨.bl false,H3,I3,rfl,q3⟩
  | true=>
    refine ite_tt (chain_link (jp (hc pins s3 σ H3 _ I3 q3) fun w' s4 ⟨z',H4,I4,r4,q4⟩=>jp (ho' pins s4 σ H4 y z' u w' _ I4 r2 r4 q4) fun _ s5 ⟨z5,H5,I5,r5,k5,e5,q5⟩=>?_))
    subst e5
    cases r5
    refine wpAny_truthy_bool ?_
    cases k5 with
    | false=>exact ite_ff ⟨.bl false,H5,I5,rfl,q5⟩
    | true=>exact ite_tt (chain_last (jp (hd pins s5 σ H5 _ I5 q5) fun w6 s6 ⟨z6,H6,I6,r6,q6⟩=>ho'' pins s6 σ H6 z' z6 w' w6 Q I6 r4 r6 q6))
end
section
variable {X:Cx}
open PySem.SeqAt
end
end L2
namespace L2
open PySem PySem.Spec PyProof.Rows
structure FnI (P:Program) (w:World) (K:PySem.W.Frag) (mg:Str->Option Value) (base:Heap) (k:Nat) (x:Str) (ps:List Str) (sp:Sp):Prop where
  ex:∃f fd,FnOk P w K mg base Yb k f fd ps sp/\Yp K fd ps []/\PySem.W.keepIn K (.ref f)=true/\mg x=some (.ref f)
structure MtI (P:Program) (w:World) (K:PySem.W.Frag) (mg:Str->Option Value) (base:Heap) (k:Nat) (C:Addr) (m:Str) (ps:List Str) (sp:Sp):Prop where
  ex:∃f fd,FnOk P w K mg base Yb k f fd ps sp/\Yp K fd ps []/\Meth K C m f
structure MkI (P:Program) (w:World) (K:PySem.W.Frag) (mg:Str->Option Value) (base:Heap) (k:Nat) (C:Addr) (x:Str) (ps:List Str) (sp:Sp):Prop where
  ex:∃f fd,FnOk P w K mg base Yb k f fd ps sp/\Yp K fd ps []/\Mk K C f/\mg x=some (.ref C)
section
variable {X:Cx} {k:Nat} {x m:Str} {ps:List Str} {sp:Sp} {p pos apos:Pos} {e o:Expr} {es:List Expr} {t:TA} {ta:TE} {C:Addr}
theorem XE(F:FnI X.prog X.w X.K X.mg X.base k x ps sp)(hr:Room k X.A)(ha:PA X (e :: es) t)(hg:Gl X x:=by rfl)(hdb:(x == ("__debug__" : Str))=false:=by decide)
    (he:starEach (e :: es) X.env=(false,eval e X.env) :: starEach es X.env:=by rfl) (hpl:(backTo pos (starEach es X.env)).any (·.1)=false:=by rfl):PE X (.Call (.Name x p) (e :: es) [] pos) (Xw sp [] E0 t):=by
  obtain⟨f,fd,G,b,kp,hm⟩:=F.ex
  exact A2 G hr hg hm kp b .nil Wt ha hdb he hpl
theorem qI{pl:Sem Bool}(he:PE X o ta)(c:Cls X.K C)(M:MtI X.prog X.w X.K X.mg X.base k C m ps sp)(hr:Room k X.A)
    (ht:eval (.Call (.Attribute o m apos) [] [] pos) X.env=(do
      let ov<-eval o X.env
      standAt apos.atName
      let (f,first)<-holding [ov] (getMethod ov m pl)
      callWith pos f first (backTo pos (starEach [] X.env)) (backToKw pos (keywordEach [] X.env))):=by rfl):
    PE X (.Call (.Attribute o m apos) [] [] pos) (Xx C m sp [] E0 ta gK):=by
  obtain⟨f,fd,G,b,hm⟩:=M.ex
  exact xi he c hm G hr b .nil Wt ht
theorem Dr(M:MkI X.prog X.w X.K X.mg X.base k C x ps sp)(hr:Room (k + 1) X.A)(ha:PA X (e :: es) t)(hg:Gl X x:=by rfl)(hdb:(x == ("__debug__" : Str))=false:=by decide)
    (he:starEach (e :: es) X.env=(false,eval e X.env) :: starEach es X.env:=by rfl) (hpl:(backTo pos (starEach es X.env)).any (·.1)=false:=by rfl):PE X (.Call (.Name x p) (e :: es) [] pos) (Xy C sp [] E0 t):=by
  obtain⟨f,fd,G,b,mk,hm⟩:=M.ex
  exact A3 mk G hr hg hm b .nil Wt ha hdb he hpl
theorem EN(ho:PE X o ta)(ha:PA X [e] t)(hbase:attributeBase o "append" X.env (eval o X.env)=eval o X.env:=by rfl)
    (hfew:((backTo pos (starEach [e] X.env)).all (fun x=>!x.1) && (backToKw pos (keywordEach [] X.env)).all (fun x=>x.1.isSome)
      && decide (([e]:List Expr).length + ([]:List Keyword).length + (if ([]:List Keyword).isEmpty then 0 else 1) < 30))=true:=by rfl)
    (hline:(apos.endLine == pos.line)=true:=by rfl) (hs:starEach [e] X.env=(false,eval e X.env) :: starEach [] X.env:=by rfl) (hplain:(backTo pos (starEach [] X.env)).any (·.1)=false:=by rfl):
    PE X (.Call (.Attribute o "append" apos) [e] [] pos) (Bm X.K "list" gO ta t):=
  Dm PySem.F.plainAttrs_list PySem.F.slot_list_append PySem.F.type_list_append qC ho ha hbase hfew hline hs hplain
end
theorem FK{X:Cx}{x:Str}{i:Int}{pos:Pos}(hm:∃t,X.mg x=some (.int i t))(hg:Gl X x:=by rfl)(hd:(x == ("__debug__" : Str))=false:=by decide):PE X (.Name x pos) (tC (.int i)):=by
  obtain⟨t,h⟩:=hm
  exact aO hg h ⟨t,rfl⟩ hd
theorem jK{H:Hp}{p:Addr}(h:H p=none)(o:HO):j4 H (upd H p o):=fun b u q=>by rw[jm (jx q h)]; exact q
theorem j4.upd{H0 H:Hp}{p:Addr}(s:j4 H0 H)(h:H0 p=none)(o:HO):j4 H0 (upd H p o):=fun b u q=>by rw[jm (jx q h)]; exact s b u q
theorem j4.none{H H':Hp}(s:j4 H H'){p:Addr}(h:H' p=Option.none):H p=Option.none:=s.free h
theorem small{n:Nat}(h:n<=1000):n<=sizeLine:=Nat.le_of_lt (qD h)
noncomputable abbrev T3:=Int×Int×Int
end L2
namespace L2
open PySem PySem.Spec PyProof.Rows
end L2
namespace L2
open PySem PySem.Spec PyProof.Rows
end L2
namespace L2
open PySem PySem.Spec PyProof.Rows
noncomputable def Ea(K:PySem.W.Frag)(a:Addr):It:=
  ⟨fun i H=>∃xs x,jy K H a xs/\xs[i]?=some x,fun i H v H'=>∃p,H p=none/\v=.ref p/\∀xs x,jy K H a xs->xs[i]?=some x->H'=upd H p (.tup [.int i,x]),fun i H=>∃xs,jy K H a xs/\xs.length<=i⟩
theorem qJ{P:Program}{w:World}{K:PySem.W.Frag}{es:List Expr}{x1:Nat}{tp:Pos}{a e it:Addr}(hei:e≠it)(hle:a≠e)(hli:a≠it):
    Turn P w K (.Tuple es x1 tp) (Ea K a) [e,it] e (fun i h=>(∃old,IsEnum h e it (i:Nat) old)/\h.IsListIter it a i) where
  mem:=by simp
  obj:=fun i h st c hc=>by
    obtain⟨⟨old,s1⟩,s2⟩:=st
    simp only[List.mem_cons,List.not_mem_nil,or_false]at hc
    rcases hc with rfl | rfl
    · exact⟨_,s1,fun v z=>by cases z⟩
    · obtain⟨o,ho,_,d⟩:=s2
      exact⟨o,ho,fun v z=>by rw[d]at z; cases z⟩
  keep:=fun i h h' st kk=>by
    obtain⟨⟨old,s1⟩,s2⟩:=st
    exact⟨⟨old,kk e (by simp) _ s1⟩,s2.at fun o z=>kk it (by simp) o z⟩
  item:=by
    intro X hP hw hK hc i pins s σ H E I hf st hg
    subst hP hw hK
    obtain⟨⟨old,s1⟩,s2⟩:=st
    obtain⟨xs,x,qa,ex⟩:=hg
    obtain⟨ia,ra,pa,_⟩:=I.list qa
    obtain⟨ux,eux,rx⟩:=ra.get ex
    refine wpAny_pyNext_enum_item s1 s2 pa.isList (x:=ux) (by simpa using eux) hei fun h' b1 b2 b3 b4 bk=>?_
    refine⟨_,rfl,wpAny_letOwnedTupleGo_enum b1 fun h2 c1 c2=>?_⟩
    have lt1:e < s.heap.objs.size:=Heap.lt_size s1
    have lt2:it < s.heap.objs.size:=by obtain⟨o,ho,_⟩:=s2; exact Heap.lt_size ho
    have kp:∀c o,c∉[e,it]->s.heap.get? c=some o->h2.get? c=some o:=fun c o hc z=>by
      simp only[List.mem_cons,List.not_mem_nil,or_false,not_or]at hc
      exact c2.extBut c o hc.1 (bk c o hc.1 hc.2 z)
    have ht:IsTup h2 s.heap.objs.size ([.int i s.toks,ux]:List Value).toArray:=⟨_,c2.extBut _ _ (Nat.ne_of_gt lt1) b3,rfl,_,rfl⟩
    have I2:=I.tupled (t':=s.toks + 1) (h':=h2) rfl hf kp (vs:=[.int i,x]) (us:=[.int i s.toks,ux]) (.cons ⟨_,rfl⟩ (.cons rx .nil)) zm ht
    refine⟨.ref s.heap.objs.size,_,I2,rfl,⟨s.heap.objs.size,I.hok.fresh (Nat.le_refl _),rfl,fun xs' x' qa' ex'=>?_⟩,⟨⟨ux,by simpa using c1⟩,b2.at fun o z=>c2.extBut _ o hei.symm z⟩,fun c hc=>?_⟩
    · rw[I.list_inj qa' qa,ex]at ex'
      cases ex'
      rfl
    · have q:=(hf c hc).1
      rw[jm ?_]
      · exact q
      · intro z
        simp only[List.mem_cons,List.not_mem_nil,or_false]at hc
        rcases hc with rfl | rfl
        · rw[z]at lt1; exact Nat.lt_irrefl _ lt1
        · rw[z]at lt2; exact Nat.lt_irrefl _ lt2
  done:=by
    intro X hP hw hK hc i pins s σ H E I hf st hg
    subst hP hw hK
    obtain⟨⟨old,s1⟩,s2⟩:=st
    obtain⟨xs,qa,hend⟩:=hg
    obtain⟨ia,ra,pa,_⟩:=I.list qa
    have la:=ra.length
    refine wpAny_pyNext_enum_end (I.ok.hd hc) s1 s2 pa.isList (by simp; omega) fun h' bk=>⟨rfl,?_⟩
    refine I.turnedL (t':=s.toks) (ch:=[e,it]) hf fun c o hc z=>?_
    simp only[List.mem_cons,List.not_mem_nil,or_false,not_or]at hc
    exact bk c o hc.2 z
  self:=fun _ _ _ _ _ st h=>by
    obtain⟨⟨old,s1⟩,s2⟩:=st
    exact wpAny_pyIter_enum s1 h
theorem qK:bootBuiltins "enumerate" = some (.type "enumerate"):=by decide +kernel
noncomputable def Ds(K:PySem.W.Frag)(ta:TA):TI:=fun σ H R=>ta σ H fun vs H1=>∃a xs,vs=[.ref a]/\jy K H1 a xs/\R (Ea K a) H1
theorem Aj{X:Cx}{es:List Expr}{x1:Nat}{tp:Pos}{e1:Expr}{ta:TA}{p pos:Pos}(hg:Gl X "enumerate")(hm:X.mg "enumerate" = none)(ha:PA X [e1] ta)(hs:starEach [e1] X.env=[(false,eval e1 X.env)]:=by rfl):
    PI X (.Tuple es x1 tp) (.Call (.Name "enumerate" p) [e1] [] pos) (Ds X.K ta):=by
  intro pins s σ H R I h
  refine Call_ (Y8 I hg hm qK (PyProof.Rows.callWith_type1 (jp (ha pos pins s σ H _ I h) fun us s1 ⟨vs,H1,I1,r1,q1⟩=>?_) hs rfl))
  obtain⟨a,xs,e,qa,q⟩:=q1
  subst e
  cases r1 with
  | cons r rr=>
    cases rr
    cases r
    obtain⟨ia,ra,pa,_⟩:=I1.list qa
    have lt:a < s1.heap.objs.size:=by obtain⟨o,ho,_⟩:=pa.isList; exact Heap.lt_size ho
    refine call_enumerate_list pa.isList fun h' b1 b2 b3 bk=>?_
    refine wpAny_pyIter_enum b1 ?_
    have fr:∀m,Jm X pins H1 (s1.heap.objs.size + m):=fun m=>I1.fpOk (Nat.le_add_right _ _) (I1.hok.fresh (Nat.le_add_right _ _))
    refine⟨_,_,_,_,H1,rfl,I1.kept (t':=s1.toks) bk,qJ (a:=a) (e:=s1.heap.objs.size + 1) (it:=s1.heap.objs.size) (Nat.ne_of_gt (Nat.lt_succ_self _)) (Nat.ne_of_lt (Nat.lt_succ_of_lt lt)) (Nat.ne_of_lt lt),⟨⟨_,b1⟩,b2⟩,fun c hc=>?_,q⟩
    simp only[List.mem_cons,List.not_mem_nil,or_false]at hc
    rcases hc with rfl | rfl
    · exact fr 1
    · exact fr 0
end L2
namespace DS
open PySem PySem.Spec PyProof.Rows L2
inductive D where
  | non | bl (b:Bool) | int (i:Int) | str (x:Str) | tup (l:List D) | lst (l:List D) | ins (C:Addr) (ns:List Str) (ds:List D) | scr (ns:List Int) | dct (ks vs:List D)
mutual
noncomputable def yx:D->Option KD
  | .int n=>some (.i n)
  | .bl b=>some (.i (if b then 1 else 0))
  | .str x=>some (.s x)
  | .tup l=>(Yd l).bind fun ks=>some (.t ks)
  | _=>none
noncomputable def Yd:List D->Option (List KD)
  | []=>some []
  | d :: ds=>(yx d).bind fun k=>(Yd ds).bind fun ks=>some (k :: ks)
end
noncomputable def JH:D->Option KD
  | .tup l=>(yx (.tup l)).bind fun k=>if k.dep<=8 then some k else none
  | _=>none
noncomputable def jQ:List D->Option (List KD)
  | []=>some []
  | d :: ds=>(JH d).bind fun k=>(jQ ds).bind fun ks=>some (k :: ks)
mutual
noncomputable def j7(K:PySem.W.Frag)(H:Hp):D->V->Prop
  | .non,v=>v=.non
  | .bl b,v=>v=.bl b
  | .int i,v=>v=.int i
  | .str x,v=>v=.str x
  | .tup l,v=>∃a xs,v=.ref a/\Ju K H a xs/\j3 K H l xs
  | .lst l,v=>∃a xs,v=.ref a/\H a=some (.lst xs)/\j3 K H l xs
  | .scr ns,v=>∃a,v=.ref a/\jy K H a (ns.map V.int)
  | .ins C ns l,v=>∃a dx xs,v=.ref a/\H a=some (.ins C dx (ns.zip xs))/\ns.length=xs.length/\j3 K H l xs
  | .dct ks vs,v=>∃a kvs ep,v=.ref a/\H a=some (.dD kvs ep)/\jQ ks=some (kvs.map (·.1))/\j3 K H ks (kvs.map fun p=>V.ref p.2.1)/\j3 K H vs (kvs.map (·.2.2))
noncomputable def j3(K:PySem.W.Frag)(H:Hp):List D->List V->Prop
  | [],vs=>vs=[]
  | d :: ds,vs=>∃v r,vs=v :: r/\j7 K H d v/\j3 K H ds r
end
mutual
theorem j7.same{K:PySem.W.Frag}{H H':Hp}(e:j4 H H'):∀{d:D} {v:V},j7 K H d v->j7 K H' d v
  | .non,_,h=>h
  | .bl _,_,h=>h
  | .int _,_,h=>h
  | .str _,_,h=>h
  | .tup l,_,h=>by
    rw[j7]at h⊢
    obtain⟨a,xs,rfl,q,r⟩:=h
    exact⟨a,xs,rfl,e.tup q,j3.same e r⟩
  | .lst l,_,h=>by
    rw[j7]at h⊢
    obtain⟨a,xs,rfl,q,r⟩:=h
    exact⟨a,xs,rfl,e _ _ q,j3.same e r⟩
  | .scr ns,_,h=>by
    rw[j7]at h⊢
    obtain⟨a,rfl,q⟩:=h
    exact⟨a,rfl,e.seq q⟩
  | .ins C ns l,_,h=>by
    rw[j7]at h⊢
    obtain⟨a,dx,xs,rfl,q,n,r⟩:=h
    exact⟨a,dx,xs,rfl,e _ _ q,n,j3.same e r⟩
  | .dct ks vs,_,h=>by
    rw[j7]at h⊢
    obtain⟨a,kvs,ep,rfl,q,n,r1,r2⟩:=h
    exact⟨a,kvs,ep,rfl,e _ _ q,n,j3.same e r1,j3.same e r2⟩
theorem j3.same{K:PySem.W.Frag}{H H':Hp}(e:j4 H H'):∀{ds:List D} {vs:List V},j3 K H ds vs->j3 K H' ds vs
  | [],_,h=>h
  | d :: ds,_,h=>by
    rw[j3]at h⊢
    obtain⟨v,r,rfl,a,b⟩:=h
    exact⟨v,r,rfl,j7.same e a,j3.same e b⟩
end
section
variable {K:PySem.W.Frag} {H:Hp}
theorem j3.len:∀{ds:List D} {vs:List V},j3 K H ds vs->vs.length=ds.length
  | [],_,h=>by rw[j3]at h; subst h; rfl
  | d :: ds,_,h=>by
    rw[j3]at h
    obtain⟨v,r,rfl,a,b⟩:=h
    rw[List.length_cons,List.length_cons,j3.len b]
theorem j3.get:∀{ds:List D} {vs:List V} {i:Nat} {d:D},j3 K H ds vs->ds[i]?=some d->∃v,vs[i]?=some v/\j7 K H d v
  | [],_,_,_,h,e=>by simp at e
  | d :: ds,_,0,_,h,e=>by
    rw[j3]at h
    obtain⟨v,r,rfl,a,b⟩:=h
    simp at e
    subst e
    exact⟨v,rfl,a⟩
  | d :: ds,_,i + 1,d',h,e=>by
    rw[j3]at h
    obtain⟨v,r,rfl,a,b⟩:=h
    obtain⟨v',e',q⟩:=j3.get (i:=i) b (by simpa using e)
    exact⟨v',by simpa using e',q⟩
theorem j3.nil:j3 K H [] []:=by rw[j3]
theorem j3.cons{d:D}{ds:List D}{v:V}{vs:List V}(a:j7 K H d v)(b:j3 K H ds vs):j3 K H (d :: ds) (v :: vs):=by rw[j3]; exact⟨v,vs,rfl,a,b⟩
theorem j3.app:∀{ds es:List D} {vs us:List V},j3 K H ds vs->j3 K H es us->j3 K H (ds ++ es) (vs ++ us)
  | [],_,_,_,h,g=>by rw[j3]at h; subst h; exact g
  | d :: ds,es,_,us,h,g=>by
    rw[j3]at h
    obtain⟨u,r,rfl,a,b⟩:=h
    exact j3.cons a (j3.app b g)
theorem j3.snoc{d:D}{v:V}{ds:List D}{vs:List V}(h:j3 K H ds vs)(q:j7 K H d v):j3 K H (ds ++ [d]) (vs ++ [v]):=h.app (j3.cons q j3.nil)
theorem j3.drop:∀{ds:List D} {vs:List V} (n:Nat),j3 K H ds vs->j3 K H (ds.drop n) (vs.drop n)
  | _,_,0,h=>h
  | [],_,n + 1,h=>by rw[j3]at h; subst h; exact j3.nil
  | d :: ds,_,n + 1,h=>by
    rw[j3]at h
    obtain⟨u,r,rfl,a,b⟩:=h
    exact j3.drop n b
theorem j3.take:∀{ds:List D} {vs:List V} (n:Nat),j3 K H ds vs->j3 K H (ds.take n) (vs.take n)
  | _,_,0,h=>j3.nil
  | [],_,n + 1,h=>by rw[j3]at h; subst h; exact j3.nil
  | d :: ds,_,n + 1,h=>by
    rw[j3]at h
    obtain⟨u,r,rfl,a,b⟩:=h
    exact j3.cons a (j3.take n b)
theorem j3.set{d:D}{v:V}(q:j7 K H d v):∀{ds:List D} {vs:List V} (n:Nat),j3 K H ds vs->j3 K H (ds.set n d) (vs.set n v)
  | [],_,n,h=>by rw[j3]at h; subst h; exact j3.nil
  | e :: ds,_,0,h=>by
    rw[j3]at h
    obtain⟨u,r,rfl,a,b⟩:=h
    exact j3.cons q b
  | e :: ds,_,n + 1,h=>by
    rw[j3]at h
    obtain⟨u,r,rfl,a,b⟩:=h
    exact j3.cons a (j3.set q n b)
end
noncomputable def jb(H:Hp)(O:List Addr):Hp:=fun b=>if b∈O then none else H b
theorem uC{H:Hp}{O:List Addr}{b:Addr}(h:b∈O):jb H O b=none:=if_pos h
theorem J3{H:Hp}{O:List Addr}{b:Addr}(h:b∉O):jb H O b=H b:=if_neg h
theorem JI{H:Hp}{O:List Addr}{b:Addr}{o:HO}(h:jb H O b=some o):b∉O/\H b=some o:=by
  by_cases hb:b∈O
  · rw[uC hb]at h; cases h
  · rw[J3 hb]at h; exact⟨hb,h⟩
theorem yu{H:Hp}{O:List Addr}:j4 (jb H O) H:=fun b o h=>(JI h).2
theorem yJ{H:Hp}{O O':List Addr}(s:∀a∈O',a∈O):j4 (jb H O) (jb H O'):=fun b o h=>by
  obtain⟨h1,h2⟩:=JI h
  rw[J3 (fun z=>h1 (s b z))]; exact h2
theorem jh{H H':Hp}{O:List Addr}(s:j4 H H'):j4 (jb H O) (jb H' O):=fun b o h=>by
  obtain⟨h1,h2⟩:=JI h
  rw[J3 h1]; exact s _ _ h2
theorem ZO{H H':Hp}{O:List Addr}{l:Addr}(s:j4 H H')(hl:H l=none):j4 (jb H O) (jb H' (l :: O)):=fun b o h=>by
  obtain⟨h1,h2⟩:=JI h
  have ne:b≠l:=jx h2 hl
  rw[J3 (by intro z; rcases List.mem_cons.mp z with z | z; exact ne z; exact h1 z)]
  exact s _ _ h2
theorem YF{H:Hp}{O:List Addr}{l:Addr}{o:HO}(h:l∈O):jb (upd H l o) O=jb H O:=by
  funext b
  by_cases hb:b∈O
  · rw[uC hb,uC hb]
  · rw[J3 hb,J3 hb,jm (fun e=>hb (by rw[e]; exact h))]
inductive OD where
  | lst (ds:List D) | ins (C:Addr) (ns:List Str) (ds:List D) | dct (ks vs:List D)
@[simp] noncomputable def OD.toD:OD->D
  | .lst ds=>.lst ds
  | .ins C ns ds=>.ins C ns ds
  | .dct ks vs=>.dct ks vs
noncomputable def JA(K:PySem.W.Frag)(H Hd:Hp)(l:Addr):OD->Prop
  | .lst ds=>∃vs,H l=some (.lst vs)/\j3 K Hd ds vs
  | .ins C ns ds=>∃dx vs,H l=some (.ins C dx (ns.zip vs))/\ns.length=vs.length/\j3 K Hd ds vs
  | .dct ks vs=>∃kvs ep,H l=some (.dD kvs ep)/\jQ ks=some (kvs.map (·.1))/\j3 K Hd ks (kvs.map fun p=>V.ref p.2.1)/\j3 K Hd vs (kvs.map (·.2.2))
theorem JA.same{K:PySem.W.Frag}{H H' Hd Hd':Hp}{l:Addr}{o:OD}(s:∀u,H l=some u->H' l=some u)(sd:j4 Hd Hd')(h:JA K H Hd l o):JA K H' Hd' l o:=by
  cases o with
  | lst ds=>obtain⟨vs,a,b⟩:=h; exact⟨vs,s _ a,b.same sd⟩
  | ins C ns ds=>obtain⟨dx,vs,a,n,b⟩:=h; exact⟨dx,vs,s _ a,n,b.same sd⟩
  | dct ks vs=>obtain⟨kvs,ep,a,n,b,c⟩:=h; exact⟨kvs,ep,s _ a,n,b.same sd,c.same sd⟩
theorem JA.there{K:PySem.W.Frag}{H Hd:Hp}{l:Addr}{o:OD}(h:JA K H Hd l o):H l≠none:=by
  cases o with
  | lst ds=>obtain⟨vs,a,b⟩:=h; rw[a]; exact fun z=>nomatch z
  | ins C ns ds=>obtain⟨dx,vs,a,n,b⟩:=h; rw[a]; exact fun z=>nomatch z
  | dct ks vs=>obtain⟨kvs,ep,a,n,b⟩:=h; rw[a]; exact fun z=>nomatch z
theorem JA.rep{K:PySem.W.Frag}{H Hd:Hp}{l:Addr}{o:OD}(s:∀u,H l=some u->Hd l=some u)(h:JA K H Hd l o):j7 K Hd o.toD (.ref l):=by
  cases o with
  | lst ds=>obtain⟨vs,a,b⟩:=h; show j7 K Hd (.lst ds) _; rw[j7]; exact⟨l,vs,rfl,s _ a,b⟩
  | ins C ns ds=>obtain⟨dx,vs,a,n,b⟩:=h; show j7 K Hd (.ins C ns ds) _; rw[j7]; exact⟨l,dx,vs,rfl,s _ a,n,b⟩
  | dct ks vs=>obtain⟨kvs,ep,a,n,b,c⟩:=h; show j7 K Hd (.dct ks vs) _; rw[j7]; exact⟨l,kvs,ep,rfl,s _ a,n,b,c⟩
inductive Sl where
  | un
  | cl (d:D)
  | bo (d:D)
  | ow (q:Option Addr) (o:OD)
noncomputable abbrev j9:=List Sl
noncomputable def RB(K:PySem.W.Frag)(O:List Addr)(H:Hp)(d:D)(v:V):Prop:=j7 K (jb H O) d v∨∃l o,v=.ref l/\d=OD.toD o/\JA K H (jb H O) l o
theorem RB.same{K:PySem.W.Frag}{O:List Addr}{H H':Hp}{d:D}{v:V}(s:j4 H H')(h:RB K O H d v):RB K O H' d v:=by
  rcases h with h | ⟨l,o,e1,e2,h1⟩
  · exact .inl (h.same (jh s))
  · exact .inr ⟨l,o,e1,e2,h1.same (s l) (jh s)⟩
theorem RB.full{K:PySem.W.Frag}{O:List Addr}{H:Hp}{d:D}{v:V}(h:RB K O H d v):j7 K H d v:=by
  rcases h with h | ⟨l,o,rfl,rfl,h1⟩
  · exact h.same yu
  · exact(h1.same (fun _ z=>z) yu).rep fun _ z=>z
theorem RB.lst{K:PySem.W.Frag}{O:List Addr}{H:Hp}{ds:List D}{v:V}(h:RB K O H (.lst ds) v):∃p xs,v=.ref p/\H p=some (.lst xs)/\j3 K (jb H O) ds xs:=by
  rcases h with h | ⟨l,o,rfl,e,h1⟩
  · rw[j7]at h
    obtain⟨a,xs,rfl,q,r⟩:=h
    exact⟨a,xs,rfl,yu _ _ q,r⟩
  · cases o <;> cases e
    obtain⟨vs,a,b⟩:=h1
    exact⟨l,vs,rfl,a,b⟩
theorem RB.tup{K:PySem.W.Frag}{O:List Addr}{H:Hp}{ds:List D}{v:V}(h:RB K O H (.tup ds) v):∃p xs,v=.ref p/\Ju K H p xs/\j3 K (jb H O) ds xs:=by
  rcases h with h | ⟨l,o,rfl,e,h1⟩
  · rw[j7]at h
    obtain⟨a,xs,rfl,q,r⟩:=h
    exact⟨a,xs,rfl,yu.tup q,r⟩
  · cases o <;> cases e
theorem RB.int{K:PySem.W.Frag}{O:List Addr}{H:Hp}{i:Int}{v:V}(h:RB K O H (.int i) v):v=.int i:=by have:=h.full; rwa [j7]at this
theorem RB.bl{K:PySem.W.Frag}{O:List Addr}{H:Hp}{i:Bool}{v:V}(h:RB K O H (.bl i) v):v=.bl i:=by have:=h.full; rwa [j7]at this
theorem RB.str{K:PySem.W.Frag}{O:List Addr}{H:Hp}{i:Str}{v:V}(h:RB K O H (.str i) v):v=.str i:=by have:=h.full; rwa [j7]at this
theorem RB.non{K:PySem.W.Frag}{O:List Addr}{H:Hp}{v:V}(h:RB K O H .non v):v=.non:=by have:=h.full; rwa [j7]at this
theorem RB.ins{K:PySem.W.Frag}{O:List Addr}{H:Hp}{C:Addr}{ns:List Str}{ds:List D}{v:V}(h:RB K O H (.ins C ns ds) v):∃a dx xs,v=.ref a/\H a=some (.ins C dx (ns.zip xs))/\ns.length=xs.length/\j3 K (jb H O) ds xs:=by
  rcases h with h | ⟨l,o,rfl,e,h1⟩
  · rw[j7]at h
    obtain⟨a,dx,xs,rfl,q,n,r⟩:=h
    exact⟨a,dx,xs,rfl,yu _ _ q,n,r⟩
  · cases o <;> cases e
    obtain⟨dx,vs,a,n,b⟩:=h1
    exact⟨l,dx,vs,rfl,a,n,b⟩
theorem RB.dct{K:PySem.W.Frag}{O:List Addr}{H:Hp}{ks vs:List D}{v:V}(h:RB K O H (.dct ks vs) v):∃a kvs ep,v=.ref a/\H a=some (.dD kvs ep)/\jQ ks=some (kvs.map (·.1))/\j3 K (jb H O) ks (kvs.map fun p=>V.ref p.2.1)/\j3 K (jb H O) vs (kvs.map (·.2.2)):=by
  rcases h with h | ⟨l,o,rfl,e,h1⟩
  · rw[j7]at h
    obtain⟨a,kvs,ep,rfl,q,n,r⟩:=h
    exact⟨a,kvs,ep,rfl,yu _ _ q,n,r⟩
  · cases o <;> cases e
    obtain⟨kvs,ep,a,n,b⟩:=h1
    exact⟨l,kvs,ep,rfl,a,n,b⟩
structure Rel (K:PySem.W.Frag) (H0:Hp) (O0:List Addr) (ρ:j9) (σ:L2.St) (H:Hp) (O:List Addr):Prop where
  len:σ.length=ρ.length
  sub:∀a∈O0,a∈O
  fr:∀a∈O,a∈O0∨H0 a=none
  al0:∀a∈O0,H0 a≠none
  al:∀a∈O,H a≠none
  keep:j4 H0 H
  cl:∀(i:Nat) (d:D),ρ[i]?=some (.cl d)->∃v,σ[i]?=some (some v)/\j7 K (jb H O) d v
  bo:∀(i:Nat) (d:D),ρ[i]?=some (.bo d)->∃v,σ[i]?=some (some v)/\RB K O0 H0 d v
  ow:∀(i:Nat) (q:Option Addr) (o:OD),ρ[i]?=some (.ow q o)->∃l,(∀p,q=some p->l=p)/\σ[i]?=some (some (.ref l))/\JA K H (jb H O) l o/\l∈O/\H0 l=none
  dist:∀(i j:Nat) (q q':Option Addr) (ds es:OD) (l:Addr),ρ[i]?=some (.ow q ds)->ρ[j]?=some (.ow q' es)->σ[i]?=some (some (.ref l))->σ[j]?=some (some (.ref l))->i=j
section
variable {K:PySem.W.Frag} {H0 H H':Hp} {O0 O:List Addr} {ρ:j9} {σ:L2.St}
theorem Rel.in0(R:Rel K H0 O0 ρ σ H O):j4 (jb H0 O0) (jb H O):=fun b o h=>by
  obtain⟨h1,h2⟩:=JI h
  rw[J3 (fun z=>by rcases R.fr b z with y | y; exact h1 y; rw[h2]at y; cases y)]
  exact R.keep _ _ h2
theorem Rel.grow(R:Rel K H0 O0 ρ σ H O)(s:j4 H H'):Rel K H0 O0 ρ σ H' O where
  len:=R.len
  sub:=R.sub
  fr:=R.fr
  al0:=R.al0
  al:=fun a h z=>R.al a h (s.none z)
  keep:=R.keep.trans s
  cl:=fun i d e=>by obtain⟨v,a,b⟩:=R.cl i d e; exact⟨v,a,b.same (jh s)⟩
  bo:=R.bo
  ow:=fun i q d e=>by obtain⟨l,z,a,b,d,f⟩:=R.ow i q d e; exact⟨l,z,a,b.same (s l) (jh s),d,f⟩
  dist:=R.dist
theorem Rel.new(R:Rel K H0 O0 ρ σ H O){p:Addr}(h:H p=none):p∉O:=fun z=>R.al p z h
theorem jT{α:Type}{xs:List α}{i j:Nat}{x y:α}(h:(xs.set i x)[j]?=some y):(j=i/\y=x/\i < xs.length)∨(j≠i/\xs[j]?=some y):=by
  rw[List.getElem?_set]at h
  by_cases e:i=j
  · subst e
    rw[if_pos rfl]at h
    split at h
    · exact .inl ⟨rfl,(Option.some.inj h).symm,by assumption⟩
    · cases h
  · rw[if_neg e]at h
    exact .inr ⟨fun z=>e z.symm,h⟩
theorem uD{α:Type}{xs:List α}{i:Nat}{x:α}(h:i < xs.length):(xs.set i x)[i]?=some x:=by simp[h]
theorem yo{α:Type}{xs:List α}{i j:Nat}{x:α}(h:j≠i):(xs.set i x)[j]?=xs[j]?:=by rw[List.getElem?_set,if_neg (fun z=>h z.symm)]
theorem Rel.set(R:Rel K H0 O0 ρ σ H O){d:D}{v:V}(q:j7 K (jb H O) d v)(i:Nat):Rel K H0 O0 (ρ.set i (.cl d)) (σ.set i (some v)) H O where
  len:=by rw[List.length_set,List.length_set]; exact R.len
  sub:=R.sub
  fr:=R.fr
  al0:=R.al0
  al:=R.al
  keep:=R.keep
  cl:=fun j d' e=>by
    rcases jT e with⟨rfl,e',hi⟩ | ⟨ne,e'⟩
    · cases e'; exact⟨v,uD (by rw[R.len]; exact hi),q⟩
    · rw[yo ne]; exact R.cl j d' e'
  bo:=fun j d' e=>by
    rcases jT e with⟨rfl,e',hi⟩ | ⟨ne,e'⟩
    · cases e'
    · rw[yo ne]; exact R.bo j d' e'
  ow:=fun j q' d' e=>by
    rcases jT e with⟨rfl,e',hi⟩ | ⟨ne,e'⟩
    · cases e'
    · rw[yo ne]; exact R.ow j q' d' e'
  dist:=fun j k q1 q2 ds es l e1 e2 s1 s2=>by
    rcases jT e1 with⟨rfl,e',hi⟩ | ⟨ne,e1'⟩
    · cases e'
    · rcases jT e2 with⟨rfl,e',hi⟩ | ⟨ne2,e2'⟩
      · cases e'
      · rw[yo ne]at s1; rw[yo ne2]at s2; exact R.dist j k q1 q2 ds es l e1' e2' s1 s2
theorem Rel.own(R:Rel K H0 O0 ρ σ H O){ds:OD}{l:Addr}(s:j4 H H')(hn:H l=none)(h:JA K H' (jb H' (l :: O)) l ds)(i:Nat):Rel K H0 O0 (ρ.set i (.ow none ds)) (σ.set i (some (.ref l))) H' (l :: O) where
  len:=by rw[List.length_set,List.length_set]; exact R.len
  sub:=fun a h=>List.mem_cons_of_mem _ (R.sub a h)
  fr:=fun a ha=>by
    rcases List.mem_cons.mp ha with rfl | ha
    · exact .inr (R.keep.none hn)
    · exact R.fr a ha
  al0:=R.al0
  al:=fun a ha=>by
    rcases List.mem_cons.mp ha with rfl | ha
    · exact h.there
    · exact fun z=>R.al a ha (s.none z)
  keep:=R.keep.trans s
  cl:=fun j d' e=>by
    rcases jT e with⟨rfl,e',hi⟩ | ⟨ne,e'⟩
    · cases e'
    · rw[yo ne]
      obtain⟨v,a,b⟩:=R.cl j d' e'
      exact⟨v,a,b.same (ZO s hn)⟩
  bo:=fun j d' e=>by
    rcases jT e with⟨rfl,e',hi⟩ | ⟨ne,e'⟩
    · cases e'
    · rw[yo ne]; exact R.bo j d' e'
  ow:=fun j q' d' e=>by
    rcases jT e with⟨rfl,e',hi⟩ | ⟨ne,e'⟩
    · cases e'; exact⟨l,(fun p z=>nomatch z),uD (by rw[R.len]; exact hi),h,List.mem_cons_self,R.keep.none hn⟩
    · rw[yo ne]
      obtain⟨l',z,a,b,d,f⟩:=R.ow j q' d' e'
      exact⟨l',z,a,b.same (s l') (ZO s hn),List.mem_cons_of_mem _ d,f⟩
  dist:=fun j k q1 q2 ds' es l' e1 e2 s1 s2=>by
    have other:∀(j:Nat) (q:Option Addr) (ds:OD),ρ[j]?=some (.ow q ds)->σ[j]?≠some (some (.ref l)):=fun j q ds e z=>by
      obtain⟨l2,_,a,b,_⟩:=R.ow j q ds e
      rw[z]at a
      cases a
      exact b.there hn
    rcases jT e1 with⟨rfl,e',hi⟩ | ⟨ne,e1'⟩
    · rcases jT e2 with⟨rfl,e'',hi'⟩ | ⟨ne2,e2'⟩
      · rfl
      · rw[uD (by rw[R.len]; exact hi)]at s1
        cases s1
        rw[yo ne2]at s2
        exact absurd s2 (other k q2 es e2')
    · rcases jT e2 with⟨rfl,e',hi⟩ | ⟨ne2,e2'⟩
      · rw[uD (by rw[R.len]; exact hi)]at s2
        cases s2
        rw[yo ne]at s1
        exact absurd s1 (other j q1 ds' e1')
      · rw[yo ne]at s1; rw[yo ne2]at s2; exact R.dist j k q1 q2 ds' es l' e1' e2' s1 s2
theorem Rel.change(R:Rel K H0 O0 ρ σ H O){qq:Option Addr}{ds ds':OD}{u:HO}{l:Addr}{i:Nat}(e:ρ[i]?=some (.ow qq ds))(hq:∀p,qq=some p->l=p)(hi:σ[i]?=some (some (.ref l)))(hl:l∈O)(h0:H0 l=none)(q:JA K (upd H l u) (jb H O) l ds'):Rel K H0 O0 (ρ.set i (.ow qq ds')) σ (upd H l u) O where
  len:=by rw[List.length_set]; exact R.len
  sub:=R.sub
  fr:=R.fr
  al0:=R.al0
  al:=fun a ha=>by
    by_cases z:a=l
    · rw[z,J7]; exact fun z=>nomatch z
    · rw[jm z]; exact R.al a ha
  keep:=R.keep.upd h0 _
  cl:=fun j d' e=>by
    rcases jT e with⟨rfl,e',hi⟩ | ⟨ne,e'⟩
    · cases e'
    · rw[YF hl]; exact R.cl j d' e'
  bo:=fun j d' e=>by
    rcases jT e with⟨rfl,e',hi⟩ | ⟨ne,e'⟩
    · cases e'
    · exact R.bo j d' e'
  ow:=fun j q' d' e2=>by
    rw[YF hl]
    rcases jT e2 with⟨rfl,e',_⟩ | ⟨ne,e'⟩
    · cases e'; exact⟨l,hq,hi,q,hl,h0⟩
    · obtain⟨l',z,a,b,d,f⟩:=R.ow j q' d' e'
      refine⟨l',z,a,b.same (fun u h=>?_) (j4.refl _),d,f⟩
      rw[jm]
      · exact h
      · rintro rfl
        exact ne (R.dist j i _ _ _ _ _ e' e a hi)
  dist:=fun j k q1 q2 ds1 es l' e1 e2 s1 s2=>by
    have f:∀(j:Nat) (q:Option Addr) (ds1:OD),(ρ.set i (.ow qq ds'))[j]?=some (.ow q ds1)->∃q2 ds2,ρ[j]?=some (.ow q2 ds2):=fun j q ds1 z=>by
      rcases jT z with⟨rfl,_,_⟩ | ⟨_,z⟩
      · exact⟨_,_,e⟩
      · exact⟨_,_,z⟩
    obtain⟨_,d1,f1⟩:=f j _ _ e1
    obtain⟨_,d2,f2⟩:=f k _ _ e2
    exact R.dist j k _ _ _ _ l' f1 f2 s1 s2
theorem Rel.share(R:Rel K H0 O0 ρ σ H O){q:Option Addr}{ds:OD}{i:Nat}(e:ρ[i]?=some (.ow q ds)):∃O',Rel K H0 O0 (ρ.set i (.cl ds.toD)) σ H O'/\j4 (jb H O) (jb H O'):=by
  obtain⟨l,_,hs,q,lo,h0⟩:=R.ow i q ds e
  have ss:j4 (jb H O) (jb H (O.filter (·≠l))):=yJ fun a h=>(List.mem_filter.mp h).1
  have nin:l∉O.filter (·≠l):=fun z=>by simpa using (List.mem_filter.mp z).2
  refine⟨O.filter (·≠l),⟨by rw[List.length_set]; exact R.len,fun a h=>List.mem_filter.mpr ⟨R.sub a h,?_⟩,fun a h=>R.fr a (List.mem_filter.mp h).1,R.al0,fun a h=>R.al a (List.mem_filter.mp h).1,R.keep,?_,?_,?_,?_⟩,ss⟩
  · have z:a≠l:=by
      rintro rfl
      exact R.al0 a h h0
    simpa using z
  · intro j d' e2
    rcases jT e2 with⟨rfl,e',hi⟩ | ⟨ne,e'⟩
    · cases e'
      exact⟨_,hs,(q.same (fun _ z=>z) ss).rep fun u z=>by rw[J3 nin]; exact z⟩
    · obtain⟨v,a,b⟩:=R.cl j d' e'
      exact⟨v,a,b.same ss⟩
  · intro j d' e2
    rcases jT e2 with⟨rfl,e',hi⟩ | ⟨ne,e'⟩
    · cases e'
    · exact R.bo j d' e'
  · intro j q' d' e2
    rcases jT e2 with⟨rfl,e',hi⟩ | ⟨ne,e'⟩
    · cases e'
    · obtain⟨l',z,a,b,d,f⟩:=R.ow j q' d' e'
      refine⟨l',z,a,b.same (fun _ z=>z) ss,List.mem_filter.mpr ⟨d,?_⟩,f⟩
      have z:l'≠l:=by
        rintro rfl
        exact ne (R.dist j i _ _ _ _ _ e' e a hs)
      simpa using z
  · intro j k q1 q2 ds1 es l' e1 e2 s1 s2
    rcases jT e1 with⟨rfl,e',hi⟩ | ⟨ne,e1'⟩
    · cases e'
    · rcases jT e2 with⟨rfl,e',hi⟩ | ⟨ne2,e2'⟩
      · cases e'
      · exact R.dist j k _ _ _ _ l' e1' e2' s1 s2
end
end DS
namespace DS
open PySem PySem.Spec PyProof.Rows L2
noncomputable abbrev DE:=j9->Option D
noncomputable abbrev DO:=j9->Option OD
noncomputable abbrev Fr:=PySem.W.Frag
noncomputable def tE(K:Fr)(de:DE):TE:=fun σ H Q=>∃H0 O0 ρ O d,Rel K H0 O0 ρ σ H O/\de ρ=some d/\∀v H',j4 H H'->j7 K (jb H' O) d v->Q v H'
noncomputable def tR(K:Fr)(de:DE):TE:=fun σ H Q=>∃H0 O0 ρ O d,Rel K H0 O0 ρ σ H O/\de ρ=some d/\∀v H',j4 H H'->RB K O H' d v->Q v H'
noncomputable def tF(K:Fr)(de:DO):TE:=fun σ H Q=>∃H0 O0 ρ O o,Rel K H0 O0 ρ σ H O/\de ρ=some o/\∀l H',j4 H H'->H l=none->JA K H' (jb H' (l :: O)) l o->Q (.ref l) H'
noncomputable def tT(K:Fr)(dt:j9->Option Bool):TT:=fun σ H Q=>∃H0 O0 ρ O b,Rel K H0 O0 ρ σ H O/\dt ρ=some b/\∀H',j4 H H'->Q b H'
noncomputable def AK(K:Fr)(O:List Addr)(H:Hp):Bool->D->V->Prop
  | true,d,v=>j7 K (jb H O) d v
  | false,d,v=>RB K O H d v
noncomputable def yp(K:Fr)(O:List Addr)(H:Hp):List Bool->List D->List V->Prop
  | [],[],[]=>True
  | k :: ks,d :: ds,v :: vs=>AK K O H k d v/\yp K O H ks ds vs
  | _,_,_=>False
theorem AK.same{K:Fr}{O:List Addr}{H H':Hp}(s:j4 H H'):∀{k:Bool} {d:D} {v:V},AK K O H k d v->AK K O H' k d v
  | true,_,_,h=>j7.same (jh s) h
  | false,_,_,h=>RB.same s h
theorem AK.rb{K:Fr}{O:List Addr}{H:Hp}:∀{k:Bool} {d:D} {v:V},AK K O H k d v->RB K O H d v
  | true,_,_,h=>.inl h
  | false,_,_,h=>h
theorem yp.same{K:Fr}{O:List Addr}{H H':Hp}(s:j4 H H'):∀{ks:List Bool} {ds:List D} {vs:List V},yp K O H ks ds vs->yp K O H' ks ds vs
  | [],[],[],_=>trivial
  | _ :: _,_ :: _,_ :: _,h=>⟨AK.same s h.1,yp.same s h.2⟩
  | [],[],_ :: _,h=>h.elim
  | [],_ :: _,_,h=>h.elim
  | _ :: _,[],_,h=>h.elim
  | _ :: _,_ :: _,[],h=>h.elim
noncomputable abbrev DA:=List (Bool×DE)
@[simp] noncomputable def yB:DA->j9->Option (List D)
  | [],_=>some []
  | p :: ps,ρ=>(p.2 ρ).bind fun d=>(yB ps ρ).bind fun ds=>some (d :: ds)
noncomputable def zn(K:Fr)(l:DA):TA:=fun σ H Q=>∃H0 O0 ρ O ds,Rel K H0 O0 ρ σ H O/\yB l ρ=some ds/\∀vs H',j4 H H'->yp K O H' (l.map (·.1)) ds vs->Q vs H'
section
variable {X:Cx} {K:Fr} {e a b c d:Expr} {de da db dc dd:DE} {pos:Pos}
theorem jz{t t':TE}(h:PE X e t)(f:∀σ H Q,t' σ H Q->t σ H Q):PE X e t':=fun pins s σ H Q I q=>h pins s σ H Q I (f σ H Q q)
theorem kb{t t':TT}(h:PT X e t)(f:∀σ H Q,t' σ H Q->t σ H Q):PT X e t':=fun pins s σ H Q I q=>h pins s σ H Q I (f σ H Q q)
theorem XF{t t':TT}(h:PW X e t)(f:∀σ H Q,t' σ H Q->t σ H Q):PW X e t':=fun w pins s σ H Q I q=>h w pins s σ H Q I (f σ H Q q)
theorem XH{es:List Expr}{t t':TA}(h:PA X es t)(f:∀σ H Q,t' σ H Q->t σ H Q):PA X es t':=fun p pins s σ H Q I q=>h p pins s σ H Q I (f σ H Q q)
theorem EO(h:PE X e (tE K de)):PE X e (tR K de):=jz h fun σ H Q ⟨H0,O0,ρ,O,d,R,ed,q⟩=>⟨H0,O0,ρ,O,d,R,ed,fun v H' s r=>q v H' s (.inl r)⟩
noncomputable def dL(df:DO):DE:=fun ρ=>(df ρ).bind fun l=>some l.toD
@[simp] theorem EQ(df:DO){ρ:j9}:dL df ρ=(df ρ).bind fun l=>some l.toD:=rfl
theorem bind_some{α β:Type}{o:Option α}{f:α->Option β}{y:β}(h:o.bind f=some y):∃x,o=some x/\f x=some y:=by
  cases o with
  | none=>cases h
  | some x=>exact⟨x,rfl,h⟩
theorem ER{df:DO}(h:PE X e (tF K df)):PE X e (tE K (dL df)):=jz h fun σ H Q ⟨H0,O0,ρ,O,d,R,ed,q⟩=>by
  obtain⟨ds,e1,e2⟩:=bind_some ed
  cases e2
  exact⟨H0,O0,ρ,O,ds,R,e1,fun l H' s hn r=>q _ _ s ((r.same (fun _ z=>z) (yJ fun a h=>List.mem_cons_of_mem _ h)).rep fun u z=>by rw[J3 (R.new hn)]; exact z)⟩
noncomputable def dV(i:Nat):DE:=fun ρ=>match ρ[i]? with
  | some (.cl d)=>some d
  | some (.bo d)=>some d
  | some (.ow _ o)=>some o.toD
  | _=>none
@[simp] theorem ES(i:Nat){ρ:j9}:dV i ρ=match ρ[i]? with
  | some (.cl d)=>some d
  | some (.bo d)=>some d
  | some (.ow _ o)=>some o.toD
  | _=>none:=rfl
noncomputable def dC(i:Nat):DE:=fun ρ=>match ρ[i]? with
  | some (.cl d)=>some d
  | _=>none
@[simp] theorem ET(i:Nat){ρ:j9}:dC i ρ=match ρ[i]? with
  | some (.cl d)=>some d
  | _=>none:=rfl
theorem Dt(i:Nat){x:Str}(h:PE X (.Name x pos) (Zd i)):PE X (.Name x pos) (tR K (dV i)):=jz h fun σ H Q ⟨H0,O0,ρ,O,d,R,ed,q⟩=>by
  unfold dV at ed
  split at ed
  · cases ed
    obtain⟨v,e1,r⟩:=R.cl i _ (by assumption)
    exact⟨v,e1,q v H (j4.refl H) (.inl r)⟩
  · cases ed
    obtain⟨v,e1,r⟩:=R.bo i _ (by assumption)
    refine⟨v,e1,q v H (j4.refl H) ?_⟩
    rcases r with r | ⟨l,o,e2,e3,h1⟩
    · exact .inl (r.same R.in0)
    · exact .inr ⟨l,o,e2,e3,h1.same (R.keep l) R.in0⟩
  · cases ed
    obtain⟨l,_,e1,h1,_⟩:=R.ow i _ _ (by assumption)
    exact⟨_,e1,q _ H (j4.refl H) (.inr ⟨l,_,rfl,rfl,h1⟩)⟩
  · cases ed
theorem XI(i:Nat){x:Str}(h:PE X (.Name x pos) (Zd i)):PE X (.Name x pos) (tE K (dC i)):=jz h fun σ H Q ⟨H0,O0,ρ,O,d,R,ed,q⟩=>by
  unfold dC at ed
  split at ed
  · cases ed
    obtain⟨v,e1,r⟩:=R.cl i _ (by assumption)
    exact⟨v,e1,q v H (j4.refl H) r⟩
  · cases ed
noncomputable def dK(d:D):DE:=fun _=>some d
@[simp] theorem Hu(d:D){r:j9}:dK d r=some d:=rfl
theorem UT{v:V}{d:D}(h:PE X e (tC v))(r:∀H,j7 K H d v):PE X e (tE K (dK d)):=jz h fun σ H Q ⟨H0,O0,ρ,O,d',R,ed,q⟩=>by
  cases ed
  exact q v H (j4.refl H) (r _)
theorem Du{i j}:PE X (.Constant (.int i) j pos) (tE K (dK (.int i))):=UT br fun _=>by rw[j7]
theorem EU{i j}:PE X (.Constant (.bool i) j pos) (tE K (dK (.bl i))):=UT dX fun _=>by rw[j7]
theorem Dv{j}:PE X (.Constant .none j pos) (tE K (dK .non)):=UT bu fun _=>by rw[j7]
theorem Dw{i j}:PE X (.Constant (.str i) j pos) (tE K (dK (.str i))):=UT bv fun _=>by rw[j7]
theorem Bt{x:Str}{i:Int}(h:PE X (.Name x pos) (tC (.int i))):PE X (.Name x pos) (tE K (dK (.int i))):=UT h fun _=>by rw[j7]
noncomputable def d2(f:D->D->Option D)(da db:DE):DE:=fun ρ=>(da ρ).bind fun x=>(db ρ).bind fun y=>f x y
@[simp] theorem EV(f:D->D->Option D)(da db:DE){ρ:j9}:d2 f da db ρ=(da ρ).bind fun x=>(db ρ).bind fun y=>f x y:=rfl
noncomputable def d1(f:D->Option D)(da:DE):DE:=fun ρ=>(da ρ).bind f
@[simp] theorem Hv(f:D->Option D)(da:DE){ρ:j9}:d1 f da ρ=(da ρ).bind f:=rfl
noncomputable def J5(K:Fr)(r:R2)(f:D->D->Option D):Prop:=∀(O:List Addr) (H:Hp) (a b d:D) (x y:V) (Q:VK),RB K O H a x->RB K O H b y->(∀p,H p=none->p∉O)->f a b=some d->(∀v H',j4 H H'->j7 K (jb H' O) d v->Q v H')->r x y H Q
theorem UU{r:R2}{f:D->D->Option D}(hf:J5 K r f):∀σ H Q,tE K (d2 f da db) σ H Q->qp r (tR K da) (tR K db) σ H Q:=fun σ H Q ⟨H0,O0,ρ,O,d,R,ed,q⟩=>by
  obtain⟨x,ex,ed⟩:=bind_some ed
  obtain⟨y,ey,ed⟩:=bind_some ed
  exact⟨H0,O0,ρ,O,x,R,ex,fun vx H1 s1 rx=>⟨H0,O0,ρ,O,y,R.grow s1,ey,fun vy H2 s2 ry=>hf O H2 x y d vx vy Q (rx.same s2) ry (fun p hp=>(R.grow (s1.trans s2)).new hp) ed fun v H' s r=>q v H' ((s1.trans s2).trans s) r⟩⟩
theorem EW{op:Operator}{r:R2}{f:D->D->Option D}(ho:jH X (binaryOp op) r)(hf:J5 K r f)(ha:PE X a (tR K da))(hb:PE X b (tR K db)):PE X (.BinOp a op b pos) (tE K (d2 f da db)):=jz (Xp ho ha hb) (UU hf)
theorem Dx{op:CmpOp}{r:R2}{f:D->D->Option D}(ho:jH X (compareOp op) r)(hf:J5 K r f)(ha:PE X a (tR K da))(hb:PE X b (tR K db))(hm:behindInMarks op b=false):PE X (.Compare a [op] [b] pos) (tE K (d2 f da db)):=jz (aZ ho ha hb hm) (UU hf)
theorem Bu{r:R2}{f:D->D->Option D}(ho:VL X r)(hf:J5 K r f)(ha:PE X a (tR K da))(hb:PE X b (tR K db))(hs:gM b):PE X (.Subscript a b pos) (tE K (d2 f da db)):=jz (Dl ho ha hb hs) (UU hf)
noncomputable def xx(K:Fr)(r:R2)(f:D->D->Option OD):Prop:=∀(O:List Addr) (H:Hp) (a b:D) (ds:OD) (x y:V) (Q:VK),RB K O H a x->RB K O H b y->f a b=some ds->(∀l H',j4 H H'->H l=none->JA K H' (jb H' (l :: O)) l ds->Q (.ref l) H')->r x y H Q
noncomputable def qL(f:D->D->Option OD)(da db:DE):DO:=fun ρ=>(da ρ).bind fun x=>(db ρ).bind fun y=>f x y
@[simp] theorem He(f:D->D->Option OD)(da db:DE){ρ:j9}:qL f da db ρ=(da ρ).bind fun x=>(db ρ).bind fun y=>f x y:=rfl
theorem Bv{op:Operator}{r:R2}{f:D->D->Option OD}(ho:jH X (binaryOp op) r)(hf:xx K r f)(ha:PE X a (tR K da))(hb:PE X b (tR K db)):PE X (.BinOp a op b pos) (tF K (qL f da db)):=jz (Xp ho ha hb) fun σ H Q ⟨H0,O0,ρ,O,d,R,ed,q⟩=>by
  obtain⟨x,ex,ed⟩:=bind_some ed
  obtain⟨y,ey,ed⟩:=bind_some ed
  exact⟨H0,O0,ρ,O,x,R,ex,fun vx H1 s1 rx=>⟨H0,O0,ρ,O,y,R.grow s1,ey,fun vy H2 s2 ry=>hf O H2 x y d vx vy Q (rx.same s2) ry ed fun l H' s hn r=>q l H' ((s1.trans s2).trans s) ((s1.trans s2).none hn) r⟩⟩
@[simp] noncomputable def fI(C:Int->Int->Bool)(g:Int->Int->D):D->D->Option D
  | .int i,.int j=>if C i j=true then some (g i j)else none
  | _,_=>none
noncomputable def vD:D->Option V
  | .int i=>some (.int i)
  | .bl i=>some (.bl i)
  | .str i=>some (.str i)
  | .non=>some .non
  | _=>none
theorem Bw{K:Fr}{H:Hp}{d:D}{v:V}(h:vD d=some v):j7 K H d v:=by
  cases d <;> first | (cases h; rw[j7]) | cases h
theorem kN{C:Int->Int->Bool}{P:Int->Int->Prop}{g:Int->Int->D}{gv:Int->Int->V}(hP:∀i j,C i j=true->P i j)(hg:∀i j,vD (g i j)=some (gv i j)):J5 K (rI P gv) (fI C g):=by
  intro O H a b d x y Q ha hb _ e q
  unfold fI at e
  split at e
  · split at e
    · cases e
      exact⟨_,_,ha.int,hb.int,hP _ _ (by assumption),q _ H (j4.refl H) (Bw (hg _ _))⟩
    · cases e
  · cases e
theorem UV{g:Int->Int->D}{gv:Int->Int->V}(hg:∀i j,vD (g i j)=some (gv i j)):J5 K (zV gv) (fI (fun _ _=>true) g):=by
  intro O H a b d x y Q ha hb hn e q
  obtain⟨i,j,e1,e2,_,q⟩:=kN (K:=K) (P:=fun _ _=>True) (fun _ _ _=>trivial) hg O H a b d x y Q ha hb hn e q
  exact⟨i,j,e1,e2,q⟩
noncomputable abbrev v4:=fI (fun _ _=>true) fun i j=>.int (i - j)
noncomputable def vU(i j:Int):Bool:=Nat.blt i.natAbs 18446744073709551616 || Nat.blt j.natAbs 18446744073709551616
noncomputable abbrev XJ:=fI vU fun i j=>.int (i * j)
noncomputable abbrev jL:=fI (fun _ j=>decide (0 < j)) fun i j=>.int (i % j)
noncomputable abbrev Ui:=fI (fun _ j=>decide (0 < j) && decide (j < 1073741824)) fun i j=>.int (i / j)
@[simp] noncomputable def Bx(i j:Int):Bool:=decide (0<=j) && (decide (j<=1000000) && decide (i.natAbs < 2 ^ 64))
noncomputable abbrev xy:=fI Bx fun i j=>.int (i ^ j.toNat)
noncomputable abbrev Vm:=fI (fun _ _=>true) fun i j=>.bl (decide (i < j))
noncomputable abbrev Ji:=fI (fun _ _=>true) fun i j=>.bl (decide (i<=j))
noncomputable abbrev zW:=fI (fun _ _=>true) fun i j=>.bl (decide (j < i))
noncomputable abbrev qM:=fI (fun _ _=>true) fun i j=>.bl (decide (j<=i))
theorem Dy:J5 K (zV fun i j=>.int (i - j)) v4:=UV fun _ _=>rfl
theorem Dz:J5 K (rI Ug fun i j=>.int (i * j)) XJ:=kN (fun i j h=>by
  unfold vU at h
  rw[Bool.or_eq_true,Nat.blt_eq,Nat.blt_eq]at h
  unfold Ug
  have e:(2:Int) ^ 64=18446744073709551616:=by decide
  rw[e]
  rcases h with h | h
  · exact .inl ⟨by omega,by omega⟩
  · exact .inr ⟨by omega,by omega⟩) fun _ _=>rfl
theorem DB:J5 K (rI (fun _ j=>0 < j) fun i j=>.int (i % j)) jL:=kN (fun i j h=>by simpa using h) fun _ _=>rfl
theorem DC:J5 K (rI QZ fun i j=>.int (i / j)) Ui:=kN (fun i j h=>by simpa[QZ]using h) fun _ _=>rfl
theorem DD:J5 K (rI Q_ fun i j=>.int (i ^ j.toNat)) xy:=kN (fun i j h=>by simpa[Q_,Bx]using h) fun _ _=>rfl
theorem EX:J5 K (zV fun i j=>.bl (decide (i < j))) Vm:=UV fun _ _=>rfl
theorem EY:J5 K (zV fun i j=>.bl (decide (i<=j))) Ji:=UV fun _ _=>rfl
theorem EZ:J5 K (zV fun i j=>.bl (decide (j < i))) zW:=UV fun _ _=>rfl
theorem E_:J5 K (zV fun i j=>.bl (decide (j<=i))) qM:=UV fun _ _=>rfl
noncomputable def zo:D->Bool
  | .non=>true
  | _=>false
@[simp] theorem F2:zo .non=true:=rfl
@[simp] theorem FL(b:Bool):zo (.bl b)=false:=rfl
@[simp] theorem F5(b:Int):zo (.int b)=false:=rfl
@[simp] theorem F7(b:Str):zo (.str b)=false:=rfl
@[simp] theorem F8(b:List D):zo (.tup b)=false:=rfl
@[simp] theorem Fa(b:List D):zo (.lst b)=false:=rfl
theorem XM{H:Hp}{d:D}{v:V}(h:j7 K H d v):decide (v=.non)=zo d:=by
  cases d <;> rw[j7]at h
  all_goals first
    | (subst h; rfl)
    | (obtain⟨_,_,rfl,_⟩:=h; rfl)
    | (obtain⟨_,_,_,rfl,_⟩:=h; rfl)
    | (obtain⟨_,rfl,_⟩:=h; rfl)
noncomputable def Uj:D->D->Option D
  | d,.non=>some (.bl (zo d))
  | _,_=>none
@[simp] theorem f9(d:D):Uj d .non=some (.bl (zo d)):=by cases d <;> rfl
noncomputable def yC:D->D->Option D
  | d,.non=>some (.bl (!zo d))
  | _,_=>none
@[simp] theorem Eb(d:D):yC d .non=some (.bl (!zo d)):=by cases d <;> rfl
theorem DF:J5 K (fun x y H Q=>y=.non/\Q (.bl (decide (x=.non))) H) Uj:=by
  intro O H a b d x y Q ha hb _ e q
  unfold Uj at e
  split at e
  · cases e
    exact⟨hb.non,q _ H (j4.refl H) (by rw[j7,XM ha.full])⟩
  · cases e
theorem Bz:J5 K (fun x y H Q=>y=.non/\Q (.bl (!decide (x=.non))) H) yC:=by
  intro O H a b d x y Q ha hb _ e q
  unfold yC at e
  split at e
  · cases e
    exact⟨hb.non,q _ H (j4.refl H) (by rw[j7,XM ha.full])⟩
  · cases e
@[simp] noncomputable def kO:D->D->Option D
  | .int i,.int j=>some (.bl (decide (i=j)))
  | .bl i,.bl j=>some (.bl (decide (i=j)))
  | .str i,.str j=>some (.bl (decide (i=j)))
  | _,_=>none
@[simp] noncomputable def xz(a b:D):Option D:=(kO a b).bind fun r=>match r with | .bl c=>some (.bl (!c)) | _=>none
theorem vA(x y:Int):decide (V.int x=V.int y)=decide (x=y):=by simp
theorem VG(x y:Bool):decide (V.bl x=V.bl y)=decide (x=y):=by simp
theorem vB(x y:Str):decide (V.str x=V.str y)=decide (x=y):=by simp
theorem DH:J5 K Xr kO:=by
  intro O H a b d x y Q ha hb _ e q
  unfold kO at e
  split at e
  · cases e
    rw[ha.int,hb.int]
    exact⟨rfl,q _ H (j4.refl H) (by rw[j7,vA])⟩
  · cases e
    rw[ha.bl,hb.bl]
    exact⟨rfl,q _ H (j4.refl H) (by rw[j7,VG])⟩
  · cases e
    rw[ha.str,hb.str]
    exact⟨rfl,q _ H (j4.refl H) (by rw[j7,vB])⟩
  · cases e
theorem DJ:J5 K Xs xz:=by
  intro O H a b d x y Q ha hb _ e q
  unfold xz kO at e
  obtain⟨r,e1,e2⟩:=bind_some e
  split at e1
  · cases e1; cases e2
    rw[ha.int,hb.int]
    exact⟨rfl,q _ H (j4.refl H) (by rw[j7,vA])⟩
  · cases e1; cases e2
    rw[ha.bl,hb.bl]
    exact⟨rfl,q _ H (j4.refl H) (by rw[j7,VG])⟩
  · cases e1; cases e2
    rw[ha.str,hb.str]
    exact⟨rfl,q _ H (j4.refl H) (by rw[j7,vB])⟩
  · cases e1
noncomputable def jc:D->D->Option D
  | .lst l,.int i=>atI l i
  | .tup l,.int i=>atI l i
  | _,_=>none
@[simp] theorem Fb(l:List D)(i:Int):jc (.lst l) (.int i)=L2.atI l i:=rfl
@[simp] theorem Fc(l:List D)(i:Int):jc (.tup l) (.int i)=L2.atI l i:=rfl
theorem j3.atI{H:Hp}{l:List D}{xs:List V}{i:Int}{d:D}(h:j3 K H l xs)(e:L2.atI l i=some d):∃v,L2.atI xs i=some v/\j7 K H d v:=by
  unfold L2.atI at e⊢
  rw[h.len]
  obtain⟨j,e1,e2⟩:=bind_some e
  obtain⟨v,e3,r⟩:=h.get e2
  exact⟨v,by rw[e1]; exact e3,r⟩
theorem fb:J5 K (E7 K) jc:=by
  intro O H a b d x y Q ha hb _ e q
  unfold jc at e
  split at e
  · obtain⟨p,xs,rfl,h1,h2⟩:=ha.lst
    obtain⟨v,e3,r⟩:=h2.atI e
    exact .inl ⟨p,xs,_,v,rfl,hb.int,jy.of h1,e3,q v H (j4.refl H) r⟩
  · obtain⟨p,xs,rfl,h1,h2⟩:=ha.tup
    obtain⟨v,e3,r⟩:=h2.atI e
    exact .inr (.inl ⟨p,xs,_,v,rfl,hb.int,h1,e3,q v H (j4.refl H) r⟩)
  · cases e
@[simp] noncomputable def Ww:D->D->Option OD
  | .lst l,.lst m=>if l.length + m.length<=sizeLine then some (.lst (l ++ m))else none
  | _,_=>none
theorem JJ{O:List Addr}{H:Hp}{p:Addr}{ds:List D}{vs:List V}(hp:H p=none)(r:j3 K (jb H O) ds vs):JA K (upd H p (.lst vs)) (jb (upd H p (.lst vs)) (p :: O)) p (.lst ds):=⟨vs,J7,r.same (ZO (jK hp _) hp)⟩
theorem DK:xx K Bn Ww:=by
  intro O H a b ds x y Q ha hb e q
  unfold Ww at e
  split at e
  · split at e
    · cases e
      obtain⟨p,xs,rfl,h1,h2⟩:=ha.lst
      obtain⟨p',xs',rfl,h1',h2'⟩:=hb.lst
      exact⟨p,p',xs,xs',rfl,rfl,h1,h1',by rw[h2.len,h2'.len]; assumption,fun l hl=>q l _ (jK hl _) hl (JJ hl (h2.app h2'))⟩
    · cases e
  · cases e
theorem yv{O:List Addr}{H:Hp}{p:Addr}{ds:List D}{vs:List V}(hO:p∉O)(hp:H p=none)(r:j3 K (jb H O) ds vs):j7 K (jb (upd H p (.tup vs)) O) (.tup ds) (.ref p):=by
  rw[j7]
  refine⟨p,vs,rfl,Ju.of ?_,r.same (jh (jK hp _))⟩
  rw[J3 hO,J7]
@[simp] noncomputable def jA:D->D->Option D
  | .int i,.int j=>some (.int (i + j))
  | .str i,.str j=>if i.length + j.length<=sizeLine then some (.str (i ++ j))else none
  | .tup l,.tup m=>if l.length + m.length<=sizeLine/\l≠[]then some (.tup (l ++ m))else none
  | _,_=>none
theorem DL:J5 K (fun x y H Q=>zV (fun i j=>.int (i + j)) x y H Q∨(fun x y H Q=>Wr K x y H Q∨(fun x y H Q=>∃i j,x=.str i/\y=.str j/\i.length + j.length<=sizeLine/\Q (.str (i ++ j)) H) x y H Q) x y H Q) jA:=by
  intro O H a b d x y Q ha hb hn e q
  unfold jA at e
  split at e
  · cases e
    exact .inl ⟨_,_,ha.int,hb.int,q _ H (j4.refl H) (by rw[j7])⟩
  · split at e
    · cases e
      exact .inr (.inr ⟨_,_,ha.str,hb.str,by assumption,q _ H (j4.refl H) (by rw[j7])⟩)
    · cases e
  · split at e
    · rename_i hh
      cases e
      obtain⟨p,xs,rfl,h1,h2⟩:=ha.tup
      obtain⟨p',xs',rfl,h1',h2'⟩:=hb.tup
      have l1:=h2.len
      have l2:=h2'.len
      refine .inr (.inl ⟨p,p',xs,xs',rfl,rfl,h1,h1',fun z=>hh.2 (List.length_eq_zero_iff.mp (by rw[<-l1,z]; rfl)),by rw[l1,l2]; exact hh.1,fun z=>?_,fun _ l hl=>q _ _ (jK hl _) (yv (hn l hl) hl (h2.app h2'))⟩)
      refine q _ H (j4.refl H) ?_
      have e0:∀m:List D,xs'.length=m.length->xs'=[]->m=[]:=fun m h z=>List.length_eq_zero_iff.mp (by rw[<-h,z]; rfl)
      rw[e0 _ l2 z,List.append_nil]
      rcases ha with ha | ⟨_,o,_,z,_⟩
      · exact ha
      · cases o <;> cases z
    · cases e
  · cases e
@[simp] noncomputable def Wx:D->D->Option OD
  | .lst l,.int k=>if -(2 ^ 63)<=k/\k < 2 ^ 63/\l.length * k.toNat<=sizeLine then some (.lst (List.replicate k.toNat l).flatten)else none
  | _,_=>none
theorem j3.flat{H:Hp}{l:List D}{xs:List V}(h:j3 K H l xs):∀n:Nat,j3 K H (List.replicate n l).flatten (List.replicate n xs).flatten
  | 0=>j3.nil
  | n + 1=>by rw[List.replicate_succ,List.flatten_cons,List.replicate_succ,List.flatten_cons]; exact h.app (h.flat n)
theorem BA:xx K Bp Wx:=by
  intro O H a b ds x y Q ha hb e q
  unfold Wx at e
  split at e
  · split at e
    · rename_i hh
      cases e
      obtain⟨p,xs,rfl,h1,h2⟩:=ha.lst
      exact⟨p,_,xs,rfl,hb.int,h1,hh.1,hh.2.1,by rw[h2.len]; exact hh.2.2,fun l hl=>q l _ (jK hl _) hl (JJ hl (h2.flat _))⟩
    · cases e
  · cases e
end
end DS
namespace DS
open PySem PySem.Spec PyProof.Rows L2
section
variable {X:Cx} {K:Fr} {e a b c d:Expr} {de da db dc dd:DE} {pos:Pos}
@[simp] noncomputable def VP(z:D)(yes:Option D):Option D:=match z with
  | .bl true=>yes
  | .bl false=>some (.bl false)
  | _=>none
theorem ZP{z d:D}{y:Option D}(h:VP z y=some d):∃k,z=.bl k/\((k=true/\y=some d)∨(k=false/\d=.bl false)):=by
  unfold VP at h
  split at h
  · exact⟨true,rfl,.inl ⟨rfl,h⟩⟩
  · exact⟨false,rfl,.inr ⟨rfl,(Option.some.inj h).symm⟩⟩
  · cases h
noncomputable def J8(f f':D->D->Option D)(da db dc:DE):DE:=fun ρ=>(da ρ).bind fun x=>(db ρ).bind fun y=>(f x y).bind fun z=>VP z ((dc ρ).bind fun w=>f' y w)
@[simp] theorem fc(f f':D->D->Option D)(da db dc:DE){ρ:j9}:J8 f f' da db dc ρ=(da ρ).bind fun x=>(db ρ).bind fun y=>(f x y).bind fun z=>VP z ((dc ρ).bind fun w=>f' y w):=rfl
theorem qN{r r':R2}{f f':D->D->Option D}(hf:J5 K r f)(hf':J5 K r' f'):∀σ H Q,tE K (J8 f f' da db dc) σ H Q->ky r r' (tR K da) (tR K db) (tR K dc) σ H Q:=fun σ H Q ⟨H0,O0,ρ,O,d,R,ed,q⟩=>by
  obtain⟨x,ex,ed⟩:=bind_some ed
  obtain⟨y,ey,ed⟩:=bind_some ed
  obtain⟨z,ez,ed⟩:=bind_some ed
  obtain⟨k,rfl,ek⟩:=ZP ed
  refine⟨H0,O0,ρ,O,x,R,ex,fun vx H1 s1 rx=>⟨H0,O0,ρ,O,y,R.grow s1,ey,fun vy H2 s2 ry=>hf O H2 x y _ vx vy _ (rx.same s2) ry (fun p hp=>(R.grow (s1.trans s2)).new hp) ez fun v H3 s3 rz=>?_⟩⟩
  rw[j7]at rz
  subst rz
  refine⟨k,rfl,?_⟩
  have s13:=(s1.trans s2).trans s3
  rcases ek with⟨rfl,e2⟩ | ⟨rfl,rfl⟩
  · obtain⟨w,ew,e3⟩:=bind_some e2
    exact zC ⟨H0,O0,ρ,O,w,R.grow s13,ew,fun vw H4 s4 rw'=>hf' O H4 y w d vy vw Q ((ry.same s3).same s4) rw' (fun p hp=>(R.grow (s13.trans s4)).new hp) e3 fun v H' s r=>q v H' ((s13.trans s4).trans s) r⟩
  · exact zB (q _ _ s13 (by rw[j7]))
theorem Ak{op op':CmpOp}{r r':R2}{f f':D->D->Option D}(ho:jH X (compareOp op) r)(ho':jH X (compareOp op') r')(hf:J5 K r f)(hf':J5 K r' f')(ha:PE X a (tR K da))(hb:PE X b (tR K db))(hc:PE X c (tR K dc))(hm:lastMarks [op,op'] [b,c]=false:=by with_unfolding_all rfl):PE X (.Compare a [op,op'] [b,c] pos) (tE K (J8 f f' da db dc)):=jz (xa ho ho' ha hb hc hm) (qN hf hf')
noncomputable def vG(f f' f'':D->D->Option D)(da db dc dd:DE):DE:=fun ρ=>(da ρ).bind fun x=>(db ρ).bind fun y=>(f x y).bind fun z=>VP z ((dc ρ).bind fun w=>(f' y w).bind fun z'=>VP z' ((dd ρ).bind fun u=>f'' w u))
@[simp] theorem Ec(f f' f'':D->D->Option D)(da db dc dd:DE){ρ:j9}:vG f f' f'' da db dc dd ρ=(da ρ).bind fun x=>(db ρ).bind fun y=>(f x y).bind fun z=>VP z ((dc ρ).bind fun w=>(f' y w).bind fun z'=>VP z' ((dd ρ).bind fun u=>f'' w u)):=rfl
theorem xA{op op' op'':CmpOp}{r r' r'':R2}{f f' f'':D->D->Option D}(ho:jH X (compareOp op) r)(ho':jH X (compareOp op') r')(ho'':jH X (compareOp op'') r'')(hf:J5 K r f)(hf':J5 K r' f')(hf'':J5 K r'' f'')(ha:PE X a (tR K da))(hb:PE X b (tR K db))(hc:PE X c (tR K dc))(hd:PE X d (tR K dd))(hm:lastMarks [op,op',op''] [b,c,d]=false:=by with_unfolding_all rfl):
    PE X (.Compare a [op,op',op''] [b,c,d] pos) (tE K (vG f f' f'' da db dc dd)):=jz (qH ho ho' ho'' ha hb hc hd hm) fun σ H Q ⟨H0,O0,ρ,O,d,R,ed,q⟩=>by
  obtain⟨x,ex,ed⟩:=bind_some ed
  obtain⟨y,ey,ed⟩:=bind_some ed
  obtain⟨z,ez,ed⟩:=bind_some ed
  obtain⟨k,rfl,ek⟩:=ZP ed
  refine⟨H0,O0,ρ,O,x,R,ex,fun vx H1 s1 rx=>⟨H0,O0,ρ,O,y,R.grow s1,ey,fun vy H2 s2 ry=>hf O H2 x y _ vx vy _ (rx.same s2) ry (fun p hp=>(R.grow (s1.trans s2)).new hp) ez fun v H3 s3 rz=>?_⟩⟩
  rw[j7]at rz
  subst rz
  refine⟨k,rfl,?_⟩
  have s13:=(s1.trans s2).trans s3
  rcases ek with⟨rfl,e2⟩ | ⟨rfl,rfl⟩
  · obtain⟨w,ew,e3⟩:=bind_some e2
    obtain⟨z',ez',e3⟩:=bind_some e3
    obtain⟨k',rfl,ek'⟩:=ZP e3
    refine zC ⟨H0,O0,ρ,O,w,R.grow s13,ew,fun vw H4 s4 rw'=>hf' O H4 y w _ vy vw _ ((ry.same s3).same s4) rw' (fun p hp=>(R.grow (s13.trans s4)).new hp) ez' fun v H5 s5 r=>?_⟩
    rw[j7]at r
    subst r
    refine⟨k',rfl,?_⟩
    have s15:=(s13.trans s4).trans s5
    rcases ek' with⟨rfl,e4⟩ | ⟨rfl,rfl⟩
    · obtain⟨u,eu,e5⟩:=bind_some e4
      exact zC ⟨H0,O0,ρ,O,u,R.grow s15,eu,fun vu H6 s6 ru=>hf'' O H6 w u d vw vu Q ((rw'.same s5).same s6) ru (fun p hp=>(R.grow (s15.trans s6)).new hp) e5 fun v H' s r=>q v H' ((s15.trans s6).trans s) r⟩
    · exact zB (q _ _ s15 (by rw[j7]))
  · exact zB (q _ _ s13 (by rw[j7]))
@[simp] noncomputable def XO:D->Option Bool
  | .bl b=>some b
  | _=>none
noncomputable def vV:D->Option Bool
  | .bl b=>some b
  | .non=>some false
  | .int i=>some (i != 0)
  | .lst l=>some (!l.isEmpty)
  | .tup l=>some (!l.isEmpty)
  | _=>none
@[simp] theorem Fd(b:Bool):vV (.bl b)=some b:=rfl
@[simp] theorem fe:vV .non=some false:=rfl
@[simp] theorem ff(l:List D):vV (.lst l)=some (!l.isEmpty):=rfl
@[simp] theorem fg(l:List D):vV (.tup l)=some (!l.isEmpty):=rfl
@[simp] theorem fh(i:Int):vV (.int i)=some (i != 0):=rfl
theorem BB{O:List Addr}{H:Hp}{d:D}{v:V}{k:Bool}(h:RB K O H d v)(e:vV d=some k):xc K v H k:=by
  unfold vV at e
  split at e
  · cases e; rw[h.bl]; rfl
  · cases e; rw[h.non]; rfl
  · cases e; rw[h.int]; rfl
  · cases e
    obtain⟨p,xs,rfl,h1,h2⟩:=h.lst
    refine .inl ⟨xs,jy.of h1,?_⟩
    have:=h2.len
    cases xs with
    | nil=>rw[List.length_eq_zero_iff.mp this.symm]; rfl
    | cons x xs=>
      rename_i l
      cases l with
      | nil=>cases this
      | cons y l=>rfl
  · cases e
    obtain⟨p,xs,rfl,h1,h2⟩:=h.tup
    refine .inr (.inl ⟨xs,h1,?_⟩)
    have:=h2.len
    cases xs with
    | nil=>rw[List.length_eq_zero_iff.mp this.symm]; rfl
    | cons x xs=>
      rename_i l
      cases l with
      | nil=>cases this
      | cons y l=>rfl
  · cases e
noncomputable abbrev DT:=j9->Option Bool
noncomputable def J9(de:DE):DT:=fun ρ=>(de ρ).bind vV
@[simp] theorem FM(de:DE){ρ:j9}:J9 de ρ=(de ρ).bind vV:=rfl
theorem XQ(h:PE X e (tR K de))(hK:X.K=K:=by rfl)(he:∀whole,isTrue e X.env whole=(do let v<-whole; standAt e.pos; holding [v] (truthy v)):=by intro _; rfl):PT X e (tT K (J9 de)):=kb (xf h he) fun σ H Q ⟨H0,O0,ρ,O,k,R,ed,q⟩=>by
  subst hK
  obtain⟨d,e1,e2⟩:=bind_some ed
  exact⟨H0,O0,ρ,O,d,R,e1,fun v H' s r=>⟨k,BB r e2,q H' s⟩⟩
noncomputable def jt(de:DE):DT:=fun ρ=>(de ρ).bind XO
@[simp] theorem Hf(de:DE){ρ:j9}:jt de ρ=(de ρ).bind XO:=rfl
theorem kP{d:D}{k:Bool}(h:XO d=some k):d=.bl k:=by
  unfold XO at h
  split at h
  · cases h; rfl
  · cases h
theorem DM{op:CmpOp}{r:R2}{f:D->D->Option D}(ho:jH X (compareOp op) r)(hf:J5 K r f)(ha:PE X a (tR K da))(hb:PE X b (tR K db))(hm:behindInMarks op b=false):PT X (.Compare a [op] [b] pos) (tT K (jt (d2 f da db))):=kb (a_ ho ha hb hm) fun σ H Q ⟨H0,O0,ρ,O,k,R,ed,q⟩=>by
  obtain⟨d,e1,e2⟩:=bind_some ed
  cases kP e2
  exact UU hf σ H _ ⟨H0,O0,ρ,O,_,R,e1,fun v H' s r=>⟨k,by rw[j7]at r; exact r,q H' s⟩⟩
theorem Al{op op':CmpOp}{r r':R2}{f f':D->D->Option D}(ho:jH X (compareOp op) r)(ho':jH X (compareOp op') r')(hf:J5 K r f)(hf':J5 K r' f')(ha:PE X a (tR K da))(hb:PE X b (tR K db))(hc:PE X c (tR K dc))(hm:lastMarks [op,op'] [b,c]=false:=by with_unfolding_all rfl):PT X (.Compare a [op,op'] [b,c] pos) (tT K (jt (J8 f f' da db dc))):=kb (xb ho ho' ha hb hc hm) fun σ H Q ⟨H0,O0,ρ,O,k,R,ed,q⟩=>by
  obtain⟨d,e1,e2⟩:=bind_some ed
  cases kP e2
  have e1':=e1
  obtain⟨x,ex,e1⟩:=bind_some e1
  obtain⟨y,ey,e1⟩:=bind_some e1
  obtain⟨z,ez,e1⟩:=bind_some e1
  obtain⟨k',rfl,ek⟩:=ZP e1
  refine⟨H0,O0,ρ,O,x,R,ex,fun vx H1 s1 rx=>⟨H0,O0,ρ,O,y,R.grow s1,ey,fun vy H2 s2 ry=>hf O H2 x y _ vx vy _ (rx.same s2) ry (fun p hp=>(R.grow (s1.trans s2)).new hp) ez fun v H3 s3 rz=>?_⟩⟩
  rw[j7]at rz
  subst rz
  refine⟨k',rfl,?_⟩
  have s13:=(s1.trans s2).trans s3
  rcases ek with⟨rfl,e2⟩ | ⟨rfl,e0⟩
  · obtain⟨w,ew,e3⟩:=bind_some e2
    exact zC ⟨H0,O0,ρ,O,w,R.grow s13,ew,fun vw H4 s4 rw'=>hf' O H4 y w _ vy vw _ ((ry.same s3).same s4) rw' (fun p hp=>(R.grow (s13.trans s4)).new hp) e3 fun v H' s r=>⟨k,by rw[j7]at r; exact r,q H' ((s13.trans s4).trans s)⟩⟩
  · cases e0
    exact zB ⟨false,rfl,q _ s13⟩
noncomputable def yd(dt:DT):DT:=fun ρ=>(dt ρ).bind fun k=>some (!k)
@[simp] theorem Fe(dt:DT){ρ:j9}:yd dt ρ=(dt ρ).bind fun k=>some (!k):=rfl
theorem DN{dt:DT}(h:PT X a (tT K dt)):PT X (.UnaryOp .Not a pos) (tT K (yd dt)):=kb (bA h) fun σ H Q ⟨H0,O0,ρ,O,k,R,ed,q⟩=>by
  obtain⟨k',e1,e2⟩:=bind_some ed
  cases e2
  exact⟨H0,O0,ρ,O,k',R,e1,fun H' s=>q H' s⟩
noncomputable def JB(dt du:DT):DT:=fun ρ=>(dt ρ).bind fun k=>if k=true then du ρ else some false
@[simp] theorem Ff(dt du:DT){ρ:j9}:JB dt du ρ=(dt ρ).bind fun k=>if k=true then du ρ else some false:=rfl
noncomputable def Zi(dt du:DT):DT:=fun ρ=>(dt ρ).bind fun k=>if k=true then some true else du ρ
@[simp] theorem FN(dt du:DT){ρ:j9}:Zi dt du ρ=(dt ρ).bind fun k=>if k=true then some true else du ρ:=rfl
theorem BC{dt:DT}(h:PT X a (tT K dt)):PW X (.BoolOp .And [a] pos) (tT K dt):=aP h
theorem DP{dt:DT}(h:PT X a (tT K dt)):PW X (.BoolOp .Or [a] pos) (tT K dt):=bw h
theorem DQ{dt du:DT}{rest:List Expr}(h:PT X a (tT K dt))(h2:PW X (.BoolOp .And (b :: rest) pos) (tT K du)):PW X (.BoolOp .And (a :: b :: rest) pos) (tT K (JB dt du)):=XF (bx h h2) fun σ H Q ⟨H0,O0,ρ,O,k,R,ed,q⟩=>by
  obtain⟨k',e1,e2⟩:=bind_some ed
  refine⟨H0,O0,ρ,O,k',R,e1,fun H' s=>?_⟩
  cases k' with
  | true=>rw[if_pos rfl]at e2; exact zC ⟨H0,O0,ρ,O,k,R.grow s,e2,fun H2 s2=>q H2 (s.trans s2)⟩
  | false=>rw[if_neg Bool.false_ne_true]at e2; cases e2; exact zB (q H' s)
theorem fj{dt du:DT}{rest:List Expr}(h:PT X a (tT K dt))(h2:PW X (.BoolOp .Or (b :: rest) pos) (tT K du)):PW X (.BoolOp .Or (a :: b :: rest) pos) (tT K (Zi dt du)):=XF (dY h h2) fun σ H Q ⟨H0,O0,ρ,O,k,R,ed,q⟩=>by
  obtain⟨k',e1,e2⟩:=bind_some ed
  refine⟨H0,O0,ρ,O,k',R,e1,fun H' s=>?_⟩
  cases k' with
  | true=>rw[if_pos rfl]at e2; cases e2; exact zC (q H' s)
  | false=>rw[if_neg Bool.false_ne_true]at e2; exact zB ⟨H0,O0,ρ,O,k,R.grow s,e2,fun H2 s2=>q H2 (s.trans s2)⟩
theorem BD{dt:DT}(h:PW X e (tT K dt)):PT X e (tT K dt):=h.pt
noncomputable def JC(da db:DE):DE:=fun ρ=>(da ρ).bind fun x=>match x with
  | .bl true=>db ρ
  | .bl false=>some (.bl false)
  | _=>none
@[simp] theorem Fg(da db:DE){ρ:j9}:JC da db ρ=(da ρ).bind fun x=>match x with
  | .bl true=>db ρ
  | .bl false=>some (.bl false)
  | _=>none:=rfl
noncomputable def gQ(da db:DE):DE:=fun ρ=>(da ρ).bind fun x=>match x with
  | .bl true=>some (.bl true)
  | .bl false=>db ρ
  | _=>none
@[simp] theorem FO(da db:DE){ρ:j9}:gQ da db ρ=(da ρ).bind fun x=>match x with
  | .bl true=>some (.bl true)
  | .bl false=>db ρ
  | _=>none:=rfl
noncomputable def ke(da:DE):DE:=fun ρ=>(da ρ).bind fun x=>match x with
  | .bl k=>some (.bl (!k))
  | _=>none
@[simp] theorem Fh(da:DE){ρ:j9}:ke da ρ=(da ρ).bind fun x=>match x with
  | .bl k=>some (.bl (!k))
  | _=>none:=rfl
theorem XR{op}(h:PE X a (tE K da)):PE X (.BoolOp op [a] pos) (tE K da):=bB h
theorem DR{rest:List Expr}(ha:PE X a (tR K da))(hb:PE X (.BoolOp .And (b :: rest) pos) (tE K db)):PE X (.BoolOp .And (a :: b :: rest) pos) (tE K (JC da db)):=jz (bC ha hb) fun σ H Q ⟨H0,O0,ρ,O,d,R,ed,q⟩=>by
  obtain⟨x,e1,e2⟩:=bind_some ed
  refine⟨H0,O0,ρ,O,x,R,e1,fun v H' s r=>?_⟩
  split at e2
  · exact⟨true,r.bl,zC ⟨H0,O0,ρ,O,d,R.grow s,e2,fun v H2 s2 r2=>q v H2 (s.trans s2) r2⟩⟩
  · cases e2; exact⟨false,r.bl,zB (q _ _ s (by rw[j7]))⟩
  · cases e2
theorem fk{rest:List Expr}(ha:PE X a (tR K da))(hb:PE X (.BoolOp .Or (b :: rest) pos) (tE K db)):PE X (.BoolOp .Or (a :: b :: rest) pos) (tE K (gQ da db)):=jz (D0 ha hb) fun σ H Q ⟨H0,O0,ρ,O,d,R,ed,q⟩=>by
  obtain⟨x,e1,e2⟩:=bind_some ed
  refine⟨H0,O0,ρ,O,x,R,e1,fun v H' s r=>?_⟩
  split at e2
  · cases e2; exact⟨true,r.bl,zC (q _ _ s (by rw[j7]))⟩
  · exact⟨false,r.bl,zB ⟨H0,O0,ρ,O,d,R.grow s,e2,fun v H2 s2 r2=>q v H2 (s.trans s2) r2⟩⟩
  · cases e2
theorem DU(ha:PE X a (tR K da)):PE X (.UnaryOp .Not a pos) (tE K (ke da)):=jz (bD ha) fun σ H Q ⟨H0,O0,ρ,O,d,R,ed,q⟩=>by
  obtain⟨x,e1,e2⟩:=bind_some ed
  refine⟨H0,O0,ρ,O,x,R,e1,fun v H' s r=>?_⟩
  split at e2
  · cases e2; exact⟨_,r.bl,q _ _ s (by rw[j7])⟩
  · cases e2
noncomputable def Yr(da:DE):DE:=fun ρ=>(da ρ).bind fun x=>match x with
  | .int i=>some (.int (-i))
  | _=>none
@[simp] theorem FP(da:DE){ρ:j9}:Yr da ρ=(da ρ).bind fun x=>match x with
  | .int i=>some (.int (-i))
  | _=>none:=rfl
theorem DV(ha:PE X a (tR K da)):PE X (.UnaryOp .USub a pos) (tE K (Yr da)):=jz (Da bX ha) fun σ H Q ⟨H0,O0,ρ,O,d,R,ed,q⟩=>by
  obtain⟨x,e1,e2⟩:=bind_some ed
  refine⟨H0,O0,ρ,O,x,R,e1,fun v H' s r=>?_⟩
  split at e2
  · cases e2; exact⟨_,r.int,q _ _ s (by rw[j7])⟩
  · cases e2
noncomputable def Zj(dt:DT)(da db:DE):DE:=fun ρ=>(dt ρ).bind fun k=>if k=true then da ρ else db ρ
@[simp] theorem FQ(dt:DT)(da db:DE){ρ:j9}:Zj dt da db ρ=(dt ρ).bind fun k=>if k=true then da ρ else db ρ:=rfl
theorem DW{dt:DT}(hc:PT X c (tT K dt))(ha:PE X a (tE K da))(hb:PE X b (tE K db)):PE X (.IfExp c a b pos) (tE K (Zj dt da db)):=jz (QQ hc ha hb) fun σ H Q ⟨H0,O0,ρ,O,d,R,ed,q⟩=>by
  obtain⟨k,e1,e2⟩:=bind_some ed
  refine⟨H0,O0,ρ,O,k,R,e1,fun H' s=>?_⟩
  cases k with
  | true=>rw[if_pos rfl]at e2; exact zC ⟨H0,O0,ρ,O,d,R.grow s,e2,fun v H2 s2 r2=>q v H2 (s.trans s2) r2⟩
  | false=>rw[if_neg Bool.false_ne_true]at e2; exact zB ⟨H0,O0,ρ,O,d,R.grow s,e2,fun v H2 s2 r2=>q v H2 (s.trans s2) r2⟩
theorem DX:PA X [] (zn K []):=XH Y9 fun σ H Q ⟨H0,O0,ρ,O,ds,R,ed,q⟩=>by
  cases ed
  exact q [] H (j4.refl H) trivial
theorem XS{es:List Expr}{l:DA}{k:Bool}{t:TE}(ht:∀σ H Q,(∃H0 O0 ρ O d,Rel K H0 O0 ρ σ H O/\de ρ=some d/\∀v H',j4 H H'->AK K O H' k d v->Q v H')->t σ H Q)(h:PE X e t)(hr:PA X es (zn K l))(hs:starEach (e :: es) X.env=(false,eval e X.env) :: starEach es X.env:=by rfl):PA X (e :: es) (zn K ((k,de) :: l)):=XH (Jd h hr hs) fun σ H Q ⟨H0,O0,ρ,O,ds,R,ed,q⟩=>by
  obtain⟨d,e1,ed⟩:=bind_some ed
  obtain⟨ds',e2,ed⟩:=bind_some ed
  cases ed
  exact ht _ _ _ ⟨H0,O0,ρ,O,d,R,e1,fun v H1 s1 r1=>⟨H0,O0,ρ,O,ds',R.grow s1,e2,fun vs H2 s2 r2=>q _ H2 (s1.trans s2) ⟨r1.same s2,r2⟩⟩⟩
theorem fm{es:List Expr}{l:DA}(h:PE X e (tE K de))(hr:PA X es (zn K l))(hs:starEach (e :: es) X.env=(false,eval e X.env) :: starEach es X.env:=by rfl):PA X (e :: es) (zn K ((true,de) :: l)):=XS (fun σ H Q z=>z) h hr hs
theorem fq{es:List Expr}{l:DA}(h:PE X e (tR K de))(hr:PA X es (zn K l))(hs:starEach (e :: es) X.env=(false,eval e X.env) :: starEach es X.env:=by rfl):PA X (e :: es) (zn K ((false,de) :: l)):=XS (fun σ H Q z=>z) h hr hs
theorem VQ:∀{l:DA} {ρ:j9} {ds:List D},yB l ρ=some ds->ds.length=l.length
  | [],_,_,h=>by cases h; rfl
  | p :: ps,ρ,ds,h=>by
    obtain⟨d,e1,h⟩:=bind_some h
    obtain⟨ds',e2,h⟩:=bind_some h
    cases h
    rw[List.length_cons,List.length_cons,VQ e2]
theorem yp.reps{O:List Addr}{H:Hp}:∀{ks:List Bool} {ds:List D} {vs:List V},yp K O H ks ds vs->ks.all id=true->j3 K (jb H O) ds vs
  | [],[],[],_,_=>j3.nil
  | true :: _,_ :: _,_ :: _,h,e=>j3.cons h.1 (yp.reps h.2 (by simpa using e))
  | false :: _,_ :: _,_ :: _,h,e=>by simp at e
  | [],[],_ :: _,h,_=>h.elim
  | [],_ :: _,_,h,_=>h.elim
  | _ :: _,[],_,h,_=>h.elim
  | _ :: _,_ :: _,[],h,_=>h.elim
theorem yp.len{O:List Addr}{H:Hp}:∀{ks:List Bool} {ds:List D} {vs:List V},yp K O H ks ds vs->vs.length=ds.length/\ks.length=ds.length
  | [],[],[],_=>⟨rfl,rfl⟩
  | _ :: _,_ :: _,_ :: _,h=>by have:=yp.len h.2; simp[this.1,this.2]
  | [],[],_ :: _,h=>h.elim
  | [],_ :: _,_,h=>h.elim
  | _ :: _,[],_,h=>h.elim
  | _ :: _,_ :: _,[],h=>h.elim
noncomputable def Y3(l:DA):DE:=fun ρ=>(yB l ρ).bind fun ds=>some (.tup ds)
@[simp] theorem FR(l:DA){ρ:j9}:Y3 l ρ=(yB l ρ).bind fun ds=>some (.tup ds):=rfl
theorem DY{es:List Expr}{l:DA}{x1}(h:PA X es (zn K l))(hk:(l.map (·.1)).all id=true:=by rfl)(hl:Nat.ble l.length sizeLine=true:=by rfl):PE X (.Tuple es x1 pos) (tE K (Y3 l)):=jz (B7 h) fun σ H Q ⟨H0,O0,ρ,O,d,R,ed,q⟩=>by
  obtain⟨ds,e1,e2⟩:=bind_some ed
  cases e2
  refine⟨H0,O0,ρ,O,ds,R,e1,fun vs H1 s1 r=>⟨by rw[r.len.1,VQ e1]; exact Nat.le_of_ble_eq_true hl,fun p hp=>q _ _ (s1.trans (jK hp _)) (yv ((R.grow s1).new hp) hp (r.reps hk))⟩⟩
noncomputable def J4(l:DA):DO:=fun ρ=>(yB l ρ).bind fun ds=>some (.lst ds)
@[simp] theorem FT(l:DA){ρ:j9}:J4 l ρ=(yB l ρ).bind fun ds=>some (.lst ds):=rfl
theorem DZ{es:List Expr}{l:DA}(h:PA X es (zn K l))(hk:(l.map (·.1)).all id=true:=by rfl)(hl:Nat.ble l.length sizeLine=true:=by rfl):PE X (.List es pos) (tF K (J4 l)):=jz (B8 h) fun σ H Q ⟨H0,O0,ρ,O,d,R,ed,q⟩=>by
  obtain⟨ds,e1,e2⟩:=bind_some ed
  cases e2
  refine⟨H0,O0,ρ,O,ds,R,e1,fun vs H1 s1 r=>⟨by rw[r.len.1,VQ e1]; exact Nat.le_of_ble_eq_true hl,fun p hp=>q _ _ (s1.trans (jK hp _)) (s1.none hp) (JJ hp (r.reps hk))⟩⟩
noncomputable abbrev UW:=j9->Option (Option Int)
noncomputable def kQ(K:Fr)(p:UW):TO:=fun σ H Q=>∃H0 O0 ρ O o,Rel K H0 O0 ρ σ H O/\p ρ=some o/\∀H',j4 H H'->Q o H'
@[simp] noncomputable def zp:D->Option (Option Int)
  | .int i=>some (some i)
  | _=>none
theorem ft:PO X none (kQ K fun _=>some none):=fun pins s σ H Q I ⟨H0,O0,ρ,O,o,R,ed,q⟩=>by
  cases ed
  exact A5 pins s σ H Q I (q H (j4.refl H))
theorem fu(h:PE X e (tR K de)):PO X (some e) (kQ K fun ρ=>(de ρ).bind zp):=fun pins s σ H Q I ⟨H0,O0,ρ,O,o,R,ed,q⟩=>by
  obtain⟨d,e1,e2⟩:=bind_some ed
  refine A6 h pins s σ H Q I ⟨H0,O0,ρ,O,d,R,e1,fun v H' s r=>?_⟩
  unfold zp at e2
  split at e2
  · cases e2; exact⟨_,r.int,q H' s⟩
  · cases e2
noncomputable def jN{α:Type}(xs:List α)(lo hi:Option Int):List α:=(xs.drop (HT.sIx xs.length 0 lo)).take (HT.sIx xs.length xs.length hi - HT.sIx xs.length 0 lo)
theorem j3.cut{H:Hp}{l:List D}{xs:List V}(h:j3 K H l xs)(lo hi:Option Int):j3 K H (jN l lo hi) (VJ xs lo hi):=by
  unfold jN VJ
  rw[h.len]
  exact(h.drop _).take _
theorem j3.ints{H:Hp}:∀ns:List Int,j3 K H (ns.map D.int) (ns.map V.int)
  | []=>j3.nil
  | n :: ns=>j3.cons (by rw[j7]) (j3.ints ns)
noncomputable def UX(d:D)(lo hi:Option Int):Option OD:=match d with
  | .lst l=>some (.lst (jN l lo hi))
  | .scr ns=>some (.lst (jN (ns.map D.int) lo hi))
  | _=>none
@[simp] theorem Ed(l:List D)(lo hi:Option Int):UX (.lst l) lo hi=some (.lst (jN l lo hi)):=rfl
@[simp] theorem Ee(l:List Int)(lo hi:Option Int):UX (.scr l) lo hi=some (.lst (jN (l.map D.int) lo hi)):=rfl
noncomputable def Ye(de:DE)(p q:UW):DO:=fun ρ=>(de ρ).bind fun d=>(p ρ).bind fun lo=>(q ρ).bind fun hi=>UX d lo hi
@[simp] theorem Fi(de:DE)(p q:UW){ρ:j9}:Ye de p q ρ=(de ρ).bind fun d=>(p ρ).bind fun lo=>(q ρ).bind fun hi=>UX d lo hi:=rfl
theorem D_{lo hi:Option Expr}{p q:UW}{p2:Pos}(he:PE X e (tR K de))(hl:PO X lo (kQ K p))(hu:PO X hi (kQ K q))(hK:X.K=K:=by rfl):PE X (.Subscript e (.Slice lo hi none p2) pos) (tF K (Ye de p q)):=jz (kC A9 he hl hu) fun σ H Q ⟨H0,O0,ρ,O,d,R,ed,qq⟩=>by
  subst hK
  obtain⟨x,e1,ed⟩:=bind_some ed
  obtain⟨l,e2,ed⟩:=bind_some ed
  obtain⟨u,e3,ed⟩:=bind_some ed
  refine⟨H0,O0,ρ,O,x,R,e1,fun v H1 s1 r=>⟨H0,O0,ρ,O,l,R.grow s1,e2,fun H2 s2=>⟨H0,O0,ρ,O,u,R.grow (s1.trans s2),e3,fun H3 s3=>?_⟩⟩⟩
  have s13:=(s1.trans s2).trans s3
  have r3:=r.same (s2.trans s3)
  unfold UX at ed
  split at ed
  · cases ed
    obtain⟨pp,xs,rfl,h1,h2⟩:=r3.lst
    exact⟨pp,xs,rfl,jy.of h1,fun p hp=>qq p _ (s13.trans (jK hp _)) (s13.none hp) (JJ hp (h2.cut l u))⟩
  · cases ed
    have r4:=r3.full
    rw[j7]at r4
    obtain⟨pp,rfl,h1⟩:=r4
    exact⟨pp,_,rfl,h1,fun p hp=>qq p _ (s13.trans (jK hp _)) (s13.none hp) (JJ hp ((j3.ints _).cut l u))⟩
  · cases ed
noncomputable def UY(d:D)(lo hi:Option Int):Option D:=match d with
  | .tup l=>if HT.sIx l.length 0 lo=0/\HT.sIx l.length l.length hi=l.length then none else some (.tup (jN l lo hi))
  | _=>none
noncomputable def kf(de:DE)(p q:UW):DE:=fun ρ=>(de ρ).bind fun d=>(p ρ).bind fun lo=>(q ρ).bind fun hi=>UY d lo hi
@[simp] theorem Fj(de:DE)(p q:UW){ρ:j9}:kf de p q ρ=(de ρ).bind fun d=>(p ρ).bind fun lo=>(q ρ).bind fun hi=>UY d lo hi:=rfl
theorem eg{lo hi:Option Expr}{p q:UW}{p2:Pos}(he:PE X e (tR K de))(hl:PO X lo (kQ K p))(hu:PO X hi (kQ K q))(hK:X.K=K:=by rfl):PE X (.Subscript e (.Slice lo hi none p2) pos) (tE K (kf de p q)):=jz (kC Ba he hl hu) fun σ H Q ⟨H0,O0,ρ,O,d,R,ed,qq⟩=>by
  subst hK
  obtain⟨x,e1,ed⟩:=bind_some ed
  obtain⟨l,e2,ed⟩:=bind_some ed
  obtain⟨u,e3,ed⟩:=bind_some ed
  refine⟨H0,O0,ρ,O,x,R,e1,fun v H1 s1 r=>⟨H0,O0,ρ,O,l,R.grow s1,e2,fun H2 s2=>⟨H0,O0,ρ,O,u,R.grow (s1.trans s2),e3,fun H3 s3=>?_⟩⟩⟩
  have s13:=(s1.trans s2).trans s3
  have r3:=r.same (s2.trans s3)
  unfold UY at ed
  split at ed
  · split at ed
    · cases ed
    · cases ed
      obtain⟨pp,xs,rfl,h1,h2⟩:=r3.tup
      exact⟨pp,xs,rfl,h1,by rw[h2.len]; assumption,fun p hp=>qq _ _ (s13.trans (jK hp _)) (yv ((R.grow s13).new hp) hp (h2.cut l u))⟩
  · cases ed
noncomputable def Fn(K:Fr)(r:List V->Hp->VK->Prop)(f:List D->Option D):Prop:=∀(O:List Addr) (H:Hp) (ks:List Bool) (ds:List D) (vs:List V) (d:D) (Q:VK),yp K O H ks ds vs->(∀p,H p=none->p∉O)->f ds=some d->(∀v H',j4 H H'->j7 K (jb H' O) d v->Q v H')->r vs H Q
noncomputable def BE(K:Fr)(r:List V->Hp->VK->Prop)(f:List D->Option OD):Prop:=∀(O:List Addr) (H:Hp) (ks:List Bool) (ds:List D) (vs:List V) (d:OD) (Q:VK),yp K O H ks ds vs->f ds=some d->(∀l H',j4 H H'->H l=none->JA K H' (jb H' (l :: O)) l d->Q (.ref l) H')->r vs H Q
noncomputable def j8(f:List D->Option D)(l:DA):DE:=fun ρ=>(yB l ρ).bind f
@[simp] theorem BF(f:List D->Option D)(l:DA){ρ:j9}:j8 f l ρ=(yB l ρ).bind f:=rfl
noncomputable def jY(f:List D->Option OD)(l:DA):DO:=fun ρ=>(yB l ρ).bind f
@[simp] theorem Fk(f:List D->Option OD)(l:DA){ρ:j9}:jY f l ρ=(yB l ρ).bind f:=rfl
theorem zq{r:List V->Hp->VK->Prop}{f:List D->Option D}{l:DA}(hf:Fn K r f):∀σ H Q,tE K (j8 f l) σ H Q->qz r (zn K l) σ H Q:=fun σ H Q ⟨H0,O0,ρ,O,d,R,ed,q⟩=>by
  obtain⟨ds,e1,e2⟩:=bind_some ed
  exact⟨H0,O0,ρ,O,ds,R,e1,fun vs H1 s1 r1=>hf O H1 _ ds vs d Q r1 (fun p hp=>(R.grow s1).new hp) e2 fun v H' s r=>q v H' (s1.trans s) r⟩
theorem wM{r:List V->Hp->VK->Prop}{f:List D->Option OD}{l:DA}(hf:BE K r f):∀σ H Q,tF K (jY f l) σ H Q->qz r (zn K l) σ H Q:=fun σ H Q ⟨H0,O0,ρ,O,d,R,ed,q⟩=>by
  obtain⟨ds,e1,e2⟩:=bind_some ed
  exact⟨H0,O0,ρ,O,ds,R,e1,fun vs H1 s1 r1=>hf O H1 _ ds vs d Q r1 e2 fun l H' s hn r=>q l H' (s1.trans s) (s1.none hn) r⟩
theorem YG{O:List Addr}{H:Hp}{ks:List Bool}{d:D}{vs:List V}(h:yp K O H ks [d] vs):∃v,vs=[v]/\RB K O H d v:=by
  cases ks with
  | nil=>exact h.elim
  | cons k ks=>
    cases vs with
    | nil=>exact h.elim
    | cons v vs=>
      obtain⟨h1,h2⟩:=h
      have:=yp.len h2
      have e:vs=[]:=List.length_eq_zero_iff.mp this.1
      subst e
      exact⟨v,rfl,AK.rb h1⟩
theorem BG{O:List Addr}{H:Hp}{ks:List Bool}{d d':D}{vs:List V}(h:yp K O H ks [d,d'] vs):∃v v',vs=[v,v']/\RB K O H d v/\RB K O H d' v':=by
  cases ks with
  | nil=>exact h.elim
  | cons k ks=>
    cases vs with
    | nil=>exact h.elim
    | cons v vs=>
      obtain⟨h1,h2⟩:=h
      obtain⟨v',rfl,r⟩:=YG h2
      exact⟨v,v',rfl,AK.rb h1,r⟩
@[simp] noncomputable def Jf:List D->Option D
  | [.lst l]=>some (.int l.length)
  | [.tup l]=>some (.int l.length)
  | _=>none
theorem eh:Fn K (fun xs H Q=>∃p ys,xs=[.ref p]/\(jy K H p ys∨Ju K H p ys)/\Q (.int ys.length) H) Jf:=by
  intro O H ks ds vs d Q h hn e q
  unfold Jf at e
  split at e
  · cases e
    obtain⟨v,rfl,r⟩:=YG h
    obtain⟨p,xs,rfl,h1,h2⟩:=r.lst
    exact⟨p,xs,rfl,.inl (jy.of h1),q _ H (j4.refl H) (by rw[j7,h2.len])⟩
  · cases e
    obtain⟨v,rfl,r⟩:=YG h
    obtain⟨p,xs,rfl,h1,h2⟩:=r.tup
    exact⟨p,xs,rfl,.inr h1,q _ H (j4.refl H) (by rw[j7,h2.len])⟩
  · cases e
@[simp] noncomputable def vW:List D->Option OD
  | [.lst l]=>some (.lst l)
  | [.tup l]=>some (.lst l)
  | _=>none
theorem BH:BE K (fun xs H Q=>∃p ys,xs=[.ref p]/\(jy K H p ys∨Ju K H p ys)/\∀l,H l=none->Q (.ref l) (upd H l (.lst ys))) vW:=by
  intro O H ks ds vs d Q h e q
  unfold vW at e
  split at e
  · cases e
    obtain⟨v,rfl,r⟩:=YG h
    obtain⟨p,xs,rfl,h1,h2⟩:=r.lst
    exact⟨p,xs,rfl,.inl (jy.of h1),fun l hl=>q _ _ (jK hl _) hl (JJ hl h2)⟩
  · cases e
    obtain⟨v,rfl,r⟩:=YG h
    obtain⟨p,xs,rfl,h1,h2⟩:=r.tup
    exact⟨p,xs,rfl,.inr h1,fun l hl=>q _ _ (jK hl _) hl (JJ hl h2)⟩
  · cases e
@[simp] noncomputable def JU:List D->Option D
  | [.lst l]=>some (.tup l)
  | [.tup l]=>some (.tup l)
  | _=>none
theorem Am:Fn K (fun xs H Q=>∃p ys,xs=[.ref p]/\((jy K H p ys/\∀l,H l=none->Q (.ref l) (upd H l (.tup ys)))∨(Ju K H p ys/\Q (.ref p) H))) JU:=by
  intro O H ks ds vs d Q h hn e q
  unfold JU at e
  split at e
  · cases e
    obtain⟨v,rfl,r⟩:=YG h
    obtain⟨p,xs,rfl,h1,h2⟩:=r.lst
    exact⟨p,xs,rfl,.inl ⟨jy.of h1,fun l hl=>q _ _ (jK hl _) (yv (hn l hl) hl h2)⟩⟩
  · cases e
    obtain⟨v,rfl,r⟩:=YG h
    have r0:=r
    obtain⟨p,xs,rfl,h1,h2⟩:=r.tup
    refine⟨p,xs,rfl,.inr ⟨h1,q _ H (j4.refl H) ?_⟩⟩
    rcases r0 with r0 | ⟨_,o,_,z,_⟩
    · exact r0
    · cases o <;> cases z
  · cases e
@[simp] noncomputable def xB:List D->Option D
  | [.int i]=>some (.int i)
  | [.bl k]=>some (.int (if k then 1 else 0))
  | _=>none
theorem eo:Fn K (fun xs H Q=>(∃i,xs=[.int i]/\Q (.int i) H)∨∃k,xs=[.bl k]/\Q (.int (if k then 1 else 0)) H) xB:=by
  intro O H ks ds vs d Q h hn e q
  unfold xB at e
  split at e
  · cases e
    obtain⟨v,rfl,r⟩:=YG h
    exact .inl ⟨_,by rw[r.int],q _ H (j4.refl H) (by rw[j7])⟩
  · cases e
    obtain⟨v,rfl,r⟩:=YG h
    exact .inr ⟨_,by rw[r.bl],q _ H (j4.refl H) (by rw[j7])⟩
  · cases e
@[simp] noncomputable def Uk:List D->Option D
  | [.int i,.int j]=>some (.int (if j > i then j else i))
  | _=>none
theorem eA:Fn K (fun xs H Q=>∃i j,xs=[.int i,.int j]/\Q (.int (if j > i then j else i)) H) Uk:=by
  intro O H ks ds vs d Q h hn e q
  unfold Uk at e
  split at e
  · cases e
    obtain⟨v,v',rfl,r,r'⟩:=BG h
    exact⟨_,_,by rw[r.int,r'.int],q _ H (j4.refl H) (by rw[j7])⟩
  · cases e
@[simp] noncomputable def gR:List D->Option D
  | [.int i,.int j]=>some (.int (if j < i then j else i))
  | _=>none
theorem eB:Fn K (fun xs H Q=>∃i j,xs=[.int i,.int j]/\Q (.int (if j < i then j else i)) H) gR:=by
  intro O H ks ds vs d Q h hn e q
  unfold gR at e
  split at e
  · cases e
    obtain⟨v,v',rfl,r,r'⟩:=BG h
    exact⟨_,_,by rw[r.int,r'.int],q _ H (j4.refl H) (by rw[j7])⟩
  · cases e
@[simp] noncomputable def v5:List D->Option (List Bool)
  | []=>some []
  | .bl b :: r=>(v5 r).bind fun bs=>some (b :: bs)
  | _ :: _=>none
theorem VR{H:Hp}:∀{l:List D} {bs:List Bool} {xs:List V},v5 l=some bs->j3 K H l xs->xs=bs.map V.bl
  | [],bs,xs,e,h=>by cases e; rw[j3]at h; exact h
  | .bl b :: r,bs,xs,e,h=>by
    obtain⟨bs',e1,e2⟩:=bind_some e
    cases e2
    rw[j3]at h
    obtain⟨v,vs,rfl,a,b'⟩:=h
    rw[j7]at a
    rw[a,VR e1 b']
    rfl
  | .non :: _,_,_,e,_=>by cases e
  | .int _ :: _,_,_,e,_=>by cases e
  | .str _ :: _,_,_,e,_=>by cases e
  | .tup _ :: _,_,_,e,_=>by cases e
  | .lst _ :: _,_,_,e,_=>by cases e
  | .ins _ _ _ :: _,_,_,e,_=>by cases e
  | .scr _ :: _,_,_,e,_=>by cases e
@[simp] noncomputable def zE:List D->Option D
  | [.lst l]=>(v5 l).bind fun bs=>some (.bl (bs.all id))
  | _=>none
theorem eC:Fn K (fun xs H Q=>∃(p:Addr) (bs:List Bool),xs=[.ref p]/\jy K H p (bs.map V.bl)/\Q (.bl (bs.all id)) H) zE:=by
  intro O H ks ds vs d Q h hn e q
  unfold zE at e
  split at e
  · obtain⟨bs,e1,e2⟩:=bind_some e
    cases e2
    obtain⟨v,rfl,r⟩:=YG h
    obtain⟨p,xs,rfl,h1,h2⟩:=r.lst
    rw[VR e1 h2]at h1
    exact⟨p,bs,rfl,jy.of h1,q _ H (j4.refl H) (by rw[j7])⟩
  · cases e
noncomputable def J2(C:Addr)(f:Str):D->Option D
  | .ins C' ns ds=>if C'=C then(ns.zip ds).lookup f else none
  | _=>none
theorem uY{H:Hp}{f:Str}{d:D}:∀{ns:List Str} {ds:List D} {xs:List V},j3 K H ds xs->(ns.zip ds).lookup f=some d->∃v,(ns.zip xs).lookup f=some v/\j7 K H d v
  | [],_,_,_,e=>by cases e
  | _ :: _,[],_,_,e=>by cases e
  | n :: ns,d' :: ds,xs,h,e=>by
    rw[j3]at h
    obtain⟨v,r,rfl,a,b⟩:=h
    rw[List.zip_cons_cons,List.lookup_cons]at e⊢
    cases hf:f == n with
    | true=>rw[hf]at e; cases e; exact⟨v,rfl,a⟩
    | false=>rw[hf]at e; exact uY b e
theorem eD{C:Addr}{f:Str}(h:PE X e (tR K de))(c:Cls K C)(n:yI K C f)(hb:attributeBase e f X.env (eval e X.env)=eval e X.env:=by rfl)(hK:X.K=K:=by rfl):PE X (.Attribute e f pos) (tE K (d1 (J2 C f) de)):=jz (B5 h hb) fun σ H Q ⟨H0,O0,ρ,O,d,R,ed,q⟩=>by
  subst hK
  obtain⟨x,e1,e2⟩:=bind_some ed
  refine⟨H0,O0,ρ,O,x,R,e1,fun v H' s r=>?_⟩
  unfold J2 at e2
  split at e2
  · split at e2
    · rename_i hC
      subst hC
      obtain⟨a,dx,xs,rfl,h1,hn,h2⟩:=r.ins
      obtain⟨v,e3,r3⟩:=uY h2 e2
      exact⟨a,_,dx,_,v,rfl,h1,c,n,e3,q v H' s r3⟩
    · cases e2
  · cases e2
end
end DS
namespace DS
open PySem PySem.Spec PyProof.Rows L2
noncomputable def RP(K:Fr)(H0:Hp)(O0:List Addr)(H:Hp)(O:List Addr)(d:D)(v:V):Prop:=j7 K (jb H O) d v∨RB K O0 H0 d v
noncomputable def tP(K:Fr)(de:DE):TE:=fun σ H Q=>∃H0 O0 ρ O d,Rel K H0 O0 ρ σ H O/\de ρ=some d/\∀v H',j4 H H'->RP K H0 O0 H' O d v->Q v H'
theorem RP.at{K:Fr}{H0 H H':Hp}{O0 O O':List Addr}{d:D}{v:V}(r:RP K H0 O0 H O d v)(s0:j4 H0 H')(s1:j4 (jb H0 O0) (jb H' O'))(s2:j4 (jb H O) (jb H' O')):RB K O' H' d v:=by
  rcases r with r | r | ⟨l,o,e1,e2,h1⟩
  · exact .inl (r.same s2)
  · exact .inl (r.same s1)
  · exact .inr ⟨l,o,e1,e2,h1.same (s0 l) s1⟩
noncomputable def kR(K:Fr)(J:It)(H0:Hp)(O0:List Addr)(H:Hp)(O:List Addr)(items:List D):Prop:=∀(i:Nat) (H':Hp) (O':List Addr),j4 H0 H'->j4 (jb H0 O0) (jb H' O')->j4 (jb H O) (jb H' O')->(∀a∈O',H' a≠none)->
  (∀d,items[i]?=some d->J.go i H'/\∀x H'',J.yld i H' x H''->j4 H' H''/\j7 K (jb H'' O') d x)/\(i=items.length->J.stop i H')
noncomputable abbrev DI:=j9->Option (List D)
noncomputable def Ys(K:Fr)(di:DI):TI:=fun σ H R=>∃H0 O0 ρ O items,Rel K H0 O0 ρ σ H O/\di ρ=some items/\∀J H',j4 H H'->kR K J H0 O0 H' O items->R J H'
section
variable {X:Cx} {K:Fr} {e a b c d tg:Expr} {de da db dc dd:DE} {pos:Pos}
theorem fv(h:PE X e (tE K de)):PE X e (tP K de):=jz h fun σ H Q ⟨H0,O0,ρ,O,d,R,ed,q⟩=>⟨H0,O0,ρ,O,d,R,ed,fun v H' s r=>q v H' s (.inl r)⟩
noncomputable def dP(i:Nat):DE:=fun ρ=>match ρ[i]? with
  | some (.cl d)=>some d
  | some (.bo d)=>some d
  | _=>none
@[simp] theorem fw(i:Nat){ρ:j9}:dP i ρ=match ρ[i]? with
  | some (.cl d)=>some d
  | some (.bo d)=>some d
  | _=>none:=rfl
theorem eE(i:Nat){x:Str}(h:PE X (.Name x pos) (Zd i)):PE X (.Name x pos) (tP K (dP i)):=jz h fun σ H Q ⟨H0,O0,ρ,O,d,R,ed,q⟩=>by
  unfold dP at ed
  split at ed
  · cases ed
    obtain⟨v,e1,r⟩:=R.cl i _ (by assumption)
    exact⟨v,e1,q v H (j4.refl H) (.inl r)⟩
  · cases ed
    obtain⟨v,e1,r⟩:=R.bo i _ (by assumption)
    exact⟨v,e1,q v H (j4.refl H) (.inr r)⟩
  · cases ed
theorem Z0{wi wi':TI}(h:PI X tg e wi)(f:∀σ H R,wi' σ H R->wi σ H R):PI X tg e wi':=fun pins s σ H R I q=>h pins s σ H R I (f σ H R q)
noncomputable def fz(K:Fr)(tl:TE):TI:=fun σ H R=>tl σ H fun x H1=>∃a,x=.ref a/\(((∃xs,jy K H1 a xs)/\R (bN K a) H1)∨((∃xs,Ju K H1 a xs)/\R (bO K a) H1))
theorem BI{l:Expr}{tl:TE}(hl:PE X l tl):PI X tg l (fz X.K tl):=by
  intro pins s σ H R I h
  refine jp (hl pins s σ H _ I h) fun v s1 ⟨x,H1,I1,r1,q1⟩=>?_
  obtain⟨a,e,q⟩:=q1
  subst e
  cases r1
  rcases q with⟨⟨xs,hq⟩,q⟩ | ⟨⟨xs,hq⟩,q⟩
  · obtain⟨its,rv,p,hz⟩:=I1.list hq
    refine wpAny_pyIter_list p.isList ?_
    refine⟨s1.heap.objs.size,[s1.heap.objs.size],_,_,H1,rfl,I1.kept (t':=s1.toks) fun b o e=>Heap.get?_push_of_some _ e,qi a _,⟨_,Heap.get?_push_size _ rfl,rfl,rfl⟩,fun b hb=>?_,q⟩
    have e:b=s1.heap.objs.size:=by simpa using hb
    subst e
    exact I1.fpOk (Nat.le_refl _) (I1.hok.fresh (Nat.le_refl _))
  · obtain⟨its,rv,p,hz⟩:=I1.tuple hq
    refine wpAny_pyIter_tuple (show s1.heap.IsTuple a its.toArray from p) ?_
    refine⟨s1.heap.objs.size,[s1.heap.objs.size],_,_,H1,rfl,I1.kept (t':=s1.toks) fun b o e=>Heap.get?_push_of_some _ e,Wh a _,⟨_,Heap.get?_push_size _ rfl,rfl,rfl⟩,fun b hb=>?_,q⟩
    have e:b=s1.heap.objs.size:=by simpa using hb
    subst e
    exact I1.fpOk (Nat.le_refl _) (I1.hok.fresh (Nat.le_refl _))
noncomputable def ye:D->Option (List D)
  | .lst l=>some l
  | .tup l=>some l
  | _=>none
@[simp] theorem qO(l:List D):ye (.lst l)=some l:=rfl
@[simp] theorem Ef(l:List D):ye (.tup l)=some l:=rfl
noncomputable def J1(de:DE):DI:=fun ρ=>(de ρ).bind ye
@[simp] theorem wN(de:DE){ρ:j9}:J1 de ρ=(de ρ).bind ye:=rfl
theorem BJ{H0 H:Hp}{O0 O:List Addr}{d:D}{v:V}{l:List D}(r:RP K H0 O0 H O d v)(e:ye d=some l)(s0:j4 H0 H)(s1:j4 (jb H0 O0) (jb H O)):
    ∃a,v=.ref a/\(((∃xs,jy K H a xs)/\kR K (bN K a) H0 O0 H O l)∨((∃xs,Ju K H a xs)/\kR K (bO K a) H0 O0 H O l)):=by
  unfold ye at e
  split at e
  · cases e
    obtain⟨p,xs,rfl,h1,h2⟩:=(r.at s0 s1 (j4.refl _)).lst
    refine⟨p,rfl,.inl ⟨⟨xs,jy.of h1⟩,fun i H' O' t0 t1 t2 _=>?_⟩⟩
    obtain⟨p',ys,e',g1,g2⟩:=(r.at t0 t1 t2).lst
    cases e'
    refine⟨fun d hd=>?_,fun hi=>⟨ys,jy.of g1,by rw[g2.len,hi]; exact Nat.le_refl _⟩⟩
    obtain⟨x,hx,rx⟩:=g2.get hd
    refine⟨⟨ys,x,jy.of g1,hx⟩,fun x' H'' y=>?_⟩
    obtain⟨e1,y⟩:=y
    have z:=y ys (jy.of g1)
    rw[hx]at z
    cases z
    rw[e1]
    exact⟨j4.refl _,rx⟩
  · cases e
    obtain⟨p,xs,rfl,h1,h2⟩:=(r.at s0 s1 (j4.refl _)).tup
    refine⟨p,rfl,.inr ⟨⟨xs,h1⟩,fun i H' O' t0 t1 t2 _=>?_⟩⟩
    obtain⟨p',ys,e',g1,g2⟩:=(r.at t0 t1 t2).tup
    cases e'
    refine⟨fun d hd=>?_,fun hi=>⟨ys,g1,by rw[g2.len,hi]; exact Nat.le_refl _⟩⟩
    obtain⟨x,hx,rx⟩:=g2.get hd
    refine⟨⟨ys,x,g1,hx⟩,fun x' H'' y=>?_⟩
    obtain⟨e1,y⟩:=y
    have z:=y ys g1
    rw[hx]at z
    cases z
    rw[e1]
    exact⟨j4.refl _,rx⟩
  · cases e
theorem eF(h:PE X e (tP K de))(hK:X.K=K:=by rfl):PI X tg e (Ys K (J1 de)):=Z0 (BI h) fun σ H R ⟨H0,O0,ρ,O,items,Re,ed,q⟩=>by
  subst hK
  obtain⟨d,e1,e2⟩:=bind_some ed
  refine⟨H0,O0,ρ,O,d,Re,e1,fun v H' s r=>?_⟩
  have R':=Re.grow s
  obtain⟨a,rfl,z⟩:=BJ r e2 R'.keep R'.in0
  rcases z with⟨z1,z2⟩ | ⟨z1,z2⟩
  · exact⟨a,rfl,.inl ⟨z1,q _ H' s z2⟩⟩
  · exact⟨a,rfl,.inr ⟨z1,q _ H' s z2⟩⟩
noncomputable def jJ(lo:Int)(n:Nat):List D:=(List.range n).map fun(i:Nat)=>D.int (lo + (i:Int))
theorem qP{H0 H:Hp}{O0 O:List Addr}{lo:Int}{n:Nat}:kR K (qh lo n) H0 O0 H O (jJ lo n):=fun i H' O' _ _ _ _=>by
  refine⟨fun d hd=>?_,fun hi=>?_⟩
  · unfold jJ at hd
    rw[List.getElem?_map]at hd
    cases q:(List.range n)[i]? with
    | none=>rw[q]at hd; cases hd
    | some j=>
      rw[q]at hd
      cases hd
      obtain⟨h1,h2⟩:=List.getElem?_eq_some_iff.mp q
      rw[List.getElem_range]at h2
      subst h2
      rw[List.length_range]at h1
      refine⟨h1,fun x H'' y=>?_⟩
      obtain⟨e1,e2⟩:=y
      rw[e1,e2]
      exact⟨j4.refl _,by rw[j7]⟩
  · unfold jJ at hi
    rw[List.length_map,List.length_range]at hi
    show n<=i
    omega
noncomputable def jF(j:Int):Bool:=Nat.blt j.natAbs 4611686018427387904
theorem Jq{j:Int}(h1:-4611686018427387904 < j)(h2:j < 4611686018427387904):jF j=true:=by unfold jF; rw[Nat.blt_eq]; omega
theorem Yt{j:Int}(h:jF j=true):-(2 ^ 62)<=j/\j < 2 ^ 62:=by
  unfold jF at h
  rw[Nat.blt_eq]at h
  have e:(2:Int) ^ 62=4611686018427387904:=by decide
  rw[e]
  omega
noncomputable def yf(de:DE):DI:=fun ρ=>(de ρ).bind fun d=>match d with
  | .int j=>if jF j=true then some (jJ 0 j.toNat)else none
  | _=>none
@[simp] theorem Fl(de:DE){ρ:j9}:yf de ρ=(de ρ).bind fun d=>match d with
  | .int j=>if jF j=true then some (jJ 0 j.toNat)else none
  | _=>none:=rfl
theorem BK{p:Pos}(hg:Gl X "range")(hm:X.mg "range" = none)(h:PE X a (tR K da))(hs:starEach [a] X.env=[(false,eval a X.env)]:=by rfl):PI X tg (.Call (.Name "range" p) [a] [] pos) (Ys K (yf da)):=Z0 (qj hg hm (Jd h Y9 (by rw[hs]; rfl)) hs) fun σ H R ⟨H0,O0,ρ,O,items,Re,ed,q⟩=>by
  obtain⟨d,e1,e2⟩:=bind_some ed
  refine⟨H0,O0,ρ,O,d,Re,e1,fun v H' s r=>?_⟩
  split at e2
  · split at e2
    · cases e2
      rename_i hj
      have hj:=Yt hj
      exact⟨_,by rw[r.int],hj.1,hj.2,q _ H' s qP⟩
    · cases e2
  · cases e2
noncomputable def Wy(da db:DE):DI:=fun ρ=>(da ρ).bind fun x=>(db ρ).bind fun y=>match x,y with
  | .int i,.int j=>if jF i=true/\jF j=true then some (jJ i (j - i).toNat)else none
  | _,_=>none
@[simp] theorem Fm(da db:DE){ρ:j9}:Wy da db ρ=(da ρ).bind fun x=>(db ρ).bind fun y=>match x,y with
  | .int i,.int j=>if jF i=true/\jF j=true then some (jJ i (j - i).toNat)else none
  | _,_=>none:=rfl
theorem BL{p:Pos}(hg:Gl X "range")(hm:X.mg "range" = none)(h:PE X a (tR K da))(h':PE X b (tR K db))(hs:starEach [a,b] X.env=[(false,eval a X.env),(false,eval b X.env)]:=by rfl)(hs2:starEach [b] X.env=[(false,eval b X.env)]:=by rfl):PI X tg (.Call (.Name "range" p) [a,b] [] pos) (Ys K (Wy da db)):=Z0 (qk hg hm (Jd h (Jd h' Y9 (by rw[hs2]; rfl)) (by rw[hs,hs2])) hs hs2) fun σ H R ⟨H0,O0,ρ,O,items,Re,ed,q⟩=>by
  obtain⟨x,e1,ed⟩:=bind_some ed
  obtain⟨y,e2,ed⟩:=bind_some ed
  refine⟨H0,O0,ρ,O,x,Re,e1,fun v H1 s1 r=>⟨H0,O0,ρ,O,y,Re.grow s1,e2,fun v2 H2 s2 r2=>?_⟩⟩
  split at ed
  · split at ed
    · rename_i hj
      cases ed
      have h1:=Yt hj.1
      have h2:=Yt hj.2
      exact⟨_,_,by rw[r.int,r2.int],⟨h1.1,h1.2,h2.1,h2.2⟩,q _ H2 (s1.trans s2) qP⟩
    · cases ed
  · cases ed
noncomputable def eG(K:Fr)(ta:TA):TI:=fun σ H R=>ta σ H fun vs H1=>∃k j a b xs ys,vs=[.ref a,.ref b]/\Vk K k H1 a xs/\Vk K j H1 b ys/\R (E9 K k j a b) H1
theorem An{es:List Expr}{x1:Nat}{tp:Pos}{e1 e2:Expr}{ta:TA}{p pos:Pos}(hg:Gl X "zip")(hm:X.mg "zip" = none)(ha:PA X [e1,e2] ta)(hs:starEach [e1,e2] X.env=[(false,eval e1 X.env),(false,eval e2 X.env)]:=by rfl)(hs2:starEach [e2] X.env=[(false,eval e2 X.env)]:=by rfl):
    PI X (.Tuple es x1 tp) (.Call (.Name "zip" p) [e1,e2] [] pos) (eG X.K ta):=by
  intro pins s σ H R I h
  refine Call_ (Y8 I hg hm boot_zip (PyProof.Rows.callWith_type1 (jp (ha pos pins s σ H _ I h) fun us s1 ⟨vs,H1,I1,r1,q1⟩=>?_) (by rw[hs,hs2]) (by rw[hs2]; rfl)))
  obtain⟨k,j,a,b,xs,ys,e,qa,qb,q⟩:=q1
  subst e
  cases r1 with
  | cons r rr=>
    cases rr with
    | cons r' rr=>
      cases rr
      cases r
      cases r'
      obtain⟨ia,ra,pa,_⟩:=I1.seqK qa
      obtain⟨ib,rb,pb,_⟩:=I1.seqK qb
      refine xo pa pb fun h' b1 b2 b3 b4 b5 bk=>?_
      refine wpAny_pyIter_zip b1 ?_
      have fr:∀m,Jm X pins H1 (s1.heap.objs.size + m):=fun m=>I1.fpOk (Nat.le_add_right _ _) (I1.hok.fresh (Nat.le_add_right _ _))
      refine⟨_,_,_,_,H1,rfl,I1.kept (t':=s1.toks) bk,xr (zipApart_new pa.lt pb.lt),⟨b1,b2,⟨_,_,b3⟩,b4,b5⟩,fun c hc=>?_,q⟩
      simp only[List.mem_cons,List.not_mem_nil,or_false]at hc
      rcases hc with rfl | rfl | rfl | rfl | rfl
      · exact fr 4
      · exact fr 2
      · exact fr 3
      · exact fr 0
      · exact fr 1
theorem UZ{O:List Addr}{H:Hp}{d:D}{v:V}{l:List D}(r:RB K O H d v)(e:ye d=some l):∃k a xs,v=.ref a/\Vk K k H a xs/\j3 K (jb H O) l xs/\(k=Sk.l↔∃m,d=D.lst m):=by
  unfold ye at e
  split at e
  · cases e
    obtain⟨p,xs,rfl,h1,h2⟩:=r.lst
    exact⟨.l,p,xs,rfl,jy.of h1,h2,Iff.intro (fun _=>⟨_,rfl⟩) (fun _=>rfl)⟩
  · cases e
    obtain⟨p,xs,rfl,h1,h2⟩:=r.tup
    exact⟨.t,p,xs,rfl,h1,h2,Iff.intro (fun z=>nomatch z) (fun z=>by obtain⟨_,z⟩:=z; cases z)⟩
  · cases e
theorem XT{k k':Sk}{d:D}(h:k=Sk.l↔∃m,d=D.lst m)(h':k'=Sk.l↔∃m,d=D.lst m):k=k':=by
  cases k <;> cases k' <;> first | rfl | (exact absurd (h'.mpr (h.mp rfl)) (by intro z; cases z)) | (exact absurd (h.mpr (h'.mp rfl)) (by intro z; cases z))
noncomputable def Ul(da db:DE):DI:=fun ρ=>(da ρ).bind fun x=>(db ρ).bind fun y=>(ye x).bind fun l=>(ye y).bind fun m=>some (List.zipWith (fun p q=>D.tup [p,q]) l m)
@[simp] theorem FU(da db:DE){ρ:j9}:Ul da db ρ=(da ρ).bind fun x=>(db ρ).bind fun y=>(ye x).bind fun l=>(ye y).bind fun m=>some (List.zipWith (fun p q=>D.tup [p,q]) l m):=rfl
theorem xC{O:List Addr}{H:Hp}{p:Addr}{d d':D}{x y:V}(hO:p∉O)(hp:H p=none)(r:j7 K (jb H O) d x)(r':j7 K (jb H O) d' y):j7 K (jb (upd H p (.tup [x,y])) O) (.tup [d,d']) (.ref p):=yv hO hp (j3.cons r (j3.cons r' j3.nil))
theorem eH{es:List Expr}{x1:Nat}{tp p:Pos}(hg:Gl X "zip")(hm:X.mg "zip" = none)(h:PE X a (tP K da))(h':PE X b (tP K db))(hs:starEach [a,b] X.env=[(false,eval a X.env),(false,eval b X.env)]:=by rfl)(hs2:starEach [b] X.env=[(false,eval b X.env)]:=by rfl)(hK:X.K=K:=by rfl):
    PI X (.Tuple es x1 tp) (.Call (.Name "zip" p) [a,b] [] pos) (Ys K (Ul da db)):=Z0 (An hg hm (Jd h (Jd h' Y9 (by rw[hs2]; rfl)) (by rw[hs,hs2])) hs hs2) fun σ H R ⟨H0,O0,ρ,O,items,Re,ed,q⟩=>by
  subst hK
  obtain⟨x,e1,ed⟩:=bind_some ed
  obtain⟨y,e2,ed⟩:=bind_some ed
  obtain⟨l,e3,ed⟩:=bind_some ed
  obtain⟨m,e4,ed⟩:=bind_some ed
  cases ed
  refine⟨H0,O0,ρ,O,x,Re,e1,fun v H1 s1 r=>⟨H0,O0,ρ,O,y,Re.grow s1,e2,fun v2 H2 s2 r2=>?_⟩⟩
  have R1:=Re.grow s1
  have R2:=R1.grow s2
  have r':RP X.K H0 O0 H2 O x v:=by
    rcases r with r | r
    · exact .inl (r.same (jh s2))
    · exact .inr r
  obtain⟨k,p,xs,rfl,h1,h2,hk⟩:=UZ (r'.at R2.keep R2.in0 (j4.refl _)) e3
  obtain⟨j,p',ys,rfl,h1',h2',hj⟩:=UZ (r2.at R2.keep R2.in0 (j4.refl _)) e4
  refine⟨k,j,p,p',xs,ys,rfl,h1,h1',q _ H2 (s1.trans s2) fun i H' O' t0 t1 t2 ta=>?_⟩
  obtain⟨k2,q2,us,ea,g1,g2,hk2⟩:=UZ (r'.at t0 t1 t2) e3
  cases ea
  cases XT hk hk2
  obtain⟨j2,q3,ws,eb,g1',g2',hj2⟩:=UZ (r2.at t0 t1 t2) e4
  cases eb
  cases XT hj hj2
  refine⟨fun d hd=>?_,fun hi=>⟨us,ws,g1,g1',?_⟩⟩
  · rw[List.getElem?_zipWith]at hd
    split at hd
    · cases hd
      rename_i dp dq hp hq
      obtain⟨u,hu,ru⟩:=g2.get hp
      obtain⟨w,hw,rw'⟩:=g2'.get hq
      refine⟨⟨us,ws,u,w,g1,g1',hu,hw⟩,fun x' H'' yy=>?_⟩
      obtain⟨pp,hpp,rfl,yy⟩:=yy
      rw[yy _ _ _ _ g1 g1' hu hw]
      exact⟨jK hpp _,xC (fun z=>ta pp z hpp) hpp ru rw'⟩
    · cases hd
  · rw[List.length_zipWith]at hi
    rw[g2.len,g2'.len]
    omega
noncomputable def yX:Nat->List D->List D
  | _,[]=>[]
  | n,d :: ds=>.tup [.int n,d] :: yX (n + 1) ds
theorem zr:∀(n:Nat) (l:List D),(yX n l).length=l.length
  | _,[]=>rfl
  | n,d :: ds=>by rw[yX,List.length_cons,List.length_cons,zr]
theorem VS:∀(n:Nat) (l:List D) (i:Nat) (d:D),(yX n l)[i]?=some d->∃d',l[i]?=some d'/\d=.tup [.int ((n + i:Nat):Int),d']
  | _,[],_,_,h=>by simp[yX]at h
  | n,x :: l,0,d,h=>by
    simp[yX]at h
    exact⟨x,rfl,by rw[<-h]; rfl⟩
  | n,x :: l,i + 1,d,h=>by
    simp only[yX,List.getElem?_cons_succ]at h
    obtain⟨d',h1,h2⟩:=VS (n + 1) l i d h
    refine⟨d',by simpa using h1,?_⟩
    rw[h2]
    have:n + 1 + i=n + (i + 1):=by omega
    rw[this]
noncomputable def Z1:D->Option (List D)
  | .lst l=>some l
  | _=>none
@[simp] theorem Eg(l:List D):Z1 (.lst l)=some l:=rfl
noncomputable def U_(de:DE):DI:=fun ρ=>(de ρ).bind fun d=>(Z1 d).bind fun l=>some (yX 0 l)
@[simp] theorem Fo(de:DE){ρ:j9}:U_ de ρ=(de ρ).bind fun d=>(Z1 d).bind fun l=>some (yX 0 l):=rfl
theorem BM{es:List Expr}{x1:Nat}{tp p:Pos}(hg:Gl X "enumerate")(hm:X.mg "enumerate" = none)(h:PE X a (tP K da))(hs:starEach [a] X.env=[(false,eval a X.env)]:=by rfl)(hK:X.K=K:=by rfl):
    PI X (.Tuple es x1 tp) (.Call (.Name "enumerate" p) [a] [] pos) (Ys K (U_ da)):=Z0 (Aj hg hm (Jd h Y9 (by rw[hs]; rfl)) hs) fun σ H R ⟨H0,O0,ρ,O,items,Re,ed,q⟩=>by
  subst hK
  obtain⟨x,e1,ed⟩:=bind_some ed
  obtain⟨l,e3,ed⟩:=bind_some ed
  cases ed
  refine⟨H0,O0,ρ,O,x,Re,e1,fun v H1 s1 r=>?_⟩
  have R1:=Re.grow s1
  unfold Z1 at e3
  split at e3
  · cases e3
    obtain⟨p,xs,rfl,h1,h2⟩:=(r.at R1.keep R1.in0 (j4.refl _)).lst
    refine⟨p,xs,rfl,jy.of h1,q _ H1 s1 fun i H' O' t0 t1 t2 ta=>?_⟩
    obtain⟨p',us,ea,g1,g2⟩:=(r.at t0 t1 t2).lst
    cases ea
    refine⟨fun d hd=>?_,fun hi=>⟨us,jy.of g1,by rw[g2.len,hi,zr]; exact Nat.le_refl _⟩⟩
    obtain⟨d',hd',rfl⟩:=VS 0 l i d hd
    obtain⟨u,hu,ru⟩:=g2.get hd'
    refine⟨⟨us,u,jy.of g1,hu⟩,fun x' H'' yy=>?_⟩
    obtain⟨pp,hpp,rfl,yy⟩:=yy
    rw[yy _ _ (jy.of g1) hu]
    exact⟨jK hpp _,xC (fun z=>ta pp z hpp) hpp (by rw[j7,Nat.zero_add]) ru⟩
  · cases e3
noncomputable abbrev DG:=D->j9->Option j9
noncomputable abbrev Vn:=List D->j9->Option j9
noncomputable def tG(K:Fr)(k:Nat)(g:DG):TG:=fun v σ H Q=>∃H0 O0 ρ O d ρ',Rel K H0 O0 ρ σ H O/\j7 K (jb H O) d v/\g d ρ=some ρ'/\∀σ',Rel K H0 O0 ρ' σ' H O->σ'.drop k=σ.drop k->Q σ' H
noncomputable def qQ(K:Fr)(k:Nat)(g:Vn):UO:=fun vs σ H Q=>∃H0 O0 ρ O ds ρ',Rel K H0 O0 ρ σ H O/\j3 K (jb H O) ds vs/\g ds ρ=some ρ'/\∀σ',Rel K H0 O0 ρ' σ' H O->σ'.drop k=σ.drop k->Q σ' H
theorem XU{t t':TG}(h:PG X tg t)(f:∀v σ H Q,t' v σ H Q->t v σ H Q):PG X tg t':=fun pins s σ H v u Q I r q=>h pins s σ H v u Q I r (f v σ H Q q)
theorem qR{ts:List Expr}{t t':UO}(h:VE X ts t)(f:∀v σ H Q,t' v σ H Q->t v σ H Q):VE X ts t':=fun pins s σ H v u Q I r q=>h pins s σ H v u Q I r (f v σ H Q q)
noncomputable def gN(i:Nat):DG:=fun d ρ=>some (ρ.set i (.cl d))
@[simp] theorem Hw(i:Nat){d:D}{ρ:j9}:gN i d ρ=some (ρ.set i (.cl d)):=rfl
theorem BN{i k:Nat}{x:Str}(h:PG X (.Name x pos) (ZL i))(hi:i < k:=by decide):PG X (.Name x pos) (tG K k (gN i)):=XU h fun v σ H Q ⟨H0,O0,ρ,O,d,ρ',R,r,e,q⟩=>by
  cases e
  exact q _ (R.set r i) (List.drop_set_of_lt hi)
noncomputable def gZ:Vn:=fun ds ρ=>match ds with
  | []=>some ρ
  | _=>none
@[simp] theorem Hx{ds:List D}{ρ:j9}:gZ ds ρ=match ds with
  | []=>some ρ
  | _=>none:=rfl
noncomputable def gC(g:DG)(gs:Vn):Vn:=fun ds ρ=>match ds with
  | d :: r=>(g d ρ).bind fun ρ1=>gs r ρ1
  | []=>none
@[simp] theorem Hy(g:DG)(gs:Vn){ds:List D}{ρ:j9}:gC g gs ds ρ=match ds with
  | d :: r=>(g d ρ).bind fun ρ1=>gs r ρ1
  | []=>none:=rfl
theorem eI{k:Nat}:VE X [] (qQ K k gZ):=qR aW fun v σ H Q ⟨H0,O0,ρ,O,d,ρ',R,r,e,q⟩=>by
  unfold gZ at e
  split at e
  · cases e
    rw[j3]at r
    exact⟨r,q _ R rfl⟩
  · cases e
theorem BO{k:Nat}{es:List Expr}{g:DG}{gs:Vn}(h1:PG X e (tG K k g))(h2:VE X es (qQ K k gs))(hs:(assignEach (e :: es) X.env).map (·.2)=assign e X.env :: (assignEach es X.env).map (·.2):=by rfl):VE X (e :: es) (qQ K k (gC g gs)):=qR (QV h1 h2 hs) fun v σ H Q ⟨H0,O0,ρ,O,ds,ρ',R,r,ed,q⟩=>by
  unfold gC at ed
  split at ed
  · obtain⟨ρ1,e1,e2⟩:=bind_some ed
    rw[j3]at r
    obtain⟨v1,vr,rfl,a,b⟩:=r
    exact⟨v1,vr,rfl,H0,O0,ρ,O,_,ρ1,R,a,e1,fun σ' R' k1=>⟨H0,O0,ρ1,O,_,ρ',R',b,e2,fun σ2 R2 k2=>q σ2 R2 (k2.trans k1)⟩⟩
  · cases ed
noncomputable def gT(n:Nat)(gs:Vn):DG:=fun d ρ=>match d with
  | .tup l=>if l.length=n then gs l ρ else none
  | _=>none
@[simp] theorem fA(n:Nat)(gs:Vn){d:D}{ρ:j9}:gT n gs d ρ=match d with
  | .tup l=>if l.length=n then gs l ρ else none
  | _=>none:=rfl
theorem eJ{es:List Expr}{k kk:Nat}{gs:Vn}(n:Nat)(hc:X.calm=true)(h:VE X es (qQ K kk gs))(hn:(assignEach es X.env).length=n:=by rfl)(hst:(assignEach es X.env).findIdx? (·.1)=none:=by rfl)(hK:X.K=K:=by rfl):PG X (.Tuple es k pos) (tG K kk (gT n gs)):=XU (bH hc h hn hst) fun v σ H Q ⟨H0,O0,ρ,O,d,ρ',R,r,ed,q⟩=>by
  subst hK
  unfold gT at ed
  split at ed
  · split at ed
    · obtain⟨a,xs,rfl,h1,h2⟩:=RB.tup (.inl r)
      exact⟨a,xs,rfl,h1,by rw[h2.len]; assumption,H0,O0,ρ,O,_,ρ',R,h2,ed,q⟩
    · cases ed
  · cases ed
noncomputable def jZ:DT:=fun _=>some true
@[simp] theorem Fp{r:j9}:jZ r=some true:=rfl
theorem fG:zD X [] (tT K jZ):=fun pins s σ H Q I ⟨H0,O0,ρ,O,b,R,ed,q⟩=>by
  cases ed
  exact Ad pins s σ H Q I (q H (j4.refl H))
theorem fH{dt:DT}(h:PT X c (tT K dt)):zD X [c] (tT K dt):=Ae h
@[simp] noncomputable def v6(k:Nat)(caps:List Nat)(ρ:j9):j9:=List.replicate k .un ++ caps.map fun j=>(ρ[j]?).getD .un
noncomputable def Ja(g:DG)(dc:DT)(de:DE):List D->j9->Option (List D)
  | [],_=>some []
  | d :: ds,ρ=>(g d ρ).bind fun ρ1=>(dc ρ1).bind fun k=>if k=true then(de ρ1).bind fun y=>(Ja g dc de ds ρ).bind fun ys=>some (y :: ys)else Ja g dc de ds ρ
noncomputable def Yc(k:Nat)(caps:List Nat)(di:DI)(g:DG)(dc:DT)(de:DE):DO:=fun ρ=>(di ρ).bind fun items=>(Ja g dc de items (v6 k caps ρ)).bind fun ys=>if items.length<=sizeLine then some (.lst ys)else none
@[simp] theorem eK(k:Nat)(caps:List Nat)(di:DI)(g:DG)(dc:DT)(de:DE){ρ:j9}:Yc k caps di g dc de ρ=(di ρ).bind fun items=>(Ja g dc de items (v6 k caps ρ)).bind fun ys=>if items.length<=sizeLine then some (.lst ys)else none:=rfl
theorem xD{H0 H:Hp}{O0 O:List Addr}{ρ:j9}{σ:L2.St}(own:List Str)(caps:List (Str×Nat))(R:Rel K H0 O0 ρ σ H O)(hnd:(caps.map (·.2)).Nodup):Rel K H0 O0 (v6 own.length (caps.map (·.2)) ρ) (ZN own caps σ) H O:=by
  have key:∀(i:Nat) (s:Sl),s≠.un->(v6 own.length (caps.map (·.2)) ρ)[i]?=some s->∃m x j,i=own.length + m/\caps[m]?=some (x,j)/\ρ[j]?=some s/\(ZN own caps σ)[i]?=some ((σ[j]?).join):=fun i s hs e=>by
    unfold v6 at e
    by_cases hi:i < own.length
    · rw[List.getElem?_append_left (by rw[List.length_replicate]; exact hi),List.getElem?_replicate,if_pos hi]at e
      cases e
      exact absurd rfl hs
    · rw[List.getElem?_append_right (by rw[List.length_replicate]; omega),List.length_replicate,List.map_map,List.getElem?_map]at e
      cases q:caps[i - own.length]? with
      | none=>rw[q]at e; cases e
      | some p=>
        rw[q]at e
        obtain⟨x,j⟩:=p
        have e:(ρ[j]?).getD .un=s:=Option.some.inj e
        refine⟨i - own.length,x,j,by omega,q,?_,?_⟩
        · cases z:ρ[j]? with
          | none=>rw[z]at e; exact absurd e.symm hs
          | some s'=>rw[z]at e; rw[<-e]; rfl
        · show(own.map (fun _=>(none:Option V)) ++ caps.map fun(p:Str×Nat)=>(σ[p.2]?).join)[i]?=_
          rw[List.getElem?_append_right (by rw[List.length_map]; omega),List.length_map,List.getElem?_map,q]
          rfl
  refine⟨?_,R.sub,R.fr,R.al0,R.al,R.keep,?_,?_,?_,?_⟩
  · show(own.map (fun _=>(none:Option V)) ++ caps.map fun(p:Str×Nat)=>(σ[p.2]?).join).length=_
    unfold v6
    simp
  · intro i d e
    obtain⟨m,x,j,_,_,e2,e3⟩:=key i _ (by intro z; cases z) e
    obtain⟨v,h1,h2⟩:=R.cl j d e2
    exact⟨v,by rw[e3,h1]; rfl,h2⟩
  · intro i d e
    obtain⟨m,x,j,_,_,e2,e3⟩:=key i _ (by intro z; cases z) e
    obtain⟨v,h1,h2⟩:=R.bo j d e2
    exact⟨v,by rw[e3,h1]; rfl,h2⟩
  · intro i q o e
    obtain⟨m,x,j,_,_,e2,e3⟩:=key i _ (by intro z; cases z) e
    obtain⟨l,z,h1,h2⟩:=R.ow j q o e2
    exact⟨l,z,by rw[e3,h1]; rfl,h2⟩
  · intro i i' q q' ds es l e e' f f'
    obtain⟨m,x,j,rfl,c1,e2,e3⟩:=key i _ (by intro z; cases z) e
    obtain⟨m',x',j',rfl,c2,e2',e3'⟩:=key i' _ (by intro z; cases z) e'
    rw[e3]at f
    rw[e3']at f'
    have jn:∀{o:Option (Option V)} {v:V},o.join=some v->o=some (some v):=fun {o v} z=>by
      cases o with
      | none=>cases z
      | some w=>cases w with
        | none=>cases z
        | some u=>cases z; rfl
    have ej:=R.dist j j' q q' ds es l e2 e2' (jn (Option.some.inj f)) (jn (Option.some.inj f'))
    subst ej
    have h1:(caps.map (·.2))[m]?=some j:=by rw[List.getElem?_map,c1]; rfl
    have h2:(caps.map (·.2))[m']?=some j:=by rw[List.getElem?_map,c2]; rfl
    have hm:m=m':=by
      have l1:=(List.getElem?_eq_some_iff.mp h1).1
      exact(List.getElem?_inj l1 hnd).mp (h1.trans h2.symm)
    rw[hm]
end
end DS
namespace DS
open PySem PySem.Spec PyProof.Rows L2
section
variable {X:Cx} {K:Fr} {e a b c d tg:Expr} {de da db dc dd:DE} {pos:Pos}
theorem kT{own:List Str}{caps:List (Str×Nat)}{di:DI}{g:DG}{dc:DT}{de:DE}(hnd:(caps.map (·.2)).Nodup):∀σ H Q,tF K (Yc own.length (caps.map (·.2)) di g dc de) σ H Q->Br own caps (Ys K di) (tG K own.length g) (tT K dc) (tE K de) σ H Q:=fun σ H Q ⟨H0,O0,ρ,O,o,R,ed,q⟩=>by
  obtain⟨items,e1,ed⟩:=bind_some ed
  obtain⟨ys,e2,ed⟩:=bind_some ed
  split at ed
  · rename_i hz
    cases ed
    refine⟨H0,O0,ρ,O,items,R,e1,fun J H1 s1 hJ=>?_⟩
    have R1:=R.grow s1
    have Rc:=xD own caps R1 hnd
    refine⟨fun i m vs H'=>∃ys1 ys2,Ja g dc de (items.drop i) (v6 own.length (caps.map (·.2)) ρ)=some ys2/\ys1 ++ ys2=ys/\j4 H1 H'/\j3 K (jb H' O) ys1 vs/\m=items.length - i/\i<=items.length/\ys1.length<=i,⟨items.length,[],ys,by simpa using e2,rfl,j4.refl _,j3.nil,rfl,Nat.zero_le _,Nat.le_refl _⟩,?_⟩
    rintro i m vs H' ⟨ys1,ys2,d1,d2,sH,rp,rfl,hi,hy⟩
    have R2:=R1.grow sH
    obtain⟨hgo,hstop⟩:=hJ i H' O R2.keep R2.in0 (jh sH) R2.al
    by_cases hlt:i < items.length
    · right
      have hx:items[i]?=some items[i]:=by simp[hlt]
      have hd:items.drop i=items[i] :: items.drop (i + 1):=(List.getElem_cons_drop hlt).symm
      rw[hd]at d1
      obtain⟨g1,g2⟩:=hgo _ hx
      refine⟨g1,by rw[rp.len]; omega,fun vs' H4=>∃ys1 ys2,Ja g dc de (items.drop (i + 1)) (v6 own.length (caps.map (·.2)) ρ)=some ys2/\ys1 ++ ys2=ys/\j4 H1 H4/\j3 K (jb H4 O) ys1 vs'/\ys1.length<=i + 1,?_,fun x H'' y=>?_⟩
      · rintro vs' H4 ⟨z1,z2,a1,a2,a3,a4,a5⟩
        exact⟨items.length - (i + 1),by omega,z1,z2,a1,a2,a3,a4,rfl,hlt,a5⟩
      · obtain⟨sy,rx⟩:=g2 x H'' y
        obtain⟨ρ1,f1,f2⟩:=bind_some d1
        obtain⟨k,f3,f4⟩:=bind_some f2
        refine⟨H0,O0,_,O,_,ρ1,Rc.grow (sH.trans sy),rx,f1,fun σ2 R3 kd=>⟨kd,H0,O0,ρ1,O,k,R3,f3,fun H3 s3=>?_⟩⟩
        cases k with
        | true=>
          rw[if_pos rfl]at f4
          obtain⟨y1,f5,f6⟩:=bind_some f4
          obtain⟨yr,f7,f8⟩:=bind_some f6
          cases f8
          refine zC ⟨H0,O0,ρ1,O,y1,R3.grow s3,f5,fun v H4 s4 rv=>?_⟩
          exact⟨ys1 ++ [y1],yr,f7,by rw[<-d2]; simp,sH.trans (sy.trans (s3.trans s4)),(rp.same (jh (sy.trans (s3.trans s4)))).snoc rv,by simp; exact hy⟩
        | false=>
          rw[if_neg Bool.false_ne_true]at f4
          exact zB ⟨ys1,ys2,f4,d2,sH.trans (sy.trans s3),rp.same (jh (sy.trans s3)),by omega⟩
    · left
      have ei:i=items.length:=by omega
      refine⟨hstop ei,by rw[rp.len]; omega,fun Dd hD=>?_⟩
      have e0:items.drop i=[]:=List.drop_of_length_le (by omega)
      rw[e0]at d1
      have e3:ys2=[]:=by
        have d1:some []=some ys2:=d1
        exact(Option.some.inj d1).symm
      rw[e3,List.append_nil]at d2
      subst d2
      exact q Dd _ ((s1.trans sH).trans (jK hD _)) ((s1.trans sH).none hD) (JJ hD rp)
  · cases ed
theorem fJ{iter elt:Expr}{ifs:List Expr}{scope:Scope}{di:DI}{g:DG}{dc:DT}{de:DE}(own:List Str)(caps:List (Str×Nat))(S:CScope X scope)(hcap:Caps X scope caps)(hc:X.calm=true)(hi:PI X tg iter (Ys K di))
    (hg:∀s3 H3 ex',PG (X.comp (cN own caps) scope s3 H3 ex') tg (tG K own.length g)) (ht:∀s3 H3 ex',zD (X.comp (cN own caps) scope s3 H3 ex') ifs (tT K dc)) (he:∀s3 H3 ex',PE (X.comp (cN own caps) scope s3 H3 ex') elt (tE K de))
    (hnd:(caps.map (·.2)).Nodup:=by decide) (hs:∀x,foldedSetIterable iter X.env x=pure x:=by intro _; rfl):PE X (.ListComp elt [⟨tg,iter,ifs,0⟩] scope pos) (tF K (Yc own.length (caps.map (·.2)) di g dc de)):=jz (Dq own caps S hcap hc hi hg ht he hs) (kT hnd)
noncomputable def ga(K:Fr)(ks:List Bool)(F:List D->Option D):Sp:=fun vs H Q _=>∃O ds d,(∀a∈O,H a≠none)/\yp K O H ks ds vs/\F ds=some d/\∀v H',j4 H H'->j7 K (jb H' O) d v->Q v H'
noncomputable def wO(K:Fr)(ks:List Bool)(F:List D->Option OD):Sp:=fun vs H Q _=>∃O ds o,(∀a∈O,H a≠none)/\yp K O H ks ds vs/\F ds=some o/\∀l H',j4 H H'->H l=none->JA K H' (jb H' (l :: O)) l o->Q (.ref l) H'
variable {k:Nat} {x m:Str} {ps:List Str} {p apos:Pos} {es:List Expr} {l:DA} {ks:List Bool}
theorem BP{F:List D->Option D}(G:FnI X.prog X.w X.K X.mg X.base k x ps (ga K ks F))(hr:Room k X.A)(ha:PA X (e :: es) (zn K l))(hk:l.map (·.1)=ks:=by rfl)(hg:Gl X x:=by rfl)(hdb:(x == ("__debug__" : Str))=false:=by decide)
    (he:starEach (e :: es) X.env=(false,eval e X.env) :: starEach es X.env:=by rfl) (hpl:(backTo pos (starEach es X.env)).any (·.1)=false:=by rfl):PE X (.Call (.Name x p) (e :: es) [] pos) (tE K (j8 F l)):=jz (XE G hr ha hg hdb he hpl) fun σ H Q ⟨H0,O0,ρ,O,d,R,ed,q⟩=>by
  subst hk
  obtain⟨ds,e1,e2⟩:=bind_some ed
  refine⟨H0,O0,ρ,O,ds,R,e1,fun vs H1 s1 r1=>?_⟩
  (try dsimp only)
  rw[List.append_nil]
  exact⟨O,ds,d,(R.grow s1).al,r1,e2,fun v H' s r=>q v H' (s1.trans s) r⟩
theorem BQ{F:List D->Option OD}(G:FnI X.prog X.w X.K X.mg X.base k x ps (wO K ks F))(hr:Room k X.A)(ha:PA X (e :: es) (zn K l))(hk:l.map (·.1)=ks:=by rfl)(hg:Gl X x:=by rfl)(hdb:(x == ("__debug__" : Str))=false:=by decide)
    (he:starEach (e :: es) X.env=(false,eval e X.env) :: starEach es X.env:=by rfl) (hpl:(backTo pos (starEach es X.env)).any (·.1)=false:=by rfl):PE X (.Call (.Name x p) (e :: es) [] pos) (tF K (jY F l)):=jz (XE G hr ha hg hdb he hpl) fun σ H Q ⟨H0,O0,ρ,O,d,R,ed,q⟩=>by
  subst hk
  obtain⟨ds,e1,e2⟩:=bind_some ed
  refine⟨H0,O0,ρ,O,ds,R,e1,fun vs H1 s1 r1=>?_⟩
  (try dsimp only)
  rw[List.append_nil]
  exact⟨O,ds,d,(R.grow s1).al,r1,e2,fun l H' s hn r=>q l H' (s1.trans s) (s1.none hn) r⟩
noncomputable def ZQ(C:Addr)(m:Str)(F:List D->Option D):D->Option D:=fun d=>match d with
  | .ins C' ns ds=>if C'=C/\m∉ns then F [d]else none
  | _=>none
noncomputable def kU(C:Addr)(m:Str)(F:List D->Option OD):D->Option OD:=fun d=>match d with
  | .ins C' ns ds=>if C'=C/\m∉ns then F [d]else none
  | _=>none
theorem v7{α:Type}{m:Str}:∀{ns:List Str} {xs:List α},m∉ns->(ns.zip xs).lookup m=none
  | [],_,_=>rfl
  | _ :: _,[],_=>rfl
  | n :: ns,x :: xs,h=>by
    rw[List.zip_cons_cons,List.lookup_cons]
    have e:(m == n)=false:=by
      rw[beq_eq_false_iff_ne]
      exact fun z=>h (by rw[z]; exact List.mem_cons_self)
    rw[e]
    exact v7 fun z=>h (List.mem_cons_of_mem _ z)
theorem Ao{F:List D->Option D}{C:Addr}{pl:Sem Bool}(he:PE X a (tR K da))(c:Cls K C)(M:MtI X.prog X.w X.K X.mg X.base k C m ps (ga K [false] F))(hr:Room k X.A)
    (ht:eval (.Call (.Attribute a m apos) [] [] pos) X.env=(do
      let ov<-eval a X.env
      standAt apos.atName
      let (f,first)<-holding [ov] (getMethod ov m pl)
      callWith pos f first (backTo pos (starEach [] X.env)) (backToKw pos (keywordEach [] X.env))):=by rfl) (hK:X.K=K:=by rfl):
    PE X (.Call (.Attribute a m apos) [] [] pos) (tE K (d1 (ZQ C m F) da)):=by
  subst hK
  refine jz (qI he c M hr ht) fun σ H Q ⟨H0,O0,ρ,O,d,R,ed,q⟩=>?_
  obtain⟨x,e1,e2⟩:=bind_some ed
  refine⟨H0,O0,ρ,O,x,R,e1,fun v H1 s1 r=>?_⟩
  unfold ZQ at e2
  split at e2
  · split at e2
    · rename_i hh
      obtain⟨rfl,hm⟩:=hh
      have r0:=r
      obtain⟨pa,dx,xs,rfl,h1,hn,h2⟩:=r.ins
      exact⟨pa,dx,_,rfl,h1,v7 hm,O,[_],d,(R.grow s1).al,⟨r0,trivial⟩,e2,fun v H' s r=>q v H' (s1.trans s) r⟩
    · cases e2
  · cases e2
noncomputable def BR(f:D->Option OD)(da:DE):DO:=fun ρ=>(da ρ).bind f
@[simp] theorem Hg(f:D->Option OD)(da:DE){ρ:j9}:BR f da ρ=(da ρ).bind f:=rfl
theorem Ap{F:List D->Option OD}{C:Addr}{pl:Sem Bool}(he:PE X a (tR K da))(c:Cls K C)(M:MtI X.prog X.w X.K X.mg X.base k C m ps (wO K [false] F))(hr:Room k X.A)
    (ht:eval (.Call (.Attribute a m apos) [] [] pos) X.env=(do
      let ov<-eval a X.env
      standAt apos.atName
      let (f,first)<-holding [ov] (getMethod ov m pl)
      callWith pos f first (backTo pos (starEach [] X.env)) (backToKw pos (keywordEach [] X.env))):=by rfl) (hK:X.K=K:=by rfl):
    PE X (.Call (.Attribute a m apos) [] [] pos) (tF K (BR (kU C m F) da)):=by
  subst hK
  refine jz (qI he c M hr ht) fun σ H Q ⟨H0,O0,ρ,O,d,R,ed,q⟩=>?_
  obtain⟨x,e1,e2⟩:=bind_some ed
  refine⟨H0,O0,ρ,O,x,R,e1,fun v H1 s1 r=>?_⟩
  unfold kU at e2
  split at e2
  · split at e2
    · rename_i hh
      obtain⟨rfl,hm⟩:=hh
      have r0:=r
      obtain⟨pa,dx,xs,rfl,h1,hn,h2⟩:=r.ins
      exact⟨pa,dx,_,rfl,h1,v7 hm,O,[_],d,(R.grow s1).al,⟨r0,trivial⟩,e2,fun l H' s hn r=>q l H' (s1.trans s) (s1.none hn) r⟩
    · cases e2
  · cases e2
noncomputable def XV(K:Fr)(C:Addr)(ks:List Bool)(F:Addr->List D->Option OD):Sp:=fun vs H Q _=>∃O ds p dx vs' o,vs=.ref p :: vs'/\(∀a∈O,H a≠none)/\H p=some (.ins C dx [])/\p∉O/\yp K O (jb H [p]) ks ds vs'/\F p ds=some o/\∀H',j4 (jb H [p]) H'->JA K H' (jb H' (p :: O)) p o->Q .non H'
noncomputable def kg(F:List D->Option OD)(l:DA):DO:=fun ρ=>(yB l ρ).bind F
@[simp] theorem Fq(F:List D->Option OD)(l:DA){ρ:j9}:kg F l ρ=(yB l ρ).bind F:=rfl
theorem BS{F:Addr->List D->Option OD}{F1:List D->Option OD}{C:Addr}(M:MkI X.prog X.w X.K X.mg X.base k C x ps (XV K C ks F))(hF:∀p ds o,F1 ds=some o->F p ds=some o)(hr:Room (k + 1) X.A)(ha:PA X (e :: es) (zn K l))(hk:l.map (·.1)=ks:=by rfl)(hg:Gl X x:=by rfl)(hdb:(x == ("__debug__" : Str))=false:=by decide)
    (he:starEach (e :: es) X.env=(false,eval e X.env) :: starEach es X.env:=by rfl) (hpl:(backTo pos (starEach es X.env)).any (·.1)=false:=by rfl):PE X (.Call (.Name x p) (e :: es) [] pos) (tF K (kg F1 l)):=jz (Dr M hr ha hg hdb he hpl) fun σ H Q ⟨H0,O0,ρ,O,o,R,ed,q⟩=>by
  subst hk
  obtain⟨ds,e1,e2⟩:=bind_some ed
  refine⟨H0,O0,ρ,O,ds,R,e1,fun vs H1 s1 r1=>fun y dy ny ndy hne=>?_⟩
  (try dsimp only)
  rw[List.append_nil]
  have R1:=R.grow s1
  have sB:j4 H1 (jb (upd (upd H1 dy (.own y)) y (.ins C dy [])) [y]):=fun c u z=>by
    rw[J3 (by intro w; simp at w; exact jx z ny w),jm (jx z ny),jm (jx z ndy)]
    exact z
  refine⟨O,ds,y,dy,vs,o,rfl,fun c hc z=>?_,J7,R1.new ny,r1.same sB,hF y ds o e2,fun H' s ow=>⟨rfl,q y H' (s1.trans (sB.trans s)) (s1.none ny) ow⟩⟩
  refine R1.al c hc ?_
  by_cases h1:c=y
  · rw[h1]; exact ny
  · rw[jm h1]at z
    by_cases h2:c=dy
    · rw[h2]; exact ndy
    · rw[jm h2]at z; exact z
inductive Rs where
  | nx (ρ:j9) | rt (d:D) | rf (o:OD) | bk (ρ:j9) | ct (ρ:j9)
noncomputable abbrev DS:=j9->Option Rs
noncomputable def Fin(K:Fr)(H0:Hp)(O0:List Addr)(H:Hp)(O:List Addr)(E:Ends):Rs->Prop
  | .nx ρ=>∀σ' H' O',Rel K H0 O0 ρ σ' H' O'->j4 (jb H O) (jb H' O')->E.nx σ' H'
  | .bk ρ=>∀σ' H' O',Rel K H0 O0 ρ σ' H' O'->j4 (jb H O) (jb H' O')->E.bk σ' H'
  | .ct ρ=>∀σ' H' O',Rel K H0 O0 ρ σ' H' O'->j4 (jb H O) (jb H' O')->E.ct σ' H'
  | .rt d=>∀v H',j4 H0 H'->j7 K (jb H' O0) d v->E.rt v H'
  | .rf o=>∀l H',j4 H0 H'->H0 l=none->JA K H' (jb H' (l :: O0)) l o->E.rt (.ref l) H'
theorem Fin.mono{H0 H H1:Hp}{O0 O O1:List Addr}{E:Ends}{r:Rs}(s:j4 (jb H O) (jb H1 O1))(h:Fin K H0 O0 H O E r):Fin K H0 O0 H1 O1 E r:=by
  cases r with
  | nx ρ=>exact fun σ' H' O' R t=>h σ' H' O' R (s.trans t)
  | bk ρ=>exact fun σ' H' O' R t=>h σ' H' O' R (s.trans t)
  | ct ρ=>exact fun σ' H' O' R t=>h σ' H' O' R (s.trans t)
  | rt d=>exact h
  | rf o=>exact h
noncomputable def tS(K:Fr)(ds:DS):TS:=fun E σ H=>∃H0 O0 ρ O r,Rel K H0 O0 ρ σ H O/\ds ρ=some r/\Fin K H0 O0 H O E r
variable {st:Stmt} {rest:List Stmt} {s1 s2:DS}
theorem Jj{t t':TS}(h:PS X st t)(f:∀D σ H,t' D σ H->t D σ H):PS X st t':=fun pins s σ H D I q=>h pins s σ H D I (f D σ H q)
theorem gb{t t':TS}(h:Je X rest t)(f:∀D σ H,t' D σ H->t D σ H):Je X rest t':=fun pins s σ H D I q=>h pins s σ H D I (f D σ H q)
noncomputable def jG:DS:=fun ρ=>some (.nx ρ)
@[simp] theorem Hh{ρ:j9}:jG ρ=some (.nx ρ):=rfl
theorem BU:Je X [] (tS K jG):=gb aQ fun D σ H ⟨H0,O0,ρ,O,r,R,ed,f⟩=>by
  cases ed
  exact f σ H O R (j4.refl _)
noncomputable def j1(s1 s2:DS):DS:=fun ρ=>(s1 ρ).bind fun r=>match r with
  | .nx ρ1=>s2 ρ1
  | r=>some r
@[simp] theorem vH(s1 s2:DS){ρ:j9}:j1 s1 s2 ρ=(s1 ρ).bind fun r=>match r with
  | .nx ρ1=>s2 ρ1
  | r=>some r:=rfl
theorem Aq(h1:PS X st (tS K s1))(h2:Je X rest (tS K s2)):Je X (st :: rest) (tS K (j1 s1 s2)):=gb (QR h1 h2) fun D σ H ⟨H0,O0,ρ,O,r,R,ed,f⟩=>by
  obtain⟨r1,e1,e2⟩:=bind_some ed
  refine⟨H0,O0,ρ,O,r1,R,e1,?_⟩
  cases r1 with
  | nx ρ1=>exact fun σ' H' O' R' t=>⟨H0,O0,ρ1,O',r,R',e2,f.mono t⟩
  | bk ρ1=>cases e2; exact f
  | ct ρ1=>cases e2; exact f
  | rt d=>cases e2; exact f
  | rf o=>cases e2; exact f
theorem BV(h1:PS X st (tS K s1)):Je X [st] (tS K s1):=aR h1
noncomputable def Z2:DS:=fun _=>none
@[simp] theorem Fs{r:j9}:Z2 r=none:=rfl
theorem xE:Je X rest (tS K Z2):=gb qd fun D σ H ⟨H0,O0,ρ,O,r,R,ed,f⟩=>by cases ed
theorem BW:PS X (.Pass pos) (tS K jG):=Jj aS fun D σ H ⟨H0,O0,ρ,O,r,R,ed,f⟩=>by
  cases ed
  exact f σ H O R (j4.refl _)
noncomputable def BX:DS:=fun ρ=>some (.bk ρ)
@[simp] theorem Hi{ρ:j9}:BX ρ=some (.bk ρ):=rfl
noncomputable def BZ:DS:=fun ρ=>some (.ct ρ)
@[simp] theorem Hj{ρ:j9}:BZ ρ=some (.ct ρ):=rfl
theorem Ar:PS X (.Break pos) (tS K BX):=Jj QS fun D σ H ⟨H0,O0,ρ,O,r,R,ed,f⟩=>by
  cases ed
  exact f σ H O R (j4.refl _)
theorem B_:PS X (.Continue pos) (tS K BZ):=Jj wo fun D σ H ⟨H0,O0,ρ,O,r,R,ed,f⟩=>by
  cases ed
  exact f σ H O R (j4.refl _)
noncomputable def Zk(i:Nat)(s:DS):DS:=fun ρ=>match ρ[i]? with
  | some (.ow _ o)=>s (ρ.set i (.cl o.toD))
  | _=>none
@[simp] theorem fL(i:Nat)(s:DS){ρ:j9}:Zk i s ρ=match ρ[i]? with
  | some (.ow _ o)=>s (ρ.set i (.cl o.toD))
  | _=>none:=rfl
theorem xF(i:Nat)(h:Je X rest (tS K s1)):Je X rest (tS K (Zk i s1)):=gb h fun D σ H ⟨H0,O0,ρ,O,r,R,ed,f⟩=>by
  unfold Zk at ed
  split at ed
  · obtain⟨O',R',ss⟩:=R.share (by assumption)
    exact⟨H0,O0,_,O',r,R',ed,f.mono ss⟩
  · cases ed
noncomputable def jo(dt:DT)(s1 s2:DS):DS:=fun ρ=>(dt ρ).bind fun k=>if k=true then s1 ρ else s2 ρ
@[simp] theorem VT(dt:DT)(s1 s2:DS){ρ:j9}:jo dt s1 s2 ρ=(dt ρ).bind fun k=>if k=true then s1 ρ else s2 ρ:=rfl
theorem fM{dt:DT}{sa sb:List Stmt}(hc:PT X c (tT K dt))(ha:Je X sa (tS K s1))(hb:Je X sb (tS K s2)):PS X (.If c sa sb pos) (tS K (jo dt s1 s2)):=Jj (D6 hc ha hb) fun D σ H ⟨H0,O0,ρ,O,r,R,ed,f⟩=>by
  obtain⟨k,e1,e2⟩:=bind_some ed
  refine⟨H0,O0,ρ,O,k,R,e1,fun H' s=>?_⟩
  cases k with
  | true=>rw[if_pos rfl]at e2; exact zC ⟨H0,O0,ρ,O,r,R.grow s,e2,f.mono (jh s)⟩
  | false=>rw[if_neg Bool.false_ne_true]at e2; exact zB ⟨H0,O0,ρ,O,r,R.grow s,e2,f.mono (jh s)⟩
noncomputable def jf(i:Nat)(de:DE):DS:=fun ρ=>(de ρ).bind fun d=>some (.nx (ρ.set i (.cl d)))
@[simp] theorem FV(i:Nat)(de:DE){ρ:j9}:jf i de ρ=(de ρ).bind fun d=>some (.nx (ρ.set i (.cl d))):=rfl
theorem ca{i:Nat}:∀D σ H,tS K (jf i de) D σ H->zA (tE K de) (ZL i) D σ H:=fun D σ H ⟨H0,O0,ρ,O,r,R,ed,f⟩=>by
  obtain⟨d,e1,e2⟩:=bind_some ed
  cases e2
  exact⟨H0,O0,ρ,O,d,R,e1,fun v H' s q=>f _ H' O ((R.grow s).set q i) (jh s)⟩
theorem XW{i:Nat}(h:PS X st (zA (tE K de) (ZL i))):PS X st (tS K (jf i de)):=Jj h ca
noncomputable def Jr(i:Nat)(df:DO):DS:=fun ρ=>(df ρ).bind fun o=>some (.nx (ρ.set i (.ow none o)))
@[simp] theorem FW(i:Nat)(df:DO){ρ:j9}:Jr i df ρ=(df ρ).bind fun o=>some (.nx (ρ.set i (.ow none o))):=rfl
theorem cb{i:Nat}{df:DO}:∀D σ H,tS K (Jr i df) D σ H->zA (tF K df) (ZL i) D σ H:=fun D σ H ⟨H0,O0,ρ,O,r,R,ed,f⟩=>by
  obtain⟨d,e1,e2⟩:=bind_some ed
  cases e2
  exact⟨H0,O0,ρ,O,d,R,e1,fun l H' s hn q=>f _ H' (l :: O) (R.own s hn q i) (ZO s hn)⟩
theorem XX{i:Nat}{df:DO}(h:PS X st (zA (tF K df) (ZL i))):PS X st (tS K (Jr i df)):=Jj h cb
theorem Um{te te':TE}{g:TG}(h:PS X st (zA te g))(f:∀σ H Q,te' σ H Q->te σ H Q):PS X st (zA te' g):=Jj h fun D σ H q=>f σ H _ q
theorem xG{df:DO}:∀σ H Q,tE K (dL df) σ H Q->tF K df σ H Q:=fun σ H Q ⟨H0,O0,ρ,O,d,R,ed,q⟩=>by
  obtain⟨ds,e1,e2⟩:=bind_some ed
  cases e2
  exact⟨H0,O0,ρ,O,ds,R,e1,fun l H' s hn r=>q _ _ s ((r.same (fun _ z=>z) (yJ fun a h=>List.mem_cons_of_mem _ h)).rep fun u z=>by rw[J3 (R.new hn)]; exact z)⟩
noncomputable def Zl(de:DE)(g:DG):DS:=fun ρ=>(de ρ).bind fun d=>(g d ρ).bind fun ρ'=>some (.nx ρ')
@[simp] theorem qS(de:DE)(g:DG){ρ:j9}:Zl de g ρ=(de ρ).bind fun d=>(g d ρ).bind fun ρ'=>some (.nx ρ'):=rfl
theorem eL{g:DG}{kk:Nat}(h:PS X st (zA (tE K de) (tG K kk g))):PS X st (tS K (Zl de g)):=Jj h fun D σ H ⟨H0,O0,ρ,O,r,R,ed,f⟩=>by
  obtain⟨d,e1,ed⟩:=bind_some ed
  obtain⟨ρ',e2,ed⟩:=bind_some ed
  cases ed
  exact⟨H0,O0,ρ,O,d,R,e1,fun v H' s q=>⟨H0,O0,ρ,O,d,ρ',R.grow s,q,e2,fun σ' R' _=>f σ' H' O R' (jh s)⟩⟩
noncomputable def Wz(i:Nat)(h:Int->Int->Int)(de:DE):DS:=fun ρ=>(dC i ρ).bind fun x=>(de ρ).bind fun y=>match x,y with
  | .int p,.int q=>some (.nx (ρ.set i (.cl (.int (h p q)))))
  | _,_=>none
@[simp] theorem FX(i:Nat)(h:Int->Int->Int)(de:DE){ρ:j9}:Wz i h de ρ=(dC i ρ).bind fun x=>(de ρ).bind fun y=>match x,y with
  | .int p,.int q=>some (.nx (ρ.set i (.cl (.int (h p q)))))
  | _,_=>none:=rfl
theorem XY{i:Nat}{g:Int->Int->Int}(h:PS X st (bI i (tR K de) (bJ g))):PS X st (tS K (Wz i g de)):=Jj h fun D σ H ⟨H0,O0,ρ,O,r,R,ed,f⟩=>by
  obtain⟨x,e1,ed⟩:=bind_some ed
  obtain⟨y,e2,ed⟩:=bind_some ed
  split at ed
  · cases ed
    unfold dC at e1
    split at e1
    · cases e1
      obtain⟨v,h1,h2⟩:=R.cl i _ (by assumption)
      rw[j7]at h2
      subst h2
      exact⟨_,h1,H0,O0,ρ,O,_,R,e2,fun v H' s q=>⟨_,_,rfl,q.int,f _ H' O ((R.grow s).set (by rw[j7]) i) (jh s)⟩⟩
    · cases e1
  · cases ed
noncomputable def vX(de:DE):DS:=fun ρ=>(de ρ).bind fun _=>some (.nx ρ)
@[simp] theorem Ft(de:DE){ρ:j9}:vX de ρ=(de ρ).bind fun _=>some (.nx ρ):=rfl
theorem qT(h:PS X st (Wg (tR K de))):PS X st (tS K (vX de)):=Jj h fun D σ H ⟨H0,O0,ρ,O,r,R,ed,f⟩=>by
  obtain⟨d,e1,e2⟩:=bind_some ed
  cases e2
  exact⟨H0,O0,ρ,O,d,R,e1,fun v H' s q=>f _ H' O (R.grow s) (jh s)⟩
noncomputable def JD(i:Nat)(de:DE):DS:=fun ρ=>match ρ[i]? with
  | some (.ow q (.lst ds))=>(de ρ).bind fun d=>if ds.length < sizeLine then some (.nx (ρ.set i (.ow q (.lst (ds ++ [d])))))else none
  | _=>none
@[simp] theorem Fv(i:Nat)(de:DE){ρ:j9}:JD i de ρ=match ρ[i]? with
  | some (.ow q (.lst ds))=>(de ρ).bind fun d=>if ds.length < sizeLine then some (.nx (ρ.set i (.ow q (.lst (ds ++ [d])))))else none
  | _=>none:=rfl
theorem xH{i:Nat}(h:PS X st (Wg (Bm K "list" gO (Zd i) (uB (tE K de) gK)))):PS X st (tS K (JD i de)):=Jj h fun D σ H ⟨H0,O0,ρ,O,r,R,ed,f⟩=>by
  unfold JD at ed
  split at ed
  · rename_i q ds hi
    obtain⟨d,e1,e2⟩:=bind_some ed
    split at e2
    · rename_i hz
      cases e2
      obtain⟨l,hq,hs,⟨vs,hl,rp⟩,lo,h0⟩:=R.ow i _ _ hi
      refine⟨_,hs,.inl ⟨rfl,_,jy.of hl⟩,H0,O0,ρ,O,d,R,e1,fun v H' s rv=>?_⟩
      have R':=R.grow s
      have rp':=rp.same (jh s)
      refine⟨l,vs,v,rfl,rfl,s _ _ hl,by rw[rp.len]; exact hz,f _ _ O (R'.change hi hq hs lo h0 ⟨_,J7,rp'.snoc rv⟩) ?_⟩
      rw[YF lo]
      exact jh s
    · cases e2
  · cases ed
noncomputable def uE(i:Nat)(dx de:DE):DS:=fun ρ=>match ρ[i]? with
  | some (.ow q (.lst ds))=>(de ρ).bind fun d=>(dx ρ).bind fun j=>match j with
    | .int j=>(Zf ds.length j).bind fun n=>some (.nx (ρ.set i (.ow q (.lst (ds.set n d)))))
    | _=>none
  | _=>none
@[simp] theorem Fw(i:Nat)(dx de:DE){ρ:j9}:uE i dx de ρ=match ρ[i]? with
  | some (.ow q (.lst ds))=>(de ρ).bind fun d=>(dx ρ).bind fun j=>match j with
    | .int j=>(Zf ds.length j).bind fun n=>some (.nx (ρ.set i (.ow q (.lst (ds.set n d)))))
    | _=>none
  | _=>none:=rfl
theorem ce{i:Nat}{dx:DE}(h:PS X st (zA (tE K de) (QW (Zd i) (tR K dx) Xz))):PS X st (tS K (uE i dx de)):=Jj h fun D σ H ⟨H0,O0,ρ,O,r,R,ed,f⟩=>by
  unfold uE at ed
  split at ed
  · rename_i q ds hi
    obtain⟨d,e1,ed⟩:=bind_some ed
    obtain⟨j,e2,ed⟩:=bind_some ed
    split at ed
    · obtain⟨n,e3,ed⟩:=bind_some ed
      cases ed
      obtain⟨l,hq,hs,⟨vs,hl,rp⟩,lo,h0⟩:=R.ow i _ _ hi
      refine⟨H0,O0,ρ,O,d,R,e1,fun v H1 s1 rv=>⟨_,hs,H0,O0,ρ,O,_,R.grow s1,e2,fun w H2 s2 rw'=>?_⟩⟩
      have s12:=s1.trans s2
      have R':=R.grow s12
      have rp':=rp.same (jh s12)
      refine⟨l,vs,_,n,rfl,rw'.int,s12 _ _ hl,by rw[rp.len]; exact e3,f _ _ O (R'.change hi hq hs lo h0 ⟨_,J7,rp'.set (rv.same (jh s2)) n⟩) ?_⟩
      rw[YF lo]
      exact jh s12
    · cases ed
  · cases ed
noncomputable def je(de:DE):DS:=fun ρ=>(de ρ).bind fun d=>some (.rt d)
@[simp] theorem cf(de:DE){ρ:j9}:je de ρ=(de ρ).bind fun d=>some (.rt d):=rfl
theorem XZ(h:PE X e (tE K de)):PS X (.Return (some e) pos) (tS K (je de)):=Jj (kt h) fun D σ H ⟨H0,O0,ρ,O,r,R,ed,f⟩=>by
  obtain⟨d,e1,e2⟩:=bind_some ed
  cases e2
  exact⟨H0,O0,ρ,O,d,R,e1,fun v H' s q=>f v H' (R.keep.trans s) (q.same (yJ R.sub))⟩
noncomputable def uF(df:DO):DS:=fun ρ=>(df ρ).bind fun o=>some (.rf o)
@[simp] theorem Fx(df:DO){ρ:j9}:uF df ρ=(df ρ).bind fun o=>some (.rf o):=rfl
theorem cg{df:DO}(h:PE X e (tF K df)):PS X (.Return (some e) pos) (tS K (uF df)):=Jj (kt h) fun D σ H ⟨H0,O0,ρ,O,r,R,ed,f⟩=>by
  obtain⟨d,e1,e2⟩:=bind_some ed
  cases e2
  refine⟨H0,O0,ρ,O,d,R,e1,fun l H' s hn q=>f l H' (R.keep.trans s) (R.keep.none hn) (q.same (fun _ z=>z) (yJ fun a h=>?_))⟩
  rcases List.mem_cons.mp h with rfl | h
  · exact List.mem_cons_self
  · exact List.mem_cons_of_mem _ (R.sub a h)
noncomputable def Yu(i:Nat):DS:=fun ρ=>match ρ[i]? with
  | some (.ow _ o)=>some (.rf o)
  | _=>none
@[simp] theorem Fy(i:Nat){ρ:j9}:Yu i ρ=match ρ[i]? with
  | some (.ow _ o)=>some (.rf o)
  | _=>none:=rfl
theorem ci{i:Nat}{x:Str}{pos':Pos}(h:PE X (.Name x pos') (Zd i)):PS X (.Return (some (.Name x pos')) pos) (tS K (Yu i)):=Jj (kt h) fun D σ H ⟨H0,O0,ρ,O,r,R,ed,f⟩=>by
  unfold Yu at ed
  split at ed
  · cases ed
    obtain⟨l,_,hs,ow,lo,h0⟩:=R.ow i _ _ (by assumption)
    refine⟨_,hs,f l H R.keep h0 (ow.same (fun _ z=>z) (yJ fun a h=>?_))⟩
    rcases List.mem_cons.mp h with rfl | h
    · exact lo
    · exact R.sub a h
  · cases ed
theorem cj:PS X (.Return none pos) (tS K (je (dK .non))):=Jj aU fun D σ H ⟨H0,O0,ρ,O,r,R,ed,f⟩=>by
  cases ed
  exact f .non H R.keep (by rw[j7])
noncomputable def jw(g:DG)(s:DS):List D->DS
  | [],ρ=>some (.nx ρ)
  | d :: ds,ρ=>(g d ρ).bind fun ρ1=>(s ρ1).bind fun r=>match r with
    | .nx ρ2=>jw g s ds ρ2
    | .ct ρ2=>jw g s ds ρ2
    | .bk ρ2=>some (.nx ρ2)
    | .rt d=>some (.rt d)
    | .rf o=>some (.rf o)
noncomputable def jW(di:DI)(g:DG)(s:DS):DS:=fun ρ=>(di ρ).bind fun items=>jw g s items ρ
@[simp] theorem kW(di:DI)(g:DG)(s:DS){ρ:j9}:jW di g s ρ=(di ρ).bind fun items=>jw g s items ρ:=rfl
theorem eM{iter:Expr}{body:List Stmt}{di:DI}{g:DG}{kk:Nat}(hp:PassesOwn (model X.prog X.w) X.A X.env X.xe)(hc:X.calm=true)(hi:PI X tg iter (Ys K di))(hg:PG X tg (tG K kk g))(hb:Je X body (tS K s1))(hs:∀x,foldedSetIterable iter X.env x=pure x:=by intro _; rfl):PS X (.For tg iter body [] pos) (tS K (jW di g s1)):=Jj (bP hp hc hi hg hb hs) fun D σ H ⟨H0,O0,ρ,O,r,R,ed,f⟩=>by
  obtain⟨items,e1,ed⟩:=bind_some ed
  refine⟨H0,O0,ρ,O,items,R,e1,fun J H1 s1' hJ=>?_⟩
  have R1:=R.grow s1'
  have f1:=f.mono (jh s1')
  refine⟨fun i m σ' H'=>∃ρ' O',Rel K H0 O0 ρ' σ' H' O'/\jw g s1 (items.drop i) ρ'=some r/\j4 (jb H1 O) (jb H' O')/\m=items.length - i/\i<=items.length,⟨items.length,ρ,O,R1,by simpa using ed,j4.refl _,rfl,Nat.zero_le _⟩,?_⟩
  rintro i m σ' H' ⟨ρ',O',R',d1,sd,rfl,hi'⟩
  obtain⟨hgo,hstop⟩:=hJ i H' O' R'.keep R'.in0 sd R'.al
  by_cases hlt:i < items.length
  · right
    have hx:items[i]?=some items[i]:=by simp[hlt]
    have hd:items.drop i=items[i] :: items.drop (i + 1):=(List.getElem_cons_drop hlt).symm
    rw[hd]at d1
    obtain⟨g1,g2⟩:=hgo _ hx
    refine⟨g1,fun σ2 H2=>∃ρ2 O2,Rel K H0 O0 ρ2 σ2 H2 O2/\jw g s1 (items.drop (i + 1)) ρ2=some r/\j4 (jb H1 O) (jb H2 O2),?_,fun x H'' y=>?_⟩
    · rintro σ2 H2 ⟨ρ2,O2,a1,a2,a3⟩
      exact⟨items.length - (i + 1),by omega,ρ2,O2,a1,a2,a3,rfl,hlt⟩
    · obtain⟨sy,rx⟩:=g2 x H'' y
      obtain⟨ρ1,f3,f4⟩:=bind_some d1
      obtain⟨r1,f5,f6⟩:=bind_some f4
      refine⟨H0,O0,ρ',O',_,ρ1,R'.grow sy,rx,f3,fun σ2 R3 _=>⟨H0,O0,ρ1,O',r1,R3,f5,?_⟩⟩
      have t1:=sd.trans (jh sy)
      cases r1 with
      | nx ρ2=>exact fun σ3 H3 O3 R4 t=>⟨ρ2,O3,R4,f6,t1.trans t⟩
      | ct ρ2=>exact fun σ3 H3 O3 R4 t=>⟨ρ2,O3,R4,f6,t1.trans t⟩
      | bk ρ2=>cases f6; exact fun σ3 H3 O3 R4 t=>f1 σ3 H3 O3 R4 (t1.trans t)
      | rt d=>cases f6; exact f1
      | rf o=>cases f6; exact f1
  · left
    have ei:i=items.length:=by omega
    refine⟨hstop ei,?_⟩
    have e0:items.drop i=[]:=List.drop_of_length_le (by omega)
    rw[e0]at d1
    have d1:some (Rs.nx ρ')=some r:=d1
    cases d1
    exact f1 σ' H' O' R' sd
noncomputable def Vo(dt:DT)(s:DS):Nat->DS
  | 0,_=>none
  | n + 1,ρ=>(dt ρ).bind fun k=>if k=true then(s ρ).bind fun r=>match r with
    | .nx ρ2=>Vo dt s n ρ2
    | .ct ρ2=>Vo dt s n ρ2
    | .bk ρ2=>some (.nx ρ2)
    | .rt d=>some (.rt d)
    | .rf o=>some (.rf o)else some (.nx ρ)
theorem As{dt:DT}{body:List Stmt}(n:Nat)(hp:PassesOwn (model X.prog X.w) X.A X.env X.xe)(hc:PT X c (tT K dt))(hb:Je X body (tS K s1)):PS X (.While c body [] pos) (tS K (Vo dt s1 n)):=Jj (QX hp hc hb) fun D σ H ⟨H0,O0,ρ,O,r,R,ed,f⟩=>by
  refine⟨fun m σ' H'=>∃ρ' O',Rel K H0 O0 ρ' σ' H' O'/\Vo dt s1 m ρ'=some r/\j4 (jb H O) (jb H' O'),⟨n,ρ,O,R,ed,j4.refl _⟩,?_⟩
  rintro m σ' H' ⟨ρ',O',R',d1,sd⟩
  cases m with
  | zero=>cases d1
  | succ m=>
    obtain⟨k,e1,e2⟩:=bind_some d1
    refine⟨H0,O0,ρ',O',k,R',e1,fun H2 s2=>?_⟩
    have t1:=sd.trans (jh s2)
    cases k with
    | true=>
      rw[if_pos rfl]at e2
      obtain⟨r1,f5,f6⟩:=bind_some e2
      refine zC ⟨fun σ3 H3=>∃ρ3 O3,Rel K H0 O0 ρ3 σ3 H3 O3/\Vo dt s1 m ρ3=some r/\j4 (jb H O) (jb H3 O3),?_,H0,O0,ρ',O',r1,R'.grow s2,f5,?_⟩
      · rintro σ3 H3 ⟨ρ3,O3,a1,a2,a3⟩
        exact⟨m,Nat.lt_succ_self m,ρ3,O3,a1,a2,a3⟩
      · cases r1 with
        | nx ρ2=>exact fun σ3 H3 O3 R4 t=>⟨ρ2,O3,R4,f6,t1.trans t⟩
        | ct ρ2=>exact fun σ3 H3 O3 R4 t=>⟨ρ2,O3,R4,f6,t1.trans t⟩
        | bk ρ2=>cases f6; exact fun σ3 H3 O3 R4 t=>f σ3 H3 O3 R4 (t1.trans t)
        | rt d=>cases f6; exact f
        | rf o=>cases f6; exact f
    | false=>
      rw[if_neg Bool.false_ne_true]at e2
      cases e2
      exact zB (f σ' H2 O' (R'.grow s2) t1)
theorem Au{iter elt:Expr}{ifs:List Expr}{scope:Scope}{di:DI}{g:DG}{dc:DT}{de:DE}(own:List Str)(caps:List (Str×Nat)){i:Nat}{x:Str}{pos' spos:Pos}(hN:X.N.Nodup)(hix:X.N[i]?=some x)(hx:uU X.env.scope x)(S:CScope X scope)(hcap:Caps X scope caps)(hc:X.calm=true)(hi:PI X tg iter (Ys K di))
    (hg:∀s3 H3 ex',PG (X.comp (cN own caps) scope s3 H3 ex') tg (tG K own.length g)) (ht:∀s3 H3 ex',zD (X.comp (cN own caps) scope s3 H3 ex') ifs (tT K dc)) (he:∀s3 H3 ex',PE (X.comp (cN own caps) scope s3 H3 ex') elt (tE K de)) (hnd:(caps.map (·.2)).Nodup:=by decide)
    (hs:∀x,foldedSetIterable iter X.env x=pure x:=by intro _; rfl)
    (hsw:swapsWith (.ListComp elt [⟨tg,iter,ifs,0⟩] scope pos) (some (.Name x pos')) spos.line X.env=pure true:=by rfl) (hf:X.fn x=true∨X.env.scope.names.lookup x=some .local:=by first | exact .inl rfl | exact .inr rfl | assumption):
    PS X (.Assign [.Name x pos'] (.ListComp elt [⟨tg,iter,ifs,0⟩] scope pos) spos) (tS K (Jr i (Yc own.length (caps.map (·.2)) di g dc de))):=
  XX (Um (kJ own caps hN hix hx S hcap hc hi hg ht he hs hsw hf) (kT hnd))
theorem Av{iter elt:Expr}{ifs:List Expr}{scope:Scope}{di:DI}{g:DG}{dc:DT}{de:DE}(own:List Str)(caps:List (Str×Nat)){i:Nat}{x:Str}{pos' spos:Pos}(hN:X.N.Nodup)(hix:X.N[i]?=some x)(hx:uU X.env.scope x)(S:CScope X scope)(hcap:Caps X scope caps)(hc:X.calm=true)(hi:PI X tg iter (Ys K di))
    (hg:∀s3 H3 ex',PG (X.comp (cN own caps) scope s3 H3 ex') tg (tG K own.length g)) (ht:∀s3 H3 ex',zD (X.comp (cN own caps) scope s3 H3 ex') ifs (tT K dc)) (he:∀s3 H3 ex',PE (X.comp (cN own caps) scope s3 H3 ex') elt (tE K de)) (hnd:(caps.map (·.2)).Nodup:=by decide)
    (hs:∀x,foldedSetIterable iter X.env x=pure x:=by intro _; rfl)
    (hsw:swapsWith (.ListComp elt [⟨tg,iter,ifs,0⟩] scope pos) (some (.Name x pos')) spos.line X.env=pure true:=by rfl) (hf:X.fn x=true∨X.env.scope.names.lookup x=some .local:=by first | exact .inl rfl | exact .inr rfl | assumption):
    PS X (.Assign [.Name x pos'] (.ListComp elt [⟨tg,iter,ifs,0⟩] scope pos) spos) (tS K (jf i (dL (Yc own.length (caps.map (·.2)) di g dc de)))):=
  XW (Um (Um (kJ own caps hN hix hx S hcap hc hi hg ht he hs hsw hf) (kT hnd)) xG)
end
end DS
namespace DS
open PySem PySem.Spec PyProof.Rows L2
theorem gc(v:Value)(n:Nat):List.foldl (fun x1 x2=>x1 ++ x2) #[] (List.replicate n #[v])=(List.replicate n v).toArray:=by
  have f:∀(n:Nat) (a:Array Value),List.foldl (fun x1 x2=>x1 ++ x2) a (List.replicate n #[v])=a ++ (List.replicate n v).toArray:=fun n=>by
    induction n with
    | zero=>intro a; simp
    | succ n ih=>intro a; rw[List.replicate_succ,List.foldl_cons,ih]; apply Array.ext'; simp[List.replicate_succ]
  rw[f]; simp
theorem GZ(l:Addr)(v:Value)(n:Nat)(dd:Option Addr)(sl:Array (Option Value))(x:Int)(u:Tok)(h1:1 < x)(h2:x<=1000):
    Meets (Builtin.«tuple.__mul__» ⟨[.ref l,.int x u],[]⟩) (fun _ R s=>s.heap.get? l=some { cls:=.type "tuple",dict:=dd,data:=.seq #[v] n,slots:=sl }/\R (.ok (.ret (Value.ref s.heap.objs.size))) { s with heap:=s.heap.push { cls:=Value.type "tuple",data:=Data.seq (List.foldl (fun x1 x2=>x1 ++ x2) #[] (List.replicate x.toNat #[v])) },toks:=s.toks }):=
  .of_wp fun prog w A R s h=>by
    obtain⟨hp,g,d,tk,os⟩:=s; obtain⟨hl,h⟩:=h
    wp_walk
    refine wpAny_ite_false (by simp; omega) ?_
    wp_walk
    refine wpAny_ite_false (by simp; omega) ?_
    wp_walk
    refine wpAny_ite_false (by simp; omega) ?_
    wp_walk
    rw[if_neg (by simp; omega)]
    wp_walk
    refine wpAny_ite_false (by simp[Builtin.Tuple.tupleTooMany,sizeLine]; omega) ?_
    wp_walk
    have hz:(List.foldl (fun x1 x2=>x1 ++ x2) #[] (List.replicate x.toNat #[v])).size<=sizeLine:=by
      rw[gc]; simp[sizeLine]; omega
    first | exact⟨_,rfl,h⟩ | (refine wpAny_ite_false (decide_eq_false (Nat.not_lt.mpr hz)) ?_; wp_walk; exact⟨_,rfl,h⟩)
theorem G_(l:Addr)(v:Value)(n:Nat)(dd:Option Addr)(sl:Array (Option Value))(u:Tok):
    Meets (Builtin.«tuple.__mul__» ⟨[.ref l,.int 1 u],[]⟩) (fun _ R s=>s.heap.get? l=some { cls:=.type "tuple",dict:=dd,data:=.seq #[v] n,slots:=sl }/\R (.ok (.ret (Value.ref l))) { s with heap:=s.heap,toks:=s.toks }):=
  .of_wp fun prog w A R s h=>by
    obtain⟨hp,g,d,tk,os⟩:=s; obtain⟨hl,h⟩:=h
    wp_walk
    first | exact⟨_,rfl,h⟩ | (refine wpAny_ite_false (by simp) ?_; wp_walk; refine wpAny_ite_true (by simp) ?_; wp_walk; exact⟨_,rfl,h⟩)
theorem gU(l:Addr)(v:Value)(n:Nat)(dd:Option Addr)(sl:Array (Option Value))(u:Tok):
    Meets (Builtin.«tuple.__mul__» ⟨[.ref l,.int 0 u],[]⟩) (fun _ R s=>s.heap.get? l=some { cls:=.type "tuple",dict:=dd,data:=.seq #[v] n,slots:=sl }/\R (.ok (.ret (Value.ref s.heap.objs.size))) { s with heap:=s.heap.push { cls:=Value.type "tuple",data:=Data.seq #[] },toks:=s.toks }):=
  .of_wp fun prog w A R s h=>by
    obtain⟨hp,g,d,tk,os⟩:=s; obtain⟨hl,h⟩:=h
    wp_walk
    first | exact⟨_,rfl,h⟩ | (refine wpAny_ite_false (by simp) ?_; wp_walk; refine wpAny_ite_false (by simp) ?_; wp_walk; refine wpAny_ite_true (by simp) ?_; wp_walk; exact⟨_,rfl,h⟩)
theorem Uo:fillsNumberSlot (.type "tuple") "mul" = pure false:=
  PySem.fillsNumberSlot_seq (id := "tuple.__mul__") (r:=some (.builtin "tuple.__rmul__")) F.slot_tuple_mul.lookup (by decide +kernel) F.slot_tuple_rmul.lookup (by decide +kernel)
theorem kX:seqRepeat? (.type "tuple")=pure (some (.builtin "tuple.__mul__")):=by
  unfold seqRepeat?
  rw[PySem.seqSlot_of (T := "tuple") (name := "__mul__") (id := "tuple.__mul__") F.slot_tuple_mul.lookup (by decide +kernel),PySem.seqSlot_of (T := "tuple") (name := "__rmul__") (id := "tuple.__rmul__") F.slot_tuple_rmul.lookup (by decide +kernel)]
  rfl
theorem gV(a:Int)(t:Tok)(l:Addr)(items:Array Value)(n:Nat)(dd:Option Addr)(sl:Array (Option Value)):
    Meets (Builtin.«int.__rmul__» ⟨[.int a t,.ref l],[]⟩) (fun _ R s=>s.heap.get? l=some { cls:=.type "tuple",dict:=dd,data:=.seq items n,slots:=sl }/\R (.ok (.ret Value.notImplemented)) s):=
  .of_wp fun prog w A R s h=>by obtain⟨hp,g,d,tk,os⟩:=s; obtain⟨hl,h⟩:=h; wp_walk; exact⟨_,rfl,h⟩
section
variable {X:Cx} {K:Fr}
noncomputable def WA(K:Fr):R2:=fun x y H Q=>∃l k z,x=.ref l/\y=.int k/\Ju K H l [z]/\0<=k/\k<=1000/\(k=1->Q (.ref l) H)/\(k≠1->∀p,H p=none->Q (.ref p) (upd H p (.tup (List.replicate k.toNat z))))
theorem kY{z:V}{v:Value}(r:jl z v):∀n:Nat,jd (List.replicate n z) (List.replicate n v)
  | 0=>.nil
  | n + 1=>by rw[List.replicate_succ,List.replicate_succ]; exact .cons r (kY r n)
theorem Aw:jH X (binaryOp .Mult) (WA X.K):=by
  intro pins s σ H x y v u Q I rx ry h
  obtain⟨l,k,z,rfl,rfl,hq,h1,h2,q1,q2⟩:=h
  cases rx
  obtain⟨t,rfl⟩:=ry
  obtain⟨its,r,⟨⟨cls,dd,data,sl⟩,ho,hc,n,hd⟩,hz⟩:=I.tuple hq
  simp only at hc hd
  subst hc hd
  obtain⟨w,rfl,rw'⟩:∃w,its=[w]/\jl z w:=by
    cases r with
    | cons a b=>cases b; exact⟨_,rfl,a⟩
  refine wpAny_binaryOp_repeat_ref (T := "tuple") (U := "int") (by decide) ⟨_,ho,rfl⟩ (fun s'=>typeIs_int s' k t) Uo F.fills_int_mul F.slot_int_rmul kX F.slot_int_index.lookup
    (call_meets F.slot_int_rmul (typeIs_int s k t) F.entry_int_rmul (F.args_int_rmul_2 _ _) (gV k t l _ n dd sl) ⟨ho,rfl,⟨_,ho,rfl⟩,?_⟩)
  by_cases e1:k=1
  · subst e1
    exact call_meets F.slot_tuple_mul ⟨_,ho,rfl⟩ F.entry_tuple_mul (F.args_tuple_mul_2 _ _) (G_ l w n dd sl t) ⟨ho,.ref l,H,I,rfl,q1 rfl⟩
  · by_cases e0:k=0
    · subst e0
      refine call_meets F.slot_tuple_mul ⟨_,ho,rfl⟩ F.entry_tuple_mul (F.args_tuple_mul_2 _ _) (gU l w n dd sl t) ⟨ho,.ref s.heap.objs.size,_,I.laid (t':=s.toks) (o:=.tup (List.replicate (0:Int).toNat z)) (fun b ob q=>Heap.get?_push_of_some _ q) (Nat.le_refl _) ?_,rfl,q2 e1 _ (I.hok.fresh (Nat.le_refl _))⟩
      exact⟨Nat.zero_le _,[],.nil,IsTup.new _ _⟩
    · refine call_meets F.slot_tuple_mul ⟨_,ho,rfl⟩ F.entry_tuple_mul (F.args_tuple_mul_2 _ _) (GZ l w n dd sl k t (by omega) h2) ⟨ho,?_⟩
      rw[gc]
      refine⟨.ref s.heap.objs.size,_,I.laid (t':=s.toks) (o:=.tup (List.replicate k.toNat z)) (fun b ob q=>Heap.get?_push_of_some _ q) (Nat.le_refl _) ?_,rfl,q2 e1 _ (I.hok.fresh (Nat.le_refl _))⟩
      exact⟨by rw[List.length_replicate]; exact small (by omega),_,kY rw' _,IsTup.new _ _⟩
@[simp] noncomputable def JV:D->D->Option D
  | .int i,.int j=>XJ (.int i) (.int j)
  | .tup [z],.int k=>if 0<=k/\k<=1000 then some (.tup (List.replicate k.toNat z))else none
  | _,_=>none
theorem kZ{H:Hp}{d:D}{v:V}(h:j7 K H d v):∀n:Nat,j3 K H (List.replicate n d) (List.replicate n v)
  | 0=>j3.nil
  | n + 1=>by rw[List.replicate_succ,List.replicate_succ]; exact j3.cons h (kZ h n)
theorem ck:J5 K (fun x y H Q=>rI Ug (fun i j=>.int (i * j)) x y H Q∨WA K x y H Q) JV:=by
  intro O H a b d x y Q ha hb hn e q
  unfold JV at e
  split at e
  · exact .inl (Dz O H _ _ d x y Q ha hb hn e q)
  · split at e
    · rename_i hk
      cases e
      right
      obtain⟨p,xs,rfl,h1,h2⟩:=ha.tup
      obtain⟨v,rfl,rv⟩:∃v,xs=[v]/\j7 K (jb H O) _ v:=by
        rw[j3]at h2
        obtain⟨v,r,rfl,a1,b1⟩:=h2
        rw[j3]at b1
        subst b1
        exact⟨v,rfl,a1⟩
      refine⟨p,_,v,rfl,hb.int,h1,hk.1,hk.2,fun e1=>?_,fun _ p hp=>q _ _ (jK hp _) (yv (hn p hp) hp (kZ rv _))⟩
      refine q _ H (j4.refl H) ?_
      subst e1
      rcases ha with ha | ⟨_,o,_,z,_⟩
      · exact ha
      · cases o <;> cases z
    · cases e
  · cases e
theorem Ax:jH X (binaryOp .Mult) (fun x y H Q=>rI Ug (fun i j=>.int (i * j)) x y H Q∨WA X.K x y H Q):=bU.or Aw
theorem Ay:jH X (binaryOp .Add) (fun x y H Q=>zV (fun i j=>.int (i + j)) x y H Q∨(fun x y H Q=>Wr X.K x y H Q∨(fun x y H Q=>∃i j,x=.str i/\y=.str j/\i.length + j.length<=sizeLine/\Q (.str (i ++ j)) H) x y H Q) x y H Q):=bS.or (A7.or Wl)
end
end DS
namespace DS
open PySem PySem.Spec PyProof.Rows L2
mutual
noncomputable def Zm:D->D->Option Bool
  | .tup l,.tup m=>(YH l m).bind fun b=>some (b && l.length == m.length)
  | .lst l,.lst m=>if l.length=m.length then YH l m else some false
  | .non,.non=>some true
  | .non,.tup _=>some false
  | .tup _,.non=>some false
  | .int a,.int b=>some (a == b)
  | .bl a,.bl b=>some (a == b)
  | .str a,.str b=>some (a == b)
  | _,_=>none
noncomputable def YH:List D->List D->Option Bool
  | [],_=>some true
  | _ :: _,[]=>some true
  | a :: l,b :: m=>(Zm a b).bind fun x=>(YH l m).bind fun y=>some (x && y)
end
mutual
@[simp] noncomputable def dep:D->Nat
  | .tup l=>Yv l + 1
  | .lst l=>Yv l + 1
  | _=>0
@[simp] noncomputable def Yv:List D->Nat
  | []=>0
  | d :: ds=>max (dep d) (Yv ds)
end
theorem D.ind{P:D->Prop}(h:∀d,(∀l,d=.tup l->∀x∈l,P x)->(∀l,d=.lst l->∀x∈l,P x)->P d)(d:D):P d:=
  h d (fun l e x hx=>D.ind h x) (fun l e x hx=>D.ind h x)
termination_by sizeOf d
decreasing_by
  all_goals (subst e; have:=List.sizeOf_lt_of_mem hx; simp; omega)
theorem Up:∀{l:List D} {d:D},d∈l->dep d<=Yv l
  | e :: l,d,h=>by
    rw[Yv]
    rcases List.mem_cons.mp h with rfl | h
    · exact Nat.le_max_left _ _
    · exact Nat.le_trans (Up h) (Nat.le_max_right _ _)
section
variable {X:Cx} {K:Fr}
open PySem.SeqAt
theorem in1_units{A:Around}:A.in1.units=A.units + 1:=rfl
variable {pins:List (Addr×Obj)} {σ:L2.St} {H:Hp} {s:Shared}
theorem ge(ih:∀d∈l,∀{d':D} {x:V} {r:Bool},j7 K H d x->j7 K H d' x->Zm d d'=some r->r=true):∀{m:List D} {xs:List V} {r:Bool},j3 K H l xs->j3 K H m xs->YH l m=some r->r=true:=by
  induction l with
  | nil=>intro m xs r _ _ e; rw[YH]at e; cases e; rfl
  | cons a l il=>
    intro m xs r h1 h2 e
    cases m with
    | nil=>rw[YH]at e; cases e; rfl
    | cons b m=>
      rw[YH]at e
      obtain⟨x,e1,e⟩:=bind_some e
      obtain⟨y,e2,e⟩:=bind_some e
      cases e
      rw[j3]at h1 h2
      obtain⟨v,t,rfl,a1,b1⟩:=h1
      obtain⟨v',t',e',a2,b2⟩:=h2
      cases e'
      rw[ih a List.mem_cons_self a1 a2 e1,il (fun d hd=>ih d (List.mem_cons_of_mem _ hd)) b1 b2 e2]
      rfl
theorem GB(I:Inv X pins σ H s)(d:D):∀{d':D} {x:V} {r:Bool},j7 X.K H d x->j7 X.K H d' x->Zm d d'=some r->r=true:=by
  induction d using D.ind with
  | h d i1 i2=>
    intro d' x r h1 h2 e
    unfold Zm at e
    split at e
    · obtain⟨b,e1,e2⟩:=bind_some e
      cases e2
      rw[j7]at h1 h2
      obtain⟨a,xs,rfl,qa,ra⟩:=h1
      obtain⟨b',ys,e',qb,rb⟩:=h2
      cases e'
      have exy:=I.tuple_inj qa qb
      subst exy
      rw[ge (fun d hd=>i1 _ rfl d hd) ra rb e1,<-ra.len,<-rb.len,beq_self_eq_true]
      rfl
    · rw[j7]at h1 h2
      obtain⟨a,xs,rfl,qa,ra⟩:=h1
      obtain⟨b',ys,e',qb,rb⟩:=h2
      cases e'
      rw[qa]at qb
      cases qb
      rw[if_pos (by rw[<-ra.len,<-rb.len])]at e
      exact ge (fun d hd=>i2 _ rfl d hd) ra rb e
    · cases e; rfl
    · rw[j7]at h1
      rw[j7]at h2
      obtain⟨b',ys,e',qb,rb⟩:=h2
      rw[h1]at e'; cases e'
    · rw[j7]at h1
      rw[j7]at h2
      obtain⟨b',ys,e',qb,rb⟩:=h1
      rw[h2]at e'; cases e'
    · cases e; rw[j7]at h1 h2; rw[h1]at h2; cases h2; simp
    · cases e; rw[j7]at h1 h2; rw[h1]at h2; cases h2; simp
    · cases e; rw[j7]at h1 h2; rw[h1]at h2; cases h2; simp
    · cases e
theorem kh{l:List D}(ih:∀d∈l,∀{d':D} {x y:V} {u v:Value} {A:Around} {r:Bool},Zm d d'=some r->j7 K H d x->j7 K H d' y->jl x u->jl y v->A.units + dep d < cLine->EqAt A s u v r):∀{m:List D} {xs ys:List V} {us vs:List Value} {A:Around} {r:Bool},YH l m=some r->j3 K H l xs->j3 K H m ys->jd xs us->jd ys vs->A.units + Yv l < cLine->
    ∃e:Nat->Bool,(∀(j:Nat) (h1:j < us.length) (h2:j < vs.length),EqAt A s us[j] vs[j] (e j))/\(List.range (min l.length m.length)).all e=r:=by
  induction l with
  | nil=>
    intro m xs ys us vs A r e h1 h2 v1 v2 hu
    rw[YH]at e; cases e
    rw[j3]at h1
    subst h1
    cases v1
    exact⟨fun _=>true,fun j h1 _=>absurd h1 (by simp),by simp⟩
  | cons a l il=>
    intro m xs ys us vs A r e h1 h2 v1 v2 hu
    cases m with
    | nil=>
      rw[YH]at e; cases e
      rw[j3]at h2
      subst h2
      cases v2
      exact⟨fun _=>true,fun j _ h2=>absurd h2 (by simp),by simp⟩
    | cons b m=>
      rw[YH]at e
      obtain⟨x,e1,e⟩:=bind_some e
      obtain⟨y,e2,e⟩:=bind_some e
      cases e
      rw[j3]at h1 h2
      obtain⟨v,t,rfl,a1,b1⟩:=h1
      obtain⟨v',t',rfl,a2,b2⟩:=h2
      rw[Yv]at hu
      cases v1 with
      | cons r1 rr1=>
        cases v2 with
        | cons r2 rr2=>
          obtain⟨e',q1,q2⟩:=il (fun d hd=>ih d (List.mem_cons_of_mem _ hd)) e2 b1 b2 rr1 rr2 (A:=A) (by omega)
          refine⟨fun j=>match j with | 0=>x | j + 1=>e' j,fun j h1 h2=>?_,?_⟩
          · cases j with
            | zero=>exact ih a List.mem_cons_self e1 a1 a2 r1 r2 (by omega)
            | succ j=>exact q1 j (by simpa using h1) (by simpa using h2)
          · rw[List.length_cons,List.length_cons,Nat.succ_min_succ,List.range_succ_eq_map,List.all_cons,List.all_map]
            rw[<-q2]
            rfl
theorem cn(I:Inv X pins σ H s)(d:D):∀{d':D} {x y:V} {u v:Value} {A:Around} {r:Bool},Zm d d'=some r->j7 X.K H d x->j7 X.K H d' y->jl x u->jl y v->A.units + dep d < cLine->EqAt A s u v r:=by
  induction d using D.ind with
  | h d i1 i2=>
    intro d' x y u v A r e hx hy rx ry hu
    have e0:=e
    unfold Zm at e
    split at e
    · obtain⟨b,e1,e2⟩:=bind_some e
      cases e2
      have hx0:=hx
      have hy0:=hy
      rw[j7]at hx hy
      obtain⟨a,xs,rfl,qa,ra⟩:=hx
      obtain⟨b',ys,rfl,qb,rb⟩:=hy
      cases rx
      cases ry
      rw[dep]at hu
      by_cases hab:a=b'
      · subst hab
        have:=GB I _ hx0 hy0 e0
        rw[this]
        exact EqAt.same _
      · obtain⟨ia,va,pa,_⟩:=I.tuple qa
        obtain⟨ib,vb,pb,_⟩:=I.tuple qb
        have la:=(List.size_toArray (as:=ia)).trans (va.length.symm.trans ra.len)
        have lb:=(List.size_toArray (as:=ib)).trans (vb.length.symm.trans rb.len)
        obtain⟨e',h1,h2⟩:=kh (fun d hd=>i1 _ rfl d hd) e1 ra rb va vb (A:=A.in1) (by rw[in1_units]; omega)
        have key:=RcAt.tuples (A:=A) (s:=s) (l:=a) (b:=b') (items:=ia.toArray) (items2:=ib.toArray) (e:=e') pa pb (by omega) (fun j h1' h2'=>by simpa using h1 j (by simpa using h1') (by simpa using h2'))
        rw[la,lb,h2]at key
        exact EqAt.of_refs hab key
    · have hx0:=hx
      have hy0:=hy
      rw[j7]at hx hy
      obtain⟨a,xs,rfl,qa,ra⟩:=hx
      obtain⟨b',ys,rfl,qb,rb⟩:=hy
      cases rx
      cases ry
      rw[dep]at hu
      by_cases hab:a=b'
      · subst hab
        have:=GB I _ hx0 hy0 e0
        rw[this]
        exact EqAt.same _
      · obtain⟨ia,va,pa,_⟩:=I.list (jy.of qa)
        obtain⟨ib,vb,pb,_⟩:=I.list (jy.of qb)
        have la:=(List.size_toArray (as:=ia)).trans (va.length.symm.trans ra.len)
        have lb:=(List.size_toArray (as:=ib)).trans (vb.length.symm.trans rb.len)
        split at e
        · rename_i ell
          obtain⟨e',h1,h2⟩:=kh (fun d hd=>i2 _ rfl d hd) e ra rb va vb (A:=A.in1) (by rw[in1_units]; omega)
          have key:=RcAt.lists (A:=A) (s:=s) (l:=a) (b:=b') (items:=ia.toArray) (items2:=ib.toArray) (e:=e') pa.isList pb.isList (by rw[la,lb,ell]) (by omega) (fun j h1' h2'=>by simpa using h1 j (by simpa using h1') (by simpa using h2'))
          rw[la]at key
          rw[<-ell,Nat.min_self]at h2
          rw[h2]at key
          exact EqAt.of_refs hab key
        · rename_i ell
          cases e
          exact EqAt.of_refs hab (RcAt.lists_lengths pa.isList pb.isList (by rw[la,lb]; simpa using ell) (by omega))
    · cases e
      rw[j7]at hx hy; subst hx hy; cases rx; cases ry
      exact EqAt.same _
    · cases e
      rw[j7]at hx
      rw[j7]at hy
      subst hx; cases rx
      obtain⟨b',ys,rfl,qb,rb⟩:=hy
      cases ry
      obtain⟨ib,vb,pb,_⟩:=I.tuple qb
      exact EqAt.none_tuple pb (by omega)
    · cases e
      rw[j7]at hx
      rw[j7]at hy
      subst hy; cases ry
      obtain⟨b',ys,rfl,qb,rb⟩:=hx
      cases rx
      obtain⟨ib,vb,pb,_⟩:=I.tuple qb
      exact EqAt.tuple_none pb (by omega)
    · cases e
      rw[j7]at hx hy; subst hx hy
      obtain⟨t,rfl⟩:=rx
      obtain⟨t',rfl⟩:=ry
      exact EqAt.int_int _ _ _ _
    · cases e
      rw[j7]at hx hy; subst hx hy; cases rx; cases ry
      exact EqAt.bool_bool _ _
    · cases e
      rw[j7]at hx hy; subst hx hy
      obtain⟨t,rfl⟩:=rx
      obtain⟨t',rfl⟩:=ry
      exact EqAt.str_str _ _ _ _
    · cases e
@[simp] noncomputable def VU:D->D->Bool
  | .lst _,.lst _=>true
  | .tup _,.tup _=>true
  | _,_=>false
noncomputable def Uq(K:Fr)(neg:Bool):R2:=fun x y H Q=>∃d d' r,j7 K H d x/\j7 K H d' y/\VU d d'=true/\Zm d d'=some r/\dep d<=20/\Q (.bl (if neg then !r else r)) H
theorem cq(I:Inv X pins σ H s){d d':D}{x y:V}{u v:Value}{A:Around}{r:Bool}(e:Zm d d'=some r)(q:VU d d'=true)(hx:j7 X.K H d x)(hy:j7 X.K H d' y)(rx:jl x u)(ry:jl y v)(hu:A.units + dep d < cLine):RcAt A s u v r/\RcNeAt A s u v (!r):=by
  unfold VU at q
  split at q
  · rw[j7]at hx hy
    obtain⟨a,xs,rfl,qa,ra⟩:=hx
    obtain⟨b',ys,rfl,qb,rb⟩:=hy
    cases rx
    cases ry
    rw[dep]at hu
    rw[Zm]at e
    obtain⟨ia,va,pa,_⟩:=I.list (jy.of qa)
    obtain⟨ib,vb,pb,_⟩:=I.list (jy.of qb)
    have la:=(List.size_toArray (as:=ia)).trans (va.length.symm.trans ra.len)
    have lb:=(List.size_toArray (as:=ib)).trans (vb.length.symm.trans rb.len)
    split at e
    · rename_i ell
      obtain⟨e',h1,h2⟩:=kh (fun d _=>cn I d) e ra rb va vb (A:=A.in1) (by rw[in1_units]; omega)
      have key:=RcAt.lists (A:=A) (s:=s) (l:=a) (b:=b') (items:=ia.toArray) (items2:=ib.toArray) (e:=e') pa.isList pb.isList (by rw[la,lb,ell]) (by omega) (fun j h1' h2'=>by simpa using h1 j (by simpa using h1') (by simpa using h2'))
      have key2:=RcNeAt.lists (A:=A) (s:=s) (l:=a) (b:=b') (items:=ia.toArray) (items2:=ib.toArray) (e:=e') pa.isList pb.isList (by rw[la,lb,ell]) (by omega) (fun j h1' h2'=>by simpa using h1 j (by simpa using h1') (by simpa using h2'))
      rw[la]at key key2
      rw[<-ell,Nat.min_self]at h2
      rw[h2]at key key2
      exact⟨key,key2⟩
    · rename_i ell
      cases e
      exact⟨RcAt.lists_lengths pa.isList pb.isList (by rw[la,lb]; simpa using ell) (by omega),RcNeAt.lists_lengths pa.isList pb.isList (by rw[la,lb]; simpa using ell) (by omega)⟩
  · rw[j7]at hx hy
    obtain⟨a,xs,rfl,qa,ra⟩:=hx
    obtain⟨b',ys,rfl,qb,rb⟩:=hy
    cases rx
    cases ry
    rw[dep]at hu
    rw[Zm]at e
    obtain⟨b,e1,e2⟩:=bind_some e
    cases e2
    obtain⟨ia,va,pa,_⟩:=I.tuple qa
    obtain⟨ib,vb,pb,_⟩:=I.tuple qb
    have la:=(List.size_toArray (as:=ia)).trans (va.length.symm.trans ra.len)
    have lb:=(List.size_toArray (as:=ib)).trans (vb.length.symm.trans rb.len)
    obtain⟨e',h1,h2⟩:=kh (fun d _=>cn I d) e1 ra rb va vb (A:=A.in1) (by rw[in1_units]; omega)
    have key:=RcAt.tuples (A:=A) (s:=s) (l:=a) (b:=b') (items:=ia.toArray) (items2:=ib.toArray) (e:=e') pa pb (by omega) (fun j h1' h2'=>by simpa using h1 j (by simpa using h1') (by simpa using h2'))
    have key2:=RcNeAt.tuples (A:=A) (s:=s) (l:=a) (b:=b') (items:=ia.toArray) (items2:=ib.toArray) (e:=e') pa pb (by omega) (fun j h1' h2'=>by simpa using h1 j (by simpa using h1') (by simpa using h2'))
    rw[la,lb,h2]at key key2
    exact⟨key,key2⟩
  · cases q
theorem cr{k:Nat}(hr:Room k X.A):jH X (compareOp .Eq) (Uq X.K false):=by
  intro pins s σ H x y v u Q I rx ry h
  obtain⟨d,d',r,hx,hy,q,e,hd,qq⟩:=h
  have hu:=hr.units
  exact(cq (A:=X.A) I e q hx hy rx ry (by omega)).1 X.prog X.w X.xe _ ⟨.bl r,H,I,rfl,qq⟩
theorem cu{k:Nat}(hr:Room k X.A):jH X (compareOp .NotEq) (Uq X.K true):=by
  intro pins s σ H x y v u Q I rx ry h
  obtain⟨d,d',r,hx,hy,q,e,hd,qq⟩:=h
  have hu:=hr.units
  exact(cq (A:=X.A) I e q hx hy rx ry (by omega)).2 X.prog X.w X.xe _ ⟨.bl (!r),H,I,rfl,qq⟩
@[simp] noncomputable def gW(neg:Bool):D->D->Option D:=fun a b=>if VU a b=true/\dep a<=20 then(Zm a b).bind fun r=>some (.bl (if neg then !r else r))else none
theorem X_{neg:Bool}:J5 K (Uq K neg) (gW neg):=by
  intro O H a b d x y Q ha hb hn e q
  unfold gW at e
  split at e
  · rename_i hh
    obtain⟨r,e1,e2⟩:=bind_some e
    cases e2
    exact⟨a,b,r,ha.full,hb.full,hh.1,e1,hh.2,q _ H (j4.refl H) (by rw[j7])⟩
  · cases e
@[simp] noncomputable def jR(a b:D):Option D:=if VU a b=true then gW false a b else kO a b
@[simp] noncomputable def Jk(a b:D):Option D:=if VU a b=true then gW true a b else xz a b
theorem fN:J5 K (fun x y H Q=>Xr x y H Q∨Uq K false x y H Q) jR:=by
  intro O H a b d x y Q ha hb hn e q
  unfold jR at e
  split at e
  · exact .inr (X_ O H a b d x y Q ha hb hn e q)
  · exact .inl (DH O H a b d x y Q ha hb hn e q)
theorem fO:J5 K (fun x y H Q=>Xs x y H Q∨Uq K true x y H Q) Jk:=by
  intro O H a b d x y Q ha hb hn e q
  unfold Jk at e
  split at e
  · exact .inr (X_ O H a b d x y Q ha hb hn e q)
  · exact .inl (DJ O H a b d x y Q ha hb hn e q)
theorem cw{k:Nat}(hr:Room k X.A):jH X (compareOp .Eq) (fun x y H Q=>Xr x y H Q∨Uq X.K false x y H Q):=Db.or (cr hr)
theorem cx{k:Nat}(hr:Room k X.A):jH X (compareOp .NotEq) (fun x y H Q=>Xs x y H Q∨Uq X.K true x y H Q):=Dc.or (cu hr)
@[simp] noncomputable def ab:D->Option V
  | .non=>some .non
  | .bl b=>some (.bl b)
  | .int i=>some (.int i)
  | .str s=>some (.str s)
  | _=>none
@[simp] noncomputable def gX:List D->Option (List V)
  | []=>some []
  | d :: ds=>(ab d).bind fun v=>(gX ds).bind fun vs=>some (v :: vs)
theorem qU{H:Hp}{d:D}{v w:V}(e:ab d=some v)(h:j7 K H d w):w=v/\zc v=true:=by
  unfold ab at e
  split at e <;> first | (cases e; rw[j7]at h; exact⟨h,rfl⟩) | cases e
theorem gY{H:Hp}:∀{l:List D} {vs xs:List V},gX l=some vs->j3 K H l xs->xs=vs/\vs.all zc=true
  | [],vs,xs,e,h=>by cases e; rw[j3]at h; exact⟨h,rfl⟩
  | d :: l,vs,xs,e,h=>by
    rw[gX]at e
    obtain⟨v,e1,e⟩:=bind_some e
    obtain⟨r,e2,e⟩:=bind_some e
    cases e
    rw[j3]at h
    obtain⟨w,t,rfl,a,b⟩:=h
    obtain⟨h1,h2⟩:=qU e1 a
    obtain⟨h3,h4⟩:=gY e2 b
    exact⟨by rw[h1,h3],by rw[List.all_cons,h2,h4]; rfl⟩
@[simp] noncomputable def VV(neg:Bool):D->D->Option D:=fun a b=>(ab a).bind fun v=>(ye b).bind fun l=>(gX l).bind fun vs=>some (.bl (if neg then !wI v vs else wI v vs))
theorem cy{neg:Bool}:J5 K (Bj K neg) (VV neg):=by
  intro O H a b d x y Q ha hb hn e q
  unfold VV at e
  obtain⟨v,e1,e⟩:=bind_some e
  obtain⟨l,e2,e⟩:=bind_some e
  obtain⟨vs,e3,e⟩:=bind_some e
  cases e
  obtain⟨h1,h2⟩:=qU e1 ha.full
  subst h1
  unfold ye at e2
  split at e2
  · cases e2
    obtain⟨p,xs,rfl,g1,g2⟩:=hb.lst
    obtain⟨h3,h4⟩:=gY e3 g2
    subst h3
    exact⟨p,xs,rfl,.inl (jy.of g1),h2,h4,q _ H (j4.refl H) (by rw[j7])⟩
  · cases e2
    obtain⟨p,xs,rfl,g1,g2⟩:=hb.tup
    obtain⟨h3,h4⟩:=gY e3 g2
    subst h3
    exact⟨p,xs,rfl,.inr g1,h2,h4,q _ H (j4.refl H) (by rw[j7])⟩
  · cases e2
@[simp] noncomputable def ad:D->Option Kd
  | .int _=>some .i
  | .bl _=>some .b
  | .str _=>some .s
  | .lst _=>some .l
  | .tup _=>some .t
  | _=>none
theorem ae{O:List Addr}{d:D}{v:V}{k:Kd}(e:ad d=some k)(h:RB K O H d v):xu K H v k:=by
  unfold ad at e
  split at e
  · cases e; rw[h.int]; trivial
  · cases e; rw[h.bl]; trivial
  · cases e; rw[h.str]; trivial
  · cases e
    obtain⟨p,xs,rfl,g1,g2⟩:=h.lst
    exact⟨xs,jy.of g1⟩
  · cases e
    obtain⟨p,xs,rfl,g1,g2⟩:=h.tup
    exact⟨xs,g1⟩
  · cases e
variable {e:Expr} {de:DE} {pos p p1 p2 tp:Pos}
@[simp] noncomputable def zF(T:String):D->Option D:=fun d=>(ad d).bind fun k=>(Vl k T).bind fun b=>some (.bl b)
theorem eN{T:String}{e2:Expr}(h:PE X (.Call (.Name "isinstance" p) [e,e2] [] pos) (qz (Bs X.K) (uB (tR K de) (uB (tC (.ty T)) gK))))(hK:X.K=K:=by rfl):PE X (.Call (.Name "isinstance" p) [e,e2] [] pos) (tE K (d1 (zF T) de)):=jz h fun σ H Q ⟨H0,O0,ρ,O,d,R,ed,q⟩=>by
  subst hK
  obtain⟨x,e1,e2⟩:=bind_some ed
  obtain⟨k,e3,e2⟩:=bind_some e2
  obtain⟨b,e4,e2⟩:=bind_some e2
  cases e2
  exact⟨H0,O0,ρ,O,x,R,e1,fun v H' s r=>⟨v,T,k,b,rfl,ae e3 r,e4,q _ H' s (by rw[j7])⟩⟩
@[simp] noncomputable def WB:D->Option D:=fun d=>(ad d).bind fun k=>some (.bl (vT k))
theorem cz{ex:Expr}(h:PE X ex (XD X.K (tR K de)))(hK:X.K=K:=by rfl):PE X ex (tE K (d1 WB de)):=jz h fun σ H Q ⟨H0,O0,ρ,O,d,R,ed,q⟩=>by
  subst hK
  obtain⟨x,e1,e2⟩:=bind_some ed
  obtain⟨k,e3,e2⟩:=bind_some e2
  cases e2
  exact⟨H0,O0,ρ,O,x,R,e1,fun v H' s r=>⟨k,ae e3 r,fun p hp=>q _ _ (s.trans (jK hp _)) (by rw[j7])⟩⟩
end
end DS
namespace DS
open PySem PySem.Spec PyProof.Rows L2
@[simp] noncomputable def zd(f:Str)(d:D):List Str->List D->List Str×List D
  | g :: ns,x :: xs=>if g=f then(g :: ns,d :: xs)else((g :: (zd f d ns xs).1),x :: (zd f d ns xs).2)
  | _,_=>([f],[d])
section
variable {X:Cx} {K:Fr}
theorem k_{H:Hp}{f:Str}{d:D}{v:V}(r:j7 K H d v):∀{ns:List Str} {ds:List D} {vs:List V},ns.length=vs.length->j3 K H ds vs->∃vs',yw f v (ns.zip vs)=(zd f d ns ds).1.zip vs'/\(zd f d ns ds).1.length=vs'.length/\j3 K H (zd f d ns ds).2 vs'
  | [],ds,vs,h,rp=>by
    have e:vs=[]:=List.length_eq_zero_iff.mp h.symm
    subst e
    have e:ds=[]:=by have:=rp.len; exact List.length_eq_zero_iff.mp this.symm
    subst e
    exact⟨[v],rfl,rfl,j3.cons r j3.nil⟩
  | g :: ns,[],vs,h,rp=>by rw[j3]at rp; subst rp; cases h
  | g :: ns,x :: ds,vs,h,rp=>by
    rw[j3]at rp
    obtain⟨w,t,rfl,a,b⟩:=rp
    rw[zd]
    by_cases e:g=f
    · rw[if_pos e]
      refine⟨v :: t,?_,by simpa using h,j3.cons r b⟩
      show(if g=f then(g,v) :: ns.zip t else _)=_
      rw[if_pos e]
      rfl
    · rw[if_neg e]
      obtain⟨vs',q1,q2,q3⟩:=k_ (f:=f) r (ns:=ns) (ds:=ds) (vs:=t) (by simpa using h) b
      refine⟨w :: vs',?_,by simpa using q2,j3.cons a q3⟩
      show(if g=f then _ else(g,w) :: yw f v (ns.zip t))=_
      rw[if_neg e,q1]
      rfl
variable {e o:Expr} {de:DE} {pos pos':Pos} {st:Stmt}
noncomputable def Z3(i:Nat)(C:Addr)(f:Str)(de:DE):DS:=fun ρ=>match ρ[i]? with
  | some (.ow q (.ins C' ns ds))=>if C'=C/\ns.length < 1000 then(de ρ).bind fun d=>some (.nx (ρ.set i (.ow q (.ins C' (zd f d ns ds).1 (zd f d ns ds).2))))else none
  | _=>none
@[simp] theorem Fz(i:Nat)(C:Addr)(f:Str)(de:DE){ρ:j9}:Z3 i C f de ρ=match ρ[i]? with
  | some (.ow q (.ins C' ns ds))=>if C'=C/\ns.length < 1000 then(de ρ).bind fun d=>some (.nx (ρ.set i (.ow q (.ins C' (zd f d ns ds).1 (zd f d ns ds).2))))else none
  | _=>none:=rfl
theorem cD{i:Nat}{C:Addr}{f:Str}(h:PS X st (B4 X.K (Zd i) (tE K de) f))(c:Cls K C)(n:yI K C f)(hK:X.K=K:=by rfl):PS X st (tS K (Z3 i C f de)):=Jj h fun D σ H ⟨H0,O0,ρ,O,r,R,ed,fi⟩=>by
  subst hK
  unfold Z3 at ed
  split at ed
  · rename_i q C' ns ds hi
    split at ed
    · rename_i hh
      obtain⟨rfl,hlen⟩:=hh
      obtain⟨d,e1,e2⟩:=bind_some ed
      cases e2
      obtain⟨l,hq,hs,⟨dx,vs,hl,hn,rp⟩,lo,h0⟩:=R.ow i _ _ hi
      refine⟨H0,O0,ρ,O,d,R,e1,fun v H1 s1 rv=>⟨_,hs,l,_,dx,_,rfl,s1 _ _ hl,c,n,?_,?_⟩⟩
      · rw[List.length_zip,<-hn,Nat.min_self]; exact hlen
      have R':=R.grow s1
      obtain⟨vs',p1,p2,p3⟩:=k_ (f:=f) rv hn (rp.same (jh s1))
      refine fi _ _ O (R'.change hi hq hs lo h0 ⟨dx,vs',by rw[J7,p1],p2,p3⟩) ?_
      rw[YF lo]
      exact jh s1
    · cases ed
  · cases ed
@[simp] noncomputable def zG(ks:List Bool)(ds:List D)(n:Nat):j9:=List.zipWith (fun k d=>if k=true then Sl.cl d else Sl.bo d) ks ds ++ List.replicate n .un
theorem yp.get{O:List Addr}{H:Hp}:∀{ks:List Bool} {ds:List D} {vs:List V} {i:Nat} {d:D},yp K O H ks ds vs->ds[i]?=some d->∃k v,ks[i]?=some k/\vs[i]?=some v/\AK K O H k d v
  | [],[],[],_,_,_,e=>by simp at e
  | k :: _,d :: _,v :: _,0,_,h,e=>by simp at e; subst e; exact⟨k,v,rfl,rfl,h.1⟩
  | k :: _,d :: _,v :: _,i + 1,d',h,e=>by
    obtain⟨k',v',h1,h2,h3⟩:=yp.get (i:=i) h.2 (by simpa using e)
    exact⟨k',v',by simpa using h1,by simpa using h2,h3⟩
  | [],[],_ :: _,_,_,h,_=>h.elim
  | [],_ :: _,_,_,_,h,_=>h.elim
  | _ :: _,[],_,_,_,h,_=>h.elim
  | _ :: _,_ :: _,[],_,_,h,_=>h.elim
theorem YI{O:List Addr}{H:Hp}{ks:List Bool}{ds:List D}{vs:List V}{n i:Nat}{s:Sl}(h:yp K O H ks ds vs)(hs:s≠.un)(e:(zG ks ds n)[i]?=some s):∃k d v,vs[i]?=some v/\AK K O H k d v/\s=(if k=true then Sl.cl d else Sl.bo d):=by
  unfold zG at e
  have hl:=h.len
  by_cases hi:i < ds.length
  · rw[List.getElem?_append_left (by rw[List.length_zipWith]; omega),List.getElem?_zipWith]at e
    have hd:ds[i]?=some ds[i]:=by simp[hi]
    obtain⟨k,v,h1,h2,h3⟩:=h.get hd
    rw[h1,hd]at e
    cases e
    exact⟨k,_,v,h2,h3,rfl⟩
  · rw[List.getElem?_append_right (by rw[List.length_zipWith]; omega),List.getElem?_replicate]at e
    split at e
    · cases e; exact absurd rfl hs
    · cases e
theorem xI{O:List Addr}{H:Hp}{ks:List Bool}{ds:List D}{vs:List V}{n:Nat}(h:yp K O H ks ds vs)(al:∀a∈O,H a≠none):Rel K H O (zG ks ds n) (vs.map some ++ List.replicate n none) H O:=by
  have hl:=h.len
  have at':∀{i:Nat} {v:V},vs[i]?=some v->(vs.map some ++ List.replicate n none)[i]?=some (some v):=fun {i v} e=>by
    have:=(List.getElem?_eq_some_iff.mp e).1
    rw[List.getElem?_append_left (by rw[List.length_map]; exact this),List.getElem?_map,e]
    rfl
  refine⟨?_,fun a h=>h,fun a h=>.inl h,al,al,j4.refl _,?_,?_,?_,?_⟩
  · unfold zG
    rw[List.length_append,List.length_append,List.length_map,List.length_replicate,List.length_replicate,List.length_zipWith]
    omega
  · intro i d e
    obtain⟨k,d',v,h1,h2,h3⟩:=YI h (by intro z; cases z) e
    cases k with
    | true=>cases h3; exact⟨v,at' h1,h2⟩
    | false=>cases h3
  · intro i d e
    obtain⟨k,d',v,h1,h2,h3⟩:=YI h (by intro z; cases z) e
    cases k with
    | true=>cases h3
    | false=>cases h3; exact⟨v,at' h1,h2⟩
  · intro i q o e
    obtain⟨k,d',v,h1,h2,h3⟩:=YI h (by intro z; cases z) e
    cases k <;> cases h3
  · intro i j q q' o o' l e
    obtain⟨k,d',v,h1,h2,h3⟩:=YI h (by intro z; cases z) e
    cases k <;> cases h3
@[simp] noncomputable def J0(ks:List Bool)(n:Nat)(body:DS):List D->Option D:=fun ds=>(body (zG ks ds n)).bind fun r=>match r with
  | .rt d=>some d
  | .rf o=>some o.toD
  | .nx _=>some .non
  | _=>none
@[simp] noncomputable def Vp(ks:List Bool)(n:Nat)(body:DS):List D->Option OD:=fun ds=>(body (zG ks ds n)).bind fun r=>match r with
  | .rf o=>some o
  | _=>none
@[simp] noncomputable def qV(C:Addr)(ks:List Bool)(n:Nat)(body:DS):Addr->List D->Option OD:=fun p ds=>(body (.ow (some p) (.ins C [] []) :: zG ks ds n)).bind fun r=>match r with
  | .nx ρ=>(match (ρ[0]?:Option Sl)with
    | some (Sl.ow q o)=>if q=some p then some o else none
    | _=>none)
  | _=>none
variable {P:Program} {w:World} {mg:Str->Option Value} {base:Heap} {x qual:Str} {f:Addr} {fd:FuncData} {N ps:List Str} {k n:Nat} {ks:List Bool} {body:DS}
theorem fP(F:Fun K x qual st f fd)(S:FnScope N ps (defScope st))(hk:ks.length=ps.length)(hn:N.length - ps.length=n)
    (hb:∀(cdv:Value) (A:Around) (outer:List Env) (s:Shared) (H:Hp) (E:XK),Room k (A.deeper (envOfC qual (defScope st) s.heap.objs.size f cdv))->Je (Ze Yb P w K mg base N qual (defScope st) f cdv A outer s H E).nox (defBody st) (tS K body)):
    FnOk P w K mg base Yb (k + 1) f fd ps (ga K ks (J0 ks n body)):=by
  refine F.ok S (fun vs H Q E h=>?_) fun cdv A outer s H vs Q E hr h=>?_
  · obtain⟨O,ds,d,_,ak,_⟩:=h
    have:=ak.len
    omega
  · obtain⟨O,ds,d,al,ak,e,q⟩:=h
    refine⟨_,hb cdv A outer s H E hr,?_⟩
    obtain⟨r,e1,e2⟩:=bind_some e
    have hl:N.length - vs.length=n:=by have:=ak.len; omega
    unfold L2.Yq
    rw[hl]
    refine⟨H,O,_,O,r,xI ak al,e1,?_⟩
    cases r with
    | rt d'=>cases e2; exact fun v H' s r=>q v H' s r
    | rf o=>
      cases e2
      exact fun l H' s hl ow=>q _ H' s ((ow.same (fun _ z=>z) (yJ fun a h=>List.mem_cons_of_mem _ h)).rep fun u z=>by rw[J3 (fun y=>al l y hl)]; exact z)
    | nx ρ=>cases e2; exact fun σ' H' O' R' _=>q _ H' R'.keep (by rw[j7])
    | bk ρ=>cases e2
    | ct ρ=>cases e2
theorem fQ(F:Fun K x qual st f fd)(S:FnScope N ps (defScope st))(hk:ks.length=ps.length)(hn:N.length - ps.length=n)
    (hb:∀(cdv:Value) (A:Around) (outer:List Env) (s:Shared) (H:Hp) (E:XK),Room k (A.deeper (envOfC qual (defScope st) s.heap.objs.size f cdv))->Je (Ze Yb P w K mg base N qual (defScope st) f cdv A outer s H E).nox (defBody st) (tS K body)):
    FnOk P w K mg base Yb (k + 1) f fd ps (wO K ks (Vp ks n body)):=by
  refine F.ok S (fun vs H Q E h=>?_) fun cdv A outer s H vs Q E hr h=>?_
  · obtain⟨O,ds,d,_,ak,_⟩:=h
    have:=ak.len
    omega
  · obtain⟨O,ds,d,al,ak,e,q⟩:=h
    refine⟨_,hb cdv A outer s H E hr,?_⟩
    obtain⟨r,e1,e2⟩:=bind_some e
    have hl:N.length - vs.length=n:=by have:=ak.len; omega
    unfold L2.Yq
    rw[hl]
    refine⟨H,O,_,O,r,xI ak al,e1,?_⟩
    cases r with
    | rt d'=>cases e2
    | rf o=>cases e2; exact q
    | nx ρ=>cases e2
    | bk ρ=>cases e2
    | ct ρ=>cases e2
theorem fU{C:Addr}(F:Fun K x qual st f fd)(S:FnScope N ps (defScope st))(hk:ks.length + 1=ps.length)(hn:N.length - ps.length=n)
    (hb:∀(cdv:Value) (A:Around) (outer:List Env) (s:Shared) (H:Hp) (E:XK),Room k (A.deeper (envOfC qual (defScope st) s.heap.objs.size f cdv))->Je (Ze Yb P w K mg base N qual (defScope st) f cdv A outer s H E).nox (defBody st) (tS K body)):
    FnOk P w K mg base Yb (k + 1) f fd ps (XV K C ks (qV C ks n body)):=by
  refine F.ok S (fun vs H Q E h=>?_) fun cdv A outer s H vs Q E hr h=>?_
  · obtain⟨O,ds,p,dx,vs',o,rfl,_,_,_,ak,_⟩:=h
    have:=ak.len
    rw[List.length_cons]
    omega
  · obtain⟨O,ds,p,dx,vs',o,rfl,al,hp,hpO,ak,e,q⟩:=h
    refine⟨_,hb cdv A outer s H E hr,?_⟩
    obtain⟨r,e1,e2⟩:=bind_some e
    have hl:N.length - (V.ref p :: vs').length=n:=by have:=ak.len; rw[List.length_cons]; omega
    unfold L2.Yq
    rw[hl]
    have al':∀a∈O,jb H [p] a≠none:=fun a ha=>by
      rw[J3 (by intro z; simp at z; exact hpO (z▸ha))]; exact al a ha
    have R0:=xI (n:=n) ak al'
    have np:jb H [p] p=none:=uC List.mem_cons_self
    have sH:j4 (jb H [p]) H:=yu
    have sd:j4 (jb (jb H [p]) O) (jb H (p :: O)):=fun b u z=>by
      obtain⟨z1,z2⟩:=JI z
      obtain⟨z3,z4⟩:=JI z2
      rw[J3 (by intro y; rcases List.mem_cons.mp y with y | y; exact z3 (by rw[y]; exact List.mem_cons_self); exact z1 y)]
      exact z4
    have R:Rel K (jb H [p]) O (.ow (some p) (.ins C [] []) :: zG ks ds n) (List.map some (V.ref p :: vs') ++ List.replicate n none) H (p :: O):=by
      refine⟨?_,fun a h=>List.mem_cons_of_mem _ h,?_,al',?_,sH,?_,?_,?_,?_⟩
      · have:=R0.len
        rw[List.length_cons,List.map_cons,List.cons_append,List.length_cons,this]
      · intro a ha
        rcases List.mem_cons.mp ha with rfl | ha
        · exact .inr np
        · exact .inl ha
      · intro a ha
        rcases List.mem_cons.mp ha with rfl | ha
        · rw[hp]; exact fun z=>nomatch z
        · exact al a ha
      · intro i d e
        cases i with
        | zero=>cases e
        | succ i=>
          obtain⟨v,h1,h2⟩:=R0.cl i d e
          exact⟨v,h1,h2.same sd⟩
      · intro i d e
        cases i with
        | zero=>cases e
        | succ i=>exact R0.bo i d e
      · intro i q' o' e
        cases i with
        | zero=>
          cases e
          exact⟨p,(fun p' z=>Option.some.inj z),rfl,⟨dx,[],hp,rfl,j3.nil⟩,List.mem_cons_self,np⟩
        | succ i=>
          obtain⟨k',d',v,_,_,h3⟩:=YI ak (by intro z; cases z) e
          cases k' <;> cases h3
      · intro i j q1 q2 o1 o2 l e e'
        have z:∀(i:Nat) (q':Option Addr) (o':OD),(Sl.ow (some p) (.ins C [] []) :: zG ks ds n)[i]?=some (.ow q' o')->i=0:=fun i q' o' e=>by
          cases i with
          | zero=>rfl
          | succ i=>
            obtain⟨k',d',v,_,_,h3⟩:=YI ak (by intro z; cases z) e
            cases k' <;> cases h3
        intro _ _
        rw[z i _ _ e,z j _ _ e']
    refine⟨jb H [p],O,_,p :: O,r,R,e1,?_⟩
    cases r with
    | nx ρ=>
      intro σ' H' O' R' _
      have e2:(match (ρ[0]?:Option Sl)with
        | some (Sl.ow q o)=>if q=some p then some o else none
        | _=>none)=some o:=e2
      split at e2
      · rename_i qq o' h0
        split at e2
        · rename_i hq
          cases e2
          subst hq
          obtain⟨l,hl2,_,ow,lo,_⟩:=R'.ow 0 _ _ h0
          have el:=hl2 p rfl
          subst el
          refine q H' R'.keep (ow.same (fun _ z=>z) (yJ fun a ha=>?_))
          rcases List.mem_cons.mp ha with rfl | ha
          · exact lo
          · exact R'.sub a ha
        · cases e2
      · cases e2
    | rt d'=>cases e2
    | rf o=>cases e2
    | bk ρ=>cases e2
    | ct ρ=>cases e2
end
end DS
namespace L2
open PySem PySem.Spec PyProof.Rows
noncomputable def JW(h:Heap)(d:Addr)(es:Array DictEntry)(ep:Nat):Prop:=∃o,h.get? d=some o/\o.ExactDict/\o.data=.dict es ep
theorem JW.ty{s:Shared}{d:Addr}{es:Array DictEntry}{ep:Nat}(m:JW s.heap d es ep):s.TypeIs (.ref d) "dict" := let ⟨o,g,c,_⟩:=m; ⟨o,g,c.1⟩
theorem JW.at{h h':Heap}{d:Addr}{es:Array DictEntry}{ep:Nat}(m:JW h d es ep)(e:∀o,h.get? d=some o->h'.get? d=some o):JW h' d es ep:=let ⟨o,g,c⟩:=m; ⟨o,e _ g,c⟩
section
variable {prog:Program} {w:World} {A:Around} {E:Value->Shared->Prop} {s:Shared} {d it:Addr} {es:Array DictEntry} {ep i:Nat}
theorem K0{Q:Value->Shared->Prop}(hd:(d == sysModules)=false)(m:JW s.heap d es ep)
    (q:Q (.ref s.heap.objs.size) { s with heap:=s.heap.push { cls:=.type "dict_keyiterator",data:=.fields #[.ref d,.int 0 0,.int es.size 0,.int ep 0] } }):wpAny (model prog w) A (pyIter (.ref d)) Q E s:=by
  have ty:=m.ty
  obtain⟨o,g,c,dt⟩:=m
  refine wpAny_pyIter_slot ty F.slot_dict_iter (wpAny_call_entry F.slot_dict_iter ty F.entry_dict_iter (wpAny_bind (wpAny_bind (wpAny_notOrdered_dict ty ?_))) (F.args_dict_iter_1 _))
  refine(show wpAny _ _ (pure (Value.ref d)) _ _ s from wpAny_pure (show wpAny _ _ (Builtin.Dict.showsAll d >>= _) _ _ s from ?_))
  unfold Builtin.Dict.showsAll
  rw[if_neg (by rw[hd]; decide)]
  refine wpAny_bind (wpAny_pure (wpAny_bind (wpAny_dictEntries g dt (wpAny_bind (wpAny_dictEpoch g dt (wpAny_bind (wpAny_newObj_type (wpAny_pure ⟨_,rfl, "dict_keyiterator",_,⟨_,Heap.get?_push_size _ rfl,rfl⟩,F.slot_dict_keyiterator_next.lookup,?_⟩))))))))
  simpa[rawInt]using q
theorem K3{e:DictEntry}{Q:Option Value->Shared->Prop}(k:s.heap.IsKeyIter it d i es.size ep)(m:JW s.heap d es ep)(x:es[i]?=some e)
    (q:∀h',h'.IsKeyIter it d (i + 1) es.size ep->Heap.SameBut it s.heap h'->Q (some e.key) { s with heap:=h' }):wpAny (model prog w) A (pyNext (.ref it)) Q E s:=by
  have ty:=k.typeIs
  obtain⟨o,g,c,dt⟩:=k
  obtain⟨od,gd,_,dd⟩:=m
  have own:Builtin.Dict_items.ownsTuple "dict_keyiterator" = false:=by decide
  unfold pyNext
  refine wpAny_bind (wpAny_attempt (wpAny_callSpecial?_slot (name:=Str.ofString "__next__") ty F.slot_dict_keyiterator_next (wpAny_call_entry F.slot_dict_keyiterator_next ty F.entry_dict_keyiterator_next (wpAny_bind (wpAny_pure (wpAny_bind (wpAny_bind ?_)))) (F.args_dict_keyiterator_next_1 _))))
  refine wpAny_bind (wpAny_typeNameOfWhole_keyiter ty (wpAny_pure (wpAny_bind (wpAny_fieldsOf g dt ?_))))
  simp only[own,Bool.false_eq_true,if_false]
  refine(show wpAny _ _ (if (Value.ref d == Value.none)=true then _ else _) _ _ s from ?_)
  rw[if_neg (fun z:(Value.ref d == Value.none)=true=>by cases z)]
  refine wpAny_bind (wpAny_pure (wpAny_bind (wpAny_dictEntries gd dd ?_)))
  rw[if_neg (by simp)]
  refine wpAny_bind (wpAny_pure (wpAny_bind (wpAny_dictEpoch gd dd ?_)))
  rw[if_neg (by simp)]
  refine wpAny_pure ?_
  simp only[show¬((i:Int) < 0) by omega,if_false,Int.toNat_natCast,x]
  refine wpAny_bind (wpAny_bind (wpAny_typeNameOfWhole_keyiter ty (wpAny_pure (wpAny_bind (wpAny_isOneOf_keyiter ty ?_)))))
  refine(show wpAny _ _ (setField (.ref it) 1 (rawInt ((i:Int) + 1)) >>= _) _ _ s from wpAny_bind (wpAny_setField g dt (by simp) ?_))
  have k':(s.heap.update it (Obj.mapFields (·.setIfInBounds 1 (rawInt ((i:Int) + 1))))).IsKeyIter it d (i + 1) es.size ep:=
    ⟨_,Heap.get?_update_self _ g (Obj.isFreed_of_fields (Obj.data_mapFields dt _)),(Obj.cls_mapFields ..).trans c,by rw[Obj.data_mapFields dt]; simp[rawInt]⟩
  refine wpAny_bind (wpAny_holding (wpAny_bind (wpAny_isOneOf_keyiter (s:={ s with heap:=s.heap.update it (Obj.mapFields (·.setIfInBounds 1 (rawInt ((i:Int) + 1)))) }) k'.typeIs ?_)))
  exact(show wpAny _ _ (pure e.key) _ _ _ from wpAny_pure (wpAny_pure ⟨_,rfl,wpAny_pure (q _ k' (Heap.SameBut.update ..))⟩))
theorem wP{Q:Option Value->Shared->Prop}(hh:A.handled=none)(k:s.heap.IsKeyIter it d i es.size ep)(m:JW s.heap d es ep)(x:es.size<=i)
    (q:∀h',Heap.ExtBut it s.heap h'->Q none { s with heap:=h' }):wpAny (model prog w) A (pyNext (.ref it)) Q E s:=by
  have ty:=k.typeIs
  obtain⟨o,g,c,dt⟩:=k
  obtain⟨od,gd,_,dd⟩:=m
  have own:Builtin.Dict_items.ownsTuple "dict_keyiterator" = false:=by decide
  unfold pyNext
  refine wpAny_bind (wpAny_attempt (wpAny_callSpecial?_slot (name:=Str.ofString "__next__") ty F.slot_dict_keyiterator_next (wpAny_call_entry F.slot_dict_keyiterator_next ty F.entry_dict_keyiterator_next (wpAny_bind (wpAny_pure (wpAny_bind (wpAny_bind ?_)))) (F.args_dict_keyiterator_next_1 _))))
  refine wpAny_bind (wpAny_typeNameOfWhole_keyiter ty (wpAny_pure (wpAny_bind (wpAny_fieldsOf g dt ?_))))
  simp only[own,Bool.false_eq_true,if_false]
  refine(show wpAny _ _ (if (Value.ref d == Value.none)=true then _ else _) _ _ s from ?_)
  rw[if_neg (fun z:(Value.ref d == Value.none)=true=>by cases z)]
  refine wpAny_bind (wpAny_pure (wpAny_bind (wpAny_dictEntries gd dd ?_)))
  rw[if_neg (by simp)]
  refine wpAny_bind (wpAny_pure (wpAny_bind (wpAny_dictEpoch gd dd ?_)))
  rw[if_neg (by simp)]
  refine wpAny_pure ?_
  simp only[show¬((i:Int) < 0) by omega,if_false,Int.toNat_natCast,Array.getElem?_eq_none x]
  refine wpAny_bind (wpAny_bind (wpAny_typeNameOfWhole_keyiter ty (wpAny_pure ?_)))
  refine(show wpAny _ _ (setField (.ref it) 0 .none >>= _) _ _ s from wpAny_bind (wpAny_setField g dt (by simp) (show wpAny _ _ (newExc (.type "StopIteration") [] >>= _) _ _ _ from wpAny_bind ?_)))
  simp only[newExc,newTuple]
  refine wpAny_bind (wpAny_newObj_type (wpAny_bind (m:=firstArgMember _ _) (wpAny_of_eq (a:=Value.none) (by first | rfl | (simp only[firstArgMember]; rfl)) (wpAny_newObj_type ?_ (by size_fits)))) (by size_fits))
  simp only[raiseNew]
  refine wpAny_bind (wpAny_handled ?_)
  rw[show A.in1.handled=none from hh]
  refine wpAny_bind (wpAny_pure (wpAny_throw (wpAny_bind ?_)))
  exact wpAny_isInstance (T := "StopIteration") (b:=true) ⟨_,Heap.get?_push_size _ rfl,rfl⟩ isSubtype_stop (wpAny_pure (q _ (((Heap.SameBut.update ..).extBut.push _).push _)))
theorem qW{Q:Value->Shared->Prop}(hd:(d == sysModules)=false)(m:JW s.heap d es ep)(q:Q (.ref s.heap.objs.size) { s with heap:=s.heap.push { cls:=.type "dict_items",data:=.fields #[.ref d] } }):
    wpAny (model prog w) A (call (.builtin "dict.items") [.ref d]) Q E s:=by
  have ty:=m.ty
  refine wpAny_call_entry F.slot_dict_items ty F.entry_dict_items (wpAny_bind (wpAny_bind (wpAny_notOrdered_dict ty ?_))) (F.args_dict_items_1 _)
  refine(show wpAny _ _ (pure d) _ _ s from wpAny_pure (show wpAny _ _ (Builtin.Dict.showsAll d >>= _) _ _ s from ?_))
  unfold Builtin.Dict.showsAll
  rw[if_neg (by rw[hd]; decide)]
  exact wpAny_bind (wpAny_pure (wpAny_bind (wpAny_newObj_type (wpAny_pure ⟨_,rfl,q⟩))))
theorem qX{v:Addr}{Q:Value->Shared->Prop}(hv:s.heap.IsItemsView v d)(m:JW s.heap d es ep)
    (q:Q (.ref s.heap.objs.size) { s with heap:=s.heap.push { cls:=.type "dict_itemiterator",data:=.fields #[.none,.bool false,.ref d,.int 0 0,.int es.size 0,.int ep 0,.none,.none] } }):wpAny (model prog w) A (pyIter (.ref v)) Q E s:=by
  have ty:=hv.typeIs
  obtain⟨ov,gv,cv,dv⟩:=hv
  obtain⟨o,g,c,dt⟩:=m
  have own:Builtin.Dict_items.ownsTuple "dict_itemiterator" = true:=by decide
  refine wpAny_pyIter_slot ty F.slot_dict_items_iter (wpAny_call_entry F.slot_dict_items_iter ty F.entry_dict_items_iter (wpAny_bind (wpAny_pure (wpAny_bind ?_))) (F.args_dict_items_iter_1 _))
  refine wpAny_bind (wpAny_field gv dv (x:=.ref d) rfl (wpAny_pure (wpAny_bind (wpAny_bind (wpAny_dictEntries g dt (wpAny_bind (wpAny_dictEpoch g dt ?_)))))))
  simp only[own,if_true]
  refine wpAny_newObj_type (wpAny_pure ⟨_,rfl, "dict_itemiterator",_,⟨_,Heap.get?_push_size _ rfl,rfl⟩,F.slot_dict_itemiterator_next.lookup,?_⟩) ?_
  · simpa[rawInt,Builtin.Dict_items.ownedTupleFields]using q
  · simp only[sizeOk,Builtin.Dict_items.ownedTupleFields,List.size_toArray,List.length_append,List.length_cons,List.length_nil,sizeLine_eq]
    omega
theorem qY{e:DictEntry}{ok ov:Value}{Q:Option Value->Shared->Prop}(k:IsItemIter s.heap it d i es.size ep ok ov)(m:JW s.heap d es ep)(x:es[i]?=some e)
    (q:∀h',IsItemIterOut h' it d (i + 1) es.size ep e.key e.val s.heap.objs.size->h'.get? s.heap.objs.size=some { cls:=.type "tuple",data:=.seq #[e.key,e.val] }->h'.objs.size=s.heap.objs.size + 1->
      (∀b o,b≠it->s.heap.get? b=some o->h'.get? b=some o)->Q (some (.ref s.heap.objs.size)) { s with heap:=h' }):wpAny (model prog w) A (pyNext (.ref it)) Q E s:=by
  obtain⟨hp,gg,dr,tk,os⟩:=s
  have ty:Shared.TypeIs ⟨hp,gg,dr,tk,os⟩ (.ref it) "dict_itemiterator" := ⟨_,k,rfl⟩
  obtain⟨od,gd,_,dd⟩:=m
  have own:Builtin.Dict_items.ownsTuple "dict_itemiterator" = true:=by decide
  unfold pyNext
  refine wpAny_bind (wpAny_attempt (wpAny_callSpecial?_slot (name:=Str.ofString "__next__") ty F.slot_dict_itemiterator_next (wpAny_call_entry F.slot_dict_itemiterator_next ty F.entry_dict_itemiterator_next (wpAny_bind (wpAny_pure (wpAny_bind (wpAny_bind ?_)))) (F.args_dict_itemiterator_next_1 _))))
  refine wpAny_bind (wpAny_typeNameOfWhole_itemiter ty (wpAny_pure (wpAny_bind (wpAny_fieldsOf k rfl ?_))))
  simp only[own,if_true]
  refine(show wpAny _ _ (if (Value.ref d == Value.none)=true then _ else _) _ _ ⟨hp,gg,dr,tk,os⟩ from ?_)
  rw[if_neg (fun z:(Value.ref d == Value.none)=true=>by cases z)]
  refine wpAny_bind (wpAny_pure (wpAny_bind (wpAny_dictEntries gd dd ?_)))
  rw[if_neg (by simp)]
  refine wpAny_bind (wpAny_pure (wpAny_bind (wpAny_dictEpoch gd dd ?_)))
  rw[if_neg (by simp)]
  refine wpAny_pure ?_
  simp only[show¬((i:Int) < 0) by omega,if_false,Int.toNat_natCast,x]
  refine wpAny_bind (wpAny_bind (wpAny_typeNameOfWhole_itemiter ty (wpAny_pure (wpAny_bind (wpAny_isOneOf_itemiter ty ?_)))))
  refine(show wpAny _ _ (setField (.ref it) 3 (rawInt ((i:Int) + 1)) >>= _) _ _ ⟨hp,gg,dr,tk,os⟩ from wpAny_bind (wpAny_setField_rec k (by simp) fun h1 e1 s1=>?_))
  replace s1:Heap.SameBut it hp h1:=s1
  have e1:IsItemIter h1 it d (i + 1) es.size ep ok ov:=by
    have z:((i + 1:Nat):Int)=(i:Int) + 1:=by omega
    unfold IsItemIter
    rw[z]
    simpa[rawInt]using e1
  have ty1:Shared.TypeIs ⟨h1,gg,dr,tk,os⟩ (.ref it) "dict_itemiterator" := ⟨_,e1,rfl⟩
  refine wpAny_bind (wpAny_holding (wpAny_bind (wpAny_isOneOf_itemiter ty1 (wpAny_bind (wpAny_isOneOf_itemiter ty1 ?_)))))
  refine(show wpAny _ _ (Builtin.Dict_items.pairFromOwner (.ref it) 6 e.key e.val) _ _ ⟨h1,gg,dr,tk,os⟩ from ?_)
  unfold Builtin.Dict_items.pairFromOwner
  refine wpAny_bind (wpAny_newTuple ?_)
  have e2:IsItemIter (h1.push { cls:=.type "tuple",data:=.seq #[e.key,e.val] }) it d (i + 1) es.size ep ok ov:=Heap.get?_push_of_some _ e1
  generalize hh2:h1.push { cls:=.type "tuple",data:=.seq #[e.key,e.val] }=h2 at e2
  have z1:h1.objs.size=hp.objs.size:=s1.1
  have lt:it < hp.objs.size:=Heap.lt_size k
  have t2:h2.get? hp.objs.size=some { cls:=.type "tuple",data:=.seq #[e.key,e.val] }:=by rw[<-hh2,<-z1]; exact Heap.get?_push_size _ rfl
  have z2:h2.objs.size=hp.objs.size + 1:=by rw[<-hh2,Heap.size_push,z1]
  have k2:∀b o,b≠it->hp.get? b=some o->h2.get? b=some o:=fun b o hb e=>by rw[<-hh2]; exact Heap.get?_push_of_some _ (s1.extBut b o hb e)
  refine(show wpAny _ _ (Builtin.Dict_items.ownedTupleIsFree (.ref it) >>= _) _ _ ⟨h2,gg,dr,tk,os⟩ from ?_)
  rw[z1]
  clear hh2 s1 ty1 z1
  refine wpAny_bind (wpAny_bind (wpAny_field e2 rfl (x:=.none) rfl (wpAny_pure ?_)))
  simp only[if_true]
  refine wpAny_bind (wpAny_field e2 rfl (x:=ok) rfl (wpAny_bind (wpAny_field e2 rfl (x:=ov) rfl (wpAny_bind (wpAny_setField_rec e2 (by simp) fun h3 e3 s3=>?_)))))
  replace s3:Heap.SameBut it h2 h3:=s3
  replace e3:IsItemIter h3 it d (i + 1) es.size ep e.key ov:=e3
  refine wpAny_bind (wpAny_setField_rec e3 (by simp) fun h4 e4 s4=>?_)
  replace s4:Heap.SameBut it h3 h4:=s4
  replace e4:IsItemIter h4 it d (i + 1) es.size ep e.key e.val:=e4
  refine wpAny_bind (wpAny_setField_rec e4 (by simp) fun h5 e5 s5=>?_)
  replace s5:Heap.SameBut it h4 h5:=s5
  replace e5:IsItemIterOut h5 it d (i + 1) es.size ep e.key e.val hp.objs.size:=e5
  refine wpAny_bind (wpAny_setField_rec e5 (by simp) fun h6 e6 s6=>?_)
  replace s6:Heap.SameBut it h5 h6:=s6
  replace e6:IsItemIterOut h6 it d (i + 1) es.size ep e.key e.val hp.objs.size:=e6
  have kk:∀b o,b≠it->h2.get? b=some o->h6.get? b=some o:=fun b o hb z=>s6.extBut b o hb (s5.extBut b o hb (s4.extBut b o hb (s3.extBut b o hb z)))
  refine wpAny_bind (wpAny_letGo (wpAny_pure (wpAny_pure ⟨_,rfl,wpAny_pure (q h6 e6 (kk _ _ (Nat.ne_of_gt lt) t2) ?_ fun b o hb z=>kk b o hb (k2 b o hb z))⟩)))
  exact(show h6.objs.size=hp.objs.size + 1 by rw[s6.1,s5.1,s4.1,s3.1,z2])
theorem xJ{ok ov:Value}{Q:Option Value->Shared->Prop}(hh:A.handled=none)(k:IsItemIter s.heap it d i es.size ep ok ov)(m:JW s.heap d es ep)(x:es.size<=i)
    (q:∀h',Heap.ExtBut it s.heap h'->Q none { s with heap:=h' }):wpAny (model prog w) A (pyNext (.ref it)) Q E s:=by
  have ty:s.TypeIs (.ref it) "dict_itemiterator" := ⟨_,k,rfl⟩
  obtain⟨od,gd,_,dd⟩:=m
  have own:Builtin.Dict_items.ownsTuple "dict_itemiterator" = true:=by decide
  unfold pyNext
  refine wpAny_bind (wpAny_attempt (wpAny_callSpecial?_slot (name:=Str.ofString "__next__") ty F.slot_dict_itemiterator_next (wpAny_call_entry F.slot_dict_itemiterator_next ty F.entry_dict_itemiterator_next (wpAny_bind (wpAny_pure (wpAny_bind (wpAny_bind ?_)))) (F.args_dict_itemiterator_next_1 _))))
  refine wpAny_bind (wpAny_typeNameOfWhole_itemiter ty (wpAny_pure (wpAny_bind (wpAny_fieldsOf k rfl ?_))))
  simp only[own,if_true]
  refine(show wpAny _ _ (if (Value.ref d == Value.none)=true then _ else _) _ _ s from ?_)
  rw[if_neg (fun z:(Value.ref d == Value.none)=true=>by cases z)]
  refine wpAny_bind (wpAny_pure (wpAny_bind (wpAny_dictEntries gd dd ?_)))
  rw[if_neg (by simp)]
  refine wpAny_bind (wpAny_pure (wpAny_bind (wpAny_dictEpoch gd dd ?_)))
  rw[if_neg (by simp)]
  refine wpAny_pure ?_
  simp only[show¬((i:Int) < 0) by omega,if_false,Int.toNat_natCast,Array.getElem?_eq_none x]
  refine wpAny_bind (wpAny_bind (wpAny_typeNameOfWhole_itemiter ty (wpAny_pure ?_)))
  refine(show wpAny _ _ (setField (.ref it) 2 .none >>= _) _ _ s from wpAny_bind (wpAny_setField k rfl (by simp) (show wpAny _ _ (newExc (.type "StopIteration") [] >>= _) _ _ _ from wpAny_bind ?_)))
  simp only[newExc,newTuple]
  refine wpAny_bind (wpAny_newObj_type (wpAny_bind (m:=firstArgMember _ _) (wpAny_of_eq (a:=Value.none) (by first | rfl | (simp only[firstArgMember]; rfl)) (wpAny_newObj_type ?_ (by size_fits)))) (by size_fits))
  simp only[raiseNew]
  refine wpAny_bind (wpAny_handled ?_)
  rw[show A.in1.handled=none from hh]
  refine wpAny_bind (wpAny_pure (wpAny_throw (wpAny_bind ?_)))
  exact wpAny_isInstance (T := "StopIteration") (b:=true) ⟨_,Heap.get?_push_size _ rfl,rfl⟩ isSubtype_stop (wpAny_pure (q _ (((Heap.SameBut.update ..).extBut.push _).push _)))
end
end L2
namespace L2
open PySem PySem.Spec PyProof.Rows
section
variable {prog:Program} {w:World} {A:Around} {E:Value->Shared->Prop} {s:Shared} {d:Addr} {es:Array DictEntry} {ep:Nat}
theorem xK{Q:Bool->Shared->Prop}(m:JW s.heap d es ep)(q:Q false s):wpAny (model prog w) A (Builtin.List.listLengthHint (.ref d)) Q E s:=by
  have ty:=m.ty
  unfold Builtin.List.listLengthHint
  refine wpAny_bind (wpAny_specialOf ty F.slot_dict_len.lookup ?_)
  generalize nm:("dict.__len__" : String)=id0
  wp_delta
  rw[show splitId id0=some ("dict", "__len__") from by subst nm; decide +kernel]
  subst nm
  refine wpAny_bind (wpAny_isInstance (T := "dict") (b:=true) ty (by rw[isSubtype_type]; kernel_rfl) (wpAny_ite_split (fun z=>absurd z (by decide)) fun _=>?_))
  exact wpAny_ite_split (fun _=>wpAny_bind (wpAny_typeOf ty (wpAny_pure q))) fun z=>absurd (by decide +kernel) z
theorem qZ(hh:A.handled=none)(I:Addr)(hne:d≠I):
    Walks prog w A I [I,d] [I] es.size (fun i v=>∃e,es[i]?=some e/\v=e.key) (fun i h=>h.IsKeyIter I d i es.size ep/\JW h d es ep) where
  sub:=fun b hb=>by simp at hb; simp[hb]
  frame:=fun _ _ _ st hk=>⟨st.1.at fun o e=>hk I (by simp) o e,st.2.at fun o e=>hk d (by simp) o e⟩
  item:=fun i s Q E hi st hQ=>by
    have x:es[i]?=some es[i]:=by simp[hi]
    exact K3 st.1 st.2 x fun h' k' sb=>hQ _ h' s.toks ⟨_,x,rfl⟩ ⟨k',st.2.at fun o e=>sb.extBut _ o hne e⟩ fun b o hb e=>sb.extBut b o (fun z=>hb (by simp[z])) e
  done:=fun s Q E st hQ=>wP hh st.1 st.2 (Nat.le_refl _) fun h' eb=>hQ h' s.toks fun b o hb e=>eb b o (fun z=>hb (by simp[z])) e
  self:=fun _ _ _ _ st hQ=>wpAny_pyIter_keyiter st.1 hQ
theorem xL{Q:Value->Shared->Prop}(hh:A.handled=none)(hd:(d == sysModules)=false)(m:JW s.heap d es ep)(hz:es.size<=2 ^ 24)
    (q:∀h' tk acc c,(∀b o,s.heap.get? b=some o->h'.get? b=some o)->h'.get? s.heap.objs.size=some { cls:=.type "list",data:=.seq acc c }->acc.toList=es.toList.map (·.key)->Q (.ref s.heap.objs.size) { s with heap:=h',toks:=tk }):
    wpAny (model prog w) A (call (.type "list") [.ref d]) Q E s:=by
  have dlt:d < s.heap.objs.size:=by obtain⟨o,g,_⟩:=m; exact Heap.lt_size g
  refine callType_codes (Q₁:=fun obj s₁=>obj=.ref s.heap.objs.size/\s₁={ s with heap:=s.heap.push { cls:=.type "list",data:=.seq #[] } }) F.called_list (F.typeCall_list_1 _) F.entry_list_init (code_list_new _ ⟨rfl,rfl⟩) ?_
  rintro obj s₁ ⟨rfl,rfl⟩
  obtain⟨S,hS⟩:∃S,s.heap.objs.size=S:=⟨_,rfl⟩
  rw[hS]at q dlt⊢
  have g0:(s.heap.push { cls:=.type "list",data:=.seq #[] }).get? S=some { cls:=.type "list",data:=.seq #[] }:=by rw[<-hS]; exact Heap.get?_push_size _ rfl
  have m0:JW (s.heap.push { cls:=.type "list",data:=.seq #[] }) d es ep:=m.at fun o e=>Heap.get?_push_of_some _ e
  have sz0:(s.heap.push { cls:=.type "list",data:=.seq #[] }).objs.size=S + 1:=by rw[Heap.size_push,hS]
  have k0:∀b o,s.heap.get? b=some o->(s.heap.push { cls:=.type "list",data:=.seq #[] }).get? b=some o/\b≠S:=fun b o e=>⟨Heap.get?_push_of_some _ e,Nat.ne_of_lt (by rw[<-hS]; exact Heap.lt_size e)⟩
  generalize s.heap.push { cls:=.type "list",data:=.seq #[] }=h0 at g0 m0 sz0 k0
  refine⟨⟨_,g0,rfl⟩,F.args_list_init_2 _ _,?_⟩
  have hSd:S≠d:=Ne.symm (Nat.ne_of_lt dlt)
  refine(show wpAny _ _ (do let old<-Builtin.List.listItems (.ref S); Builtin.List.listUpdate (.ref S) (fun _=>#[]); letGo old.toList.reverse; Builtin.List.listExtendWith (.ref S) (.ref d) .none) _ _ { s with heap:=h0 } from wpAny_bind (wpAny_bind (wpAny_seqItems g0 rfl (wpAny_pure ?_))))
  refine(show wpAny _ _ (updateSeq S (fun _=>#[]) >>= fun _=>letGo (#[]:Array Value).toList.reverse >>= fun _=>Builtin.List.listExtendWith (.ref S) (.ref d) .none) _ _ { s with heap:=h0 } from wpAny_bind (wpAny_updateSeq g0 rfl (wpAny_bind (wpAny_letGo ?_))))
  have oth:∀(h:Heap) (f:Obj->Obj) b o,b≠S->h.get? b=some o->(h.update S f).get? b=some o:=fun h f b o hb e=>(Heap.get?_update_other _ _ (Ne.symm hb)).trans e
  have g1:=Heap.get?_update_self (Obj.mapSeq (fun _=>(#[]:Array Value))) g0 rfl
  have m1:JW (h0.update S (Obj.mapSeq (fun _=>(#[]:Array Value)))) d es ep:=m0.at fun o e=>oth _ _ _ o (Ne.symm hSd) e
  have sz1:(h0.update S (Obj.mapSeq (fun _=>(#[]:Array Value)))).objs.size=S + 1:=by rw[Heap.size_update,sz0]
  have k1:∀b o,s.heap.get? b=some o->(h0.update S (Obj.mapSeq (fun _=>(#[]:Array Value)))).get? b=some o/\b≠S:=fun b o e=>⟨oth _ _ b o (k0 b o e).2 (k0 b o e).1,(k0 b o e).2⟩
  generalize h0.update S (Obj.mapSeq (fun _=>(#[]:Array Value)))=h1 at g1 m1 sz1 k1
  have W:=(qZ (prog:=prog) (w:=w) (A:=A.in1.in1) (es:=es) (ep:=ep) hh (S + 1) (d:=d) (Nat.ne_of_lt (Nat.lt_succ_of_lt dlt))).toS
  have fin:∀(h:Heap) (c tk:Nat),h.IsKeyIter (S + 1) d 0 es.size ep->JW h d es ep->(∀b o,s.heap.get? b=some o->h.get? b=some o)->h.get? S=some { cls:=.type "list",data:=.seq #[] c }->
      codeAny (model prog w) A.in1 (.builtin "list.extend.loop" ⟨[.ref S,.ref (S + 1),.none],[]⟩) (wants (fun r s₂=>r=Value.none/\Q (.ref S) s₂) E) { s with heap:=h,toks:=tk }:=by
    intro h c tk k mm kk gS
    refine codeAny_extend_loopS W (by rw[sizeLine_eq]; omega) S (by simp; omega) .none es.size 0 _ #[] c rfl (Nat.zero_le _) ⟨k,mm⟩ gS (ItemsOf.nil _) fun s' acc' c' hm hS' hacc=>?_
    rw[Moved.eq_with hm]
    refine⟨rfl,q s'.heap s'.toks acc' c' (fun b o e=>hm.heap b o (fun z=>?_) (kk b o e)) hS' ?_⟩
    · have lt:b < S:=by rw[<-hS]; exact Heap.lt_size e
      simp at z
      rcases z with z | z
      · exact Nat.ne_of_lt lt z
      · exact Nat.ne_of_lt (Nat.lt_succ_of_lt lt) z
    · refine List.ext_getElem? fun j=>?_
      rw[List.getElem?_map]
      by_cases hj:j < acc'.size
      · obtain⟨e,e1,e2⟩:=hacc.2 j acc'[j] (by simp[hj])
        simp[hj,e1,e2]
      · have:=hacc.1
        simp[hj,show¬j < es.size by omega]
  unfold Builtin.List.listExtendWith
  refine wpAny_bind (wpAny_typeOf (s:={ s with heap:=h1 }) (T := "dict") m1.ty ?_)
  have b1:Builtin.List.listSameRef (.ref S) (.ref d)=false:=by simp[Builtin.List.listSameRef,hSd]
  have b2:(Value.type "dict" == Value.type "list")=false:=by decide
  have b3:(Value.type "dict" == Value.type "tuple")=false:=by decide
  simp only[b1,b2,b3,Bool.or_false,Bool.false_eq_true,if_false]
  refine wpAny_bind (K0 hd m1 ?_)
  have m2:JW (h1.push { cls:=.type "dict_keyiterator",data:=.fields #[.ref d,.int 0 0,.int es.size 0,.int ep 0] }) d es ep:=m1.at fun o e=>Heap.get?_push_of_some _ e
  have i2:(h1.push { cls:=.type "dict_keyiterator",data:=.fields #[.ref d,.int 0 0,.int es.size 0,.int ep 0] }).IsKeyIter (S + 1) d 0 es.size ep:=by rw[<-sz1]; exact⟨_,Heap.get?_push_size _ rfl,rfl,rfl⟩
  have g2:=Heap.get?_push_of_some { cls:=.type "dict_keyiterator",data:=.fields #[.ref d,.int 0 0,.int es.size 0,.int ep 0] } g1
  have k2:∀b o,s.heap.get? b=some o->(h1.push { cls:=.type "dict_keyiterator",data:=.fields #[.ref d,.int 0 0,.int es.size 0,.int ep 0] }).get? b=some o/\b≠S:=fun b o e=>⟨Heap.get?_push_of_some _ (k1 b o e).1,(k1 b o e).2⟩
  show wpAny _ _ _ _ _ { s with heap:=h1.push { cls:=.type "dict_keyiterator",data:=.fields #[.ref d,.int 0 0,.int es.size 0,.int ep 0] } }
  rw[show Value.ref h1.objs.size=Value.ref (S + 1) from congrArg _ sz1]
  generalize h1.push { cls:=.type "dict_keyiterator",data:=.fields #[.ref d,.int 0 0,.int es.size 0,.int ep 0] }=h2 at m2 i2 g2 k2
  refine wpAny_bind (wpAny_holding (xK (s:={ s with heap:=h2 }) m2 ?_))
  refine wpAny_ite_split (fun _=>?_) (fun _=>wpAny_pure ⟨plainId_quiet F.plain_extend_loop _,fin _ _ _ i2 m2 (fun b o e=>(k2 b o e).1) g2⟩)
  refine wpAny_bind (wpAny_rule (wpAny_bind (show wpAny _ _ (updateSeq S (·.push .none) >>= fun _=>updateSeq S (·.pop)) _ _ _ from wpAny_bind (wpAny_updateSeq g2 rfl ?_))))
  have g3:=Heap.get?_update_self (Obj.mapSeq (·.push Value.none)) g2 rfl
  refine wpAny_updateSeq (hz:=by seq_fits) g3 rfl ?_
  have g4:=Heap.get?_update_self (Obj.mapSeq (·.pop)) g3 rfl
  have up:∀b o,b≠S->h2.get? b=some o->((h2.update S (Obj.mapSeq (·.push Value.none))).update S (Obj.mapSeq (·.pop))).get? b=some o:=fun b o hb e=>oth _ _ b o hb (oth _ _ b o hb e)
  exact wpAny_pure ⟨plainId_quiet F.plain_extend_loop _,fin _ _ _ (i2.at fun o e=>up _ o (by omega) e) (m2.at fun o e=>up _ o (Ne.symm hSd) e) (fun b o e=>up b o (k2 b o e).2 (k2 b o e).1) g4⟩
end
end L2
namespace DS
open PySem PySem.Spec PyProof.Rows L2
noncomputable def Vq(kvs:List (KD×Addr×V))(k:KD):Option V:=(kvs.find? fun p=>decide (p.1=k)).map (·.2.2)
noncomputable def Zn(kvs:List (KD×Addr×V))(k:KD)(b:Addr)(v:V):List (KD×Addr×V):=if (Vq kvs k).isSome then kvs.map (fun p=>if p.1=k then(p.1,p.2.1,v)else p)else kvs ++ [(k,b,v)]
noncomputable abbrev Y1:List (KD×Addr×V)->List (KD×Addr×Value)->Prop:=Paired fun(p:KD×Addr×V) (q:KD×Addr×Value)=>p.1=q.1/\p.2.1=q.2.1/\jl p.2.2 q.2.2
theorem Y1.at{k:KD}:∀{kvs:List (KD×Addr×V)} {xs:List (KD×Addr×Value)},Y1 kvs xs->(∃v p,Vq kvs k=some v/\atKey xs k=some p/\jl v p.2)∨(Vq kvs k=none/\atKey xs k=none)
  | _,_,.nil=>.inr ⟨rfl,rfl⟩
  | _,_,@Paired.cons _ _ _ p q ps qs ⟨e1,e2,r⟩ t=>by
    unfold Vq atKey
    rw[List.find?_cons,List.find?_cons,e1]
    by_cases h:q.1=k
    · rw[decide_eq_true h]
      exact .inl ⟨_,_,rfl,rfl,r⟩
    · rw[decide_eq_false h]
      exact Y1.at t
theorem Y1.put{k:KD}{b:Addr}{v:V}{u:Value}(rv:jl v u){kvs:List (KD×Addr×V)}{xs:List (KD×Addr×Value)}(h:Y1 kvs xs):Y1 (Zn kvs k b v) (storedH xs k b u):=by
  have mp:∀{kvs:List (KD×Addr×V)} {xs:List (KD×Addr×Value)},Y1 kvs xs->Y1 (kvs.map (fun p=>if p.1=k then(p.1,p.2.1,v)else p)) (xs.map (putAt k u)):=by
    intro kvs xs h
    induction h with
    | nil=>exact .nil
    | @cons p q ps qs r t ih=>
      obtain⟨e1,e2,r⟩:=r
      rw[List.map_cons,List.map_cons]
      refine .cons ?_ ih
      unfold putAt
      rw[e1]
      split
      · exact⟨rfl,e2,rv⟩
      · exact⟨e1,e2,r⟩
  have ap:∀{kvs:List (KD×Addr×V)} {xs:List (KD×Addr×Value)},Y1 kvs xs->Y1 (kvs ++ [(k,b,v)]) (xs ++ [(k,b,u)]):=by
    intro kvs xs h
    induction h with
    | nil=>exact .cons ⟨rfl,rfl,rv⟩ .nil
    | cons r t ih=>exact .cons r ih
  unfold Zn storedH
  rcases h.at (k:=k)with⟨w,p,e1,e2,_⟩ | ⟨e1,e2⟩
  · rw[e1,e2]
    exact mp h
  · rw[e1,e2]
    exact ap h
theorem xM(kvs:List (KD×Addr×V))(k:KD)(b:Addr)(v:V):(Zn kvs k b v).length<=kvs.length + 1:=by
  unfold Zn
  split <;> simp
section
variable {X:Cx} {pins:List (Addr×Obj)} {σ:L2.St} {H:Hp} {s:Shared}
mutual
theorem wQ(I:Inv X pins σ H s):∀{d:D} {k:KD} {v:V} {u:Value},j7 X.K H d v->jl v u->yx d=some k->jC s.heap k u
  | .int i,k,v,u,h,r,e=>by
    rw[yx]at e; cases e
    rw[j7]at h; subst h
    rw[jC]; exact .inl r
  | .bl i,k,v,u,h,r,e=>by
    rw[yx]at e; cases e
    rw[j7]at h; subst h
    rw[jC]; exact .inr ⟨i,r,rfl⟩
  | .str i,k,v,u,h,r,e=>by
    rw[yx]at e; cases e
    rw[j7]at h; subst h
    rw[jC]; exact r
  | .tup l,k,v,u,h,r,e=>by
    rw[yx]at e
    obtain⟨ks,e1,e2⟩:=bind_some e
    cases e2
    rw[j7]at h
    obtain⟨a,xs,rfl,q,rs⟩:=h
    cases r
    obtain⟨its,vs,t,_⟩:=I.tuple q
    rw[jC]
    exact⟨a,its.toArray,rfl,t,by simpa using K4 I rs vs e1⟩
  | .non,k,v,u,h,r,e=>by rw[yx]at e <;> first | cases e | (intros; contradiction)
  | .lst _,k,v,u,h,r,e=>by rw[yx]at e <;> first | cases e | (intros; contradiction)
  | .ins _ _ _,k,v,u,h,r,e=>by rw[yx]at e <;> first | cases e | (intros; contradiction)
  | .scr _,k,v,u,h,r,e=>by rw[yx]at e <;> first | cases e | (intros; contradiction)
  | .dct _ _,k,v,u,h,r,e=>by rw[yx]at e <;> first | cases e | (intros; contradiction)
theorem K4(I:Inv X pins σ H s):∀{l:List D} {ks:List KD} {xs:List V} {us:List Value},j3 X.K H l xs->jd xs us->Yd l=some ks->jM s.heap ks us
  | [],ks,xs,us,h,r,e=>by
    rw[Yd]at e; cases e
    rw[j3]at h; subst h
    cases r
    rw[jM]
  | d :: l,ks,xs,us,h,r,e=>by
    rw[Yd]at e
    obtain⟨k,e1,e⟩:=bind_some e
    obtain⟨ks',e2,e⟩:=bind_some e
    cases e
    rw[j3]at h
    obtain⟨v,vs,rfl,h1,h2⟩:=h
    cases r with
    | cons r1 r2=>
      rw[jM]
      exact⟨_,_,rfl,wQ I h1 r1 e1,K4 I h2 r2 e2⟩
end
theorem GC{d:D}{k:KD}(e:JH d=some k):yx d=some k/\k.dep<=8:=by
  unfold JH at e
  split at e
  · obtain⟨k',e1,e2⟩:=bind_some e
    split at e2
    · cases e2; exact⟨e1,by assumption⟩
    · cases e2
  · cases e
theorem VW(I:Inv X pins σ H s){d:D}{k:KD}{b:Addr}(r:j7 X.K H d (.ref b))(e:JH d=some k):(JG X.prog X.w).is s.heap k b:=⟨wQ I r rfl (GC e).1,(GC e).2⟩
theorem Az(I:Inv X pins σ H s){kvs:List (KD×Addr×V)}{xs:List (KD×Addr×Value)}(pr:Y1 kvs xs):∀{ks:List D},jQ ks=some (kvs.map (·.1))->j3 X.K H ks (kvs.map fun p=>V.ref p.2.1)->∀x∈xs,(JG X.prog X.w).is s.heap x.1 x.2.1:=by
  induction pr with
  | nil=>intro ks _ _ x h; cases h
  | @cons p q ps qs rr t ih=>
    obtain⟨e1,e2,_⟩:=rr
    intro ks e r x hx
    cases ks with
    | nil=>rw[jQ]at e; cases e
    | cons d ks=>
    rw[jQ]at e
    obtain⟨k,e3,e⟩:=bind_some e
    obtain⟨ks',e4,e⟩:=bind_some e
    rw[List.map_cons]at e
    cases e
    rw[List.map_cons,j3]at r
    obtain⟨_,_,ee,r1,r2⟩:=r
    cases ee
    rcases List.mem_cons.mp hx with rfl | hx
    · rw[<-e1,<-e2]; exact VW I r1 e3
    · exact ih e4 r2 x hx
structure DAt (K:Fr) (H:Hp) (a:Addr) (ks:List D) (kvs:List (KD×Addr×V)) (ep:Nat):Prop where
  at':H a=some (.dD kvs ep)
  k:jQ ks=some (kvs.map (·.1))
  r:j3 K H ks (kvs.map fun p=>V.ref p.2.1)
theorem DAt.of(I:Inv X pins σ H s){a:Addr}{kvs:List (KD×Addr×V)}{ep:Nat}(h:H a=some (.dD kvs ep)):kvs.length<=sizeLine/\(a == sysModules)=false/\(kvs.map (·.1)).Nodup/\∃xs es,Y1 kvs xs/\JW s.heap a es ep/\es.toList=xs.map (entryOfKey (JG X.prog X.w)):=by
  obtain⟨z,y,nd,xs,r,o,es,e1,e2,e3,e4⟩:=I.hok a _ h
  exact⟨z,y,nd,xs,es,r,⟨o,e1,e2,e3⟩,e4⟩
theorem Y1.fst{kvs:List (KD×Addr×V)}{xs:List (KD×Addr×Value)}(h:Y1 kvs xs):xs.map (·.1)=kvs.map (·.1):=by
  induction h with
  | nil=>rfl
  | cons r _ ih=>rw[List.map_cons,List.map_cons,ih,r.1]
theorem DAt.dict(I:Inv X pins σ H s){a:Addr}{ks:List D}{kvs:List (KD×Addr×V)}{ep:Nat}(h:DAt X.K H a ks kvs ep):kvs.length<=sizeLine/\(a == sysModules)=false/\∃xs,Y1 kvs xs/\s.heap.DictOfH (JG X.prog X.w) a xs:=by
  obtain⟨z,y,nd,xs,es,r,⟨o,e1,e2,e3⟩,e4⟩:=DAt.of I h.at'
  exact⟨z,y,xs,r,o,es,ep,e1,e2,e3,e4,Az I r h.k h.r,by rw[r.fst]; exact nd⟩
theorem uG{k:Nat}{A:Around}(hr:Room k A):A.in1.units + 8 < cLine:=by
  rw[Around.in1_units]
  have:=hr.un
  omega
noncomputable def af(K:Fr):R2:=fun x y H Q=>∃a kvs ep b ks k dk v,x=.ref a/\y=.ref b/\DAt K H a ks kvs ep/\j7 K H dk (.ref b)/\JH dk=some k/\Vq kvs k=some v/\Q v H
theorem cH{n:Nat}(hr:Room n X.A):VL X (af X.K):=by
  intro value slice pins s σ H x y v u Q I rx ry h hs
  obtain⟨a,kvs,ep,b,ks,k,dk,z,rfl,rfl,da,rb,ek,ev,q⟩:=h
  cases rx
  cases ry
  obtain⟨zl,hd,xs,pr,dd⟩:=da.dict I
  rcases pr.at (k:=k)with⟨w,p,e1,e2,rw'⟩ | ⟨e1,e2⟩
  · rw[ev]at e1
    cases e1
    exact tail_any dd.typeIs slot_dict_getitem.lookup (wpAny_getItem_heap (knd:=JG X.prog X.w) (uG hr) (VW I rb ek) dd e2 ⟨z,H,I.tok _,rw',q⟩) hs
  · rw[ev]at e1
    cases e1
noncomputable def ah(K:Fr):V->V->V->Hp->(Hp->Prop)->Prop:=fun o i v H Q=>∃a kvs ep b ks k dk,o=.ref a/\i=.ref b/\DAt K H a ks kvs ep/\j7 K H dk (.ref b)/\JH dk=some k/\kvs.length < sizeLine/\∀ep',Q (upd H a (.dD (Zn kvs k b v) ep'))
theorem AA{n:Nat}(hr:Room n X.A):QU X (ah X.K):=by
  intro pins s σ H o i v ov iv u Q I ro ri rv h
  obtain⟨a,kvs,ep,b,ks,k,dk,rfl,rfl,da,rb,ek,hl,q⟩:=h
  cases ro
  cases ri
  obtain⟨zl,hd,xs,pr,dd⟩:=da.dict I
  have hz:xs.length<=sizeLine:=by rw[<-Paired.length pr]; exact zl
  refine wpAny_setItem_heap (hsz:=hz) (knd:=JG X.prog X.w) (uG hr) (VW I rb ek) dd fun h' dd' hs=>?_
  obtain⟨o,es,ep',e1,e2,e3,e4,_,e5⟩:=dd'
  have pr':=pr.put (k:=k) (b:=b) rv
  have new:JQ X.prog X.w (upd H a (.dD (Zn kvs k b v) ep')) h' a (.dD (Zn kvs k b v) ep'):=⟨by have:=xM kvs k b v; omega,hd,by rw[<-pr'.fst]; exact e5,_,pr',o,es,e1,e2,e3,e4⟩
  exact⟨_,I.write (x:=a) (e:=a) (t':=s.toks + (JG X.prog X.w).draws k) (by rw[da.at']; trivial) (.inl rfl) (fun c z hc e=>(hs.2 c hc).trans e) ⟨_,e1⟩ new,q ep'⟩
noncomputable def xN(K:Fr)(neg:Bool):R2:=fun x y H Q=>∃a kvs ep b ks k dk,x=.ref b/\y=.ref a/\DAt K H a ks kvs ep/\j7 K H dk (.ref b)/\JH dk=some k/\Q (.bl (xor neg (Vq kvs k).isSome)) H
theorem q_{n:Nat}(hr:Room n X.A):jH X (compareOp .In) (xN X.K false):=by
  intro pins s σ H x y v u Q I rx ry h
  obtain⟨a,kvs,ep,b,ks,k,dk,rfl,rfl,da,rb,ek,q⟩:=h
  cases rx
  cases ry
  obtain⟨zl,hd,xs,pr,dd⟩:=da.dict I
  refine wpAny_in_heap (knd:=JG X.prog X.w) (uG hr) (VW I rb ek) hd dd ⟨_,H,I.tok _,?_,q⟩
  rcases pr.at (k:=k)with⟨w,p,e1,e2,_⟩ | ⟨e1,e2⟩ <;> (rw[e1,e2]; rfl)
theorem K5{n:Nat}(hr:Room n X.A):jH X (compareOp .NotIn) (xN X.K true):=by
  intro pins s σ H x y v u Q I rx ry h
  obtain⟨a,kvs,ep,b,ks,k,dk,rfl,rfl,da,rb,ek,q⟩:=h
  cases rx
  cases ry
  obtain⟨zl,hd,xs,pr,dd⟩:=da.dict I
  refine wpAny_notIn_heap (knd:=JG X.prog X.w) (uG hr) (VW I rb ek) hd dd ⟨_,H,I.tok _,?_,q⟩
  rcases pr.at (k:=k)with⟨w,p,e1,e2,_⟩ | ⟨e1,e2⟩ <;> (rw[e1,e2]; rfl)
noncomputable def eO:TE:=fun _ H Q=>∀p,H p=none->Q (.ref p) (upd H p (.dD [] 0))
theorem Inv.big(I:Inv X pins σ H s):sysModules < s.heap.objs.size:=Nat.lt_trans (by decide) (show mainGlobals < s.heap.objs.size from(I.mod.glob.keeps I.bk).lt)
theorem AB{pos:Pos}:PE X (.Dict [] [] pos) eO:=fun pins s σ H Q I h=>
  wpAny_Dict_empty ⟨.ref s.heap.objs.size,_,I.laid (a:=s.heap.objs.size) (o:=.dD [] 0) (t':=s.toks) (fun _ _ q=>Heap.get?_push_of_some _ q) (Nat.le_refl _)
    ⟨Nat.zero_le _,beq_eq_false_iff_ne.mpr (Ne.symm (Nat.ne_of_lt (Inv.big I))),List.nodup_nil,[],.nil,_,#[],Heap.get?_push_size _ rfl,⟨rfl,rfl,rfl⟩,rfl,rfl⟩,rfl,h _ (I.hok.fresh (Nat.le_refl _))⟩
theorem Y1.keys{kvs:List (KD×Addr×V)}{xs:List (KD×Addr×Value)}{P:Program}{w:World}(h:Y1 kvs xs):jd (kvs.map fun p=>V.ref p.2.1) ((xs.map (entryOfKey (JG P w))).map (·.key)):=by
  induction h with
  | nil=>exact .nil
  | cons r _ ih=>exact .cons (by show Value.ref _=_; rw[r.2.1]) ih
theorem WC(hc:X.calm=true):yW X (.type "list") (fun xs H Q=>∃a kvs ep,xs=[.ref a]/\H a=some (.dD kvs ep)/\∀l,H l=none->Q (.ref l) (upd H l (.lst (kvs.map fun p=>V.ref p.2.1)))):=by
  intro pins s σ H xs us Q I r h
  obtain⟨a,kvs,ep,rfl,e,q⟩:=h
  cases r with
  | cons r1 r2=>
  cases r2
  cases r1
  obtain⟨z,hd,nd,ys,es,pr,rd,ee⟩:=DAt.of I e
  have hl:es.size=kvs.length:=by rw[<-Array.length_toList,ee,List.length_map,Paired.length pr]
  refine xL (I.ok.hd hc) hd rd (by rw[hl]; exact z) fun h' tk acc c k g ea=>?_
  refine⟨.ref s.heap.objs.size,_,I.laid (a:=s.heap.objs.size) (o:=.lst (kvs.map fun p=>V.ref p.2.1)) (t':=tk) k (Nat.le_refl _) ⟨by simpa using z,acc.toList,c,?_,by simpa using g⟩,rfl,q _ (I.hok.fresh (Nat.le_refl _))⟩
  rw[ea,ee]
  exact pr.keys
end
end DS
namespace DS
open PySem PySem.Spec PyProof.Rows L2
theorem Q0:entryFor table "dict_itemiterator.__iter__" = some Builtin.«dict_keyiterator.__iter__»:=entryFor_alias (id' := "dict_keyiterator.__iter__") (by kernel_rfl) rfl (by decide +kernel) (by kernel_rfl)
theorem Y1.len{kvs:List (KD×Addr×V)}{xs:List (KD×Addr×Value)}{es:Array DictEntry}{P:Program}{w:World}(h:Y1 kvs xs)(e:es.toList=xs.map (entryOfKey (JG P w))):es.size=kvs.length:=by rw[<-Array.length_toList,e,List.length_map,Paired.length h]
theorem Y1.entry{P:Program}{w:World}{es:Array DictEntry}{kvs:List (KD×Addr×V)}{xs:List (KD×Addr×Value)}{i:Nat}{p:KD×Addr×V}(h:Y1 kvs xs)(e:es.toList=xs.map (entryOfKey (JG P w)))(hp:kvs[i]?=some p):∃y,es[i]?=some y/\y.key=.ref p.2.1/\jl p.2.2 y.val:=by
  have go:∀{kvs:List (KD×Addr×V)} {xs:List (KD×Addr×Value)} {i:Nat},Y1 kvs xs->kvs[i]?=some p->∃q,xs[i]?=some q/\p.2.1=q.2.1/\jl p.2.2 q.2.2:=by
    intro kvs xs i h
    induction h generalizing i with
    | nil=>intro z; simp at z
    | @cons a b as bs r t ih=>
      intro z
      cases i with
      | zero=>cases z; exact⟨b,rfl,r.2.1,r.2.2⟩
      | succ i=>exact ih (i:=i) z
  obtain⟨q,e1,e2,e3⟩:=go h hp
  refine⟨entryOfKey (JG P w) q,?_,by show Value.ref _=_; rw[e2],e3⟩
  rw[<-Array.getElem?_toList,e,List.getElem?_map,e1]
  rfl
noncomputable def Eh(a:Addr)(kvs:List (KD×Addr×V))(ep:Nat):It:=
  ⟨fun i H=>H a=some (.dD kvs ep)/\i < kvs.length,fun i H x H'=>H'=H/\∀p,kvs[i]?=some p->x=.ref p.2.1,fun i H=>H a=some (.dD kvs ep)/\kvs.length<=i⟩
theorem Q1{P:Program}{w:World}{K:PySem.W.Frag}{tg:Expr}{kvs:List (KD×Addr×V)}{ep:Nat}(a it:Addr):Turn P w K tg (Eh a kvs ep) [it] it (fun i h=>h.IsKeyIter it a i kvs.length ep) where
  mem:=by simp
  obj:=fun i h st b hb=>by
    have e:b=it:=by simpa using hb
    subst e
    obtain⟨o,e,c,d⟩:=st
    exact⟨o,e,fun v z=>by rw[d]at z; cases z⟩
  keep:=fun i h h' st k=>st.at fun o e=>k it (by simp) o e
  item:=by
    intro X hP hw hK hc i pins s σ H E I hf st hg
    subst hP hw hK
    obtain⟨ea,hi⟩:=hg
    obtain⟨z,hd,nd,ys,es,pr,rd,ee⟩:=DAt.of I ea
    obtain⟨y,ey,ek,_⟩:=pr.entry ee (i:=i) (p:=kvs[i]) (by simp[hi])
    have hl:=pr.len ee
    obtain⟨f0,f1,f2,f3,f4,f5⟩:=hf it (by simp)
    rw[<-hl]at st⊢
    refine K3 st rd ey fun h' st' sb=>?_
    have I1:Inv X pins σ H { s with heap:=h' }:=I.turned (t':=s.toks) (fun b o hb e=>(sb.2 b hb).trans e) f0 f1 f3 f4 f5
    obtain⟨o,e,c,d⟩:=id st'
    exact⟨_,rfl,uz (s:={ s with heap:=h' }) e c d (by decide) ⟨.ref kvs[i].2.1,H,I1,ek,⟨rfl,fun p hp=>by simp[hi]at hp; rw[hp]⟩,st',fun b hb=>(hf b hb).1⟩⟩
  done:=by
    intro X hP hw hK hc i pins s σ H E I hf st hg
    subst hP hw hK
    obtain⟨ea,hi⟩:=hg
    obtain⟨z,hd,nd,ys,es,pr,rd,ee⟩:=DAt.of I ea
    have hl:=pr.len ee
    obtain⟨f0,f1,f2,f3,f4,f5⟩:=hf it (by simp)
    rw[<-hl]at st
    exact wP (I.ok.hd hc) st rd (by rw[hl]; exact hi) fun h' eb=>⟨rfl,I.turned (t':=s.toks) (fun b o hb e=>eb b o hb e) f0 f1 f3 f4 f5⟩
  self:=fun _ _ _ _ _ st h=>wpAny_pyIter_keyiter st h
noncomputable def Ei(a:Addr)(kvs:List (KD×Addr×V))(ep:Nat):It:=
  ⟨fun i H=>H a=some (.dD kvs ep)/\i < kvs.length,fun i H x H'=>∃p,H p=none/\x=.ref p/\∀e,kvs[i]?=some e->H'=upd H p (.tup [.ref e.2.1,e.2.2]),fun i H=>H a=some (.dD kvs ep)/\kvs.length<=i⟩
theorem WD{P:Program}{w:World}{K:PySem.W.Frag}{es:List Expr}{x1:Nat}{tp:Pos}{kvs:List (KD×Addr×V)}{ep:Nat}(a it:Addr):Turn P w K (.Tuple es x1 tp) (Ei a kvs ep) [it] it (fun i h=>∃ok ov,IsItemIter h it a i kvs.length ep ok ov) where
  mem:=by simp
  obj:=fun i h st b hb=>by
    have e:b=it:=by simpa using hb
    subst e
    obtain⟨_,_,st⟩:=st
    exact⟨_,st,fun v z=>by cases z⟩
  keep:=fun i h h' st k=>let ⟨ok,ov,st⟩:=st; ⟨ok,ov,k it (by simp) _ st⟩
  item:=by
    intro X hP hw hK hc i pins s σ H E I hf st hg
    subst hP hw hK
    obtain⟨ok,ov,st⟩:=st
    obtain⟨ea,hi⟩:=hg
    obtain⟨z,hd,nd,ys,es,pr,rd,ee⟩:=DAt.of I ea
    obtain⟨y,ey,ek,er⟩:=pr.entry ee (i:=i) (p:=kvs[i]) (by simp[hi])
    have hl:=pr.len ee
    rw[<-hl]at st⊢
    have lt:it < s.heap.objs.size:=Heap.lt_size st
    refine qY st rd ey fun h' b1 b3 bz bk=>⟨_,rfl,wpAny_letOwnedTupleGo_items b1 fun h2 c1 c2=>?_⟩
    have kp:∀c o,c∉[it]->s.heap.get? c=some o->h2.get? c=some o:=fun c o hc z=>by
      have hc:c≠it:=by simpa using hc
      exact c2.extBut c o hc (bk c o hc z)
    have ht:IsTup h2 s.heap.objs.size ([y.key,y.val]:List Value).toArray:=⟨_,c2.extBut _ _ (Nat.ne_of_gt lt) b3,rfl,_,rfl⟩
    have I2:=I.tupled (t':=s.toks) (h':=h2) rfl hf kp (vs:=[.ref kvs[i].2.1,kvs[i].2.2]) (us:=[y.key,y.val]) (.cons ek (.cons er .nil)) zm ht
    refine⟨.ref s.heap.objs.size,_,I2,rfl,⟨s.heap.objs.size,I.hok.fresh (Nat.le_refl _),rfl,fun e he=>?_⟩,⟨_,_,c1⟩,fun c hc=>?_⟩
    · simp[hi]at he
      rw[he]
    · rw[jm,(hf c hc).1]
      have:c=it:=by simpa using hc
      rw[this]
      exact Nat.ne_of_lt lt
  done:=by
    intro X hP hw hK hc i pins s σ H E I hf st hg
    subst hP hw hK
    obtain⟨ok,ov,st⟩:=st
    obtain⟨ea,hi⟩:=hg
    obtain⟨z,hd,nd,ys,es,pr,rd,ee⟩:=DAt.of I ea
    have hl:=pr.len ee
    obtain⟨f0,f1,f2,f3,f4,f5⟩:=hf it (by simp)
    rw[<-hl]at st
    exact xJ (I.ok.hd hc) st rd (by rw[hl]; exact hi) fun h' eb=>⟨rfl,I.turned (t':=s.toks) (fun b o hb e=>eb b o hb e) f0 f1 f3 f4 f5⟩
  self:=fun A i s Q E st h=>by
    obtain⟨ok,ov,st⟩:=st
    have ty:s.TypeIs (.ref it) "dict_itemiterator" := ⟨_,st,rfl⟩
    refine wpAny_pyIter_slot ty F.slot_dict_itemiterator_iter (wpAny_call_entry F.slot_dict_itemiterator_iter ty Q0 ?_ (F.args_dict_itemiterator_iter_1 _))
    exact(show wpAny _ _ (ret (.ref it)) _ _ s from wpAny_pure ⟨_,rfl, "dict_itemiterator",_,ty,F.slot_dict_itemiterator_next.lookup,h⟩)
noncomputable def Ej(K:PySem.W.Frag)(a:Addr)(n:Nat):It:=
  ⟨fun i H=>∃xs,jy K H a xs/\xs.length=n/\i < n,fun i H x H'=>H'=H/\∀xs,jy K H a xs->xs[n - 1 - i]?=some x,fun i H=>n<=i⟩
theorem xO{P:Program}{w:World}{K:PySem.W.Frag}{tg:Expr}{n:Nat}(a it:Addr):Turn P w K tg (Ej K a n) [it] it (fun i h=>h.IsRevIter it a ((n:Int) - 1 - i)/\i<=n) where
  mem:=by simp
  obj:=fun i h st b hb=>by
    have e:b=it:=by simpa using hb
    subst e
    obtain⟨⟨o,e,c,d⟩,_⟩:=st
    exact⟨o,e,fun v z=>by rw[d]at z; cases z⟩
  keep:=fun i h h' st k=>⟨st.1.at fun o e=>k it (by simp) o e,st.2⟩
  item:=by
    intro X hP hw hK hc i pins s σ H E I hf st hg
    subst hP hw hK
    obtain⟨xs,hq,hn,hi⟩:=hg
    obtain⟨its,rv,p,hz⟩:=I.list hq
    have hx:xs[n - 1 - i]?=some (xs[n - 1 - i]'(by omega)):=by simp
    obtain⟨u,hu,ru⟩:=rv.get hx
    obtain⟨f0,f1,f2,f3,f4,f5⟩:=hf it (by simp)
    have e0:(n:Int) - 1 - i=((n - 1 - i:Nat):Int):=by omega
    have st1:=st.1
    rw[e0]at st1
    refine wpAny_pyNext_rev_item st1 p.isList (x:=u) (by simpa using hu) fun h' st' sb=>?_
    have I1:Inv X pins σ H { s with heap:=h' }:=I.turned (t':=s.toks) (fun b o hb e=>(sb.2 b hb).trans e) f0 f1 f3 f4 f5
    obtain⟨o,e,c,d⟩:=id st'
    refine⟨u,rfl,uz (s:={ s with heap:=h' }) e c d (by decide) ⟨_,H,I1,ru,⟨rfl,fun ys hy=>by rw[I.list_inj hy hq]; exact hx⟩,⟨?_,hi⟩,fun b hb=>(hf b hb).1⟩⟩
    have e1:(n:Int) - 1 - ((i + 1:Nat):Int)=((n - 1 - i:Nat):Int) - 1:=by omega
    rw[e1]
    exact st'
  done:=by
    intro X hP hw hK hc i pins s σ H E I hf st hg
    subst hP hw hK
    obtain⟨f0,f1,f2,f3,f4,f5⟩:=hf it (by simp)
    have hg:n<=i:=hg
    have e0:(n:Int) - 1 - i=-1:=by have:=st.2; omega
    have st1:=st.1
    rw[e0]at st1
    exact wpAny_pyNext_rev_end (I.ok.hd hc) st1 fun h' eb=>⟨rfl,I.turned (t':=s.toks) (fun b o hb e=>eb b o hb e) f0 f1 f3 f4 f5⟩
  self:=fun _ _ _ _ _ st h=>wpAny_pyIter_revIter st.1 h
section
variable {X:Cx} {K:Fr} {e a b c d tg:Expr} {de da db dc dd dk:DE} {pos:Pos}
noncomputable def eP(tl:TE):TI:=fun σ H R=>tl σ H fun x H1=>∃a kvs ep,x=.ref a/\H1 a=some (.dD kvs ep)/\R (Eh a kvs ep) H1
theorem AD{l:Expr}{tl:TE}(hl:PE X l tl):PI X tg l (eP tl):=by
  intro pins s σ H R I h
  refine jp (hl pins s σ H _ I h) fun v s1 ⟨x,H1,I1,r1,q1⟩=>?_
  obtain⟨a,kvs,ep,rfl,ea,q⟩:=q1
  cases r1
  obtain⟨z,hd,nd,ys,es,pr,rd,ee⟩:=DAt.of I1 ea
  have hl:=pr.len ee
  refine K0 hd rd ⟨s1.heap.objs.size,[s1.heap.objs.size],_,_,H1,rfl,I1.kept (t':=s1.toks) fun b o e=>Heap.get?_push_of_some _ e,Q1 (kvs:=kvs) (ep:=ep) a _,?_,fun b hb=>?_,q⟩
  · rw[<-hl]; exact⟨_,Heap.get?_push_size _ rfl,rfl,rfl⟩
  · have e:b=s1.heap.objs.size:=by simpa using hb
    subst e
    exact I1.fpOk (Nat.le_refl _) (I1.hok.fresh (Nat.le_refl _))
noncomputable def cJ(tl:TE):TI:=fun σ H R=>tl σ H fun x H1=>∃a kvs ep,x=.ref a/\H1 a=some (.dD kvs ep)/\R (Ei a kvs ep) H1
theorem xP{l:Expr}{tl:TE}{es:List Expr}{x1:Nat}{tp ap cp:Pos}(hl:PE X l tl)(hbase:attributeBase l "items" X.env (eval l X.env)=eval l X.env)(hline:(ap.endLine == cp.line)=true):PI X (.Tuple es x1 tp) (.Call (.Attribute l "items" ap) [] [] cp) (cJ tl):=by
  intro pins s σ H R I h
  refine wpAny_Call_method0_late hbase hline (jp (hl pins s σ H _ I h) fun v s1 ⟨x,H1,I1,r1,q1⟩=>?_)
  obtain⟨a,kvs,ep,rfl,ea,q⟩:=q1
  cases r1
  obtain⟨z,hd,nd,ys,es,pr,rd,ee⟩:=DAt.of I1 ea
  have hl:=pr.len ee
  refine⟨"dict", "dict.items",F.plainAttrs_dict,F.slot_dict_items,F.type_dict_items,rd.ty,?_,Calls.callWith_builtin rfl (PySem.evalArgs_none (qW hd rd ?_))⟩
  · intro b e
    cases e
    obtain⟨o,g,c,_⟩:=rd
    exact⟨o,g,c.2.1⟩
  have k1:∀b o,s1.heap.get? b=some o->(s1.heap.push { cls:=.type "dict_items",data:=.fields #[.ref a] }).get? b=some o:=fun b o e=>Heap.get?_push_of_some _ e
  have hv:(s1.heap.push { cls:=.type "dict_items",data:=.fields #[.ref a] }).IsItemsView s1.heap.objs.size a:=⟨_,Heap.get?_push_size _ rfl,rfl,rfl⟩
  have I2:Inv X pins σ H1 { s1 with heap:=s1.heap.push { cls:=.type "dict_items",data:=.fields #[.ref a] } }:=I1.kept (t':=s1.toks) k1
  generalize s1.heap.push { cls:=.type "dict_items",data:=.fields #[.ref a] }=h2 at k1 hv I2
  refine qX (s:={ s1 with heap:=h2 }) hv (rd.at fun o e=>k1 _ o e) ⟨h2.objs.size,[h2.objs.size],_,_,H1,rfl,I2.kept (t':=s1.toks) fun b o e=>Heap.get?_push_of_some _ e,WD (kvs:=kvs) (ep:=ep) a _,?_,fun b hb=>?_,q⟩
  · rw[<-hl]; exact⟨_,_,Heap.get?_push_size _ rfl⟩
  · have e:b=h2.objs.size:=by simpa using hb
    subst e
    exact I2.fpOk (Nat.le_refl _) (I2.hok.fresh (Nat.le_refl _))
noncomputable def fV(K:Fr)(ta:TA):TI:=fun σ H R=>ta σ H fun vs H1=>∃a xs,vs=[.ref a]/\jy K H1 a xs/\R (Ej K a xs.length) H1
theorem cK{e1:Expr}{ta:TA}{p:Pos}(hg:Gl X "reversed")(hm:X.mg "reversed" = none)(ha:PA X [e1] ta)(hs:starEach [e1] X.env=[(false,eval e1 X.env)]):PI X tg (.Call (.Name "reversed" p) [e1] [] pos) (fV X.K ta):=by
  intro pins s σ H R I h
  refine Call_ (Y8 I hg hm PyProof.Rows.boot_reversed (PyProof.Rows.callWith_type1 (jp (ha pos pins s σ H _ I h) fun us s1 ⟨vs,H1,I1,r1,q1⟩=>?_) hs rfl))
  obtain⟨a,xs,rfl,qa,q⟩:=q1
  cases r1 with
  | cons r rr=>
  cases rr
  cases r
  obtain⟨its,rv,p,hz⟩:=I1.list qa
  have hl:=rv.length
  refine call_reversed_list p.isList ?_
  have k1:∀b o,s1.heap.get? b=some o->(s1.heap.push (revObj a ((its.toArray.size:Int) - 1))).get? b=some o:=fun b o e=>Heap.get?_push_of_some _ e
  have st:(s1.heap.push (revObj a ((its.toArray.size:Int) - 1))).IsRevIter s1.heap.objs.size a ((xs.length:Int) - 1 - (0:Nat)):=⟨_,Heap.get?_push_size _ rfl,rfl,by rw[List.size_toArray,hl]; simp[revObj]⟩
  refine wpAny_pyIter_revIter (i:=(xs.length:Int) - 1 - (0:Nat)) st ⟨s1.heap.objs.size,[s1.heap.objs.size],_,_,H1,rfl,I1.kept (t':=s1.toks) k1,xO (n:=xs.length) a _,⟨st,Nat.zero_le _⟩,fun b hb=>?_,q⟩
  have e:b=s1.heap.objs.size:=by simpa using hb
  subst e
  exact I1.fpOk (Nat.le_refl _) (I1.hok.fresh (Nat.le_refl _))
end
end DS
namespace DS
open PySem PySem.Spec PyProof.Rows L2
noncomputable def ZR:List KD->List D->KD->Option D
  | q :: qs,d :: ds,k=>if q=k then some d else ZR qs ds k
  | _,_,_=>none
noncomputable def VX:List KD->List D->KD->D->List D
  | q :: qs,d :: ds,k,v=>(if q=k then v else d) :: VX qs ds k v
  | _,ds,_,_=>ds
noncomputable def yg:D->D->Option D
  | .dct ks vs,k=>(JH k).bind fun q=>(jQ ks).bind fun qs=>ZR qs vs q
  | _,_=>none
noncomputable def WE(neg:Bool):D->D->Option D
  | k,.dct ks _=>(JH k).bind fun q=>(jQ ks).bind fun qs=>some (.bl (xor neg (decide (q∈qs))))
  | _,_=>none
section
variable {K:Fr} {H:Hp} {O:List Addr}
theorem wR{k:KD}{d:D}:∀{kvs:List (KD×Addr×V)} {vs:List D},j3 K H vs (kvs.map (·.2.2))->ZR (kvs.map (·.1)) vs k=some d->∃v,Vq kvs k=some v/\j7 K H d v
  | [],_,_,e=>by rw[List.map_nil,ZR]at e; cases e; all_goals (intros; contradiction)
  | p :: kvs,[],r,e=>by rw[List.map_cons,ZR]at e; cases e; all_goals (intros; contradiction)
  | p :: kvs,d' :: vs,r,e=>by
    rw[List.map_cons,j3]at r
    obtain⟨_,_,ee,r1,r2⟩:=r
    cases ee
    rw[List.map_cons,ZR]at e
    unfold Vq
    rw[List.find?_cons]
    by_cases h:p.1=k
    · rw[if_pos h]at e
      cases e
      rw[decide_eq_true h]
      exact⟨_,rfl,r1⟩
    · rw[if_neg h]at e
      rw[decide_eq_false h]
      exact wR r2 e
theorem K6{k:KD}:∀{kvs:List (KD×Addr×V)},(Vq kvs k).isSome=decide (k∈kvs.map (·.1))
  | []=>by simp[Vq]
  | p :: kvs=>by
    unfold Vq
    rw[List.find?_cons,List.map_cons]
    by_cases h:p.1=k
    · rw[decide_eq_true h,decide_eq_true (by rw[h]; exact List.mem_cons_self)]
      rfl
    · rw[decide_eq_false h]
      have:=K6 (k:=k) (kvs:=kvs)
      unfold Vq at this
      refine this.trans ?_
      by_cases hm:k∈kvs.map (·.1)
      · rw[decide_eq_true hm,decide_eq_true (List.mem_cons_of_mem _ hm)]
      · rw[decide_eq_false hm,decide_eq_false]
        intro z
        rcases List.mem_cons.mp z with z | z
        · exact h z.symm
        · exact hm z
theorem K7{dk:D}{k:KD}{y:V}(h:RB K O H dk y)(e:JH dk=some k):∃b,y=.ref b/\j7 K H dk (.ref b):=by
  have f:=h.full
  unfold JH at e
  split at e
  · have f0:=f
    rw[j7]at f
    obtain⟨a,xs,rfl,_⟩:=f
    exact⟨a,rfl,f0⟩
  · cases e
theorem eQ:J5 K (af K) yg:=by
  intro O H a b d x y Q ha hb _ e q
  unfold yg at e
  split at e
  · obtain⟨k,e1,e⟩:=bind_some e
    obtain⟨qs,e2,e⟩:=bind_some e
    obtain⟨p,kvs,ep,rfl,h1,h2,h3,h4⟩:=ha.dct
    obtain⟨y,rfl,ry⟩:=K7 hb e1
    rw[h2]at e2
    cases e2
    obtain⟨v,ev,rv⟩:=wR h4 e
    exact⟨p,kvs,ep,y,_,k,_,v,rfl,rfl,⟨h1,h2,h3.same yu⟩,ry,e1,ev,q v H (j4.refl H) rv⟩
  · cases e
theorem ai{neg:Bool}:J5 K (xN K neg) (WE neg):=by
  intro O H a b d x y Q ha hb _ e q
  unfold WE at e
  split at e
  · obtain⟨k,e1,e⟩:=bind_some e
    obtain⟨qs,e2,e⟩:=bind_some e
    cases e
    obtain⟨p,kvs,ep,rfl,h1,h2,h3,h4⟩:=hb.dct
    obtain⟨y,rfl,ry⟩:=K7 ha e1
    rw[h2]at e2
    cases e2
    exact⟨p,kvs,ep,y,_,k,_,rfl,rfl,⟨h1,h2,h3.same yu⟩,ry,e1,q _ H (j4.refl H) (by rw[j7,K6])⟩
  · cases e
noncomputable def uH(qs:List KD)(ks:List D)(q:KD)(k:D):List D:=if q∈qs then ks else ks ++ [k]
noncomputable def gf(qs:List KD)(vs:List D)(q:KD)(v:D):List D:=if q∈qs then VX qs vs q v else vs ++ [v]
theorem uZ:∀{ks:List D} {qs:List KD} {k:D} {q:KD},jQ ks=some qs->JH k=some q->jQ (ks ++ [k])=some (qs ++ [q])
  | [],qs,k,q,e,f=>by
    rw[jQ]at e
    cases e
    rw[List.nil_append,jQ,f]
    rfl
  | d :: ks,qs,k,q,e,f=>by
    rw[jQ]at e
    obtain⟨x,e1,e⟩:=bind_some e
    obtain⟨xs,e2,e⟩:=bind_some e
    cases e
    rw[List.cons_append,jQ,e1,uZ e2 f]
    rfl
theorem K8{k:KD}{v:V}{d:D}(rv:j7 K H d v):∀{kvs:List (KD×Addr×V)} {vs:List D},j3 K H vs (kvs.map (·.2.2))->j3 K H (VX (kvs.map (·.1)) vs k d) ((kvs.map (fun p=>if p.1=k then(p.1,p.2.1,v)else p)).map (·.2.2))
  | [],vs,r=>by
    rw[List.map_nil,List.map_nil,List.map_nil,VX]
    · exact r
    all_goals (intros; contradiction)
  | p :: kvs,[],r=>by rw[List.map_cons,j3]at r; cases r
  | p :: kvs,d' :: vs,r=>by
    rw[List.map_cons,j3]at r
    obtain⟨_,_,ee,r1,r2⟩:=r
    cases ee
    rw[List.map_cons,List.map_cons,List.map_cons,VX]
    refine j3.cons ?_ (K8 rv r2)
    by_cases h:p.1=k
    · rw[if_pos h,if_pos h]; exact rv
    · rw[if_neg h,if_neg h]; exact r1
theorem wS{β:Type}{k:KD}{v:V}{f:KD×Addr×V->β}(hf:∀p:KD×Addr×V,f (p.1,p.2.1,v)=f p):∀kvs:List (KD×Addr×V),(kvs.map (fun p=>if p.1=k then(p.1,p.2.1,v)else p)).map f=kvs.map f:=fun kvs=>by
  rw[List.map_map]
  refine List.map_congr_left fun p _=>?_
  show f (if p.1=k then(p.1,p.2.1,v)else p)=f p
  split
  · exact hf p
  · rfl
theorem AE{k:KD}{b:Addr}{v:V}{d dk:D}{ks vs:List D}{qs:List KD}{kvs:List (KD×Addr×V)}(e1:JH dk=some k)(e2:jQ ks=some (kvs.map (·.1)))(rk:j3 K H ks (kvs.map fun p=>V.ref p.2.1))(rv:j3 K H vs (kvs.map (·.2.2)))(r1:j7 K H dk (.ref b))(r2:j7 K H d v):
    jQ (uH (kvs.map (·.1)) ks k dk)=some ((Zn kvs k b v).map (·.1))/\j3 K H (uH (kvs.map (·.1)) ks k dk) ((Zn kvs k b v).map fun p=>V.ref p.2.1)/\j3 K H (gf (kvs.map (·.1)) vs k d) ((Zn kvs k b v).map (·.2.2)):=by
  unfold uH gf Zn
  rw[K6]
  by_cases h:k∈kvs.map (·.1)
  · rw[decide_eq_true h,if_pos h,if_pos h,if_pos rfl,wS (fun _=>rfl),wS (fun _=>rfl)]
    exact⟨e2,rk,K8 r2 rv⟩
  · rw[decide_eq_false h,if_neg h,if_neg h,if_neg (by decide),List.map_append,List.map_append,List.map_append]
    exact⟨uZ e2 e1,rk.snoc r1,rv.snoc r2⟩
end
section
variable {X:Cx} {K:Fr} {e a b c d tg:Expr} {de da db dc dd dk:DE} {pos:Pos} {st:Stmt}
noncomputable def Yw(i:Nat)(dk de:DE):DS:=fun ρ=>match ρ[i]? with
  | some (.ow q (.dct ks vs))=>(de ρ).bind fun d=>(dk ρ).bind fun k=>(JH k).bind fun x=>(jQ ks).bind fun qs=>if ks.length < sizeLine then some (.nx (ρ.set i (.ow q (.dct (uH qs ks x k) (gf qs vs x d)))))else none
  | _=>none
@[simp] theorem Q2(i:Nat)(dk de:DE){ρ:j9}:Yw i dk de ρ=match ρ[i]? with
  | some (.ow q (.dct ks vs))=>(de ρ).bind fun d=>(dk ρ).bind fun k=>(JH k).bind fun x=>(jQ ks).bind fun qs=>if ks.length < sizeLine then some (.nx (ρ.set i (.ow q (.dct (uH qs ks x k) (gf qs vs x d)))))else none
  | _=>none:=rfl
theorem eR{i:Nat}(h:PS X st (zA (tE K de) (QW (Zd i) (tE K dk) (ah K)))):PS X st (tS K (Yw i dk de)):=Jj h fun D σ H ⟨H0,O0,ρ,O,r,R,ed,f⟩=>by
  unfold Yw at ed
  split at ed
  · rename_i q ks vs hi
    obtain⟨d,e1,ed⟩:=bind_some ed
    obtain⟨k,e2,ed⟩:=bind_some ed
    obtain⟨x,e3,ed⟩:=bind_some ed
    obtain⟨qs,e4,ed⟩:=bind_some ed
    split at ed
    · rename_i hz
      cases ed
      obtain⟨l,hq,hs,⟨kvs,ep,hl,hk,rk,rv⟩,lo,h0⟩:=R.ow i _ _ hi
      refine⟨H0,O0,ρ,O,d,R,e1,fun v H1 s1 rd=>⟨_,hs,H0,O0,ρ,O,k,R.grow s1,e2,fun w H2 s2 rw'=>?_⟩⟩
      have s12:=s1.trans s2
      have R':=R.grow s12
      rw[hk]at e4
      cases e4
      obtain⟨b,rfl,rb⟩:=K7 (O:=O) (.inl rw') e3
      have hlen:kvs.length=ks.length:=by have:=rk.len; simpa using this
      obtain⟨p1,p2,p3⟩:=AE (b:=b) (qs:=[]) e3 hk (rk.same (jh s12)) (rv.same (jh s12)) rw' (rd.same (jh s2))
      refine⟨l,kvs,ep,b,ks,x,k,rfl,rfl,⟨s12 _ _ hl,hk,(rk.same (jh s12)).same yu⟩,rb,e3,by rw[hlen]; exact hz,fun ep'=>f _ _ O (R'.change hi hq hs lo h0 ⟨_,ep',J7,p1,p2,p3⟩) ?_⟩
      rw[YF lo]
      exact jh s12
    · cases ed
  · cases ed
noncomputable def ZS:DO:=fun _=>some (.dct [] [])
@[simp] theorem FA{ρ:j9}:ZS ρ=some (.dct [] []):=rfl
theorem cL:PE X (.Dict [] [] pos) (tF K ZS):=jz AB fun σ H Q ⟨H0,O0,ρ,O,o,R,ed,q⟩=>by
  cases ed
  exact fun p hp=>q p _ (jK hp _) hp ⟨[],0,J7,by rw[jQ]; rfl,j3.nil,j3.nil⟩
noncomputable def zt:List D->Option OD
  | [.dct ks _]=>some (.lst ks)
  | _=>none
@[simp] theorem fW(ks vs:List D):zt [.dct ks vs]=some (.lst ks):=rfl
theorem AF:BE K (fun xs H Q=>∃a kvs ep,xs=[.ref a]/\H a=some (.dD kvs ep)/\∀l,H l=none->Q (.ref l) (upd H l (.lst (kvs.map fun p=>V.ref p.2.1)))) zt:=by
  intro O H ks ds vs d Q ak e q
  unfold zt at e
  split at e
  · cases e
    obtain⟨v,rfl,r⟩:=YG ak
    obtain⟨p,kvs,ep,rfl,h1,h2,h3,h4⟩:=r.dct
    exact⟨p,kvs,ep,rfl,h1,fun l hl=>q l _ (jK hl _) hl (JJ hl h3)⟩
  · cases e
noncomputable def gh:D->Option (List D)
  | .dct ks _=>some ks
  | _=>none
@[simp] theorem fX(ks vs:List D):gh (.dct ks vs)=some ks:=rfl
noncomputable def WF(de:DE):DI:=fun ρ=>(de ρ).bind gh
@[simp] theorem FB(de:DE){ρ:j9}:WF de ρ=(de ρ).bind gh:=rfl
theorem RP.dct{H0 H:Hp}{O0 O:List Addr}{ks vs:List D}{v:V}(r:RP K H0 O0 H O (.dct ks vs) v):∃p kvs ep,v=.ref p/\∀(H':Hp) (O':List Addr),j4 H0 H'->j4 (jb H0 O0) (jb H' O')->j4 (jb H O) (jb H' O')->H' p=some (.dD kvs ep)/\j3 K (jb H' O') ks (kvs.map fun p=>V.ref p.2.1)/\j3 K (jb H' O') vs (kvs.map (·.2.2)):=by
  rcases r with r | r | ⟨l,o,rfl,z2,z3⟩
  · rw[j7]at r
    obtain⟨p,kvs,ep,rfl,w1,_,w3,w4⟩:=r
    exact⟨p,kvs,ep,rfl,fun H' O' t0 t1 t2=>⟨(JI (t2 _ _ w1)).2,w3.same t2,w4.same t2⟩⟩
  · rw[j7]at r
    obtain⟨p,kvs,ep,rfl,w1,_,w3,w4⟩:=r
    exact⟨p,kvs,ep,rfl,fun H' O' t0 t1 t2=>⟨(JI (t1 _ _ w1)).2,w3.same t1,w4.same t1⟩⟩
  · cases o <;> cases z2
    obtain⟨kvs,ep,w1,_,w3,w4⟩:=z3
    exact⟨l,kvs,ep,rfl,fun H' O' t0 t1 t2=>⟨t0 _ _ w1,w3.same t1,w4.same t1⟩⟩
theorem cM(h:PE X e (tP K de)):PI X tg e (Ys K (WF de)):=Z0 (AD h) fun σ H R ⟨H0,O0,ρ,O,items,Re,ed,q⟩=>by
  obtain⟨x,e1,e2⟩:=bind_some ed
  refine⟨H0,O0,ρ,O,x,Re,e1,fun v H1 s1 r=>?_⟩
  have R1:=Re.grow s1
  unfold gh at e2
  split at e2
  · cases e2
    obtain⟨p,kvs,ep,rfl,al⟩:=r.dct
    refine⟨p,kvs,ep,rfl,(al H1 O R1.keep R1.in0 (j4.refl _)).1,q _ H1 s1 fun i H' O' t0 t1 t2 ta=>?_⟩
    obtain⟨g1,g3,g4⟩:=al H' O' t0 t1 t2
    refine⟨fun d hd=>?_,fun hi=>⟨g1,by have:=g3.len; rw[List.length_map]at this; rw[hi,this]; exact Nat.le_refl _⟩⟩
    obtain⟨x',hx,rx⟩:=g3.get hd
    rw[List.getElem?_map]at hx
    obtain⟨y,hy,rfl⟩:=Option.map_eq_some_iff.mp hx
    refine⟨⟨g1,(List.getElem?_eq_some_iff.mp hy).1⟩,fun x'' H'' yy=>?_⟩
    obtain⟨z1,z2⟩:=yy
    rw[z1,z2 _ hy]
    exact⟨j4.refl _,rx⟩
  · cases e2
noncomputable def vI:D->Option (List D)
  | .dct ks vs=>some (List.zipWith (fun k v=>D.tup [k,v]) ks vs)
  | _=>none
@[simp] theorem Q3(ks vs:List D):vI (.dct ks vs)=some (List.zipWith (fun k v=>D.tup [k,v]) ks vs):=rfl
noncomputable def VY(de:DE):DI:=fun ρ=>(de ρ).bind vI
@[simp] theorem xQ(de:DE){ρ:j9}:VY de ρ=(de ρ).bind vI:=rfl
theorem AG{es:List Expr}{x1:Nat}{tp ap cp:Pos}(h:PE X e (tP K de))(hb:attributeBase e "items" X.env (eval e X.env)=eval e X.env)(hl:(ap.endLine == cp.line)=true):PI X (.Tuple es x1 tp) (.Call (.Attribute e "items" ap) [] [] cp) (Ys K (VY de)):=Z0 (xP h hb hl) fun σ H R ⟨H0,O0,ρ,O,items,Re,ed,q⟩=>by
  obtain⟨x,e1,e2⟩:=bind_some ed
  refine⟨H0,O0,ρ,O,x,Re,e1,fun v H1 s1 r=>?_⟩
  have R1:=Re.grow s1
  unfold vI at e2
  split at e2
  · cases e2
    obtain⟨p,kvs,ep,rfl,al⟩:=r.dct
    refine⟨p,kvs,ep,rfl,(al H1 O R1.keep R1.in0 (j4.refl _)).1,q _ H1 s1 fun i H' O' t0 t1 t2 ta=>?_⟩
    obtain⟨g1,g3,g4⟩:=al H' O' t0 t1 t2
    have l3:=g3.len
    have l4:=g4.len
    rw[List.length_map]at l3 l4
    refine⟨fun d hd=>?_,fun hi=>⟨g1,by rw[hi,List.length_zipWith]; omega⟩⟩
    rw[List.getElem?_zipWith]at hd
    split at hd
    · rename_i dk dv hk hv
      cases hd
      obtain⟨x',hx,rx⟩:=g3.get hk
      obtain⟨x2,hx2,rx2⟩:=g4.get hv
      rw[List.getElem?_map]at hx hx2
      obtain⟨y,hy,rfl⟩:=Option.map_eq_some_iff.mp hx
      rw[hy]at hx2
      cases hx2
      refine⟨⟨g1,(List.getElem?_eq_some_iff.mp hy).1⟩,fun x'' H'' yy=>?_⟩
      obtain⟨pp,hpp,rfl,yy⟩:=yy
      rw[yy _ hy]
      exact⟨jK hpp _,xC (fun z=>ta pp z hpp) hpp rx rx2⟩
    · cases hd
  · cases e2
noncomputable def K9(de:DE):DI:=fun ρ=>(de ρ).bind fun d=>(Z1 d).bind fun l=>some l.reverse
@[simp] theorem FY(de:DE){ρ:j9}:K9 de ρ=(de ρ).bind fun d=>(Z1 d).bind fun l=>some l.reverse:=rfl
theorem eS{p:Pos}(hg:Gl X "reversed")(hm:X.mg "reversed" = none)(h:PE X a (tP K da))(hs:starEach [a] X.env=[(false,eval a X.env)])(hK:X.K=K:=by rfl):PI X tg (.Call (.Name "reversed" p) [a] [] pos) (Ys K (K9 da)):=Z0 (cK hg hm (Jd h Y9 (by rw[hs]; rfl)) hs) fun σ H R ⟨H0,O0,ρ,O,items,Re,ed,q⟩=>by
  subst hK
  obtain⟨x,e1,ed⟩:=bind_some ed
  obtain⟨l,e3,ed⟩:=bind_some ed
  cases ed
  refine⟨H0,O0,ρ,O,x,Re,e1,fun v H1 s1 r=>?_⟩
  have R1:=Re.grow s1
  unfold Z1 at e3
  split at e3
  · cases e3
    obtain⟨p,xs,rfl,h1,h2⟩:=(r.at R1.keep R1.in0 (j4.refl _)).lst
    have hlen:=h2.len
    refine⟨p,xs,rfl,jy.of h1,q _ H1 s1 fun i H' O' t0 t1 t2 ta=>?_⟩
    obtain⟨p',us,ea,g1,g2⟩:=(r.at t0 t1 t2).lst
    cases ea
    have hl2:=g2.len
    refine⟨fun d hd=>?_,fun hi=>by rw[hi,List.length_reverse]; show xs.length<=_; omega⟩
    have hil:i < l.length:=by have:=(List.getElem?_eq_some_iff.mp hd).1; simpa using this
    rw[List.getElem?_reverse hil]at hd
    obtain⟨u,hu,ru⟩:=g2.get hd
    refine⟨⟨us,jy.of g1,by omega,by omega⟩,fun x' H'' yy=>?_⟩
    obtain⟨z1,z2⟩:=yy
    have z3:=z2 us (jy.of g1)
    rw[hlen,hu]at z3
    cases z3
    rw[z1]
    exact⟨j4.refl _,ru⟩
  · cases e3
noncomputable def uI:List D->Option (List Int)
  | []=>some []
  | .int i :: r=>(uI r).bind fun is=>some (i :: is)
  | _=>none
theorem gi{H:Hp}:∀{l:List D} {is:List Int} {xs:List V},uI l=some is->j3 K H l xs->xs=is.map V.int
  | [],is,xs,e,r=>by rw[uI]at e; cases e; rw[j3]at r; exact r
  | d :: l,is,xs,e,r=>by
    unfold uI at e
    split at e
    · rename_i h; cases h
    · rename_i h
      cases h
      obtain⟨js,e1,e2⟩:=bind_some e
      cases e2
      rw[j3]at r
      obtain⟨v,vs,rfl,r1,r2⟩:=r
      rw[j7]at r1
      rw[r1,gi e1 r2]
      rfl
    · cases e
noncomputable def WG:List D->Option D
  | [.lst l]=>(uI l).bind fun is=>some (.int is.sum)
  | _=>none
@[simp] theorem FZ(l:List D):WG [.lst l]=(uI l).bind fun is=>some (.int is.sum):=rfl
theorem GD(is:List Int):∀n,n<=is.length->preSum (fun i=>(is[i]?).getD 0) n=(is.take n).sum
  | 0,_=>by simp[preSum]
  | n + 1,h=>by
    rw[preSum,GD is n (by omega),List.take_succ_eq_append_getElem (by omega),List.sum_append]
    simp[show n < is.length by omega]
theorem xR(hc:X.calm=true):yW X (.builtin "sum") (fun xs H Q=>∃(p:Addr) (is:List Int),xs=[.ref p]/\jy X.K H p (is.map V.int)/\Q (.int is.sum) H):=by
  intro pins s σ H xs us Q I r h
  obtain⟨p,is,rfl,hq,q⟩:=h
  cases r with
  | cons r rr=>
    cases rr
    cases r
    obtain⟨its,rv,pl,hz⟩:=I.list hq
    refine call_sum_walkG (wpAny_pyIter_list pl.isList ?_)
    have hp:p < s.heap.objs.size:=by obtain⟨o,ho,_⟩:=pl.isList; exact Heap.lt_size ho
    have hlen:its.length=is.length:=by have:=rv.length; simp at this; omega
    refine⟨s.heap.objs.size,_,_,_,_,_,fun i=>(is[i]?).getD 0,rfl,Walks.list (A:=X.A.in1) (I.ok.hd hc) s.heap.objs.size p (Nat.ne_of_lt hp) its.toArray,⟨⟨_,Heap.get?_push_size _ rfl,rfl,rfl⟩,Heap.IsList.at pl.isList fun o e=>Heap.get?_push_of_some _ e⟩,?_,?_,fun h' tk t' hk=>?_⟩
    · intro b hb
      rw[Heap.size_push]
      simp only[List.mem_cons,List.not_mem_nil,or_false]at hb
      rcases hb with rfl | rfl
      · exact Nat.lt_succ_self _
      · exact Nat.lt_succ_of_lt hp
    · intro i v hv
      have hv:its[i]?=some v:=by simpa using hv
      have hi:i < is.length:=by rw[<-hlen]; exact(List.getElem?_eq_some_iff.mp hv).1
      obtain⟨u,eu,ru⟩:=rv.get (i:=i) (x:=V.int is[i]) (by simp[hi])
      rw[hv]at eu
      cases eu
      obtain⟨t,rfl⟩:=ru
      exact⟨t,by simp[hi]⟩
    · refine⟨.int is.sum,H,I.kept (t':=tk) (h':=h') (fun b o e=>hk b o ?_ (Heap.get?_push_of_some _ e)),⟨t',?_⟩,q⟩
      · intro z
        have z:b=s.heap.objs.size:=by simpa using z
        exact Nat.lt_irrefl _ (z▸Heap.lt_size e)
      · rw[List.size_toArray,hlen,GD is _ (Nat.le_refl _),List.take_length]
theorem eT:Fn K (fun xs H Q=>∃(p:Addr) (is:List Int),xs=[.ref p]/\jy K H p (is.map V.int)/\Q (.int is.sum) H) WG:=by
  intro O H ks ds vs d Q ak _ e q
  unfold WG at e
  split at e
  · obtain⟨is,e1,e2⟩:=bind_some e
    cases e2
    obtain⟨v,rfl,r⟩:=YG ak
    obtain⟨p,xs,rfl,h1,h2⟩:=r.lst
    have:=gi e1 h2
    subst this
    exact⟨p,is,rfl,jy.of h1,q _ H (j4.refl H) (by rw[j7])⟩
  · cases e
end
end DS
namespace DS
open PySem PySem.Spec PyProof.Rows L2
noncomputable def cO(lo:Int)(n:Nat):It:=⟨fun i _=>i < n,fun i H x H'=>H'=H/\x=.int (lo - i),fun i _=>n<=i⟩
theorem Q4{P:Program}{w:World}{K:PySem.W.Frag}{tg:Expr}(it:Addr)(lo:Int)(n:Nat):Turn P w K tg (cO lo n) [it] it (fun i h=>IsRangeIter h it (lo + (i:Nat) * -1) ((n:Int) - (i:Nat)) (-1)) where
  mem:=by simp
  obj:=fun i h st b hb=>by
    have e:b=it:=by simpa using hb
    subst e
    exact⟨_,st,fun v z=>by
      have z':Data.fields _=Data.cell v:=z
      cases z'⟩
  keep:=fun i h h' st k=>k it (by simp) _ st
  item:=by
    intro X hP hw hK hc i pins s σ H E I hf st hg
    subst hP hw hK
    obtain⟨f0,f1,f2,f3,f4,f5⟩:=hf it (by simp)
    have W:=Walks.range (prog:=X.prog) (w:=X.w) (I.ok.hd hc) it lo (-1) n
    refine W.item i s _ _ hg st fun v h' tk hv st' kk=>?_
    obtain⟨t,rfl⟩:=hv
    have I1:Inv X pins σ H { s with heap:=h',toks:=tk }:=I.turned (fun b o hb e=>kk b o (by simpa using hb) e) f0 f1 f3 f4 f5
    refine⟨_,rfl,uz (s:={ s with heap:=h',toks:=tk }) (n := "range_iterator") st' rfl rfl (by decide) ⟨.int (lo - i),H,I1,⟨t,?_⟩,⟨rfl,rfl⟩,st',fun b hb=>(hf b hb).1⟩⟩
    rw[show lo + (i:Int) * -1=lo - i by omega]
  done:=by
    intro X hP hw hK hc i pins s σ H E I hf st hg
    subst hP hw hK
    obtain⟨f0,f1,f2,f3,f4,f5⟩:=hf it (by simp)
    exact wpAny_pyNext_range_end (I.ok.hd hc) st (by have:n<=i:=hg; omega) fun h' eb=>⟨rfl,I.turned (t':=s.toks) (fun b o hb e=>eb b o hb e) f0 f1 f3 f4 f5⟩
  self:=fun _ _ _ _ _ st h=>wpAny_pyIter_rangeiter st h
theorem GE(a b:Int):Builtin.Range.rangeSize a b (-1)=if b < a then a - b else 0:=by
  unfold Builtin.Range.rangeSize
  rw[if_neg (by decide)]
  by_cases h:a > b
  · rw[if_pos h,if_pos h,show(-(-1):Int)=1 by decide,Int.ediv_one]; omega
  · rw[if_neg h,if_neg (by omega)]
theorem WH{a b:Int}(ha:-(2 ^ 62)<=a)(ha':a < 2 ^ 62)(hb:-(2 ^ 62)<=b)(hb':b < 2 ^ 62):Builtin.Range.small a b (-1)=true:=by
  unfold Builtin.Range.small
  rw[GE]
  simp only[Builtin.Range.rangeFitsLong,Bool.and_eq_true,Bool.or_eq_true,decide_eq_true_eq,beq_iff_eq,show¬(-1:Int) > 0 by decide,if_false]
  split <;> omega
section
variable {X:Cx} {K:Fr} {e a b c d tg:Expr} {de da db dc dd dk:DE} {pos:Pos}
noncomputable def F_(ta:TA):TI:=fun σ H R=>ta σ H fun vs H1=>∃i j:Int,vs=[.int i,.int j,.int (-1)]/\(-(2 ^ 62)<=i/\i < 2 ^ 62/\-(2 ^ 62)<=j/\j < 2 ^ 62)/\R (cO i (i - j).toNat) H1
theorem AH{ta:TA}{p:Pos}(hg:Gl X "range")(hm:X.mg "range" = none)(ha:PA X [a,b,c] ta)(hs:starEach [a,b,c] X.env=(false,eval a X.env) :: starEach [b,c] X.env)(hs2:(backTo pos (starEach [b,c] X.env)).any (·.1)=false):PI X tg (.Call (.Name "range" p) [a,b,c] [] pos) (F_ ta):=by
  intro pins s σ H R I h
  refine Call_ (Y8 I hg hm boot_range (PyProof.Rows.callWith_type1 (jp (ha pos pins s σ H _ I h) fun us s1 ⟨vs,H1,I1,r1,q1⟩=>?_) hs hs2))
  obtain⟨i,j,rfl,⟨q1,q2,q3,q4⟩,q⟩:=q1
  cases r1 with
  | cons r rr=>
  cases rr with
  | cons r' rr=>
  cases rr with
  | cons r'' rr=>
  cases rr
  obtain⟨t,rfl⟩:=r
  obtain⟨t',rfl⟩:=r'
  obtain⟨t'',rfl⟩:=r''
  refine call_range_3 (by decide) (wpAny_pyIter_range (IsRange.new ..) (WH q1 q2 q3 q4) ?_) (.inl (PyProof.noPylong_small (by omega)))
  have I2:Inv X pins σ H1 { s1 with heap:=s1.heap.push { cls:=.type "range",data:=.fields #[.int i t,.int j t',.int (-1) t''] } }:=I1.kept (t':=s1.toks) fun b o e=>Heap.get?_push_of_some _ e
  generalize s1.heap.push { cls:=.type "range",data:=.fields #[.int i t,.int j t',.int (-1) t''] }=h2 at I2
  refine⟨h2.objs.size,[h2.objs.size],_,_,H1,rfl,I2.kept (t':=s1.toks) fun b o e=>Heap.get?_push_of_some _ e,Q4 _ i (i - j).toNat,?_,fun b hb=>?_,q⟩
  · have e1:i + ((0:Nat):Int) * -1=i:=by simp
    have e2:(((i - j).toNat:Nat):Int) - ((0:Nat):Int)=Builtin.Range.rangeSize i j (-1):=by rw[GE]; split <;> omega
    show IsRangeIter _ _ (i + ((0:Nat):Int) * -1) ((((i - j).toNat:Nat):Int) - ((0:Nat):Int)) (-1)
    rw[e1,e2]
    exact Heap.get?_push_size _ rfl
  · have e:b=h2.objs.size:=by simpa using hb
    subst e
    exact I2.fpOk (Nat.le_refl _) (I2.hok.fresh (Nat.le_refl _))
noncomputable def Q5(lo:Int)(n:Nat):List D:=(List.range n).map fun(i:Nat)=>D.int (lo - (i:Int))
noncomputable def WI(da db dc:DE):DI:=fun ρ=>(da ρ).bind fun x=>(db ρ).bind fun y=>(dc ρ).bind fun z=>match x,y,z with
  | .int i,.int j,.int k=>if k=-1/\(jF i && jF j)=true then some (Q5 i (i - j).toNat)else none
  | _,_,_=>none
@[simp] theorem FC(da db dc:DE){ρ:j9}:WI da db dc ρ=(da ρ).bind fun x=>(db ρ).bind fun y=>(dc ρ).bind fun z=>match x,y,z with
  | .int i,.int j,.int k=>if k=-1/\(jF i && jF j)=true then some (Q5 i (i - j).toNat)else none
  | _,_,_=>none:=rfl
theorem eU{H0 H:Hp}{O0 O:List Addr}{lo:Int}{n:Nat}:kR K (cO lo n) H0 O0 H O (Q5 lo n):=fun i H' O' _ _ _ _=>by
  refine⟨fun d hd=>?_,fun hi=>by show n<=i; rw[hi]; unfold Q5; simp⟩
  unfold Q5 at hd
  rw[List.getElem?_map]at hd
  obtain⟨j,hj,rfl⟩:=Option.map_eq_some_iff.mp hd
  have hlt:=(List.getElem?_eq_some_iff.mp hj).1
  have e:j=i:=by
    rw[List.getElem?_range (by simpa using hlt)]at hj
    exact(Option.some.inj hj).symm
  subst e
  refine⟨by show j < n; simpa using hlt,fun x H'' y=>?_⟩
  obtain⟨e1,e2⟩:=y
  rw[e1,e2]
  exact⟨j4.refl _,by rw[j7]⟩
theorem cP{p:Pos}(hg:Gl X "range")(hm:X.mg "range" = none)(h:PE X a (tR K da))(h':PE X b (tR K db))(h'':PE X c (tR K dc))(s1:starEach [a,b,c] X.env=(false,eval a X.env) :: starEach [b,c] X.env)(s2:starEach [b,c] X.env=(false,eval b X.env) :: starEach [c] X.env)(s3:starEach [c] X.env=[(false,eval c X.env)]):
    PI X tg (.Call (.Name "range" p) [a,b,c] [] pos) (Ys K (WI da db dc)):=Z0 (AH hg hm (Jd h (Jd h' (Jd h'' Y9 (by rw[s3]; rfl)) s2) s1) s1 (by rw[s2,s3]; rfl)) fun σ H R ⟨H0,O0,ρ,O,items,Re,ed,q⟩=>by
  obtain⟨x,e1,ed⟩:=bind_some ed
  obtain⟨y,e2,ed⟩:=bind_some ed
  obtain⟨z,e3,ed⟩:=bind_some ed
  refine⟨H0,O0,ρ,O,x,Re,e1,fun v1 H1 s1 r1=>⟨H0,O0,ρ,O,y,Re.grow s1,e2,fun v2 H2 s2 r2=>⟨H0,O0,ρ,O,z,(Re.grow s1).grow s2,e3,fun v3 H3 s3 r3=>?_⟩⟩⟩
  split at ed
  · split at ed
    · rename_i hh
      cases ed
      obtain⟨rfl,hs⟩:=hh
      rw[Bool.and_eq_true]at hs
      obtain⟨b1,b2⟩:=Yt hs.1
      obtain⟨b3,b4⟩:=Yt hs.2
      rw[r1.int,r2.int,r3.int]
      exact⟨_,_,rfl,⟨b1,b2,b3,b4⟩,q _ H3 ((s1.trans s2).trans s3) eU⟩
    · cases ed
  · cases ed
end
end DS
namespace L2
open PySem PySem.Spec PyProof.Rows
section
variable {X:Cx}
theorem cR(bs:List Bool)(n:Nat)(hn:n=bs.length):((List.range n).any fun i=>(bs[i]?).getD true)=bs.any id:=by
  subst hn
  rw[Bool.eq_iff_iff]
  simp only[List.any_eq_true,List.mem_range,id]
  constructor
  · rintro⟨i,hi,e⟩
    exact⟨bs[i],List.getElem_mem hi,by simpa[hi]using e⟩
  · rintro⟨x,hx,e⟩
    obtain⟨i,hi,rfl⟩:=List.mem_iff_getElem.mp hx
    exact⟨i,hi,by simpa[hi]using e⟩
theorem xS(hc:X.calm=true):yW X (.builtin "any") (fun xs H Q=>∃(p:Addr) (bs:List Bool),xs=[.ref p]/\jy X.K H p (bs.map V.bl)/\Q (.bl (bs.any id)) H):=by
  rintro pins s σ H _ us Q I r ⟨p,bs,rfl,hq,q⟩
  cases r with
  | cons r rr=>
    cases rr
    cases r
    obtain⟨its,rv,pl,hz⟩:=I.list hq
    have hp:p < s.heap.objs.size:=by
      obtain⟨o,ho,_⟩:=pl.isList
      exact Heap.lt_size ho
    have hlen:its.length=bs.length:=by
      have:=rv.length
      rw[List.length_map]at this
      omega
    have W:=Walks.list (prog:=X.prog) (w:=X.w) (A:=X.A.in1) (I.ok.hd hc) s.heap.objs.size p (Nat.ne_of_lt hp) its.toArray
    refine call_any_walk (wpAny_pyIter_list pl.isList ⟨_,_,_,_,_,_,fun i=>(bs[i]?).getD true,rfl,W,?_,?_,?_⟩)
    · exact⟨⟨_,Heap.get?_push_size _ rfl,rfl,rfl⟩,pl.isList.at fun o e=>Heap.get?_push_of_some _ e⟩
    · intro i v s' Q' E' hv hq'
      have hv:its[i]?=some v:=by simpa using hv
      have hi:i < bs.length:=by
        rw[<-hlen]
        exact(List.getElem?_eq_some_iff.mp hv).1
      obtain⟨u,eu,ru⟩:=rv.get (i:=i) (x:=V.bl bs[i]) (by simp[hi])
      cases hv.symm.trans eu
      cases ru
      refine wpAny_truthy_bool ?_
      have hq':Q' ((bs[i]?).getD true) s':=hq'
      rwa [List.getElem?_eq_getElem hi]at hq'
    · intro h' tk hk
      rw[cR bs _ (by rw[List.size_toArray,hlen])]
      have J:Inv X pins σ H { s with heap:=h',toks:=tk }:=I.turnedL (t':=tk) (ch:=[s.heap.objs.size]) (fun b hb=>by
        rw[List.mem_singleton]at hb
        subst hb
        exact I.fpOk (Nat.le_refl _) (I.hok.fresh (Nat.le_refl _))) fun c o hc' e'=>hk c o hc' (Heap.get?_push_of_some _ e')
      exact⟨.bl (bs.any id),H,J,rfl,q⟩
end
end L2
namespace DS
open PySem L2
section
variable {K:Fr}
@[simp] noncomputable def g_:List D->Option D
  | [.lst l]=>(v5 l).bind fun bs=>some (.bl (bs.any id))
  | _=>none
theorem eV:Fn K (fun xs H Q=>∃(p:Addr) (bs:List Bool),xs=[.ref p]/\jy K H p (bs.map V.bl)/\Q (.bl (bs.any id)) H) g_:=by
  intro O H ks ds vs d Q h hn e q
  unfold g_ at e
  split at e
  · obtain⟨bs,e1,e2⟩:=bind_some e
    cases e2
    obtain⟨v,rfl,r⟩:=YG h
    obtain⟨p,xs,rfl,h1,h2⟩:=r.lst
    rw[VR e1 h2]at h1
    exact⟨p,bs,rfl,jy.of h1,q _ H (j4.refl H) (by rw[j7])⟩
  · cases e
end
end DS
namespace CP
open PySem PySem.Spec PyProof.Rows L2 DS
inductive GI where
  | con (i:Int)
  | fE (k:Nat) (ps:List Str) (ks:List Bool) (F:List D->Option D)
  | fF (k:Nat) (ps:List Str) (ks:List Bool) (F:List D->Option OD)
  | mk (k:Nat) (ps:List Str) (ks:List Bool) (F:Addr->List D->Option OD) (G:List D->Option OD)
  | blt
structure Gm where
  N:List Str
  sc:Scope
  fn:Bool
  kF:Bool
  C:Addr
  gs:List (Str×GI)
  ms:List (Str×GI)
  fl:List Str
  hs:List ((Nat×Nat×Nat)×List Nat)
  sh:List (Nat×Nat)
  ow:List Nat
inductive Dn where
  | E (d:DE) | F (d:DO)
noncomputable def Dn.e:Dn->DE
  | .E d=>d
  | .F d=>dL d
noncomputable def G1(x:Str):List Str->Option Nat
  | []=>none
  | y :: r=>if x=y then some 0 else(G1 x r).map (· + 1)
noncomputable def kd(sc:Scope)(x:Str):Option NameKind:=sc.names.lookup x
noncomputable def WJ(sc:Scope)(x:Str):Bool:=match kd sc x with
  | some .local=>true
  | some .cell=>true
  | some .free=>true
  | _=>false
noncomputable def WK(sc:Scope)(x:Str):Bool:=match kd sc x with
  | some .local=>true
  | some .cell=>true
  | _=>false
noncomputable def WL(sc:Scope)(x:Str):Bool:=match kd sc x with
  | some .local=>true
  | _=>false
noncomputable def aj(Γ:Gm)(x:Str):Bool:=(match kd Γ.sc x with
  | some .globalImplicit=>true
  | _=>false) && !(x == ("__debug__" : Str))
noncomputable def cG(c:Bool){α:Type}(o:Option α):Option α:=if c then o else none
noncomputable def slot(Γ:Gm)(x:Str):Option Nat:=(G1 x Γ.N).bind fun i=>if WJ Γ.sc x && (!(x == ("__debug__" : Str)) && !(x == ("__classdict__" : Str)))then some i else none
noncomputable def nm(Γ:Gm):Expr->Option Nat
  | .Name x _=>slot Γ x
  | _=>none
noncomputable def ao(Γ:Gm)(x:Str):Option Nat:=(G1 x Γ.N).bind fun i=>if WK Γ.sc x && (Γ.fn || WL Γ.sc x)then some i else none
noncomputable def yh:Expr->Bool
  | .Starred _ _=>false
  | _=>true
structure Rc where
  n:Gm->Expr->Option Dn
  t:Gm->Expr->Option DT
  g:Gm->Nat->Expr->Option DG
section
variable (r:Rc) (Γ:Gm)
noncomputable def cV(f:Nat->DE)(e:Expr):Option DE:=match nm Γ e with
  | some i=>some (f i)
  | none=>(r.n Γ e).map Dn.e
noncomputable def cA:List Bool->List Expr->Option DA
  | [],[]=>some []
  | k :: ks,e :: es=>if yh e then(cV r Γ (if k then dC else dV) e).bind fun d=>(cA ks es).bind fun l=>some ((k,d) :: l)else none
  | _,_=>none
noncomputable def cU:Operator->Option (D->D->Option D)
  | .Add=>some jA
  | .Sub=>some v4
  | .Mult=>some JV
  | .Mod=>some jL
  | .FloorDiv=>some Ui
  | .Pow=>some xy
  | _=>none
noncomputable def vY:CmpOp->Option (D->D->Option D)
  | .Eq=>some jR
  | .NotEq=>some Jk
  | .Lt=>some Vm
  | .LtE=>some Ji
  | .Gt=>some zW
  | .GtE=>some qM
  | .In=>some (VV false)
  | .NotIn=>some (VV true)
  | .Is=>some Uj
  | .IsNot=>some yC
noncomputable def cB(f:DE->DE->DE):List Expr->Option DE
  | []=>none
  | [a]=>cV r Γ dC a
  | a :: b=>(cV r Γ dV a).bind fun d=>(cB f b).bind fun d'=>some (f d d')
noncomputable def cW(f:DT->DT->DT):List Expr->Option DT
  | []=>none
  | [a]=>r.t Γ a
  | a :: b=>(r.t Γ a).bind fun d=>(cW f b).bind fun d'=>some (f d d')
noncomputable def xT:Option Expr->Option UW
  | none=>some fun _=>some none
  | some e=>(cV r Γ dV e).map fun d=>fun ρ=>(d ρ).bind zp
noncomputable def VZ(p:Pos):Option (List Nat):=Γ.hs.lookup (p.line,p.col,p.endCol)
noncomputable def Ka:Expr->Bool
  | .Call _ _ _ _=>false
  | _=>true
noncomputable def WM:Expr->Bool
  | .Slice _ _ _ _=>false
  | _=>true
noncomputable def xU(x:Str)(n:Nat):Option (List D->Option D):=
  if x = "len" then some Jf else if x = "tuple" then some JU else if x = "int" then some xB else if x = "all" then some zE
  else if x = "max" then some Uk else if x = "min" then some gR else if x = "sum" then some WG else if x = "any" then some g_ else none
noncomputable def xV(x:Str)(h:Bool):Option (List D->Option OD):=if x = "list" then some (if h then zt else vW)else none
noncomputable def Q6(x:Str):Bool:=aj Γ x && (match Γ.gs.lookup x with | some .blt=>true | _=>false)
noncomputable def xW(x:Str):Option String:=if x = "list" then some "list" else if x = "tuple" then some "tuple" else if x = "bool" then some "bool" else if x = "str" then some "str" else if x = "int" then some "int" else none
noncomputable def cX(e:Expr):Option DI:=(cV r Γ dP e).map fun d=>match VZ Γ e.pos with
  | some (_ :: _)=>WF d
  | _=>J1 d
noncomputable def cY(tup:Bool)(x:Str)(as:List Expr):Option DI:=
  if Q6 Γ x then(match as with
    | [a]=>if x = "range" then cG (yh a) ((cV r Γ dV a).map yf)
      else if x = "enumerate" then cG (yh a && tup) ((cV r Γ dP a).map U_)
      else if x = "reversed" then cG (yh a) ((cV r Γ dP a).map K9)else none
    | [a,b]=>if x = "range" then cG (yh a && yh b) ((cV r Γ dV a).bind fun d=>(cV r Γ dV b).map fun d'=>Wy d d')
      else if x = "zip" then cG (yh a && yh b && tup) ((cV r Γ dP a).bind fun d=>(cV r Γ dP b).map fun d'=>Ul d d')else none
    | [a,b,c]=>if x = "range" then cG (yh a && yh b && yh c) ((cV r Γ dV a).bind fun d=>(cV r Γ dV b).bind fun d'=>(cV r Γ dV c).map fun d''=>WI d d' d'')else none
    | _=>none)else none
noncomputable def uJ:Expr->Bool
  | .Tuple _ _ _=>true
  | _=>false
noncomputable def ki:Expr->Bool
  | .Set _ _ _=>false
  | _=>true
noncomputable def cZ(tg e f:Expr)(as:List Expr)(ks:List Keyword)(p:Pos):Option DI:=match f with
  | .Name x _=>(match ks with
    | []=>(match cY r Γ (uJ tg) x as with
      | some d=>some d
      | none=>cX r Γ e)
    | _ :: _=>none)
  | .Attribute a m ap=>(match as,ks with
    | [],[]=>cG (m == ("items" : Str) && uJ tg && Ka a && ap.endLine == p.line) ((cV r Γ dP a).map VY)
    | _,_=>none)
  | _=>none
noncomputable def cI(tg:Expr)(e:Expr):Option DI:=match e with
  | .Call f as ks p=>cZ r Γ tg e f as ks p
  | _=>cG (ki e) (cX r Γ e)
noncomputable def c_(scope sc:Scope):Scope:={ scope with names:=scope.names.map fun(n,k)=>if k == .free && sc.kind == .function && sc.names.lookup n == some .cell then(n,.cell)else(n,k) }
noncomputable def Ek:Nat->Expr->List Str
  | 0,_=>[]
  | _ + 1,.Name x _=>[x]
  | n + 1,.Tuple es _ _=>(es.map (Ek n)).flatten
  | _,_=>[]
noncomputable def Kb:List Str->Bool
  | []=>true
  | x :: r=>!(r.contains x) && Kb r
noncomputable def xX:List Nat->Bool
  | []=>true
  | x :: r=>!(r.contains x) && xX r
noncomputable def C0(scope:Scope)(p:Str×Nat):Bool:=(match Γ.N[p.2]? with
    | some y=>y == p.1
    | none=>false) && (match kd Γ.sc p.1 with
    | some .cell=>true
    | some .free=>true
    | _=>false) && (match kd scope p.1 with
    | some .free=>true
    | _=>false)
noncomputable def El(scope:Scope):Bool:=(match scope.kind with | .function=>true | _=>false) && (scope.names.all fun y=>y.2 != .local || scope.names.lookup y.1 == some .local) && (scope.names.all fun y=>y.2 != .cell) &&
  (scope.names.all fun y=>y.2 != .free || Γ.sc.names.lookup y.1 == some .cell || Γ.sc.names.lookup y.1 == some .free)
noncomputable def C1(p:Pos):List (Str×Nat):=((VZ Γ p).getD []).map fun j=>(Γ.N.getD j "",j)
noncomputable def uK(own:List Str)(caps:List (Str×Nat))(scope:Scope):Gm:={ Γ with N:=own ++ caps.map (·.1),sc:=c_ scope Γ.sc,fn:=false }
noncomputable def C2(elt tg iter:Expr)(ifs:List Expr)(scope:Scope)(p:Pos):Option DO:=
  let own:=Ek 5 tg
  let caps:=C1 Γ p
  let Δ:=uK Γ own caps scope
  cG (El Γ scope && caps.all (C0 Γ scope) && Kb Δ.N && xX (caps.map fun z:Str×Nat=>z.2) && ki iter)
    ((cI r Γ tg iter).bind fun di=>(r.g Δ own.length tg).bind fun g=>(match ifs with
      | []=>some jZ
      | [c]=>r.t Δ c
      | _=>none).bind fun dc=>(cV r Δ dC elt).bind fun de=>some (Yc own.length (caps.map fun z:Str×Nat=>z.2) di g dc de))
noncomputable def xY(es:List Expr):Option Dn:=match es with
  | [a,t]=>(match t with
    | .Name t _=>cG (yh a && Q6 Γ t) ((xW t).bind fun T=>(cV r Γ dV a).map fun d=>.E (d1 (zF T) d))
    | .Tuple ts _ _=>(match ts with
      | [.Name t _,.Name u _]=>cG (yh a && Q6 Γ t && Q6 Γ u && t == ("list" : Str) && u == ("tuple" : Str)) ((cV r Γ dV a).map fun d=>.E (d1 WB d))
      | _=>none)
    | _=>none)
  | _=>none
noncomputable def aq(x:Str)(es:List Expr)(p:Pos):Option Dn:=cG (aj Γ x && !es.isEmpty) (match Γ.gs.lookup x with
  | some (.fE _ _ ks F)=>(cA r Γ ks es).map fun l=>.E (j8 F l)
  | some (.fF _ _ ks F)=>(cA r Γ ks es).map fun l=>.F (jY F l)
  | some (.mk _ _ ks _ G)=>(cA r Γ ks es).map fun l=>.F (kg G l)
  | some .blt=>if x = "isinstance" then xY r Γ es
    else(cA r Γ (es.map fun _=>false) es).bind fun l=>(match xU x es.length with
      | some f=>some (.E (j8 f l))
      | none=>(xV x (VZ Γ p).isSome).map fun f=>.F (jY f l))
  | _=>none)
noncomputable def C3:Const->Option Dn
  | .int i=>some (.E (dK (.int i)))
  | .bool i=>some (.E (dK (.bl i)))
  | .none=>some (.E (dK .non))
  | .str i=>some (.E (dK (.str i)))
  | _=>none
noncomputable def C4(op:UnaryOp)(a:Expr):Option Dn:=match op with
  | .USub=>(cV r Γ dV a).map fun d=>.E (Yr d)
  | .Not=>(cV r Γ dV a).map fun d=>.E (ke d)
  | _=>none
noncomputable def Em(a:Expr)(op:Operator)(b:Expr)(p:Pos):Option Dn:=(cV r Γ dV a).bind fun d=>(cV r Γ dV b).bind fun d'=>(match VZ Γ p with
    | some _=>(match op with
      | .Add=>some (.F (qL Ww d d'))
      | .Mult=>some (.F (qL Wx d d'))
      | _=>none)
    | none=>(cU op).map fun f=>.E (d2 f d d'))
noncomputable def fY:CmpOp->Option (D->D->Option D)
  | .In=>some (WE false)
  | .NotIn=>some (WE true)
  | _=>none
noncomputable def ar(p:Pos)(o:CmpOp):Option (D->D->Option D):=if (VZ Γ p).isSome then fY o else vY o
noncomputable def C5(a:Expr)(os:List CmpOp)(bs:List Expr)(p:Pos):Option DE:=match os,bs with
  | [o],[b]=>cG (!behindInMarks o b) ((cV r Γ dV a).bind fun d=>(cV r Γ dV b).bind fun d'=>(ar Γ p o).map fun f=>d2 f d d')
  | [o,o'],[b,c]=>cG (!lastMarks [o,o'] [b,c]) ((cV r Γ dV a).bind fun d=>(cV r Γ dV b).bind fun d'=>(cV r Γ dV c).bind fun d''=>(vY o).bind fun f=>(vY o').map fun f'=>J8 f f' d d' d'')
  | [o,o',o''],[b,c,e]=>cG (!lastMarks [o,o',o''] [b,c,e]) ((cV r Γ dV a).bind fun d=>(cV r Γ dV b).bind fun d'=>(cV r Γ dV c).bind fun d''=>(cV r Γ dV e).bind fun d3=>
      (vY o).bind fun f=>(vY o').bind fun f'=>(vY o'').map fun f''=>vG f f' f'' d d' d'' d3)
  | _,_=>none
noncomputable def C6(a b:Expr)(p:Pos):Option Dn:=match b with
  | .Slice lo hi st _=>(match st with
    | none=>(cV r Γ dV a).bind fun d=>(xT r Γ lo).bind fun x=>(xT r Γ hi).map fun y=>(match VZ Γ p with
      | some _=>.E (kf d x y)
      | none=>.F (Ye d x y))
    | some _=>none)
  | b=>cG (WM b) ((cV r Γ dV a).bind fun d=>(cV r Γ dV b).map fun d'=>.E (d2 (if (VZ Γ p).isSome then yg else jc) d d'))
noncomputable def au(elt:Expr)(gs:List Comprehension)(scope:Scope)(p:Pos):Option DO:=match gs with
  | [⟨tg,iter,ifs,a⟩]=>cG (a == 0) (C2 r Γ elt tg iter ifs scope p)
  | _=>none
noncomputable def C7(a:Expr)(m:Str)(ap:Pos)(es:List Expr)(p:Pos):Option Dn:=match a,es with
  | .Name x np,[]=>cG (ap.endLine == p.line) ((cV r Γ dV (.Name x np)).bind fun d=>match Γ.ms.lookup m with
    | some (.fE _ _ _ F)=>some (.E (d1 (ZQ Γ.C m F) d))
    | some (.fF _ _ _ F)=>some (.F (BR (kU Γ.C m F) d))
    | _=>none)
  | _,_=>none
noncomputable def En(f:Expr)(es:List Expr)(ks:List Keyword)(p:Pos):Option Dn:=match ks with
  | []=>(match f with
    | .Name x _=>aq r Γ x es p
    | .Attribute a m ap=>C7 r Γ a m ap es p
    | _=>none)
  | _ :: _=>none
noncomputable def cN(e:Expr):Option Dn:=match e with
  | .Name x _=>cG (aj Γ x) (match Γ.gs.lookup x with
    | some (.con i)=>some (.E (dK (.int i)))
    | _=>none)
  | .Constant c _ _=>C3 c
  | .UnaryOp op a _=>C4 r Γ op a
  | .BinOp a op b p=>Em r Γ a op b p
  | .Compare a os bs p=>(C5 r Γ a os bs p).map .E
  | .BoolOp op vs _=>(match op with
    | .And=>(cB r Γ JC vs).map .E
    | .Or=>(cB r Γ gQ vs).map .E)
  | .IfExp c a b _=>(r.t Γ c).bind fun t=>(cV r Γ dC a).bind fun d=>(cV r Γ dC b).map fun d'=>.E (Zj t d d')
  | .Tuple es _ _=>cG (Nat.ble es.length 1000) ((cA r Γ (es.map fun _=>true) es).map fun l=>.E (Y3 l))
  | .List es _=>cG (Nat.ble es.length 1000) ((cA r Γ (es.map fun _=>true) es).map fun l=>.F (J4 l))
  | .Dict ks vs _=>(match ks,vs with
    | [],[]=>some (.F ZS)
    | _,_=>none)
  | .Attribute a f _=>cG (Ka a && Γ.fl.contains f) ((cV r Γ dV a).map fun d=>.E (d1 (J2 Γ.C f) d))
  | .Subscript a b p=>C6 r Γ a b p
  | .ListComp elt gs scope p=>(au r Γ elt gs scope p).map .F
  | .Call f es ks p=>En r Γ f es ks p
  | _=>none
noncomputable def C8:Expr->Bool
  | .UnaryOp .Not _ _=>false
  | .BoolOp _ _ _=>false
  | .IfExp _ _ _ _=>false
  | .Compare _ _ _ _=>false
  | _=>true
noncomputable def C9(a:Expr)(os:List CmpOp)(bs:List Expr)(p:Pos):Option DT:=match os,bs with
  | [o],[b]=>cG (!behindInMarks o b) ((cV r Γ dV a).bind fun d=>(cV r Γ dV b).bind fun d'=>(ar Γ p o).map fun f=>jt (d2 f d d'))
  | [o,o'],[b,c]=>cG (!lastMarks [o,o'] [b,c]) ((cV r Γ dV a).bind fun d=>(cV r Γ dV b).bind fun d'=>(cV r Γ dV c).bind fun d''=>(vY o).bind fun f=>(vY o').map fun f'=>jt (J8 f f' d d' d''))
  | _,_=>none
noncomputable def cT(e:Expr):Option DT:=match e with
  | .Compare a os bs p=>C9 r Γ a os bs p
  | .UnaryOp op a p=>(match op with
    | .Not=>(r.t Γ a).map yd
    | op=>cG (C8 (.UnaryOp op a p)) ((cV r Γ dV (.UnaryOp op a p)).map J9))
  | .BoolOp op vs _=>(match op with
    | .And=>cW r Γ JB vs
    | .Or=>cW r Γ Zi vs)
  | e=>cG (C8 e) ((cV r Γ dV e).map J9)
noncomputable def av(k:Nat):List Expr->Option Vn
  | []=>some gZ
  | e :: es=>cG (yh e) ((r.g Γ k e).bind fun g=>(av k es).map fun gs=>gC g gs)
noncomputable def Ca(k:Nat):Expr->Option DG
  | .Name x _=>(ao Γ x).bind fun i=>cG (Nat.blt i k) (some (gN i))
  | .Tuple es _ _=>(av r Γ k es).map fun gs=>gT es.length gs
  | _=>none
end
noncomputable def rc:Nat->Rc
  | 0=>⟨fun _ _=>none,fun _ _=>none,fun _ _ _=>none⟩
  | n + 1=>⟨cN (rc n),cT (rc n),Ca (rc n)⟩
noncomputable def Cb:Stmt->Nat
  | .Return _ p=>p.line
  | .Assign _ _ p=>p.line
  | .AugAssign _ _ _ p=>p.line
  | .For _ _ _ _ p=>p.line
  | .While _ _ _ p=>p.line
  | .If _ _ _ p=>p.line
  | .Expr _ p=>p.line
  | _=>0
section
variable (r:Rc) (q:Gm->List Stmt->Option DS.DS) (Γ:Gm)
noncomputable def cF(e:Expr):Option DO:=match r.n Γ e with
  | some (.F d)=>some d
  | _=>none
noncomputable def Ur:Expr->Bool
  | .ListComp _ _ _ _=>false
  | .SetComp _ _ _ _=>false
  | .DictComp _ _ _ _ _=>false
  | _=>true
noncomputable def Eo(scope:Scope)(x:Str)(np vp:Pos):Bool:=(match Γ.sc.kind with | .function=>true | _=>false) && WL Γ.sc x && np.line == vp.line && !(scope.names.any fun(n,k)=>n == x && (k == .local || k == .cell))
noncomputable def Ep(x:Str)(np:Pos)(e:Expr):Option DS.DS:=(ao Γ x).bind fun i=>match e with
  | .ListComp elt gs scope p=>(au r Γ elt gs scope p).bind fun d=>cG (Eo Γ scope x np p) (some (if Γ.ow.contains i then Jr i d else jf i (dL d)))
  | e=>cG (Ur e) (if Γ.ow.contains i then(cF r Γ e).map (Jr i)else(cV r Γ dC e).map (jf i))
noncomputable def Cd(t e:Expr):Option DS.DS:=match t with
  | .Name x np=>Ep r Γ x np e
  | .Attribute o f _=>(nm Γ o).bind fun i=>cG (Ur e && Γ.fl.contains f) ((cV r Γ dC e).map fun d=>Z3 i Γ.C f d)
  | .Subscript o j p=>(nm Γ o).bind fun i=>cG (Ur e && WM j) (if (VZ Γ p).isSome then(cV r Γ dC j).bind fun dx=>(cV r Γ dC e).map fun d=>Yw i dx d
      else(cV r Γ dV j).bind fun dx=>(cV r Γ dC e).map fun d=>uE i dx d)
  | .Tuple es n p=>cG (Ur e && !uJ e) ((cV r Γ dC e).bind fun d=>(r.g Γ Γ.N.length (.Tuple es n p)).map fun g=>Zl d g)
  | _=>none
noncomputable def Ce(t:Expr)(op:Operator)(e:Expr):Option DS.DS:=match t with
  | .Name x _=>(ao Γ x).bind fun i=>(cV r Γ dV e).bind fun d=>(match op with
    | .Add=>some (Wz i (fun i j=>i + j) d)
    | .Sub=>some (Wz i (fun i j=>i - j) d)
    | _=>none)
  | _=>none
noncomputable def Cf(f:Expr)(es:List Expr)(ks:List Keyword)(p:Pos):Option DS.DS:=match f,es,ks with
  | .Attribute o m ap,[e],[]=>(nm Γ o).bind fun i=>cG (m == ("append" : Str) && yh e && ap.endLine == p.line) ((cV r Γ dC e).map fun d=>JD i d)
  | _,_,_=>none
noncomputable def Er(e:Expr):Option DS.DS:=match e with
  | .Call f es ks p=>(match Cf r Γ f es ks p with
    | some d=>some d
    | none=>(cV r Γ dV (.Call f es ks p)).map vX)
  | e=>cG (Ur e) ((cV r Γ dV e).map vX)
noncomputable def cS(s:Stmt):Option DS.DS:=match s with
  | .Assign ts e _=>(match ts with
    | [t]=>Cd r Γ t e
    | _=>none)
  | .AugAssign t op e _=>Ce r Γ t op e
  | .Expr e _=>Er r Γ e
  | .Return o _=>(match o with
    | none=>some (je (dK .non))
    | some e=>(match nm Γ e with
      | some i=>if Γ.ow.contains i then some (Yu i)else some (je (dC i))
      | none=>if Γ.kF then(cF r Γ e).map uF else(cV r Γ dC e).map je))
  | .If c a b _=>(r.t Γ c).bind fun t=>(q Γ a).bind fun x=>(q Γ b).map fun y=>jo t x y
  | .While c b o _=>(match o with
    | []=>(r.t Γ c).bind fun t=>(q Γ b).map fun x=>Vo t x 20000
    | _ :: _=>none)
  | .For tg it b o _=>(match o with
    | []=>cG (ki it) ((cI r Γ tg it).bind fun di=>(r.g Γ Γ.N.length tg).bind fun g=>(q Γ b).map fun x=>jW di g x)
    | _ :: _=>none)
  | .Pass _=>some jG
  | .Break _=>some BX
  | .Continue _=>some BZ
  | _=>none
noncomputable def wT(l:Nat):List (Nat×Nat)->DS.DS->DS.DS
  | [],d=>d
  | (m,i) :: r,d=>if m=l then Zk i (wT l r d)else wT l r d
noncomputable def fZ:Stmt->Bool
  | .Raise _ _ _=>true
  | _=>false
noncomputable def aw:List Stmt->Option DS.DS
  | []=>some jG
  | s :: t=>if fZ s then some Z2 else(cS r q Γ s).bind fun d=>(match t with
    | []=>some (wT (Cb s) Γ.sh d)
    | t=>(aw t).map fun d'=>wT (Cb s) Γ.sh (j1 d d'))
end
noncomputable def cQ(r:Rc):Nat->Gm->List Stmt->Option DS.DS
  | 0=>fun _ _=>none
  | n + 1=>fun Γ=>aw r (cQ r n) Γ
end CP
namespace CP
open PySem PySem.Spec PyProof.Rows L2 DS
section
variable (P:Program) (w:World) (K':Fr) (mg:Str->Option Value) (base:Heap) (C:Addr) (rm:Nat->Prop) (K:Fr) (x:Str)
noncomputable def Kc:GI->Prop
  | .con i=>∃t,mg x=some (.int i t)
  | .fE k ps ks F=>FnI P w K' mg base k x ps (ga K ks F)/\rm k
  | .fF k ps ks F=>FnI P w K' mg base k x ps (wO K ks F)/\rm k
  | .mk k ps ks F G=>MkI P w K' mg base k C x ps (XV K C ks F)/\(∀p ds o,G ds=some o->F p ds=some o)/\rm (k + 1)
  | .blt=>mg x=none
noncomputable def wU:GI->Prop
  | .fE k ps _ F=>MtI P w K' mg base k C x ps (ga K [false] F)/\rm k
  | .fF k ps _ F=>MtI P w K' mg base k C x ps (wO K [false] F)/\rm k
  | _=>True
end
structure OkX (K:Fr) (Γ:Gm) (X:Cx):Prop where
  n:X.N=Γ.N
  sc:X.env.scope=Γ.sc
  nd:Γ.N.Nodup
  calm:X.calm=true
  k:X.K=K
  room:Room 0 X.A
  fn:Γ.fn=true->∀x,X.fn x=true
  gs:∀x g,Γ.gs.lookup x=some g->Kc X.prog X.w X.K X.mg X.base Γ.C (fun k=>Room k X.A) K x g
  ms:∀x g,Γ.ms.lookup x=some g->wU X.prog X.w X.K X.mg X.base Γ.C (fun k=>Room k X.A) K x g
  cl:Cls K Γ.C
  fl:∀f,Γ.fl.contains f=true->yI K Γ.C f
noncomputable def u_(X:Cx)(K:Fr)(e:Expr):Dn->Prop
  | .E d=>PE X e (tE K d)
  | .F d=>PE X e (tF K d)
structure RcOk (r:Rc):Prop where
  n:∀{K:Fr} {Γ:Gm} {X:Cx} {e:Expr} {d:Dn},OkX K Γ X->r.n Γ e=some d->u_ X K e d
  t:∀{K:Fr} {Γ:Gm} {X:Cx} {e:Expr} {d:DT},OkX K Γ X->r.t Γ e=some d->PT X e (tT K d)
  g:∀{K:Fr} {Γ:Gm} {X:Cx} {k:Nat} {e:Expr} {d:DG},OkX K Γ X->r.g Γ k e=some d->PG X e (tG K k d)
theorem ji{c:Bool}{α:Type}{o:Option α}{y:α}(h:cG c o=some y):c=true/\o=some y:=by
  cases c with
  | true=>exact⟨rfl,h⟩
  | false=>cases h
theorem ja{α β:Type}{o:Option α}{f:α->β}{y:β}(h:o.map f=some y):∃x,o=some x/\f x=y:=by
  cases o with
  | none=>cases h
  | some x=>exact⟨x,rfl,Option.some.inj h⟩
theorem ju{a b:Bool}(h:(a && b)=true):a=true/\b=true:=by simpa using h
theorem ze{a:Bool}(h:(!a)=true):a=false:=by simpa using h
theorem Us{x:Str}:∀{l:List Str} {i:Nat},G1 x l=some i->l[i]?=some x
  | [],_,h=>by cases h
  | y :: r,i,h=>by
    unfold G1 at h
    split at h
    · cases h; rename_i e; rw[e]; rfl
    · obtain⟨j,h1,h2⟩:=ja h
      rw[<-h2]
      simpa using Us h1
section
variable {r:Rc} {Γ:Gm} {X:Cx} {K:Fr} {x y:Str} {i:Nat} {e a b c tg:Expr} {es:List Expr} {pos:Pos} {d:DE}
theorem Cg{sc:Scope}(h:WJ sc x=true):wF sc x:=by
  unfold WJ at h
  split at h <;> first | cases h | skip
  · exact .inl (by assumption)
  · exact .inr (.inl (by assumption))
  · exact .inr (.inr (by assumption))
theorem Q7{sc:Scope}(h:WK sc x=true):uU sc x:=by
  unfold WK at h
  split at h <;> first | cases h | skip
  · exact .inl (by assumption)
  · exact .inr (by assumption)
theorem Q8{sc:Scope}(h:WL sc x=true):sc.names.lookup x=some .local:=by
  unfold WL at h
  split at h
  · assumption
  · cases h
theorem WN(h:OkX K Γ X)(g:aj Γ x=true):Gl X x/\(x == ("__debug__" : Str))=false:=by
  obtain⟨g1,g2⟩:=ju g
  refine⟨?_,ze g2⟩
  show X.env.scope.names.lookup x=_
  rw[h.sc]
  split at g1
  · assumption
  · cases g1
theorem gj(h:OkX K Γ X)(g:Q6 Γ x=true):Gl X x/\X.mg x=none:=by
  obtain⟨g1,g2⟩:=ju g
  refine⟨(WN h g1).1,?_⟩
  split at g2
  · exact h.gs x _ (by assumption)
  · cases g2
theorem xZ(e:slot Γ x=some i):G1 x Γ.N=some i/\WJ Γ.sc x=true/\(x == ("__debug__" : Str))=false/\(x == ("__classdict__" : Str))=false:=by
  obtain⟨j,e1,e2⟩:=bind_some e
  split at e2
  · cases e2
    rename_i hh
    obtain⟨h1,h2⟩:=ju hh
    obtain⟨h2,h3⟩:=ju h2
    exact⟨e1,h1,ze h2,ze h3⟩
  · cases e2
theorem yY(h:OkX K Γ X)(e:slot Γ x=some i):PE X (.Name x pos) (Zd i):=by
  obtain⟨h1,h2,h3,h4⟩:=xZ e
  exact pv i (by rw[h.n]; exact Us h1) (by rw[h.sc]; exact Cg h2) h3 h4
theorem YJ(h:nm Γ e=some i):∃x pos,e=.Name x pos/\slot Γ x=some i:=by
  unfold nm at h
  split at h
  · exact⟨_,_,rfl,h⟩
  · cases h
theorem Ke(h:OkX K Γ X)(e:ao Γ x=some i):X.N.Nodup/\X.N[i]?=some x/\uU X.env.scope x/\(X.fn x=true∨X.env.scope.names.lookup x=some .local):=by
  obtain⟨j,e1,e2⟩:=bind_some e
  split at e2
  · cases e2
    rename_i hh
    obtain⟨h1,h2⟩:=ju hh
    refine⟨by rw[h.n]; exact h.nd,by rw[h.n]; exact Us e1,by rw[h.sc]; exact Q7 h1,?_⟩
    rw[Bool.or_eq_true]at h2
    rcases h2 with h2 | h2
    · exact .inl (h.fn h2 x)
    · exact .inr (by rw[h.sc]; exact Q8 h2)
  · cases e2
theorem jI{env:Env}(h:yh e=true):starEach (e :: es) env=(false,eval e env) :: starEach es env:=by
  cases e <;> first | rfl | cases h
theorem Zo{env:Env}:∀{es:List Expr},(∀e∈es,yh e=true)->(backTo pos (starEach es env)).any (·.1)=false
  | [],_=>rfl
  | e :: es,h=>by
    rw[jI (h e List.mem_cons_self)]
    show(false || (backTo pos (starEach es env)).any (·.1))=false
    rw[Zo fun x hx=>h x (List.mem_cons_of_mem _ hx)]
    rfl
theorem uA{env:Env}{f:Str}(h:Ka e=true):attributeBase e f env (eval e env)=eval e env:=by
  cases e <;> first | rfl | cases h
theorem gk(h:WM b=true):gM b:=by
  cases b <;> first | (intro _ _; rfl) | cases h
theorem wV{env:Env}{e:Expr}(h:ki e=true):∀x,foldedSetIterable e env x=pure x:=by
  cases e <;> first | (intro _; rfl) | cases h
theorem vJ{env:Env}{t:Option Expr}{l:Nat}(h:Ur e=true):swapsWith e t l env=pure false:=by
  cases e <;> first | rfl | cases h
theorem Kf{f:Nat->DE}(h:cV r Γ f e=some d):(∃i,nm Γ e=some i/\d=f i)∨∃n,r.n Γ e=some n/\d=n.e:=by
  unfold cV at h
  split at h
  · exact .inl ⟨_,by assumption,(Option.some.inj h).symm⟩
  · obtain⟨n,h1,h2⟩:=ja h
    exact .inr ⟨n,h1,h2.symm⟩
theorem x_{n:Dn}(h:u_ X K e n):PE X e (tE K n.e):=by
  cases n with
  | E d=>exact h
  | F d=>exact ER h
variable (R:RcOk r) (h:OkX K Γ X)
include R h
theorem yD(q:cV r Γ dC e=some d):PE X e (tE K d):=by
  rcases Kf q with⟨i,q1,rfl⟩ | ⟨n,q1,rfl⟩
  · obtain⟨x,p,rfl,q2⟩:=YJ q1
    exact XI i (yY h q2)
  · exact x_ (R.n h q1)
theorem jq(q:cV r Γ dV e=some d):PE X e (tR K d):=by
  rcases Kf q with⟨i,q1,rfl⟩ | ⟨n,q1,rfl⟩
  · obtain⟨x,p,rfl,q2⟩:=YJ q1
    exact Dt i (yY h q2)
  · exact EO (x_ (R.n h q1))
theorem vZ(q:cV r Γ dP e=some d):PE X e (tP K d):=by
  rcases Kf q with⟨i,q1,rfl⟩ | ⟨n,q1,rfl⟩
  · obtain⟨x,p,rfl,q2⟩:=YJ q1
    exact eE i (yY h q2)
  · exact fv (x_ (R.n h q1))
theorem v_:∀{ks:List Bool} {es:List Expr} {l:DA},cA r Γ ks es=some l->PA X es (zn K l)/\l.map (·.1)=ks/\(∀e∈es,yh e=true)/\l.length=es.length
  | [],[],l,q=>by cases q; exact⟨DX,rfl,(fun _ h=>by cases h),rfl⟩
  | k :: ks,e :: es,l,q=>by
    unfold cA at q
    split at q
    · rename_i hs
      obtain⟨d,q1,q⟩:=bind_some q
      obtain⟨l',q2,q⟩:=bind_some q
      cases q
      obtain⟨a1,a2,a3,a4⟩:=v_ q2
      refine⟨?_,by simp[a2],fun z hz=>?_,by simp[a4]⟩
      · cases k with
        | true=>exact fm (yD R h q1) a1 (jI hs)
        | false=>exact fq (jq R h q1) a1 (jI hs)
      · rcases List.mem_cons.mp hz with rfl | hz
        · exact hs
        · exact a3 z hz
    · cases q
  | [],_ :: _,_,q=>by cases q
  | _ :: _,[],_,q=>by cases q
omit R in
theorem Ch{op:Operator}{f:D->D->Option D}(q:cU op=some f):∃t,jH X (binaryOp op) t/\J5 K t f:=by
  have:=h.k
  subst this
  cases op <;> cases q
  · exact⟨_,Ay,DL⟩
  · exact⟨_,bT,Dy⟩
  · exact⟨_,Ax,ck⟩
  · exact⟨_,bV,DB⟩
  · exact⟨_,bW,DD⟩
  · exact⟨_,aX,DC⟩
omit R in
theorem zu{op:CmpOp}{f:D->D->Option D}(q:vY op=some f):∃t,jH X (compareOp op) t/\J5 K t f:=by
  have:=h.k
  subst this
  cases op <;> cases q
  · exact⟨_,cw h.room,fN⟩
  · exact⟨_,cx h.room,fO⟩
  · exact⟨_,Df,EX⟩
  · exact⟨_,Dg,EY⟩
  · exact⟨_,Dh,EZ⟩
  · exact⟨_,Di,E_⟩
  · exact⟨_,b_,DF⟩
  · exact⟨_,aY,Bz⟩
  · exact⟨_,qB,cy⟩
  · exact⟨_,kE,cy⟩
omit R in
theorem Q9{p:Pos}{op:CmpOp}{f:D->D->Option D}(q:ar Γ p op=some f):∃t,jH X (compareOp op) t/\J5 K t f:=by
  unfold ar at q
  split at q
  · have:=h.k
    subst this
    cases op <;> cases q
    · exact⟨_,q_ h.room,ai⟩
    · exact⟨_,K5 h.room,ai⟩
  · exact zu h q
theorem Qa:∀{vs:List Expr} {d:DE},cB r Γ JC vs=some d->PE X (.BoolOp .And vs pos) (tE K d)
  | [],_,q=>by cases q
  | [a],_,q=>XR (yD R h q)
  | a :: b :: c,d,q=>by
    unfold cB at q
    obtain⟨d1,q1,q⟩:=bind_some q
    obtain⟨d2,q2,q⟩:=bind_some q
    cases q
    exact DR (jq R h q1) (Qa q2)
theorem ax:∀{vs:List Expr} {d:DE},cB r Γ gQ vs=some d->PE X (.BoolOp .Or vs pos) (tE K d)
  | [],_,q=>by cases q
  | [a],_,q=>XR (yD R h q)
  | a :: b :: c,d,q=>by
    unfold cB at q
    obtain⟨d1,q1,q⟩:=bind_some q
    obtain⟨d2,q2,q⟩:=bind_some q
    cases q
    exact fk (jq R h q1) (ax q2)
theorem Qb:∀{vs:List Expr} {d:DT},cW r Γ JB vs=some d->PW X (.BoolOp .And vs pos) (tT K d)
  | [],_,q=>by cases q
  | [a],_,q=>BC (R.t h q)
  | a :: b :: c,d,q=>by
    unfold cW at q
    obtain⟨d1,q1,q⟩:=bind_some q
    obtain⟨d2,q2,q⟩:=bind_some q
    cases q
    exact DQ (R.t h q1) (Qb q2)
theorem ay:∀{vs:List Expr} {d:DT},cW r Γ Zi vs=some d->PW X (.BoolOp .Or vs pos) (tT K d)
  | [],_,q=>by cases q
  | [a],_,q=>DP (R.t h q)
  | a :: b :: c,d,q=>by
    unfold cW at q
    obtain⟨d1,q1,q⟩:=bind_some q
    obtain⟨d2,q2,q⟩:=bind_some q
    cases q
    exact fj (R.t h q1) (ay q2)
theorem uL{o:Option Expr}{p:UW}(q:xT r Γ o=some p):PO X o (kQ K p):=by
  cases o with
  | none=>cases q; exact ft
  | some e=>
    obtain⟨d,q1,rfl⟩:=ja q
    exact fu (jq R h q1)
theorem Qc{di:DI}(q:cX r Γ e=some di):PI X tg e (Ys K di):=by
  obtain⟨d,q1,rfl⟩:=ja q
  split
  · exact cM (vZ R h q1)
  · exact eF (vZ R h q1) h.k
omit R h in
theorem Ut(t:uJ e=true):∃es n p,e=.Tuple es n p:=by
  cases e <;> first | exact⟨_,_,_,rfl⟩ | cases t
theorem Ci{di:DI}{es:List Expr}{np:Pos}(q:cY r Γ (uJ tg) x es=some di):PI X tg (.Call (.Name x np) es [] pos) (Ys K di):=by
  unfold cY at q
  split at q
  · rename_i hb
    obtain⟨g1,g2⟩:=gj h hb
    split at q
    · split at q
      · rename_i ex
        subst ex
        obtain⟨s1,q⟩:=ji q
        obtain⟨d,q1,rfl⟩:=ja q
        exact BK g1 g2 (jq R h q1) (jI s1)
      · split at q
        · rename_i ex
          subst ex
          obtain⟨s1,q⟩:=ji q
          obtain⟨u1,u2⟩:=ju s1
          obtain⟨d,q1,rfl⟩:=ja q
          obtain⟨_,_,_,rfl⟩:=Ut u2
          exact BM g1 g2 (vZ R h q1) (jI u1) h.k
        · split at q
          · rename_i ex
            subst ex
            obtain⟨s1,q⟩:=ji q
            obtain⟨d,q1,rfl⟩:=ja q
            exact eS g1 g2 (vZ R h q1) (jI s1) h.k
          · cases q
    · split at q
      · rename_i ex
        subst ex
        obtain⟨s1,q⟩:=ji q
        obtain⟨s1,s2⟩:=ju s1
        obtain⟨d,q1,q⟩:=bind_some q
        obtain⟨d',q2,rfl⟩:=ja q
        exact BL g1 g2 (jq R h q1) (jq R h q2) (by rw[jI s1,jI s2]; rfl) (jI s2)
      · split at q
        · rename_i ex
          subst ex
          obtain⟨s1,q⟩:=ji q
          obtain⟨u1,u3⟩:=ju s1
          obtain⟨u1,u2⟩:=ju u1
          obtain⟨d,q1,q⟩:=bind_some q
          obtain⟨d',q2,rfl⟩:=ja q
          obtain⟨_,_,_,rfl⟩:=Ut u3
          exact eH g1 g2 (vZ R h q1) (vZ R h q2) (by rw[jI u1,jI u2]; rfl) (jI u2) h.k
        · cases q
    · split at q
      · rename_i ex
        subst ex
        obtain⟨s1,q⟩:=ji q
        obtain⟨s1,s3⟩:=ju s1
        obtain⟨s1,s2⟩:=ju s1
        obtain⟨d,q1,q⟩:=bind_some q
        obtain⟨d',q2,q⟩:=bind_some q
        obtain⟨d'',q3,rfl⟩:=ja q
        exact cP g1 g2 (jq R h q1) (jq R h q2) (jq R h q3) (jI s1) (jI s2) (jI s3)
      · cases q
    · cases q
  · cases q
theorem Cj{di:DI}{f:Expr}{as:List Expr}{ks:List Keyword}{p:Pos}(q:cZ r Γ tg (.Call f as ks p) f as ks p=some di):PI X tg (.Call f as ks p) (Ys K di):=by
  unfold cZ at q
  split at q
  · split at q
    · split at q
      · cases q
        exact Ci R h (by assumption)
      · exact Qc R h q
    · cases q
  · split at q
    · obtain⟨z,q⟩:=ji q
      obtain⟨z,z4⟩:=ju z
      obtain⟨z,z3⟩:=ju z
      obtain⟨z1,z2⟩:=ju z
      obtain⟨d,q1,rfl⟩:=ja q
      have e1:=eq_of_beq z1
      subst e1
      obtain⟨_,_,_,rfl⟩:=Ut z2
      exact AG (vZ R h q1) (uA z3) z4
    · cases q
  · cases q
theorem az{di:DI}(q:cI r Γ tg e=some di):PI X tg e (Ys K di):=by
  unfold cI at q
  split at q
  · exact Cj R h q
  · exact Qc R h (ji q).2
end
end CP
namespace CP
open PySem PySem.Spec PyProof.Rows L2 DS
theorem G8:∀{l:List Str},Kb l=true->l.Nodup
  | [],_=>List.nodup_nil
  | x :: r,h=>by
    obtain⟨h1,h2⟩:=ju h
    refine List.nodup_cons.mpr ⟨fun z=>?_,G8 h2⟩
    rw[List.contains_iff_mem.mpr z]at h1
    cases h1
theorem wW:∀{l:List Nat},xX l=true->l.Nodup
  | [],_=>List.nodup_nil
  | x :: r,h=>by
    obtain⟨h1,h2⟩:=ju h
    refine List.nodup_cons.mpr ⟨fun z=>?_,wW h2⟩
    rw[List.contains_iff_mem.mpr z]at h1
    cases h1
structure LcP (X:Cx) (K:Fr) (elt tg iter:Expr) (ifs:List Expr) (scope:Scope) (own:List Str) (caps:List (Str×Nat)) (di:DI) (g:DG) (dc:DT) (de:DE):Prop where
  S:CScope X scope
  cp:Caps X scope caps
  i:PI X tg iter (Ys K di)
  g:∀s3 H3 ex',PG (X.comp (L2.cN own caps) scope s3 H3 ex') tg (tG K own.length g)
  t:∀s3 H3 ex',zD (X.comp (L2.cN own caps) scope s3 H3 ex') ifs (tT K dc)
  e:∀s3 H3 ex',PE (X.comp (L2.cN own caps) scope s3 H3 ex') elt (tE K de)
  nd:(caps.map (·.2)).Nodup
  fs:∀x,foldedSetIterable iter X.env x=pure x
section
variable {r:Rc} {Γ:Gm} {X:Cx} {K:Fr} {x y:Str} {i:Nat} {e a b c tg:Expr} {es:List Expr} {pos:Pos} {d:DE}
theorem Uu{own:List Str}{caps:List (Str×Nat)}{scope:Scope}(h:OkX K Γ X)(hn:Kb (uK Γ own caps scope).N=true){s3:Shared}{H3:Hp}{ex':List Addr}:OkX K (uK Γ own caps scope) (X.comp (L2.cN own caps) scope s3 H3 ex') where
  n:=rfl
  sc:=by
    show relabel scope X.env=c_ scope Γ.sc
    rw[<-h.sc]
    rfl
  nd:=G8 hn
  calm:=h.calm
  k:=h.k
  room:=h.room
  fn:=fun z=>by cases z
  gs:=h.gs
  ms:=h.ms
  cl:=h.cl
  fl:=h.fl
theorem eW{scope:Scope}(h:OkX K Γ X)(q:El Γ scope=true):CScope X scope:=by
  obtain⟨q,q4⟩:=ju q
  obtain⟨q,q3⟩:=ju q
  obtain⟨q1,q2⟩:=ju q
  refine⟨?_,q2,q3,by rw[h.sc]; exact q4⟩
  split at q1
  · assumption
  · cases q1
theorem wX{scope:Scope}(h:OkX K Γ X):∀{caps:List (Str×Nat)},caps.all (C0 Γ scope)=true->Caps X scope caps
  | [],_=>.nil
  | (y,j) :: r,q=>by
    rw[List.all_cons]at q
    obtain⟨q1,q2⟩:=ju q
    obtain⟨q1,q5⟩:=ju q1
    obtain⟨q3,q4⟩:=ju q1
    refine .cons ?_ ?_ ?_ (wX h q2)
    · rw[h.n]
      dsimp only at q3
      split at q3
      · rename_i z hz
        rw[hz,eq_of_beq q3]
      · cases q3
    · show X.env.scope.names.lookup y=_∨X.env.scope.names.lookup y=_
      rw[h.sc]
      split at q4
      · exact .inl (by assumption)
      · exact .inr (by assumption)
      · cases q4
    · split at q5
      · assumption
      · cases q5
variable (R:RcOk r) (h:OkX K Γ X)
include R h
theorem Cl{elt iter:Expr}{ifs:List Expr}{scope:Scope}{p:Pos}{d:DO}(q:C2 r Γ elt tg iter ifs scope p=some d):
    ∃own caps di g dc de,d=Yc own.length (caps.map (·.2)) di g dc de/\LcP X K elt tg iter ifs scope own caps di g dc de:=by
  unfold C2 at q
  dsimp only at q
  obtain⟨z,q⟩:=ji q
  obtain⟨z,z5⟩:=ju z
  obtain⟨z,z4⟩:=ju z
  obtain⟨z,z3⟩:=ju z
  obtain⟨z1,z2⟩:=ju z
  obtain⟨di,q1,q⟩:=bind_some q
  obtain⟨g,q2,q⟩:=bind_some q
  obtain⟨dc,q3,q⟩:=bind_some q
  obtain⟨de,q4,q⟩:=bind_some q
  refine⟨_,_,di,g,dc,de,(Option.some.inj q).symm,eW h z1,wX h z2,az R h q1,fun _ _ _=>R.g (Uu h z3) q2,fun _ _ _=>?_,fun _ _ _=>yD R (Uu h z3) q4,wW z4,wV z5⟩
  split at q3
  · cases q3
    exact fG
  · exact fH (R.t (Uu h z3) q3)
  · cases q3
omit R in
theorem AI{n:Nat}{l:DA}{f:List D->Option D}{np:Pos}(q:xU x n=some f)(g1:Gl X x)(g2:X.mg x=none)(ha:PA X (e :: es) (zn K l))(he:starEach (e :: es) X.env=(false,eval e X.env) :: starEach es X.env)(hpl:(backTo pos (starEach es X.env)).any (·.1)=false):
    PE X (.Call (.Name x np) (e :: es) [] pos) (tE K (j8 f l)):=by
  have:=h.k
  subst this
  unfold xU at q
  split at q
  · rename_i ex; subst ex; cases q
    exact jz (Yh kG g1 g2 PySem.boot_len ha (by decide) (by decide) he hpl) (zq eh)
  · split at q
    · rename_i ex; subst ex; cases q
      exact jz (ZM GW g1 g2 PyProof.Rows.boot_tuple ha (by decide) (by decide) he hpl) (zq Am)
    · split at q
      · rename_i ex; subst ex; cases q
        exact jz (ZM qu g1 g2 PyProof.Rows.boot_int ha (by decide) (by decide) he hpl) (zq eo)
      · split at q
        · rename_i ex; subst ex; cases q
          exact jz (Yh (xt h.calm) g1 g2 PyProof.Rows.boot_all ha (by decide) (by decide) he hpl) (zq eC)
        · split at q
          · rename_i ex; subst ex; cases q
            exact jz (Yh (qr h.calm) g1 g2 PyProof.Rows.boot_max ha (by decide) (by decide) he hpl) (zq eA)
          · split at q
            · rename_i ex; subst ex; cases q
              exact jz (Yh (qt h.calm) g1 g2 PyProof.Rows.boot_min ha (by decide) (by decide) he hpl) (zq eB)
            · split at q
              · rename_i ex; subst ex; cases q
                exact jz (Yh (xR h.calm) g1 g2 PyProof.Rows.boot_sum ha (by decide) (by decide) he hpl) (zq eT)
              · split at q
                · rename_i ex; subst ex; cases q
                  exact jz (Yh (xS h.calm) g1 g2 PyProof.Rows.boot_any ha (by decide) (by decide) he hpl) (zq eV)
                · cases q
omit R in
theorem AJ{l:DA}{b:Bool}{f:List D->Option OD}{np:Pos}(q:xV x b=some f)(g1:Gl X x)(g2:X.mg x=none)(ha:PA X (e :: es) (zn K l))(he:starEach (e :: es) X.env=(false,eval e X.env) :: starEach es X.env)(hpl:(backTo pos (starEach es X.env)).any (·.1)=false):
    PE X (.Call (.Name x np) (e :: es) [] pos) (tF K (jY f l)):=by
  have:=h.k
  subst this
  unfold xV at q
  split at q
  · rename_i ex; subst ex; cases q
    cases b
    · exact jz (ZM kH g1 g2 PyProof.Rows.boot_list ha (by decide) (by decide) he hpl) (wM BH)
    · exact jz (ZM (WC h.calm) g1 g2 PyProof.Rows.boot_list ha (by decide) (by decide) he hpl) (wM AF)
  · cases q
omit R h in
theorem AL{t:Str}{T:String}(q:xW t=some T):bootBuiltins t=some (.type T)/\t≠ "__name__" /\(t == ("__debug__" : Str))=false:=by
  unfold xW at q
  repeat (split at q; · rename_i ex; subst ex; cases q; exact⟨by first | exact PyProof.Rows.boot_list | exact PyProof.Rows.boot_tuple | exact PyProof.Rows.boot_bool | exact PyProof.Rows.boot_str | exact PyProof.Rows.boot_int,by decide,by decide⟩)
  cases q
theorem AM{n:Dn}{np:Pos}(g1:Gl X "isinstance")(g2:X.mg "isinstance" = none)(q:xY r Γ es=some n):u_ X K (.Call (.Name "isinstance" np) es [] pos) n:=by
  unfold xY at q
  split at q
  · split at q
    · obtain⟨z,q⟩:=ji q
      obtain⟨z3,z4⟩:=ju z
      obtain⟨T,q1,q⟩:=bind_some q
      obtain⟨d,q2,rfl⟩:=ja q
      obtain⟨b1,b2,b3⟩:=AL q1
      obtain⟨k1,k2⟩:=gj h z4
      exact eN (Yh xw g1 g2 PyProof.Rows.boot_isinstance (Jd (jq R h q2) (Jd (gH (v:=.ty T) k1 k2 b1 rfl b2 b3) Y9) (jI z3)) (by decide) (by decide) (jI z3)) h.k
    · split at q
      · obtain⟨z,q⟩:=ji q
        obtain⟨z,z7⟩:=ju z
        obtain⟨z,z6⟩:=ju z
        obtain⟨z,z5⟩:=ju z
        obtain⟨z3,z4⟩:=ju z
        obtain⟨d,q2,rfl⟩:=ja q
        have e1:=eq_of_beq z6
        have e2:=eq_of_beq z7
        subst e1 e2
        obtain⟨k1,k2⟩:=gj h z4
        obtain⟨k3,k4⟩:=gj h z5
        exact cz (Ah g1 g2 k1 k2 k3 k4 (jq R h q2) (jI z3)) h.k
      · cases q
    · cases q
  · cases q
theorem X0{n:Dn}{np:Pos}(q0:aq r Γ x es pos=some n):u_ X K (.Call (.Name x np) es [] pos) n:=by
  obtain⟨z,q⟩:=ji q0
  clear q0
  obtain⟨z1,z2⟩:=ju z
  obtain⟨g1,g3⟩:=WN h z1
  cases es with
  | nil=>cases z2
  | cons e es=>
  split at q
  · rename_i hl
    obtain⟨l,q1,rfl⟩:=ja q
    obtain⟨a1,a2,a3,_⟩:=v_ R h q1
    obtain⟨G,hr⟩:=h.gs _ _ hl
    exact BP G hr a1 a2 g1 g3 (jI (a3 _ List.mem_cons_self)) (Zo fun z hz=>a3 z (List.mem_cons_of_mem _ hz))
  · rename_i hl
    obtain⟨l,q1,rfl⟩:=ja q
    obtain⟨a1,a2,a3,_⟩:=v_ R h q1
    obtain⟨G,hr⟩:=h.gs _ _ hl
    exact BQ G hr a1 a2 g1 g3 (jI (a3 _ List.mem_cons_self)) (Zo fun z hz=>a3 z (List.mem_cons_of_mem _ hz))
  · rename_i hl
    obtain⟨l,q1,rfl⟩:=ja q
    obtain⟨a1,a2,a3,_⟩:=v_ R h q1
    obtain⟨G,hF,hr⟩:=h.gs _ _ hl
    exact BS G hF hr a1 a2 g1 g3 (jI (a3 _ List.mem_cons_self)) (Zo fun z hz=>a3 z (List.mem_cons_of_mem _ hz))
  · rename_i hl
    have g2:X.mg x=none:=h.gs _ _ hl
    split at q
    · rename_i ex
      subst ex
      exact AM R h g1 g2 q
    · obtain⟨l,q1,q⟩:=bind_some q
      obtain⟨a1,a2,a3,_⟩:=v_ R h q1
      have s1:=jI (es:=es) (env:=X.env) (a3 _ List.mem_cons_self)
      have s2:=Zo (pos:=pos) (env:=X.env) fun z hz=>a3 z (List.mem_cons_of_mem _ hz)
      split at q
      · rename_i hb
        cases q
        exact AI h hb g1 g2 a1 s1 s2
      · obtain⟨f,q2,rfl⟩:=ja q
        exact AJ h q2 g1 g2 a1 s1 s2
  · cases q
omit R h in
theorem Zp:∀{l:DA} {es:List Expr},l.map (·.1)=(es.map fun _=>true)->(l.map (·.1)).all id=true:=fun {l es} q=>by
  rw[q]
  simp
omit R h in
theorem wY{env:Env}{m:Str}{ap p cp:Pos}(hl:(ap.endLine == cp.line)=true):eval (.Call (.Attribute (.Name x p) m ap) [] [] cp) env=(do
      let ov<-eval (.Name x p) env
      standAt ap.atName
      let (f,first)<-holding [ov] (getMethod ov m (do return (<-importBound (.Name x p) env).getD true))
      callWith cp f first (backTo cp (starEach [] env)) (backToKw cp (keywordEach [] env))):=by
  have e:methodCallPos true (.Name x p) env ap cp=pure cp:=by unfold methodCallPos; rw[hl]; rfl
  have f:methodCallForm 0 (backTo cp (starEach [] env)) (backToKw cp (keywordEach [] env))=true:=rfl
  show(do
    let ov<-eval (.Name x p) env
    standAt ap.atName
    methodCall (.Name x p) m ap cp env ov 0 (backTo cp (starEach [] env)) (backToKw cp (keywordEach [] env)))=_
  unfold methodCall
  rw[f,e]
  rfl
omit R h in
theorem Cm{c:Const}{k:Nat}{n:Dn}(q:C3 c=some n):u_ X K (.Constant c k pos) n:=by
  unfold C3 at q
  split at q <;> cases q
  · exact Du
  · exact EU
  · exact Dv
  · exact Dw
theorem Cn{op:UnaryOp}{n:Dn}(q:C4 r Γ op a=some n):u_ X K (.UnaryOp op a pos) n:=by
  unfold C4 at q
  split at q
  · obtain⟨d,q1,rfl⟩:=ja q
    exact DV (jq R h q1)
  · obtain⟨d,q1,rfl⟩:=ja q
    exact DU (jq R h q1)
  · cases q
theorem Co{op:Operator}{n:Dn}(q:Em r Γ a op b pos=some n):u_ X K (.BinOp a op b pos) n:=by
  obtain⟨d,q1,q⟩:=bind_some q
  obtain⟨d',q2,q⟩:=bind_some q
  split at q
  · split at q
    · cases q; exact Bv Bo DK (jq R h q1) (jq R h q2)
    · cases q; exact Bv Bq BA (jq R h q1) (jq R h q2)
    · cases q
  · obtain⟨f,q3,rfl⟩:=ja q
    obtain⟨t,o1,o2⟩:=Ch h q3
    exact EW o1 o2 (jq R h q1) (jq R h q2)
theorem Cp{os:List CmpOp}{bs:List Expr}{d:DE}(q:C5 r Γ a os bs pos=some d):PE X (.Compare a os bs pos) (tE K d):=by
  unfold C5 at q
  split at q
  · obtain⟨z,q⟩:=ji q
    obtain⟨d,q1,q⟩:=bind_some q
    obtain⟨d',q2,q⟩:=bind_some q
    obtain⟨f,q3,rfl⟩:=ja q
    obtain⟨t,o1,o2⟩:=Q9 h q3
    exact Dx o1 o2 (jq R h q1) (jq R h q2) (ze z)
  · obtain⟨z,q⟩:=ji q
    obtain⟨d,q1,q⟩:=bind_some q
    obtain⟨d',q2,q⟩:=bind_some q
    obtain⟨d'',q3,q⟩:=bind_some q
    obtain⟨f,p1,q⟩:=bind_some q
    obtain⟨f',p2,rfl⟩:=ja q
    obtain⟨t,o1,o2⟩:=zu h p1
    obtain⟨t',o1',o2'⟩:=zu h p2
    exact Ak o1 o1' o2 o2' (jq R h q1) (jq R h q2) (jq R h q3) (ze z)
  · obtain⟨z,q⟩:=ji q
    obtain⟨d,q1,q⟩:=bind_some q
    obtain⟨d',q2,q⟩:=bind_some q
    obtain⟨d'',q3,q⟩:=bind_some q
    obtain⟨d3,q4,q⟩:=bind_some q
    obtain⟨f,p1,q⟩:=bind_some q
    obtain⟨f',p2,q⟩:=bind_some q
    obtain⟨f'',p3,rfl⟩:=ja q
    obtain⟨t,o1,o2⟩:=zu h p1
    obtain⟨t',o1',o2'⟩:=zu h p2
    obtain⟨t'',o1'',o2''⟩:=zu h p3
    exact xA o1 o1' o1'' o2 o2' o2'' (jq R h q1) (jq R h q2) (jq R h q3) (jq R h q4) (ze z)
  · cases q
theorem Cq{n:Dn}(q:C6 r Γ a b pos=some n):u_ X K (.Subscript a b pos) n:=by
  have hK:=h.k
  unfold C6 at q
  split at q
  · split at q
    · obtain⟨d,q1,q⟩:=bind_some q
      obtain⟨u,q2,q⟩:=bind_some q
      obtain⟨v,q3,rfl⟩:=ja q
      split
      · exact eg (jq R h q1) (uL R h q2) (uL R h q3) hK
      · exact D_ (jq R h q1) (uL R h q2) (uL R h q3) hK
    · cases q
  · obtain⟨z,q⟩:=ji q
    obtain⟨d,q1,q⟩:=bind_some q
    obtain⟨d',q2,rfl⟩:=ja q
    subst hK
    split
    · exact Bu (cH h.room) eQ (jq R h q1) (jq R h q2) (gk z)
    · exact Bu Bh fb (jq R h q1) (jq R h q2) (gk z)
theorem Qd{elt:Expr}{gs:List Comprehension}{scope:Scope}{d:DO}(q:au r Γ elt gs scope pos=some d):
    ∃tg iter ifs own caps di g dc de,gs=[⟨tg,iter,ifs,0⟩]/\d=Yc own.length (caps.map (·.2)) di g dc de/\LcP X K elt tg iter ifs scope own caps di g dc de:=by
  unfold au at q
  split at q
  · obtain⟨z,q⟩:=ji q
    have z0:=eq_of_beq z
    subst z0
    obtain⟨own,caps,di,g,dc,de,rfl,L⟩:=Cl R h q
    exact⟨_,_,_,own,caps,di,g,dc,de,rfl,rfl,L⟩
  · cases q
theorem Cr{m:Str}{ap:Pos}{n:Dn}(q:C7 r Γ a m ap es pos=some n):u_ X K (.Call (.Attribute a m ap) es [] pos) n:=by
  unfold C7 at q
  split at q
  · obtain⟨z,q⟩:=ji q
    obtain⟨d,q1,q⟩:=bind_some q
    split at q
    · rename_i hl
      cases q
      obtain⟨M,hr⟩:=h.ms _ _ hl
      exact Ao (jq R h q1) h.cl M hr (wY z) h.k
    · rename_i hl
      cases q
      obtain⟨M,hr⟩:=h.ms _ _ hl
      exact Ap (jq R h q1) h.cl M hr (wY z) h.k
    · cases q
  · cases q
theorem eX{n:Dn}(q:cN r Γ e=some n):u_ X K e n:=by
  have hK:=h.k
  unfold cN at q
  split at q
  · obtain⟨z,q⟩:=ji q
    obtain⟨g1,g2⟩:=WN h z
    split at q
    · rename_i hl
      cases q
      exact Bt (FK (h.gs _ _ hl) g1 g2)
    · cases q
  · exact Cm q
  · exact Cn R h q
  · exact Co R h q
  · obtain⟨d,q1,rfl⟩:=ja q
    exact Cp R h q1
  · split at q
    · obtain⟨d,q1,rfl⟩:=ja q
      exact Qa R h q1
    · obtain⟨d,q1,rfl⟩:=ja q
      exact ax R h q1
  · obtain⟨t,q1,q⟩:=bind_some q
    obtain⟨d,q2,q⟩:=bind_some q
    obtain⟨d',q3,rfl⟩:=ja q
    exact DW (R.t h q1) (yD R h q2) (yD R h q3)
  · obtain⟨z,q⟩:=ji q
    obtain⟨l,q1,rfl⟩:=ja q
    obtain⟨a1,a2,_,a4⟩:=v_ R h q1
    exact DY a1 (Zp a2) (by rw[a4]; rw[Nat.ble_eq]at z⊢; exact Nat.le_trans z (by decide))
  · obtain⟨z,q⟩:=ji q
    obtain⟨l,q1,rfl⟩:=ja q
    obtain⟨a1,a2,_,a4⟩:=v_ R h q1
    exact DZ a1 (Zp a2) (by rw[a4]; rw[Nat.ble_eq]at z⊢; exact Nat.le_trans z (by decide))
  · split at q
    · cases q
      exact cL
    · cases q
  · obtain⟨z,q⟩:=ji q
    obtain⟨z1,z2⟩:=ju z
    obtain⟨d,q1,rfl⟩:=ja q
    exact eD (jq R h q1) h.cl (h.fl _ z2) (uA z1) hK
  · exact Cq R h q
  · obtain⟨d,q1,rfl⟩:=ja q
    obtain⟨_,_,_,own,caps,di,g,dc,de,rfl,rfl,L⟩:=Qd R h q1
    exact fJ own caps L.S L.cp h.calm L.i L.g L.t L.e L.nd L.fs
  · unfold En at q
    split at q
    · split at q
      · exact X0 R h q
      · exact Cr R h q
      · cases q
    · cases q
  · cases q
omit R h in
theorem aA{env:Env}(z:C8 e=true):∀whole,isTrue e env whole=(do let v<-whole; standAt e.pos; holding [v] (truthy v)):=by
  cases e <;> first | (intro _; rfl) | cases z | skip
  rename_i op _ _
  cases op <;> first | (intro _; rfl) | cases z
theorem Cs{os:List CmpOp}{bs:List Expr}{t:DT}(q:C9 r Γ a os bs pos=some t):PT X (.Compare a os bs pos) (tT K t):=by
  unfold C9 at q
  split at q
  · obtain⟨z,q⟩:=ji q
    obtain⟨d,q1,q⟩:=bind_some q
    obtain⟨d',q2,q⟩:=bind_some q
    obtain⟨f,q3,rfl⟩:=ja q
    obtain⟨t,o1,o2⟩:=Q9 h q3
    exact DM o1 o2 (jq R h q1) (jq R h q2) (ze z)
  · obtain⟨z,q⟩:=ji q
    obtain⟨d,q1,q⟩:=bind_some q
    obtain⟨d',q2,q⟩:=bind_some q
    obtain⟨d'',q3,q⟩:=bind_some q
    obtain⟨f,p1,q⟩:=bind_some q
    obtain⟨f',p2,rfl⟩:=ja q
    obtain⟨t,o1,o2⟩:=zu h p1
    obtain⟨t',o1',o2'⟩:=zu h p2
    exact Al o1 o1' o2 o2' (jq R h q1) (jq R h q2) (jq R h q3) (ze z)
  · cases q
theorem eY{t:DT}(q:cT r Γ e=some t):PT X e (tT K t):=by
  unfold cT at q
  split at q
  · exact Cs R h q
  · split at q
    · obtain⟨t,q1,rfl⟩:=ja q
      exact DN (R.t h q1)
    · obtain⟨z,q⟩:=ji q
      obtain⟨d,q1,rfl⟩:=ja q
      exact XQ (jq R h q1) h.k (aA z)
  · split at q
    · exact BD (Qb R h q)
    · exact BD (ay R h q)
  · obtain⟨z,q⟩:=ji q
    obtain⟨d,q1,rfl⟩:=ja q
    exact XQ (jq R h q1) h.k (aA z)
omit R h in
theorem Kg{env:Env}(z:yh e=true):(assignEach (e :: es) env)=(false,assign e env) :: assignEach es env:=by
  cases e <;> first | rfl | cases z
theorem Qe{k:Nat}:∀{es:List Expr} {gs:Vn},av r Γ k es=some gs->VE X es (qQ K k gs)/\(assignEach es X.env).length=es.length/\(assignEach es X.env).findIdx? (·.1)=none
  | [],_,q=>by cases q; exact⟨eI,rfl,rfl⟩
  | e :: es,gs,q=>by
    unfold av at q
    obtain⟨z,q⟩:=ji q
    obtain⟨g,q1,q⟩:=bind_some q
    obtain⟨gs',q2,rfl⟩:=ja q
    obtain⟨a1,a2,a3⟩:=Qe q2
    refine⟨BO (R.g h q1) a1 (by rw[Kg z]; rfl),by rw[Kg z]; simp[a2],?_⟩
    rw[Kg z,List.findIdx?_cons,a3]
    rfl
theorem Ct{k:Nat}{g:DG}(q:Ca r Γ k e=some g):PG X e (tG K k g):=by
  unfold Ca at q
  split at q
  · obtain⟨i,q1,q⟩:=bind_some q
    obtain⟨z,q⟩:=ji q
    cases q
    obtain⟨s1,s2,s3,s4⟩:=Ke h q1
    exact BN (aV s1 s2 s3 s4) (Nat.blt_eq.mp z)
  · obtain⟨gs,q1,rfl⟩:=ja q
    obtain⟨a1,a2,a3⟩:=Qe R h q1
    exact eJ _ h.calm a1 a2 a3 h.k
  · cases q
end
theorem kj:∀n:Nat,RcOk (rc n)
  | 0=>⟨(fun _ q=>by cases q),(fun _ q=>by cases q),(fun _ q=>by cases q)⟩
  | n + 1=>⟨fun h q=>eX (kj n) h q,fun h q=>eY (kj n) h q,fun h q=>Ct (kj n) h q⟩
end CP
namespace CP
open PySem PySem.Spec PyProof.Rows L2 DS
section
variable {r:Rc} {Γ:Gm} {X:Cx} {K:Fr} {x y:Str} {i:Nat} {e a b c tg:Expr} {es:List Expr} {pos:Pos} {d:DE}
theorem aB{elt iter:Expr}{ifs:List Expr}{scope:Scope}{np p:Pos}{l:Nat}{aa:Int}(h:OkX K Γ X)(z:Eo Γ scope x np p=true):swapsWith (.ListComp elt [⟨tg,iter,ifs,aa⟩] scope p) (some (.Name x np)) l X.env=pure true:=by
  obtain⟨z,z4⟩:=ju z
  obtain⟨z,z3⟩:=ju z
  obtain⟨z1,z2⟩:=ju z
  have k1:Γ.sc.kind=.function:=by
    split at z1
    · assumption
    · cases z1
  have e1:X.env.blockKind=.function:=by
    unfold Env.blockKind
    rw[h.sc,k1]
    rfl
  have e2:X.env.kindOf x=some .local:=by
    show X.env.scope.names.lookup x=_
    rw[h.sc]
    exact Q8 z2
  show(pure (X.env.blockKind == .function && X.env.kindOf x == some .local && np.line == p.line && !(scope.names.any fun(n,k)=>n == x && (k == .local || k == .cell))):Sem Bool)=pure true
  rw[e1,e2,z3,z4]
  rfl
theorem Qf{o j:Expr}{env:Env}(z:WM j=true):∀v,assign (.Subscript o j pos) env v=(do
      let ov<-holding [v] (eval o env)
      let iv<-holding [v,ov] (eval j env)
      standAt pos
      holding [v,ov,iv] (setItem ov iv v)
      release [v,ov,iv] []):=by
  cases j <;> first | (intro _; rfl) | cases z
theorem Kh{env:Env}{tg:Expr}{l:Nat}(h:Ur e=true):swapsWithSole [tg] e l env=pure false:=by
  unfold swapsWithSole
  exact vJ h
theorem Qg{o j e:Expr}{env:Env}{p:Pos}:swappedStores [.Subscript o j p] e env=pure none:=by
  cases e <;> rfl
theorem Cu{es:List Expr}{n:Nat}{e:Expr}{env:Env}{p:Pos}(z:(!uJ e)=true):swappedStores [.Tuple es n p] e env=pure none:=by
  cases e <;> first | rfl | cases z
variable (R:RcOk r) (h:OkX K Γ X)
include R h
theorem aD{d:DO}(q:cF r Γ e=some d):PE X e (tF K d):=by
  unfold cF at q
  split at q
  · rename_i hn
    cases q
    exact R.n h hn
  · cases q
theorem Cv{np:Pos}{d:DS.DS}(q0:Ep r Γ x np e=some d):PS X (.Assign [.Name x np] e pos) (tS K d):=by
  obtain⟨i,s0,q0⟩:=bind_some q0
  obtain⟨s1,s2,s3,s4⟩:=Ke h s0
  split at q0
  · obtain⟨d0,q1,q0⟩:=bind_some q0
    obtain⟨z2,q0⟩:=ji q0
    cases q0
    obtain⟨_,_,_,own,caps,di,g,dc,de,rfl,rfl,L⟩:=Qd R h q1
    split
    · exact Au own caps s1 s2 s3 L.S L.cp h.calm L.i L.g L.t L.e L.nd L.fs (aB h z2) s4
    · exact Av own caps s1 s2 s3 L.S L.cp h.calm L.i L.g L.t L.e L.nd L.fs (aB h z2) s4
  · obtain⟨z,q0⟩:=ji q0
    split at q0
    · obtain⟨d0,q1,rfl⟩:=ja q0
      exact XX (qf s1 s2 s3 (aD R h q1) (vJ z) s4)
    · obtain⟨d0,q1,rfl⟩:=ja q0
      exact XW (qf s1 s2 s3 (yD R h q1) (vJ z) s4)
theorem Cw{t:Expr}{d:DS.DS}(q0:Cd r Γ t e=some d):PS X (.Assign [t] e pos) (tS K d):=by
  unfold Cd at q0
  split at q0
  · exact Cv R h q0
  · obtain⟨i,s9,q9⟩:=bind_some q0
    clear q0
    obtain⟨x,p,rfl,s0⟩:=YJ s9
    obtain⟨z,q0⟩:=ji q9
    obtain⟨z1,z2⟩:=ju z
    obtain⟨d0,q1,rfl⟩:=ja q0
    exact cD (B6 (yY h s0) (yD R h q1) (vJ z1)) h.cl (h.fl _ z2) h.k
  · obtain⟨i,s9,q9⟩:=bind_some q0
    clear q0
    obtain⟨x,p,rfl,s0⟩:=YJ s9
    obtain⟨z,q0⟩:=ji q9
    obtain⟨z1,z2⟩:=ju z
    have hK:=h.k
    subst hK
    split at q0
    · obtain⟨dx,q1,q0⟩:=bind_some q0
      obtain⟨d0,q2,rfl⟩:=ja q0
      exact eR (ku (yD R h q2) (qe (yY h s0) (yD R h q1) (AA h.room) (Qf z2)) (Kh z1) Qg)
    · obtain⟨dx,q1,q0⟩:=bind_some q0
      obtain⟨d0,q2,rfl⟩:=ja q0
      exact ce (ku (yD R h q2) (qe (yY h s0) (jq R h q1) xk (Qf z2)) (Kh z1) Qg)
  · obtain⟨z,q0⟩:=ji q0
    obtain⟨z1,z2⟩:=ju z
    obtain⟨d0,q1,q0⟩:=bind_some q0
    obtain⟨g,q2,rfl⟩:=ja q0
    exact eL (ku (yD R h q1) (R.g h q2) (Kh z1) (Cu z2))
  · cases q0
theorem Cy{t:Expr}{op:Operator}{d:DS.DS}(q0:Ce r Γ t op e=some d):PS X (.AugAssign t op e pos) (tS K d):=by
  unfold Ce at q0
  split at q0
  · obtain⟨i,s0,q0⟩:=bind_some q0
    obtain⟨d0,q1,q0⟩:=bind_some q0
    obtain⟨s1,s2,s3,s4⟩:=Ke h s0
    split at q0
    · cases q0
      exact XY (qg s1 s2 s3 (jq R h q1) bK s4)
    · cases q0
      exact XY (qg s1 s2 s3 (jq R h q1) bL s4)
    · cases q0
  · cases q0
theorem Cz{f:Expr}{es:List Expr}{ks:List Keyword}{p:Pos}{d:DS.DS}(q0:Cf r Γ f es ks p=some d):PS X (.Expr (.Call f es ks p) pos) (tS K d):=by
  unfold Cf at q0
  split at q0
  · obtain⟨i,s9,q9⟩:=bind_some q0
    clear q0
    obtain⟨x,np,rfl,s0⟩:=YJ s9
    obtain⟨z,q0⟩:=ji q9
    obtain⟨z,z3⟩:=ju z
    obtain⟨z1,z2⟩:=ju z
    obtain⟨d0,q1,rfl⟩:=ja q0
    have e1:=eq_of_beq z1
    have hK:=h.k
    subst e1 hK
    exact xH (gI (EN (yY h s0) (Jd (yD R h q1) Y9 (jI z2)) rfl (by rw[jI z2]; rfl) z3 (jI z2)))
  · cases q0
theorem eZ{q:Gm->List Stmt->Option DS.DS}{s:Stmt}{d:DS.DS}(Q:∀l d,q Γ l=some d->Je X l (tS K d))(hp:PassesOwn (model X.prog X.w) X.A X.env X.xe)(q0:cS r q Γ s=some d):PS X s (tS K d):=by
  unfold cS at q0
  split at q0
  · split at q0
    · exact Cw R h q0
    · cases q0
  · exact Cy R h q0
  · unfold Er at q0
    split at q0
    · split at q0
      · cases q0
        exact Cz R h (by assumption)
      · obtain⟨d0,q1,rfl⟩:=ja q0
        exact qT (gI (jq R h q1) (vJ rfl))
    · obtain⟨z,q0⟩:=ji q0
      obtain⟨d0,q1,rfl⟩:=ja q0
      exact qT (gI (jq R h q1) (vJ z))
  · split at q0
    · cases q0
      exact cj
    · split at q0
      · rename_i hn
        obtain⟨x,p,rfl,hs⟩:=YJ hn
        split at q0
        · cases q0
          exact ci (yY h hs)
        · cases q0
          exact XZ (XI _ (yY h hs))
      · split at q0
        · obtain⟨d0,q1,rfl⟩:=ja q0
          exact cg (aD R h q1)
        · obtain⟨d0,q1,rfl⟩:=ja q0
          exact XZ (yD R h q1)
  · obtain⟨t,q1,q0⟩:=bind_some q0
    obtain⟨u,q2,q0⟩:=bind_some q0
    obtain⟨v,q3,rfl⟩:=ja q0
    exact fM (R.t h q1) (Q _ _ q2) (Q _ _ q3)
  · split at q0
    · obtain⟨t,q1,q0⟩:=bind_some q0
      obtain⟨u,q2,rfl⟩:=ja q0
      exact As _ hp (R.t h q1) (Q _ _ q2)
    · cases q0
  · split at q0
    · obtain⟨z,q0⟩:=ji q0
      obtain⟨di,q1,q0⟩:=bind_some q0
      obtain⟨g,q2,q0⟩:=bind_some q0
      obtain⟨u,q3,rfl⟩:=ja q0
      exact eM hp h.calm (az R h q1) (R.g h q2) (Q _ _ q3) (wV z)
    · cases q0
  · cases q0; exact BW
  · cases q0; exact Ar
  · cases q0; exact B_
  · cases q0
omit R h in
theorem gl{l:Nat}{st:List Stmt}:∀{sh:List (Nat×Nat)} {d:DS.DS},Je X st (tS K d)->Je X st (tS K (wT l sh d))
  | [],_,h=>h
  | (m,i) :: r,d,h=>by
    unfold wT
    split
    · exact xF i (gl h)
    · exact gl h
theorem Qh{q:Gm->List Stmt->Option DS.DS}(Q:∀l d,q Γ l=some d->Je X l (tS K d))(hp:PassesOwn (model X.prog X.w) X.A X.env X.xe):∀{l:List Stmt} {d:DS.DS},aw r q Γ l=some d->Je X l (tS K d)
  | [],_,q0=>by cases q0; exact BU
  | s :: t,d,q0=>by
    unfold aw at q0
    split at q0
    · cases q0; exact xE
    · obtain⟨d1,q1,q0⟩:=bind_some q0
      have h1:=eZ R h Q hp q1
      split at q0
      · cases q0
        exact gl (BV h1)
      · obtain⟨d2,q2,rfl⟩:=ja q0
        exact gl (Aq h1 (Qh Q hp q2))
theorem aE(hp:PassesOwn (model X.prog X.w) X.A X.env X.xe):∀(n:Nat) {l:List Stmt} {d:DS.DS},cQ r n Γ l=some d->Je X l (tS K d)
  | 0,_,_,q=>by cases q
  | n + 1,_,_,q=>Qh R h (fun l d q=>aE hp n q) hp q
end
structure De where
  x:Str
  q:Str
  st:Stmt
  ps:List Str
  lo:List Str
  ks:List Bool
  b:DS.DS
  hs:List ((Nat×Nat×Nat)×List Nat)
  sh:List (Nat×Nat)
  ow:List Nat
structure Tb where
  C:Addr
  gs:List (Str×GI)
  ms:List (Str×GI)
  fl:List Str
noncomputable def gm(T:Tb)(d:De)(kF:Bool):Gm:={ N:=d.ps ++ d.lo,sc:=defScope d.st,fn:=true,kF:=kF,C:=T.C,gs:=T.gs,ms:=T.ms,fl:=T.fl,hs:=d.hs,sh:=d.sh,ow:=d.ow }
noncomputable def Es(N ps:List Str)(sc:Scope):Bool:=(match sc.kind with | .function=>true | _=>false) && !sc.isCoroutine && !sc.isGenerator && Kb N && ps.all (WK sc) && sc.names.all fun y=>match y.2 with | .free=>false | _=>true
theorem kl{ps lo:List Str}{sc:Scope}(h:Es (ps ++ lo) ps sc=true):FnScope (ps ++ lo) ps sc:=by
  obtain⟨h,h6⟩:=ju h
  obtain⟨h,h5⟩:=ju h
  obtain⟨h,h4⟩:=ju h
  obtain⟨h,h3⟩:=ju h
  obtain⟨h1,h2⟩:=ju h
  refine⟨?_,ze h2,ze h3,G8 h4,by simp,fun x hx=>Q7 (List.all_eq_true.mp h5 x hx),fun y hy e=>?_⟩
  · split at h1
    · assumption
    · cases h1
  · have:=List.all_eq_true.mp h6 y hy
    rw[e]at this
    cases this
noncomputable def Bd(x q:Str)(st:Stmt)(ps:List Str):Prop:=∀(kV doc pm:Value) (an:Option Addr) (cdv ct:Value) (us:List Value),us.length=ps.length->bindArgs (PySem.W.fnOf x q (defArgs st) (defBody st) (defScope st) .none kV doc pm an cdv ct) ⟨us,[]⟩=pure (ps.zip us)
noncomputable def U0(T:Tb)(d:De)(kF:Bool):Option DS.DS:=cG (Es (d.ps ++ d.lo) d.ps (defScope d.st)) (cQ (rc 30) 30 (gm T d kF) (defBody d.st))
structure TOk (P:Program) (w:World) (K:Fr) (mg:Str->Option Value) (base:Heap) (n:Nat) (T:Tb):Prop where
  gs:∀p∈T.gs,Kc P w K mg base T.C (·<=n) K p.1 p.2
  ms:∀p∈T.ms,wU P w K mg base T.C (·<=n) K p.1 p.2
  cl:Cls K T.C
  fl:∀f∈T.fl,yI K T.C f
section
variable {P:Program} {w:World} {K:Fr} {mg:Str->Option Value} {base:Heap} {f C:Addr} {fd:FuncData} {n:Nat} {T:Tb} {d:De} {g:GI} {x:Str}
theorem Kc.mono{r r':Nat->Prop}(m:∀k,r k->r' k)(h:Kc P w K mg base C r K x g):Kc P w K mg base C r' K x g:=by
  cases g with
  | con i=>exact h
  | blt=>exact h
  | fE k ps ks F=>exact⟨h.1,m _ h.2⟩
  | fF k ps ks F=>exact⟨h.1,m _ h.2⟩
  | mk k ps ks F G=>exact⟨h.1,h.2.1,m _ h.2.2⟩
theorem wU.mono{r r':Nat->Prop}(m:∀k,r k->r' k)(h:wU P w K mg base C r K x g):wU P w K mg base C r' K x g:=by
  cases g with
  | con i=>exact h
  | blt=>exact h
  | fE k ps ks F=>exact⟨h.1,m _ h.2⟩
  | fF k ps ks F=>exact⟨h.1,m _ h.2⟩
  | mk k ps ks F G=>exact h
theorem TOk.mono{m:Nat}(h:TOk P w K mg base n T)(l:n<=m):TOk P w K mg base m T:=
  ⟨fun p hp=>(h.gs p hp).mono fun _ z=>Nat.le_trans z l,fun p hp=>(h.ms p hp).mono fun _ z=>Nat.le_trans z l,h.cl,h.fl⟩
theorem Uv{α:Type}{x:Str}{g:α}:∀{l:List (Str×α)},l.lookup x=some g->(x,g)∈l
  | [],h=>by cases h
  | (y,g') :: r,h=>by
    rw[List.lookup_cons]at h
    split at h
    · rename_i e
      cases h
      rw[eq_of_beq e]
      exact List.mem_cons_self
    · exact List.mem_cons_of_mem _ (Uv h)
theorem hI{kF:Bool}{cdv:Value}{A:Around}{outer:List Env}{s:Shared}{H:Hp}{E:XK}(h:TOk P w K mg base n T)(S:FnScope (d.ps ++ d.lo) d.ps (defScope d.st))(hr:Room n (A.deeper (envOfC d.q (defScope d.st) s.heap.objs.size f cdv))):
    OkX K (gm T d kF) (Ze Yb P w K mg base (d.ps ++ d.lo) d.q (defScope d.st) f cdv A outer s H E).nox where
  n:=rfl
  sc:=rfl
  nd:=S.nd
  calm:=rfl
  k:=rfl
  room:=hr.mono (Nat.zero_le _)
  fn:=fun _ _=>rfl
  gs:=fun x g e=>(h.gs _ (Uv e)).mono fun k z=>hr.mono z
  ms:=fun x g e=>(h.ms _ (Uv e)).mono fun k z=>hr.mono z
  cl:=h.cl
  fl:=fun f e=>h.fl f (List.contains_iff_mem.mp e)
theorem Ga{kF:Bool}{b:DS.DS}{cdv:Value}{A:Around}{outer:List Env}{s:Shared}{H:Hp}{E:XK}(h:TOk P w K mg base n T)(c:U0 T d kF=some b)(hr:Room n (A.deeper (envOfC d.q (defScope d.st) s.heap.objs.size f cdv))):
    Je (Ze Yb P w K mg base (d.ps ++ d.lo) d.q (defScope d.st) f cdv A outer s H E).nox (defBody d.st) (tS K b):=by
  obtain⟨c1,c2⟩:=ji c
  exact aE (kj 30) (hI h (kl c1) hr) PassesOwn.never 30 c2
theorem aF(h:TOk P w K mg base n T)(F:Fun K d.x d.q d.st f fd)(c:U0 T d false=some d.b)(hk:d.ks.length=d.ps.length):FnOk P w K mg base Yb (n + 1) f fd d.ps (ga K d.ks (J0 d.ks d.lo.length d.b)):=
  fP F (kl (ji c).1) hk (by simp) fun cdv A outer s H E hr=>Ga h c hr
theorem hU(h:TOk P w K mg base n T)(F:Fun K d.x d.q d.st f fd)(c:U0 T d true=some d.b)(hk:d.ks.length=d.ps.length):FnOk P w K mg base Yb (n + 1) f fd d.ps (wO K d.ks (Vp d.ks d.lo.length d.b)):=
  fQ F (kl (ji c).1) hk (by simp) fun cdv A outer s H E hr=>Ga h c hr
theorem hV(h:TOk P w K mg base n T)(F:Fun K d.x d.q d.st f fd)(c:U0 T d false=some d.b)(hk:d.ks.length + 1=d.ps.length):FnOk P w K mg base Yb (n + 1) f fd d.ps (XV K C d.ks (qV C d.ks d.lo.length d.b)):=
  fU F (kl (ji c).1) hk (by simp) fun cdv A outer s H E hr=>Ga h c hr
noncomputable def At(K:Fr)(x q:Str)(st:Stmt):Prop:=∃f fd,W.nsIn K mainGlobals x=some (some (.ref f))/\Fun K x q st f fd
noncomputable def Qi(K:Fr)(C:Addr)(x q:Str)(st:Stmt):Prop:=∃f fd,W.findIn K (.ref C) x=some (some (.ref f))/\W.isFn K (.ref f)=true/\Fun K x q st f fd
theorem WO{q:Str}{st:Stmt}(a:W.nsIn K mainGlobals x=some (some (.ref f)))(F:Fun K x q st f fd):At K x q st:=⟨f,fd,a,F⟩
theorem Qj{q:Str}{st:Stmt}(a:W.findIn K (.ref C) x=some (some (.ref f)))(i:W.isFn K (.ref f)=true)(F:Fun K x q st f fd):Qi K C x q st:=⟨f,fd,a,i,F⟩
noncomputable def G0(K:Fr)(x:Str):GI->Prop
  | .con i=>∃t,W.nsIn K mainGlobals x=some (some (.int i t))
  | .blt=>W.nsIn K mainGlobals x=some none
  | _=>False
theorem Et{α:Type}{p:α->Prop}:∀x∈([]:List α),p x:=fun _ h=>by cases h
theorem JE{α:Type}{p:α->Prop}{a:α}{l:List α}(h:p a)(t:∀x∈l,p x):∀x∈a :: l,p x:=fun x hx=>by
  rcases List.mem_cons.mp hx with rfl | hx
  · exact h
  · exact t x hx
theorem e_{rm:Nat->Prop}(XG:∀x v,W.nsIn K mainGlobals x=some (some v)->mg x=some v)(XN:∀x,W.nsIn K mainGlobals x=some none->mg x=none)(h:G0 K x g):Kc P w K mg base C rm K x g:=by
  cases g with
  | con i=>obtain⟨t,h⟩:=h; exact⟨t,XG _ _ h⟩
  | blt=>exact XN _ h
  | _=>exact h.elim
noncomputable def Tb.ag(T:Tb)(x:Str)(i:GI):Tb:={ T with gs:=(x,i) :: T.gs }
noncomputable def Tb.am(T:Tb)(x:Str)(i:GI):Tb:={ T with ms:=(x,i) :: T.ms }
theorem TOk.ag{m:Nat}(h:TOk P w K mg base n T)(l:n<=m)(q:Kc P w K mg base T.C (·<=m) K x g):TOk P w K mg base m (T.ag x g):=
  ⟨fun p hp=>by
    rcases List.mem_cons.mp hp with rfl | hp
    · exact q
    · exact(h.mono l).gs p hp,(h.mono l).ms,h.cl,h.fl⟩
theorem TOk.am{m:Nat}(h:TOk P w K mg base n T)(l:n<=m)(q:wU P w K mg base T.C (·<=m) K x g):TOk P w K mg base m (T.am x g):=
  ⟨(h.mono l).gs,fun p hp=>by
    rcases List.mem_cons.mp hp with rfl | hp
    · exact q
    · exact(h.mono l).ms p hp,h.cl,h.fl⟩
noncomputable def De.E(d:De)(n:Nat):GI:=.fE (n + 1) d.ps d.ks (J0 d.ks d.lo.length d.b)
noncomputable def De.F(d:De)(n:Nat):GI:=.fF (n + 1) d.ps d.ks (Vp d.ks d.lo.length d.b)
structure Ck (T:Tb) (d:De) (kF:Bool):Prop where
  c:U0 T d kF=some d.b
  k:(d.ks.length == d.ps.length)=true
  b:Bd d.x d.q d.st d.ps
variable (XG:∀x v,W.nsIn K mainGlobals x=some (some v)->mg x=some v)
include XG
theorem TOk.E(h:TOk P w K mg base n T)(a:At K d.x d.q d.st)(c:Ck T d false):TOk P w K mg base (n + 2) (T.ag d.x (d.E n)):=by
  obtain⟨f,fd,a1,F⟩:=a
  exact h.ag (Nat.le_add_right _ _) ⟨⟨f,fd,aF h F c.c (eq_of_beq c.k),F.binds c.b,F.kp,XG _ _ a1⟩,Nat.le_succ _⟩
theorem TOk.F(h:TOk P w K mg base n T)(a:At K d.x d.q d.st)(c:Ck T d true):TOk P w K mg base (n + 2) (T.ag d.x (d.F n)):=by
  obtain⟨f,fd,a1,F⟩:=a
  exact h.ag (Nat.le_add_right _ _) ⟨⟨f,fd,hU h F c.c (eq_of_beq c.k),F.binds c.b,F.kp,XG _ _ a1⟩,Nat.le_succ _⟩
omit XG in
theorem TOk.mE(h:TOk P w K mg base n T)(a:Qi K T.C d.x d.q d.st)(c:Ck T d false)(k:d.ks=[false]):TOk P w K mg base (n + 2) (T.am d.x (d.E n)):=by
  obtain⟨f,fd,a1,a2,F⟩:=a
  exact h.am (Nat.le_add_right _ _) ⟨⟨f,fd,k▸aF h F c.c (eq_of_beq c.k),F.binds c.b,⟨a1,a2,F.kp⟩⟩,Nat.le_succ _⟩
theorem TOk.I{x:Str}{G:List D->Option OD}(h:TOk P w K mg base n T)(a:Qi K T.C d.x d.q d.st)(hx:d.x = "__init__")(c:U0 T d false=some d.b)(k:(d.ks.length + 1 == d.ps.length)=true)(b:Bd d.x d.q d.st d.ps)(mk:W.makesIn K T.C=true)(kc:W.keepIn K (.ref T.C)=true)
    (aC:W.nsIn K mainGlobals x=some (some (.ref T.C))) (hG:∀p ds o,G ds=some o->qV T.C d.ks d.lo.length d.b p ds=some o):TOk P w K mg base (n + 2) (T.ag x (.mk (n + 1) d.ps d.ks (qV T.C d.ks d.lo.length d.b) G)):=by
  obtain⟨f,fd,a1,a2,F⟩:=a
  refine h.ag (Nat.le_add_right _ _) ⟨⟨f,fd,hV h F c (eq_of_beq k),F.binds b,⟨mk,?_,a2,kc⟩,XG _ _ aC⟩,hG,Nat.le_refl _⟩
  rw[hx]at a1
  exact a1
theorem TOk.R(h:TOk P w K mg base n T)(a:At K d.x d.q d.st)(F:Nat->List D->Option D)(B:(List D->Option D)->DS.DS)(m:Nat)(F0:∀ds,F 0 ds=none)(FS:∀m,F (m + 1)=J0 d.ks d.lo.length (B (F m)))
    (c:∀m,U0 (T.ag d.x (.fE (n + m) d.ps d.ks (F m))) d false=some (B (F m))) (k:(d.ks.length == d.ps.length)=true) (b:Bd d.x d.q d.st d.ps):TOk P w K mg base (n + m) (T.ag d.x (.fE (n + m) d.ps d.ks (F m))):=by
  obtain⟨f,fd,a1,Fu⟩:=a
  have all:∀m,FnOk P w K mg base Yb (n + m) f fd d.ps (ga K d.ks (F m)):=by
    intro m
    induction m with
    | zero=>
      have no:∀vs H Q E,¬ga K d.ks (F 0) vs H Q E:=fun vs H Q E h=>by
        obtain⟨O,ds,d,_,_,h1,_⟩:=h
        rw[F0]at h1
        cases h1
      exact⟨fun vs H Q E h=>absurd h (no vs H Q E),fun A outer s H args us vs Q E _ _ _ _ h=>absurd h (no vs H Q E)⟩
    | succ m ih=>
      have h':TOk P w K mg base (n + m) (T.ag d.x (.fE (n + m) d.ps d.ks (F m))):=h.ag (Nat.le_add_right _ _) ⟨⟨f,fd,ih,Fu.binds b,Fu.kp,XG _ _ a1⟩,Nat.le_refl _⟩
      rw[FS]
      exact aF (d:={ d with b:=B (F m) }) h' Fu (c m) (eq_of_beq k)
  exact h.ag (Nat.le_add_right _ _) ⟨⟨f,fd,all m,Fu.binds b,Fu.kp,XG _ _ a1⟩,Nat.le_refl _⟩
end
end CP
namespace DS
open PySem L2
theorem Jn{g:DG}{s:DS}{items:List D}(I:Nat->j9->Prop)(h:∀i d ρ,items[i]?=some d->I i ρ->∃ρ1 ρ2,g d ρ=some ρ1/\s ρ1=some (.nx ρ2)/\I (i + 1) ρ2):∀{ρ:j9},I 0 ρ->∃ρ',jw g s items ρ=some (.nx ρ')/\I items.length ρ':=by
  induction items generalizing I with
  | nil=>intro ρ h0; exact⟨ρ,rfl,h0⟩
  | cons d ds ih=>
    intro ρ h0
    obtain⟨ρ1,ρ2,e1,e2,i2⟩:=h 0 d ρ rfl h0
    obtain⟨ρ',e3,i3⟩:=ih (fun i=>I (i + 1)) (fun i d' ρ hd hi=>h (i + 1) d' ρ (by simpa using hd) hi) i2
    exact⟨ρ',by rw[jw,e1]; show(s ρ1).bind _=_; rw[e2]; exact e3,i3⟩
theorem Zq{g:DG}{s:DS}{items:List D}(I:j9->Prop)(p:D->Bool)(r:Rs)(hr:(∃d,r=.rt d)∨∃o,r=.rf o)(h:∀d∈items,∀ρ,I ρ->∃ρ1,g d ρ=some ρ1/\((p d=true/\s ρ1=some r)∨(p d=false/\∃ρ2,s ρ1=some (.nx ρ2)/\I ρ2))):∀{ρ:j9},I ρ->
    (items.any p=true/\jw g s items ρ=some r)∨(items.any p=false/\∃ρ',I ρ'/\jw g s items ρ=some (.nx ρ')):=by
  induction items with
  | nil=>intro ρ h0; exact .inr ⟨rfl,ρ,h0,rfl⟩
  | cons d ds ih=>
    intro ρ h0
    obtain⟨ρ1,e1,z⟩:=h d List.mem_cons_self ρ h0
    rcases z with⟨hp,e2⟩ | ⟨hp,ρ2,e2,i2⟩
    · refine .inl ⟨by rw[List.any_cons,hp]; rfl,?_⟩
      rw[jw,e1]
      show(s ρ1).bind _=_
      rw[e2]
      rcases hr with⟨d,rfl⟩ | ⟨o,rfl⟩ <;> rfl
    · rcases ih (fun d' hd=>h d' (List.mem_cons_of_mem _ hd)) i2 with⟨a1,a2⟩ | ⟨a1,ρ',a2,a3⟩
      · refine .inl ⟨by rw[List.any_cons,a1,Bool.or_true],?_⟩
        rw[jw,e1]
        show(s ρ1).bind _=_
        rw[e2]
        exact a2
      · refine .inr ⟨by rw[List.any_cons,hp,a1]; rfl,ρ',a2,?_⟩
        rw[jw,e1]
        show(s ρ1).bind _=_
        rw[e2]
        exact a3
theorem Ki{g:DG}{s:DS}{items:List D}{r:Rs}(I:Nat->j9->Prop)(Z:Nat->Rs->Prop)(h:∀i d ρ,items[i]?=some d->I i ρ->∃ρ1,g d ρ=some ρ1/\((∃ρ2,s ρ1=some (.nx ρ2)/\I (i + 1) ρ2)∨∃d',s ρ1=some (.rt d')/\Z i (.rt d'))):∀{ρ:j9},I 0 ρ->(∃ρ',jw g s items ρ=some (.nx ρ')/\I items.length ρ')∨∃i d',i < items.length/\jw g s items ρ=some (.rt d')/\Z i (.rt d'):=by
  induction items generalizing I Z with
  | nil=>intro ρ h0; exact .inl ⟨ρ,rfl,h0⟩
  | cons d ds ih=>
    intro ρ h0
    obtain⟨ρ1,e1,z⟩:=h 0 d ρ rfl h0
    rcases z with⟨ρ2,e2,i2⟩ | ⟨d',e2,z⟩
    · rcases ih (fun i=>I (i + 1)) (fun i=>Z (i + 1)) (fun i d' ρ hd hi=>h (i + 1) d' ρ (by simpa using hd) hi) i2 with⟨ρ',e3,i3⟩ | ⟨i,d',hi,e3,z⟩
      · exact .inl ⟨ρ',by rw[jw,e1]; show(s ρ1).bind _=_; rw[e2]; exact e3,i3⟩
      · exact .inr ⟨i + 1,d',by simpa using hi,by rw[jw,e1]; show(s ρ1).bind _=_; rw[e2]; exact e3,z⟩
    · exact .inr ⟨0,d',by simp,by simp[jw,e1,e2],z⟩
theorem Jv{α:Type}{g:DG}{dc:DT}{de:DE}{ρ:j9}(em:α->D)(f:α->D):∀{xs:List α},(∀x∈xs,∃ρ1,g (em x) ρ=some ρ1/\dc ρ1=some true/\de ρ1=some (f x))->Ja g dc de (xs.map em) ρ=some (xs.map f)
  | [],_=>rfl
  | x :: xs,h=>by
    obtain⟨ρ1,e1,e2,e3⟩:=h x List.mem_cons_self
    have ih:=Jv em f (xs:=xs) fun y hy=>h y (List.mem_cons_of_mem _ hy)
    simp[Ja,e1,e2,e3,ih]
theorem U1{α:Type}{g:DG}{dc:DT}{de:DE}{ρ:j9}(em:α->D)(p:α->Bool)(f:α->D):∀{xs:List α},(∀x∈xs,∃ρ1,g (em x) ρ=some ρ1/\dc ρ1=some (p x)/\de ρ1=some (f x))->Ja g dc de (xs.map em) ρ=some ((xs.filter p).map f)
  | [],_=>rfl
  | x :: xs,h=>by
    obtain⟨ρ1,e1,e2,e3⟩:=h x List.mem_cons_self
    have ih:=U1 em p f (xs:=xs) fun y hy=>h y (List.mem_cons_of_mem _ hy)
    cases hp:p x <;> simp[Ja,e1,e2,e3,ih,hp]
theorem gn{dt:DT}{s:DS}(I:j9->Prop)(m:j9->Nat)(h:∀ρ,I ρ->dt ρ=some false∨(dt ρ=some true/\∃ρ2,s ρ=some (.nx ρ2)/\I ρ2/\m ρ2 < m ρ)):∀{n:Nat} {ρ:j9},I ρ->m ρ < n->∃ρ',Vo dt s n ρ=some (.nx ρ')/\I ρ'/\dt ρ'=some false
  | 0,ρ,_,hn=>absurd hn (Nat.not_lt_zero _)
  | n + 1,ρ,hi,hn=>by
    rcases h ρ hi with e | ⟨e,ρ2,e2,i2,hm⟩
    · exact⟨ρ,by simp[Vo,e],hi,e⟩
    · obtain⟨ρ',e3,i3,f3⟩:=gn I m h (n:=n) i2 (by omega)
      exact⟨ρ',by simp[Vo,e,e2,e3],i3,f3⟩
noncomputable def t3(t:T3):D:=.tup [.int t.1,.int t.2.1,.int t.2.2]
structure Bk where
  size:Int
  kinds:List T3
  shuns:List T3
  bars:List T3
  dues:List T3
noncomputable def jj(b:Bk):D:=.tup [.int b.size,.lst (b.kinds.map t3),.lst (b.shuns.map t3),.lst (b.bars.map t3),.lst (b.dues.map t3)]
noncomputable def jk(C:Addr)(b:Bk):D:=.ins C ["size", "kind_rows", "shun_rows", "bar_rows", "due_rows"] [.int b.size,.tup (b.kinds.map t3),.tup (b.shuns.map t3),.tup (b.bars.map t3),.tup (b.dues.map t3)]
structure Sd where
  place:Int
  kind:Int
  len:Int
  before:Int
  waits:List Int
  met:List Bool
noncomputable def j0(s:Sd):D:=.tup [.int s.place,.int s.kind,.int s.len,.int s.before,.tup (s.waits.map .int),.tup (s.met.map .bl)]
noncomputable def zX(ks:List T3)(k:Int):T3:=ks.getD k.toNat (0,0,0)
theorem gp{α:Type}{xs:List α}{k:Int}{x:α}(h0:0<=k)(h:xs[k.toNat]?=some x):atI xs k=some x:=by
  have hk:=(List.getElem?_eq_some_iff.mp h).1
  unfold atI Zf
  rw[if_pos h0,if_pos (by omega)]
  exact h
theorem YK{α β:Type}{f:α->β}{xs:List α}{k:Int}{d:α}(h0:0<=k)(h1:k < (xs.length:Int)):atI (xs.map f) k=some (f (xs.getD k.toNat d)):=by
  have hk:k.toNat < xs.length:=by omega
  refine gp h0 ?_
  rw[List.getElem?_map,List.getD_eq_getElem?_getD,List.getElem?_eq_getElem hk]
  rfl
theorem YL{ks:List T3}{k:Int}(h0:0<=k)(h1:k < (ks.length:Int)):atI (ks.map t3) k=some (t3 (zX ks k)):=YK h0 h1
theorem Qk{n:Nat}{k:Int}(h0:0<=k)(h1:k < (n:Int)):Zf n k=some k.toNat:=by unfold Zf; rw[if_pos h0,if_pos h1]
theorem jB{n:Nat}(h:n<=10000):n < sizeLine:=Nat.lt_of_le_of_lt h (by decide)
noncomputable def fK(t:T3):Bool:=decide (1<=t.1) && (decide (t.1<=t.2.1) && (decide (t.2.1<=4) && (decide (0<=t.2.2) && decide (t.2.2<=4))))
noncomputable def fS(m:Int)(t:T3):Bool:=decide (0<=t.1) && (decide (t.1 < m) && (decide (0<=t.2.1) && (decide (t.2.1 < m) && (decide (1<=t.2.2) && decide (t.2.2<=2)))))
noncomputable def fB(m s:Int)(t:T3):Bool:=decide (0<=t.1) && (decide (t.1 < m) && (decide (1<=t.2.1) && (decide (t.2.1<=t.2.2) && decide (t.2.2<=s))))
noncomputable def fC(s k h b d:Int):Bool:=decide (1<=s) && (decide (s<=30) && (decide (1<=k) && (decide (k<=4) && (decide (h<=20) && (decide (b<=12) && decide (d<=3))))))
noncomputable def fR(s:Int)(k h b d:List T3):Bool:=k.all fK && (h.all (fS k.length) && (b ++ d).all (fB k.length s))
noncomputable def aG(b:Bk):Bool:=fC b.size b.kinds.length b.shuns.length b.bars.length b.dues.length && fR b.size b.kinds b.shuns b.bars b.dues
noncomputable def Gb(C:Addr)(b:Bk):OD:=.ins C ["size", "kind_rows", "shun_rows", "bar_rows", "due_rows"] [.int b.size,.tup (b.kinds.map t3),.tup (b.shuns.map t3),.tup (b.bars.map t3),.tup (b.dues.map t3)]
noncomputable def Ql:D->Option T3
  | .tup [.int x,.int y,.int z]=>some (x,y,z)
  | _=>none
noncomputable def V0:List D->Option (List T3)
  | []=>some []
  | d :: l=>(Ql d).bind fun t=>(V0 l).bind fun ts=>some (t :: ts)
theorem CA(t:T3):Ql (t3 t)=some t:=rfl
theorem Kj:∀ts:List T3,V0 (ts.map t3)=some ts
  | []=>rfl
  | t :: ts=>by rw[List.map_cons,V0,CA,Kj ts]; rfl
theorem CB{d:D}{t:T3}(h:Ql d=some t):d=t3 t:=by
  unfold Ql at h
  split at h
  · cases h; rfl
  · cases h
theorem vK:∀{l:List D} {ts:List T3},V0 l=some ts->l=ts.map t3
  | [],_,h=>by cases h; rfl
  | d :: l,ts,h=>by
    rw[V0]at h
    obtain⟨t,e1,h⟩:=bind_some h
    obtain⟨r,e2,h⟩:=bind_some h
    cases h
    rw[List.map_cons,<-CB e1,<-vK e2]
noncomputable def Gc(C:Addr):List D->Option OD
  | [.int s,.lst k,.lst h,.lst b,.lst d]=>(V0 k).bind fun k'=>(V0 h).bind fun h'=>(V0 b).bind fun b'=>(V0 d).bind fun d'=>if aG ⟨s,k',h',b',d'⟩=true then some (Gb C ⟨s,k',h',b',d'⟩)else none
  | _=>none
@[simp] theorem hW(s:Sd):jc (j0 s) (.int 0)=some (.int s.place):=rfl
@[simp] theorem hX(s:Sd):jc (j0 s) (.int 1)=some (.int s.kind):=rfl
@[simp] theorem hZ(s:Sd):jc (j0 s) (.int 2)=some (.int s.len):=rfl
@[simp] theorem h_(s:Sd):jc (j0 s) (.int 3)=some (.int s.before):=rfl
@[simp] theorem Ha(s:Sd):jc (j0 s) (.int 4)=some (.tup (s.waits.map .int)):=rfl
@[simp] theorem Hb(s:Sd):jc (j0 s) (.int 5)=some (.tup (s.met.map .bl)):=rfl
@[simp] theorem Hk(t:T3):jc (t3 t) (.int 0)=some (.int t.1):=rfl
@[simp] theorem Hl(t:T3):jc (t3 t) (.int 1)=some (.int t.2.1):=rfl
@[simp] theorem Hm(t:T3):jc (t3 t) (.int 2)=some (.int t.2.2):=rfl
@[simp] theorem Hn(b:Bk):jc (jj b) (.int 0)=some (.int b.size):=rfl
@[simp] theorem Ho(b:Bk):jc (jj b) (.int 1)=some (.lst (b.kinds.map t3)):=rfl
@[simp] theorem Hq(b:Bk):jc (jj b) (.int 2)=some (.lst (b.shuns.map t3)):=rfl
@[simp] theorem Hr(b:Bk):jc (jj b) (.int 3)=some (.lst (b.bars.map t3)):=rfl
@[simp] theorem Hs(b:Bk):jc (jj b) (.int 4)=some (.lst (b.dues.map t3)):=rfl
@[simp] theorem Ht(t:T3):zo (t3 t)=false:=rfl
@[simp] theorem Hc(s:Sd):zo (j0 s)=false:=rfl
end DS
namespace M
open DS
@[simp high] theorem i4(a0:Sl)(l:j9):(a0 :: l)[0]?=some a0:=rfl
@[simp high] theorem i5(a0 x:Sl)(l:j9):List.set (a0 :: l) 0 x=x :: l:=rfl
@[simp high] theorem i6(a0 a1:Sl)(l:j9):(a0 :: a1 :: l)[1]?=some a1:=rfl
@[simp high] theorem i7(a0 a1 x:Sl)(l:j9):List.set (a0 :: a1 :: l) 1 x=a0 :: x :: l:=rfl
@[simp high] theorem i8(a0 a1 a2:Sl)(l:j9):(a0 :: a1 :: a2 :: l)[2]?=some a2:=rfl
@[simp high] theorem i9(a0 a1 a2 x:Sl)(l:j9):List.set (a0 :: a1 :: a2 :: l) 2 x=a0 :: a1 :: x :: l:=rfl
@[simp high] theorem ic(a0 a1 a2 a3:Sl)(l:j9):(a0 :: a1 :: a2 :: a3 :: l)[3]?=some a3:=rfl
@[simp high] theorem ie(a0 a1 a2 a3 x:Sl)(l:j9):List.set (a0 :: a1 :: a2 :: a3 :: l) 3 x=a0 :: a1 :: a2 :: x :: l:=rfl
@[simp high] theorem ig(a0 a1 a2 a3 a4:Sl)(l:j9):(a0 :: a1 :: a2 :: a3 :: a4 :: l)[4]?=some a4:=rfl
@[simp high] theorem ii(a0 a1 a2 a3 a4 x:Sl)(l:j9):List.set (a0 :: a1 :: a2 :: a3 :: a4 :: l) 4 x=a0 :: a1 :: a2 :: a3 :: x :: l:=rfl
@[simp high] theorem ij(a0 a1 a2 a3 a4 a5:Sl)(l:j9):(a0 :: a1 :: a2 :: a3 :: a4 :: a5 :: l)[5]?=some a5:=rfl
@[simp high] theorem ik(a0 a1 a2 a3 a4 a5 x:Sl)(l:j9):List.set (a0 :: a1 :: a2 :: a3 :: a4 :: a5 :: l) 5 x=a0 :: a1 :: a2 :: a3 :: a4 :: x :: l:=rfl
@[simp high] theorem im(a0 a1 a2 a3 a4 a5 a6:Sl)(l:j9):(a0 :: a1 :: a2 :: a3 :: a4 :: a5 :: a6 :: l)[6]?=some a6:=rfl
@[simp high] theorem io(a0 a1 a2 a3 a4 a5 a6 x:Sl)(l:j9):List.set (a0 :: a1 :: a2 :: a3 :: a4 :: a5 :: a6 :: l) 6 x=a0 :: a1 :: a2 :: a3 :: a4 :: a5 :: x :: l:=rfl
@[simp high] theorem ip(a0 a1 a2 a3 a4 a5 a6 a7:Sl)(l:j9):(a0 :: a1 :: a2 :: a3 :: a4 :: a5 :: a6 :: a7 :: l)[7]?=some a7:=rfl
@[simp high] theorem iq(a0 a1 a2 a3 a4 a5 a6 a7 x:Sl)(l:j9):List.set (a0 :: a1 :: a2 :: a3 :: a4 :: a5 :: a6 :: a7 :: l) 7 x=a0 :: a1 :: a2 :: a3 :: a4 :: a5 :: a6 :: x :: l:=rfl
@[simp high] theorem ir(a0 a1 a2 a3 a4 a5 a6 a7 a8:Sl)(l:j9):(a0 :: a1 :: a2 :: a3 :: a4 :: a5 :: a6 :: a7 :: a8 :: l)[8]?=some a8:=rfl
@[simp high] theorem iu(a0 a1 a2 a3 a4 a5 a6 a7 a8 x:Sl)(l:j9):List.set (a0 :: a1 :: a2 :: a3 :: a4 :: a5 :: a6 :: a7 :: a8 :: l) 8 x=a0 :: a1 :: a2 :: a3 :: a4 :: a5 :: a6 :: a7 :: x :: l:=rfl
@[simp high] theorem iw(a0 a1 a2 a3 a4 a5 a6 a7 a8 a9:Sl)(l:j9):(a0 :: a1 :: a2 :: a3 :: a4 :: a5 :: a6 :: a7 :: a8 :: a9 :: l)[9]?=some a9:=rfl
@[simp high] theorem ix(a0 a1 a2 a3 a4 a5 a6 a7 a8 a9 x:Sl)(l:j9):List.set (a0 :: a1 :: a2 :: a3 :: a4 :: a5 :: a6 :: a7 :: a8 :: a9 :: l) 9 x=a0 :: a1 :: a2 :: a3 :: a4 :: a5 :: a6 :: a7 :: a8 :: x :: l:=rfl
@[simp high] theorem Hz(a0 a1 a2 a3 a4 a5 a6 a7 a8 a9 a10:Sl)(l:j9):(a0 :: a1 :: a2 :: a3 :: a4 :: a5 :: a6 :: a7 :: a8 :: a9 :: a10 :: l)[10]?=some a10:=rfl
@[simp high] theorem HA(a0 a1 a2 a3 a4 a5 a6 a7 a8 a9 a10 x:Sl)(l:j9):List.set (a0 :: a1 :: a2 :: a3 :: a4 :: a5 :: a6 :: a7 :: a8 :: a9 :: a10 :: l) 10 x=a0 :: a1 :: a2 :: a3 :: a4 :: a5 :: a6 :: a7 :: a8 :: a9 :: x :: l:=rfl
@[simp high] theorem HB(a0 a1 a2 a3 a4 a5 a6 a7 a8 a9 a10 a11:Sl)(l:j9):(a0 :: a1 :: a2 :: a3 :: a4 :: a5 :: a6 :: a7 :: a8 :: a9 :: a10 :: a11 :: l)[11]?=some a11:=rfl
@[simp high] theorem HC(a0 a1 a2 a3 a4 a5 a6 a7 a8 a9 a10 a11 x:Sl)(l:j9):List.set (a0 :: a1 :: a2 :: a3 :: a4 :: a5 :: a6 :: a7 :: a8 :: a9 :: a10 :: a11 :: l) 11 x=a0 :: a1 :: a2 :: a3 :: a4 :: a5 :: a6 :: a7 :: a8 :: a9 :: a10 :: x :: l:=rfl
@[simp high] theorem HD(a0 a1 a2 a3 a4 a5 a6 a7 a8 a9 a10 a11 a12:Sl)(l:j9):(a0 :: a1 :: a2 :: a3 :: a4 :: a5 :: a6 :: a7 :: a8 :: a9 :: a10 :: a11 :: a12 :: l)[12]?=some a12:=rfl
@[simp high] theorem HE(a0 a1 a2 a3 a4 a5 a6 a7 a8 a9 a10 a11 a12 x:Sl)(l:j9):List.set (a0 :: a1 :: a2 :: a3 :: a4 :: a5 :: a6 :: a7 :: a8 :: a9 :: a10 :: a11 :: a12 :: l) 12 x=a0 :: a1 :: a2 :: a3 :: a4 :: a5 :: a6 :: a7 :: a8 :: a9 :: a10 :: a11 :: x :: l:=rfl
@[simp high] theorem HF(a0 a1 a2 a3 a4 a5 a6 a7 a8 a9 a10 a11 a12 a13:Sl)(l:j9):(a0 :: a1 :: a2 :: a3 :: a4 :: a5 :: a6 :: a7 :: a8 :: a9 :: a10 :: a11 :: a12 :: a13 :: l)[13]?=some a13:=rfl
@[simp high] theorem HG(a0 a1 a2 a3 a4 a5 a6 a7 a8 a9 a10 a11 a12 a13 x:Sl)(l:j9):List.set (a0 :: a1 :: a2 :: a3 :: a4 :: a5 :: a6 :: a7 :: a8 :: a9 :: a10 :: a11 :: a12 :: a13 :: l) 13 x=a0 :: a1 :: a2 :: a3 :: a4 :: a5 :: a6 :: a7 :: a8 :: a9 :: a10 :: a11 :: a12 :: x :: l:=rfl
@[simp high] theorem HH(a0 a1 a2 a3 a4 a5 a6 a7 a8 a9 a10 a11 a12 a13 a14:Sl)(l:j9):(a0 :: a1 :: a2 :: a3 :: a4 :: a5 :: a6 :: a7 :: a8 :: a9 :: a10 :: a11 :: a12 :: a13 :: a14 :: l)[14]?=some a14:=rfl
@[simp high] theorem HI(a0 a1 a2 a3 a4 a5 a6 a7 a8 a9 a10 a11 a12 a13 a14 x:Sl)(l:j9):List.set (a0 :: a1 :: a2 :: a3 :: a4 :: a5 :: a6 :: a7 :: a8 :: a9 :: a10 :: a11 :: a12 :: a13 :: a14 :: l) 14 x=a0 :: a1 :: a2 :: a3 :: a4 :: a5 :: a6 :: a7 :: a8 :: a9 :: a10 :: a11 :: a12 :: a13 :: x :: l:=rfl
@[simp high] theorem HJ(a0 a1 a2 a3 a4 a5 a6 a7 a8 a9 a10 a11 a12 a13 a14 a15:Sl)(l:j9):(a0 :: a1 :: a2 :: a3 :: a4 :: a5 :: a6 :: a7 :: a8 :: a9 :: a10 :: a11 :: a12 :: a13 :: a14 :: a15 :: l)[15]?=some a15:=rfl
@[simp high] theorem HK(a0 a1 a2 a3 a4 a5 a6 a7 a8 a9 a10 a11 a12 a13 a14 a15 x:Sl)(l:j9):List.set (a0 :: a1 :: a2 :: a3 :: a4 :: a5 :: a6 :: a7 :: a8 :: a9 :: a10 :: a11 :: a12 :: a13 :: a14 :: a15 :: l) 15 x=a0 :: a1 :: a2 :: a3 :: a4 :: a5 :: a6 :: a7 :: a8 :: a9 :: a10 :: a11 :: a12 :: a13 :: a14 :: x :: l:=rfl
@[simp high] theorem HL(a0 a1 a2 a3 a4 a5 a6 a7 a8 a9 a10 a11 a12 a13 a14 a15 a16:Sl)(l:j9):(a0 :: a1 :: a2 :: a3 :: a4 :: a5 :: a6 :: a7 :: a8 :: a9 :: a10 :: a11 :: a12 :: a13 :: a14 :: a15 :: a16 :: l)[16]?=some a16:=rfl
@[simp high] theorem HM(a0 a1 a2 a3 a4 a5 a6 a7 a8 a9 a10 a11 a12 a13 a14 a15 a16 x:Sl)(l:j9):List.set (a0 :: a1 :: a2 :: a3 :: a4 :: a5 :: a6 :: a7 :: a8 :: a9 :: a10 :: a11 :: a12 :: a13 :: a14 :: a15 :: a16 :: l) 16 x=a0 :: a1 :: a2 :: a3 :: a4 :: a5 :: a6 :: a7 :: a8 :: a9 :: a10 :: a11 :: a12 :: a13 :: a14 :: a15 :: x :: l:=rfl
@[simp high] theorem HN(a0 a1 a2 a3 a4 a5 a6 a7 a8 a9 a10 a11 a12 a13 a14 a15 a16 a17:Sl)(l:j9):(a0 :: a1 :: a2 :: a3 :: a4 :: a5 :: a6 :: a7 :: a8 :: a9 :: a10 :: a11 :: a12 :: a13 :: a14 :: a15 :: a16 :: a17 :: l)[17]?=some a17:=rfl
@[simp high] theorem HP(a0 a1 a2 a3 a4 a5 a6 a7 a8 a9 a10 a11 a12 a13 a14 a15 a16 a17 x:Sl)(l:j9):List.set (a0 :: a1 :: a2 :: a3 :: a4 :: a5 :: a6 :: a7 :: a8 :: a9 :: a10 :: a11 :: a12 :: a13 :: a14 :: a15 :: a16 :: a17 :: l) 17 x=a0 :: a1 :: a2 :: a3 :: a4 :: a5 :: a6 :: a7 :: a8 :: a9 :: a10 :: a11 :: a12 :: a13 :: a14 :: a15 :: a16 :: x :: l:=rfl
@[simp high] theorem HQ(a0 a1 a2 a3 a4 a5 a6 a7 a8 a9 a10 a11 a12 a13 a14 a15 a16 a17 a18:Sl)(l:j9):(a0 :: a1 :: a2 :: a3 :: a4 :: a5 :: a6 :: a7 :: a8 :: a9 :: a10 :: a11 :: a12 :: a13 :: a14 :: a15 :: a16 :: a17 :: a18 :: l)[18]?=some a18:=rfl
@[simp high] theorem HR(a0 a1 a2 a3 a4 a5 a6 a7 a8 a9 a10 a11 a12 a13 a14 a15 a16 a17 a18 x:Sl)(l:j9):List.set (a0 :: a1 :: a2 :: a3 :: a4 :: a5 :: a6 :: a7 :: a8 :: a9 :: a10 :: a11 :: a12 :: a13 :: a14 :: a15 :: a16 :: a17 :: a18 :: l) 18 x=a0 :: a1 :: a2 :: a3 :: a4 :: a5 :: a6 :: a7 :: a8 :: a9 :: a10 :: a11 :: a12 :: a13 :: a14 :: a15 :: a16 :: a17 :: x :: l:=rfl
@[simp high] theorem HS(a0 a1 a2 a3 a4 a5 a6 a7 a8 a9 a10 a11 a12 a13 a14 a15 a16 a17 a18 a19:Sl)(l:j9):(a0 :: a1 :: a2 :: a3 :: a4 :: a5 :: a6 :: a7 :: a8 :: a9 :: a10 :: a11 :: a12 :: a13 :: a14 :: a15 :: a16 :: a17 :: a18 :: a19 :: l)[19]?=some a19:=rfl
@[simp high] theorem HU(a0 a1 a2 a3 a4 a5 a6 a7 a8 a9 a10 a11 a12 a13 a14 a15 a16 a17 a18 a19 x:Sl)(l:j9):List.set (a0 :: a1 :: a2 :: a3 :: a4 :: a5 :: a6 :: a7 :: a8 :: a9 :: a10 :: a11 :: a12 :: a13 :: a14 :: a15 :: a16 :: a17 :: a18 :: a19 :: l) 19 x=a0 :: a1 :: a2 :: a3 :: a4 :: a5 :: a6 :: a7 :: a8 :: a9 :: a10 :: a11 :: a12 :: a13 :: a14 :: a15 :: a16 :: a17 :: a18 :: x :: l:=rfl
@[simp high] theorem HV(a0 a1 a2 a3 a4 a5 a6 a7 a8 a9 a10 a11 a12 a13 a14 a15 a16 a17 a18 a19 a20:Sl)(l:j9):(a0 :: a1 :: a2 :: a3 :: a4 :: a5 :: a6 :: a7 :: a8 :: a9 :: a10 :: a11 :: a12 :: a13 :: a14 :: a15 :: a16 :: a17 :: a18 :: a19 :: a20 :: l)[20]?=some a20:=rfl
@[simp high] theorem HW(a0 a1 a2 a3 a4 a5 a6 a7 a8 a9 a10 a11 a12 a13 a14 a15 a16 a17 a18 a19 a20 x:Sl)(l:j9):List.set (a0 :: a1 :: a2 :: a3 :: a4 :: a5 :: a6 :: a7 :: a8 :: a9 :: a10 :: a11 :: a12 :: a13 :: a14 :: a15 :: a16 :: a17 :: a18 :: a19 :: a20 :: l) 20 x=a0 :: a1 :: a2 :: a3 :: a4 :: a5 :: a6 :: a7 :: a8 :: a9 :: a10 :: a11 :: a12 :: a13 :: a14 :: a15 :: a16 :: a17 :: a18 :: a19 :: x :: l:=rfl
@[simp high] theorem HX(a0 a1 a2 a3 a4 a5 a6 a7 a8 a9 a10 a11 a12 a13 a14 a15 a16 a17 a18 a19 a20 a21:Sl)(l:j9):(a0 :: a1 :: a2 :: a3 :: a4 :: a5 :: a6 :: a7 :: a8 :: a9 :: a10 :: a11 :: a12 :: a13 :: a14 :: a15 :: a16 :: a17 :: a18 :: a19 :: a20 :: a21 :: l)[21]?=some a21:=rfl
@[simp high] theorem HY(a0 a1 a2 a3 a4 a5 a6 a7 a8 a9 a10 a11 a12 a13 a14 a15 a16 a17 a18 a19 a20 a21 x:Sl)(l:j9):List.set (a0 :: a1 :: a2 :: a3 :: a4 :: a5 :: a6 :: a7 :: a8 :: a9 :: a10 :: a11 :: a12 :: a13 :: a14 :: a15 :: a16 :: a17 :: a18 :: a19 :: a20 :: a21 :: l) 21 x=a0 :: a1 :: a2 :: a3 :: a4 :: a5 :: a6 :: a7 :: a8 :: a9 :: a10 :: a11 :: a12 :: a13 :: a14 :: a15 :: a16 :: a17 :: a18 :: a19 :: a20 :: x :: l:=rfl
@[elab_as_elim] theorem HZ{α:Type}{motive:List α->Prop}(us:List α)(hl:us.length=0)(h:motive []):motive us:=by
  cases us with
  | nil=>exact h 
  | cons y us=>simp at hl
@[elab_as_elim] theorem Gd{α:Type}{motive:List α->Prop}(us:List α)(hl:us.length=1)(h:∀x0,motive [x0]):motive us:=by
  cases us with
  | nil=>simp at hl
  | cons x0 us=>
    cases us with
    | nil=>exact h x0
    | cons y us=>simp at hl
@[elab_as_elim] theorem yK{α:Type}{motive:List α->Prop}(us:List α)(hl:us.length=2)(h:∀x0 x1,motive [x0,x1]):motive us:=by
  cases us with
  | nil=>simp at hl
  | cons x0 us=>
    cases us with
    | nil=>simp at hl
    | cons x1 us=>
      cases us with
      | nil=>exact h x0 x1
      | cons y us=>simp at hl
@[elab_as_elim] theorem yz{α:Type}{motive:List α->Prop}(us:List α)(hl:us.length=3)(h:∀x0 x1 x2,motive [x0,x1,x2]):motive us:=by
  cases us with
  | nil=>simp at hl
  | cons x0 us=>
    cases us with
    | nil=>simp at hl
    | cons x1 us=>
      cases us with
      | nil=>simp at hl
      | cons x2 us=>
        cases us with
        | nil=>exact h x0 x1 x2
        | cons y us=>simp at hl
@[elab_as_elim] theorem X1{α:Type}{motive:List α->Prop}(us:List α)(hl:us.length=4)(h:∀x0 x1 x2 x3,motive [x0,x1,x2,x3]):motive us:=by
  cases us with
  | nil=>simp at hl
  | cons x0 us=>
    cases us with
    | nil=>simp at hl
    | cons x1 us=>
      cases us with
      | nil=>simp at hl
      | cons x2 us=>
        cases us with
        | nil=>simp at hl
        | cons x3 us=>
          cases us with
          | nil=>exact h x0 x1 x2 x3
          | cons y us=>simp at hl
@[elab_as_elim] theorem CD{α:Type}{motive:List α->Prop}(us:List α)(hl:us.length=5)(h:∀x0 x1 x2 x3 x4,motive [x0,x1,x2,x3,x4]):motive us:=by
  cases us with
  | nil=>simp at hl
  | cons x0 us=>
    cases us with
    | nil=>simp at hl
    | cons x1 us=>
      cases us with
      | nil=>simp at hl
      | cons x2 us=>
        cases us with
        | nil=>simp at hl
        | cons x3 us=>
          cases us with
          | nil=>simp at hl
          | cons x4 us=>
            cases us with
            | nil=>exact h x0 x1 x2 x3 x4
            | cons y us=>simp at hl
@[elab_as_elim] theorem f_{α:Type}{motive:List α->Prop}(us:List α)(hl:us.length=6)(h:∀x0 x1 x2 x3 x4 x5,motive [x0,x1,x2,x3,x4,x5]):motive us:=by
  cases us with
  | nil=>simp at hl
  | cons x0 us=>
    cases us with
    | nil=>simp at hl
    | cons x1 us=>
      cases us with
      | nil=>simp at hl
      | cons x2 us=>
        cases us with
        | nil=>simp at hl
        | cons x3 us=>
          cases us with
          | nil=>simp at hl
          | cons x4 us=>
            cases us with
            | nil=>simp at hl
            | cons x5 us=>
              cases us with
              | nil=>exact h x0 x1 x2 x3 x4 x5
              | cons y us=>simp at hl
@[elab_as_elim] theorem H_{α:Type}{motive:List α->Prop}(us:List α)(hl:us.length=7)(h:∀x0 x1 x2 x3 x4 x5 x6,motive [x0,x1,x2,x3,x4,x5,x6]):motive us:=by
  cases us with
  | nil=>simp at hl
  | cons x0 us=>
    cases us with
    | nil=>simp at hl
    | cons x1 us=>
      cases us with
      | nil=>simp at hl
      | cons x2 us=>
        cases us with
        | nil=>simp at hl
        | cons x3 us=>
          cases us with
          | nil=>simp at hl
          | cons x4 us=>
            cases us with
            | nil=>simp at hl
            | cons x5 us=>
              cases us with
              | nil=>simp at hl
              | cons x6 us=>
                cases us with
                | nil=>exact h x0 x1 x2 x3 x4 x5 x6
                | cons y us=>simp at hl
end M
noncomputable section
namespace M
open PySem L2 DS
noncomputable def Yi:DS.DG:=(gN 6)
noncomputable def Jw(C:Addr):DS.DS:=(jo (jt (d2 zW (dV 5) (dK (.int 0)))) (j1 (JD 2 (d2 jL (dV 5) (dK (.int 1009))))
  (jf 5 (d2 Ui (dV 5) (dK (.int 1009))))) jG)
noncomputable def yi:DS.DG:=(gN 4)
noncomputable def yj(C:Addr):DS.DS:=(j1 (jf 3 (d2 jL (d2 jA (d2 jA (d2 JV (dV 3) (dK (.int 48271))) (d2 jL (dV 4) (dK (.int 1000003)))) (dK (.int 11))) (dK (.int 2147483647))))
  (j1 (jf 5 (d2 v4 (dV 4) (d2 xy (dK (.int 10)) (dK (.int 18)))))
  (j1 (jo (jt (d2 Vm (dV 5) (dK (.int 0)))) (JD 2 (d2 jL (dV 4) (dK (.int 9973)))) jG)
  (jW (yf (dK (.int 60))) Yi (Jw C)))))
noncomputable def Jx(C:Addr):DS.DT:=(jt (d2 Vm (j8 Jf [(false,(dV 2))]) (dV 1)))
noncomputable def Yj(C:Addr):DS.DS:=(j1 (jf 3 (d2 jL (d2 jA (d2 jA (d2 jA (d2 JV (dV 3) (dV 3)) (d2 JV (dK (.int 69621)) (dV 3))) (d2 JV (dK (.int 7)) (j8 Jf [(false,(dV 2))]))) (dK (.int 5))) (dK (.int 2147483629))))
  (JD 2 (d2 jL (d2 Ui (dV 3) (dK (.int 1013))) (dK (.int 9973)))))
noncomputable def YM(C:Addr):DS.DS:=(j1 (Jr 2 (J4 []))
  (j1 (jf 3 (dK (.int 29)))
  (j1 (jW (J1 (dL (Ye (dV 0) (fun _=>some none) (fun ρ=>((dK (.int 63)) ρ).bind zp)))) yi (yj C))
  (j1 (Vo (Jx C) (Yj C) 20000)
  (uF (Ye (dV 2) (fun _=>some none) (fun ρ=>((dV 1) ρ).bind zp)))))))
noncomputable def YN(C:Addr):List D->Option OD:=Vp [false,false] 5 (YM C)
noncomputable def Zr:DS.DG:=(gN 5)
noncomputable def Yk(C:Addr):DS.DS:=(j1 (jf 6 (d2 jA (dK (.int 1)) (d2 jL (d2 jc (dV 3) (d2 jA (d2 JV (dK (.int 3)) (dV 5)) (dK (.int 1)))) (dV 1))))
  (JD 4 (Y3 [(true,(d2 jL (d2 jc (dV 3) (d2 JV (dK (.int 3)) (dV 5))) (dV 0))),(true,(dC 6)),(true,(d2 jA (dV 6) (d2 jL (d2 jc (dV 3) (d2 jA (d2 JV (dK (.int 3)) (dV 5)) (dK (.int 2)))) (d2 jA (d2 v4 (dV 1) (dV 6)) (dK (.int 1))))))])))
noncomputable def YO(C:Addr):DS.DS:=(j1 (Jr 4 (J4 []))
  (j1 (jW (yf (dV 2)) Zr (Yk C))
  (Yu 4)))
noncomputable def yZ(C:Addr):List D->Option OD:=Vp [false,false,false,false] 3 (YO C)
noncomputable def Vr:DS.DG:=(gN 5)
noncomputable def Yg(C:Addr):DS.DS:=(j1 (jf 6 (d2 jA (dK (.int 1)) (d2 jc (dL (J4 [(true,(dK (.int 0))),(true,(dK (.int 0))),(true,(dK (.int 1))),(true,(dK (.int 0))),(true,(dK (.int 2))),(true,(dK (.int 3))),(true,(dK (.int 1)))])) (d2 jL (d2 jc (dV 0) (d2 jA (dK (.int 2)) (dV 5))) (dK (.int 7))))))
  (j1 (jf 7 (d2 jc (dL (J4 [(true,(dK (.int 0))),(true,(dK (.int 1))),(true,(dK (.int 2))),(true,(dK (.int 0))),(true,(dK (.int 3))),(true,(dK (.int 4))),(true,(dK (.int 1)))])) (d2 jL (d2 jc (dV 0) (d2 jA (dK (.int 10)) (dV 5))) (dK (.int 7)))))
  (j1 (jo (Zi (JB (jt (d2 jR (dV 2) (dK (.int 4)))) (jt (d2 zW (dV 3) (dK (.int 6))))) (jt (d2 zW (dV 3) (dK (.int 12))))) (jf 7 (d2 jL (dV 7) (dK (.int 3)))) jG)
  (JD 4 (Y3 [(true,(dC 6)),(true,(d2 jA (dV 6) (d2 jL (d2 jc (dV 0) (d2 jA (dK (.int 6)) (dV 5))) (d2 v4 (dK (.int 5)) (dV 6))))),(true,(dC 7))])))))
noncomputable def Vs:DS.DG:=(gN 5)
noncomputable def zH(C:Addr):DS.DS:=(j1 (jf 9 (d2 jA (d2 jA (dK (.int 44)) (d2 JV (dK (.int 3)) (d2 jL (dV 5) (dK (.int 5))))) (d2 Ui (dV 5) (dK (.int 5)))))
  (JD 8 (Y3 [(true,(d2 jL (d2 jc (dV 0) (dV 9)) (dV 2))),(true,(d2 jL (d2 jc (dV 0) (d2 jA (dV 9) (dK (.int 1)))) (dV 2))),(true,(d2 jA (dK (.int 1)) (d2 jL (d2 jc (dV 0) (d2 jA (dV 9) (dK (.int 2)))) (dK (.int 2)))))])))
noncomputable def v8(C:Addr):DS.DS:=(j1 (jf 2 (d2 jc (dL (J4 [(true,(dK (.int 2))),(true,(dK (.int 3))),(true,(dK (.int 3))),(true,(dK (.int 2))),(true,(dK (.int 1))),(true,(dK (.int 4))),(true,(dK (.int 3)))])) (d2 jL (d2 jc (dV 0) (dK (.int 0))) (dK (.int 7)))))
  (j1 (jf 3 (d2 jA (dK (.int 1)) (d2 jL (d2 jc (dV 0) (dK (.int 1))) (dV 1))))
  (j1 (Jr 4 (J4 []))
  (j1 (jW (yf (dV 2)) Vr (Yg C))
  (j1 (Jr 8 (J4 []))
  (j1 (jW (yf (d2 jc (dL (J4 [(true,(dK (.int 0))),(true,(dK (.int 0))),(true,(dK (.int 1))),(true,(dK (.int 2))),(true,(dK (.int 3))),(true,(dK (.int 0))),(true,(dK (.int 20)))])) (d2 jL (d2 jc (dV 0) (dK (.int 14))) (dK (.int 7))))) Vs (zH C))
  (j1 (jf 10 (dL (Yc 1 [0] (yf (dK (.int 36))) (gN 0) jZ (d2 jA (d2 jc (dV 1) (d2 jA (dK (.int 16)) (d2 jL (d2 JV (dK (.int 5)) (dV 0)) (dK (.int 9))))) (d2 JV (dK (.int 7)) (dV 0))))))
  (j1 (jf 11 (dL (jY (yZ C) [(false,(dV 2)),(false,(dV 3)),(false,(d2 jc (dL (J4 [(true,(dK (.int 0))),(true,(dK (.int 1))),(true,(dK (.int 0))),(true,(dK (.int 2))),(true,(dK (.int 12))),(true,(dK (.int 0)))])) (d2 jL (d2 jc (dV 0) (dK (.int 15))) (dK (.int 6))))),(false,(dV 10))])))
  (j1 (jf 12 (d2 jc (dL (J4 [(true,(dK (.int 0))),(true,(dK (.int 1))),(true,(dK (.int 0))),(true,(dK (.int 2))),(true,(dK (.int 3))),(true,(dK (.int 1)))])) (d2 jL (d2 jc (dV 0) (dK (.int 25))) (dK (.int 6)))))
  (j1 (jo (JB (jt (d2 zW (dV 3) (dK (.int 5)))) (jt (d2 zW (dV 2) (dK (.int 2))))) (jf 12 (d2 jL (dV 12) (dK (.int 3)))) jG)
  (Zk 4 (Zk 8 (je (Y3 [(true,(dC 3)),(true,(dC 4)),(true,(dC 8)),(true,(dC 11)),(true,(dL (jY (yZ C) [(false,(dV 2)),(false,(dV 3)),(false,(dV 12)),(false,(dL (Ye (dV 0) (fun ρ=>((dK (.int 26)) ρ).bind zp) (fun ρ=>((dK (.int 35)) ρ).bind zp))))])))]))))))))))))))
noncomputable def vc(C:Addr):List D->Option D:=J0 [false,false] 11 (v8 C)
noncomputable def zI(C:Addr):DS.DS:=(j1 (jo (Zi (yd (jt (J8 Ji Ji (dK (.int 1)) (dV 0) (dK (.int 30))))) (yd (jt (J8 Ji Ji (dK (.int 1)) (j8 Jf [(false,(dV 1))]) (dK (.int 4)))))) (je (dK (.bl false))) jG)
  (je (JC (d2 Ji (j8 Jf [(false,(dV 2))]) (dK (.int 20))) (JC (d2 Ji (j8 Jf [(false,(dV 3))]) (dK (.int 12))) (d2 Ji (j8 Jf [(false,(dV 4))]) (dK (.int 3)))))))
noncomputable def zJ(C:Addr):List D->Option D:=J0 [false,false,false,false,false] 0 (zI C)
noncomputable def vd(C:Addr):DS.DS:=(j1 (jo (jt (d2 Jk (j8 Jf [(false,(dV 0))]) (dK (.int 3)))) (je (dK (.bl false))) jG)
  (j1 (Zl (dC 0) (gT 3 (gC (gN 1) (gC (gN 2) (gC (gN 3) gZ)))))
  (je (JC (vG Ji Ji Ji (dK (.int 1)) (dV 1) (dV 2) (dK (.int 4))) (J8 Ji Ji (dK (.int 0)) (dV 3) (dK (.int 4)))))))
noncomputable def zf(C:Addr):List D->Option D:=J0 [true] 3 (vd C)
noncomputable def ve(C:Addr):DS.DS:=(j1 (jo (jt (d2 Jk (j8 Jf [(false,(dV 0))]) (dK (.int 3)))) (je (dK (.bl false))) jG)
  (j1 (Zl (dC 0) (gT 3 (gC (gN 2) (gC (gN 3) (gC (gN 4) gZ)))))
  (je (JC (J8 Ji Vm (dK (.int 0)) (dV 2) (dV 1)) (JC (J8 Ji Vm (dK (.int 0)) (dV 3) (dV 1)) (J8 Ji Ji (dK (.int 1)) (dV 4) (dK (.int 2))))))))
noncomputable def zg(C:Addr):List D->Option D:=J0 [true,false] 3 (ve C)
noncomputable def vf(C:Addr):DS.DS:=(j1 (jo (jt (d2 Jk (j8 Jf [(false,(dV 0))]) (dK (.int 3)))) (je (dK (.bl false))) jG)
  (j1 (Zl (dC 0) (gT 3 (gC (gN 3) (gC (gN 4) (gC (gN 5) gZ)))))
  (je (JC (J8 Ji Vm (dK (.int 0)) (dV 3) (dV 1)) (vG Ji Ji Ji (dK (.int 1)) (dV 4) (dV 5) (dV 2))))))
noncomputable def zh(C:Addr):List D->Option D:=J0 [true,false,false] 3 (vf C)
noncomputable def vg(C:Addr):DS.DS:=(j1 (jf 5 (j8 Jf [(false,(dV 1))]))
  (j1 (jo (yd (J9 (j8 zE [(false,(dL (Yc 1 [] (J1 (dP 1)) (gN 0) jZ (j8 (zf C) [(true,(dC 0))]))))]))) (je (dK (.bl false))) jG)
  (j1 (jo (yd (J9 (j8 zE [(false,(dL (Yc 1 [5] (J1 (dP 2)) (gN 0) jZ (j8 (zg C) [(true,(dC 0)),(false,(dV 1))]))))]))) (je (dK (.bl false))) jG)
  (je (j8 zE [(false,(dL (Yc 1 [5,0] (J1 (dL (qL Ww (dV 3) (dV 4)))) (gN 0) jZ (j8 (zh C) [(true,(dC 0)),(false,(dV 1)),(false,(dV 2))]))))])))))
noncomputable def vh(C:Addr):List D->Option D:=J0 [false,false,false,false,false] 1 (vg C)
noncomputable def yk(C:Addr):DS.DS:=(j1 (jo (yd (J9 (j8 (zJ C) [(false,(dV 1)),(false,(dV 2)),(false,(dV 3)),(false,(dV 4)),(false,(dV 5))]))) Z2 jG)
  (j1 (jo (yd (J9 (j8 (vh C) [(false,(dV 1)),(false,(dV 2)),(false,(dV 3)),(false,(dV 4)),(false,(dV 5))]))) Z2 jG)
  (j1 (Z3 0 C "size" (dC 1))
  (j1 (Z3 0 C "kind_rows" (j8 JU [(false,(dV 2))]))
  (j1 (Z3 0 C "shun_rows" (j8 JU [(false,(dV 3))]))
  (j1 (Z3 0 C "bar_rows" (j8 JU [(false,(dV 4))]))
  (Z3 0 C "due_rows" (j8 JU [(false,(dV 5))]))))))))
noncomputable def JR(C:Addr):Addr->List D->Option OD:=qV C [true,false,false,false,false] 0 (yk C)
noncomputable def Jg(C:Addr):List D->Option OD:=DS.Gc C
noncomputable def vi(C:Addr):DS.DS:=(uF (kg (Jg C) [(true,(d2 jc (dV 0) (dK (.int 0)))),(false,(dL (jY vW [(false,(d2 jc (dV 0) (dK (.int 1))))]))),(false,(dL (jY vW [(false,(d2 jc (dV 0) (dK (.int 2))))]))),(false,(dL (jY vW [(false,(d2 jc (dV 0) (dK (.int 3))))]))),(false,(dL (jY vW [(false,(d2 jc (dV 0) (dK (.int 4))))])))]))
noncomputable def vj(C:Addr):List D->Option OD:=Vp [false] 0 (vi C)
noncomputable def Zs(C:Addr):DS.DS:=(je (Y3 [(true,(dK (.int 0))),(true,(Yr (dK (.int 1)))),(true,(dK (.int 0))),(true,(Yr (dK (.int 1)))),(true,(j8 JU [(false,(dL (Yc 1 [] (J1 (d2 jc (dV 0) (dK (.int 1)))) (gN 0) jZ (dK (.int 0)))))])),(true,(j8 JU [(false,(dL (Yc 1 [] (J1 (d2 jc (dV 0) (dK (.int 4)))) (gN 0) jZ (dK (.bl false)))))]))]))
noncomputable def Yx(C:Addr):List D->Option D:=J0 [false] 0 (Zs C)
noncomputable def yl:DS.DG:=(gT 3 (gC (gN 7) (gC (gN 8) (gC (gN 9) gZ))))
noncomputable def Js(C:Addr):DS.DS:=(jo (JB (jt (d2 jR (dV 8) (dV 2))) (jt (d2 jR (d2 jc (dL (J4 [(true,(dC 3)),(true,(dC 5))])) (d2 v4 (dV 9) (dK (.int 1)))) (dV 7)))) (je (dK (.bl true))) jG)
noncomputable def yL(C:Addr):DS.DS:=(j1 (Zl (kf (dV 1) (fun ρ=>((dK (.int 1)) ρ).bind zp) (fun ρ=>((dK (.int 5)) ρ).bind zp)) (gT 4 (gC (gN 3) (gC (gN 4) (gC (gN 5) (gC (gN 6) gZ))))))
  (j1 (jo (JB (jt (d2 jR (dV 2) (dV 3))) (jt (d2 qM (dV 4) (d2 jc (d2 jc (d2 jc (dV 0) (dK (.int 1))) (dV 2)) (dK (.int 1)))))) (je (dK (.bl true))) jG)
  (j1 (jo (JB (jt (d2 Jk (dV 2) (dV 3))) (Zi (JB (jt (d2 Jk (dV 3) (Yr (dK (.int 1))))) (jt (d2 Vm (dV 4) (d2 jc (d2 jc (d2 jc (dV 0) (dK (.int 1))) (dV 3)) (dK (.int 0)))))) (jt (d2 zW (d2 jc (dV 6) (dV 2)) (dK (.int 0)))))) (je (dK (.bl true))) jG)
  (j1 (jW (J1 (d2 jc (dV 0) (dK (.int 2)))) yl (Js C))
  (je (dK (.bl false)))))))
noncomputable def yM(C:Addr):List D->Option D:=J0 [false,false,false] 7 (yL C)
noncomputable def V_:DS.DG:=(gT 2 (gC (gN 5) (gC (gT 3 (gC (gN 6) (gC (gN 7) (gC (gN 8) gZ)))) gZ)))
noncomputable def yN(C:Addr):DS.DS:=(j1 (JD 4 (gQ (d2 jc (dV 2) (dV 5)) (JC (d2 jR (dV 6) (dV 3)) (J8 Ji Ji (dV 7) (dV 1) (dV 8)))))
  (jo (JB (jt (d2 jR (dV 8) (dV 1))) (yd (J9 (d2 jc (dV 4) (dV 5))))) (je (dK .non)) jG))
noncomputable def V1(C:Addr):DS.DS:=(j1 (Jr 4 (J4 []))
  (j1 (jW (U_ (d2 jc (dV 0) (dK (.int 4)))) V_ (yN C))
  (Yu 4)))
noncomputable def V2(C:Addr):List D->Option D:=J0 [false,false,false,false] 5 (V1 C)
noncomputable def Vt:DS.DG:=(gT 3 (gC (gN 11) (gC (gN 12) (gC (gN 13) gZ))))
noncomputable def zK(C:Addr):DS.DS:=(jo (JB (jt (d2 jR (dV 11) (dV 2))) (jt (J8 Ji Ji (dV 12) (dV 9) (dV 13)))) (je (dK .non)) jG)
noncomputable def Vu:DS.DG:=(gT 2 (gC (gN 16) (gC (gT 3 (gC (gN 17) (gC (gN 18) (gC (gN 19) gZ)))) gZ)))
noncomputable def JF(C:Addr):DS.DS:=(j1 (jf 20 (d2 jc (dV 7) (dV 16)))
  (j1 (jo (jt (d2 jR (dV 16) (dV 4))) (jf 20 (dC 19)) jG)
  (JD 15 (Zj (jt (d2 jR (dV 16) (dV 2))) (dK (.int 0)) (j8 Uk [(false,(dK (.int 0))),(false,(d2 v4 (dV 20) (dK (.int 1))))])))))
noncomputable def vk(C:Addr):DS.DS:=(j1 (Zl (dC 1) (gT 6 (gC (gN 3) (gC (gN 4) (gC (gN 5) (gC (gN 6) (gC (gN 7) (gC (gN 8) gZ))))))))
  (j1 (jf 9 (d2 jA (dV 3) (dK (.int 1))))
  (j1 (jf 10 (Zj (jt (d2 jR (dV 2) (dV 4))) (d2 jA (dV 5) (dK (.int 1))) (dK (.int 1))))
  (j1 (jo (jt (d2 zW (dV 9) (d2 jc (dV 0) (dK (.int 0))))) (je (dK .non)) jG)
  (j1 (jW (J1 (d2 jc (dV 0) (dK (.int 3)))) Vt (zK C))
  (j1 (jo (J9 (j8 (yM C) [(false,(dV 0)),(false,(dV 1)),(false,(dV 2))])) (je (dK .non)) jG)
  (j1 (jf 14 (j8 (V2 C) [(false,(dV 0)),(false,(dV 9)),(false,(dV 8)),(false,(dV 2))]))
  (j1 (jo (jt (d2 Uj (dV 14) (dK .non))) (je (dK .non)) jG)
  (j1 (jo (JB (jt (d2 jR (dV 9) (d2 jc (dV 0) (dK (.int 0))))) (jt (d2 Vm (dV 10) (d2 jc (d2 jc (d2 jc (dV 0) (dK (.int 1))) (dV 2)) (dK (.int 0)))))) (je (dK .non)) jG)
  (j1 (Jr 15 (J4 []))
  (j1 (jW (U_ (d2 jc (dV 0) (dK (.int 1)))) Vu (JF C))
  (je (Y3 [(true,(dC 9)),(true,(dC 2)),(true,(dC 10)),(true,(dC 4)),(true,(j8 JU [(false,(dV 15))])),(true,(j8 JU [(false,(dV 14))]))])))))))))))))
noncomputable def J6(C:Addr):List D->Option D:=J0 [false,true,true] 18 (vk C)
noncomputable def Vv:DS.DG:=(gN 4)
noncomputable def yq(C:Addr):DS.DS:=(j1 (jf 5 (dL (Yc 1 [0,3] (yf (j8 Jf [(false,(d2 jc (dV 0) (dK (.int 1))))])) (gN 0) (jt (d2 yC (j8 (J6 C) [(false,(dV 1)),(true,(dC 2)),(true,(dC 0))]) (dK .non))) (dC 0))))
  (jo (jt (d2 Jk (dV 5) (dL (J4 [])))) (j1 (JD 2 (d2 jc (dV 5) (d2 jL (dV 4) (j8 Jf [(false,(dV 5))]))))
  (jf 3 (j8 (J6 C) [(false,(dV 0)),(true,(dC 3)),(true,(d2 jc (dV 2) (Yr (dK (.int 1)))))]))) jG))
noncomputable def vm(C:Addr):DS.DS:=(j1 (Jr 2 (J4 []))
  (j1 (jf 3 (j8 (Yx C) [(false,(dV 0))]))
  (j1 (jW (J1 (dP 1)) Vv (yq C))
  (Yu 2))))
noncomputable def zi(C:Addr):List D->Option OD:=Vp [false,false] 4 (vm C)
noncomputable def ZT:DS.DG:=(gN 5)
noncomputable def yE(C:Addr):DS.DS:=(j1 (jf 6 (j8 (J6 C) [(false,(dV 0)),(true,(dC 4)),(true,(dC 5))]))
  (jo (jt (d2 yC (dV 6) (dK .non))) (Yw 3 (dC 6) (dK (.bl true))) jG))
noncomputable def ZU:DS.DG:=(gN 4)
noncomputable def JK(C:Addr):DS.DS:=(jW (yf (j8 Jf [(false,(d2 jc (dV 0) (dK (.int 1))))])) ZT (yE C))
noncomputable def Jl(C:Addr):DS.DT:=(jt (d2 Jk (d2 jc (dV 2) (Yr (dK (.int 1)))) (dL (J4 []))))
noncomputable def yF(C:Addr):DS.DS:=(j1 (Jr 3 ZS)
  (j1 (jW (J1 (d2 jc (dV 2) (Yr (dK (.int 1))))) ZU (JK C))
  (JD 2 (dL (jY zt [(false,(dV 3))])))))
noncomputable def zL(C:Addr):DS.DS:=(j1 (Jr 2 (J4 [(true,(dL (J4 [(true,(dC 1))])))]))
  (j1 (Vo (Jl C) (yF C) 20000)
  (uF (Ye (dV 2) (fun _=>some none) (fun ρ=>((Yr (dK (.int 1))) ρ).bind zp)))))
noncomputable def zM(C:Addr):List D->Option OD:=Vp [false,true] 5 (zL C)
noncomputable def YQ:DS.DG:=(gN 7)
noncomputable def JX(C:Addr):DS.DS:=(j1 (jf 8 (j8 (J6 C) [(false,(dV 0)),(true,(dC 5)),(true,(dC 7))]))
  (jo (jt (d2 yC (dV 8) (dK .non))) (JD 6 (d2 yg (dV 3) (dV 8))) jG))
noncomputable def YR:DS.DG:=(gN 5)
noncomputable def JY(C:Addr):DS.DS:=(j1 (Jr 6 (J4 []))
  (j1 (jW (yf (j8 Jf [(false,(d2 jc (dV 0) (dK (.int 1))))])) YQ (JX C))
  (jo (jt (d2 jR (d2 jc (dV 5) (dK (.int 0))) (d2 jc (dV 0) (dK (.int 0))))) (Yw 3 (dC 5) (dK (.bl true))) (jo (jt (d2 jR (d2 jL (d2 jA (d2 jc (dV 5) (dK (.int 0))) (dK (.int 1))) (dV 1)) (dK (.int 0)))) (Yw 3 (dC 5) (JC (d2 zW (j8 Jf [(false,(dV 6))]) (dK (.int 0))) (d2 (VV true) (dK (.bl false)) (dV 6)))) (Yw 3 (dC 5) (d2 (VV false) (dK (.bl true)) (dV 6)))))))
noncomputable def YS:DS.DG:=(gN 4)
noncomputable def JZ(C:Addr):DS.DS:=(jW (J1 (dP 4)) YR (JY C))
noncomputable def Zt(C:Addr):DS.DS:=(j1 (Jr 3 ZS)
  (j1 (jW (K9 (dL (jY (zM C) [(false,(dV 0)),(true,(dC 2))]))) YS (JZ C))
  (Yu 3)))
noncomputable def yO(C:Addr):List D->Option OD:=Vp [false,false,true] 6 (Zt C)
noncomputable def YT:DS.DG:=(gN 3)
noncomputable def YU(C:Addr):DS.DS:=(jf 2 (j8 (J6 C) [(false,(dV 0)),(true,(dC 2)),(true,(dC 3))]))
noncomputable def Zu(C:Addr):DS.DS:=(j1 (jf 2 (j8 (Yx C) [(false,(dV 0))]))
  (j1 (jW (J1 (dP 1)) YT (YU C))
  (je (dC 2))))
noncomputable def J_(C:Addr):List D->Option D:=J0 [false,false] 2 (Zu C)
noncomputable def zj(C:Addr)(rec:List D->Option D):DS.DS:=(j1 (jo (jt (d2 Uj (dV 1) (dK .non))) (je (d2 Uj (dV 0) (dK .non))) jG)
  (j1 (jo (J9 (d1 WB (dV 1))) (j1 (jo (Zi (jt (d2 Jk (d1 (zF "list") (dV 0)) (d1 (zF "list") (dV 1)))) (jt (d2 Jk (d1 (zF "tuple") (dV 0)) (d1 (zF "tuple") (dV 1))))) (je (dK (.bl false))) jG)
  (je (JC (d2 jR (j8 Jf [(false,(dV 0))]) (j8 Jf [(false,(dV 1))])) (j8 zE [(false,(dL (Yc 2 [] (Ul (dP 0) (dP 1)) (gT 2 (gC (gN 0) (gC (gN 1) gZ))) jZ (j8 rec [(false,(dV 0)),(false,(dV 1))]))))])))) jG)
  (j1 (jo (Zi (jt (d2 Jk (d1 (zF "bool") (dV 0)) (d1 (zF "bool") (dV 1)))) (jt (d2 Jk (d1 (zF "str") (dV 0)) (d1 (zF "str") (dV 1))))) (je (dK (.bl false))) jG)
  (je (JC (d2 jR (d1 (zF "int") (dV 0)) (d1 (zF "int") (dV 1))) (d2 jR (dV 0) (dV 1)))))))
noncomputable def jP(C:Addr):Nat->List D->Option D
  | 0=>fun _=>none
  | n + 1=>J0 [false,false] 0 (zj C (jP C n))
noncomputable def Zv(C:Addr):DS.DS:=(jo (yd (jt (J8 Ji Ji (dK (.int 2)) (dV 0) (dK (.int 5))))) Z2 jG)
noncomputable def Yy(C:Addr):List D->Option D:=J0 [false] 0 (Zv C)
noncomputable def Zw(C:Addr):DS.DS:=(je (j8 Jf [(false,(d1 (J2 C "kind_rows") (dV 0)))]))
noncomputable def y0(C:Addr):List D->Option D:=J0 [false] 0 (Zw C)
noncomputable def u4(C:Addr):DS.DS:=(je (J8 Ji Vm (dK (.int 0)) (dV 1) (d1 (ZQ C "many" (y0 C)) (dV 0))))
noncomputable def ZV(C:Addr):List D->Option D:=J0 [false,false] 0 (u4 C)
noncomputable def Y4(C:Addr):DS.DS:=(je (j8 zE [(false,(dL (Yc 1 [0] (J1 (dP 1)) (gN 0) jZ (j8 (ZV C) [(false,(dV 1)),(false,(dV 0))]))))]))
noncomputable def Y5(C:Addr):List D->Option D:=J0 [false,false] 0 (Y4 C)
noncomputable def vn(C:Addr):DS.DS:=(j1 (jo (yd (J9 (j8 (Y5 C) [(false,(dV 0)),(false,(dV 1))]))) Z2 jG)
  (jo (jt (d2 zW (j8 Jf [(false,(dV 1))]) (d1 (J2 C "size") (dV 0)))) Z2 jG))
noncomputable def vo(C:Addr):List D->Option D:=J0 [false,false] 0 (vn C)
noncomputable def zN(C:Addr):DS.DS:=(j1 (jf 1 (d2 JV (Y3 [(true,(dK (.int 0)))]) (d1 (ZQ C "many" (y0 C)) (dV 0))))
  (j1 (jf 2 (d2 JV (Y3 [(true,(dK (.bl false)))]) (j8 Jf [(false,(d1 (J2 C "due_rows") (dV 0)))])))
  (je (Y3 [(true,(dK (.int 0))),(true,(Yr (dK (.int 1)))),(true,(dK (.int 0))),(true,(Yr (dK (.int 1)))),(true,(dC 1)),(true,(dC 2))]))))
noncomputable def zO(C:Addr):List D->Option D:=J0 [false] 2 (zN C)
noncomputable def Vw:DS.DG:=(gT 3 (gC (gN 4) (gC (gN 5) (gC (gN 6) gZ))))
noncomputable def zP(C:Addr):DS.DS:=(jo (JB (jt (d2 jR (dV 4) (dV 2))) (jt (J8 Ji Ji (dV 5) (dV 3) (dV 6)))) (je (dK (.bl true))) jG)
noncomputable def vq(C:Addr):DS.DS:=(j1 (jf 3 (d2 jA (d2 jc (dV 1) (dK (.int 0))) (dK (.int 1))))
  (j1 (jW (J1 (d1 (J2 C "bar_rows") (dV 0))) Vw (zP C))
  (je (dK (.bl false)))))
noncomputable def vt(C:Addr):List D->Option D:=J0 [false,false,false] 4 (vq C)
noncomputable def u5(C:Addr):DS.DS:=(je (JC (d2 jR (d2 jc (dV 1) (dK (.int 1))) (dV 2)) (d2 qM (d2 jc (dV 1) (dK (.int 2))) (d2 jc (d2 jc (d1 (J2 C "kind_rows") (dV 0)) (dV 2)) (dK (.int 1))))))
noncomputable def u6(C:Addr):List D->Option D:=J0 [false,false,false] 0 (u5 C)
noncomputable def V3(C:Addr):DS.DS:=(j1 (jf 3 (d2 jc (dV 1) (dK (.int 1))))
  (j1 (jo (Zi (jt (d2 jR (dV 3) (dV 2))) (jt (d2 jR (dV 3) (Yr (dK (.int 1)))))) (je (dK (.bl false))) jG)
  (je (d2 Vm (d2 jc (dV 1) (dK (.int 2))) (d2 jc (d2 jc (d1 (J2 C "kind_rows") (dV 0)) (dV 3)) (dK (.int 0)))))))
noncomputable def V4(C:Addr):List D->Option D:=J0 [false,false,false] 1 (V3 C)
noncomputable def V5(C:Addr):DS.DS:=(je (JC (d2 Jk (d2 jc (dV 0) (dK (.int 1))) (dV 1)) (d2 Jk (d2 jc (d2 jc (dV 0) (dK (.int 4))) (dV 1)) (dK (.int 0)))))
noncomputable def V6(C:Addr):List D->Option D:=J0 [false,false] 0 (V5 C)
noncomputable def vL:DS.DG:=(gT 3 (gC (gN 3) (gC (gN 4) (gC (gN 5) gZ))))
noncomputable def YV(C:Addr):DS.DS:=(j1 (jf 6 (Zj (jt (d2 jR (dV 5) (dK (.int 1)))) (d2 jc (dV 1) (dK (.int 1))) (d2 jc (dV 1) (dK (.int 3)))))
  (jo (JB (jt (d2 jR (dV 4) (dV 2))) (jt (d2 jR (dV 6) (dV 3)))) (je (dK (.bl true))) jG))
noncomputable def Zx(C:Addr):DS.DS:=(j1 (jW (J1 (d1 (J2 C "shun_rows") (dV 0))) vL (YV C))
  (je (dK (.bl false))))
noncomputable def Zy(C:Addr):List D->Option D:=J0 [false,false,false] 4 (Zx C)
noncomputable def u7:DS.DG:=(gT 2 (gC (gN 5) (gC (gN 6) gZ)))
noncomputable def Zz(C:Addr):DS.DS:=(j1 (Zl (dC 5) (gT 3 (gC (gN 7) (gC (gN 8) (gC (gN 9) gZ)))))
  (JD 4 (gQ (dV 6) (JC (d2 jR (dV 7) (dV 2)) (J8 Ji Ji (dV 8) (dV 3) (dV 9))))))
noncomputable def V7(C:Addr):DS.DS:=(j1 (jf 3 (d2 jA (d2 jc (dV 1) (dK (.int 0))) (dK (.int 1))))
  (j1 (Jr 4 (J4 []))
  (j1 (jW (Ul (d1 (J2 C "due_rows") (dV 0)) (d2 jc (dV 1) (dK (.int 5)))) u7 (Zz C))
  (je (j8 JU [(false,(dV 4))])))))
noncomputable def Z4(C:Addr):List D->Option D:=J0 [false,false,false] 7 (V7 C)
noncomputable def vM:DS.DG:=(gT 2 (gC (gN 4) (gC (gN 5) gZ)))
noncomputable def YW(C:Addr):DS.DS:=(jo (JB (jt (d2 jR (d2 jc (dV 4) (dK (.int 2))) (dV 3))) (yd (J9 (dV 5)))) (je (dK (.bl true))) jG)
noncomputable def ZA(C:Addr):DS.DS:=(j1 (jf 3 (d2 jA (d2 jc (dV 1) (dK (.int 0))) (dK (.int 1))))
  (j1 (jW (Ul (d1 (J2 C "due_rows") (dV 0)) (j8 (Z4 C) [(false,(dV 0)),(false,(dV 1)),(false,(dV 2))])) vM (YW C))
  (je (dK (.bl false)))))
noncomputable def ZB(C:Addr):List D->Option D:=J0 [false,false,false] 3 (ZA C)
noncomputable def V8(C:Addr):DS.DS:=(j1 (jo (jt (d2 jR (d2 jc (dV 0) (dK (.int 1))) (dV 1))) (je (d2 jA (d2 jc (dV 0) (dK (.int 2))) (dK (.int 1)))) jG)
  (je (dK (.int 1))))
noncomputable def Z5(C:Addr):List D->Option D:=J0 [false,false] 0 (V8 C)
noncomputable def Uw(C:Addr):DS.DS:=(j1 (jo (jt (d2 Jk (d2 jA (d2 jc (dV 1) (dK (.int 0))) (dK (.int 1))) (d1 (J2 C "size") (dV 0)))) (je (dK (.bl false))) jG)
  (je (d2 Vm (j8 (Z5 C) [(false,(dV 1)),(false,(dV 2))]) (d2 jc (d2 jc (d1 (J2 C "kind_rows") (dV 0)) (dV 2)) (dK (.int 0))))))
noncomputable def Ux(C:Addr):List D->Option D:=J0 [false,false,false] 0 (Uw C)
noncomputable def Uy(C:Addr):DS.DS:=(j1 (jo (J9 (j8 (vt C) [(false,(dV 0)),(false,(dV 1)),(false,(dV 2))])) (je (dK (.str "barred"))) jG)
  (j1 (jo (J9 (j8 (u6 C) [(false,(dV 0)),(false,(dV 1)),(false,(dV 2))])) (je (dK (.str "long"))) jG)
  (j1 (jo (J9 (j8 (V4 C) [(false,(dV 0)),(false,(dV 1)),(false,(dV 2))])) (je (dK (.str "short"))) jG)
  (j1 (jo (J9 (j8 (V6 C) [(false,(dV 1)),(false,(dV 2))])) (je (dK (.str "early"))) jG)
  (j1 (jo (J9 (j8 (Zy C) [(false,(dV 0)),(false,(dV 1)),(false,(dV 2))])) (je (dK (.str "shun"))) jG)
  (j1 (jo (J9 (j8 (ZB C) [(false,(dV 0)),(false,(dV 1)),(false,(dV 2))])) (je (dK (.str "due"))) jG)
  (j1 (jo (J9 (j8 (Ux C) [(false,(dV 0)),(false,(dV 1)),(false,(dV 2))])) (je (dK (.str "cut"))) jG)
  (je (dK .non)))))))))
noncomputable def V9(C:Addr):List D->Option D:=J0 [false,false,false] 0 (Uy C)
noncomputable def ZC(C:Addr):DS.DS:=(j1 (jf 3 (d2 jc (dV 1) (dK (.int 1))))
  (j1 (Jr 4 (Yc 1 [] (J1 (d2 jc (dV 1) (dK (.int 4)))) (gN 0) jZ (j8 Uk [(false,(d2 v4 (dV 0) (dK (.int 1)))),(false,(dK (.int 0)))])))
  (j1 (jo (jt (d2 Jk (dV 3) (Yr (dK (.int 1))))) (uE 4 (dV 3) (j8 Uk [(false,(d2 v4 (d2 jc (d2 jc (d1 (J2 C "kind_rows") (dV 0)) (dV 3)) (dK (.int 2))) (dK (.int 1)))),(false,(dK (.int 0)))])) jG)
  (j1 (uE 4 (dV 2) (dK (.int 0)))
  (je (j8 JU [(false,(dV 4))]))))))
noncomputable def ZD(C:Addr):List D->Option D:=J0 [false,false,false] 2 (ZC C)
noncomputable def ZE(C:Addr):DS.DS:=(j1 (jf 3 (j8 (Z5 C) [(false,(dV 1)),(false,(dV 2))]))
  (j1 (jf 4 (j8 (ZD C) [(false,(dV 0)),(false,(dV 1)),(false,(dV 2))]))
  (j1 (jf 5 (j8 (Z4 C) [(false,(dV 0)),(false,(dV 1)),(false,(dV 2))]))
  (je (Y3 [(true,(d2 jA (d2 jc (dV 1) (dK (.int 0))) (dK (.int 1)))),(true,(dC 2)),(true,(dC 3)),(true,(d2 jc (dV 1) (dK (.int 1)))),(true,(dC 4)),(true,(dC 5))])))))
noncomputable def Yz(C:Addr):List D->Option D:=J0 [false,false,true] 3 (ZE C)
noncomputable def Z6:DS.DG:=(gN 3)
noncomputable def Z7(C:Addr):DS.DS:=(j1 (jf 4 (j8 (V9 C) [(false,(dV 0)),(false,(dV 2)),(false,(dV 3))]))
  (j1 (jo (jt (d2 yC (dV 4) (dK .non))) (je (Y3 [(true,(dC 2)),(true,(dC 4))])) jG)
  (jf 2 (j8 (Yz C) [(false,(dV 0)),(false,(dV 2)),(true,(dC 3))]))))
noncomputable def Uz(C:Addr):DS.DS:=(j1 (jf 2 (j8 (zO C) [(false,(dV 0))]))
  (j1 (jW (J1 (dP 1)) Z6 (Z7 C))
  (je (Y3 [(true,(dC 2)),(true,(dK .non))]))))
noncomputable def UA(C:Addr):List D->Option D:=J0 [false,false] 3 (Uz C)
noncomputable def Va(C:Addr):DS.DS:=(j1 (vX (j8 (vo C) [(false,(dV 0)),(false,(dV 1))]))
  (j1 (Zl (j8 (UA C) [(false,(dV 0)),(false,(dV 1))]) (gT 2 (gC (gN 2) (gC (gN 3) gZ))))
  (j1 (jo (jt (d2 yC (dV 3) (dK .non))) Z2 jG)
  (je (dC 2)))))
noncomputable def Z8(C:Addr):List D->Option D:=J0 [false,false] 2 (Va C)
noncomputable def u8(C:Addr):DS.DS:=(j1 (jo (Zi (jt (d2 qM (d2 jc (dV 1) (dK (.int 0))) (d1 (J2 C "size") (dV 0)))) (jt (d2 yC (j8 (V9 C) [(false,(dV 0)),(false,(dV 1)),(false,(dV 2))]) (dK .non)))) (je (dK .non)) jG)
  (je (j8 (Yz C) [(false,(dV 0)),(false,(dV 1)),(true,(dC 2))])))
noncomputable def u9(C:Addr):List D->Option D:=J0 [false,false,true] 0 (u8 C)
noncomputable def vN:DS.DG:=(gN 3)
noncomputable def y_(C:Addr):DS.DS:=(j1 (jf 4 (j8 (u9 C) [(false,(dV 0)),(false,(dV 1)),(true,(dC 3))]))
  (jo (jt (d2 yC (dV 4) (dK .non))) (JD 2 (Y3 [(true,(dC 3)),(true,(dC 4))])) jG))
noncomputable def ZF(C:Addr):DS.DS:=(j1 (Jr 2 (J4 []))
  (j1 (jW (yf (d1 (ZQ C "many" (y0 C)) (dV 0))) vN (y_ C))
  (Yu 2)))
noncomputable def YA(C:Addr):List D->Option OD:=Vp [false,false] 3 (ZF C)
noncomputable def YB:DS.DG:=(gT 2 (gC (gN 7) (gC (gN 8) gZ)))
noncomputable def JL(C:Addr):DS.DS:=(Yw 5 (dC 8) (dK (.bl true)))
noncomputable def YC:DS.DG:=(gN 6)
noncomputable def JM(C:Addr):DS.DS:=(j1 (Yw 4 (dC 6) (dL (jY (YA C) [(false,(dV 0)),(false,(dV 6))])))
  (jW (J1 (d2 yg (dV 4) (dV 6))) YB (JL C)))
noncomputable def ZW(C:Addr):DS.DT:=(J9 (dV 3))
noncomputable def yG(C:Addr):DS.DS:=(j1 (Jr 4 ZS)
  (j1 (Jr 5 ZS)
  (j1 (jW (J1 (dP 3)) YC (JM C))
  (Zk 4 (j1 (JD 2 (dC 4))
  (jf 3 (dL (jY zt [(false,(dV 5))]))))))))
noncomputable def zQ(C:Addr):DS.DS:=(j1 (Jr 2 (J4 []))
  (j1 (jf 3 (dL (J4 [(true,(dC 1))])))
  (j1 (Vo (ZW C) (yG C) 20000)
  (Yu 2))))
noncomputable def zR(C:Addr):List D->Option OD:=Vp [false,true] 7 (zQ C)
noncomputable def Y6(C:Addr):DS.DS:=(je (d2 jR (d2 jL (d2 jA (d2 jc (dV 1) (dK (.int 0))) (dK (.int 1))) (dV 0)) (dK (.int 0))))
noncomputable def Jo(C:Addr):List D->Option D:=J0 [false,false] 0 (Y6 C)
noncomputable def YX:DS.DG:=(gT 2 (gC (gN 5) (gC (gN 6) gZ)))
noncomputable def y2(C:Addr):DS.DS:=(j1 (jf 7 (dL (Yc 2 [3] (J1 (dP 6)) (gT 2 (gC (gN 0) (gC (gN 1) gZ))) jZ (d2 yg (dV 2) (dV 1)))))
  (jo (jt (d2 jR (d2 jc (dV 5) (dK (.int 0))) (d1 (J2 C "size") (dV 0)))) (Yw 3 (dC 5) (dK (.bl true))) (jo (J9 (j8 (Jo C) [(false,(dV 1)),(false,(dV 5))])) (Yw 3 (dC 5) (JC (d2 zW (j8 Jf [(false,(dV 7))]) (dK (.int 0))) (j8 zE [(false,(dV 7))]))) (Yw 3 (dC 5) (j8 g_ [(false,(dV 7))])))))
noncomputable def YY:DS.DG:=(gN 4)
noncomputable def ya(C:Addr):DS.DS:=(jW (VY (dP 4)) YX (y2 C))
noncomputable def ZG(C:Addr):DS.DS:=(j1 (Jr 3 ZS)
  (j1 (jW (K9 (dL (jY (zR C) [(false,(dV 0)),(true,(dC 2))]))) YY (ya C))
  (Yu 3)))
noncomputable def YD(C:Addr):List D->Option OD:=Vp [false,false,true] 5 (ZG C)
noncomputable def ua(C:Addr):DS.DS:=(j1 (vX (j8 (Yy C) [(false,(dV 1))]))
  (j1 (jf 3 (j8 (Z8 C) [(false,(dV 0)),(false,(dV 2))]))
  (j1 (jo (J9 (d2 yg (dL (jY (YD C) [(false,(dV 0)),(false,(dV 1)),(true,(dC 3))])) (dV 3))) (je (dK (.str "host"))) jG)
  (je (dK (.str "spoiler"))))))
noncomputable def ub(C:Addr):List D->Option D:=J0 [false,false,false] 1 (ua C)
noncomputable def Vb:DS.DG:=(gT 2 (gC (gN 6) (gC (gN 7) gZ)))
noncomputable def Z9(C:Addr):DS.DS:=(jo (jt (d2 jR (d2 yg (dV 4) (dV 7)) (dV 5))) (je (dC 6)) jG)
noncomputable def UB(C:Addr):DS.DS:=(j1 (vX (j8 (Yy C) [(false,(dV 1))]))
  (j1 (jf 3 (j8 (Z8 C) [(false,(dV 0)),(false,(dV 2))]))
  (j1 (jf 4 (dL (jY (YD C) [(false,(dV 0)),(false,(dV 1)),(true,(dC 3))])))
  (j1 (jf 5 (ke (j8 (Jo C) [(false,(dV 1)),(false,(dV 3))])))
  (j1 (jW (J1 (dL (jY (YA C) [(false,(dV 0)),(false,(dV 3))]))) Vb (Z9 C))
  (je (dK .non)))))))
noncomputable def UC(C:Addr):List D->Option D:=J0 [false,false,false] 5 (UB C)
noncomputable def ZX:DS.DG:=(gN 5)
noncomputable def JN(C:Addr):DS.DS:=(j1 (jf 6 (j8 (J6 C) [(false,(dV 0)),(true,(dC 2)),(true,(dC 5))]))
  (jo (JB (jt (d2 yC (dV 6) (dK .non))) (JB (jt (d2 jR (d2 yg (dV 3) (dV 6)) (d2 yg (dV 3) (dV 2)))) (jt (d2 Jk (d2 yg (dV 3) (dV 2)) (dV 4))))) (je (dC 5)) jG))
noncomputable def zS(C:Addr):DS.DS:=(j1 (jf 4 (d2 jR (d2 jL (d2 jA (d2 jc (dV 2) (dK (.int 0))) (dK (.int 1))) (dV 1)) (dK (.int 0))))
  (j1 (jW (yf (j8 Jf [(false,(d2 jc (dV 0) (dK (.int 1))))])) ZX (JN C))
  (je (dK .non))))
noncomputable def zT(C:Addr):List D->Option D:=J0 [false,false,true,false] 3 (zS C)
noncomputable def uM:DS.DG:=(gT 2 (gC (gN 11) (gC (gN 12) gZ)))
noncomputable def Ym(C:Addr):DS.DS:=(j1 (jf 13 (dL (Ye (dV 8) (fun _=>some none) (fun ρ=>((dV 9) ρ).bind zp))))
  (j1 (jf 14 (Zj (J9 (d2 yg (dV 12) (dV 10))) (dK (.str "host")) (dK (.str "spoiler"))))
  (j1 (jo (yd (J9 (j8 (jP C 6) [(false,(j8 (ub C) [(false,(dV 3)),(false,(dV 11)),(false,(dV 13))])),(false,(dV 14))]))) (je (dK (.bl false))) jG)
  (j1 (jo (yd (J9 (j8 (jP C 6) [(false,(j8 (UC C) [(false,(dV 3)),(false,(dV 11)),(false,(dV 13))])),(false,(j8 (zT C) [(false,(dV 2)),(false,(dV 11)),(true,(dC 10)),(false,(dV 12))]))]))) (je (dK (.bl false))) jG)
  (jo (jt (d2 Jk (dV 13) (dL (Ye (dV 8) (fun _=>some none) (fun ρ=>((dV 9) ρ).bind zp))))) (je (dK (.bl false))) jG)))))
noncomputable def Ge:DS.DG:=(gN 7)
noncomputable def vO(C:Addr):DS.DS:=(j1 (jf 8 (d2 jc (dV 5) (d2 jL (dV 7) (dK (.int 2)))))
  (j1 (jf 9 (j8 gR [(false,(d2 Ui (dV 7) (dK (.int 2)))),(false,(j8 Jf [(false,(dV 8))]))]))
  (j1 (jf 10 (j8 (J_ C) [(false,(dV 2)),(false,(dL (Ye (dV 8) (fun _=>some none) (fun ρ=>((dV 9) ρ).bind zp))))]))
  (jW (Ul (dP 4) (dP 6)) uM (Ym C)))))
noncomputable def km(C:Addr):DS.DS:=(j1 (jf 1 (dL (jY (YN C) [(false,(dV 0)),(false,(dK (.int 110)))])))
  (j1 (jf 2 (j8 (vc C) [(false,(dV 1)),(false,(dK (.int 8)))]))
  (j1 (jf 3 (dL (jY (vj C) [(false,(dV 2))])))
  (j1 (jf 4 (dL (J4 [(true,(d2 jA (dK (.int 2)) (d2 jL (d2 jc (dV 1) (dK (.int 59))) (dK (.int 4))))),(true,(d2 jA (dK (.int 2)) (d2 jL (d2 jA (d2 Ui (d2 jc (dV 1) (dK (.int 59))) (dK (.int 4))) (d2 jc (dV 1) (dK (.int 59)))) (dK (.int 4)))))])))
  (j1 (jf 5 (dL (J4 [(true,(dL (jY (zi C) [(false,(dV 2)),(false,(dL (Ye (dV 1) (fun ρ=>((dK (.int 60)) ρ).bind zp) (fun ρ=>((d2 jA (dK (.int 60)) (d2 jc (dV 2) (dK (.int 0)))) ρ).bind zp))))]))),(true,(dL (jY (zi C) [(false,(dV 2)),(false,(dL (Ye (dV 1) (fun ρ=>((dK (.int 70)) ρ).bind zp) (fun ρ=>((d2 jA (dK (.int 70)) (d2 jc (dV 2) (dK (.int 0)))) ρ).bind zp))))])))])))
  (j1 (jf 6 (dL (Yc 1 [2] (J1 (dP 4)) (gN 0) jZ (dL (jY (yO C) [(false,(dV 1)),(false,(dV 0)),(true,(j8 (J_ C) [(false,(dV 1)),(false,(dL (J4 [])))]))])))))
  (j1 (jW (yf (d2 jA (d2 JV (dK (.int 2)) (d2 jc (dV 2) (dK (.int 0)))) (dK (.int 2)))) Ge (vO C))
  (je (dK (.bl true))))))))))
noncomputable def kn(C:Addr):List D->Option D:=J0 [false] 14 (km C)
end M
namespace M
open PySem L2 DS
theorem Kk(C:Addr)(t:T3):zf C [t3 t]=some (.bl (fK t)):=by
  obtain⟨x,y,z⟩:=t
  unfold fK
  simp only[zf,vd,t3]
  by_cases h1:1<=x
  · by_cases h2:x<=y
    · by_cases h3:y<=4
      · by_cases h4:0<=z <;> simp[h1,h2,h3,h4]
      · simp[h1,h2,h3]
    · simp[h1,h2]
  · simp[h1]
theorem Kl(C:Addr)(t:T3)(m:Int):zg C [t3 t,.int m]=some (.bl (fS m t)):=by
  obtain⟨x,y,z⟩:=t
  unfold fS
  simp only[zg,ve,t3]
  by_cases h1:0<=x
  · by_cases h2:x < m
    · by_cases h3:0<=y
      · by_cases h4:y < m
        · by_cases h5:1<=z <;> simp[h1,h2,h3,h4,h5]
        · simp[h1,h2,h3,h4]
      · simp[h1,h2,h3]
    · simp[h1,h2]
  · simp[h1]
theorem Km(C:Addr)(t:T3)(m s:Int):zh C [t3 t,.int m,.int s]=some (.bl (fB m s t)):=by
  obtain⟨x,y,z⟩:=t
  unfold fB
  simp only[zh,vf,t3]
  by_cases h1:0<=x
  · by_cases h2:x < m
    · by_cases h3:1<=y
      · by_cases h4:y<=z <;> simp[h1,h2,h3,h4]
      · simp[h1,h2,h3]
    · simp[h1,h2]
  · simp[h1]
theorem Gf(C:Addr)(s:Int)(k h b d:List D):zJ C [.int s,.lst k,.lst h,.lst b,.lst d]=some (.bl (fC s k.length h.length b.length d.length)):=by
  unfold fC
  simp only[zJ,zI]
  by_cases h1:1<=s
  · by_cases h2:s<=30
    · by_cases h3:(1:Int)<=k.length
      · by_cases h4:(k.length:Int)<=4
        · by_cases h5:(h.length:Int)<=20
          · by_cases h6:(b.length:Int)<=12 <;> simp[h1,h2,h3,h4,h5,h6]
          · simp[h1,h2,h3,h4,h5]
        · simp[h1,h2,h3,h4]
      · simp[h1,h2,h3]
    · simp[h1,h2]
  · simp[h1]
theorem yP{α:Type}(f:α->Bool):∀l:List α,v5 (l.map fun x=>D.bl (f x))=some (l.map f)
  | []=>rfl
  | x :: l=>by simp[yP f l]
theorem Qm{α:Type}(f:α->Bool)(l m:List α):v5 (l.map (fun x=>D.bl (f x)) ++ m.map fun x=>D.bl (f x))=some (l.map f ++ m.map f):=by rw[<-List.map_append,yP,List.map_append]
theorem Vc{α:Type}(f:α->Bool)(l:List α):((l.map f).all id)=l.all f:=by
  induction l with
  | nil=>rfl
  | cons t ts ih=>simp only[List.map_cons,List.all_cons,ih,id]
theorem Kn(C:Addr)(s:Int)(k h b d:List T3)(hk:k.length<=100)(hh:h.length<=100)(hb:b.length<=100)(hd:d.length<=100):vh C [.int s,.lst (k.map t3),.lst (h.map t3),.lst (b.map t3),.lst (d.map t3)]=some (.bl (fR s k h b d)):=by
  have sz:∀n,n<=200->n<=sizeLine:=fun n hn=>Nat.le_of_lt (jB (by omega))
  have c1:∀ρ:j9,Ja (gN 0) jZ (j8 (zf C) [(true,dC 0)]) (k.map t3) (.un :: ρ)=some (k.map fun t=>D.bl (fK t)):=fun ρ=>Jv t3 _ fun t _=>⟨_,rfl,rfl,by simp[Kk]⟩
  have c2:∀ρ:j9,Ja (gN 0) jZ (j8 (zg C) [(true,dC 0),(false,dV 1)]) (h.map t3) (.un :: .cl (.int k.length) :: ρ)=some (h.map fun t=>D.bl (fS k.length t)):=fun ρ=>Jv t3 _ fun t _=>⟨_,rfl,rfl,by simp[Kl]⟩
  have c3:∀ρ:j9,Ja (gN 0) jZ (j8 (zh C) [(true,dC 0),(false,dV 1),(false,dV 2)]) ((b ++ d).map t3) (.un :: .cl (.int k.length) :: .bo (.int s) :: ρ)=some ((b ++ d).map fun t=>D.bl (fB k.length s t)):=fun ρ=>Jv t3 _ fun t _=>⟨_,rfl,rfl,by simp[Km]⟩
  rw[List.map_append]at c3
  unfold fR
  have e3:b.length + d.length<=sizeLine:=sz _ (by omega)
  simp only[vh,vg]
  by_cases h1:k.all fK=true
  · by_cases h2:h.all (fS k.length)=true
    · simp[c1,c2,c3,yP,Qm,Vc,List.all_append,sz _ (Nat.le_trans hk (by decide:100<=200)),sz _ (Nat.le_trans hh (by decide:100<=200)),e3,h1,h2]
    · simp[c1,c2,yP,Vc,sz _ (Nat.le_trans hk (by decide:100<=200)),sz _ (Nat.le_trans hh (by decide:100<=200)),h1,h2]
  · simp[c1,yP,Vc,sz _ (Nat.le_trans hk (by decide:100<=200)),h1]
end M
namespace M
open PySem L2 DS
structure OkB (b:Bk):Prop where
  s1:1<=b.size
  s2:b.size<=30
  k1:1<=b.kinds.length
  k2:b.kinds.length<=4
  h2:b.shuns.length<=20
  b2:b.bars.length<=12
  d2:b.dues.length<=3
  ks:∀t∈b.kinds,fK t=true
  hs:∀t∈b.shuns,fS b.kinds.length t=true
  bs:∀t∈b.bars,fB b.kinds.length b.size t=true
  ds:∀t∈b.dues,fB b.kinds.length b.size t=true
theorem Gg{b:Bk}:aG b=true↔OkB b:=by
  unfold aG fC fR
  simp only[Bool.and_eq_true,decide_eq_true_eq,List.all_eq_true,List.mem_append]
  constructor
  · rintro⟨⟨a1,a2,a3,a4,a5,a6,a7⟩,b1,b2,b3⟩
    exact⟨a1,a2,by omega,by omega,by omega,by omega,by omega,b1,b2,fun t h=>b3 t (.inl h),fun t h=>b3 t (.inr h)⟩
  · intro h
    exact⟨⟨h.s1,h.s2,by have:=h.k1; omega,by have:=h.k2; omega,by have:=h.h2; omega,by have:=h.b2; omega,by have:=h.d2; omega⟩,h.ks,h.hs,fun t ht=>ht.elim (h.bs t) (h.ds t)⟩
theorem AN(C p:Addr)(b:Bk)(h:OkB b):JR C p [.int b.size,.lst (b.kinds.map t3),.lst (b.shuns.map t3),.lst (b.bars.map t3),.lst (b.dues.map t3)]=some (Gb C b):=by
  have hb:=Gg.mpr h
  unfold aG at hb
  rw[Bool.and_eq_true]at hb
  have e1:=Gf C b.size (b.kinds.map t3) (b.shuns.map t3) (b.bars.map t3) (b.dues.map t3)
  simp only[List.length_map]at e1
  rw[hb.1]at e1
  have e2:=Kn C b.size b.kinds b.shuns b.bars b.dues (by have:=h.k2; omega) (by have:=h.h2; omega) (by have:=h.b2; omega) (by have:=h.d2; omega)
  rw[hb.2]at e2
  have n1:("size" : Str)≠ "kind_rows" := by decide
  have n2:("size" : Str)≠ "shun_rows" := by decide
  have n3:("size" : Str)≠ "bar_rows" := by decide
  have n4:("size" : Str)≠ "due_rows" := by decide
  have n5:("kind_rows" : Str)≠ "shun_rows" := by decide
  have n6:("kind_rows" : Str)≠ "bar_rows" := by decide
  have n7:("kind_rows" : Str)≠ "due_rows" := by decide
  have n8:("shun_rows" : Str)≠ "bar_rows" := by decide
  have n9:("shun_rows" : Str)≠ "due_rows" := by decide
  have n0:("bar_rows" : Str)≠ "due_rows" := by decide
  simp only[JR,yk,Gb]
  simp[e1,e2,n1,n2,n3,n4,n5,n6,n7,n8,n9,n0]
theorem uR(C p:Addr)(ds:List D)(o:OD)(h:Jg C ds=some o):JR C p ds=some o:=by
  unfold Jg Gc at h
  split at h
  · rename_i s0 _ _ _ _
    obtain⟨k,e1,h⟩:=bind_some h
    obtain⟨hh,e2,h⟩:=bind_some h
    obtain⟨b,e3,h⟩:=bind_some h
    obtain⟨d,e4,h⟩:=bind_some h
    split at h
    · rename_i ok
      have e0:=Option.some.inj h
      rw[vK e1,vK e2,vK e3,vK e4,<-e0]
      have z:=AN C p ⟨s0,k,hh,b,d⟩ (Gg.mp ok)
      exact z
    · cases h
  · cases h
theorem AO(C:Addr)(b:Bk)(h:OkB b):Jg C [.int b.size,.lst (b.kinds.map t3),.lst (b.shuns.map t3),.lst (b.bars.map t3),.lst (b.dues.map t3)]=some (Gb C b):=by
  unfold Jg Gc
  simp[Kj,Gg.mpr h]
theorem AQ(C:Addr)(b:Bk)(h:OkB b):vj C [jj b]=some (Gb C b):=by
  have e:=AO C b h
  simp only[vj,vi]
  simp[e]
theorem X2(C:Addr)(b:Bk):(Gb C b).toD=jk C b:=rfl
theorem AR(C:Addr)(b:Bk):y0 C [jk C b]=some (.int b.kinds.length):=by
  have n1:(("kind_rows" : Str) == "size")=false:=by decide
  simp only[y0,Zw,jk]
  simp[J2,List.lookup,n1]
@[simp] theorem GF(C:Addr)(b:Bk):ZQ C "many" (y0 C) (jk C b)=some (.int b.kinds.length):=by
  have e:=AR C b
  unfold ZQ jk at *
  have n:("many" : Str)∉(["size", "kind_rows", "shun_rows", "bar_rows", "due_rows"]:List Str):=by decide
  simp only[n,not_false_eq_true,and_self,if_true]
  exact e
@[simp] theorem X3(C:Addr)(b:Bk):J2 C "size" (jk C b)=some (.int b.size):=by unfold J2 jk; simp[List.lookup]
@[simp] theorem Qn(C:Addr)(b:Bk):J2 C "kind_rows" (jk C b)=some (.tup (b.kinds.map t3)):=by
  have n1:(("kind_rows" : Str) == "size")=false:=by decide
  unfold J2 jk; simp[List.lookup,n1]
@[simp] theorem Qo(C:Addr)(b:Bk):J2 C "shun_rows" (jk C b)=some (.tup (b.shuns.map t3)):=by
  have n1:(("shun_rows" : Str) == "size")=false:=by decide
  have n2:(("shun_rows" : Str) == "kind_rows")=false:=by decide
  unfold J2 jk; simp[List.lookup,n1,n2]
@[simp] theorem X4(C:Addr)(b:Bk):J2 C "bar_rows" (jk C b)=some (.tup (b.bars.map t3)):=by
  have n1:(("bar_rows" : Str) == "size")=false:=by decide
  have n2:(("bar_rows" : Str) == "kind_rows")=false:=by decide
  have n3:(("bar_rows" : Str) == "shun_rows")=false:=by decide
  unfold J2 jk; simp[List.lookup,n1,n2,n3]
@[simp] theorem UD(C:Addr)(b:Bk):J2 C "due_rows" (jk C b)=some (.tup (b.dues.map t3)):=by
  have n1:(("due_rows" : Str) == "size")=false:=by decide
  have n2:(("due_rows" : Str) == "kind_rows")=false:=by decide
  have n3:(("due_rows" : Str) == "shun_rows")=false:=by decide
  have n4:(("due_rows" : Str) == "bar_rows")=false:=by decide
  unfold J2 jk; simp[List.lookup,n1,n2,n3,n4]
theorem WP(C:Addr)(b:Bk)(n:Int):ZV C [jk C b,.int n]=some (.bl (decide (0<=n) && decide (n < (b.kinds.length:Int)))):=by
  have e:=GF C b
  simp only[ZV,u4]
  by_cases h:0<=n <;> simp[e,h]
theorem Gh(C:Addr)(b:Bk)(row:List Int)(hl:row.length<=1000):Y5 C [jk C b,.lst (row.map .int)]=some (.bl (row.all fun n=>decide (0<=n) && decide (n < (b.kinds.length:Int)))):=by
  have c1:∀ρ:j9,Ja (gN 0) jZ (j8 (ZV C) [(false,dV 1),(false,dV 0)]) (row.map D.int) (.un :: .bo (jk C b) :: ρ)=some (row.map fun n=>D.bl (decide (0<=n) && decide (n < (b.kinds.length:Int)))):=fun ρ=>Jv D.int _ fun t _=>⟨_,rfl,rfl,by simp[WP]⟩
  have sz:row.length<=sizeLine:=Nat.le_of_lt (jB (by omega))
  have e:=yP (fun n:Int=>decide (0<=n) && decide (n < (b.kinds.length:Int))) row
  simp only[Y5,Y4]
  simp only[J0,zG,cf,BF,yB,EQ,eK,wN,fw,v6]
  simp[c1,sz,e,Vc]
noncomputable def Za(b:Bk)(row:List Int):Prop:=(∀n∈row,0<=n/\n < (b.kinds.length:Int))/\(row.length:Int)<=b.size
theorem Ko(C:Addr)(b:Bk)(row:List Int)(ok:OkB b)(h:Za b row):vo C [jk C b,.lst (row.map .int)]=some .non:=by
  have h2:=ok.s2
  have hl:=h.2
  have e:=Gh C b row (by omega)
  have e2:(row.all fun n=>decide (0<=n) && decide (n < (b.kinds.length:Int)))=true:=by
    rw[List.all_eq_true]
    intro n hn
    have:=h.1 n hn
    simp[this.1,this.2]
  rw[e2]at e
  have e3:=X3 C b
  have e4:¬(b.size < (row.length:Int)):=by omega
  simp only[vo,vn]
  simp[e,e3,e4]
noncomputable def jv(b:Bk):Sd:=⟨0,-1,0,-1,List.replicate b.kinds.length 0,List.replicate b.dues.length false⟩
theorem X5(C:Addr)(b:Bk)(ok:OkB b):zO C [jk C b]=some (j0 (jv b)):=by
  have e:=GF C b
  have e3:=UD C b
  have h1:=ok.k2
  have h2:=ok.d2
  have c1:(b.kinds.length:Int)<=1000:=by omega
  have c2:(b.dues.length:Int)<=1000:=by omega
  simp only[zO,zN]
  simp[e,e3,c1,c2,j0,jv]
end M
namespace M
open PySem L2 DS
noncomputable def mx(i j:Int):Int:=if j > i then j else i
noncomputable def JP(s:Sd)(k:Int):Int:=if s.kind=k then s.len + 1 else 1
noncomputable def Jp(b:Bk)(s:Sd)(k:Int):List Int:=(if s.kind=-1 then s.waits.map (fun x=>mx (x - 1) 0)else(s.waits.map (fun x=>mx (x - 1) 0)).set s.kind.toNat (mx ((zX b.kinds s.kind).2.2 - 1) 0)).set k.toNat 0
noncomputable def Y7(k pl:Int)(t:T3):Bool:=decide (t.1=k) && (decide (t.2.1<=pl) && decide (pl<=t.2.2))
noncomputable def Jb(b:Bk)(s:Sd)(k:Int):List Bool:=List.zipWith (fun t m=>m || Y7 k (s.place + 1) t) b.dues s.met
noncomputable def Jc(b:Bk)(s:Sd)(k:Int):Sd:=⟨s.place + 1,k,JP s k,s.kind,Jp b s k,Jb b s k⟩
noncomputable def Yn(b:Bk)(s:Sd)(k:Int):Bool:=b.bars.any (Y7 k (s.place + 1))
noncomputable def ym(b:Bk)(s:Sd)(k:Int):Bool:=decide (s.kind=k) && decide (s.len>=(zX b.kinds k).2.1)
noncomputable def yt(b:Bk)(s:Sd)(k:Int):Bool:=!(decide (s.kind=k) || decide (s.kind=-1)) && decide (s.len < (zX b.kinds s.kind).1)
noncomputable def zw(s:Sd)(k:Int):Bool:=!decide (s.kind=k) && !decide (s.waits.getD k.toNat 0=0)
noncomputable def ZH(s:Sd)(k:Int)(t:T3):Bool:=decide (t.2.1=k) && decide ((if t.2.2=1 then s.kind else s.before)=t.1)
noncomputable def ZY(b:Bk)(s:Sd)(k:Int):Bool:=b.shuns.any (ZH s k)
noncomputable def YZ(b:Bk)(s:Sd)(k:Int):Bool:=(List.zip b.dues (Jb b s k)).any fun p=>decide (p.1.2.2=s.place + 1) && !p.2
noncomputable def vv(b:Bk)(s:Sd)(k:Int):Bool:=decide (s.place + 1=b.size) && decide (JP s k < (zX b.kinds k).1)
noncomputable def jU(b:Bk)(s:Sd)(k:Int):Option Str:=
  if Yn b s k=true then some "barred" else if ym b s k=true then some "long" else if yt b s k=true then some "short" else if zw s k=true then some "early" else if ZY b s k=true then some "shun" else if YZ b s k=true then some "due" else if vv b s k=true then some "cut" else none
noncomputable def oS:Option Str->D
  | none=>.non
  | some x=>.str x
structure Fit (b:Bk) (s:Sd):Prop where
  c0:-1<=s.kind
  c1:s.kind < (b.kinds.length:Int)
  w:s.waits.length=b.kinds.length
  m:s.met.length=b.dues.length
noncomputable def yQ(b:Bk)(k:Int):Prop:=0<=k/\k < (b.kinds.length:Int)
theorem U2(C:Addr)(s:Sd)(k:Int):Z5 C [j0 s,.int k]=some (.int (JP s k)):=by
  unfold JP
  simp only[Z5,V8]
  by_cases e:s.kind=k <;> simp[e]
theorem any_map{α:Type}(em:α->D)(p:D->Bool)(q:α->Bool)(h:∀x,p (em x)=q x)(l:List α):(l.map em).any p=l.any q:=by
  induction l with
  | nil=>rfl
  | cons x l ih=>rw[List.map_cons,List.any_cons,List.any_cons,h,ih]
noncomputable def wZ(q:T3->Bool)(d:D):Bool:=match Ql d with
  | some t=>q t
  | none=>false
theorem YE(q:T3->Bool)(t:T3):wZ q (t3 t)=q t:=rfl
theorem Qp(C:Addr)(b:Bk)(s:Sd)(k:Int):vt C [jk C b,j0 s,.int k]=some (.bl (Yn b s k)):=by
  have L:=Zq (g:=Vw) (s:=zP C) (items:=b.bars.map t3) (fun ρ=>∃x y z,ρ=[.bo (jk C b),.bo (j0 s),.bo (.int k),.cl (.int (s.place + 1)),x,y,z]) (wZ (Y7 k (s.place + 1))) (.rt (.bl true)) (.inl ⟨_,rfl⟩) ?_ ⟨.un,.un,.un,rfl⟩
  · rw[any_map t3 _ (Y7 k (s.place + 1)) (YE _)]at L
    unfold Yn
    have e:=X4 C b
    simp only[vt,vq]
    rcases L with⟨L1,L2⟩ | ⟨L1,ρ',_,L2⟩
    · rw[L1]; simp[L2]
    · rw[L1]; simp[L2]
  · rintro d hd ρ ⟨x,y,z,rfl⟩
    obtain⟨t,_,rfl⟩:=List.mem_map.mp hd
    obtain⟨u,v,w⟩:=t
    refine⟨_,rfl,?_⟩
    rw[YE]
    unfold Y7
    simp only[zP]
    by_cases h1:u=k
    · by_cases h2:v<=s.place + 1
      · by_cases h3:s.place + 1<=w <;> simp[h1,h2,h3]
      · simp[h1,h2]
    · simp[h1]
theorem AS(C:Addr)(b:Bk)(s:Sd)(k:Int)(h:yQ b k):u6 C [jk C b,j0 s,.int k]=some (.bl (ym b s k)):=by
  unfold ym
  simp only[u6,u5]
  by_cases h1:s.kind=k <;> simp[h1,YL h.1 h.2]
theorem X6(C:Addr)(b:Bk)(s:Sd)(k:Int)(X:Fit b s):V4 C [jk C b,j0 s,.int k]=some (.bl (yt b s k)):=by
  unfold yt
  simp only[V4,V3]
  by_cases h1:s.kind=k
  · simp[h1]
  · by_cases h2:s.kind=-1
    · rw[h2]at h1; simp[h1,h2]
    · simp[h1,h2,YL (ks:=b.kinds) (k:=s.kind) (by have:=X.c0; omega) X.c1]
theorem X7(C:Addr)(s:Sd)(k:Int)(h0:0<=k)(h1:k < (s.waits.length:Int)):V6 C [j0 s,.int k]=some (.bl (zw s k)):=by
  unfold zw
  have e2:=YK (f:=D.int) (xs:=s.waits) (d:=0) h0 h1
  simp only[V6,V5]
  by_cases h1:s.kind=k <;> simp[h1,e2]
theorem AU(C:Addr)(b:Bk)(s:Sd)(k:Int):Zy C [jk C b,j0 s,.int k]=some (.bl (ZY b s k)):=by
  have L:=Zq (g:=vL) (s:=YV C) (items:=b.shuns.map t3) (fun ρ=>∃x y z u,ρ=[.bo (jk C b),.bo (j0 s),.bo (.int k),x,y,z,u]) (wZ (ZH s k)) (.rt (.bl true)) (.inl ⟨_,rfl⟩) ?_ ⟨.un,.un,.un,.un,rfl⟩
  · rw[any_map t3 _ (ZH s k) (YE _)]at L
    unfold ZY
    have e:=Qo C b
    simp only[Zy,Zx]
    rcases L with⟨L1,L2⟩ | ⟨L1,ρ',_,L2⟩
    · rw[L1]; simp[L2]
    · rw[L1]; simp[L2]
  · rintro d hd ρ ⟨x,y,z,u0,rfl⟩
    obtain⟨t,_,rfl⟩:=List.mem_map.mp hd
    obtain⟨u,v,w⟩:=t
    refine⟨_,rfl,?_⟩
    rw[YE]
    unfold ZH
    simp only[YV]
    by_cases h1:w=1
    · by_cases h2:v=k
      · by_cases h3:s.kind=u <;> simp[h1,h2,h3]
      · simp[h1,h2]
    · by_cases h2:v=k
      · by_cases h3:s.before=u <;> simp[h1,h2,h3]
      · simp[h1,h2]
theorem UE{b:Bk}{s:Sd}{k:Int}(X:Fit b s):(Jb b s k).length=b.dues.length:=by
  unfold Jb
  rw[List.length_zipWith,X.m]
  omega
theorem AV{b:Bk}{s:Sd}{i:Nat}{d:D}(h:(List.zipWith (fun p q=>D.tup [p,q]) (b.dues.map t3) (s.met.map D.bl))[i]?=some d):∃t m,b.dues[i]?=some t/\s.met[i]?=some m/\d=.tup [t3 t,.bl m]:=by
  rw[List.getElem?_zipWith,List.getElem?_map,List.getElem?_map]at h
  cases h1:b.dues[i]? with
  | none=>rw[h1]at h; cases h
  | some t=>
    cases h2:s.met[i]? with
    | none=>rw[h1,h2]at h; cases h
    | some m=>rw[h1,h2]at h; cases h; exact⟨t,m,rfl,rfl,rfl⟩
theorem uc{α:Type}{xs:List α}{i:Nat}{t:α}(h:xs[i]?=some t):xs.take (i + 1)=xs.take i ++ [t]:=by
  rw[List.take_add_one,h]
  rfl
theorem Qq(C:Addr)(b:Bk)(s:Sd)(k:Int)(ok:OkB b)(X:Fit b s):Z4 C [jk C b,j0 s,.int k]=some (.tup ((Jb b s k).map .bl)):=by
  have hl:=UE (k:=k) X
  have hd2:=ok.d2
  have L:=Jn (g:=u7) (s:=Zz C) (items:=List.zipWith (fun p q=>D.tup [p,q]) (b.dues.map t3) (s.met.map D.bl)) (fun i ρ=>∃x y z u v,ρ=[.bo (jk C b),.bo (j0 s),.bo (.int k),.cl (.int (s.place + 1)),.ow none (.lst (((Jb b s k).take i).map .bl)),x,y,z,u,v]) ?_ ⟨.un,.un,.un,.un,.un,rfl⟩
  · obtain⟨ρ',L1,x,y,z,u,v,rfl⟩:=L
    have e:=UD C b
    have hx:(List.zipWith (fun p q=>D.tup [p,q]) (b.dues.map t3) (s.met.map D.bl)).length=(Jb b s k).length:=by
      rw[List.length_zipWith,List.length_map,List.length_map,X.m,hl]; omega
    rw[hx,List.take_length,List.take_zero,List.map_nil]at L1
    simp only[Z4,V7]
    simp[-List.zipWith_map,L1]
  · rintro i d ρ hi ⟨x,y,z,u,v,rfl⟩
    obtain⟨t,m,h1,h2,rfl⟩:=AV hi
    have hg:(Jb b s k)[i]?=some (m || Y7 k (s.place + 1) t):=by
      unfold Jb
      rw[List.getElem?_zipWith,h1,h2]
    have hlt:i < b.dues.length:=(List.getElem?_eq_some_iff.mp h1).1
    have hz:((Jb b s k).take i).length < sizeLine:=jB (by rw[List.length_take]; omega)
    have hz':min i (Jb b s k).length < sizeLine:=jB (by omega)
    obtain⟨p,q,r⟩:=t
    rw[uc hg]
    unfold Y7
    refine⟨_,_,rfl,?_,.cl (t3 (p,q,r)),.cl (.bl m),.cl (.int p),.cl (.int q),.cl (.int r),rfl⟩
    simp only[Zz]
    cases m with
    | true=>simp[t3,hz']
    | false=>
      by_cases e1:p=k
      · by_cases e2:q<=s.place + 1 <;> simp[t3,hz',e1,e2]
      · simp[t3,hz',e1]
theorem CF(C:Addr)(b:Bk)(s:Sd)(k:Int)(ok:OkB b)(X:Fit b s):ZB C [jk C b,j0 s,.int k]=some (.bl (YZ b s k)):=by
  have e1:=Qq C b s k ok X
  have L:=Zq (g:=vM) (s:=YW C) (items:=(List.zip b.dues (Jb b s k)).map fun p=>D.tup [t3 p.1,.bl p.2]) (fun ρ=>∃x y,ρ=[.bo (jk C b),.bo (j0 s),.bo (.int k),.cl (.int (s.place + 1)),x,y]) (fun d=>match d with | .tup [t,.bl m]=>wZ (fun t=>decide (t.2.2=s.place + 1) && !m) t | _=>false) (.rt (.bl true)) (.inl ⟨_,rfl⟩) ?_ ⟨.un,.un,rfl⟩
  · rw[any_map (fun p:T3×Bool=>D.tup [t3 p.1,.bl p.2]) _ (fun p=>decide (p.1.2.2=s.place + 1) && !p.2) (fun p=>rfl)]at L
    have ez:(List.zip b.dues (Jb b s k)).map (fun p=>D.tup [t3 p.1,.bl p.2])=List.zipWith (fun p q=>D.tup [p,q]) (b.dues.map t3) ((Jb b s k).map D.bl):=by
      rw[List.zipWith_map,List.zip,List.map_zipWith]
    rw[ez]at L
    unfold YZ
    have e:=UD C b
    simp only[ZB,ZA]
    rcases L with⟨L1,L2⟩ | ⟨L1,ρ',_,L2⟩
    · rw[L1]; simp[-List.zipWith_map,L2,e1]
    · rw[L1]; simp[-List.zipWith_map,L2,e1]
  · rintro d hd ρ ⟨x,y,rfl⟩
    obtain⟨⟨t,m⟩,_,rfl⟩:=List.mem_map.mp hd
    obtain⟨u,v,w⟩:=t
    refine⟨_,rfl,?_⟩
    simp only[YW,YE]
    by_cases h1:w=s.place + 1
    · cases m <;> simp[h1]
    · simp[h1]
theorem CG(C:Addr)(b:Bk)(s:Sd)(k:Int)(h:yQ b k):Ux C [jk C b,j0 s,.int k]=some (.bl (vv b s k)):=by
  unfold vv
  simp only[Ux,Uw]
  by_cases h1:s.place + 1=b.size <;> simp[h1,U2,YL h.1 h.2]
theorem GG(C:Addr)(b:Bk)(s:Sd)(k:Int)(ok:OkB b)(X:Fit b s)(h:yQ b k):V9 C [jk C b,j0 s,.int k]=some (oS (jU b s k)):=by
  have e1:=Qp C b s k
  have e2:=AS C b s k h
  have e3:=X6 C b s k X
  have e4:=X7 C s k h.1 (by rw[X.w]; exact h.2)
  have e5:=AU C b s k
  have e6:=CF C b s k ok X
  have e7:=CG C b s k h
  simp only[V9,Uy]
  unfold jU
  cases h1:Yn b s k
  · cases h2:ym b s k
    · cases h3:yt b s k
      · cases h4:zw s k
        · cases h5:ZY b s k
          · cases h6:YZ b s k
            · cases h7:vv b s k <;> rw[h1]at e1 <;> rw[h2]at e2 <;> rw[h3]at e3 <;> rw[h4]at e4 <;> rw[h5]at e5 <;> rw[h6]at e6 <;> rw[h7]at e7 <;> simp[e1,e2,e3,e4,e5,e6,e7,oS]
            · rw[h1]at e1; rw[h2]at e2; rw[h3]at e3; rw[h4]at e4; rw[h5]at e5; rw[h6]at e6; simp[e1,e2,e3,e4,e5,e6,oS]
          · rw[h1]at e1; rw[h2]at e2; rw[h3]at e3; rw[h4]at e4; rw[h5]at e5; simp[e1,e2,e3,e4,e5,oS]
        · rw[h1]at e1; rw[h2]at e2; rw[h3]at e3; rw[h4]at e4; simp[e1,e2,e3,e4,oS]
      · rw[h1]at e1; rw[h2]at e2; rw[h3]at e3; simp[e1,e2,e3,oS]
    · rw[h1]at e1; rw[h2]at e2; simp[e1,e2,oS]
  · rw[h1]at e1; simp[e1,oS]
theorem X8(C:Addr)(b:Bk)(s:Sd)(k:Int)(ok:OkB b)(X:Fit b s)(h:yQ b k):ZD C [jk C b,j0 s,.int k]=some (.tup ((Jp b s k).map .int)):=by
  have e:=Qn C b
  have c1:Ja (gN 0) jZ (j8 Uk [(false,d2 v4 (dV 0) (dK (D.int 1))),(false,dK (D.int 0))]) (s.waits.map D.int) [.un]=some (s.waits.map fun x=>D.int (mx (x - 1) 0)):=Jv D.int _ fun t _=>⟨_,rfl,rfl,by simp[mx]⟩
  have hk2:=ok.k2
  have hw:=X.w
  have sz:s.waits.length<=sizeLine:=Nat.le_of_lt (jB (by omega))
  have i1:∀n:Nat,n=s.waits.length->Zf n k=some k.toNat:=fun n hn=>Qk h.1 (by have:=h.2; omega)
  simp only[ZD,ZC,Jp]
  by_cases h1:s.kind=-1
  · simp[c1,sz,h1,i1,List.map_set]
    rfl
  · have i2:Zf s.waits.length s.kind=some s.kind.toNat:=Qk (by have:=X.c0; omega) (by have:=X.c1; omega)
    simp[c1,sz,h1,i1,i2,List.map_set,YL (ks:=b.kinds) (k:=s.kind) (by have:=X.c0; omega) X.c1]
    rfl
theorem Kp(C:Addr)(b:Bk)(s:Sd)(k:Int)(ok:OkB b)(X:Fit b s)(h:yQ b k):Yz C [jk C b,j0 s,.int k]=some (j0 (Jc b s k)):=by
  simp only[Yz,ZE]
  simp[U2,X8 C b s k ok X h,Qq C b s k ok X]
  rfl
theorem gq(b:Bk)(s:Sd)(k:Int):(Jp b s k).length=s.waits.length:=by
  unfold Jp
  split <;> simp
theorem Fit.next{b:Bk}{s:Sd}(X:Fit b s){k:Int}(h:yQ b k):Fit b (Jc b s k):=⟨by have:=h.1; show -1<=k; omega,h.2,by show(Jp b s k).length=_; rw[gq,X.w],UE X⟩
theorem Fit.empty(b:Bk):Fit b (jv b):=⟨by show -1<=(-1:Int); decide,by show(-1:Int) < _; omega,by simp[jv],by simp[jv]⟩
noncomputable def jE(b:Bk):Sd->List Int->Sd×Option Str
  | s,[]=>(s,none)
  | s,k :: r=>match jU b s k with
    | some w=>(s,some w)
    | none=>jE b (Jc b s k) r
theorem Qr(C:Addr)(b:Bk)(row:List Int)(ok:OkB b)(h:∀n∈row,yQ b n):UA C [jk C b,.lst (row.map .int)]=some (.tup [j0 (jE b (jv b) row).1,oS (jE b (jv b) row).2]):=by
  have key:∀(r:List Int) (s:Sd) (x y:Sl),Fit b s->(∀n∈r,yQ b n)->∃x' y',jw Z6 (Z7 C) (r.map D.int) [.bo (jk C b),.bo (.lst (row.map .int)),.cl (j0 s),x,y]=some (match jE b s r with
      | (s',none)=>.nx [.bo (jk C b),.bo (.lst (row.map .int)),.cl (j0 s'),x',y']
      | (s',some w)=>.rt (.tup [j0 s',.str w])):=by
    intro r
    induction r with
    | nil=>intro s x y _ _; exact⟨x,y,rfl⟩
    | cons k r ih=>
      intro s x y X hr
      have hk:=hr k List.mem_cons_self
      have e:=GG C b s k ok X hk
      cases hb:jU b s k with
      | some w=>
        rw[hb]at e
        refine⟨.un,.un,?_⟩
        have e':jE b s (k :: r)=(s,some w):=by unfold jE; rw[hb]
        rw[e']
        simp[jw,Z6,Z7,e,oS]
      | none=>
        rw[hb]at e
        have e2:=Kp C b s k ok X hk
        obtain⟨x',y',q⟩:=ih (Jc b s k) (.cl (.int k)) (.cl .non) (X.next hk) fun n hn=>hr n (List.mem_cons_of_mem _ hn)
        refine⟨x',y',?_⟩
        have e':jE b s (k :: r)=jE b (Jc b s k) r:=by rw[jE,hb]
        rw[e',<-q]
        simp[jw,Z6,Z7,e,e2,oS]
  obtain⟨x',y',q⟩:=key row (jv b) .un .un (Fit.empty b) h
  simp only[UA,Uz]
  have e0:=X5 C b ok
  revert q
  generalize jE b (jv b) row=z
  obtain⟨s',w⟩:=z
  intro q
  cases w <;> simp[e0,q,oS]
end M
namespace M
open PySem L2 DS
theorem jS{a b:Int}(h:0 < b):0<=a % b/\a % b < b:=⟨Int.emod_nonneg _ (by omega),Int.emod_lt_of_pos _ h⟩
theorem Y_{α β:Type}(f:α->β)(xs:List α)(lo hi:Option Int):jN (xs.map f) lo hi=(jN xs lo hi).map f:=by
  unfold jN
  rw[List.length_map,List.map_take,List.map_drop]
theorem UF{α:Type}(xs:List α)(lo hi:Option Int):(jN xs lo hi).length<=xs.length:=by
  unfold jN
  rw[List.length_take,List.length_drop]
  omega
theorem Kq{α:Type}(xs:List α)(n:Nat):jN xs none (some (n:Int))=xs.take n:=by
  unfold jN
  have e:HT.sIx xs.length 0 none=0:=rfl
  rw[HT.sIx_nat,e,List.drop_zero,Nat.sub_zero]
  by_cases h:n<=xs.length
  · rw[Nat.min_eq_left h]
  · rw[Nat.min_eq_right (by omega),List.take_of_length_le (by omega),List.take_of_length_le (by omega)]
theorem X9{α:Type}(xs:List α)(n m:Nat)(h1:n<=xs.length)(h2:m<=xs.length):jN xs (some (n:Int)) (some (m:Int))=(xs.drop n).take (m - n):=by
  unfold jN
  rw[HT.sIx_nat,HT.sIx_nat,Nat.min_eq_left h1,Nat.min_eq_left h2]
theorem zk{i j:Int}(h1:-(2 ^ 64) < i)(h2:i < 2 ^ 64):vU i j=true:=by
  have e:(2:Int) ^ 64=18446744073709551616:=by decide
  rw[e]at h1 h2
  unfold vU
  rw[Bool.or_eq_true,Nat.blt_eq]
  exact .inl (by omega)
theorem WQ(C:Addr)(ns:List Int)(m:Int)(h63:ns.length<=63)(m0:0<=m)(m1:m<=1000):∃ms:List Int,YN C [.scr ns,.int m]=some (.lst (ms.map .int))/\(ms.length:Int)=m:=by
  have uK:∀(v x seed:Int) (ms:List Int) (x6:Sl) (c:Nat),ms.length<=c->c<=5000->∃(ms':List Int) (v':Int) (x6':Sl),jw Yi (Jw C) (jJ 0 60) [.bo (.scr ns),.bo (.int m),.ow none (.lst (ms.map .int)),.cl (.int seed),.cl (.int x),.cl (.int v),x6]=some (.nx [.bo (.scr ns),.bo (.int m),.ow none (.lst (ms'.map .int)),.cl (.int seed),.cl (.int x),.cl (.int v'),x6'])/\ms'.length<=c + 60:=by
    intro v x seed ms x6 c hc hc2
    have L:=Jn (g:=Yi) (s:=Jw C) (items:=jJ 0 60) (fun i ρ=>∃(ms':List Int) (v':Int) (x6':Sl),ρ=[.bo (.scr ns),.bo (.int m),.ow none (.lst (ms'.map .int)),.cl (.int seed),.cl (.int x),.cl (.int v'),x6']/\ms'.length<=c + i) ?_ ⟨ms,v,x6,rfl,hc⟩
    · obtain⟨ρ',L1,ms',v',x6',rfl,hl⟩:=L
      exact⟨ms',v',x6',L1,hl⟩
    · rintro i d ρ hi ⟨ms',v',x6',rfl,hl⟩
      have hi60:i < 60:=by have:=(List.getElem?_eq_some_iff.mp hi).1; simpa[jJ]using this
      have hz:ms'.length < sizeLine:=jB (by omega)
      by_cases h0:0 < v'
      · refine⟨_,[.bo (.scr ns),.bo (.int m),.ow none (.lst ((ms' ++ [v' % 1009]).map .int)),.cl (.int seed),.cl (.int x),.cl (.int (v' / 1009)),.cl d],rfl,?_,ms' ++ [v' % 1009],v' / 1009,.cl d,rfl,by simp; omega⟩
        simp[Jw,h0,hz]
      · refine⟨_,[.bo (.scr ns),.bo (.int m),.ow none (.lst (ms'.map .int)),.cl (.int seed),.cl (.int x),.cl (.int v'),.cl d],rfl,?_,ms',v',.cl d,rfl,by omega⟩
        simp[Jw,h0]
  have L:=Jn (g:=yi) (s:=yj C) (items:=(jN ns none (some 63)).map D.int) (fun i ρ=>∃(ms:List Int) (seed:Int) (x4 x5 x6:Sl),ρ=[.bo (.scr ns),.bo (.int m),.ow none (.lst (ms.map .int)),.cl (.int seed),x4,x5,x6]/\0<=seed/\seed < 2147483648/\ms.length<=i * 61) ?_ ⟨[],29,.un,.un,.un,rfl,by decide,by decide,by simp⟩
  · obtain⟨ρ',L1,ms,seed,x4,x5,x6,rfl,s0,s1,hl⟩:=L
    have hc:=UF ns none (some 63)
    rw[List.length_map]at hl
    have hl:ms.length<=4000:=by omega
    obtain⟨ρ2,W1,⟨ms2,seed2,rfl,t0,t1,hl2⟩,W2⟩:=gn (dt:=Jx C) (s:=Yj C) (fun ρ=>∃(ms:List Int) (seed:Int),ρ=[.bo (.scr ns),.bo (.int m),.ow none (.lst (ms.map .int)),.cl (.int seed),x4,x5,x6]/\0<=seed/\seed < 2147483648/\ms.length<=4000) (fun ρ=>match ρ with | [_,_,.ow _ (.lst l),_,_,_,_]=>6000 - l.length | _=>0) (fun ρ=>by
        rintro⟨ms,seed,rfl,s0,s1,hl⟩
        by_cases h:(ms.length:Int) < m
        · right
          refine⟨by simp[Jx,h],?_⟩
          have b1:=jS (a:=seed * seed + 69621 * seed + 7 * (ms.length:Int) + 5) (b:=2147483629) (by decide)
          have hz:ms.length < sizeLine:=jB (by omega)
          refine⟨[.bo (.scr ns),.bo (.int m),.ow none (.lst ((ms ++ [(seed * seed + 69621 * seed + 7 * (ms.length:Int) + 5) % 2147483629 / 1013 % 9973]).map .int)),.cl (.int ((seed * seed + 69621 * seed + 7 * (ms.length:Int) + 5) % 2147483629)),x4,x5,x6],?_,⟨_,_,rfl,b1.1,by omega,by simp; omega⟩,by simp; omega⟩
          simp[Yj,zk (i:=seed) (j:=seed) (by omega) (by omega),zk (i:=69621) (j:=seed) (by decide) (by decide),zk (i:=7) (j:=(ms.length:Int)) (by decide) (by decide),hz]
        · left
          simp[Jx,h]) (n:=20000) ⟨ms,seed,rfl,s0,s1,hl⟩ (by simp; omega)
    have hm:m<=(ms2.length:Int):=by
      simp[Jx]at W2
      omega
    refine⟨ms2.take m.toNat,?_,by rw[List.length_take]; omega⟩
    simp only[YN,YM]
    have em:m=((m.toNat:Nat):Int):=by omega
    have ec:jN (ms2.map D.int) none (some m)=(ms2.take m.toNat).map D.int:=by
      have z:=Kq ms2 m.toNat
      rw[<-em]at z
      rw[Y_,z]
    rw[List.map_nil]at L1
    have s60:jF 60=true:=by decide
    simp[Y_,L1,W1]at ec⊢
    simp[ec]
  · rintro i d ρ hi ⟨ms,seed,x4,x5,x6,rfl,s0,s1,hl⟩
    have hlt:i < 63:=by
      have h1:=(List.getElem?_eq_some_iff.mp hi).1
      have h2:=UF ns none (some 63)
      rw[List.length_map]at h1
      omega
    obtain⟨x,rfl⟩:∃x,d=D.int x:=by
      rw[List.getElem?_map]at hi
      cases q:(jN ns none (some 63))[i]? with
      | none=>rw[q]at hi; cases hi
      | some z=>rw[q]at hi; exact⟨z,(Option.some.inj hi).symm⟩
    have b1:=jS (a:=seed * 48271 + x % 1000003 + 11) (b:=2147483647) (by decide)
    have s60:jF 60=true:=by decide
    have hz:ms.length < sizeLine:=jB (by omega)
    by_cases h0:x - 10 ^ 18 < 0
    · obtain⟨ms',v',x6',e,hl'⟩:=uK (x - 10 ^ 18) x ((seed * 48271 + x % 1000003 + 11) % 2147483647) (ms ++ [x % 9973]) x6 (i * 61 + 1) (by simp; omega) (by omega)
      refine⟨_,[.bo (.scr ns),.bo (.int m),.ow none (.lst (ms'.map .int)),.cl (.int ((seed * 48271 + x % 1000003 + 11) % 2147483647)),.cl (.int x),.cl (.int v'),x6'],rfl,?_,ms',_,_,_,_,rfl,b1.1,by omega,by omega⟩
      rw[List.map_append]at e
      simp only[yj,yi]
      simp at e h0
      simp[zk (i:=seed) (j:=48271) (by omega) (by omega),h0,hz,e,s60]
    · obtain⟨ms',v',x6',e,hl'⟩:=uK (x - 10 ^ 18) x ((seed * 48271 + x % 1000003 + 11) % 2147483647) ms x6 (i * 61 + 1) (by omega) (by omega)
      refine⟨_,[.bo (.scr ns),.bo (.int m),.ow none (.lst (ms'.map .int)),.cl (.int ((seed * 48271 + x % 1000003 + 11) % 2147483647)),.cl (.int x),.cl (.int v'),x6'],rfl,?_,ms',_,_,_,_,rfl,b1.1,by omega,by omega⟩
      simp only[yj,yi]
      simp at e h0
      have h0':¬(x - 1000000000000000000 < 0):=by omega
      simp[zk (i:=seed) (j:=48271) (by omega) (by omega),h0',hz,e,s60]
theorem ud{ds:List Int}{k:Int}(h0:0<=k)(h1:k < (ds.length:Int)):∃v:Int,atI (ds.map D.int) k=some (.int v):=⟨_,YK (d:=0) h0 h1⟩
theorem Vd{α:Type}{p:α->Prop}{ts:List α}{t:α}(h:∀x∈ts,p x)(ht:p t):∀x∈ts ++ [t],p x:=fun x hx=>by
  rcases List.mem_append.mp hx with z | z
  · exact h x z
  · have e:x=t:=by simpa using z
    rw[e]; exact ht
theorem Gi{lo:Int}{n i:Nat}{d:D}(h:(jJ lo n)[i]?=some d):i < n/\d=.int (lo + i):=by
  unfold jJ at h
  rw[List.getElem?_map]at h
  cases q:(List.range n)[i]? with
  | none=>rw[q]at h; cases h
  | some j=>
    rw[q]at h
    obtain⟨h1,h2⟩:=List.getElem?_eq_some_iff.mp q
    rw[List.getElem_range]at h2
    rw[List.length_range]at h1
    exact⟨h1,by rw[<-Option.some.inj h,h2]⟩
theorem Zb(C:Addr)(m s n:Int)(ds:List Int)(m1:1<=m)(s1:1<=s)(s2:s<=1000)(n0:0<=n)(n1:n<=20)(hn:3 * n<=(ds.length:Int)):∃ts:List T3,yZ C [.int m,.int s,.int n,.lst (ds.map .int)]=some (.lst (ts.map t3))/\(ts.length:Int)=n/\∀t∈ts,fB m s t=true:=by
  have L:=Jn (g:=Zr) (s:=Yk C) (items:=jJ 0 n.toNat) (fun i ρ=>∃(ts:List T3) (x y:Sl),ρ=[.bo (.int m),.bo (.int s),.bo (.int n),.bo (.lst (ds.map .int)),.ow none (.lst (ts.map t3)),x,y]/\ts.length=i/\∀t∈ts,fB m s t=true) ?_ ⟨[],.un,.un,rfl,rfl,fun _ h=>by cases h⟩
  · obtain⟨ρ',L1,ts,x,y,rfl,hl,ht⟩:=L
    have hr:(jJ 0 n.toNat).length=n.toNat:=by simp[jJ]
    rw[hr]at hl
    refine⟨ts,?_,by omega,ht⟩
    simp only[yZ,YO]
    rw[List.map_nil]at L1
    have e1:jF n=true:=Jq (by omega) (by omega)
    simp[e1,L1]
  · rintro i d ρ hi ⟨ts,x,y,rfl,hl,ht⟩
    obtain⟨hi1,rfl⟩:=Gi hi
    have c3:vU 3 (0 + (i:Int))=true:=zk (by decide) (by decide)
    obtain⟨v1,a1⟩:=ud (ds:=ds) (k:=3 * (0 + (i:Int)) + 1) (by omega) (by omega)
    obtain⟨v0,a0⟩:=ud (ds:=ds) (k:=3 * (0 + (i:Int))) (by omega) (by omega)
    obtain⟨v2,a2⟩:=ud (ds:=ds) (k:=3 * (0 + (i:Int)) + 2) (by omega) (by omega)
    have f1:=jS (a:=v1) (b:=s) (by omega)
    have f3:=jS (a:=v2) (b:=s - (1 + v1 % s) + 1) (by omega)
    have f0:=jS (a:=v0) (b:=m) (by omega)
    have hz:ts.length < sizeLine:=jB (by omega)
    have q1:0 < s:=by omega
    have q2:0 < m:=by omega
    have q3:0 < s - (1 + v1 % s) + 1:=by omega
    refine⟨_,[.bo (.int m),.bo (.int s),.bo (.int n),.bo (.lst (ds.map .int)),.ow none (.lst ((ts ++ [(v0 % m,1 + v1 % s,1 + v1 % s + v2 % (s - (1 + v1 % s) + 1))]).map t3)),.cl (.int (0 + (i:Int))),.cl (.int (1 + v1 % s))],rfl,?_,_,_,_,rfl,by simp[hl],Vd ht ?_⟩
    · simp only[Yk]
      simp at a0 a1 a2 c3
      simp[c3,a0,a1,a2,q1,q2,q3,hz,t3]
    · unfold fB
      simp only[Bool.and_eq_true,decide_eq_true_eq]
      omega
end M
namespace M
open PySem L2 DS
theorem uN{ns:List Int}{k lo hi:Int}(h0:0<=k)(h1:k < (ns.length:Int))(hb:∀v∈ns,lo<=v/\v<=hi):∃v,atI (ns.map D.int) k=some (.int v)/\lo<=v/\v<=hi:=by
  have hk:k.toNat < ns.length:=by omega
  refine⟨ns.getD k.toNat 0,YK h0 h1,?_⟩
  rw[List.getD_eq_getElem?_getD,List.getElem?_eq_getElem hk]
  exact hb _ (List.getElem_mem hk)
theorem AW(C:Addr)(ds:List Int)(mo:Int)(hn:62<=ds.length)(hn2:ds.length<=1000)(mo1:1<=mo)(mo2:mo<=30):∃b:Bk,vc C [.lst (ds.map .int),.int mo]=some (jj b)/\OkB b/\b.size<=mo:=by
  have at0:∀k:Int,0<=k->k < 62->∃v:Int,atI (ds.map D.int) k=some (.int v):=fun k h0 h1=>ud h0 (by omega)
  obtain⟨u0,a0⟩:=at0 0 (by decide) (by decide)
  obtain⟨u1,a1⟩:=at0 1 (by decide) (by decide)
  obtain⟨u14,a14⟩:=at0 14 (by decide) (by decide)
  obtain⟨u15,a15⟩:=at0 15 (by decide) (by decide)
  obtain⟨u25,a25⟩:=at0 25 (by decide) (by decide)
  have g0:=jS (a:=u0) (b:=7) (by decide)
  have g1:=jS (a:=u1) (b:=mo) (by omega)
  have g14:=jS (a:=u14) (b:=7) (by decide)
  have g15:=jS (a:=u15) (b:=6) (by decide)
  have g25:=jS (a:=u25) (b:=6) (by decide)
  obtain⟨m,pm,m1,m4⟩:=uN (ns:=[2,3,3,2,1,4,3]) (k:=u0 % 7) (lo:=1) (hi:=4) g0.1 g0.2 (by decide)
  obtain⟨nh,ph,nh0,nh1⟩:=uN (ns:=[0,0,1,2,3,0,20]) (k:=u14 % 7) (lo:=0) (hi:=20) g14.1 g14.2 (by decide)
  obtain⟨nb,pb,nb0,nb1⟩:=uN (ns:=[0,1,0,2,12,0]) (k:=u15 % 6) (lo:=0) (hi:=12) g15.1 g15.2 (by decide)
  obtain⟨nd,pd,nd0,nd1⟩:=uN (ns:=[0,1,0,2,3,1]) (k:=u25 % 6) (lo:=0) (hi:=3) g25.1 g25.2 (by decide)
  have K1:=Jn (g:=Vr) (s:=Yg C) (items:=jJ 0 m.toNat) (fun i ρ=>∃(ts:List T3) (x5 x6 x7:Sl),ρ=[.bo (.lst (ds.map .int)),.bo (.int mo),.cl (.int m),.cl (.int (1 + u1 % mo)),.ow none (.lst (ts.map t3)),x5,x6,x7,.un,.un,.un,.un,.un]/\ts.length=i/\∀t∈ts,fK t=true) ?_ ⟨[],.un,.un,.un,rfl,rfl,fun _ h=>by cases h⟩
  rotate_left
  · rintro i d ρ hi ⟨ts,x5,x6,x7,rfl,hl,ht⟩
    obtain⟨hi1,rfl⟩:=Gi hi
    obtain⟨w2,b2⟩:=at0 (2 + (0 + (i:Int))) (by omega) (by omega)
    obtain⟨w6,b6⟩:=at0 (6 + (0 + (i:Int))) (by omega) (by omega)
    obtain⟨w10,b10⟩:=at0 (10 + (0 + (i:Int))) (by omega) (by omega)
    have e2:=jS (a:=w2) (b:=7) (by decide)
    have e10:=jS (a:=w10) (b:=7) (by decide)
    obtain⟨le,pl,le0,le3⟩:=uN (ns:=[0,0,1,0,2,3,1]) (k:=w2 % 7) (lo:=0) (hi:=3) e2.1 e2.2 (by decide)
    obtain⟨re,pr,re0,re4⟩:=uN (ns:=[0,1,2,0,3,4,1]) (k:=w10 % 7) (lo:=0) (hi:=4) e10.1 e10.2 (by decide)
    have q5:0 < 5 - (1 + le):=by omega
    have q5':1 + le < 5:=by omega
    have e6:=jS (a:=w6) (b:=5 - (1 + le)) q5
    have e3:=jS (a:=re) (b:=3) (by decide)
    have hz:ts.length < sizeLine:=jB (by omega)
    have fin:∀r:Int,0<=r->r<=4->fK (1 + le,1 + le + w6 % (5 - (1 + le)),r)=true:=fun r h0 h4=>by
      unfold fK
      simp only[Bool.and_eq_true,decide_eq_true_eq]
      omega
    have cc:∃r:Int,0<=r/\r<=4/\Yg C ([.bo (.lst (ds.map .int)),.bo (.int mo),.cl (.int m),.cl (.int (1 + u1 % mo)),.ow none (.lst (ts.map t3)),.cl (.int (0 + (i:Int))),x6,x7,.un,.un,.un,.un,.un])=some (.nx [.bo (.lst (ds.map .int)),.bo (.int mo),.cl (.int m),.cl (.int (1 + u1 % mo)),.ow none (.lst ((ts ++ [(1 + le,1 + le + w6 % (5 - (1 + le)),r)]).map t3)),.cl (.int (0 + (i:Int))),.cl (.int (1 + le)),.cl (.int r),.un,.un,.un,.un,.un]):=by
      simp only[Yg]
      simp at b2 b6 b10 pl pr
      by_cases h1:m=4
      · by_cases h2:6 < 1 + u1 % mo
        · exact⟨re % 3,by omega,by omega,by simp[b2,b6,b10,pl,pr,h1,h2,q5,q5',hz,t3]⟩
        · by_cases h3:12 < 1 + u1 % mo
          · exact⟨re % 3,by omega,by omega,by simp[b2,b6,b10,pl,pr,h1,h2,h3,q5,q5',hz,t3]⟩
          · exact⟨re,by omega,by omega,by simp[b2,b6,b10,pl,pr,h1,h2,h3,q5,q5',hz,t3]⟩
      · by_cases h3:12 < 1 + u1 % mo
        · exact⟨re % 3,by omega,by omega,by simp[b2,b6,b10,pl,pr,h1,h3,q5,q5',hz,t3]⟩
        · exact⟨re,by omega,by omega,by simp[b2,b6,b10,pl,pr,h1,h3,q5,q5',hz,t3]⟩
    obtain⟨r,r0,r4,er⟩:=cc
    exact⟨_,_,rfl,er,_,_,_,_,rfl,by simp[hl],Vd ht (fin r r0 r4)⟩
  obtain⟨ρk,K2,ks,x5,x6,x7,rfl,lk,hk⟩:=K1
  have hrk:(jJ 0 m.toNat).length=m.toNat:=by simp[jJ]
  rw[hrk]at lk
  have S1:=Jn (g:=Vs) (s:=zH C) (items:=jJ 0 nh.toNat) (fun i ρ=>∃(ts:List T3) (x5 x9:Sl),ρ=[.bo (.lst (ds.map .int)),.bo (.int mo),.cl (.int m),.cl (.int (1 + u1 % mo)),.ow none (.lst (ks.map t3)),x5,x6,x7,.ow none (.lst (ts.map t3)),x9,.un,.un,.un]/\ts.length=i/\∀t∈ts,fS m t=true) ?_ ⟨[],x5,.un,rfl,rfl,fun _ h=>by cases h⟩
  rotate_left
  · rintro i d ρ hi ⟨ts,x5,x9,rfl,hl,ht⟩
    obtain⟨hi1,rfl⟩:=Gi hi
    have d5:=jS (a:=0 + (i:Int)) (b:=5) (by decide)
    have d6:0<=(0 + (i:Int)) / 5/\(0 + (i:Int)) / 5<=3:=by omega
    obtain⟨w0,b0⟩:=at0 (44 + 3 * ((0 + (i:Int)) % 5) + (0 + (i:Int)) / 5) (by omega) (by omega)
    obtain⟨w1,b1⟩:=at0 (44 + 3 * ((0 + (i:Int)) % 5) + (0 + (i:Int)) / 5 + 1) (by omega) (by omega)
    obtain⟨w2,b2⟩:=at0 (44 + 3 * ((0 + (i:Int)) % 5) + (0 + (i:Int)) / 5 + 2) (by omega) (by omega)
    have e0:=jS (a:=w0) (b:=m) (by omega)
    have e1:=jS (a:=w1) (b:=m) (by omega)
    have e2:=jS (a:=w2) (b:=2) (by decide)
    have qm:0 < m:=by omega
    have hz:ts.length < sizeLine:=jB (by omega)
    have c3:vU 3 ((0 + (i:Int)) % 5)=true:=zk (by decide) (by decide)
    refine⟨_,[.bo (.lst (ds.map .int)),.bo (.int mo),.cl (.int m),.cl (.int (1 + u1 % mo)),.ow none (.lst (ks.map t3)),.cl (.int (0 + (i:Int))),x6,x7,.ow none (.lst ((ts ++ [(w0 % m,w1 % m,1 + w2 % 2)]).map t3)),.cl (.int (44 + 3 * ((0 + (i:Int)) % 5) + (0 + (i:Int)) / 5)),.un,.un,.un],rfl,?_,_,_,_,rfl,by simp[hl],Vd ht ?_⟩
    · simp only[zH]
      simp at b0 b1 b2 c3
      simp[c3,b0,b1,b2,qm,hz,t3]
    · unfold fS
      simp only[Bool.and_eq_true,decide_eq_true_eq]
      omega
  obtain⟨ρh,S2,hs,x5',x9,rfl,lh,hh⟩:=S1
  have hrh:(jJ 0 nh.toNat).length=nh.toNat:=by simp[jJ]
  rw[hrh]at lh
  obtain⟨ws,W1,W2⟩:∃ws:List Int,Ja (gN 0) jZ (d2 jA (d2 jc (dV 1) (d2 jA (dK (.int 16)) (d2 jL (d2 JV (dK (.int 5)) (dV 0)) (dK (.int 9))))) (d2 JV (dK (.int 7)) (dV 0))) (jJ 0 36) [.un,.bo (.lst (ds.map .int))]=some (ws.map D.int)/\ws.length=36:=by
    have:=Jv (g:=gN 0) (dc:=jZ) (de:=d2 jA (d2 jc (dV 1) (d2 jA (dK (.int 16)) (d2 jL (d2 JV (dK (.int 5)) (dV 0)) (dK (.int 9))))) (d2 JV (dK (.int 7)) (dV 0))) (ρ:=[.un,.bo (.lst (ds.map .int))]) (fun i:Nat=>D.int (0 + (i:Int))) (fun i:Nat=>D.int (ds.getD (16 + 5 * (0 + (i:Int)) % 9).toNat 0 + 7 * (0 + (i:Int)))) (xs:=List.range 36) fun i hi=>by
      have hi:=List.mem_range.mp hi
      have d9:=jS (a:=5 * (0 + (i:Int))) (b:=9) (by decide)
      have a:=YK (f:=D.int) (xs:=ds) (d:=0) (k:=16 + 5 * (0 + (i:Int)) % 9) (by omega) (by omega)
      have c5:vU 5 (0 + (i:Int))=true:=zk (by decide) (by decide)
      have c7:vU 7 (0 + (i:Int))=true:=zk (by decide) (by decide)
      refine⟨_,rfl,rfl,?_⟩
      simp at a c5 c7
      simp[c5,c7,a]
    refine⟨(List.range 36).map fun(i:Nat)=>ds.getD (16 + 5 * (0 + (i:Int)) % 9).toNat 0 + 7 * (0 + (i:Int)),?_,by simp⟩
    rw[List.map_map]
    exact this
  obtain⟨bs,B1,B2,B3⟩:=Zb C m (1 + u1 % mo) nb ws m1 (by omega) (by omega) nb0 (by omega) (by rw[W2]; omega)
  have ec:jN (ds.map D.int) (some 26) (some 35)=(jN ds (some 26) (some 35)).map D.int:=Y_ _ _ _ _
  have lc:(jN ds (some 26) (some 35)).length=9:=by
    have:=X9 ds 26 35 (by omega) (by omega)
    rw[show((26:Nat):Int)=26 from rfl,show((35:Nat):Int)=35 from rfl]at this
    rw[this,List.length_take,List.length_drop]
    omega
  have e3:=jS (a:=nd) (b:=3) (by decide)
  have ek:(ks.length:Int)=m:=by omega
  have fin:∀n:Int,0<=n->n<=3->∀dd:List T3,(dd.length:Int)=n->(∀t∈dd,fB m (1 + u1 % mo) t=true)->OkB ⟨1 + u1 % mo,ks,hs,bs,dd⟩:=fun n n0 n3 dd hd hd2=>by
    refine⟨by show 1<=1 + u1 % mo; omega,by show 1 + u1 % mo<=30; omega,by show 1<=ks.length; omega,by show ks.length<=4; omega,by show hs.length<=20; omega,by show bs.length<=12; omega,by show dd.length<=3; omega,hk,?_,?_,?_⟩
    · show∀t∈hs,fS (ks.length:Int) t=true; rw[ek]; exact hh
    · show∀t∈bs,fB (ks.length:Int) _ t=true; rw[ek]; exact B3
    · show∀t∈dd,fB (ks.length:Int) _ t=true; rw[ek]; exact hd2
  have s1:jF m=true:=Jq (by omega) (by omega)
  have s2:jF nh=true:=Jq (by omega) (by omega)
  have z36:(36:Nat)<=sizeLine:=by decide
  have s3:jF 36=true:=by decide
  have hrw:(jJ 0 36).length=36:=by simp[jJ]
  have qmo:0 < mo:=by omega
  rw[List.map_nil]at K2 S2
  simp only[vc,v8]
  simp only[List.map_cons,List.map_nil]at pm ph pb pd
  by_cases c1:5 < 1 + u1 % mo
  · by_cases c2:2 < m
    · obtain⟨dd,D1,D2,D3⟩:=Zb C m (1 + u1 % mo) (nd % 3) (jN ds (some 26) (some 35)) m1 (by omega) (by omega) (by omega) (by omega) (by omega)
      refine⟨⟨1 + u1 % mo,ks,hs,bs,dd⟩,?_,fin _ (by omega) (by omega) dd D2 D3,by show 1 + u1 % mo<=mo; omega⟩
      simp[a0,a1,a14,a15,a25,pm,ph,pb,pd,qmo,s1,s2,s3,K2,S2,W1,z36,hrw,B1,ec,D1,c1,c2,jj]
    · obtain⟨dd,D1,D2,D3⟩:=Zb C m (1 + u1 % mo) nd (jN ds (some 26) (some 35)) m1 (by omega) (by omega) (by omega) (by omega) (by omega)
      refine⟨⟨1 + u1 % mo,ks,hs,bs,dd⟩,?_,fin _ (by omega) (by omega) dd D2 D3,by show 1 + u1 % mo<=mo; omega⟩
      simp[a0,a1,a14,a15,a25,pm,ph,pb,pd,qmo,s1,s2,s3,K2,S2,W1,z36,hrw,B1,ec,D1,c1,c2,jj]
  · obtain⟨dd,D1,D2,D3⟩:=Zb C m (1 + u1 % mo) nd (jN ds (some 26) (some 35)) m1 (by omega) (by omega) (by omega) (by omega) (by omega)
    refine⟨⟨1 + u1 % mo,ks,hs,bs,dd⟩,?_,fin _ (by omega) (by omega) dd D2 D3,by show 1 + u1 % mo<=mo; omega⟩
    simp[a0,a1,a14,a15,a25,pm,ph,pb,pd,qmo,s1,s2,s3,K2,S2,W1,z36,hrw,B1,ec,D1,c1,jj]
end M
namespace M
open PySem L2 DS
mutual
noncomputable def GH:D->Prop
  | .tup l=>l.length<=sizeLine/\Kr l
  | .lst l=>l.length<=sizeLine/\Kr l
  | .ins _ _ _=>False
  | .scr _=>False
  | .dct _ _=>False
  | _=>True
noncomputable def Kr:List D->Prop
  | []=>True
  | d :: ds=>GH d/\Kr ds
end
theorem UG:∀{l:List D} {d:D},Kr l->d∈l->GH d
  | e :: l,d,h,hd=>by
    rw[Kr]at h
    rcases List.mem_cons.mp hd with rfl | hd
    · exact h.1
    · exact UG h.2 hd
theorem Ks(l:List D):List.zipWith (fun p q=>D.tup [p,q]) l l=l.map fun x=>D.tup [x,x]:=by
  induction l with
  | nil=>rfl
  | cons x l ih=>rw[List.zipWith_cons_cons,List.map_cons,ih]
theorem Zp{α:Type}(l:List α):v5 (l.map fun _=>D.bl true)=some (l.map fun _=>true):=yP (fun _=>true) l
theorem w_(C:Addr)(d:D):∀n:Nat,GH d->dep d < n->jP C n [d,d]=some (.bl true):=by
  induction d using D.ind with
  | h d i1 i2=>
    intro n hp hn
    cases n with
    | zero=>omega
    | succ n=>
      have seq:∀l:List D,(∀x∈l,jP C n [x,x]=some (.bl true))->Ja (gT 2 (gC (gN 0) (gC (gN 1) gZ))) jZ (j8 (jP C n) [(false,dV 0),(false,dV 1)]) (l.map fun x=>D.tup [x,x]) [.un,.un]=some (l.map fun _=>D.bl true):=fun l h=>Jv (fun x=>D.tup [x,x]) _ fun x hx=>⟨_,rfl,rfl,by simp[h x hx]⟩
      have al:∀l:List D,((l.map fun _=>true).all id)=true:=fun l=>by simp
      simp only[jP,zj]
      cases d with
      | non=>simp
      | bl b=>simp[Vl,vT]
      | int i=>simp[Vl,vT]
      | str s=>simp[Vl,vT]
      | tup l=>
        rw[GH]at hp
        rw[dep]at hn
        have q:=seq l fun x hx=>i1 l rfl x hx n (UG hp.2 hx) (by have:=Up hx; omega)
        simp[Vl,vT,Ks,q,hp.1,Zp]
      | lst l=>
        rw[GH]at hp
        rw[dep]at hn
        have q:=seq l fun x hx=>i2 l rfl x hx n (UG hp.2 hx) (by have:=Up hx; omega)
        simp[Vl,vT,Ks,q,hp.1,Zp]
      | ins C' ns ds=>exact absurd hp (by rw[GH]; exact id)
      | scr ns=>exact absurd hp (by rw[GH]; exact id)
      | dct ks vs=>exact absurd hp (by rw[GH]; exact id)
theorem Kt(C:Addr)(b:Bk)(ok:OkB b):Yx C [jj b]=some (j0 (jv b)):=by
  have c1:Ja (gN 0) jZ (dK (.int 0)) (b.kinds.map t3) [.un]=some (b.kinds.map fun _=>D.int 0):=Jv t3 _ fun t _=>⟨_,rfl,rfl,rfl⟩
  have c2:Ja (gN 0) jZ (dK (.bl false)) (b.dues.map t3) [.un]=some (b.dues.map fun _=>D.bl false):=Jv t3 _ fun t _=>⟨_,rfl,rfl,rfl⟩
  have h1:b.kinds.length<=sizeLine:=Nat.le_of_lt (jB (by have:=ok.k2; omega))
  have h2:b.dues.length<=sizeLine:=Nat.le_of_lt (jB (by have:=ok.d2; omega))
  simp only[Yx,Zs]
  simp[c1,c2,h1,h2,jv,j0]
  exact⟨List.map_const' ..,List.map_const' ..⟩
structure Form (b:Bk) (s:Sd):Prop extends Fit b s where
  wn:∀x∈s.waits,0<=x
noncomputable def Ve(b:Bk)(s:Sd)(k:Int):Bool:=ym b s k || (yt b s k || (zw s k || ZY b s k))
theorem Ku{xs:List Int}{k:Int}(h0:0<=k)(h1:k < (xs.length:Int)):xs.getD k.toNat 0∈xs:=by
  have hk:k.toNat < xs.length:=by omega
  rw[List.getD_eq_getElem?_getD,List.getElem?_eq_getElem hk]
  exact List.getElem_mem hk
theorem CH(s:Sd):UY (j0 s) (some 1) (some 5)=some (.tup [.int s.kind,.int s.len,.int s.before,.tup (s.waits.map .int)]):=by
  have sh:HT.sIx 6 0 (some 1)=1:=by decide
  have sh2:HT.sIx 6 6 (some 5)=5:=by decide
  simp[UY,j0,jN,sh,sh2]
theorem Qs(C:Addr)(b:Bk)(s:Sd)(k:Int)(ok:OkB b)(X:Form b s)(h:yQ b k):yM C [jj b,j0 s,.int k]=some (.bl (Ve b s k)):=by
  have hw:k < (s.waits.length:Int):=by rw[X.w]; exact h.2
  have hx:=X.wn _ (Ku h.1 hw)
  have ew:=YK (f:=D.int) (xs:=s.waits) (d:=0) h.1 hw
  have ea:zw s k=(!decide (s.kind=k) && decide (0 < s.waits.getD k.toNat 0)):=by
    unfold zw
    by_cases z:s.waits.getD k.toNat 0=0
    · rw[z]; rfl
    · rw[decide_eq_false z,decide_eq_true (show 0 < s.waits.getD k.toNat 0 by omega)]; rfl
  have ek:=YL h.1 h.2
  revert hx ew ea
  generalize s.waits.getD k.toNat 0=wv
  intro hx ew ea
  have L:=Zq (g:=yl) (s:=Js C) (items:=b.shuns.map t3) (fun ρ=>∃x y z,ρ=[.bo (jj b),.bo (j0 s),.bo (.int k),.cl (.int s.kind),.cl (.int s.len),.cl (.int s.before),.cl (.tup (s.waits.map .int)),x,y,z]) (wZ (ZH s k)) (.rt (.bl true)) (.inl ⟨_,rfl⟩) ?_ ⟨.un,.un,.un,rfl⟩
  · rw[any_map t3 _ (ZH s k) (YE _)]at L
    simp only[yM,yL]
    unfold Ve
    rw[ea]
    have L':∃r,jw yl (Js C) (b.shuns.map t3) [.bo (jj b),.bo (j0 s),.bo (.int k),.cl (.int s.kind),.cl (.int s.len),.cl (.int s.before),.cl (.tup (s.waits.map .int)),.un,.un,.un]=some r/\((ZY b s k=true/\r=.rt (.bl true))∨(ZY b s k=false/\∃ρ,r=.nx ρ)):=by
      rcases L with⟨L1,L2⟩ | ⟨L1,ρ',_,L2⟩
      · exact⟨_,L2,.inl ⟨L1,rfl⟩⟩
      · exact⟨_,L2,.inr ⟨L1,_,rfl⟩⟩
    obtain⟨r,L1,L2⟩:=L'
    simp only[J0,zG,vH,qS]
    have cutE':=CH s
    by_cases e:s.kind=k
    · by_cases e1:(zX b.kinds k).2.1<=s.len
      · simp[cutE',e,e1,ek,ym]
      · rcases L2 with⟨L2,rfl⟩ | ⟨L2,ρ,rfl⟩ <;> simp[e]at L1 <;> simp[cutE',e,e1,ek,ym,yt,L1,L2]
    · have e':¬k=s.kind:=fun z=>e z.symm
      by_cases e2:s.kind=-1
      · have e2':¬(-1:Int)=k:=fun z=>e (e2.trans z)
        have e2'':¬k=(-1:Int):=fun z=>e2' z.symm
        by_cases e3:0 < wv
        · simp[cutE',e,e',e2,e2',e2'',e3,ek,ew,ym,yt]
        · rcases L2 with⟨L2,rfl⟩ | ⟨L2,ρ,rfl⟩ <;> simp[e2]at L1 <;> simp[cutE',e,e',e2,e2',e2'',e3,ek,ew,ym,yt,L1,L2]
      · have ek2:=YL (ks:=b.kinds) (k:=s.kind) (by have:=X.c0; omega) X.c1
        by_cases e4:s.len < (zX b.kinds s.kind).1
        · simp[cutE',e,e',e2,e4,ek,ek2,ym,yt]
        · by_cases e3:0 < wv
          · simp[cutE',e,e',e2,e3,e4,ek,ek2,ew,ym,yt]
          · rcases L2 with⟨L2,rfl⟩ | ⟨L2,ρ,rfl⟩ <;> simp[cutE',e,e',e2,e3,e4,ek,ek2,ew,ym,yt,L1,L2]
  · rintro d hd ρ ⟨x,y,z,rfl⟩
    obtain⟨t,ht,rfl⟩:=List.mem_map.mp hd
    have hf:=ok.hs t ht
    obtain⟨u,v,w⟩:=t
    unfold fS at hf
    simp only[Bool.and_eq_true,decide_eq_true_eq]at hf
    refine⟨_,rfl,?_⟩
    rw[YE]
    unfold ZH
    simp only[Js]
    have a1:atI [D.int s.kind,D.int s.before] (1 - 1)=some (.int s.kind):=rfl
    have a2:atI [D.int s.kind,D.int s.before] (2 - 1)=some (.int s.before):=rfl
    by_cases h1:w=1
    · subst h1
      by_cases h2:v=k
      · by_cases h3:s.kind=u <;> simp[h2,h3] <;> simp[atI,Zf,h3]
      · simp[h2]
    · have h1:w=2:=by omega
      subst h1
      by_cases h2:v=k
      · by_cases h3:s.before=u <;> simp[h2,h3] <;> simp[atI,Zf,h3]
      · simp[h2]
end M
namespace M
open PySem L2 DS
theorem Kv{b:Bk}{s:Sd}{k:Int}{i:Nat}{t:T3}{m:Bool}(ht:b.dues[i]?=some t)(hm:s.met[i]?=some m):(Jb b s k)[i]?=some (m || Y7 k (s.place + 1) t):=by
  unfold Jb
  rw[List.getElem?_zipWith,ht,hm]
theorem Kw{l:List T3}{i:Nat}{d:D}(h:(yX 0 (l.map t3))[i]?=some d):∃t,l[i]?=some t/\d=.tup [.int (i:Int),t3 t]:=by
  obtain⟨d',h1,h2⟩:=VS 0 _ i d h
  rw[List.getElem?_map]at h1
  cases q:l[i]? with
  | none=>rw[q]at h1; cases h1
  | some t=>
    rw[q]at h1
    cases h1
    exact⟨t,rfl,by rw[h2,Nat.zero_add]⟩
theorem AX(C:Addr)(b:Bk)(s:Sd)(k:Int)(ok:OkB b)(X:Fit b s):V2 C [jj b,.int (s.place + 1),.tup (s.met.map .bl),.int k]=some (if YZ b s k=true then .non else .lst ((Jb b s k).map .bl)):=by
  have hl:=UE (k:=k) X
  have hd2:=ok.d2
  have L:=Ki (r:=.nx []) (g:=V_) (s:=yN C) (items:=yX 0 (b.dues.map t3)) (fun i ρ=>(∃x5 x6 x7 x8,ρ=[.bo (jj b),.bo (.int (s.place + 1)),.bo (.tup (s.met.map .bl)),.bo (.int k),.ow none (.lst (((Jb b s k).take i).map .bl)),x5,x6,x7,x8])/\∀j,j < i->∀t m,b.dues[j]?=some t->(Jb b s k)[j]?=some m->(decide (t.2.2=s.place + 1) && !m)=false)
    (fun i r=>r=.rt .non/\∃t m,b.dues[i]?=some t/\(Jb b s k)[i]?=some m/\(decide (t.2.2=s.place + 1) && !m)=true) ?_ ⟨⟨.un,.un,.un,.un,rfl⟩,fun j hj=>by omega⟩
  · have hz:∀i t m,b.dues[i]?=some t->(Jb b s k)[i]?=some m->(t,m)∈List.zip b.dues (Jb b s k):=fun i t m h1 h2=>List.mem_of_getElem? (i:=i) (by rw[List.getElem?_zip_eq_some]; exact⟨h1,h2⟩)
    simp only[V2,V1]
    rcases L with⟨ρ',L1,⟨x5,x6,x7,x8,rfl⟩,L2⟩ | ⟨i,d',hi,L1,L2,t,m,h1,h2,h3⟩
    · rw[zr,List.length_map,<-hl,List.take_length]at L1
      have hd:YZ b s k=false:=by
        unfold YZ
        rw[List.any_eq_false]
        rintro⟨t,m⟩ hm
        obtain⟨i,hi⟩:=List.mem_iff_getElem?.mp hm
        rw[List.getElem?_zip_eq_some]at hi
        have hi':i < b.dues.length:=(List.getElem?_eq_some_iff.mp hi.1).1
        have:=L2 i (by rw[zr,List.length_map]; exact hi') t m hi.1 hi.2
        rw[this]
        exact Bool.false_ne_true
      rw[hd]
      rw[List.take_zero,List.map_nil]at L1
      simp[L1]
    · cases L2
      have hd:YZ b s k=true:=by
        unfold YZ
        rw[List.any_eq_true]
        exact⟨(t,m),hz i t m h1 h2,h3⟩
      rw[hd]
      rw[List.take_zero,List.map_nil]at L1
      simp[L1]
  · rintro i d ρ hi ⟨⟨x5,x6,x7,x8,rfl⟩,hj⟩
    obtain⟨t,ht,rfl⟩:=Kw hi
    have hlt:i < b.dues.length:=(List.getElem?_eq_some_iff.mp ht).1
    have hm:s.met[i]?=some (s.met[i]'(by have:=X.m; omega)):=by simp
    revert hm
    generalize s.met[i]'(by have:=X.m; omega)=m
    intro hm
    have hg:=Kv (k:=k) ht hm
    have ea:atI (s.met.map D.bl) (i:Int)=some (.bl m):=gp (by omega) (by rw[List.getElem?_map]; simp[hm])
    have lenT:((Jb b s k).take i).length=i:=by rw[List.length_take]; omega
    revert lenT
    generalize hT:(Jb b s k).take i=L
    intro lenT
    have hz':L.length < sizeLine:=jB (by omega)
    have eb:∀c:Bool,atI (L.map D.bl ++ [.bl c]) (i:Int)=some (.bl c):=fun c=>gp (by omega) (by
      rw[List.getElem?_append_right (by rw[List.length_map]; omega),List.length_map]
      have:(i:Int).toNat - L.length=0:=by omega
      rw[this]
      rfl)
    obtain⟨p,q,r⟩:=t
    have key:∀c:Bool,(m || Y7 k (s.place + 1) (p,q,r))=c->(((r=s.place + 1/\c=false)/\yN C [.bo (jj b),.bo (.int (s.place + 1)),.bo (.tup (s.met.map .bl)),.bo (.int k),.ow none (.lst (L.map .bl)),.cl (.int (i:Int)),.cl (.int p),.cl (.int q),.cl (.int r)]=some (.rt .non))∨(¬(r=s.place + 1/\c=false)/\yN C [.bo (jj b),.bo (.int (s.place + 1)),.bo (.tup (s.met.map .bl)),.bo (.int k),.ow none (.lst (L.map .bl)),.cl (.int (i:Int)),.cl (.int p),.cl (.int q),.cl (.int r)]=some (.nx [.bo (jj b),.bo (.int (s.place + 1)),.bo (.tup (s.met.map .bl)),.bo (.int k),.ow none (.lst ((L ++ [c]).map .bl)),.cl (.int (i:Int)),.cl (.int p),.cl (.int q),.cl (.int r)]))):=by
      intro c hc
      simp only[yN]
      by_cases e0:r=s.place + 1
      · cases m with
        | true=>
          cases hc
          right
          refine⟨by simp,?_⟩
          simp[ea,eb,hz',e0]
        | false=>
          unfold Y7 at hc
          by_cases e1:p=k
          · by_cases e2:q<=s.place + 1
            · have e3:s.place + 1<=r:=by omega
              simp[e1,e2,e3]at hc
              subst hc
              right
              refine⟨by simp,?_⟩
              simp[ea,eb,hz',e0,e1,e2,e3]
            · simp[e1,e2]at hc
              subst hc
              left
              refine⟨⟨e0,rfl⟩,?_⟩
              simp[ea,eb,hz',e0,e1,e2]
          · simp[e1]at hc
            subst hc
            left
            refine⟨⟨e0,rfl⟩,?_⟩
            simp[ea,eb,hz',e0,e1]
      · right
        refine⟨fun z=>e0 z.1,?_⟩
        cases m with
        | true=>cases hc; simp[ea,eb,hz',e0]
        | false=>
          unfold Y7 at hc
          by_cases e1:p=k
          · by_cases e2:q<=s.place + 1
            · by_cases e3:s.place + 1<=r <;> simp[e1,e2,e3]at hc <;> subst hc <;> simp[ea,eb,hz',e0,e1,e2,e3]
            · simp[e1,e2]at hc; subst hc; simp[ea,eb,hz',e0,e1,e2]
          · simp[e1]at hc; subst hc; simp[ea,eb,hz',e0,e1]
    refine⟨_,rfl,?_⟩
    rcases key _ rfl with⟨⟨e1,e2⟩,e3⟩ | ⟨e1,e3⟩
    · exact .inr ⟨_,e3,rfl,_,_,ht,hg,by rw[e2]; simp[e1]⟩
    · refine .inl ⟨_,e3,⟨_,_,_,_,by rw[uc hg,hT]⟩,fun j hj' t m h1 h2=>?_⟩
      by_cases ej:j < i
      · exact hj j ej t m h1 h2
      · have ej:j=i:=by omega
        subst ej
        rw[ht]at h1
        rw[hg]at h2
        cases h1
        cases h2
        rw[Bool.eq_false_iff]
        intro z
        simp only[Bool.and_eq_true,decide_eq_true_eq,Bool.not_eq_true']at z
        exact e1 z
end M
namespace M
open PySem L2 DS
noncomputable def j_(b:Bk)(s:Sd)(k:Int):Option Sd:=if s.place>=b.size then none else if (jU b s k).isSome=true then none else some (Jc b s k)
noncomputable def yc:Option Sd->D
  | none=>.non
  | some s=>j0 s
noncomputable def ue(b:Bk)(s:Sd)(k:Int)(i:Nat)(t:T3)(x:Int):Int:=if (i:Int)=k then 0 else mx ((if (i:Int)=s.kind then t.2.2 else x) - 1) 0
theorem W0{b:Bk}{s:Sd}{k:Int}{i:Nat}{t:T3}{x:Int}(X:Fit b s)(h:yQ b k)(ht:b.kinds[i]?=some t)(hx:s.waits[i]?=some x):(Jp b s k)[i]?=some (ue b s k i t x):=by
  have hi:i < s.waits.length:=(List.getElem?_eq_some_iff.mp hx).1
  have k0:=h.1
  have e3:∀j:Int,0<=j->j.toNat=i->zX b.kinds j=t:=fun j h0 h1=>by
    unfold zX
    rw[h1,List.getD_eq_getElem?_getD,ht]
    rfl
  unfold Jp ue
  by_cases e1:(i:Int)=k
  · have e1':k.toNat=i:=by omega
    rw[if_pos e1,e1',List.getElem?_set]
    rw[if_pos rfl,if_pos (by split <;> simp <;> omega)]
  · have e1':k.toNat≠i:=by omega
    rw[if_neg e1,List.getElem?_set,if_neg e1']
    by_cases e2:s.kind=-1
    · rw[if_pos e2,if_neg (by omega),List.getElem?_map,hx]
      rfl
    · have c0:=X.c0
      rw[if_neg e2,List.getElem?_set]
      by_cases e4:(i:Int)=s.kind
      · have e4':s.kind.toNat=i:=by omega
        rw[if_pos e4',if_pos e4,if_pos (by rw[List.length_map]; omega),e3 s.kind (by omega) e4']
      · have e4':¬s.kind.toNat=i:=by omega
        rw[if_neg e4',if_neg e4,List.getElem?_map,hx]
        rfl
theorem Qt(w:Int):(if w - 1 > 0 then w - 1 else 0)=mx (w - 1) 0:=by
  unfold mx
  split <;> split <;> omega
theorem U3(b:Bk)(s:Sd)(k:Int):(jU b s k).isSome=(Yn b s k || (Ve b s k || (YZ b s k || vv b s k))):=by
  unfold jU Ve
  cases Yn b s k <;> cases ym b s k <;> cases yt b s k <;> cases zw s k <;> cases ZY b s k <;> cases YZ b s k <;> cases vv b s k <;> rfl
theorem za(C:Addr)(b:Bk)(s:Sd)(k:Int)(ok:OkB b)(X:Form b s)(h:yQ b k):J6 C [jj b,j0 s,.int k]=some (yc (j_ b s k)):=by
  have ek:=YL h.1 h.2
  have e1:=Qs C b s k ok X h
  have e2:=AX C b s k ok X.toFit
  have hk2:=ok.k2
  have er:∀ρ:j9,(Zj (jt (d2 jR (dV 2) (dV 4))) (d2 jA (dV 5) (dK (.int 1))) (dK (.int 1))) (.bo (jj b) :: .cl (j0 s) :: .cl (.int k) :: .cl (.int s.place) :: .cl (.int s.kind) :: .cl (.int s.len) :: ρ)=some (.int (JP s k)):=fun ρ=>by
    unfold JP
    by_cases z:s.kind=k
    · simp[z]
    · have z':¬k=s.kind:=fun y=>z y.symm
      simp[z,z']
  have L:=Zq (g:=Vt) (s:=zK C) (items:=b.bars.map t3) (fun ρ=>∃x y z,ρ=[.bo (jj b),.cl (j0 s),.cl (.int k),.cl (.int s.place),.cl (.int s.kind),.cl (.int s.len),.cl (.int s.before),.cl (.tup (s.waits.map .int)),.cl (.tup (s.met.map .bl)),.cl (.int (s.place + 1)),.cl (.int (JP s k)),x,y,z,.un,.un,.un,.un,.un,.un,.un]) (wZ (Y7 k (s.place + 1))) (.rt .non) (.inl ⟨_,rfl⟩) ?_ ⟨.un,.un,.un,rfl⟩
  · rw[any_map t3 _ (Y7 k (s.place + 1)) (YE _)]at L
    have L2:=fun(x y z:Sl)=>Jn (g:=Vu) (s:=JF C) (items:=yX 0 (b.kinds.map t3)) (fun i ρ=>∃x16 x17 x18 x19 x20,ρ=[.bo (jj b),.cl (j0 s),.cl (.int k),.cl (.int s.place),.cl (.int s.kind),.cl (.int s.len),.cl (.int s.before),.cl (.tup (s.waits.map .int)),.cl (.tup (s.met.map .bl)),.cl (.int (s.place + 1)),.cl (.int (JP s k)),x,y,z,.cl (.lst ((Jb b s k).map .bl)),.ow none (.lst (((Jp b s k).take i).map .int)),x16,x17,x18,x19,x20]) (by
      rintro i d ρ hi ⟨x16,x17,x18,x19,x20,rfl⟩
      obtain⟨t,ht,rfl⟩:=Kw hi
      have hlt:i < b.kinds.length:=(List.getElem?_eq_some_iff.mp ht).1
      have hw:s.waits[i]?=some (s.waits[i]'(by have:=X.w; omega)):=by simp
      revert hw
      generalize s.waits[i]'(by have:=X.w; omega)=w
      intro hw
      have hg:=W0 X.toFit h ht hw
      have ea:atI (s.waits.map D.int) (i:Int)=some (.int w):=gp (by omega) (by rw[List.getElem?_map]; simp[hw])
      have lenT:((Jp b s k).take i).length<=i:=by rw[List.length_take]; omega
      rw[uc hg]
      revert lenT
      generalize (Jp b s k).take i=T
      intro lenT
      have hz':T.length < sizeLine:=jB (by omega)
      obtain⟨p,q,r⟩:=t
      unfold ue
      by_cases c1:(i:Int)=s.kind
      · by_cases c2:(i:Int)=k
        · refine⟨_,[.bo (jj b),.cl (j0 s),.cl (.int k),.cl (.int s.place),.cl (.int s.kind),.cl (.int s.len),.cl (.int s.before),.cl (.tup (s.waits.map .int)),.cl (.tup (s.met.map .bl)),.cl (.int (s.place + 1)),.cl (.int (JP s k)),x,y,z,.cl (.lst ((Jb b s k).map .bl)),.ow none (.lst ((T ++ [0]).map .int)),.cl (.int (i:Int)),.cl (.int p),.cl (.int q),.cl (.int r),.cl (.int r)],rfl,?_,_,_,_,_,_,by rw[if_pos c2]⟩
          simp only[JF]
          rw[<-c2]at *
          rw[<-c1]at *
          simp[ea,hz']
        · refine⟨_,[.bo (jj b),.cl (j0 s),.cl (.int k),.cl (.int s.place),.cl (.int s.kind),.cl (.int s.len),.cl (.int s.before),.cl (.tup (s.waits.map .int)),.cl (.tup (s.met.map .bl)),.cl (.int (s.place + 1)),.cl (.int (JP s k)),x,y,z,.cl (.lst ((Jb b s k).map .bl)),.ow none (.lst ((T ++ [mx (r - 1) 0]).map .int)),.cl (.int (i:Int)),.cl (.int p),.cl (.int q),.cl (.int r),.cl (.int r)],rfl,?_,_,_,_,_,_,by rw[if_neg c2,if_pos c1]⟩
          simp only[JF]
          rw[<-c1]
          have em:=Qt r
          simp at em
          simp[ea,hz',c2,em]
      · by_cases c2:(i:Int)=k
        · refine⟨_,[.bo (jj b),.cl (j0 s),.cl (.int k),.cl (.int s.place),.cl (.int s.kind),.cl (.int s.len),.cl (.int s.before),.cl (.tup (s.waits.map .int)),.cl (.tup (s.met.map .bl)),.cl (.int (s.place + 1)),.cl (.int (JP s k)),x,y,z,.cl (.lst ((Jb b s k).map .bl)),.ow none (.lst ((T ++ [0]).map .int)),.cl (.int (i:Int)),.cl (.int p),.cl (.int q),.cl (.int r),.cl (.int w)],rfl,?_,_,_,_,_,_,by rw[if_pos c2]⟩
          simp only[JF]
          rw[<-c2]
          simp[ea,hz',c1]
        · refine⟨_,[.bo (jj b),.cl (j0 s),.cl (.int k),.cl (.int s.place),.cl (.int s.kind),.cl (.int s.len),.cl (.int s.before),.cl (.tup (s.waits.map .int)),.cl (.tup (s.met.map .bl)),.cl (.int (s.place + 1)),.cl (.int (JP s k)),x,y,z,.cl (.lst ((Jb b s k).map .bl)),.ow none (.lst ((T ++ [mx (w - 1) 0]).map .int)),.cl (.int (i:Int)),.cl (.int p),.cl (.int q),.cl (.int r),.cl (.int w)],rfl,?_,_,_,_,_,_,by rw[if_neg c2,if_neg c1]⟩
          simp only[JF]
          have em:=Qt w
          simp at em
          simp[ea,hz',c1,c2,em]) ⟨.un,.un,.un,.un,.un,rfl⟩
    have hwl:(yX 0 (b.kinds.map t3)).length=(Jp b s k).length:=by rw[zr,List.length_map,gq,X.w]
    unfold j_
    rw[U3]
    have g6:∀(gs:Vn) (ρ:j9),gT 6 gs (j0 s) ρ=gs [.int s.place,.int s.kind,.int s.len,.int s.before,.tup (s.waits.map .int),.tup (s.met.map .bl)] ρ:=fun gs ρ=>by simp[j0]
    have hb0:Yn b s k=b.bars.any (Y7 k (s.place + 1)):=rfl
    simp only[J6,vk]
    simp only[J0,zG,List.zipWith_cons_cons,List.zipWith_nil_left,if_true,Bool.false_eq_true,if_false,List.cons_append,List.nil_append,List.replicate]
    have first:∀sx:DS.DS,j1 (Zl (dC 1) (gT 6 (gC (gN 3) (gC (gN 4) (gC (gN 5) (gC (gN 6) (gC (gN 7) (gC (gN 8) gZ)))))))) (j1 (jf 9 (d2 jA (dV 3) (dK (.int 1)))) (j1 (jf 10 (Zj (jt (d2 jR (dV 2) (dV 4))) (d2 jA (dV 5) (dK (.int 1))) (dK (.int 1)))) sx)) [.bo (jj b),.cl (j0 s),.cl (.int k),.un,.un,.un,.un,.un,.un,.un,.un,.un,.un,.un,.un,.un,.un,.un,.un,.un,.un]=sx [.bo (jj b),.cl (j0 s),.cl (.int k),.cl (.int s.place),.cl (.int s.kind),.cl (.int s.len),.cl (.int s.before),.cl (.tup (s.waits.map .int)),.cl (.tup (s.met.map .bl)),.cl (.int (s.place + 1)),.cl (.int (JP s k)),.un,.un,.un,.un,.un,.un,.un,.un,.un,.un]:=fun sx=>by
      have er':=er
      simp only[vH,qS,ET]
      simp[-fA,g6]
      simp at er'
      simp[er']
    rw[first]
    by_cases c0:s.place>=b.size
    · rw[if_pos c0]
      have c0':b.size < s.place + 1:=by omega
      simp[c0',yc]
    · rw[if_neg c0]
      have c0':¬b.size < s.place + 1:=by omega
      rcases L with⟨L1,Lb⟩ | ⟨L1,ρ',⟨x,y,z,rfl⟩,Lb⟩
      · rw[hb0,L1]
        simp[c0',Lb,yc]
      · rw[hb0,L1]
        cases ht:Ve b s k with
        | true=>
          rw[ht]at e1
          simp[c0',Lb,e1,yc]
        | false=>
          rw[ht]at e1
          cases hd:YZ b s k with
          | true=>
            rw[hd]at e2
            simp at e2
            simp[c0',Lb,e1,e2,yc]
          | false=>
            rw[hd]at e2
            simp at e2
            obtain⟨ρ2,M1,x16,x17,x18,x19,x20,rfl⟩:=L2 x y z
            rw[hwl,List.take_length,List.take_zero,List.map_nil]at M1
            cases hc:vv b s k with
            | true=>
              unfold vv at hc
              simp only[Bool.and_eq_true,decide_eq_true_eq]at hc
              have q:=hc.1.symm
              simp[q,Lb,e1,e2,ek,hc.2,yc]
            | false=>
              unfold vv at hc
              have hc':¬(s.place + 1=b.size/\JP s k < (zX b.kinds k).1):=fun zz=>by
                rw[decide_eq_true zz.1,decide_eq_true zz.2]at hc
                cases hc
              by_cases c5:s.place + 1=b.size
              · have c6:¬JP s k < (zX b.kinds k).1:=fun zz=>hc' ⟨c5,zz⟩
                have q:=c5.symm
                simp[q,Lb,e1,e2,ek,c6,M1,yc]; rfl
              · simp[c0',Lb,e1,e2,ek,c5,M1,yc]; rfl
  · rintro d hd ρ ⟨x,y,z,rfl⟩
    obtain⟨t,_,rfl⟩:=List.mem_map.mp hd
    obtain⟨u,v,w⟩:=t
    refine⟨_,rfl,?_⟩
    rw[YE]
    unfold Y7
    simp only[zK]
    by_cases h1:u=k
    · by_cases h2:v<=s.place + 1
      · by_cases h3:s.place + 1<=w <;> simp[h1,h2,h3]
      · simp[h1,h2]
    · simp[h1]
end M
namespace M
open PySem L2 DS
theorem uf:∀l:List Int,Yv (l.map D.int)=0
  | []=>rfl
  | x :: l=>by rw[List.map_cons,Yv,uf l]; rfl
theorem GJ:∀l m:List Int,l.length=m.length->YH (l.map D.int) (m.map D.int)=some (decide (l=m))
  | [],[],_=>rfl
  | [],_ :: _,h=>by simp at h
  | _ :: _,[],h=>by simp at h
  | x :: l,y :: m,h=>by
    rw[List.map_cons,List.map_cons,YH,GJ l m (by simpa using h),Zm]
    simp only[Option.bind_some,Option.some.injEq]
    by_cases h1:x=y <;> by_cases h2:l=m <;> simp[h1,h2]
theorem W3(l m:List Int):Jk (.lst (l.map D.int)) (.lst (m.map D.int))=some (.bl (!decide (l=m))):=by
  have e:dep (.lst (l.map D.int))<=20:=by rw[dep,uf]; decide
  have e0:VU (D.lst (l.map D.int)) (D.lst (m.map D.int))=true:=rfl
  unfold Jk
  rw[if_pos e0]
  unfold gW
  rw[if_pos ⟨e0,e⟩,Zm]
  by_cases h:l.length=m.length
  · rw[if_pos (by simpa using h),GJ l m h]
    rfl
  · have h':¬l=m:=fun z=>h (by rw[z])
    rw[if_neg (by simpa using h),decide_eq_false h']
    rfl
theorem Qu(l:List Int):Jk (.lst (l.map D.int)) (.lst [])=some (.bl (!decide (l=[]))):=W3 l []
theorem Vf{l:List D}{d:D}:atI (l ++ [d]) (-1)=some d:=by
  unfold atI Zf
  rw[if_neg (by decide),if_pos (by simp; omega),List.length_append,List.length_singleton]
  have:(-1 + ((l.length + 1:Nat):Int)).toNat=l.length:=by omega
  simp only[Option.bind_some]
  rw[this]
  simp[getElem?_pos]
theorem aH(x:Int):0<=mx x 0:=by unfold mx; split <;> omega
theorem Vg{xs:List Int}{i:Nat}{x y:Int}(h:y∈xs.set i x):y∈xs∨y=x:=List.mem_or_eq_of_mem_set h
theorem Form.next{b:Bk}{s:Sd}(X:Form b s){k:Int}(h:yQ b k):Form b (Jc b s k):=by
  refine⟨X.toFit.next h,fun x hx=>?_⟩
  have hx:x∈Jp b s k:=hx
  unfold Jp at hx
  have hm:∀x∈s.waits.map (fun x=>mx (x - 1) 0),0<=x:=fun x hx=>by
    obtain⟨y,_,rfl⟩:=List.mem_map.mp hx
    exact aH _
  rcases Vg hx with hx | rfl
  · split at hx
    · exact hm x hx
    · rcases Vg hx with hx | rfl
      · exact hm x hx
      · exact aH _
  · omega
theorem Form.empty(b:Bk):Form b (jv b):=⟨Fit.empty b,fun x hx=>by
  have:=List.eq_of_mem_replicate hx
  omega⟩
theorem gr{b:Bk}{k:Int}:∀{row:List Int} {s0 s:Sd},jE b s0 row=(s,none)->jU b s k=none->jE b s0 (row ++ [k])=(Jc b s k,none)
  | [],s0,s,h,hb=>by
    cases h
    rw[List.nil_append,jE,hb]
    rfl
  | n :: row,s0,s,h,hb=>by
    rw[jE]at h
    rw[List.cons_append,jE]
    cases q:jU b s0 n with
    | some w=>rw[q]at h; cases h
    | none=>rw[q]at h; exact gr h hb
theorem Zc{b:Bk}{s s':Sd}{k:Int}(h:j_ b s k=some s'):jU b s k=none/\s'=Jc b s k/\s.place < b.size:=by
  unfold j_ at h
  split at h
  · cases h
  · split at h
    · cases h
    · rename_i h1 h2
      cases h
      refine⟨?_,rfl,by omega⟩
      cases q:jU b s k with
      | none=>rfl
      | some w=>rw[q]at h2; exact absurd rfl h2
structure Walked (b:Bk) (row:List Int) (s:Sd):Prop where
  ks:∀n∈row,yQ b n
  st:jE b (jv b) row=(s,none)
  fo:Form b s
  pl:s.place=row.length
  sz:(row.length:Int)<=b.size
theorem AY(C:Addr)(b:Bk)(s:Sd)(ok:OkB b)(X:Form b s)(ρ:j9):Ja (gN 0) (jt (d2 yC (j8 (J6 C) [(false,(dV 1)),(true,(dC 2)),(true,(dC 0))]) (dK .non))) (dC 0) (jJ 0 b.kinds.length) [.un,.bo (jj b),.cl (j0 s)]=some ((((List.range b.kinds.length).filter fun(i:Nat)=>(j_ b s (0 + (i:Int))).isSome).map fun(i:Nat)=>0 + (i:Int)).map D.int):=by
  have:=U1 (g:=gN 0) (dc:=jt (d2 yC (j8 (J6 C) [(false,(dV 1)),(true,(dC 2)),(true,(dC 0))]) (dK .non))) (de:=dC 0) (ρ:=[.un,.bo (jj b),.cl (j0 s)]) (fun i:Nat=>D.int (0 + (i:Int))) (fun i:Nat=>(j_ b s (0 + (i:Int))).isSome) (fun i:Nat=>D.int (0 + (i:Int))) (xs:=List.range b.kinds.length) fun i hi=>by
    have hi:=List.mem_range.mp hi
    have e:=za C b s (0 + (i:Int)) ok X ⟨by omega,by omega⟩
    refine⟨_,rfl,?_,rfl⟩
    cases q:j_ b s (0 + (i:Int))with
    | none=>rw[q]at e; simp at e⊢; simp[e,yc]
    | some s'=>rw[q]at e; simp at e⊢; simp[e,yc]
  rw[List.map_map]
  exact this
theorem Qw(C:Addr)(b:Bk)(ds row:List Int)(s:Sd)(x4 x5:Sl)(x:Int)(i:Nat)(ok:OkB b)(W:Walked b row s)(hl:row.length<=i)(hi:i<=1000):∃ρ2,yq C [.bo (jj b),.bo (.lst (ds.map .int)),.ow none (.lst (row.map .int)),.cl (j0 s),.cl (.int x),x5]=some (.nx ρ2)/\∃(row:List Int) (s:Sd) (x4 x5:Sl),ρ2=[.bo (jj b),.bo (.lst (ds.map .int)),.ow none (.lst (row.map .int)),.cl (j0 s),x4,x5]/\Walked b row s/\row.length<=i + 1:=by
  have hk2:=ok.k2
  have c:=AY C b s ok W.fo []
  have hso:∀e∈((List.range b.kinds.length).filter fun(i:Nat)=>(j_ b s (0 + (i:Int))).isSome).map (fun(i:Nat)=>0 + (i:Int)),yQ b e/\(j_ b s e).isSome=true:=fun e he=>by
    obtain⟨j,hj,rfl⟩:=List.mem_map.mp he
    obtain⟨h1,h2⟩:=List.mem_filter.mp hj
    have:=List.mem_range.mp h1
    exact⟨⟨by omega,by omega⟩,h2⟩
  revert c hso
  generalize ((List.range b.kinds.length).filter fun(i:Nat)=>(j_ b s (0 + (i:Int))).isSome).map (fun(i:Nat)=>0 + (i:Int))=so
  intro c hso
  have z1:jF (b.kinds.length:Int)=true:=Jq (by omega) (by omega)
  have z2:(jJ 0 b.kinds.length).length<=sizeLine:=Nat.le_of_lt (jB (by simp[jJ]; omega))
  have hz:row.length < sizeLine:=jB (by omega)
  by_cases hs:so=[]
  · subst hs
    have en:=Qu []
    rw[List.map_nil]at en c
    refine⟨[.bo (jj b),.bo (.lst (ds.map .int)),.ow none (.lst (row.map .int)),.cl (j0 s),.cl (.int x),.cl (.lst [])],?_,row,s,_,_,rfl,W,by omega⟩
    simp only[yq]
    simp[-Jk,c,z1,z2,en]
  · have en:=Qu so
    rw[decide_eq_false hs]at en
    have hsl:0 < (so.length:Int):=by
      cases so with
      | nil=>exact absurd rfl hs
      | cons _ _=>simp
    have hm:=jS (a:=x) (b:=(so.length:Int)) hsl
    have ea:=YK (f:=D.int) (xs:=so) (d:=0) hm.1 hm.2
    have hmem:=Ku hm.1 hm.2
    revert ea hmem
    generalize so.getD (x % (so.length:Int)).toNat 0=e
    intro ea hmem
    obtain⟨hk,hst⟩:=hso e hmem
    obtain⟨s',hs'⟩:=Option.isSome_iff_exists.mp hst
    obtain⟨hb,rfl,hp⟩:=Zc hs'
    have e2:=za C b s e ok W.fo hk
    rw[hs']at e2
    have el:atI (row.map D.int ++ [D.int e]) (-1)=some (.int e):=Vf
    refine⟨[.bo (jj b),.bo (.lst (ds.map .int)),.ow none (.lst ((row ++ [e]).map .int)),.cl (j0 (Jc b s e)),.cl (.int x),.cl (.lst (so.map .int))],?_,row ++ [e],Jc b s e,_,_,rfl,⟨Vd W.ks hk,gr W.st hb,W.fo.next hk,?_,?_⟩,by simp; omega⟩
    · simp only[yq]
      have hsl':0 < so.length:=by omega
      simp[-Jk,c,z1,z2,en,hsl,hsl',ea,hz,el,e2,yc]
    · show s.place + 1=_
      rw[W.pl]
      simp
    · have:=W.pl
      simp
      omega
theorem W4(C:Addr)(b:Bk)(ds:List Int)(ok:OkB b)(hd:ds.length<=1000):∃(row:List Int) (s:Sd),zi C [jj b,.lst (ds.map .int)]=some (.lst (row.map .int))/\Walked b row s/\row.length<=ds.length:=by
  have L:=Jn (g:=Vv) (s:=yq C) (items:=ds.map D.int) (fun i ρ=>∃(row:List Int) (s:Sd) (x4 x5:Sl),ρ=[.bo (jj b),.bo (.lst (ds.map .int)),.ow none (.lst (row.map .int)),.cl (j0 s),x4,x5]/\Walked b row s/\row.length<=i) ?_ ⟨[],jv b,.un,.un,rfl,⟨(fun _ h=>by cases h),rfl,Form.empty b,rfl,(by have:=ok.s1; show(0:Int)<=b.size; omega)⟩,Nat.le_refl _⟩
  · obtain⟨ρ',L1,row,s,x4,x5,rfl,W,hl⟩:=L
    rw[List.length_map]at hl
    refine⟨row,s,?_,W,hl⟩
    have e:=Kt C b ok
    rw[List.map_nil]at L1
    simp only[zi,vm]
    simp[e,L1]
  · rintro i d ρ hi ⟨row,s,x4,x5,rfl,W,hl⟩
    have hlt:i < ds.length:=by have:=(List.getElem?_eq_some_iff.mp hi).1; rwa [List.length_map]at this
    obtain⟨x,rfl⟩:∃x,d=D.int x:=by
      rw[List.getElem?_map]at hi
      cases q:ds[i]? with
      | none=>rw[q]at hi; cases hi
      | some z=>rw[q]at hi; exact⟨z,(Option.some.inj hi).symm⟩
    obtain⟨ρ2,e1,e2⟩:=Qw C b ds row s x4 x5 x i ok W hl (by omega)
    exact⟨_,ρ2,rfl,e1,e2⟩
end M
namespace M
open PySem L2 DS
noncomputable def ra(row:List Int)(i:Nat):Int:=row.getD i 0
theorem Qx{row:List Int}{i:Nat}(h:i < row.length):row[i]?=some (ra row i):=by
  unfold ra
  rw[List.getD_eq_getElem?_getD,List.getElem?_eq_getElem h]
  rfl
noncomputable def Kx(row:List Int):Nat->Nat
  | 0=>1
  | i + 1=>if ra row (i + 1)=ra row i then Kx row i + 1 else 1
noncomputable def Vx(row:List Int):Nat->Int->Option Nat
  | 0,_=>none
  | i + 1,c=>if ra row i=c then some i else Vx row i c
noncomputable def gt(b:Bk)(row:List Int)(i:Nat)(c:Int):Int:=match Vx row i c with
  | none=>0
  | some j=>if j + 1=i then 0 else mx ((zX b.kinds c).2.2 - ((i:Int) - 1 - (j:Int))) 0
noncomputable def Xa(row:List Int):Nat->T3->Bool
  | 0,_=>false
  | i + 1,t=>Xa row i t || Y7 (ra row i) ((i:Int) + 1) t
theorem Qy{row:List Int}:∀{i j:Nat} {c:Int},Vx row i c=some j->j < i/\ra row j=c
  | 0,j,c,h=>by cases h
  | i + 1,j,c,h=>by
    unfold Vx at h
    split at h
    · cases h; exact⟨by omega,by assumption⟩
    · have:=Qy h; exact⟨by omega,this.2⟩
theorem Ky{row:List Int}:∀{i:Nat} {c:Int},Vx row i c=none->∀j,j < i->ra row j≠c
  | 0,c,h,j,hj=>by omega
  | i + 1,c,h,j,hj=>by
    unfold Vx at h
    split at h
    · cases h
    · by_cases e:j=i
      · rw[e]; assumption
      · exact Ky h j (by omega)
theorem Kz{row:List Int}:∀{i j:Nat} {c:Int},Vx row i c=some j->∀m,j < m->m < i->ra row m≠c
  | 0,j,c,h,m,h1,h2=>by omega
  | i + 1,j,c,h,m,h1,h2=>by
    unfold Vx at h
    split at h
    · cases h; omega
    · by_cases e:m=i
      · rw[e]; assumption
      · exact Kz h m h1 (by omega)
structure StOf (b:Bk) (row:List Int) (i:Nat) (s:Sd):Prop where
  pl:s.place=(i:Int)
  kd:s.kind=if i=0 then -1 else ra row (i - 1)
  ln:s.len=if i=0 then 0 else(Kx row (i - 1):Int)
  bf:s.before=if i < 2 then -1 else ra row (i - 2)
  ws:∀c:Nat,c < b.kinds.length->s.waits[c]?=some (gt b row i (c:Int))
  ms:∀(j:Nat) (t:T3),b.dues[j]?=some t->s.met[j]?=some (Xa row i t)
  fo:Form b s
theorem StOf.empty(b:Bk)(row:List Int):StOf b row 0 (jv b):=⟨rfl,rfl,rfl,rfl,fun c hc=>by simp[jv,hc,gt,Vx],fun j t ht=>by
  have:=(List.getElem?_eq_some_iff.mp ht).1
  simp[jv,this,Xa],Form.empty b⟩
theorem StOf.run{b:Bk}{row:List Int}{i:Nat}{s:Sd}(R:StOf b row i s)(h0:0<=ra row i):JP s (ra row i)=(Kx row i:Int):=by
  unfold JP
  rw[R.kd,R.ln]
  cases i with
  | zero=>
    rw[if_pos rfl,if_neg (show¬(-1:Int)=ra row 0 by omega)]
    rfl
  | succ i=>
    have er:Kx row (i + 1)=if ra row (i + 1)=ra row i then Kx row i + 1 else 1:=rfl
    simp only[Nat.add_sub_cancel,if_neg (Nat.succ_ne_zero i)]
    rw[er]
    by_cases e:ra row i=ra row (i + 1)
    · rw[if_pos e,if_pos e.symm]; omega
    · rw[if_neg e,if_neg (fun z=>e z.symm)]; rfl
theorem Qz(b:Bk)(row:List Int)(i:Nat)(s:Sd)(R:StOf b row i s)(c:Nat)(t:T3)(ht:b.kinds[c]?=some t):ue b s (ra row i) c t (gt b row i (c:Int))=gt b row (i + 1) (c:Int):=by
  have e3:zX b.kinds (c:Int)=t:=by
    unfold zX
    rw[Int.toNat_natCast,List.getD_eq_getElem?_getD,ht]
    rfl
  have el:Vx row (i + 1) (c:Int)=if ra row i=(c:Int)then some i else Vx row i (c:Int):=rfl
  unfold ue gt
  rw[e3,el]
  by_cases e1:(c:Int)=ra row i
  · rw[if_pos e1,if_pos (show ra row i=(c:Int) from e1.symm)]
    simp
  · rw[if_neg e1,if_neg (show¬ra row i=(c:Int) from fun z=>e1 z.symm)]
    rw[R.kd]
    cases hl:Vx row i (c:Int)with
    | none=>
      have hn:=Ky hl
      by_cases e2:i=0
      · subst e2
        simp[mx]
      · have h2:=hn (i - 1) (by omega)
        rw[if_neg e2]
        rw[if_neg (fun z=>h2 z.symm)]
        simp[mx]
    | some j=>
      obtain⟨h1,h2⟩:=Qy hl
      have e2:¬i=0:=by omega
      rw[if_neg e2]
      by_cases e4:j + 1=i
      · have e5:(c:Int)=ra row (i - 1):=by rw[<-h2]; congr 1; omega
        simp only[if_pos e5,if_neg (show¬j + 1=i + 1 by omega)]
        congr 1
        omega
      · have e5:¬(c:Int)=ra row (i - 1):=fun z=>Kz hl (i - 1) (by omega) (by omega) z.symm
        simp only[if_neg e5,if_neg e4,if_neg (show¬j + 1=i + 1 by omega)]
        unfold mx
        split <;> split <;> split <;> omega
theorem StOf.next{b:Bk}{row:List Int}{i:Nat}{s:Sd}(R:StOf b row i s)(h:yQ b (ra row i)):StOf b row (i + 1) (Jc b s (ra row i)) where
  pl:=by show s.place + 1=_; rw[R.pl]; omega
  kd:=by simp; rfl
  ln:=by simp; exact R.run h.1
  bf:=by
    show s.kind=_
    rw[R.kd]
    by_cases e:i=0
    · rw[if_pos e,if_pos (by omega)]
    · rw[if_neg e,if_neg (by omega)]
      rfl
  ws:=fun c hc=>by
    have hx:=R.ws c hc
    have ht:b.kinds[c]?=some b.kinds[c]:=by simp[hc]
    rw[<-Qz b row i s R c _ ht]
    exact W0 R.fo.toFit h ht hx
  ms:=fun j t ht=>by
    have:=Kv (k:=ra row i) ht (R.ms j t ht)
    rw[R.pl]at this
    exact this
  fo:=R.fo.next h
end M
namespace M
open PySem L2 DS
theorem KA{b:Bk}{k:Int}(h:yQ b k)(ok:OkB b):fK (zX b.kinds k)=true:=by
  refine ok.ks _ ?_
  unfold zX
  have hk:k.toNat < b.kinds.length:=by have:=h.1; have:=h.2; omega
  rw[List.getD_eq_getElem?_getD,List.getElem?_eq_getElem hk]
  exact List.getElem_mem hk
end M
namespace M
open PySem L2 DS
theorem Xb{b:Bk}{row:List Int}{i:Nat}{s:Sd}(hi:i < row.length):jE b s (row.drop i)=match jU b s (ra row i)with
    | some w=>(s,some w)
    | none=>jE b (Jc b s (ra row i)) (row.drop (i + 1)):=by
  have e:row.drop i=ra row i :: row.drop (i + 1):=by
    have h:=Qx hi
    rw[List.drop_eq_getElem_cons hi]
    rw[List.getElem?_eq_getElem hi]at h
    rw[Option.some.inj h]
  rw[e,jE]
  all_goals (cases jU b s (ra row i) <;> rfl)
theorem ZI{n i:Nat}{d:D}(h:(jJ 0 n)[i]?=some d):i < n/\d=.int (i:Int):=by
  unfold jJ at h
  rw[List.getElem?_map]at h
  by_cases z:i < n
  · rw[List.getElem?_range z]at h
    refine⟨z,?_⟩
    have:=Option.some.inj h
    rw[<-this]
    simp
  · rw[List.getElem?_eq_none (by simp; omega)]at h
    cases h
end M
namespace M
open PySem L2 DS
theorem StOf.walk{b:Bk}{row:List Int}(hr:∀n∈row,yQ b n){s':Sd}:∀(m i:Nat) (s:Sd),row.length - i=m->i<=row.length->StOf b row i s->jE b s (row.drop i)=(s',none)->StOf b row row.length s'
  | 0,i,s,hm,hi,R,hw=>by
    have e:i=row.length:=by omega
    subst e
    rw[List.drop_length]at hw
    cases hw
    exact R
  | m + 1,i,s,hm,hi,R,hw=>by
    have hlt:i < row.length:=by omega
    rw[Xb hlt]at hw
    have hk:=hr (ra row i) (List.mem_of_getElem? (Qx hlt))
    cases hb:jU b s (ra row i)with
    | some w=>rw[hb]at hw; cases hw
    | none=>
      rw[hb]at hw
      exact StOf.walk hr m (i + 1) _ (by omega) hlt (R.next hk) hw
theorem StOf.all{b:Bk}{row:List Int}(hr:∀n∈row,yQ b n){s:Sd}(hw:jE b (jv b) row=(s,none)):StOf b row row.length s:=
  StOf.walk hr _ 0 (jv b) rfl (Nat.zero_le _) (StOf.empty b row) hw
theorem GK{b:Bk}:∀(xs ys:List Int) (s s':Sd),jE b s (xs ++ ys)=(s',none)->∃s'',jE b s xs=(s'',none)
  | [],ys,s,s',h=>⟨s,rfl⟩
  | x :: xs,ys,s,s',h=>by
    rw[List.cons_append,jE]at h
    rw[jE]
    cases hb:jU b s x with
    | some w=>rw[hb]at h; cases h
    | none=>
      rw[hb]at h
      exact GK xs ys _ s' h
theorem U4(C:Addr)(b:Bk)(row:List Int)(ok:OkB b)(h:Za b row){s:Sd}(hw:jE b (jv b) row=(s,none)):Z8 C [jk C b,.lst (row.map .int)]=some (j0 s):=by
  have e1:=Ko C b row ok h
  have e2:=Qr C b row ok h.1
  rw[hw]at e2
  simp only[Z8,Va]
  simp[e1,e2,oS]
end M
namespace M
open PySem L2 DS
noncomputable def rD(r:List Int):D:=.lst (r.map .int)
theorem KB:∀l:List Bool,Yv (l.map D.bl)=0
  | []=>rfl
  | x :: l=>by rw[List.map_cons,Yv,KB l]; rfl
theorem WR(C:Addr)(b:Bk)(s:Sd)(k:Int)(ok:OkB b)(X:Fit b s)(h:yQ b k):u9 C [jk C b,j0 s,.int k]=some (yc (j_ b s k)):=by
  have e1:=GG C b s k ok X h
  have e2:=Kp C b s k ok X h
  unfold j_
  simp only[u9,u8]
  by_cases c:s.place>=b.size
  · have c':b.size<=s.place:=c
    rw[if_pos c]
    simp[c',yc]
  · have c':¬b.size<=s.place:=c
    rw[if_neg c]
    cases hb:jU b s k with
    | none=>rw[hb]at e1; simp[c',e1,e2,oS,yc]
    | some w=>rw[hb]at e1; simp[c',e1,oS,yc]
end M
namespace M
open PySem L2 DS
noncomputable instance:DecidableEq Sd:=fun _ _=>Classical.propDecidable _
noncomputable def kB(b:Bool):KD:=.i (if b then 1 else 0)
noncomputable def kS(s:Sd):KD:=.t [.i s.place,.i s.kind,.i s.len,.i s.before,.t (s.waits.map .i),.t (s.met.map kB)]
theorem KC:∀l:List Int,Yd (l.map D.int)=some (l.map KD.i)
  | []=>by rw[List.map_nil,Yd]; rfl
  | x :: l=>by rw[List.map_cons,Yd,yx,KC l]; rfl
theorem W5:∀l:List Bool,Yd (l.map D.bl)=some (l.map kB)
  | []=>by rw[List.map_nil,Yd]; rfl
  | x :: l=>by rw[List.map_cons,Yd,yx,W5 l]; rfl
theorem W6:∀l:List Int,yV (l.map KD.i)=0
  | []=>rfl
  | x :: l=>by rw[List.map_cons,yV,W6 l]; rfl
theorem W7:∀l:List Bool,yV (l.map kB)=0
  | []=>rfl
  | x :: l=>by rw[List.map_cons,yV,W7 l]; rfl
theorem KF(s:Sd):JH (j0 s)=some (kS s):=by
  have e:yx (j0 s)=some (kS s):=by
    unfold j0 kS
    simp[yx,Yd,KC,W5]
  have d:(kS s).dep<=8:=by
    unfold kS
    simp[KD.dep,yV,W6,W7]
  show(yx (j0 s)).bind _=_
  rw[e]
  simp[d]
theorem Vh{α β:Type}{f:α->β}(h:∀a b,f a=f b->a=b):∀{l m:List α},l.map f=m.map f->l=m
  | [],[],_=>rfl
  | [],_ :: _,e=>by cases e
  | _ :: _,[],e=>by cases e
  | a :: l,b :: m,e=>by
    rw[List.map_cons,List.map_cons]at e
    injection e with e1 e2
    rw[h _ _ e1,Vh h e2]
theorem KG{s t:Sd}(h:kS s=kS t):s=t:=by
  unfold kS at h
  simp only[KD.t.injEq,List.cons.injEq,KD.i.injEq]at h
  obtain⟨h1,h2,h3,h4,h5,h6,_⟩:=h
  have e5:=Vh (fun a b e=>by injection e) h5
  have e6:=Vh (fun a b e=>by cases a <;> cases b <;> first | rfl | (unfold kB at e; simp at e)) h6
  obtain⟨a1,a2,a3,a4,a5,a6⟩:=s
  obtain⟨b1,b2,b3,b4,b5,b6⟩:=t
  simp only at h1 h2 h3 h4 e5 e6
  subst h1 h2 h3 h4 e5 e6
  rfl
theorem Gj:∀l:List Sd,jQ (l.map j0)=some (l.map kS)
  | []=>rfl
  | s :: l=>by rw[List.map_cons,jQ,KF,Gj l]; rfl
theorem gu{l:List Sd}{s:Sd}:kS s∈l.map kS↔s∈l:=by
  rw[List.mem_map]
  constructor
  · rintro⟨t,h,e⟩
    rw[<-KG e]
    exact h
  · exact fun h=>⟨s,h,rfl⟩
theorem W8{f:Sd->D}{s:Sd}:∀{l:List Sd},s∈l->ZR (l.map kS) (l.map f) (kS s)=some (f s)
  | [],h=>by cases h
  | t :: l,h=>by
    rw[List.map_cons,List.map_cons,ZR]
    by_cases e:t=s
    · rw[if_pos (by rw[e]),e]
    · rw[if_neg (fun z=>e (KG z))]
      rcases List.mem_cons.mp h with z | z
      · exact absurd z.symm e
      · exact W8 z
theorem zx{f:Sd->D}{s:Sd}{l:List Sd}(h:s∈l):yg (.dct (l.map j0) (l.map f)) (j0 s)=some (f s):=by
  show(JH (j0 s)).bind _=_
  rw[KF]
  show(jQ (l.map j0)).bind _=_
  rw[Gj]
  exact W8 h
theorem KH{f:Sd->D}{s:Sd}:∀l:List Sd,VX (l.map kS) (l.map f) (kS s) (f s)=l.map f
  | []=>by rw[List.map_nil,List.map_nil,VX]; all_goals (intros; contradiction)
  | t :: l=>by
    rw[List.map_cons,List.map_cons,VX,KH l]
    by_cases e:t=s
    · rw[if_pos (by rw[e]),e]
    · rw[if_neg (fun z=>e (KG z))]
noncomputable def jg(l:List Sd)(s:Sd):List Sd:=if s∈l then l else l ++ [s]
theorem ug{i:Nat}{q:Option Addr}{l:List Sd}{f:Sd->D}{s:Sd}{dk de:DE}{ρ:j9}(h:ρ[i]?=some (.ow q (.dct (l.map j0) (l.map f))))(hd:de ρ=some (f s))(hk:dk ρ=some (j0 s))(hl:l.length < sizeLine):
    Yw i dk de ρ=some (.nx (ρ.set i (.ow q (.dct ((jg l s).map j0) ((jg l s).map f))))):=by
  rw[Q2,h]
  simp only[hd,hk,Option.bind_some,KF,Gj,List.length_map,hl,if_true]
  unfold uH gf jg
  by_cases e:s∈l
  · rw[if_pos (gu.mpr e),if_pos (gu.mpr e),if_pos e,KH]
  · rw[if_neg (fun z=>e (gu.mp z)),if_neg (fun z=>e (gu.mp z)),if_neg e,List.map_append,List.map_append]
    rfl
theorem UH{l:List Sd}{s t:Sd}:t∈jg l s↔t∈l∨t=s:=by
  unfold jg
  split
  · constructor
    · exact .inl
    · rintro(h | rfl)
      · exact h
      · assumption
  · simp
theorem Vi(l:List Sd)(s:Sd):l.length<=(jg l s).length/\(jg l s).length<=l.length + 1:=by
  unfold jg
  split <;> simp
theorem AZ{l:List Sd}{s:Sd}(h:l.Nodup):(jg l s).Nodup:=by
  unfold jg
  split
  · exact h
  · rename_i e
    exact List.nodup_append.mpr ⟨h,by simp,fun a ha b hb z=>by simp at hb; rw[hb]at z; exact e (z▸ha)⟩
theorem yR{t:Sd}:∀{xs l:List Sd},t∈xs.foldl jg l↔t∈l∨t∈xs
  | [],l=>by simp
  | x :: xs,l=>by
    rw[List.foldl_cons,yR,UH,List.mem_cons]
    constructor
    · rintro((h | h) | h)
      · exact .inl h
      · exact .inr (.inl h)
      · exact .inr (.inr h)
    · rintro(h | h | h)
      · exact .inl (.inl h)
      · exact .inl (.inr h)
      · exact .inr h
theorem Yl:∀(xs l:List Sd),l.length<=(xs.foldl jg l).length/\(xs.foldl jg l).length<=l.length + xs.length
  | [],l=>by simp
  | x :: xs,l=>by
    have h1:=Yl xs (jg l x)
    have h2:=Vi l x
    rw[List.foldl_cons,List.length_cons]
    omega
theorem W9:∀{xs l:List Sd},l.Nodup->(xs.foldl jg l).Nodup
  | [],_,h=>h
  | x :: xs,l,h=>W9 (xs:=xs) (AZ h)
noncomputable def Jy(b:Bk)(s:Sd)(n:Nat):List (Int×Sd):=(List.range n).filterMap fun(c:Nat)=>(j_ b s (c:Int)).map fun t=>((c:Int),t)
noncomputable def j5(b:Bk)(s:Sd):List (Int×Sd):=Jy b s b.kinds.length
noncomputable def pD(p:Int×Sd):D:=.tup [.int p.1,j0 p.2]
theorem Jz(b:Bk)(s:Sd)(n:Nat):Jy b s (n + 1)=Jy b s n ++ (match j_ b s (n:Int)with | some t=>[((n:Int),t)] | none=>[]):=by
  unfold Jy
  rw[List.range_succ,List.filterMap_append]
  cases e:j_ b s (n:Int) <;> simp[e]
theorem uO(b:Bk)(s:Sd)(n:Nat):(Jy b s n).length<=n:=by
  unfold Jy
  exact Nat.le_trans (List.length_filterMap_le _ _) (by simp)
theorem uP{b:Bk}{s:Sd}{n:Nat}{p:Int×Sd}(h:p∈Jy b s n):∃c:Nat,c < n/\p.1=(c:Int)/\j_ b s (c:Int)=some p.2:=by
  unfold Jy at h
  obtain⟨c,hc,e⟩:=List.mem_filterMap.mp h
  obtain⟨t,e1,rfl⟩:=Option.map_eq_some_iff.mp e
  exact⟨c,List.mem_range.mp hc,rfl,e1⟩
theorem KI(C:Addr)(b:Bk)(s:Sd)(ok:OkB b)(X:Fit b s):YA C [jk C b,j0 s]=some (.lst ((j5 b s).map pD)):=by
  have k2:=ok.k2
  have z1:jF (b.kinds.length:Int)=true:=Jq (by omega) (by omega)
  obtain⟨ρ1,L1,y3,y4,rfl⟩:=Jn (g:=vN) (s:=y_ C) (items:=jJ 0 b.kinds.length) (fun i ρ=>∃y3 y4:Sl,ρ=[.bo (jk C b),.bo (j0 s),.ow none (.lst ((Jy b s i).map pD)),y3,y4]) (by
    rintro i d ρ hd ⟨y3,y4,rfl⟩
    obtain⟨hi,rfl⟩:=ZI hd
    have e1:=WR C b s (i:Int) ok X ⟨by omega,by omega⟩
    have hl:=uO b s i
    have z3:(Jy b s i).length < sizeLine:=jB (by omega)
    cases hs:j_ b s (i:Int)with
    | none=>
      rw[hs]at e1
      refine⟨_,_,rfl,?_,.cl (.int (i:Int)),.cl .non,rfl⟩
      rw[Jz,hs,List.append_nil]
      simp only[y_]
      simp[e1,yc]
    | some t=>
      rw[hs]at e1
      refine⟨_,_,rfl,?_,.cl (.int (i:Int)),.cl (j0 t),rfl⟩
      rw[Jz,hs,List.map_append]
      have en:zo (j0 t)=false:=rfl
      simp only[y_]
      simp[e1,yc,en,z3,pD]) (ρ:=[.bo (jk C b),.bo (j0 s),.ow none (.lst ((Jy b s 0).map pD)),.un,.un]) ⟨.un,.un,rfl⟩
  rw[show(jJ 0 b.kinds.length).length=b.kinds.length by simp[jJ]]at L1
  simp only[YA,ZF]
  have e0:(Jy b s 0).map pD=[]:=rfl
  rw[e0]at L1
  simp[z1,L1]
  rfl
end M
namespace M
open PySem L2 DS
noncomputable def JO(b:Bk)(ss:List Sd):List Sd:=(ss.flatMap fun s=>(j5 b s).map (·.2)).foldl jg []
noncomputable def j6(b:Bk)(s:Sd):Nat->List Sd
  | 0=>[s]
  | n + 1=>JO b (j6 b s n)
noncomputable def yb(b:Bk)(s:Sd):D:=.lst ((j5 b s).map pD)
noncomputable def zb(b:Bk)(ss:List Sd):D:=.dct (ss.map j0) (ss.map (yb b))
noncomputable def yS:Sd->D:=fun _=>.bl true
theorem KJ{b:Bk}{s t:Sd}{c:Nat}(X:Fit b s)(hc:c < b.kinds.length)(h:j_ b s (c:Int)=some t):Fit b t/\t.place=s.place + 1/\s.place < b.size:=by
  obtain⟨_,rfl,h3⟩:=Zc h
  exact⟨X.next ⟨by omega,by omega⟩,rfl,h3⟩
theorem yT{b:Bk}{ss:List Sd}{t:Sd}:t∈JO b ss↔∃s∈ss,∃p∈j5 b s,p.2=t:=by
  unfold JO
  rw[yR]
  simp[List.mem_flatMap]
theorem A_(b:Bk)(ss:List Sd):(JO b ss).Nodup:=W9 List.nodup_nil
theorem QA(b:Bk)(s:Sd):∀n,(j6 b s n).Nodup
  | 0=>by simp[j6]
  | n + 1=>A_ b _
theorem Y0{b:Bk}{s:Sd}(X:Fit b s):∀n,∀t∈j6 b s n,Fit b t/\t.place=s.place + n/\(0 < n->t.place<=b.size)
  | 0,t,h=>by
    simp[j6]at h
    subst h
    exact⟨X,by simp,fun z=>absurd z (by omega)⟩
  | n + 1,t,h=>by
    obtain⟨u,hu,p,hp,rfl⟩:=yT.mp h
    obtain⟨c,hc,e1,e2⟩:=uP hp
    obtain⟨f1,f2,f3⟩:=Y0 X n u hu
    obtain⟨g1,g2,g3⟩:=KJ f1 hc e2
    exact⟨g1,by rw[g2,f2]; omega,fun _=>by rw[g2]; omega⟩
theorem Gk{b:Bk}{s:Sd}(X:Fit b s){n:Nat}(h:b.size < s.place + n):j6 b s (n + 1)=[]:=by
  rw[List.eq_nil_iff_forall_not_mem]
  intro t ht
  have:=(Y0 X (n + 1) t ht).2
  have h1:=this.1
  have h2:=this.2 (by omega)
  omega
theorem E1(C:Addr)(b:Bk)(r0 r1 r2 r3 r4 r6:Sl)(ps:List (Int×Sd))(l:List Sd)(hl:(l ++ ps.map (·.2)).length < 10000000∨((ps.map (·.2)).foldl jg l).length < 10000000)(x7 x8:Sl):∃y7 y8:Sl,jw YB (JL C) (ps.map pD) [r0,r1,r2,r3,r4,.ow none (.dct (l.map j0) (l.map yS)),r6,x7,x8]=
    some (.nx [r0,r1,r2,r3,r4,.ow none (.dct (((ps.map (·.2)).foldl jg l).map j0) (((ps.map (·.2)).foldl jg l).map yS)),r6,y7,y8]):=by
  induction ps generalizing l x7 x8 with
  | nil=>exact⟨x7,x8,rfl⟩
  | cons p ps ih=>
    have hlen:l.length < sizeLine:=by
      have:=Yl ((p :: ps).map (·.2)) l
      have e:(10000000:Nat) < sizeLine:=by decide
      rcases hl with hl | hl
      · simp at hl; omega
      · omega
    have e1:JL C [r0,r1,r2,r3,r4,.ow none (.dct (l.map j0) (l.map yS)),r6,.cl (.int p.1),.cl (j0 p.2)]=some (.nx [r0,r1,r2,r3,r4,.ow none (.dct ((jg l p.2).map j0) ((jg l p.2).map yS)),r6,.cl (.int p.1),.cl (j0 p.2)]):=by
      unfold JL
      rw[ug (l:=l) (f:=yS) (s:=p.2) (q:=none) rfl rfl rfl hlen]
      rfl
    obtain⟨y7,y8,e2⟩:=ih (jg l p.2) (by
      have:=Vi l p.2
      rcases hl with hl | hl
      · left; simp at hl⊢; omega
      · right; exact hl) (.cl (.int p.1)) (.cl (j0 p.2))
    refine⟨y7,y8,?_⟩
    rw[List.map_cons,List.map_cons,List.foldl_cons,jw]
    have e0:YB (pD p) [r0,r1,r2,r3,r4,.ow none (.dct (l.map j0) (l.map yS)),r6,x7,x8]=some [r0,r1,r2,r3,r4,.ow none (.dct (l.map j0) (l.map yS)),r6,.cl (.int p.1),.cl (j0 p.2)]:=rfl
    rw[e0]
    show(JL C _).bind _=_
    rw[e1]
    exact e2
theorem KK(xs ys l:List Sd):(xs.foldl jg l).length<=((xs ++ ys).foldl jg l).length:=by
  rw[List.foldl_append]
  exact(Yl ys _).1
theorem E2(C:Addr)(b:Bk)(ok:OkB b)(r1 r2 r3:Sl)(all:List Sd)(hfit:∀t∈all,Fit b t)(hnd:all.Nodup)(hb:(JO b all).length < 10000000)(ha:all.length < 10000000):∀(ss pre:List Sd),pre ++ ss=all->∀x6 x7 x8:Sl,∃y6 y7 y8:Sl,
    jw YC (JM C) (ss.map j0) [.bo (jk C b),r1,r2,r3,.ow none (.dct (pre.map j0) (pre.map (yb b))),.ow none (.dct (((pre.flatMap fun s=>(j5 b s).map (·.2)).foldl jg []).map j0) (((pre.flatMap fun s=>(j5 b s).map (·.2)).foldl jg []).map yS)),x6,x7,x8]=
    some (.nx [.bo (jk C b),r1,r2,r3,.ow none (.dct (all.map j0) (all.map (yb b))),.ow none (.dct ((JO b all).map j0) ((JO b all).map yS)),y6,y7,y8]):=by
  intro ss
  induction ss with
  | nil=>
    intro pre e x6 x7 x8
    rw[List.append_nil]at e
    subst e
    exact⟨x6,x7,x8,rfl⟩
  | cons s ss ih=>
    intro pre e x6 x7 x8
    have hs:s∈all:=by rw[<-e]; simp
    have X:=hfit s hs
    have e1:=KI C b s ok X
    have hp:pre.length < sizeLine:=by
      have:pre.length<=all.length:=by rw[<-e]; simp
      have e:(10000000:Nat) < sizeLine:=by decide
      omega
    have hins:jg pre s=pre ++ [s]:=by
      unfold jg
      rw[if_neg]
      intro z
      rw[<-e,List.nodup_append]at hnd
      exact hnd.2.2 s z s List.mem_cons_self rfl
    have hf:(((j5 b s).map (·.2)).foldl jg ((pre.flatMap fun s=>(j5 b s).map (·.2)).foldl jg []))=(((pre ++ [s]).flatMap fun s=>(j5 b s).map (·.2)).foldl jg []):=by
      rw[List.flatMap_append,List.foldl_append]
      simp
    obtain⟨y7,y8,e2⟩:=E1 C b (.bo (jk C b)) r1 r2 r3 (.ow none (.dct ((pre ++ [s]).map j0) ((pre ++ [s]).map (yb b)))) (.cl (j0 s)) (j5 b s) ((pre.flatMap fun s=>(j5 b s).map (·.2)).foldl jg []) (by
      right
      rw[hf]
      refine Nat.lt_of_le_of_lt ?_ hb
      have e9:all=(pre ++ [s]) ++ ss:=by rw[<-e]; simp
      unfold JO
      rw[e9,List.flatMap_append (xs:=pre ++ [s]) (ys:=ss)]
      exact KK _ _ _) x7 x8
    rw[hf]at e2
    obtain⟨z6,z7,z8,e3⟩:=ih (pre ++ [s]) (by rw[<-e]; simp) (.cl (j0 s)) y7 y8
    refine⟨z6,z7,z8,?_⟩
    rw[List.map_cons,jw]
    show(JM C _).bind _=_
    have e4:JM C [.bo (jk C b),r1,r2,r3,.ow none (.dct (pre.map j0) (pre.map (yb b))),.ow none (.dct (((pre.flatMap fun s=>(j5 b s).map (·.2)).foldl jg []).map j0) (((pre.flatMap fun s=>(j5 b s).map (·.2)).foldl jg []).map yS)),.cl (j0 s),x7,x8]=
        some (.nx [.bo (jk C b),r1,r2,r3,.ow none (.dct ((pre ++ [s]).map j0) ((pre ++ [s]).map (yb b))),.ow none (.dct ((((pre ++ [s]).flatMap fun s=>(j5 b s).map (·.2)).foldl jg []).map j0) ((((pre ++ [s]).flatMap fun s=>(j5 b s).map (·.2)).foldl jg []).map yS)),.cl (j0 s),y7,y8]):=by
      unfold JM
      rw[vH,ug (l:=pre) (f:=yb b) (s:=s) (q:=none) rfl (by simp[e1,yb]) rfl hp,hins]
      have g:yg (.dct ((pre ++ [s]).map j0) ((pre ++ [s]).map (yb b))) (j0 s)=some (yb b s):=zx (by simp)
      simp only[Option.bind_some,kW,wN,EV,ES,List.set_cons_succ,List.set_cons_zero,List.getElem?_cons_succ,List.getElem?_cons_zero,OD.toD,g]
      rw[yb,qO,Option.bind_some]
      exact e2
    have e5:YC (j0 s) [.bo (jk C b),r1,r2,r3,.ow none (.dct (pre.map j0) (pre.map (yb b))),.ow none (.dct (((pre.flatMap fun s=>(j5 b s).map (·.2)).foldl jg []).map j0) (((pre.flatMap fun s=>(j5 b s).map (·.2)).foldl jg []).map yS)),x6,x7,x8]=some [.bo (jk C b),r1,r2,r3,.ow none (.dct (pre.map j0) (pre.map (yb b))),.ow none (.dct (((pre.flatMap fun s=>(j5 b s).map (·.2)).foldl jg []).map j0) (((pre.flatMap fun s=>(j5 b s).map (·.2)).foldl jg []).map yS)),.cl (j0 s),x7,x8]:=rfl
    simp only[List.set_cons_succ,List.set_cons_zero]
    rw[e4]
    exact e3
end M
namespace M
open PySem L2 DS
structure Lim (b:Bk) (s:Sd):Prop where
  fit:Fit b s
  p0:0<=s.place
  p1:s.place<=b.size
  tot:∀n,((List.range n).flatMap (j6 b s)).length < 10000000
theorem Lim.len{b:Bk}{s:Sd}(L:Lim b s)(n:Nat):(j6 b s n).length < 10000000:=by
  have:=L.tot (n + 1)
  rw[List.range_succ,List.flatMap_append]at this
  simp at this
  omega
noncomputable def yU(b:Bk)(s:Sd)(n:Nat):List D:=(List.range n).map fun j=>zb b (j6 b s j)
theorem GL(b:Bk)(s:Sd)(n:Nat):yU b s (n + 1)=yU b s n ++ [zb b (j6 b s n)]:=by
  unfold yU
  rw[List.range_succ,List.map_append]
  rfl
theorem UI(b:Bk)(s:Sd)(n:Nat):(yU b s n).length=n:=by simp[yU]
theorem E3(C:Addr)(b:Bk)(ok:OkB b)(s:Sd)(L:Lim b s)(n:Nat)(hn:n<=1000)(x4 x5 x6 x7 x8:Sl):∃y4 y5 y6 y7 y8:Sl,yG C [.bo (jk C b),.cl (j0 s),.ow none (.lst (yU b s n)),.cl (.lst ((j6 b s n).map j0)),x4,x5,x6,x7,x8]=
    some (.nx [.bo (jk C b),.cl (j0 s),.ow none (.lst (yU b s (n + 1))),.cl (.lst ((j6 b s (n + 1)).map j0)),y4,y5,y6,y7,y8]):=by
  obtain⟨y6,y7,y8,e⟩:=E2 C b ok (.cl (j0 s)) (.ow none (.lst (yU b s n))) (.cl (.lst ((j6 b s n).map j0))) (j6 b s n) (fun t ht=>(Y0 L.fit n t ht).1) (QA b s n) (L.len (n + 1)) (L.len n) (j6 b s n) [] rfl x6 x7 x8
  have z:(yU b s n).length < sizeLine:=by rw[UI]; exact jB (by omega)
  simp only[List.map_nil,List.flatMap_nil,List.foldl_nil]at e
  refine⟨.cl (zb b (j6 b s n)),.ow none (.dct ((JO b (j6 b s n)).map j0) ((JO b (j6 b s n)).map yS)),y6,y7,y8,?_⟩
  rw[GL]
  simp only[yG]
  simp[e,z,zt,zb,j6]
noncomputable def CI(ρ:j9):Nat:=match ρ[2]? with
  | some (Sl.ow _ (OD.lst l))=>100 - l.length
  | _=>0
theorem QB(C:Addr)(b:Bk)(ok:OkB b)(s:Sd)(L:Lim b s):∃n,zR C [jk C b,j0 s]=some (.lst (yU b s n))/\n<=32/\j6 b s n=[]:=by
  have s2:=ok.s2
  obtain⟨ρ1,W1,⟨n,hn,y4,y5,y6,y7,y8,rfl⟩,hq⟩:=gn (dt:=ZW C) (s:=yG C)
    (fun ρ=>∃n,n<=32/\∃y4 y5 y6 y7 y8:Sl,ρ=[.bo (jk C b),.cl (j0 s),.ow none (.lst (yU b s n)),.cl (.lst ((j6 b s n).map j0)),y4,y5,y6,y7,y8])
    (fun ρ=>CI ρ) (by
      rintro ρ ⟨n,hn,y4,y5,y6,y7,y8,rfl⟩
      by_cases h:j6 b s n=[]
      · left
        rw[h]
        rfl
      · right
        have hn':n < 32:=by
          have h1:=L.p0
          by_cases q:n < 32
          · exact q
          · have e:n=31 + 1:=by omega
            subst e
            exact absurd (Gk L.fit (by omega)) h
        obtain⟨z4,z5,z6,z7,z8,e⟩:=E3 C b ok s L n (by omega) y4 y5 y6 y7 y8
        refine⟨?_,_,e,⟨n + 1,by omega,z4,z5,z6,z7,z8,rfl⟩,?_⟩
        · cases hl:j6 b s n with
          | nil=>exact absurd hl h
          | cons a l=>rfl
        · show 100 - (yU b s (n + 1)).length < 100 - (yU b s n).length
          rw[UI,UI]
          omega) (n:=20000) (ρ:=[.bo (jk C b),.cl (j0 s),.ow none (.lst (yU b s 0)),.cl (.lst ((j6 b s 0).map j0)),.un,.un,.un,.un,.un]) ⟨0,by omega,.un,.un,.un,.un,.un,rfl⟩ (by show 100 - (yU b s 0).length < 20000; omega)
  have e:j6 b s n=[]:=by
    cases hl:j6 b s n with
    | nil=>rfl
    | cons a l=>rw[hl]at hq; cases hq
  refine⟨n,?_,hn,e⟩
  simp only[zR,zQ]
  have e0:yU b s 0=[]:=rfl
  have e1:(j6 b s 0).map j0=[j0 s]:=rfl
  rw[e0,e1]at W1
  simp[W1]
noncomputable def aI(b:Bk)(t:Sd):D:=.tup [j0 t,yb b t]
theorem GM(b:Bk):∀l:List Sd,List.zipWith (fun k v=>D.tup [k,v]) (l.map j0) (l.map (yb b))=l.map (aI b)
  | []=>rfl
  | s :: l=>by rw[List.map_cons,List.map_cons,List.zipWith_cons_cons,GM b l]; rfl
end M
namespace M
open PySem L2 DS
theorem KL:∀(N:Nat) (l:List Nat),l.Nodup->(∀x∈l,x < N)->l.length<=N
  | 0,l,_,h=>by
    cases l with
    | nil=>simp
    | cons x l=>exact absurd (h x List.mem_cons_self) (Nat.not_lt_zero _)
  | N + 1,l,nd,h=>by
    by_cases e:N∈l
    · have h1:=KL N (l.erase N) (nd.erase N) fun x hx=>by
        have h2:=(nd.mem_erase_iff).mp hx
        have h3:=h x h2.2
        have h4:=h2.1
        omega
      rw[List.length_erase_of_mem e]at h1
      omega
    · have h1:=KL N l nd fun x hx=>by
        have h3:=h x hx
        by_cases q:x=N
        · rw[q]at hx; exact absurd hx e
        · omega
      omega
noncomputable def ZJ(B:Nat):List Nat->Nat
  | []=>0
  | x :: l=>x + B * ZJ B l
theorem KM{B:Nat}(hB:0 < B):∀{l:List Nat},(∀x∈l,x < B)->ZJ B l < B ^ l.length
  | [],_=>by simp[ZJ]
  | x :: l,h=>by
    have h1:=h x List.mem_cons_self
    have h2:=KM hB fun y hy=>h y (List.mem_cons_of_mem _ hy)
    rw[ZJ,List.length_cons,Nat.pow_succ,Nat.mul_comm _ B]
    have h3:B * (ZJ B l + 1)<=B * B ^ l.length:=Nat.mul_le_mul_left B h2
    rw[Nat.mul_add]at h3
    omega
theorem Gn{B:Nat}(hB:0 < B):∀{l m:List Nat},(∀x∈l,x < B)->(∀x∈m,x < B)->l.length=m.length->ZJ B l=ZJ B m->l=m
  | [],[],_,_,_,_=>rfl
  | [],_ :: _,_,_,h,_=>by simp at h
  | _ :: _,[],_,_,h,_=>by simp at h
  | x :: l,y :: m,hl,hm,h,e=>by
    rw[ZJ,ZJ]at e
    have h1:=hl x List.mem_cons_self
    have h2:=hm y List.mem_cons_self
    have ex:x=y:=by
      have e1:(x + B * ZJ B l) % B=x:=by rw[Nat.add_mul_mod_self_left,Nat.mod_eq_of_lt h1]
      have e2:(y + B * ZJ B m) % B=y:=by rw[Nat.add_mul_mod_self_left,Nat.mod_eq_of_lt h2]
      rw[<-e1,<-e2,e]
    subst ex
    have el:ZJ B l=ZJ B m:=Nat.eq_of_mul_eq_mul_left hB (Nat.add_left_cancel e)
    rw[Gn hB (fun y hy=>hl y (List.mem_cons_of_mem _ hy)) (fun y hy=>hm y (List.mem_cons_of_mem _ hy)) (by simpa using h) el]
structure Sm (b:Bk) (s:Sd):Prop where
  fit:Fit b s
  l0:0<=s.len
  l1:s.len<=4
  b0:-1<=s.before
  b1:s.before < 4
  ws:∀x∈s.waits,0<=x/\x<=3
noncomputable def aJ(s:Sd):Nat:=ZJ 4 (s.waits.map Int.toNat)
noncomputable def aK(s:Sd):Nat:=ZJ 2 (s.met.map fun x=>if x=true then 1 else 0)
noncomputable def Wa(s:Sd):Nat:=((((s.kind + 1).toNat * 5 + s.len.toNat) * 5 + (s.before + 1).toNat) * 256 + aJ s) * 8 + aK s
theorem Sm.w{b:Bk}{s:Sd}(S:Sm b s):∀x∈s.waits.map Int.toNat,x < 4:=fun x hx=>by
  obtain⟨y,hy,rfl⟩:=List.mem_map.mp hx
  have:=S.ws y hy
  omega
theorem Xc(s:Sd):∀x∈s.met.map fun x=>if x=true then 1 else 0,x < 2:=fun x hx=>by
  obtain⟨y,hy,rfl⟩:=List.mem_map.mp hx
  cases y <;> decide
theorem KN{b:Bk}(ok:OkB b){s:Sd}(S:Sm b s):aJ s < 256:=by
  have h:=KM (B:=4) (by decide) S.w
  rw[List.length_map,S.fit.w]at h
  have h1:4 ^ b.kinds.length<=4 ^ 4:=Nat.pow_le_pow_right (by decide) ok.k2
  exact Nat.lt_of_lt_of_le h h1
theorem KO{b:Bk}(ok:OkB b){s:Sd}(S:Sm b s):aK s < 8:=by
  have h:=KM (B:=2) (by decide) (Xc s)
  rw[List.length_map,S.fit.m]at h
  have h1:2 ^ b.dues.length<=2 ^ 3:=Nat.pow_le_pow_right (by decide) ok.d2
  exact Nat.lt_of_lt_of_le h h1
theorem CJ{b:Bk}(ok:OkB b){s:Sd}(S:Sm b s):Wa s < 256000:=by
  have h1:=KN ok S
  have h2:=KO ok S
  have h3:=S.fit.c0
  have h4:=S.fit.c1
  have h5:=ok.k2
  have h6:=S.l0
  have h7:=S.l1
  have h8:=S.b0
  have h9:=S.b1
  unfold Wa
  omega
theorem b7{b:Bk}(ok:OkB b){s t:Sd}(S:Sm b s)(T:Sm b t)(hp:s.place=t.place)(e:Wa s=Wa t):s=t:=by
  have s1:=KN ok S
  have s2:=KO ok S
  have s3:=S.fit.c0
  have s4:=S.fit.c1
  have s6:=S.l0
  have s7:=S.l1
  have s8:=S.b0
  have s9:=S.b1
  have t1:=KN ok T
  have t2:=KO ok T
  have t3:=T.fit.c0
  have t4:=T.fit.c1
  have t6:=T.l0
  have t7:=T.l1
  have t8:=T.b0
  have t9:=T.b1
  unfold Wa at e
  have em:aK s=aK t:=by omega
  have ew:aJ s=aJ t:=by omega
  have eb:s.before=t.before:=by omega
  have el:s.len=t.len:=by omega
  have ek:s.kind=t.kind:=by omega
  have w1:=Gn (by decide) S.w T.w (by rw[List.length_map,List.length_map,S.fit.w,T.fit.w]) ew
  have m1:=Gn (by decide) (Xc s) (Xc t) (by rw[List.length_map,List.length_map,S.fit.m,T.fit.m]) em
  have m2:s.met=t.met:=Vh (fun a b e=>by cases a <;> cases b <;> first | rfl | (simp at e)) m1
  have w2:s.waits=t.waits:=by
    have key:∀l m:List Int,(∀x∈l,0<=x/\x<=3)->(∀x∈m,0<=x/\x<=3)->l.map Int.toNat=m.map Int.toNat->l=m:=by
      intro l
      induction l with
      | nil=>intro m _ _ h; cases m with | nil=>rfl | cons _ _=>simp at h
      | cons x l ih=>
        intro m hl hm h
        cases m with
        | nil=>simp at h
        | cons y m=>
          rw[List.map_cons,List.map_cons]at h
          injection h with h1 h2
          have a1:=hl x List.mem_cons_self
          have a2:=hm y List.mem_cons_self
          rw[ih m (fun z hz=>hl z (List.mem_cons_of_mem _ hz)) (fun z hz=>hm z (List.mem_cons_of_mem _ hz)) h2,show x=y by omega]
    exact key _ _ S.ws T.ws w1
  obtain⟨a1,a2,a3,a4,a5,a6⟩:=s
  obtain⟨c1,c2,c3,c4,c5,c6⟩:=t
  simp only at hp ek el eb w2 m2
  subst hp ek el eb w2 m2
  rfl
theorem Sm.empty(b:Bk):Sm b (jv b):=⟨Fit.empty b,by show(0:Int)<=0; decide,by show(0:Int)<=4; decide,by show(-1:Int)<=-1; decide,by show(-1:Int) < 4; decide,fun x hx=>by
  simp[jv]at hx
  omega⟩
theorem Sm.stand{b:Bk}(ok:OkB b){s:Sd}(S:Sm b s){k:Int}(h:yQ b k)(hb:jU b s k=none):Sm b (Jc b s k):=by
  have hk:=S.fit.c0
  have hk1:=S.fit.c1
  have k2:=ok.k2
  have nl:ym b s k=false:=by
    have:=U3 b s k
    rw[hb]at this
    have this:(Yn b s k || (Ve b s k || (YZ b s k || vv b s k)))=false:=this.symm
    simp only[Ve,Bool.or_eq_false_iff]at this
    exact this.2.1.1
  have f1:=KA h ok
  unfold fK at f1
  simp only[Bool.and_eq_true,decide_eq_true_eq]at f1
  refine⟨S.fit.next h,?_,?_,hk,by show s.kind < 4; omega,?_⟩
  · show 0<=JP s k
    unfold JP
    have:=S.l0
    split <;> omega
  · show JP s k<=4
    unfold JP
    split
    · rename_i e
      unfold ym at nl
      rw[decide_eq_true e,Bool.true_and,decide_eq_false_iff_not]at nl
      omega
    · omega
  · intro x hx
    have hx:x∈Jp b s k:=hx
    unfold Jp at hx
    have base:∀y∈s.waits.map (fun x=>mx (x - 1) 0),0<=y/\y<=3:=fun y hy=>by
      obtain⟨z,hz,rfl⟩:=List.mem_map.mp hy
      have:=S.ws z hz
      unfold mx
      split <;> omega
    rcases Vg hx with hx | hx
    · by_cases e:s.kind=-1
      · rw[if_pos e]at hx
        exact base x hx
      · rw[if_neg e]at hx
        rcases Vg hx with hx | hx
        · exact base x hx
        · have f2:=KA (k:=s.kind) ⟨by omega,hk1⟩ ok
          unfold fK at f2
          simp only[Bool.and_eq_true,decide_eq_true_eq]at f2
          rw[hx]
          unfold mx
          split <;> omega
    · omega
theorem Sm.walk{b:Bk}(ok:OkB b):∀{row:List Int} {s s':Sd},Sm b s->(∀n∈row,yQ b n)->jE b s row=(s',none)->Sm b s'
  | [],s,s',S,_,h=>by cases h; exact S
  | x :: row,s,s',S,hr,h=>by
    rw[jE]at h
    cases hb:jU b s x with
    | some w=>rw[hb]at h; cases h
    | none=>
      rw[hb]at h
      exact Sm.walk ok (S.stand ok (hr x List.mem_cons_self) hb) (fun n hn=>hr n (List.mem_cons_of_mem _ hn)) h
theorem KP{b:Bk}(ok:OkB b){s:Sd}(S:Sm b s):∀n,∀t∈j6 b s n,Sm b t
  | 0,t,h=>by
    simp[j6]at h
    subst h
    exact S
  | n + 1,t,h=>by
    obtain⟨u,hu,p,hp,rfl⟩:=yT.mp h
    obtain⟨c,hc,e1,e2⟩:=uP hp
    obtain⟨h1,h2,h3⟩:=Zc e2
    rw[h2]
    exact(KP ok S n u hu).stand ok ⟨by omega,by omega⟩ h1
theorem b8{b:Bk}(ok:OkB b){s:Sd}(S:Sm b s)(n:Nat):(j6 b s n).length<=256000:=by
  have h:=KL 256000 ((j6 b s n).map Wa) (by
    have nd:=QA b s n
    have hs:=KP ok S n
    have hp:∀t∈j6 b s n,t.place=s.place + n:=fun t ht=>(Y0 S.fit n t ht).2.1
    revert nd hs hp
    generalize j6 b s n=l
    intro nd hs hp
    induction l with
    | nil=>simp
    | cons x l ih=>
      rw[List.nodup_cons]at nd
      rw[List.map_cons,List.nodup_cons]
      refine⟨fun z=>?_,ih nd.2 (fun t ht=>hs t (List.mem_cons_of_mem _ ht)) (fun t ht=>hp t (List.mem_cons_of_mem _ ht))⟩
      obtain⟨y,hy,e⟩:=List.mem_map.mp z
      have:=b7 ok (hs y (List.mem_cons_of_mem _ hy)) (hs x List.mem_cons_self) (by rw[hp y (List.mem_cons_of_mem _ hy),hp x List.mem_cons_self]) e
      subst this
      exact nd.1 hy) (fun x hx=>by
      obtain⟨y,hy,rfl⟩:=List.mem_map.mp hx
      exact CJ ok (KP ok S n y hy))
  rw[List.length_map]at h
  exact h
theorem aL{b:Bk}(ok:OkB b){s:Sd}(S:Sm b s)(p0:0<=s.place):∀n,((List.range n).flatMap (j6 b s)).length<=256000 * (min n 32)
  | 0=>by simp
  | n + 1=>by
    have ih:=aL ok S p0 n
    have s2:=ok.s2
    rw[List.range_succ,List.flatMap_append,List.length_append]
    simp only[List.flatMap_cons,List.flatMap_nil,List.append_nil]
    by_cases hn:n + 1<=32
    · have h1:=b8 ok S n
      omega
    · obtain⟨m,rfl⟩:∃m,n=m + 1:=⟨n - 1,by omega⟩
      rw[Gk S.fit (n:=m) (by omega)]
      simp only[List.length_nil]
      omega
theorem KQ{b:Bk}(ok:OkB b){row:List Int}(h:Za b row){s:Sd}(hw:jE b (jv b) row=(s,none)):Lim b s:=by
  have R:=StOf.all h.1 hw
  have pl:=R.pl
  have h2:=h.2
  have S:=Sm.walk ok (Sm.empty b) h.1 hw
  refine⟨R.fo.toFit,by omega,by omega,fun n=>?_⟩
  have h1:=aL ok S (by omega) n
  omega
end M
namespace M
open PySem L2 DS
noncomputable def jO(bt:Int)(s:Sd):Bool:=decide ((s.place + 1) % bt=0)
noncomputable def uQ(b:Bk)(bt:Int):Nat->Sd->Bool
  | 0,_=>true
  | f + 1,s=>if jO bt s=true then decide ((j5 b s).length > 0) && (j5 b s).all (fun p=>uQ b bt f p.2)else(j5 b s).any fun p=>uQ b bt f p.2
noncomputable def jr(b:Bk)(bt:Int)(s:Sd):Bool:=uQ b bt (b.size - s.place).toNat s
noncomputable def hD(b:Bk)(bt:Int)(s:Sd):D:=.bl (jr b bt s)
theorem KR{b:Bk}{bt:Int}{s:Sd}(h:s.place=b.size):jr b bt s=true:=by
  unfold jr
  rw[h,Int.sub_self]
  rfl
theorem gw{α:Type}{f g:α->Bool}:∀{l:List α},(∀x∈l,f x=g x)->l.all f=l.all g/\l.any f=l.any g
  | [],_=>⟨rfl,rfl⟩
  | x :: l,h=>by
    obtain⟨h1,h2⟩:=gw fun y hy=>h y (List.mem_cons_of_mem x hy)
    rw[List.all_cons,List.all_cons,List.any_cons,List.any_cons,h1,h2,h x List.mem_cons_self]
    exact⟨rfl,rfl⟩
theorem uh{b:Bk}{bt:Int}{s:Sd}(X:Fit b s)(h:s.place < b.size):jr b bt s=if jO bt s=true then decide ((j5 b s).length > 0) && (j5 b s).all (fun p=>jr b bt p.2)else(j5 b s).any fun p=>jr b bt p.2:=by
  have e:(b.size - s.place).toNat=(b.size - (s.place + 1)).toNat + 1:=by omega
  unfold jr
  rw[e,uQ]
  obtain⟨h1,h2⟩:=gw (f:=fun p:Int×Sd=>uQ b bt (b.size - (s.place + 1)).toNat p.2) (g:=fun p:Int×Sd=>uQ b bt (b.size - p.2.place).toNat p.2) (l:=j5 b s) fun p hp=>by
    obtain⟨c,hc,e1,e2⟩:=uP hp
    rw[(KJ X hc e2).2.1]
  rw[h1,h2]
theorem GN{b:Bk}{s:Sd}(h:b.size<=s.place):∀n,Jy b s n=[]
  | 0=>rfl
  | n + 1=>by
    rw[Jz,GN h n]
    unfold j_
    rw[if_pos h]
    rfl
theorem b9(b:Bk)(bt:Int)(l:List (Int×Sd)):v5 (l.map fun p=>hD b bt p.2)=some (l.map fun p=>jr b bt p.2):=yP (fun p:Int×Sd=>jr b bt p.2) l
theorem KS(C:Addr)(bt:Int)(h:0 < bt)(s:Sd):Jo C [.int bt,j0 s]=some (.bl (jO bt s)):=by
  simp only[Jo,Y6]
  simp[jO,jL,h]
theorem CK(C:Addr)(b:Bk)(ok:OkB b)(bt:Int)(hbt:0 < bt)(r2 x4 x7:Sl)(t:Sd)(X:Fit b t)(hp:t.place<=b.size)(l:List Sd)(hl:l.length < 10000000)(hs:∀p∈j5 b t,p.2∈l):∃y7:Sl,
    y2 C [.bo (jk C b),.bo (.int bt),r2,.ow none (.dct (l.map j0) (l.map (hD b bt))),x4,.cl (j0 t),.cl (yb b t),x7]=some (.nx [.bo (jk C b),.bo (.int bt),r2,.ow none (.dct ((jg l t).map j0) ((jg l t).map (hD b bt))),x4,.cl (j0 t),.cl (yb b t),y7]):=by
  have hl':l.length < sizeLine:=by
    have e:(10000000:Nat) < sizeLine:=by decide
    omega
  have ef:J2 C "size" (jk C b)=some (.int b.size):=by simp[J2,jk]
  have e1:Ja (gT 2 (gC (gN 0) (gC (gN 1) gZ))) jZ (d2 yg (dV 2) (dV 1)) ((j5 b t).map pD) [.un,.un,.ow none (.dct (l.map j0) (l.map (hD b bt)))]=some ((j5 b t).map fun p=>hD b bt p.2):=
    Jv pD _ fun p hq=>⟨[.cl (.int p.1),.cl (j0 p.2),.ow none (.dct (l.map j0) (l.map (hD b bt)))],rfl,rfl,by
      have:=zx (f:=hD b bt) (hs p hq)
      simp[this]⟩
  have e2:(j5 b t).length<=sizeLine:=Nat.le_trans (uO b t _) (Nat.le_of_lt (jB (by have:=ok.k2; omega)))
  have e3:=KS C bt hbt t
  have e4:=b9 b bt (j5 b t)
  refine⟨.cl (.lst ((j5 b t).map fun p=>hD b bt p.2)),?_⟩
  have put:=fun(de:DE) (hd:de [.bo (jk C b),.bo (.int bt),r2,.ow none (.dct (l.map j0) (l.map (hD b bt))),x4,.cl (j0 t),.cl (yb b t),.cl (.lst ((j5 b t).map fun p=>hD b bt p.2))]=some (hD b bt t))=>ug (i:=3) (dk:=dC 5) (de:=de) (l:=l) (f:=hD b bt) (s:=t) (q:=none) (ρ:=[.bo (jk C b),.bo (.int bt),r2,.ow none (.dct (l.map j0) (l.map (hD b bt))),x4,.cl (j0 t),.cl (yb b t),.cl (.lst ((j5 b t).map fun p=>hD b bt p.2))]) rfl hd rfl hl'
  have e5:jf 7 (dL (Yc 2 [3] (J1 (dP 6)) (gT 2 (gC (gN 0) (gC (gN 1) gZ))) jZ (d2 yg (dV 2) (dV 1)))) [.bo (jk C b),.bo (.int bt),r2,.ow none (.dct (l.map j0) (l.map (hD b bt))),x4,.cl (j0 t),.cl (yb b t),x7]=some (.nx [.bo (jk C b),.bo (.int bt),r2,.ow none (.dct (l.map j0) (l.map (hD b bt))),x4,.cl (j0 t),.cl (yb b t),.cl (.lst ((j5 b t).map fun p=>hD b bt p.2))]):=by
    simp only[yb]
    simp[e1,e2]
  unfold y2
  rw[vH,e5,Option.bind_some]
  show jo _ _ _ _=_
  rw[VT]
  by_cases h:t.place=b.size
  · have e0:jt (d2 jR (d2 jc (dV 5) (dK (.int 0))) (d1 (J2 C "size") (dV 0))) [.bo (jk C b),.bo (.int bt),r2,.ow none (.dct (l.map j0) (l.map (hD b bt))),x4,.cl (j0 t),.cl (yb b t),.cl (.lst ((j5 b t).map fun p=>hD b bt p.2))]=some true:=by
      simp[ef,h]
    rw[e0]
    simp only[Option.bind_some,if_true]
    rw[put _ (by simp[hD,KR h])]
    rfl
  · have e0:jt (d2 jR (d2 jc (dV 5) (dK (.int 0))) (d1 (J2 C "size") (dV 0))) [.bo (jk C b),.bo (.int bt),r2,.ow none (.dct (l.map j0) (l.map (hD b bt))),x4,.cl (j0 t),.cl (yb b t),.cl (.lst ((j5 b t).map fun p=>hD b bt p.2))]=some false:=by
      simp[ef,h]
    have hh:=uh (bt:=bt) X (by omega:t.place < b.size)
    rw[e0]
    simp only[Option.bind_some,Bool.false_eq_true,if_false]
    rw[VT]
    have e6:J9 (j8 (Jo C) [(false,(dV 1)),(false,(dV 5))]) [.bo (jk C b),.bo (.int bt),r2,.ow none (.dct (l.map j0) (l.map (hD b bt))),x4,.cl (j0 t),.cl (yb b t),.cl (.lst ((j5 b t).map fun p=>hD b bt p.2))]=some (jO bt t):=by
      simp[e3]
    rw[e6,Option.bind_some]
    by_cases hs:jO bt t=true
    · rw[if_pos hs]
      rw[if_pos hs]at hh
      rw[put _ (by
        have q1:zE [.lst ((j5 b t).map fun p=>hD b bt p.2)]=some (.bl ((j5 b t).all fun p=>jr b bt p.2)):=by
          show(v5 _).bind _=_
          rw[e4]
          simp[List.all_map]
        unfold hD at q1⊢
        rw[hh]
        by_cases hn:(j5 b t).length > 0
        · have hn':0 < ((j5 b t).length:Int):=by omega
          simp[-zE,q1,hn,hn',zW]
        · have hn':¬0 < ((j5 b t).length:Int):=by omega
          simp[-zE,q1,hn,hn',zW])]
      rfl
    · rw[if_neg hs]
      rw[if_neg hs]at hh
      rw[put _ (by
        have q1:g_ [.lst ((j5 b t).map fun p=>hD b bt p.2)]=some (.bl ((j5 b t).any fun p=>jr b bt p.2)):=by
          show(v5 _).bind _=_
          rw[e4]
          simp[List.any_map]
        unfold hD at q1⊢
        rw[hh]
        simp[-g_,q1])]
      rfl
end M
namespace M
open PySem L2 DS
theorem QC(C:Addr)(b:Bk)(ok:OkB b)(bt:Int)(hbt:0 < bt)(r2 x4:Sl)(up:List Sd):∀(ts l:List Sd),(∀t∈ts,Fit b t/\t.place<=b.size/\∀p∈j5 b t,p.2∈up)->(∀t∈up,t∈l)->l.length + ts.length < 10000000->∀x5 x6 x7:Sl,∃y5 y6 y7:Sl,
    jw YX (y2 C) (ts.map (aI b)) [.bo (jk C b),.bo (.int bt),r2,.ow none (.dct (l.map j0) (l.map (hD b bt))),x4,x5,x6,x7]=
    some (.nx [.bo (jk C b),.bo (.int bt),r2,.ow none (.dct ((ts.foldl jg l).map j0) ((ts.foldl jg l).map (hD b bt))),x4,y5,y6,y7])
  | [],l,_,_,_,x5,x6,x7=>⟨x5,x6,x7,rfl⟩
  | t :: ts,l,h,hu,hl,x5,x6,x7=>by
    obtain⟨f1,f2,f3⟩:=h t List.mem_cons_self
    have hlen:=Vi l t
    rw[List.length_cons]at hl
    obtain⟨y7,e1⟩:=CK C b ok bt hbt r2 x4 x7 t f1 f2 l (by omega) fun p hp=>hu _ (f3 p hp)
    obtain⟨z5,z6,z7,e2⟩:=QC C b ok bt hbt r2 x4 up ts (jg l t) (fun u hu=>h u (List.mem_cons_of_mem _ hu)) (fun u hv=>UH.mpr (.inl (hu u hv))) (by omega) (.cl (j0 t)) (.cl (yb b t)) y7
    refine⟨z5,z6,z7,?_⟩
    rw[List.map_cons,List.foldl_cons,jw]
    have e0:YX (aI b t) [.bo (jk C b),.bo (.int bt),r2,.ow none (.dct (l.map j0) (l.map (hD b bt))),x4,x5,x6,x7]=some [.bo (jk C b),.bo (.int bt),r2,.ow none (.dct (l.map j0) (l.map (hD b bt))),x4,.cl (j0 t),.cl (yb b t),x7]:=rfl
    rw[e0]
    show(y2 C _).bind _=_
    rw[e1]
    exact e2
theorem QD(C:Addr)(b:Bk)(ok:OkB b)(bt:Int)(hbt:0 < bt)(s:Sd)(L:Lim b s)(r2:Sl):∀(m:Nat) (l:List Sd),(∀t∈j6 b s m,t∈l)->l.length + ((List.range m).flatMap (j6 b s)).length < 10000000->∀x4 x5 x6 x7:Sl,∃(l':List Sd) (y4 y5 y6 y7:Sl),
    jw YY (ya C) (yU b s m).reverse [.bo (jk C b),.bo (.int bt),r2,.ow none (.dct (l.map j0) (l.map (hD b bt))),x4,x5,x6,x7]=
    some (.nx [.bo (jk C b),.bo (.int bt),r2,.ow none (.dct (l'.map j0) (l'.map (hD b bt))),y4,y5,y6,y7])/\(∀t∈l,t∈l')/\∀j,j<=m->∀t∈j6 b s j,t∈l'
  | 0,l,h,_,x4,x5,x6,x7=>⟨l,x4,x5,x6,x7,rfl,fun t ht=>ht,fun j hj t ht=>by
    have e:j=0:=by omega
    subst e
    exact h t ht⟩
  | m + 1,l,h,hl,x4,x5,x6,x7=>by
    rw[List.range_succ,List.flatMap_append,List.length_append]at hl
    simp only[List.flatMap_cons,List.flatMap_nil,List.append_nil]at hl
    obtain⟨y5,y6,y7,e1⟩:=QC C b ok bt hbt r2 (.cl (zb b (j6 b s m))) (j6 b s (m + 1)) (j6 b s m) l (fun t ht=>⟨(Y0 L.fit m t ht).1,by
      by_cases q:0 < m
      · exact(Y0 L.fit m t ht).2.2 q
      · have:=(Y0 L.fit m t ht).2.1
        have:=L.p1
        omega,fun p hp=>yT.mpr ⟨t,ht,p,hp,rfl⟩⟩) h (by omega) x5 x6 x7
    have hf:=Yl (j6 b s m) l
    obtain⟨l',z4,z5,z6,z7,e2,e3,e6⟩:=QD C b ok bt hbt s L r2 m ((j6 b s m).foldl jg l) (fun t ht=>yR.mpr (.inr ht)) (by omega) (.cl (zb b (j6 b s m))) y5 y6 y7
    refine⟨l',z4,z5,z6,z7,?_,fun t ht=>e3 t (yR.mpr (.inl ht)),fun j hj t ht=>?_⟩
    rotate_left
    · by_cases q:j<=m
      · exact e6 j q t ht
      · have e:j=m + 1:=by omega
        subst e
        exact e3 t (yR.mpr (.inl (h t ht)))
    rw[GL,List.reverse_append,List.reverse_singleton,List.singleton_append,jw]
    have e0:YY (zb b (j6 b s m)) [.bo (jk C b),.bo (.int bt),r2,.ow none (.dct (l.map j0) (l.map (hD b bt))),x4,x5,x6,x7]=some [.bo (jk C b),.bo (.int bt),r2,.ow none (.dct (l.map j0) (l.map (hD b bt))),.cl (zb b (j6 b s m)),x5,x6,x7]:=rfl
    have e4:ya C [.bo (jk C b),.bo (.int bt),r2,.ow none (.dct (l.map j0) (l.map (hD b bt))),.cl (zb b (j6 b s m)),x5,x6,x7]=some (.nx [.bo (jk C b),.bo (.int bt),r2,.ow none (.dct ((((j6 b s m)).foldl jg l).map j0) ((((j6 b s m)).foldl jg l).map (hD b bt))),.cl (zb b (j6 b s m)),y5,y6,y7]):=by
      unfold ya
      rw[kW]
      have e5:VY (dP 4) [.bo (jk C b),.bo (.int bt),r2,.ow none (.dct (l.map j0) (l.map (hD b bt))),.cl (zb b (j6 b s m)),x5,x6,x7]=some ((j6 b s m).map (aI b)):=by
        rw[xQ]
        show vI (zb b (j6 b s m))=_
        rw[zb,Q3,GM]
      rw[e5,Option.bind_some]
      exact e1
    rw[e0]
    show(ya C _).bind _=_
    rw[e4]
    exact e2
theorem KT(C:Addr)(b:Bk)(ok:OkB b)(bt:Int)(hbt:0 < bt)(s:Sd)(L:Lim b s):∃l:List Sd,YD C [jk C b,.int bt,j0 s]=some (.dct (l.map j0) (l.map (hD b bt)))/\s∈l/\∀p∈j5 b s,p.2∈l:=by
  obtain⟨n,e1,_,e2⟩:=QB C b ok s L
  obtain⟨l,y4,y5,y6,y7,e3,_,e4⟩:=QD C b ok bt hbt s L (.cl (j0 s)) n [] (fun t ht=>by rw[e2]at ht; cases ht) (by have:=L.tot n; simpa using this) .un .un .un .un
  have h0:s∈j6 b s 0:=by simp[j6]
  have hn:0 < n:=by
    cases n with
    | zero=>rw[e2]at h0; cases h0
    | succ n=>omega
  refine⟨l,?_,e4 0 (by omega) s h0,fun p hp=>e4 1 hn p.2 (yT.mpr ⟨s,h0,p,hp,rfl⟩)⟩
  simp only[YD,ZG]
  rw[List.map_nil,List.map_nil]at e3
  simp[e1,Z1,e3]
noncomputable def ZZ(h:Bool):D:=.str (if h=true then "host" else "spoiler")
theorem Wb(C:Addr)(bt:Int)(h1:2<=bt)(h2:bt<=5):Yy C [.int bt]=some .non:=by
  simp only[Yy,Zv]
  simp[Ji,h1,h2]
theorem WS(C:Addr)(b:Bk)(ok:OkB b)(bt:Int)(h1:2<=bt)(h2:bt<=5)(row:List Int)(h:Za b row){s:Sd}(hw:jE b (jv b) row=(s,none)):ub C [jk C b,.int bt,.lst (row.map .int)]=some (ZZ (jr b bt s)):=by
  have e0:=Wb C bt h1 h2
  have e1:=U4 C b row ok h hw
  obtain⟨l,e2,e3,_⟩:=KT C b ok bt (by omega) s (KQ ok h hw)
  have e4:=zx (f:=hD b bt) e3
  simp only[ub,ua]
  cases hh:jr b bt s <;> simp[e0,e1,e2,e4,hD,hh,ZZ]
noncomputable def yH(b:Bk)(bt:Int)(s:Sd)(p:Int×Sd):Bool:=decide (jr b bt p.2=!jO bt s)
noncomputable def oI:Option Int->D
  | none=>.non
  | some i=>.int i
theorem KU(C:Addr)(b:Bk)(bt:Int)(s:Sd)(l:List Sd)(r0 r1 r2 r3:Sl):∀(ps:List (Int×Sd)),(∀p∈ps,p.2∈l)->∀x6 x7:Sl,∃y6 y7:Sl,
    jw Vb (Z9 C) (ps.map pD) [r0,r1,r2,r3,.cl (.dct (l.map j0) (l.map (hD b bt))),.cl (.bl (!jO bt s)),x6,x7]=
    match ps.find? (yH b bt s)with
    | some p=>some (.rt (.int p.1))
    | none=>some (.nx [r0,r1,r2,r3,.cl (.dct (l.map j0) (l.map (hD b bt))),.cl (.bl (!jO bt s)),y6,y7])
  | [],_,x6,x7=>⟨x6,x7,rfl⟩
  | p :: ps,h,x6,x7=>by
    have g:=zx (f:=hD b bt) (h p List.mem_cons_self)
    obtain⟨y6,y7,e⟩:=KU C b bt s l r0 r1 r2 r3 ps (fun q hq=>h q (List.mem_cons_of_mem _ hq)) (.cl (.int p.1)) (.cl (j0 p.2))
    refine⟨y6,y7,?_⟩
    rw[List.map_cons,jw,List.find?_cons]
    have e0:Vb (pD p) [r0,r1,r2,r3,.cl (.dct (l.map j0) (l.map (hD b bt))),.cl (.bl (!jO bt s)),x6,x7]=some [r0,r1,r2,r3,.cl (.dct (l.map j0) (l.map (hD b bt))),.cl (.bl (!jO bt s)),.cl (.int p.1),.cl (j0 p.2)]:=rfl
    rw[e0]
    show(Z9 C _).bind _=_
    have e1:jt (d2 jR (d2 yg (dV 4) (dV 7)) (dV 5)) [r0,r1,r2,r3,.cl (.dct (l.map j0) (l.map (hD b bt))),.cl (.bl (!jO bt s)),.cl (.int p.1),.cl (j0 p.2)]=some (yH b bt s p):=by
      simp[g,hD,yH]
    unfold Z9
    rw[VT,e1,Option.bind_some]
    cases hq:yH b bt s p with
    | true=>rfl
    | false=>exact e
theorem QE(C:Addr)(b:Bk)(ok:OkB b)(bt:Int)(h1:2<=bt)(h2:bt<=5)(row:List Int)(h:Za b row){s:Sd}(hw:jE b (jv b) row=(s,none)):UC C [jk C b,.int bt,.lst (row.map .int)]=some (oI (((j5 b s).find? (yH b bt s)).map (·.1))):=by
  have e0:=Wb C bt h1 h2
  have e1:=U4 C b row ok h hw
  have L:=KQ ok h hw
  obtain⟨l,e2,e3,e4⟩:=KT C b ok bt (by omega) s L
  have e5:=KS C bt (by omega) s
  have e6:=KI C b s ok L.fit
  obtain⟨y6,y7,e7⟩:=KU C b bt s l (.bo (jk C b)) (.bo (.int bt)) (.bo (.lst (row.map .int))) (.cl (j0 s)) (j5 b s) e4 .un .un
  simp only[UC,UB]
  simp[e0,e1,e2,e5,e6,e7]
  cases (j5 b s).find? (yH b bt s) <;> rfl
theorem QF{b:Bk}{bt:Int}{s:Sd}(X:Fit b s)(h:s.place < b.size)(e:jO bt s≠!jr b bt s):(j5 b s).find? (yH b bt s)=none/\∀p∈j5 b s,jr b bt p.2=jr b bt s:=by
  have hh:=uh (bt:=bt) X h
  have key:∀p∈j5 b s,jr b bt p.2=jr b bt s:=by
    cases hs:jO bt s with
    | true=>
      rw[hs]at hh e
      have e:jr b bt s=true:=by cases q:jr b bt s with | true=>rfl | false=>rw[q]at e; exact absurd rfl e
      rw[if_pos rfl,e]at hh
      have hh:=(Bool.and_eq_true _ _▸hh.symm:_/\_).2
      intro p hp
      rw[e]
      exact List.all_eq_true.mp hh p hp
    | false=>
      rw[hs]at hh e
      have e:jr b bt s=false:=by cases q:jr b bt s with | false=>rfl | true=>rw[q]at e; exact absurd rfl e
      rw[if_neg (by decide),e]at hh
      intro p hp
      rw[e]
      have:=List.any_eq_false.mp hh.symm p hp
      simpa using this
  refine⟨List.find?_eq_none.mpr fun p hp q=>?_,key⟩
  unfold yH at q
  rw[decide_eq_true_eq,key p hp]at q
  exact e (by rw[q,Bool.not_not])
end M
namespace M
open PySem L2 DS
theorem GO(C:Addr)(b:Bk)(row:List Int)(ok:OkB b)(h:Za b row){s:Sd}(hw:jE b (jv b) row=(s,none)):J_ C [jj b,.lst (row.map .int)]=some (j0 s):=by
  have key:∀(r:List Int) (s0:Sd) (x:Sl),Form b s0->(∀n∈r,yQ b n)->s0.place + (r.length:Int)<=b.size->jE b s0 r=(s,none)->∃x',jw YT (YU C) (r.map D.int) [.bo (jj b),.bo (.lst (row.map .int)),.cl (j0 s0),x]=some (.nx [.bo (jj b),.bo (.lst (row.map .int)),.cl (j0 s),x']):=by
    intro r
    induction r with
    | nil=>intro s0 x _ _ _ hw; cases hw; exact⟨x,rfl⟩
    | cons k r ih=>
      intro s0 x X hr hp hw
      have hk:=hr k List.mem_cons_self
      rw[jE]at hw
      cases hb:jU b s0 k with
      | some w=>rw[hb]at hw; cases hw
      | none=>
        rw[hb]at hw
        have e:=za C b s0 k ok X hk
        have es:j_ b s0 k=some (Jc b s0 k):=by
          unfold j_
          rw[List.length_cons]at hp
          rw[if_neg (by omega),hb]
          rfl
        rw[es]at e
        obtain⟨x',q⟩:=ih (Jc b s0 k) (.cl (.int k)) (X.next hk) (fun n hn=>hr n (List.mem_cons_of_mem _ hn)) (by show s0.place + 1 + _<=_; rw[List.length_cons]at hp; omega) hw
        refine⟨x',?_⟩
        rw[<-q]
        simp[jw,YT,YU,e,yc]
  obtain⟨x',q⟩:=key row (jv b) .un (Form.empty b) h.1 (by have:=h.2; show(0:Int) + _<=_; omega) hw
  have e0:=Kt C b ok
  simp only[J_,Zu]
  simp[e0,q]
theorem Go{b:Bk}{s:Sd}{n:Nat}{c:Nat}{t:Sd}(hc:c < n)(h:j_ b s (c:Int)=some t):((c:Int),t)∈Jy b s n:=by
  unfold Jy
  exact List.mem_filterMap.mpr ⟨c,List.mem_range.mpr hc,by rw[h]; rfl⟩
theorem ba(C:Addr)(b:Bk)(ok:OkB b)(s:Sd)(X:Form b s)(r1 r2:Sl)(l:List Sd)(hl:(((j5 b s).map (·.2)).foldl jg l).length < 10000000)(x5 x6:Sl):∃y5 y6:Sl,
    JK C [.bo (jj b),r1,r2,.ow none (.dct (l.map j0) (l.map yS)),.cl (j0 s),x5,x6]=some (.nx [.bo (jj b),r1,r2,.ow none (.dct ((((j5 b s).map (·.2)).foldl jg l).map j0) ((((j5 b s).map (·.2)).foldl jg l).map yS)),.cl (j0 s),y5,y6]):=by
  have k2:=ok.k2
  have z1:jF (b.kinds.length:Int)=true:=Jq (by omega) (by omega)
  have hle:l.length < 10000000:=by
    have:=(Yl ((j5 b s).map (·.2)) l).1
    omega
  have big:(10000010:Nat) < sizeLine:=by decide
  obtain⟨ρ1,L1,y5,y6,rfl⟩:=Jn (g:=ZT) (s:=yE C) (items:=jJ 0 b.kinds.length) (fun i ρ=>∃(y5 y6:Sl),ρ=[.bo (jj b),r1,r2,.ow none (.dct ((((Jy b s i).map (·.2)).foldl jg l).map j0) ((((Jy b s i).map (·.2)).foldl jg l).map yS)),.cl (j0 s),y5,y6]) (by
    rintro i d ρ hd ⟨y5,y6,rfl⟩
    obtain⟨hi,rfl⟩:=ZI hd
    have e1:=za C b s (i:Int) ok X ⟨by omega,by omega⟩
    have hx:=uO b s i
    have hf:=(Yl ((Jy b s i).map (·.2)) l).2
    rw[List.length_map]at hf
    cases hs:j_ b s (i:Int)with
    | none=>
      rw[hs]at e1
      refine⟨_,_,rfl,?_,.cl (.int (i:Int)),.cl .non,rfl⟩
      rw[Jz,hs,List.append_nil]
      simp only[yE]
      simp[e1,yc]
    | some t=>
      rw[hs]at e1
      refine⟨_,_,rfl,?_,.cl (.int (i:Int)),.cl (j0 t),rfl⟩
      have en:zo (j0 t)=false:=rfl
      have e8:((Jy b s (i + 1)).map (·.2)).foldl jg l=jg (((Jy b s i).map (·.2)).foldl jg l) t:=by
        rw[Jz,hs,List.map_append,List.foldl_append]
        rfl
      rw[e8]
      have pt:=ug (i:=3) (q:=none) (l:=((Jy b s i).map (·.2)).foldl jg l) (f:=yS) (s:=t) (dk:=dC 6) (de:=dK (.bl true)) (ρ:=[.bo (jj b),r1,r2,.ow none (.dct ((((Jy b s i).map (·.2)).foldl jg l).map j0) ((((Jy b s i).map (·.2)).foldl jg l).map yS)),.cl (j0 s),.cl (.int (i:Int)),.cl (j0 t)]) rfl rfl rfl (by omega)
      simp only[yE]
      simp[-Q2,e1,yc,en,pt]) (ρ:=[.bo (jj b),r1,r2,.ow none (.dct (l.map j0) (l.map yS)),.cl (j0 s),x5,x6]) ⟨x5,x6,rfl⟩
  rw[show(jJ 0 b.kinds.length).length=b.kinds.length by simp[jJ],show Jy b s b.kinds.length=j5 b s from rfl]at L1
  refine⟨y5,y6,?_⟩
  simp only[JK]
  simp[z1,L1]
theorem bb(C:Addr)(b:Bk)(ok:OkB b)(r1 r2:Sl)(all:List Sd)(hfit:∀t∈all,Form b t)(hb:(JO b all).length < 10000000):∀(ss pre:List Sd),pre ++ ss=all->∀x4 x5 x6:Sl,∃y4 y5 y6:Sl,
    jw ZU (JK C) (ss.map j0) [.bo (jj b),r1,r2,.ow none (.dct (((pre.flatMap fun s=>(j5 b s).map (·.2)).foldl jg []).map j0) (((pre.flatMap fun s=>(j5 b s).map (·.2)).foldl jg []).map yS)),x4,x5,x6]=
    some (.nx [.bo (jj b),r1,r2,.ow none (.dct ((JO b all).map j0) ((JO b all).map yS)),y4,y5,y6]):=by
  intro ss
  induction ss with
  | nil=>
    intro pre e x4 x5 x6
    rw[List.append_nil]at e
    subst e
    exact⟨x4,x5,x6,rfl⟩
  | cons s ss ih=>
    intro pre e x4 x5 x6
    have hs:s∈all:=by rw[<-e]; simp
    have hf:(((j5 b s).map (·.2)).foldl jg ((pre.flatMap fun s=>(j5 b s).map (·.2)).foldl jg []))=(((pre ++ [s]).flatMap fun s=>(j5 b s).map (·.2)).foldl jg []):=by
      rw[List.flatMap_append,List.foldl_append]
      simp
    obtain⟨y5,y6,e2⟩:=ba C b ok s (hfit s hs) r1 r2 ((pre.flatMap fun s=>(j5 b s).map (·.2)).foldl jg []) (by
      rw[hf]
      refine Nat.lt_of_le_of_lt ?_ hb
      have e9:all=(pre ++ [s]) ++ ss:=by rw[<-e]; simp
      unfold JO
      rw[e9,List.flatMap_append (xs:=pre ++ [s]) (ys:=ss)]
      exact KK _ _ _) x5 x6
    rw[hf]at e2
    obtain⟨z4,z5,z6,e3⟩:=ih (pre ++ [s]) (by rw[<-e]; simp) (.cl (j0 s)) y5 y6
    refine⟨z4,z5,z6,?_⟩
    rw[List.map_cons,jw]
    show(JK C _).bind _=_
    simp only[List.set_cons_succ,List.set_cons_zero]
    rw[e2]
    exact e3
theorem Xd{α:Type}(xs:List α)(x:α):jN (xs ++ [x]) none (some (-1))=xs:=by
  unfold jN
  have e1:HT.sIx (xs ++ [x]).length 0 none=0:=rfl
  have e2:HT.sIx (xs ++ [x]).length (xs ++ [x]).length (some (-1))=xs.length:=by
    unfold HT.sIx
    simp only
    rw[if_pos (by decide),List.length_append]
    simp
    omega
  rw[e1,e2,List.drop_zero,Nat.sub_zero]
  simp
noncomputable def yA(ss:List Sd):D:=.lst (ss.map j0)
noncomputable def Jt(b:Bk)(s:Sd)(n:Nat):List D:=(List.range n).map fun j=>yA (j6 b s j)
theorem Yo(b:Bk)(s:Sd)(n:Nat):Jt b s (n + 1)=Jt b s n ++ [yA (j6 b s n)]:=by
  unfold Jt
  rw[List.range_succ,List.map_append]
  rfl
theorem UJ(b:Bk)(s:Sd)(n:Nat):(Jt b s n).length=n:=by simp[Jt]
theorem Wc:∀l:List Sd,Yv (l.map j0)<=19
  | []=>by simp
  | s :: l=>by
    have:=Wc l
    rw[List.map_cons,Yv]
    have h:dep (j0 s)<=19:=by simp[j0,dep,Yv,uf,KB]
    omega
theorem QG(l:List Sd):Jk (yA l) (.lst [])=some (.bl (!decide (l=[]))):=by
  have e:dep (yA l)<=20:=by rw[yA,dep]; have:=Wc l; omega
  have e0:VU (yA l) (D.lst [])=true:=rfl
  unfold Jk
  rw[if_pos e0]
  unfold gW
  rw[if_pos ⟨e0,e⟩,yA,Zm]
  cases l with
  | nil=>rfl
  | cons x l=>rw[if_neg (by simp)]; rfl
theorem UK{b:Bk}{s:Sd}(X:Form b s):∀n,∀t∈j6 b s n,Form b t
  | 0,t,h=>by
    simp[j6]at h
    subst h
    exact X
  | n + 1,t,h=>by
    obtain⟨u,hu,p,hp,rfl⟩:=yT.mp h
    obtain⟨c,hc,e1,e2⟩:=uP hp
    obtain⟨h1,h2,h3⟩:=Zc e2
    rw[h2]
    exact(UK X n u hu).next ⟨by omega,by omega⟩
theorem bc(C:Addr)(b:Bk)(ok:OkB b)(s:Sd)(F:Form b s)(L:Lim b s)(n:Nat)(hn:n<=1000)(x3 x4 x5 x6:Sl):∃y3 y4 y5 y6:Sl,yF C [.bo (jj b),.cl (j0 s),.ow none (.lst (Jt b s (n + 1))),x3,x4,x5,x6]=
    some (.nx [.bo (jj b),.cl (j0 s),.ow none (.lst (Jt b s (n + 2))),y3,y4,y5,y6]):=by
  obtain⟨y4,y5,y6,e⟩:=bb C b ok (.cl (j0 s)) (.ow none (.lst (Jt b s (n + 1)))) (j6 b s n) (UK F n) (L.len (n + 1)) (j6 b s n) [] rfl x4 x5 x6
  have z:(Jt b s (n + 1)).length < sizeLine:=by rw[UJ]; exact jB (by omega)
  simp only[List.map_nil,List.flatMap_nil,List.foldl_nil]at e
  have ea:atI (Jt b s (n + 1)) (-1)=some (yA (j6 b s n)):=by rw[Yo]; exact Vf
  refine⟨.ow none (.dct ((JO b (j6 b s n)).map j0) ((JO b (j6 b s n)).map yS)),y4,y5,y6,?_⟩
  rw[Yo b s (n + 1)]
  have es:ye (yA (j6 b s n))=some ((j6 b s n).map j0):=rfl
  simp only[yF]
  simp[ea,es,e,z,zt,yA,j6]
theorem QH(C:Addr)(b:Bk)(ok:OkB b)(s:Sd)(F:Form b s)(L:Lim b s):∃n,zM C [jj b,j0 s]=some (.lst (Jt b s n))/\n<=32/\j6 b s n=[]:=by
  have s2:=ok.s2
  obtain⟨ρ1,W1,⟨n,hn,y3,y4,y5,y6,rfl⟩,hq⟩:=gn (dt:=Jl C) (s:=yF C)
    (fun ρ=>∃n,n<=32/\∃y3 y4 y5 y6:Sl,ρ=[.bo (jj b),.cl (j0 s),.ow none (.lst (Jt b s (n + 1))),y3,y4,y5,y6])
    (fun ρ=>CI ρ) (by
      rintro ρ ⟨n,hn,y3,y4,y5,y6,rfl⟩
      have ea:atI (Jt b s (n + 1)) (-1)=some (yA (j6 b s n)):=by rw[Yo]; exact Vf
      have ne:=QG (j6 b s n)
      have hQ:Jl C [.bo (jj b),.cl (j0 s),.ow none (.lst (Jt b s (n + 1))),y3,y4,y5,y6]=some (!decide (j6 b s n=[])):=by
        simp only[Jl]
        simp[-Jk,ea,ne]
      by_cases h:j6 b s n=[]
      · left
        rw[hQ,decide_eq_true h]
        rfl
      · right
        have hn':n < 32:=by
          have h1:=L.p0
          by_cases q:n < 32
          · exact q
          · have e:n=31 + 1:=by omega
            subst e
            exact absurd (Gk L.fit (by omega)) h
        obtain⟨z3,z4,z5,z6,e⟩:=bc C b ok s F L n (by omega) y3 y4 y5 y6
        refine⟨?_,_,e,⟨n + 1,by omega,z3,z4,z5,z6,rfl⟩,?_⟩
        · rw[hQ,decide_eq_false h]
          rfl
        · show 100 - (Jt b s (n + 1 + 1)).length < 100 - (Jt b s (n + 1)).length
          rw[UJ,UJ]
          omega) (n:=20000) (ρ:=[.bo (jj b),.cl (j0 s),.ow none (.lst (Jt b s 1)),.un,.un,.un,.un]) ⟨0,by omega,.un,.un,.un,.un,rfl⟩ (by show 100 - (Jt b s 1).length < 20000; omega)
  have ea:atI (Jt b s (n + 1)) (-1)=some (yA (j6 b s n)):=by rw[Yo]; exact Vf
  have ne:=QG (j6 b s n)
  have e:j6 b s n=[]:=by
    have hQ:Jl C [.bo (jj b),.cl (j0 s),.ow none (.lst (Jt b s (n + 1))),y3,y4,y5,y6]=some (!decide (j6 b s n=[])):=by
      simp only[Jl]
      simp[-Jk,ea,ne]
    rw[hQ]at hq
    simpa using hq
  refine⟨n,?_,hn,e⟩
  have e0:Jt b s 1=[.lst [j0 s]]:=rfl
  have ec:jN (Jt b s (n + 1)) none (some (-1))=Jt b s n:=by
    rw[Yo]
    exact Xd _ _
  rw[e0]at W1
  simp only[zM,zL]
  simp[W1,ec]
end M
namespace M
open PySem L2 DS
theorem KW:∀l:List Bool,gX (l.map D.bl)=some (l.map V.bl)
  | []=>rfl
  | x :: l=>by rw[List.map_cons,gX,KW l]; rfl
theorem be(k:Bool)(l:List Bool):wI (.bl k) (l.map V.bl)=decide (k∈l):=by
  unfold wI
  induction l with
  | nil=>simp
  | cons x l ih=>
    rw[List.map_cons,List.any_cons,ih]
    cases k <;> cases x <;> simp[UR]
theorem QI(neg:Bool)(k:Bool)(l:List Bool):VV neg (.bl k) (.lst (l.map D.bl))=some (.bl (if neg then !decide (k∈l)else decide (k∈l))):=by
  simp[VV,KW,be]
theorem bg(l:List Bool):(!decide (false∈l))=l.all id/\decide (true∈l)=l.any id:=by
  induction l with
  | nil=>exact⟨rfl,rfl⟩
  | cons x l ih=>
    obtain⟨h1,h2⟩:=ih
    rw[List.all_cons,List.any_cons,<-h1,<-h2]
    cases x <;> simp
theorem bh(C:Addr)(b:Bk)(ok:OkB b)(bt:Int)(hbt:0 < bt)(r2 x4 x6 x7 x8:Sl)(t:Sd)(X:Form b t)(hp:t.place<=b.size)(l:List Sd)(hl:l.length < 10000000)(hs:∀p∈j5 b t,p.2∈l):∃y6 y7 y8:Sl,
    JY C [.bo (jj b),.bo (.int bt),r2,.ow none (.dct (l.map j0) (l.map (hD b bt))),x4,.cl (j0 t),x6,x7,x8]=some (.nx [.bo (jj b),.bo (.int bt),r2,.ow none (.dct ((jg l t).map j0) ((jg l t).map (hD b bt))),x4,.cl (j0 t),y6,y7,y8]):=by
  have k2:=ok.k2
  have z1:jF (b.kinds.length:Int)=true:=Jq (by omega) (by omega)
  have hl':l.length < sizeLine:=by
    have e:(10000000:Nat) < sizeLine:=by decide
    omega
  obtain⟨ρ1,L1,y7,y8,rfl⟩:=Jn (g:=YQ) (s:=JX C) (items:=jJ 0 b.kinds.length) (fun i ρ=>∃(y7 y8:Sl),ρ=[.bo (jj b),.bo (.int bt),r2,.ow none (.dct (l.map j0) (l.map (hD b bt))),x4,.cl (j0 t),.ow none (.lst ((Jy b t i).map fun p=>hD b bt p.2)),y7,y8]) (by
    rintro i d ρ hd ⟨y7,y8,rfl⟩
    obtain⟨hi,rfl⟩:=ZI hd
    have e1:=za C b t (i:Int) ok X ⟨by omega,by omega⟩
    have hx:=uO b t i
    have z3:(Jy b t i).length < sizeLine:=jB (by omega)
    cases hs':j_ b t (i:Int)with
    | none=>
      rw[hs']at e1
      refine⟨_,_,rfl,?_,.cl (.int (i:Int)),.cl .non,rfl⟩
      rw[Jz,hs',List.append_nil]
      simp only[JX]
      simp[e1,yc]
    | some u=>
      rw[hs']at e1
      refine⟨_,_,rfl,?_,.cl (.int (i:Int)),.cl (j0 u),rfl⟩
      have en:zo (j0 u)=false:=rfl
      have g:=zx (f:=hD b bt) (hs ((i:Int),u) (Go hi hs'))
      rw[Jz,hs',List.map_append]
      simp only[JX]
      simp[e1,yc,en,g,z3]) (ρ:=[.bo (jj b),.bo (.int bt),r2,.ow none (.dct (l.map j0) (l.map (hD b bt))),x4,.cl (j0 t),.ow none (.lst []),x7,x8]) ⟨x7,x8,rfl⟩
  rw[show(jJ 0 b.kinds.length).length=b.kinds.length by simp[jJ],show Jy b t b.kinds.length=j5 b t from rfl]at L1
  have em:(j5 b t).map (fun p=>hD b bt p.2)=((j5 b t).map fun p=>jr b bt p.2).map D.bl:=by rw[List.map_map]; rfl
  have ma:=bg ((j5 b t).map fun p=>jr b bt p.2)
  rw[List.all_map,List.any_map]at ma
  have i1:=QI true false ((j5 b t).map fun p=>jr b bt p.2)
  have i2:=QI false true ((j5 b t).map fun p=>jr b bt p.2)
  rw[if_pos rfl,ma.1,<-em]at i1
  rw[if_neg (by decide),ma.2,<-em]at i2
  refine⟨.ow none (.lst ((j5 b t).map fun p=>hD b bt p.2)),y7,y8,?_⟩
  have put:=fun(de:DE) (hd:de [.bo (jj b),.bo (.int bt),r2,.ow none (.dct (l.map j0) (l.map (hD b bt))),x4,.cl (j0 t),.ow none (.lst ((j5 b t).map fun p=>hD b bt p.2)),y7,y8]=some (hD b bt t))=>ug (i:=3) (dk:=dC 5) (de:=de) (l:=l) (f:=hD b bt) (s:=t) (q:=none) (ρ:=[.bo (jj b),.bo (.int bt),r2,.ow none (.dct (l.map j0) (l.map (hD b bt))),x4,.cl (j0 t),.ow none (.lst ((j5 b t).map fun p=>hD b bt p.2)),y7,y8]) rfl hd rfl hl'
  unfold JY
  have e5:jW (yf (j8 Jf [(false,(d2 jc (dV 0) (dK (.int 1))))])) YQ (JX C) [.bo (jj b),.bo (.int bt),r2,.ow none (.dct (l.map j0) (l.map (hD b bt))),x4,.cl (j0 t),.ow none (.lst []),x7,x8]=some (.nx [.bo (jj b),.bo (.int bt),r2,.ow none (.dct (l.map j0) (l.map (hD b bt))),x4,.cl (j0 t),.ow none (.lst ((j5 b t).map fun p=>hD b bt p.2)),y7,y8]):=by
    simp[z1,L1]
  rw[vH]
  show(j1 _ _ _)=_
  rw[vH]
  show(jW _ _ _ [.bo (jj b),.bo (.int bt),r2,.ow none (.dct (l.map j0) (l.map (hD b bt))),x4,.cl (j0 t),.ow none (.lst []),x7,x8]).bind _=_
  rw[e5,Option.bind_some]
  show jo _ _ _ _=_
  rw[VT]
  by_cases h:t.place=b.size
  · have e0:jt (d2 jR (d2 jc (dV 5) (dK (.int 0))) (d2 jc (dV 0) (dK (.int 0)))) [.bo (jj b),.bo (.int bt),r2,.ow none (.dct (l.map j0) (l.map (hD b bt))),x4,.cl (j0 t),.ow none (.lst ((j5 b t).map fun p=>hD b bt p.2)),y7,y8]=some true:=by
      simp[h]
    rw[e0]
    simp only[Option.bind_some,if_true]
    rw[put _ (by simp[hD,KR h])]
    rfl
  · have e0:jt (d2 jR (d2 jc (dV 5) (dK (.int 0))) (d2 jc (dV 0) (dK (.int 0)))) [.bo (jj b),.bo (.int bt),r2,.ow none (.dct (l.map j0) (l.map (hD b bt))),x4,.cl (j0 t),.ow none (.lst ((j5 b t).map fun p=>hD b bt p.2)),y7,y8]=some false:=by
      simp[h]
    have hh:=uh (bt:=bt) X.toFit (by omega:t.place < b.size)
    rw[e0]
    simp only[Option.bind_some,Bool.false_eq_true,if_false]
    rw[VT]
    have e6:jt (d2 jR (d2 jL (d2 jA (d2 jc (dV 5) (dK (.int 0))) (dK (.int 1))) (dV 1)) (dK (.int 0))) [.bo (jj b),.bo (.int bt),r2,.ow none (.dct (l.map j0) (l.map (hD b bt))),x4,.cl (j0 t),.ow none (.lst ((j5 b t).map fun p=>hD b bt p.2)),y7,y8]=some (jO bt t):=by
      simp[jL,hbt,jO]
    rw[e6,Option.bind_some]
    by_cases hs:jO bt t=true
    · rw[if_pos hs]
      rw[if_pos hs]at hh
      rw[put _ (by
        show _=some (D.bl (jr b bt t))
        rw[hh]
        by_cases hn:(j5 b t).length > 0
        · have hn':0 < ((j5 b t).length:Int):=by omega
          simp[-VV,i1,hn,hn',zW]
        · have hn':¬0 < ((j5 b t).length:Int):=by omega
          simp[-VV,i1,hn,hn',zW])]
      rfl
    · rw[if_neg hs]
      rw[if_neg hs]at hh
      rw[put _ (by
        show _=some (D.bl (jr b bt t))
        rw[hh]
        simp[-VV,i2])]
      rfl
theorem Wd(C:Addr)(b:Bk)(ok:OkB b)(bt:Int)(hbt:0 < bt)(r2 x4:Sl)(up:List Sd):∀(ts l:List Sd),(∀t∈ts,Form b t/\t.place<=b.size/\∀p∈j5 b t,p.2∈up)->(∀t∈up,t∈l)->l.length + ts.length < 10000000->∀x5 x6 x7 x8:Sl,∃y5 y6 y7 y8:Sl,
    jw YR (JY C) (ts.map j0) [.bo (jj b),.bo (.int bt),r2,.ow none (.dct (l.map j0) (l.map (hD b bt))),x4,x5,x6,x7,x8]=
    some (.nx [.bo (jj b),.bo (.int bt),r2,.ow none (.dct ((ts.foldl jg l).map j0) ((ts.foldl jg l).map (hD b bt))),x4,y5,y6,y7,y8])
  | [],l,_,_,_,x5,x6,x7,x8=>⟨x5,x6,x7,x8,rfl⟩
  | t :: ts,l,h,hu,hl,x5,x6,x7,x8=>by
    obtain⟨f1,f2,f3⟩:=h t List.mem_cons_self
    have hlen:=Vi l t
    rw[List.length_cons]at hl
    obtain⟨y6,y7,y8,e1⟩:=bh C b ok bt hbt r2 x4 x6 x7 x8 t f1 f2 l (by omega) fun p hp=>hu _ (f3 p hp)
    obtain⟨z5,z6,z7,z8,e2⟩:=Wd C b ok bt hbt r2 x4 up ts (jg l t) (fun u hu=>h u (List.mem_cons_of_mem _ hu)) (fun u hv=>UH.mpr (.inl (hu u hv))) (by omega) (.cl (j0 t)) y6 y7 y8
    refine⟨z5,z6,z7,z8,?_⟩
    rw[List.map_cons,List.foldl_cons,jw]
    have e0:YR (j0 t) [.bo (jj b),.bo (.int bt),r2,.ow none (.dct (l.map j0) (l.map (hD b bt))),x4,x5,x6,x7,x8]=some [.bo (jj b),.bo (.int bt),r2,.ow none (.dct (l.map j0) (l.map (hD b bt))),x4,.cl (j0 t),x6,x7,x8]:=rfl
    rw[e0]
    show(JY C _).bind _=_
    rw[e1]
    exact e2
theorem We(C:Addr)(b:Bk)(ok:OkB b)(bt:Int)(hbt:0 < bt)(s:Sd)(F:Form b s)(L:Lim b s)(r2:Sl):∀(m:Nat) (l:List Sd),(∀t∈j6 b s m,t∈l)->l.length + ((List.range m).flatMap (j6 b s)).length < 10000000->∀x4 x5 x6 x7 x8:Sl,∃(l':List Sd) (y4 y5 y6 y7 y8:Sl),
    jw YS (JZ C) (Jt b s m).reverse [.bo (jj b),.bo (.int bt),r2,.ow none (.dct (l.map j0) (l.map (hD b bt))),x4,x5,x6,x7,x8]=
    some (.nx [.bo (jj b),.bo (.int bt),r2,.ow none (.dct (l'.map j0) (l'.map (hD b bt))),y4,y5,y6,y7,y8])/\(∀t∈l,t∈l')/\∀j,j<=m->∀t∈j6 b s j,t∈l'
  | 0,l,h,_,x4,x5,x6,x7,x8=>⟨l,x4,x5,x6,x7,x8,rfl,fun t ht=>ht,fun j hj t ht=>by
    have e:j=0:=by omega
    subst e
    exact h t ht⟩
  | m + 1,l,h,hl,x4,x5,x6,x7,x8=>by
    rw[List.range_succ,List.flatMap_append,List.length_append]at hl
    simp only[List.flatMap_cons,List.flatMap_nil,List.append_nil]at hl
    obtain⟨y5,y6,y7,y8,e1⟩:=Wd C b ok bt hbt r2 (.cl (yA (j6 b s m))) (j6 b s (m + 1)) (j6 b s m) l (fun t ht=>⟨UK F m t ht,by
      by_cases q:0 < m
      · exact(Y0 L.fit m t ht).2.2 q
      · have:=(Y0 L.fit m t ht).2.1
        have:=L.p1
        omega,fun p hp=>yT.mpr ⟨t,ht,p,hp,rfl⟩⟩) h (by omega) x5 x6 x7 x8
    have hf:=Yl (j6 b s m) l
    obtain⟨l',z4,z5,z6,z7,z8,e2,e3,e6⟩:=We C b ok bt hbt s F L r2 m ((j6 b s m).foldl jg l) (fun t ht=>yR.mpr (.inr ht)) (by omega) (.cl (yA (j6 b s m))) y5 y6 y7 y8
    refine⟨l',z4,z5,z6,z7,z8,?_,fun t ht=>e3 t (yR.mpr (.inl ht)),fun j hj t ht=>?_⟩
    rotate_left
    · by_cases q:j<=m
      · exact e6 j q t ht
      · have e:j=m + 1:=by omega
        subst e
        exact e3 t (yR.mpr (.inl (h t ht)))
    rw[Yo,List.reverse_append,List.reverse_singleton,List.singleton_append,jw]
    have e0:YS (yA (j6 b s m)) [.bo (jj b),.bo (.int bt),r2,.ow none (.dct (l.map j0) (l.map (hD b bt))),x4,x5,x6,x7,x8]=some [.bo (jj b),.bo (.int bt),r2,.ow none (.dct (l.map j0) (l.map (hD b bt))),.cl (yA (j6 b s m)),x5,x6,x7,x8]:=rfl
    have e4:JZ C [.bo (jj b),.bo (.int bt),r2,.ow none (.dct (l.map j0) (l.map (hD b bt))),.cl (yA (j6 b s m)),x5,x6,x7,x8]=some (.nx [.bo (jj b),.bo (.int bt),r2,.ow none (.dct ((((j6 b s m)).foldl jg l).map j0) ((((j6 b s m)).foldl jg l).map (hD b bt))),.cl (yA (j6 b s m)),y5,y6,y7,y8]):=by
      unfold JZ
      rw[kW]
      exact e1
    rw[e0]
    show(JZ C _).bind _=_
    rw[e4]
    exact e2
theorem Wf{b:Bk}{s:Sd}{n:Nat}(h:j6 b s n=[]):∀m,j6 b s (n + m)=[]
  | 0=>h
  | m + 1=>by
    show JO b (j6 b s (n + m))=[]
    rw[Wf h m]
    rfl
theorem GP(C:Addr)(b:Bk)(ok:OkB b)(bt:Int)(hbt:0 < bt)(s:Sd)(F:Form b s)(L:Lim b s):∃l:List Sd,yO C [jj b,.int bt,j0 s]=some (.dct (l.map j0) (l.map (hD b bt)))/\∀j,∀t∈j6 b s j,t∈l:=by
  obtain⟨n,e1,_,e2⟩:=QH C b ok s F L
  obtain⟨l,y4,y5,y6,y7,y8,e3,_,e4⟩:=We C b ok bt hbt s F L (.cl (j0 s)) n [] (fun t ht=>by rw[e2]at ht; cases ht) (by have:=L.tot n; simpa using this) .un .un .un .un .un
  refine⟨l,?_,fun j t ht=>?_⟩
  · simp only[yO,Zt]
    rw[List.map_nil,List.map_nil]at e3
    simp[e1,Z1,e3]
  · by_cases q:j<=n
    · exact e4 j q t ht
    · obtain⟨m,rfl⟩:∃m,j=n + m:=⟨j - n,by omega⟩
      rw[Wf e2 m]at ht
      cases ht
theorem KY{b:Bk}{e:Sd}:∀{row:List Int} {s s':Sd} {n:Nat},s∈j6 b e n->(∀k∈row,yQ b k)->s.place + (row.length:Int)<=b.size->jE b s row=(s',none)->s'∈j6 b e (n + row.length)
  | [],s,s',n,h,_,_,hw=>by cases hw; exact h
  | x :: row,s,s',n,h,hk,hp,hw=>by
    rw[jE]at hw
    rw[List.length_cons]at hp
    have kx:=hk x List.mem_cons_self
    cases hb:jU b s x with
    | some w=>rw[hb]at hw; cases hw
    | none=>
      rw[hb]at hw
      have hw:jE b (Jc b s x) row=(s',none):=hw
      have ex:((x.toNat:Nat):Int)=x:=by have:=kx.1; omega
      have es:j_ b s ((x.toNat:Nat):Int)=some (Jc b s x):=by
        rw[ex]
        unfold j_
        rw[if_neg (by omega),hb]
        rfl
      have hm:Jc b s x∈j6 b e (n + 1):=yT.mpr ⟨s,h,_,Go (by have:=kx.1; have:=kx.2; omega) es,rfl⟩
      have:=KY (n:=n + 1) hm (fun k hk'=>hk k (List.mem_cons_of_mem _ hk')) (by show s.place + 1 + _<=_; omega) hw
      rw[List.length_cons,show n + (row.length + 1)=n + 1 + row.length by omega]
      exact this
end M
namespace M
open PySem L2 DS
noncomputable def JS(b:Bk)(bt:Int)(s:Sd)(p:Int×Sd):Bool:=decide (jr b bt p.2=jr b bt s) && !decide (jr b bt s=jO bt s)
theorem GQ{b:Bk}{s:Sd}{q:Int×Sd->Bool}{p:Int×Sd}{i:Nat}(h:(Jy b s i).find? q=some p):∀m,(Jy b s (i + m)).find? q=some p
  | 0=>h
  | m + 1=>by
    rw[show i + (m + 1)=(i + m) + 1 by omega,Jz,List.find?_append,GQ h m]
    rfl
theorem QJ{b:Bk}{bt:Int}{s:Sd}(X:Fit b s):(j5 b s).find? (JS b bt s)=(j5 b s).find? (yH b bt s):=by
  by_cases e:jO bt s=!jr b bt s
  · have:JS b bt s=yH b bt s:=by
      funext p
      unfold JS yH
      rw[e,Bool.not_not]
      cases jr b bt s <;> cases jr b bt p.2 <;> rfl
    rw[this]
  · have e1:jr b bt s=jO bt s:=by
      cases h1:jr b bt s <;> cases h2:jO bt s <;> first | rfl | (rw[h1,h2]at e; exact absurd rfl e)
    have n1:(j5 b s).find? (JS b bt s)=none:=List.find?_eq_none.mpr fun p _ q=>by
      unfold JS at q
      rw[decide_eq_true e1]at q
      simp at q
    rw[n1]
    by_cases h:s.place < b.size
    · exact(QF X h e).1.symm
    · rw[show j5 b s=[] from GN (by omega) _]
      rfl
theorem WT(C:Addr)(b:Bk)(ok:OkB b)(bt:Int)(hbt:0 < bt)(s:Sd)(F:Form b s)(l:List Sd)(hs:s∈l)(hl:∀p∈j5 b s,p.2∈l):zT C [jj b,.int bt,j0 s,.dct (l.map j0) (l.map (hD b bt))]=some (oI (((j5 b s).find? (yH b bt s)).map (·.1))):=by
  have k2:=ok.k2
  have z1:jF (b.kinds.length:Int)=true:=Jq (by omega) (by omega)
  have gs:=zx (f:=hD b bt) hs
  rw[<-QJ F.toFit]
  have LL:=Ki (g:=ZX) (s:=JN C) (items:=jJ 0 b.kinds.length) (r:=.nx []) (fun i ρ=>∃(y5 y6:Sl),ρ=[.bo (jj b),.bo (.int bt),.cl (j0 s),.bo (.dct (l.map j0) (l.map (hD b bt))),.cl (.bl (jO bt s)),y5,y6]/\(Jy b s i).find? (JS b bt s)=none) (fun i r=>∃p,r=.rt (.int p.1)/\(Jy b s (i + 1)).find? (JS b bt s)=some p) (by
    rintro i d ρ hd ⟨y5,y6,rfl,hf⟩
    obtain⟨hi,rfl⟩:=ZI hd
    have e1:=za C b s (i:Int) ok F ⟨by omega,by omega⟩
    refine⟨_,rfl,?_⟩
    cases hs':j_ b s (i:Int)with
    | none=>
      rw[hs']at e1
      refine .inl ⟨[.bo (jj b),.bo (.int bt),.cl (j0 s),.bo (.dct (l.map j0) (l.map (hD b bt))),.cl (.bl (jO bt s)),.cl (.int (i:Int)),.cl .non],?_,_,_,rfl,?_⟩
      · simp only[JN]
        simp[e1,yc]
      · rw[Jz,hs',List.append_nil]
        exact hf
    | some u=>
      rw[hs']at e1
      have en:zo (j0 u)=false:=rfl
      have g:=zx (f:=hD b bt) (hl ((i:Int),u) (Go hi hs'))
      have f1:jR (hD b bt u) (hD b bt s)=some (.bl (decide (jr b bt u=jr b bt s))):=by simp[hD]
      have f2:Jk (hD b bt s) (.bl (jO bt s))=some (.bl (!decide (jr b bt s=jO bt s))):=by simp[hD]
      cases hp:JS b bt s ((i:Int),u)with
      | true=>
        unfold JS at hp
        rw[Bool.and_eq_true]at hp
        rw[hp.1]at f1
        rw[hp.2]at f2
        refine .inr ⟨.int (i:Int),?_,((i:Int),u),rfl,?_⟩
        · simp only[JN]
          simp[-jR,-Jk,e1,yc,en,g,gs,f1,f2]
        · rw[Jz,hs',List.find?_append,hf]
          show List.find? (JS b bt s) [((i:Int),u)]=_
          rw[List.find?_cons]
          have:JS b bt s ((i:Int),u)=true:=by unfold JS; rw[Bool.and_eq_true]; exact hp
          rw[this]
      | false=>
        refine .inl ⟨[.bo (jj b),.bo (.int bt),.cl (j0 s),.bo (.dct (l.map j0) (l.map (hD b bt))),.cl (.bl (jO bt s)),.cl (.int (i:Int)),.cl (j0 u)],?_,_,_,rfl,?_⟩
        · unfold JS at hp
          have hp:(decide (jr b bt u=jr b bt s) && !decide (jr b bt s=jO bt s))=false:=hp
          simp only[JN]
          cases h1:decide (jr b bt u=jr b bt s)with
          | false=>
            rw[h1]at f1
            simp[-jR,-Jk,e1,yc,en,g,gs,f1]
          | true=>
            rw[h1]at f1 hp
            rw[Bool.true_and]at hp
            rw[hp]at f2
            simp[-jR,-Jk,e1,yc,en,g,gs,f1,f2]
        · rw[Jz,hs',List.find?_append,hf]
          show List.find? (JS b bt s) [((i:Int),u)]=_
          rw[List.find?_cons,hp]
          rfl) (ρ:=[.bo (jj b),.bo (.int bt),.cl (j0 s),.bo (.dct (l.map j0) (l.map (hD b bt))),.cl (.bl (jO bt s)),.un,.un]) ⟨.un,.un,rfl,rfl⟩
  have e6:jL (.int (s.place + 1)) (.int bt)=some (.int ((s.place + 1) % bt)):=by simp[jL,hbt]
  have e7:jR (.int ((s.place + 1) % bt)) (.int 0)=some (.bl (jO bt s)):=by simp[jO]
  simp only[zT,zS]
  rcases LL with⟨ρ',L1,y5,y6,rfl,hf⟩ | ⟨i,d',hi,L1,p,hz,hf⟩
  · rw[show(jJ 0 b.kinds.length).length=b.kinds.length by simp[jJ]]at hf
    have hf:(j5 b s).find? (JS b bt s)=none:=hf
    rw[hf]
    simp[-jR,z1,e6,e7,L1,oI]
  · rw[show(jJ 0 b.kinds.length).length=b.kinds.length by simp[jJ]]at hi
    have hf2:=GQ hf (b.kinds.length - (i + 1))
    rw[show i + 1 + (b.kinds.length - (i + 1))=b.kinds.length by omega]at hf2
    have hf2:(j5 b s).find? (JS b bt s)=some p:=hf2
    rw[hf2]
    rw[hz]at L1
    simp[-jR,z1,e6,e7,L1,oI]
theorem QK(C:Addr)(b:Bk)(ok:OkB b)(bt:Int)(h1:2<=bt)(h2:bt<=5)(r0 r1 r4 r5 r6 r7:Sl)(row:List Int)(n:Nat)(hr:Za b (row.take n)){s:Sd}(hw:jE b (jv b) (row.take n)=(s,none))(l:List Sd)(hl:∀j,∀t∈j6 b (jv b) j,t∈l)(x13 x14:Sl):∃y13 y14:Sl,
    Ym C [r0,r1,.cl (jj b),.cl (jk C b),r4,r5,r6,r7,.cl (.lst (row.map .int)),.cl (.int (n:Int)),.cl (j0 s),.cl (.int bt),.cl (.dct (l.map j0) (l.map (hD b bt))),x13,x14]=
    some (.nx [r0,r1,.cl (jj b),.cl (jk C b),r4,r5,r6,r7,.cl (.lst (row.map .int)),.cl (.int (n:Int)),.cl (j0 s),.cl (.int bt),.cl (.dct (l.map j0) (l.map (hD b bt))),y13,y14]):=by
  have R:=StOf.all hr.1 hw
  have hr2:=hr.2
  have h0:jv b∈j6 b (jv b) 0:=by simp[j6]
  have hs0:=KY h0 hr.1 (by show(0:Int) + _<=_; omega) hw
  have hs:=hl _ s hs0
  have hst:∀p∈j5 b s,p.2∈l:=fun p hp=>hl (0 + (row.take n).length + 1) p.2 (yT.mpr ⟨s,hs0,p,hp,rfl⟩)
  have q1:=WS C b ok bt h1 h2 _ hr hw
  have q2:=QE C b ok bt h1 h2 _ hr hw
  have q3:=WT C b ok bt (by omega) s R.fo l hs hst
  have g:=zx (f:=hD b bt) hs
  have ek:jN (row.map D.int) none (some (n:Int))=(row.take n).map D.int:=by rw[Y_,Kq]
  have q4:jP C 6 [ZZ (jr b bt s),ZZ (jr b bt s)]=some (.bl true):=w_ C _ 6 trivial (by simp[ZZ])
  have q5:∀o:Option Int,jP C 6 [oI o,oI o]=some (.bl true):=fun o=>by cases o <;> exact w_ C _ 6 trivial (by simp[oI])
  have q6:=W3 (row.take n) (row.take n)
  rw[decide_eq_true rfl]at q6
  refine⟨.cl (.lst ((row.take n).map .int)),.cl (ZZ (jr b bt s)),?_⟩
  revert q1 q2 ek q6
  generalize row.take n=cut
  intro q1 q2 ek q6
  have q5':=q5 (((j5 b s).find? (yH b bt s)).map (·.1))
  revert q2 q3 q5'
  generalize oI (((j5 b s).find? (yH b bt s)).map (·.1))=adv
  intro q2 q3 q5'
  have et:(Zj (J9 (d2 yg (dV 12) (dV 10))) (dK (.str "host")) (dK (.str "spoiler"))) [r0,r1,.cl (jj b),.cl (jk C b),r4,r5,r6,r7,.cl (.lst (row.map .int)),.cl (.int (n:Int)),.cl (j0 s),.cl (.int bt),.cl (.dct (l.map j0) (l.map (hD b bt))),.cl (.lst (cut.map .int)),x14]=some (ZZ (jr b bt s)):=by
    cases hh:jr b bt s <;> simp[g,hD,hh,ZZ]
  simp only[Ym]
  generalize (Zj (J9 (d2 yg (dV 12) (dV 10))) (dK (.str "host")) (dK (.str "spoiler")))=dte at et⊢
  simp[-Jk,ek,et,q1,q2,q3,q4,q5',q6]
end M
namespace M
open PySem L2 DS
theorem E4(C:Addr)(b:Bk)(ok:OkB b)(r0 r1:Sl)(bt1 bt2:Int)(h1:2<=bt1)(h2:bt1<=5)(h3:2<=bt2)(h4:bt2<=5)(row1 row2:List Int){s1 s2:Sd}(W1:Walked b row1 s1)(W2:Walked b row2 s2)(l1 l2:List Sd)(hl1:∀j,∀t∈j6 b (jv b) j,t∈l1)(hl2:∀j,∀t∈j6 b (jv b) j,t∈l2)(i:Nat)(x8 x9 x10 x11 x12 x13 x14:Sl):∃y8 y9 y10 y11 y12 y13 y14:Sl,
    vO C [r0,r1,.cl (jj b),.cl (jk C b),.cl (.lst [.int bt1,.int bt2]),.cl (.lst [rD row1,rD row2]),.cl (.lst [.dct (l1.map j0) (l1.map (hD b bt1)),.dct (l2.map j0) (l2.map (hD b bt2))]),.cl (.int (i:Int)),x8,x9,x10,x11,x12,x13,x14]=
    some (.nx [r0,r1,.cl (jj b),.cl (jk C b),.cl (.lst [.int bt1,.int bt2]),.cl (.lst [rD row1,rD row2]),.cl (.lst [.dct (l1.map j0) (l1.map (hD b bt1)),.dct (l2.map j0) (l2.map (hD b bt2))]),.cl (.int (i:Int)),y8,y9,y10,y11,y12,y13,y14]):=by
  obtain⟨row,s',W,ea⟩:∃(row:List Int) (s':Sd),Walked b row s'/\atI [rD row1,rD row2] ((i:Int) % 2)=some (rD row):=by
    have m:=jS (a:=(i:Int)) (b:=2) (by decide)
    by_cases e:(i:Int) % 2=0
    · exact⟨row1,s1,W1,by rw[e]; rfl⟩
    · have e:(i:Int) % 2=1:=by omega
      exact⟨row2,s2,W2,by rw[e]; rfl⟩
  obtain⟨n,hn,en⟩:∃n:Nat,n<=row.length/\gR [.int ((i:Int) / 2),.int (row.length:Int)]=some (.int (n:Int)):=by
    by_cases c:(row.length:Int) < (i:Int) / 2
    · exact⟨row.length,Nat.le_refl _,by show some (D.int (if (row.length:Int) < (i:Int) / 2 then(row.length:Int)else(i:Int) / 2))=_; rw[if_pos c]⟩
    · exact⟨((i:Int) / 2).toNat,by omega,by show some (D.int (if (row.length:Int) < (i:Int) / 2 then(row.length:Int)else(i:Int) / 2))=_; rw[if_neg c,show(((i:Int) / 2).toNat:Int)=(i:Int) / 2 by omega]⟩
  obtain⟨t,ht⟩:=GK (row.take n) (row.drop n) (jv b) s' (by rw[List.take_append_drop]; exact W.st)
  have sz:=W.sz
  have hrt:Za b (row.take n):=⟨fun x hx=>W.ks x (List.mem_of_mem_take hx),by rw[List.length_take]; omega⟩
  have q1:=GO C b (row.take n) ok hrt ht
  have ek:jN (row.map D.int) none (some (n:Int))=(row.take n).map D.int:=by rw[Y_,Kq]
  obtain⟨y13,y14,T1⟩:=QK C b ok bt1 h1 h2 r0 r1 (.cl (.lst [.int bt1,.int bt2])) (.cl (.lst [rD row1,rD row2])) (.cl (.lst [.dct (l1.map j0) (l1.map (hD b bt1)),.dct (l2.map j0) (l2.map (hD b bt2))])) (.cl (.int (i:Int))) row n hrt ht l1 hl1 x13 x14
  obtain⟨z13,z14,T2⟩:=QK C b ok bt2 h3 h4 r0 r1 (.cl (.lst [.int bt1,.int bt2])) (.cl (.lst [rD row1,rD row2])) (.cl (.lst [.dct (l1.map j0) (l1.map (hD b bt1)),.dct (l2.map j0) (l2.map (hD b bt2))])) (.cl (.int (i:Int))) row n hrt ht l2 hl2 y13 y14
  refine⟨.cl (.lst (row.map .int)),.cl (.int (n:Int)),.cl (j0 t),.cl (.int bt2),.cl (.dct (l2.map j0) (l2.map (hD b bt2))),z13,z14,?_⟩
  have LL:jw uM (Ym C) [.tup [.int bt1,.dct (l1.map j0) (l1.map (hD b bt1))],.tup [.int bt2,.dct (l2.map j0) (l2.map (hD b bt2))]] [r0,r1,.cl (jj b),.cl (jk C b),.cl (.lst [.int bt1,.int bt2]),.cl (.lst [rD row1,rD row2]),.cl (.lst [.dct (l1.map j0) (l1.map (hD b bt1)),.dct (l2.map j0) (l2.map (hD b bt2))]),.cl (.int (i:Int)),.cl (.lst (row.map .int)),.cl (.int (n:Int)),.cl (j0 t),x11,x12,x13,x14]=some (.nx [r0,r1,.cl (jj b),.cl (jk C b),.cl (.lst [.int bt1,.int bt2]),.cl (.lst [rD row1,rD row2]),.cl (.lst [.dct (l1.map j0) (l1.map (hD b bt1)),.dct (l2.map j0) (l2.map (hD b bt2))]),.cl (.int (i:Int)),.cl (.lst (row.map .int)),.cl (.int (n:Int)),.cl (j0 t),.cl (.int bt2),.cl (.dct (l2.map j0) (l2.map (hD b bt2))),z13,z14]):=by
    rw[jw]
    show(Ym C [r0,r1,.cl (jj b),.cl (jk C b),.cl (.lst [.int bt1,.int bt2]),.cl (.lst [rD row1,rD row2]),.cl (.lst [.dct (l1.map j0) (l1.map (hD b bt1)),.dct (l2.map j0) (l2.map (hD b bt2))]),.cl (.int (i:Int)),.cl (.lst (row.map .int)),.cl (.int (n:Int)),.cl (j0 t),.cl (.int bt1),.cl (.dct (l1.map j0) (l1.map (hD b bt1))),x13,x14]).bind _=_
    rw[T1,Option.bind_some]
    show jw uM (Ym C) [.tup [.int bt2,.dct (l2.map j0) (l2.map (hD b bt2))]] _=_
    rw[jw]
    show(Ym C [r0,r1,.cl (jj b),.cl (jk C b),.cl (.lst [.int bt1,.int bt2]),.cl (.lst [rD row1,rD row2]),.cl (.lst [.dct (l1.map j0) (l1.map (hD b bt1)),.dct (l2.map j0) (l2.map (hD b bt2))]),.cl (.int (i:Int)),.cl (.lst (row.map .int)),.cl (.int (n:Int)),.cl (j0 t),.cl (.int bt2),.cl (.dct (l2.map j0) (l2.map (hD b bt2))),y13,y14]).bind _=_
    rw[T2]
    rfl
  have er:rD row=.lst (row.map .int):=rfl
  rw[er]at ea
  revert q1 ek
  generalize row.take n=cut
  intro q1 ek
  simp only[vO]
  generalize uM=tt at LL⊢
  generalize Ym C=ll at LL⊢
  simp[-gR,ea,en,ek,q1,LL]
theorem Xe(C:Addr)(ns:List Int)(h:ns.length<=63):kn C [.scr ns]=some (.bl true):=by
  obtain⟨ms,e1,hm⟩:=WQ C ns 110 h (by decide) (by decide)
  have hml:ms.length=110:=by omega
  obtain⟨v59,a59⟩:=ud (ds:=ms) (k:=59) (by decide) (by omega)
  have m4:=jS (a:=v59) (b:=4) (by decide)
  have m5:=jS (a:=v59 / 4 + v59) (b:=4) (by decide)
  obtain⟨b,eb,ok,hbs⟩:=AW C ms 8 (by omega) (by omega) (by decide) (by decide)
  have s1:=ok.s1
  have em:=AQ C b ok
  have ec:∀k:Int,jN (ms.map D.int) (some k) (some (k + b.size))=(jN ms (some k) (some (k + b.size))).map D.int:=fun k=>Y_ _ _ _ _
  have hcl:∀k:Int,(jN ms (some k) (some (k + b.size))).length<=ms.length:=fun k=>UF ms (some k) (some (k + b.size))
  obtain⟨row1,t1,er1,W1,_⟩:=W4 C b (jN ms (some 60) (some (60 + b.size))) ok (by have:=hcl 60; omega)
  obtain⟨row2,t2,er2,W2,_⟩:=W4 C b (jN ms (some 70) (some (70 + b.size))) ok (by have:=hcl 70; omega)
  have ec1:=ec 60
  have ec2:=ec 70
  revert ec1 ec2 er1 er2
  generalize jN ms (some 60) (some (60 + b.size))=ms2
  generalize jN ms (some 70) (some (70 + b.size))=ms3
  intro ec1 ec2 er1 er2
  have hr0:Za b []:=⟨(fun n hn=>absurd hn (by simp)),by show((0:Nat):Int)<=_; omega⟩
  have ls:=GO C b [] ok hr0 (s:=jv b) rfl
  have L0:=KQ ok hr0 (s:=jv b) rfl
  obtain⟨l1,k1,hl1⟩:=GP C b ok (2 + v59 % 4) (by omega) (jv b) (Form.empty b) L0
  obtain⟨l2,k2,hl2⟩:=GP C b ok (2 + (v59 / 4 + v59) % 4) (by omega) (jv b) (Form.empty b) L0
  have b1:2<=2 + v59 % 4/\2 + v59 % 4<=5:=by omega
  have b2:2<=2 + (v59 / 4 + v59) % 4/\2 + (v59 / 4 + v59) % 4<=5:=by omega
  revert k1 k2 hl1 hl2 b1 b2
  generalize hb1:2 + v59 % 4=bt1
  generalize hb2:2 + (v59 / 4 + v59) % 4=bt2
  intro k1 hl1 k2 hl2 b1 b2
  have cm:vU 2 b.size=true:=zk (by decide) (by decide)
  have z1:jF (2 * b.size + 2)=true:=Jq (by omega) (by omega)
  rw[List.map_nil]at ls
  have kc:Ja (gN 0) jZ (dL (jY (yO C) [(false,(dV 1)),(false,(dV 0)),(true,(j8 (J_ C) [(false,(dV 1)),(false,(dL (J4 [])))]))])) [.int bt1,.int bt2] [.un,.cl (jj b)]=some [.dct (l1.map j0) (l1.map (hD b bt1)),.dct (l2.map j0) (l2.map (hD b bt2))]:=by
    simp[Ja,ls,k1,k2]
  obtain⟨ρ1,L1,y7,y8,y9,y10,y11,y12,y13,y14,rfl⟩:=Jn (g:=Ge) (s:=vO C) (items:=jJ 0 (2 * b.size + 2).toNat) (fun i ρ=>∃(y7 y8 y9 y10 y11 y12 y13 y14:Sl),ρ=[.bo (.scr ns),.cl (.lst (ms.map .int)),.cl (jj b),.cl (jk C b),.cl (.lst [.int bt1,.int bt2]),.cl (.lst [rD row1,rD row2]),.cl (.lst [.dct (l1.map j0) (l1.map (hD b bt1)),.dct (l2.map j0) (l2.map (hD b bt2))]),y7,y8,y9,y10,y11,y12,y13,y14]) (by
    rintro i d ρ hd ⟨y7,y8,y9,y10,y11,y12,y13,y14,rfl⟩
    obtain⟨hi,rfl⟩:=ZI hd
    obtain⟨z8,z9,z10,z11,z12,z13,z14,e⟩:=E4 C b ok (.bo (.scr ns)) (.cl (.lst (ms.map .int))) bt1 bt2 b1.1 b1.2 b2.1 b2.2 row1 row2 W1 W2 l1 l2 hl1 hl2 i y8 y9 y10 y11 y12 y13 y14
    exact⟨_,_,rfl,e,_,_,_,_,_,_,_,_,rfl⟩) (ρ:=[.bo (.scr ns),.cl (.lst (ms.map .int)),.cl (jj b),.cl (jk C b),.cl (.lst [.int bt1,.int bt2]),.cl (.lst [rD row1,rD row2]),.cl (.lst [.dct (l1.map j0) (l1.map (hD b bt1)),.dct (l2.map j0) (l2.map (hD b bt2))]),.un,.un,.un,.un,.un,.un,.un,.un]) ⟨.un,.un,.un,.un,.un,.un,.un,.un,rfl⟩
  have tl:∀l:List D,(OD.lst l).toD=.lst l:=fun _=>rfl
  have rr:∀r:List Int,rD r=.lst (r.map D.int):=fun _=>rfl
  rw[rr,rr]at L1
  have z2:(2:Nat)<=sizeLine:=by decide
  simp only[kn,km]
  generalize (dL (jY (yO C) [(false,(dV 1)),(false,(dV 0)),(true,(j8 (J_ C) [(false,(dV 1)),(false,(dL (J4 [])))]))]))=dte at kc⊢
  generalize Ge=tt at L1⊢
  generalize vO C=ll at L1⊢
  simp[-OD.toD,tl,e1,eb,em,X2,a59,hb1,hb2,ec1,ec2,er1,er2,kc,z2,cm,z1,L1,v6]
end M
noncomputable section
namespace M
open PySem L2 DS CP
noncomputable def top(i:Nat):Stmt:=PySem.Challenge.pw_moonseat_k26_verdicts_and_advice.main.body.getD i (.Pass ⟨0,0,0,0⟩)
noncomputable def T0(C:Addr):Tb:=⟨C,[("LEAST_BEAT",.con 2),("MOST_BEAT",.con 5),("MOST_SIZE",.con 30),("MOST_KINDS",.con 4),("MOST_SHUNS",.con 20),("MOST_BARS",.con 12),("MOST_DUES",.con 3),("MOST_RUN",.con 4),("MOST_REST",.con 4),("MOST_FAR",.con 2),("all",.blt),("any",.blt),("bool",.blt),("enumerate",.blt),("int",.blt),("isinstance",.blt),("len",.blt),("list",.blt),("max",.blt),("min",.blt),("range",.blt),("reversed",.blt),("str",.blt),("tuple",.blt),("zip",.blt)],[],["size", "kind_rows", "shun_rows", "bar_rows", "due_rows"]⟩
noncomputable def vP(C:Addr):De:=⟨"_law_numbers", "_law_numbers",(top 54),["_law_script", "_law_many"],["_law_row", "_law_seed", "_law_cell", "_law_rest", "_law_k"],[false,false],(YM C),[],[],[2]⟩
theorem Gp(C:Addr):Ck (T0 C) (vP C) true:=⟨by kernel_rfl,rfl,fun _ _ _ _ _ _ us hl=>yK us hl fun _ _=>rfl⟩
noncomputable def T1(C:Addr):Tb:=(T0 C).ag "_law_numbers" ((vP C).F 0)
noncomputable def vQ(C:Addr):De:=⟨"_law_windows", "_law_windows",(top 56),["_law_many", "_law_size", "_law_count", "_law_d"],["_law_rows", "_law_k", "_law_first"],[false,false,false,false],(YO C),[],[],[4]⟩
theorem Gq(C:Addr):Ck (T1 C) (vQ C) true:=⟨by kernel_rfl,rfl,fun _ _ _ _ _ _ us hl=>X1 us hl fun _ _ _ _=>rfl⟩
noncomputable def T2(C:Addr):Tb:=(T1 C).ag "_law_windows" ((vQ C).F 2)
noncomputable def U5(C:Addr):De:=⟨"_law_book", "_law_book",(top 57),["_law_d", "_law_most"],["_law_many", "_law_size", "_law_kinds", "_law_k", "_law_least", "_law_rest", "_law_shuns", "_law_at", "_law_wide", "_law_bars", "_law_wanted"],[false,false],(v8 C),[((284,16,82),[0])],[(289,4),(289,8)],[4,8]⟩
theorem wp(C:Addr):Ck (T2 C) (U5 C) false:=⟨by kernel_rfl,rfl,fun _ _ _ _ _ _ us hl=>yK us hl fun _ _=>rfl⟩
noncomputable def T3(C:Addr):Tb:=(T2 C).ag "_law_book" ((U5 C).E 4)
noncomputable def Vy(C:Addr):De:=⟨"fits_counts", "fits_counts",(top 50),["size", "kinds", "shuns", "bars", "dues"],[],[false,false,false,false,false],(zI C),[],[],[]⟩
theorem k6(C:Addr):Ck (T3 C) (Vy C) false:=⟨by kernel_rfl,rfl,fun _ _ _ _ _ _ us hl=>CD us hl fun _ _ _ _ _=>rfl⟩
noncomputable def T4(C:Addr):Tb:=(T3 C).ag "fits_counts" ((Vy C).E 6)
noncomputable def U6(C:Addr):De:=⟨"fits_kind", "fits_kind",(top 47),["row"],["least", "most", "rest"],[true],(vd C),[],[],[]⟩
theorem wq(C:Addr):Ck (T4 C) (U6 C) false:=⟨by kernel_rfl,rfl,fun _ _ _ _ _ _ us hl=>Gd us hl fun _=>rfl⟩
noncomputable def T5(C:Addr):Tb:=(T4 C).ag "fits_kind" ((U6 C).E 8)
noncomputable def U7(C:Addr):De:=⟨"fits_shun", "fits_shun",(top 48),["row", "many"],["one", "other", "far"],[true,false],(ve C),[],[],[]⟩
theorem wr(C:Addr):Ck (T5 C) (U7 C) false:=⟨by kernel_rfl,rfl,fun _ _ _ _ _ _ us hl=>yK us hl fun _ _=>rfl⟩
noncomputable def T6(C:Addr):Tb:=(T5 C).ag "fits_shun" ((U7 C).E 10)
noncomputable def U8(C:Addr):De:=⟨"fits_span", "fits_span",(top 49),["row", "many", "size"],["kind", "first", "last"],[true,false,false],(vf C),[],[],[]⟩
theorem wt(C:Addr):Ck (T6 C) (U8 C) false:=⟨by kernel_rfl,rfl,fun _ _ _ _ _ _ us hl=>yz us hl fun _ _ _=>rfl⟩
noncomputable def T7(C:Addr):Tb:=(T6 C).ag "fits_span" ((U8 C).E 12)
noncomputable def U9(C:Addr):De:=⟨"fits_rows", "fits_rows",(top 51),["size", "kinds", "shuns", "bars", "dues"],["many"],[false,false,false,false,false],(vg C),[((207,15,54),[5]),((209,54,65),[]),((209,15,66),[5,0])],[],[]⟩
theorem wu(C:Addr):Ck (T7 C) (U9 C) false:=⟨by kernel_rfl,rfl,fun _ _ _ _ _ _ us hl=>CD us hl fun _ _ _ _ _=>rfl⟩
noncomputable def T8(C:Addr):Tb:=(T7 C).ag "fits_rows" ((U9 C).E 14)
noncomputable def yn(C:Addr):De:=⟨"__init__", "Rules.__init__",(inClass (top 52) 0),["self", "size", "kinds", "shuns", "bars", "dues"],[],[true,false,false,false,false],(yk C),[],[],[0]⟩
theorem UL(C:Addr):U0 (T8 C) (yn C) false=some (yk C):=by kernel_rfl
theorem UM(C:Addr):Bd "__init__" "Rules.__init__" (inClass (top 52) 0) ["self", "size", "kinds", "shuns", "bars", "dues"]:=fun _ _ _ _ _ _ us hl=>f_ us hl fun _ _ _ _ _ _=>rfl
noncomputable def T9(C:Addr):Tb:=(T8 C).ag "Rules" (.mk 17 (yn C).ps (yn C).ks (JR C) (Jg C))
noncomputable def Ua(C:Addr):De:=⟨"_law_made", "_law_made",(top 58),["_law_book_here"],[],[false],(vi C),[],[],[]⟩
theorem ww(C:Addr):Ck (T9 C) (Ua C) true:=⟨by kernel_rfl,rfl,fun _ _ _ _ _ _ us hl=>Gd us hl fun _=>rfl⟩
noncomputable def CL(C:Addr):Tb:=(T9 C).ag "_law_made" ((Ua C).F 18)
noncomputable def ui(C:Addr):De:=⟨"_law_start", "_law_start",(top 59),["_law_book_here"],[],[false],(Zs C),[],[],[]⟩
theorem KZ(C:Addr):Ck (CL C) (ui C) false:=⟨by kernel_rfl,rfl,fun _ _ _ _ _ _ us hl=>Gd us hl fun _=>rfl⟩
noncomputable def CM(C:Addr):Tb:=(CL C).ag "_law_start" ((ui C).E 20)
noncomputable def zy(C:Addr):De:=⟨"_law_turned_away", "_law_turned_away",(top 60),["_law_book_here", "_law_stand_here", "_law_new"],["_law_kind", "_law_length", "_law_before", "_law_waits", "_law_one", "_law_other", "_law_far"],[false,false,false],(yL C),[((295,54,74),[])],[],[]⟩
theorem uj(C:Addr):Ck (CM C) (zy C) false:=⟨by kernel_rfl,rfl,fun _ _ _ _ _ _ us hl=>yz us hl fun _ _ _=>rfl⟩
noncomputable def CN(C:Addr):Tb:=(CM C).ag "_law_turned_away" ((zy C).E 22)
noncomputable def gx(C:Addr):De:=⟨"_law_met", "_law_met",(top 61),["_law_book_here", "_law_here", "_law_met_here", "_law_new"],["_law_done", "_law_k", "_law_kind", "_law_first", "_law_last"],[false,false,false,false],(V1 C),[],[],[4]⟩
theorem WU(C:Addr):Ck (CN C) (gx C) false:=⟨by kernel_rfl,rfl,fun _ _ _ _ _ _ us hl=>X1 us hl fun _ _ _ _=>rfl⟩
noncomputable def CO(C:Addr):Tb:=(CN C).ag "_law_met" ((gx C).E 24)
noncomputable def Ub(C:Addr):De:=⟨"_law_step", "_law_step",(top 62),["_law_book_here", "_law_stand_here", "_law_new"],["_law_place", "_law_kind", "_law_length", "_law_before", "_law_waits", "_law_met_here", "_law_here", "_law_run", "_law_closed", "_law_first", "_law_last", "_law_done", "_law_left", "_law_j", "_law_least", "_law_most", "_law_rest", "_law_wait"],[false,true,true],(vk C),[],[],[15]⟩
theorem wx(C:Addr):Ck (CO C) (Ub C) false:=⟨by kernel_rfl,rfl,fun _ _ _ _ _ _ us hl=>yz us hl fun _ _ _=>rfl⟩
noncomputable def CQ(C:Addr):Tb:=(CO C).ag "_law_step" ((Ub C).E 26)
noncomputable def Uc(C:Addr):De:=⟨"_law_walk", "_law_walk",(top 63),["_law_book_here", "_law_d"],["_law_row", "_law_stand_here", "_law_number", "_law_some"],[false,false],(vm C),[((338,20,138),[0,3])],[],[2]⟩
theorem wy(C:Addr):Ck (CQ C) (Uc C) true:=⟨by kernel_rfl,rfl,fun _ _ _ _ _ _ us hl=>yK us hl fun _ _=>rfl⟩
noncomputable def CS(C:Addr):Tb:=(CQ C).ag "_law_walk" ((Uc C).F 28)
noncomputable def Vz(C:Addr):De:=⟨"_law_levels", "_law_levels",(top 65),["_law_book_here", "_law_stand_here"],["_law_floors", "_law_known", "_law_one", "_law_kind", "_law_behind"],[false,true],(zL C),[((356,20,43),[]),((357,27,43),[])],[],[2,3]⟩
theorem k7(C:Addr):Ck (CS C) (Vz C) true:=⟨by kernel_rfl,rfl,fun _ _ _ _ _ _ us hl=>yK us hl fun _ _=>rfl⟩
noncomputable def CT(C:Addr):Tb:=(CS C).ag "_law_levels" ((Vz C).F 30)
noncomputable def uk(C:Addr):De:=⟨"_law_hosts", "_law_hosts",(top 66),["_law_book_here", "_law_beat", "_law_stand_here"],["_law_known", "_law_floor", "_law_one", "_law_later", "_law_kind", "_law_behind"],[false,false,true],(Zt C),[((367,38,61),[]),((369,16,36),[]),((371,16,36),[]),((373,16,36),[])],[],[3,6]⟩
theorem K_(C:Addr):Ck (CT C) (uk C) true:=⟨by kernel_rfl,rfl,fun _ _ _ _ _ _ us hl=>yz us hl fun _ _ _=>rfl⟩
noncomputable def CU(C:Addr):Tb:=(CT C).ag "_law_hosts" ((uk C).F 32)
noncomputable def ul(C:Addr):De:=⟨"_law_stand", "_law_stand",(top 64),["_law_book_here", "_law_row"],["_law_stand_here", "_law_kind"],[false,false],(Zu C),[],[],[]⟩
theorem w5(C:Addr):Ck (CU C) (ul C) false:=⟨by kernel_rfl,rfl,fun _ _ _ _ _ _ us hl=>yK us hl fun _ _=>rfl⟩
noncomputable def CV(C:Addr):Tb:=(CU C).ag "_law_stand" ((ul C).E 34)
noncomputable def wz(C:Addr):De:=⟨"_law_same", "_law_same",(top 55),["_law_found", "_law_due"],[],[false,false],jG,[],[],[]⟩
theorem wA(C:Addr)(m:Nat):U0 ((CV C).ag "_law_same" (.fE (36 + m) ["_law_found", "_law_due"] [false,false] (jP C m))) (wz C) false=some (zj C (jP C m)):=by kernel_rfl
theorem wB(C:Addr):Bd "_law_same" "_law_same" (top 55) ["_law_found", "_law_due"]:=fun _ _ _ _ _ _ us hl=>yK us hl fun _ _=>rfl
noncomputable def CW(C:Addr):Tb:=(CV C).ag "_law_same" (.fE (36 + 6) ["_law_found", "_law_due"] [false,false] (jP C 6))
noncomputable def um(C:Addr):De:=⟨"check_beat", "check_beat",(top 33),["beat"],[],[false],(Zv C),[],[],[]⟩
theorem w8(C:Addr):Ck (CW C) (um C) false:=⟨by kernel_rfl,rfl,fun _ _ _ _ _ _ us hl=>Gd us hl fun _=>rfl⟩
noncomputable def CY(C:Addr):Tb:=(CW C).ag "check_beat" ((um C).E 42)
noncomputable def ZK(C:Addr):De:=⟨"many", "Rules.many",(inClass (top 52) 5),["self"],[],[false],(Zw C),[],[],[]⟩
theorem wa(C:Addr):Ck (CY C) (ZK C) false:=⟨by kernel_rfl,rfl,fun _ _ _ _ _ _ us hl=>Gd us hl fun _=>rfl⟩
noncomputable def CZ(C:Addr):Tb:=(CY C).am "many" ((ZK C).E 44)
noncomputable def GR(C:Addr):De:=⟨"is_kind", "is_kind",(top 25),["rules", "number"],[],[false,false],(u4 C),[],[],[]⟩
theorem QL(C:Addr):Ck (CZ C) (GR C) false:=⟨by kernel_rfl,rfl,fun _ _ _ _ _ _ us hl=>yK us hl fun _ _=>rfl⟩
noncomputable def C_(C:Addr):Tb:=(CZ C).ag "is_kind" ((GR C).E 46)
noncomputable def zY(C:Addr):De:=⟨"has_kinds_alone", "has_kinds_alone",(top 26),["rules", "row"],[],[false,false],(Y4 C),[((120,15,57),[0])],[],[]⟩
theorem uS(C:Addr):Ck (C_ C) (zY C) false:=⟨by kernel_rfl,rfl,fun _ _ _ _ _ _ us hl=>yK us hl fun _ _=>rfl⟩
noncomputable def d4(C:Addr):Tb:=(C_ C).ag "has_kinds_alone" ((zY C).E 48)
noncomputable def Ud(C:Addr):De:=⟨"check_row", "check_row",(top 27),["rules", "row"],[],[false,false],(vn C),[],[],[]⟩
theorem wC(C:Addr):Ck (d4 C) (Ud C) false:=⟨by kernel_rfl,rfl,fun _ _ _ _ _ _ us hl=>yK us hl fun _ _=>rfl⟩
noncomputable def d8(C:Addr):Tb:=(d4 C).ag "check_row" ((Ud C).E 50)
noncomputable def VA(C:Addr):De:=⟨"empty_stand", "empty_stand",(top 8),["rules"],["waits", "met"],[false],(zN C),[],[],[]⟩
theorem k8(C:Addr):Ck (d8 C) (VA C) false:=⟨by kernel_rfl,rfl,fun _ _ _ _ _ _ us hl=>Gd us hl fun _=>rfl⟩
noncomputable def dg(C:Addr):Tb:=(d8 C).ag "empty_stand" ((VA C).E 52)
noncomputable def Ue(C:Addr):De:=⟨"is_barred", "is_barred",(top 13),["rules", "stand", "kind"],["place", "barred", "first", "last"],[false,false,false],(vq C),[],[],[]⟩
theorem wD(C:Addr):Ck (dg C) (Ue C) false:=⟨by kernel_rfl,rfl,fun _ _ _ _ _ _ us hl=>yz us hl fun _ _ _=>rfl⟩
noncomputable def dh(C:Addr):Tb:=(dg C).ag "is_barred" ((Ue C).E 54)
noncomputable def GS(C:Addr):De:=⟨"is_long", "is_long",(top 14),["rules", "stand", "kind"],[],[false,false,false],(u5 C),[],[],[]⟩
theorem QM(C:Addr):Ck (dh C) (GS C) false:=⟨by kernel_rfl,rfl,fun _ _ _ _ _ _ us hl=>yz us hl fun _ _ _=>rfl⟩
noncomputable def dj(C:Addr):Tb:=(dh C).ag "is_long" ((GS C).E 56)
noncomputable def gy(C:Addr):De:=⟨"is_short", "is_short",(top 15),["rules", "stand", "kind"],["last"],[false,false,false],(V3 C),[],[],[]⟩
theorem WV(C:Addr):Ck (dj C) (gy C) false:=⟨by kernel_rfl,rfl,fun _ _ _ _ _ _ us hl=>yz us hl fun _ _ _=>rfl⟩
noncomputable def dl(C:Addr):Tb:=(dj C).ag "is_short" ((gy C).E 58)
noncomputable def gz(C:Addr):De:=⟨"is_early", "is_early",(top 16),["stand", "kind"],[],[false,false],(V5 C),[],[],[]⟩
theorem WW(C:Addr):Ck (dl C) (gz C) false:=⟨by kernel_rfl,rfl,fun _ _ _ _ _ _ us hl=>yK us hl fun _ _=>rfl⟩
noncomputable def dm(C:Addr):Tb:=(dl C).ag "is_early" ((gz C).E 60)
noncomputable def uo(C:Addr):De:=⟨"is_shunned", "is_shunned",(top 17),["rules", "stand", "kind"],["one", "other", "far", "ahead"],[false,false,false],(Zx C),[],[],[]⟩
theorem wb(C:Addr):Ck (dm C) (uo C) false:=⟨by kernel_rfl,rfl,fun _ _ _ _ _ _ us hl=>yz us hl fun _ _ _=>rfl⟩
noncomputable def dn(C:Addr):Tb:=(dm C).ag "is_shunned" ((uo C).E 62)
noncomputable def gA(C:Addr):De:=⟨"met_with", "met_with",(top 11),["rules", "stand", "kind"],["place", "met", "due", "is_met", "meant", "first", "last"],[false,false,false],(V7 C),[],[],[4]⟩
theorem WX(C:Addr):Ck (dn C) (gA C) false:=⟨by kernel_rfl,rfl,fun _ _ _ _ _ _ us hl=>yz us hl fun _ _ _=>rfl⟩
noncomputable def dw(C:Addr):Tb:=(dn C).ag "met_with" ((gA C).E 64)
noncomputable def uq(C:Addr):De:=⟨"misses_due", "misses_due",(top 18),["rules", "stand", "kind"],["place", "due", "is_met"],[false,false,false],(ZA C),[],[],[]⟩
theorem wc(C:Addr):Ck (dw C) (uq C) false:=⟨by kernel_rfl,rfl,fun _ _ _ _ _ _ us hl=>yz us hl fun _ _ _=>rfl⟩
noncomputable def dz(C:Addr):Tb:=(dw C).ag "misses_due" ((uq C).E 66)
noncomputable def gB(C:Addr):De:=⟨"run_with", "run_with",(top 9),["stand", "kind"],[],[false,false],(V8 C),[],[],[]⟩
theorem WY(C:Addr):Ck (dz C) (gB C) false:=⟨by kernel_rfl,rfl,fun _ _ _ _ _ _ us hl=>yK us hl fun _ _=>rfl⟩
noncomputable def dA(C:Addr):Tb:=(dz C).ag "run_with" ((gB C).E 68)
noncomputable def wd(C:Addr):De:=⟨"is_cut", "is_cut",(top 19),["rules", "stand", "kind"],[],[false,false,false],(Uw C),[],[],[]⟩
theorem Xf(C:Addr):Ck (dA C) (wd C) false:=⟨by kernel_rfl,rfl,fun _ _ _ _ _ _ us hl=>yz us hl fun _ _ _=>rfl⟩
noncomputable def dB(C:Addr):Tb:=(dA C).ag "is_cut" ((wd C).E 70)
noncomputable def we(C:Addr):De:=⟨"breach", "breach",(top 20),["rules", "stand", "kind"],[],[false,false,false],(Uy C),[],[],[]⟩
theorem Xg(C:Addr):Ck (dB C) (we C) false:=⟨by kernel_rfl,rfl,fun _ _ _ _ _ _ us hl=>yz us hl fun _ _ _=>rfl⟩
noncomputable def dE(C:Addr):Tb:=(dB C).ag "breach" ((we C).E 72)
noncomputable def ur(C:Addr):De:=⟨"waits_with", "waits_with",(top 10),["rules", "stand", "kind"],["last", "waits"],[false,false,false],(ZC C),[],[],[4]⟩
theorem wf(C:Addr):Ck (dE C) (ur C) false:=⟨by kernel_rfl,rfl,fun _ _ _ _ _ _ us hl=>yz us hl fun _ _ _=>rfl⟩
noncomputable def dF(C:Addr):Tb:=(dE C).ag "waits_with" ((ur C).E 74)
noncomputable def ut(C:Addr):De:=⟨"stand_with", "stand_with",(top 12),["rules", "stand", "kind"],["length", "waits", "met"],[false,false,true],(ZE C),[],[],[]⟩
theorem wg(C:Addr):Ck (dF C) (ut C) false:=⟨by kernel_rfl,rfl,fun _ _ _ _ _ _ us hl=>yz us hl fun _ _ _=>rfl⟩
noncomputable def dG(C:Addr):Tb:=(dF C).ag "stand_with" ((ut C).E 76)
noncomputable def wj(C:Addr):De:=⟨"walked", "walked",(top 28),["rules", "row"],["stand", "kind", "word"],[false,false],(Uz C),[],[],[]⟩
theorem Xh(C:Addr):Ck (dG C) (wj C) false:=⟨by kernel_rfl,rfl,fun _ _ _ _ _ _ us hl=>yK us hl fun _ _=>rfl⟩
noncomputable def dH(C:Addr):Tb:=(dG C).ag "walked" ((wj C).E 78)
noncomputable def gD(C:Addr):De:=⟨"stand_of", "stand_of",(top 29),["rules", "row"],["stand", "word"],[false,false],(Va C),[],[],[]⟩
theorem WZ(C:Addr):Ck (dH C) (gD C) false:=⟨by kernel_rfl,rfl,fun _ _ _ _ _ _ us hl=>yK us hl fun _ _=>rfl⟩
noncomputable def dI(C:Addr):Tb:=(dH C).ag "stand_of" ((gD C).E 80)
noncomputable def GT(C:Addr):De:=⟨"stepped", "stepped",(top 21),["rules", "stand", "kind"],[],[false,false,true],(u8 C),[],[],[]⟩
theorem QN(C:Addr):Ck (dI C) (GT C) false:=⟨by kernel_rfl,rfl,fun _ _ _ _ _ _ us hl=>yz us hl fun _ _ _=>rfl⟩
noncomputable def dJ(C:Addr):Tb:=(dI C).ag "stepped" ((GT C).E 82)
noncomputable def uu(C:Addr):De:=⟨"steps_from", "steps_from",(top 22),["rules", "stand"],["steps", "kind", "after"],[false,false],(ZF C),[],[],[2]⟩
theorem wk(C:Addr):Ck (dJ C) (uu C) true:=⟨by kernel_rfl,rfl,fun _ _ _ _ _ _ us hl=>yK us hl fun _ _=>rfl⟩
noncomputable def dM(C:Addr):Tb:=(dJ C).ag "steps_from" ((uu C).F 84)
noncomputable def VB(C:Addr):De:=⟨"layers_from", "layers_from",(top 23),["rules", "stand"],["layers", "ahead", "layer", "behind", "each", "kind", "after"],[false,true],(zQ C),[((110,12,23),[]),((111,31,42),[]),((112,16,29),[]),((114,16,28),[])],[(113,4)],[2,4,5]⟩
theorem k9(C:Addr):Ck (dM C) (VB C) true:=⟨by kernel_rfl,rfl,fun _ _ _ _ _ _ us hl=>yK us hl fun _ _=>rfl⟩
noncomputable def dN(C:Addr):Tb:=(dM C).ag "layers_from" ((VB C).F 86)
noncomputable def zZ(C:Addr):De:=⟨"spoiler_is_next", "spoiler_is_next",(top 34),["beat", "stand"],[],[false,false],(Y6 C),[],[],[]⟩
theorem uT(C:Addr):Ck (dN C) (zZ C) false:=⟨by kernel_rfl,rfl,fun _ _ _ _ _ _ us hl=>yK us hl fun _ _=>rfl⟩
noncomputable def dQ(C:Addr):Tb:=(dN C).ag "spoiler_is_next" ((zZ C).E 88)
noncomputable def uv(C:Addr):De:=⟨"hosts_from", "hosts_from",(top 35),["rules", "beat", "stand"],["hosts", "layer", "each", "steps", "ends"],[false,false,true],(ZG C),[((152,20,32),[]),((152,19,58),[3]),((154,16,27),[]),((156,16,27),[]),((158,16,27),[])],[],[3]⟩
theorem wl(C:Addr):Ck (dQ C) (uv C) true:=⟨by kernel_rfl,rfl,fun _ _ _ _ _ _ us hl=>yz us hl fun _ _ _=>rfl⟩
noncomputable def dR(C:Addr):Tb:=(dQ C).ag "hosts_from" ((uv C).F 90)
noncomputable def GU(C:Addr):De:=⟨"verdict", "verdict",(top 36),["rules", "beat", "row"],["stand"],[false,false,false],(ua C),[((163,7,44),[])],[],[]⟩
theorem QO(C:Addr):Ck (dR C) (GU C) false:=⟨by kernel_rfl,rfl,fun _ _ _ _ _ _ us hl=>yz us hl fun _ _ _=>rfl⟩
noncomputable def dS(C:Addr):Tb:=(dR C).ag "verdict" ((GU C).E 92)
noncomputable def wm(C:Addr):De:=⟨"advice", "advice",(top 37),["rules", "beat", "row"],["stand", "hosts", "wanted", "kind", "after"],[false,false,false],(UB C),[((172,11,23),[])],[],[]⟩
theorem Xi(C:Addr):Ck (dS C) (wm C) false:=⟨by kernel_rfl,rfl,fun _ _ _ _ _ _ us hl=>yz us hl fun _ _ _=>rfl⟩
noncomputable def dU(C:Addr):Tb:=(dS C).ag "advice" ((wm C).E 94)
noncomputable def VC(C:Addr):De:=⟨"_law_advice", "_law_advice",(top 67),["_law_book_here", "_law_beat", "_law_stand_here", "_law_known"],["_law_foe", "_law_kind", "_law_behind"],[false,false,true,false],(zS C),[((379,99,126),[]),((379,39,62),[]),((379,66,93),[])],[],[]⟩
theorem ka(C:Addr):Ck (dU C) (VC C) false:=⟨by kernel_rfl,rfl,fun _ _ _ _ _ _ us hl=>X1 us hl fun _ _ _ _=>rfl⟩
noncomputable def Eu(C:Addr):Tb:=(dU C).ag "_law_advice" ((VC C).E 96)
noncomputable def aM(C:Addr):De:=⟨"law", "law",(top 68),["_law_script"],["_law_numbers_here", "_law_book_here", "_law_rules", "_law_beats", "_law_rows", "_law_known", "_law_k", "_law_row", "_law_size", "_law_stand_here", "_law_beat", "_law_all_known", "_law_handed", "_law_due"],[false],(km C),[((388,17,116),[2]),((395,33,64),[])],[],[]⟩
theorem E5(C:Addr):U0 (Eu C) (aM C) false=some (km C):=by kernel_rfl
end M
set_option maxHeartbeats 0
noncomputable def PySem.W.Fast.tw2072628897170000039:PySem.Program:=PySem.Challenge.pw_moonseat_k26_verdicts_and_advice
theorem PySem.W.Fast.te2072628897170000039:PySem.Challenge.pw_moonseat_k26_verdicts_and_advice=PySem.W.Fast.tw2072628897170000039:=rfl
namespace Hd
noncomputable section
open PySem PySem.W PyProof.Rows L2 M
noncomputable abbrev pw:=PySem.Challenge.pw_moonseat_k26_verdicts_and_advice
theorem prm:((fun(_:Params->Obj)=>true) boot_o_0)=true:=by first | k_qdec | rfl
noncomputable def de(P:Params)(x:Str)(t:Nat)(v:Value):DictEntry:=⟨PyData.keyHash P x,.str x t,v⟩
noncomputable def f3(a b:Int)(r:Nat)(l:List Value):List Value:=.int a 0 :: .int b 0 :: .ref r :: l
noncomputable def fC(n q:Str)(a b c:Nat)(l x1 x2 x3 x4:Int)(r1:Nat)(z:Bool)(k:Int)(r2:Nat)(m:Int)(e:Nat):Data:=.fields #[.str n a,.str q b,.str "/claim/cut.py" c,.int l 0,.int x1 0,.int x2 0,.int x3 0,.int x4 0,.ref r1,.bool z,.int k 0,.ref r2,.none,.none,.none,.none,.int m 0,.int l 0,.str "/claim/cut.py" e]
noncomputable def oU(l:List Value):Obj:=⟨.type "tuple",none,.seq (List.toArray l) 0,#[]⟩
noncomputable def oF(n q:Str)(s:Stmt)(m:Str)(t cd:Nat):Obj:=⟨.type "function",none,.func (fnOf n q (defArgs s) (defBody s) (defScope s) .none .none .none (.str m t) none (.ref cd) .none),#[]⟩
noncomputable def oT(n q:Str)(s:Stmt):Obj:=⟨.none,none,.func { name:=n,qualname:=q,params:=defArgs s,body:=.stmts (defBody s),scope:=defScope s,globals:=0,closure:=[],defaults:=.none,kwdefaults:=.none,doc:=.none,pyModule:=.none,annotations:=none,code:=.none,closureTuple:=.none,builtins:=0 },#[]⟩
noncomputable def ins2:BT->Nat->Obj->BT
  | .nil,_,o=>.node o .nil .nil
  | .node v l r,i,o=>match Nat.beq i 0 with
    | true=>.node o l r
    | false=>match Nat.beq (i % 2) 1 with
      | true=>.node v (ins2 l (i / 2) o) r
      | false=>.node v l (ins2 r (i / 2 - 1) o)
noncomputable def putAll(t:BT)(l:List (Nat×Obj)):BT:=l.foldl (fun t q=>ins2 t q.1 q.2) t
noncomputable def env:Env:={ scope:=pw.main.scope,locals:=mainNs,globals:=mainNs,cells:=[],code:=.ref 13,frame:=some 14 }
noncomputable def bd:List Stmt:=behindTheImports pw
noncomputable def cE:Code:=.body bd env
noncomputable def o0:Obj:=oU []
noncomputable def o1:Obj:=⟨.none,none,(.fields #[]),#[]⟩
noncomputable def o2:Obj:=⟨.type "code",none,(fC "<module>" "<module>" 182 183 184 1 0 0 0 0 11 false 181 12 185 186),#[]⟩
noncomputable def o3:Obj:=⟨.type "frame",none,.plain,#[some (.ref 13),some (.ref 3),some (.ref 3),none,some (.str "__main__" 164),none,some (.ref 0)]⟩
noncomputable def c4(P:Params):List Obj:=[boot_o_0 P,boot_o_1 P,boot_o_2 P,boot_o_3 P,boot_o_4 P,boot_o_5 P,boot_o_6 P,boot_o_7 P]
noncomputable def c5(P:Params):List Obj:=[boot_o_8 P,boot_o_9 P,boot_o_10 P,o0,o1,o2,o3]
noncomputable def c6(P:Params):List (Nat×Obj):=[(0,boot_o_0 P),(1,boot_o_1 P),(2,boot_o_2 P),(3,boot_o_3 P),(4,boot_o_4 P),(5,boot_o_5 P),(6,boot_o_6 P),(7,boot_o_7 P)]
noncomputable def c7(P:Params):List (Nat×Obj):=[(8,boot_o_8 P),(9,boot_o_9 P),(10,boot_o_10 P),(11,o0),(12,o1),(13,o2),(14,o3)]
noncomputable def c8(P:Params):List DictEntry:=[de P "__name__" 165 (.str "moonseat.errors" 187),de P "__doc__" 166 .none,de P "__package__" 167 .none,de P "__loader__" 168 (.builtin "__main__.__loader__#opaque"),de P "__spec__" 169 .none,de P "__annotations__" 170 (.ref 6),de P "__builtins__" 171 (.ref 4),de P "__file__" 173 (.str "/claim/cut.py" 172)]
noncomputable def c9(P:Params):List DictEntry:=[de P "__cached__" 174 .none,de P "VerseError" 206 (.ref 24),de P "BadRules" 222 (.ref 37),de P "NoKind" 238 (.ref 49),de P "TooLong" 254 (.ref 61)]
noncomputable def o10(P:Params):Obj:=⟨.type "dict",none,(.dict (List.toArray (List.append (c8 P) (c9 P))) 13),#[]⟩
noncomputable def c11:List Value:=f3 2 0 20 (f3 4 0 33 (f3 6 0 45 (f3 8 0 57 ([]))))
noncomputable def o12:Obj:=⟨.none,none,(.fields (List.toArray (c11))),#[]⟩
noncomputable def o13:Obj:=oU [.type "ValueError"]
noncomputable def o14:Obj:=⟨.type "builtin_function_or_method",none,(.fields #[.builtin "type.__prepare__",.type "type"]),#[]⟩
noncomputable def o15(P:Params):Obj:=⟨.type "dict",none,(.dict (List.toArray [de P "__module__" 196 (.str "moonseat.errors" 187),de P "__qualname__" 198 (.str "VerseError" 197),de P "__firstlineno__" 200 (.int 2 199),de P "__static_attributes__" 201 (.ref 22)]) 4),#[]⟩
noncomputable def o16:Obj:=⟨.type "code",none,(fC "VerseError" "VerseError" 191 192 193 2 0 0 0 0 18 false 181 19 194 195),#[]⟩
noncomputable def o17:Obj:=⟨.type "frame",none,.plain,#[some (.ref 20),some (.ref 3),some (.ref 17),none,some (.str "moonseat.errors" 187),none,some (.ref 0)]⟩
noncomputable def o18(P:Params):Obj:=⟨.type "dict",none,(.dict (List.toArray [de P "__module__" 196 (.str "moonseat.errors" 187),de P "__firstlineno__" 200 (.int 2 199),de P "__static_attributes__" 201 (.ref 22),de P "__weakref__" 203 (.ref 25),de P "__doc__" 204 .none]) 3),#[]⟩
noncomputable def o19:Obj:=⟨.type "type",none,(.cls { name := "VerseError",bases:=[.type "ValueError"],mro:=[.ref 24,.type "ValueError",.type "Exception",.type "BaseException",.type "object"],ns:=23,qualname := "VerseError",hasDict:=true,slotNames:=[],subclasses:=[.ref 37,.ref 49,.ref 61],abstract:=false,collection:=none,hasDel:=false }),#[some (.ref 15),none,some (.str "VerseError" 189),some (.str "VerseError" 197),some (.builtin "ValueError.__new__"),some (.bool true)]⟩
noncomputable def o20:Obj:=⟨.type "getset_descriptor",none,(.fields #[.str "__weakref__" 202,.ref 24,.builtin "ExceptionGroup.__weakref__",.none]),#[]⟩
noncomputable def o21:Obj:=⟨.type "super",none,(.fields #[.ref 24,.ref 24,.ref 24]),#[]⟩
noncomputable def o22:Obj:=⟨.type "builtin_function_or_method",none,(.fields #[.builtin "object.__init_subclass__",.ref 24]),#[]⟩
noncomputable def o23:Obj:=oU [.ref 24]
noncomputable def o24(P:Params):Obj:=⟨.type "dict",none,(.dict (List.toArray [de P "__module__" 214 (.str "moonseat.errors" 187),de P "__qualname__" 216 (.str "BadRules" 215),de P "__firstlineno__" 218 (.int 4 217),de P "__static_attributes__" 219 (.ref 35)]) 4),#[]⟩
noncomputable def o25:Obj:=⟨.type "code",none,(fC "BadRules" "BadRules" 209 210 211 4 0 0 0 0 31 false 181 32 212 213),#[]⟩
noncomputable def o26:Obj:=⟨.type "frame",none,.plain,#[some (.ref 33),some (.ref 3),some (.ref 30),none,some (.str "moonseat.errors" 187),none,some (.ref 0)]⟩
noncomputable def o27(P:Params):Obj:=⟨.type "dict",none,(.dict (List.toArray [de P "__module__" 214 (.str "moonseat.errors" 187),de P "__firstlineno__" 218 (.int 4 217),de P "__static_attributes__" 219 (.ref 35),de P "__doc__" 220 .none]) 2),#[]⟩
noncomputable def o28:Obj:=⟨.type "type",none,(.cls { name := "BadRules",bases:=[.ref 24],mro:=[.ref 37,.ref 24,.type "ValueError",.type "Exception",.type "BaseException",.type "object"],ns:=36,qualname := "BadRules",hasDict:=true,slotNames:=[],subclasses:=[],abstract:=false,collection:=none,hasDel:=false }),#[some (.ref 28),none,some (.str "BadRules" 207),some (.str "BadRules" 215),some (.builtin "ValueError.__new__"),some (.bool true)]⟩
noncomputable def o29:Obj:=⟨.type "super",none,(.fields #[.ref 37,.ref 37,.ref 37]),#[]⟩
noncomputable def o30:Obj:=⟨.type "builtin_function_or_method",none,(.fields #[.builtin "object.__init_subclass__",.ref 37]),#[]⟩
noncomputable def o31(P:Params):Obj:=⟨.type "dict",none,(.dict (List.toArray [de P "__module__" 230 (.str "moonseat.errors" 187),de P "__qualname__" 232 (.str "NoKind" 231),de P "__firstlineno__" 234 (.int 6 233),de P "__static_attributes__" 235 (.ref 47)]) 4),#[]⟩
noncomputable def o32:Obj:=⟨.type "code",none,(fC "NoKind" "NoKind" 225 226 227 6 0 0 0 0 43 false 181 44 228 229),#[]⟩
noncomputable def o33:Obj:=⟨.type "frame",none,.plain,#[some (.ref 45),some (.ref 3),some (.ref 42),none,some (.str "moonseat.errors" 187),none,some (.ref 0)]⟩
noncomputable def o34(P:Params):Obj:=⟨.type "dict",none,(.dict (List.toArray [de P "__module__" 230 (.str "moonseat.errors" 187),de P "__firstlineno__" 234 (.int 6 233),de P "__static_attributes__" 235 (.ref 47),de P "__doc__" 236 .none]) 2),#[]⟩
noncomputable def o35:Obj:=⟨.type "type",none,(.cls { name := "NoKind",bases:=[.ref 24],mro:=[.ref 49,.ref 24,.type "ValueError",.type "Exception",.type "BaseException",.type "object"],ns:=48,qualname := "NoKind",hasDict:=true,slotNames:=[],subclasses:=[],abstract:=false,collection:=none,hasDel:=false }),#[some (.ref 40),none,some (.str "NoKind" 223),some (.str "NoKind" 231),some (.builtin "ValueError.__new__"),some (.bool true)]⟩
noncomputable def o36:Obj:=⟨.type "super",none,(.fields #[.ref 49,.ref 49,.ref 49]),#[]⟩
noncomputable def o37:Obj:=⟨.type "builtin_function_or_method",none,(.fields #[.builtin "object.__init_subclass__",.ref 49]),#[]⟩
noncomputable def o38(P:Params):Obj:=⟨.type "dict",none,(.dict (List.toArray [de P "__module__" 246 (.str "moonseat.errors" 187),de P "__qualname__" 248 (.str "TooLong" 247),de P "__firstlineno__" 250 (.int 8 249),de P "__static_attributes__" 251 (.ref 59)]) 4),#[]⟩
noncomputable def o39:Obj:=⟨.type "code",none,(fC "TooLong" "TooLong" 241 242 243 8 0 0 0 0 55 false 181 56 244 245),#[]⟩
noncomputable def o40:Obj:=⟨.type "frame",none,.plain,#[some (.ref 57),some (.ref 3),some (.ref 54),none,some (.str "moonseat.errors" 187),none,some (.ref 0)]⟩
noncomputable def o41(P:Params):Obj:=⟨.type "dict",none,(.dict (List.toArray [de P "__module__" 246 (.str "moonseat.errors" 187),de P "__firstlineno__" 250 (.int 8 249),de P "__static_attributes__" 251 (.ref 59),de P "__doc__" 252 .none]) 2),#[]⟩
noncomputable def o42:Obj:=⟨.type "type",none,(.cls { name := "TooLong",bases:=[.ref 24],mro:=[.ref 61,.ref 24,.type "ValueError",.type "Exception",.type "BaseException",.type "object"],ns:=60,qualname := "TooLong",hasDict:=true,slotNames:=[],subclasses:=[],abstract:=false,collection:=none,hasDel:=false }),#[some (.ref 52),none,some (.str "TooLong" 239),some (.str "TooLong" 247),some (.builtin "ValueError.__new__"),some (.bool true)]⟩
noncomputable def o43:Obj:=⟨.type "super",none,(.fields #[.ref 61,.ref 61,.ref 61]),#[]⟩
noncomputable def o44:Obj:=⟨.type "builtin_function_or_method",none,(.fields #[.builtin "object.__init_subclass__",.ref 61]),#[]⟩
noncomputable def c45(P:Params):List (Nat×Obj):=[(3,o10 P),(12,o12),(15,o13),(16,o14),(17,o15 P),(18,o0),(19,o1),(20,o16)]
noncomputable def c46(P:Params):List (Nat×Obj):=[(21,o17),(22,o0),(23,o18 P),(24,o19),(25,o20),(26,o21),(27,o22),(28,o23)]
noncomputable def c47(P:Params):List (Nat×Obj):=[(29,o14),(30,o24 P),(31,o0),(32,o1),(33,o25),(34,o26),(35,o0),(36,o27 P)]
noncomputable def c48(P:Params):List (Nat×Obj):=[(37,o28),(38,o29),(39,o30),(40,o23),(41,o14),(42,o31 P),(43,o0),(44,o1)]
noncomputable def c49(P:Params):List (Nat×Obj):=[(45,o32),(46,o33),(47,o0),(48,o34 P),(49,o35),(50,o36),(51,o37),(52,o23)]
noncomputable def c50(P:Params):List (Nat×Obj):=[(53,o14),(54,o38 P),(55,o0),(56,o1),(57,o39),(58,o40),(59,o0),(60,o41 P)]
noncomputable def c51:List (Nat×Obj):=[(61,o42),(62,o43),(63,o44)]
noncomputable def c52(P:Params):List DictEntry:=[de P "__name__" 165 (.str "moonseat.sheets" 469),de P "__doc__" 166 .none,de P "__package__" 167 .none,de P "__loader__" 168 (.builtin "__main__.__loader__#opaque"),de P "__spec__" 169 .none,de P "__annotations__" 170 (.ref 6),de P "__builtins__" 171 (.ref 4),de P "__file__" 173 (.str "/claim/cut.py" 172)]
noncomputable def c53(P:Params):List DictEntry:=[de P "__cached__" 174 .none,de P "VerseError" 206 (.ref 24),de P "BadRules" 222 (.ref 37),de P "NoKind" 238 (.ref 49),de P "TooLong" 254 (.ref 61),de P "BadBeat" 270 (.ref 73),de P "Broken" 297 (.ref 92),de P "empty_stand" 308 (.ref 101)]
noncomputable def c54(P:Params):List DictEntry:=[de P "run_with" 316 (.ref 108),de P "waits_with" 322 (.ref 113),de P "met_with" 338 (.ref 120),de P "stand_with" 350 (.ref 127),de P "is_barred" 363 (.ref 134),de P "is_long" 372 (.ref 141),de P "is_short" 382 (.ref 148),de P "is_early" 390 (.ref 155)]
noncomputable def c55(P:Params):List DictEntry:=[de P "is_shunned" 403 (.ref 162),de P "misses_due" 415 (.ref 169),de P "is_cut" 424 (.ref 176),de P "breach" 433 (.ref 183),de P "stepped" 442 (.ref 190),de P "steps_from" 453 (.ref 197),de P "layers_from" 468 (.ref 204)]
noncomputable def o56(P:Params):Obj:=⟨.type "dict",none,(.dict (List.toArray (List.append (c52 P) (List.append (c53 P) (List.append (c54 P) (c55 P))))) 31),#[]⟩
noncomputable def c57:List Value:=f3 2 0 20 (f3 4 0 33 (f3 6 0 45 (f3 8 0 57 (f3 10 0 69 (f3 12 0 81 (f3 18 0 100 (f3 22 0 107 ([]))))))))
noncomputable def c58:List Value:=f3 26 0 112 (f3 33 0 119 (f3 40 0 126 (f3 45 0 133 (f3 51 0 140 (f3 53 0 147 (f3 58 0 154 (f3 60 0 161 ([]))))))))
noncomputable def c59:List Value:=f3 66 0 168 (f3 72 0 175 (f3 76 0 182 (f3 92 0 189 (f3 96 0 196 (f3 103 0 203 ([]))))))
noncomputable def o60:Obj:=⟨.none,none,(.fields (List.toArray (List.append (c57) (List.append (c58) (c59))))),#[]⟩
noncomputable def o61:Obj:=⟨.type "type",none,(.cls { name := "VerseError",bases:=[.type "ValueError"],mro:=[.ref 24,.type "ValueError",.type "Exception",.type "BaseException",.type "object"],ns:=23,qualname := "VerseError",hasDict:=true,slotNames:=[],subclasses:=[.ref 37,.ref 49,.ref 61,.ref 73,.ref 92],abstract:=false,collection:=none,hasDel:=false }),#[some (.ref 15),none,some (.str "VerseError" 189),some (.str "VerseError" 197),some (.builtin "ValueError.__new__"),some (.bool true)]⟩
noncomputable def o62(P:Params):Obj:=⟨.type "dict",none,(.dict (List.toArray [de P "__module__" 262 (.str "moonseat.errors" 187),de P "__qualname__" 264 (.str "BadBeat" 263),de P "__firstlineno__" 266 (.int 10 265),de P "__static_attributes__" 267 (.ref 71)]) 4),#[]⟩
noncomputable def o63:Obj:=⟨.type "code",none,(fC "BadBeat" "BadBeat" 257 258 259 10 0 0 0 0 67 false 181 68 260 261),#[]⟩
noncomputable def o64:Obj:=⟨.type "frame",none,.plain,#[some (.ref 69),some (.ref 3),some (.ref 66),none,some (.str "moonseat.errors" 187),none,some (.ref 0)]⟩
noncomputable def o65(P:Params):Obj:=⟨.type "dict",none,(.dict (List.toArray [de P "__module__" 262 (.str "moonseat.errors" 187),de P "__firstlineno__" 266 (.int 10 265),de P "__static_attributes__" 267 (.ref 71),de P "__doc__" 268 .none]) 2),#[]⟩
noncomputable def o66:Obj:=⟨.type "type",none,(.cls { name := "BadBeat",bases:=[.ref 24],mro:=[.ref 73,.ref 24,.type "ValueError",.type "Exception",.type "BaseException",.type "object"],ns:=72,qualname := "BadBeat",hasDict:=true,slotNames:=[],subclasses:=[],abstract:=false,collection:=none,hasDel:=false }),#[some (.ref 64),none,some (.str "BadBeat" 255),some (.str "BadBeat" 263),some (.builtin "ValueError.__new__"),some (.bool true)]⟩
noncomputable def o67:Obj:=⟨.type "super",none,(.fields #[.ref 73,.ref 73,.ref 73]),#[]⟩
noncomputable def o68:Obj:=⟨.type "builtin_function_or_method",none,(.fields #[.builtin "object.__init_subclass__",.ref 73]),#[]⟩
noncomputable def o69(P:Params):Obj:=⟨.type "dict",none,(.dict (List.toArray [de P "__module__" 278 (.str "moonseat.errors" 187),de P "__qualname__" 280 (.str "Broken" 279),de P "__firstlineno__" 282 (.int 12 281),de P "__init__" 291 (.ref 89),de P "__static_attributes__" 294 (.ref 90)]) 5),#[]⟩
noncomputable def o70:Obj:=⟨.none,none,(.fields #[.int 14 0,.int 4 0,.ref 88]),#[]⟩
noncomputable def o71:Obj:=⟨.type "code",none,(fC "Broken" "Broken" 273 274 275 12 0 0 0 0 79 false 181 80 276 277),#[]⟩
noncomputable def o72:Obj:=⟨.type "frame",none,.plain,#[some (.ref 81),some (.ref 3),some (.ref 78),none,some (.str "moonseat.errors" 187),none,some (.ref 0)]⟩
noncomputable def o73:Obj:=oU [.str "self" 286,.str "place" 287,.str "word" 288]
noncomputable def o74:Obj:=oT "__init__" "Broken.__init__" (inClass (top 6) 0)
noncomputable def o75:Obj:=⟨.type "code",none,(.fields #[.str "__init__" 283,.str "Broken.__init__" 284,.str "/claim/cut.py" 285,.int 14 0,.int 3 0,.int 0 0,.int 0 0,.int 3 0,.ref 83,.bool true,.int 181 0,.ref 84,.none,.ref 85,.ref 86,.ref 87,.int 289 0,.int 14 0,.str "/claim/cut.py" 290]),#[]⟩
noncomputable def o76:Obj:=oF "__init__" "Broken.__init__" (inClass (top 6) 0) "moonseat.errors" 187 88
noncomputable def o77:Obj:=oU [.str "place" 292,.str "word" 293]
noncomputable def o78(P:Params):Obj:=⟨.type "dict",none,(.dict (List.toArray [de P "__module__" 278 (.str "moonseat.errors" 187),de P "__firstlineno__" 282 (.int 12 281),de P "__init__" 291 (.ref 89),de P "__static_attributes__" 294 (.ref 90),de P "__doc__" 295 .none]) 2),#[]⟩
noncomputable def o79:Obj:=⟨.type "type",none,(.cls { name := "Broken",bases:=[.ref 24],mro:=[.ref 92,.ref 24,.type "ValueError",.type "Exception",.type "BaseException",.type "object"],ns:=91,qualname := "Broken",hasDict:=true,slotNames:=[],subclasses:=[],abstract:=false,collection:=none,hasDel:=false }),#[some (.ref 76),none,some (.str "Broken" 271),some (.str "Broken" 279),some (.builtin "ValueError.__new__"),some (.bool true)]⟩
noncomputable def o80:Obj:=⟨.type "super",none,(.fields #[.ref 92,.ref 92,.ref 92]),#[]⟩
noncomputable def o81:Obj:=⟨.type "builtin_function_or_method",none,(.fields #[.builtin "object.__init_subclass__",.ref 92]),#[]⟩
noncomputable def o82:Obj:=oU [.str "rules" 303,.str "waits" 304,.str "met" 305]
noncomputable def o83:Obj:=oT "empty_stand" "empty_stand" (top 8)
noncomputable def o84:Obj:=⟨.type "code",none,(.fields #[.str "empty_stand" 300,.str "empty_stand" 301,.str "/claim/cut.py" 302,.int 18 0,.int 1 0,.int 0 0,.int 0 0,.int 3 0,.ref 95,.bool true,.int 181 0,.ref 96,.none,.ref 97,.ref 98,.ref 99,.int 306 0,.int 18 0,.str "/claim/cut.py" 307]),#[]⟩
noncomputable def o85:Obj:=oF "empty_stand" "empty_stand" (top 8) "moonseat.stands" 298 100
noncomputable def o86:Obj:=oU [.str "stand" 312,.str "kind" 313]
noncomputable def o87:Obj:=oT "run_with" "run_with" (top 9)
noncomputable def o88:Obj:=⟨.type "code",none,(.fields #[.str "run_with" 309,.str "run_with" 310,.str "/claim/cut.py" 311,.int 22 0,.int 2 0,.int 0 0,.int 0 0,.int 3 0,.ref 102,.bool true,.int 181 0,.ref 103,.none,.ref 104,.ref 105,.ref 106,.int 314 0,.int 22 0,.str "/claim/cut.py" 315]),#[]⟩
noncomputable def o89:Obj:=oF "run_with" "run_with" (top 9) "moonseat.stands" 298 107
noncomputable def o90:Obj:=oT "waits_with" "waits_with" (top 10)
noncomputable def o91:Obj:=⟨.type "code",none,(.fields #[.str "waits_with" 317,.str "waits_with" 318,.str "/claim/cut.py" 319,.int 26 0,.int 3 0,.int 0 0,.int 0 0,.int 3 0,.ref 109,.bool true,.int 181 0,.ref 110,.none,.none,.none,.ref 111,.int 320 0,.int 26 0,.str "/claim/cut.py" 321]),#[]⟩
noncomputable def o92:Obj:=oF "waits_with" "waits_with" (top 10) "moonseat.stands" 298 112
noncomputable def o93:Obj:=oU [.str "rules" 326,.str "stand" 327,.str "kind" 328,.str "place" 329,.str "met" 330,.str "due" 331,.str "is_met" 332,.str "meant" 333,.str "first" 334,.str "last" 335]
noncomputable def o94:Obj:=oT "met_with" "met_with" (top 11)
noncomputable def o95:Obj:=⟨.type "code",none,(.fields #[.str "met_with" 323,.str "met_with" 324,.str "/claim/cut.py" 325,.int 33 0,.int 3 0,.int 0 0,.int 0 0,.int 3 0,.ref 114,.bool true,.int 181 0,.ref 115,.none,.ref 116,.ref 117,.ref 118,.int 336 0,.int 33 0,.str "/claim/cut.py" 337]),#[]⟩
noncomputable def o96:Obj:=oF "met_with" "met_with" (top 11) "moonseat.stands" 298 119
noncomputable def o97:Obj:=oU [.str "rules" 342,.str "stand" 343,.str "kind" 344,.str "length" 345,.str "waits" 346,.str "met" 347]
noncomputable def o98:Obj:=oT "stand_with" "stand_with" (top 12)
noncomputable def o99:Obj:=⟨.type "code",none,(.fields #[.str "stand_with" 339,.str "stand_with" 340,.str "/claim/cut.py" 341,.int 40 0,.int 3 0,.int 0 0,.int 0 0,.int 3 0,.ref 121,.bool true,.int 181 0,.ref 122,.none,.ref 123,.ref 124,.ref 125,.int 348 0,.int 40 0,.str "/claim/cut.py" 349]),#[]⟩
noncomputable def o100:Obj:=oF "stand_with" "stand_with" (top 12) "moonseat.stands" 298 126
noncomputable def o101:Obj:=oU [.str "rules" 354,.str "stand" 355,.str "kind" 356,.str "place" 357,.str "barred" 358,.str "first" 359,.str "last" 360]
noncomputable def o102:Obj:=oT "is_barred" "is_barred" (top 13)
noncomputable def o103:Obj:=⟨.type "code",none,(.fields #[.str "is_barred" 351,.str "is_barred" 352,.str "/claim/cut.py" 353,.int 45 0,.int 3 0,.int 0 0,.int 0 0,.int 3 0,.ref 128,.bool true,.int 181 0,.ref 129,.none,.ref 130,.ref 131,.ref 132,.int 361 0,.int 45 0,.str "/claim/cut.py" 362]),#[]⟩
noncomputable def o104:Obj:=oF "is_barred" "is_barred" (top 13) "moonseat.stands" 298 133
noncomputable def o105:Obj:=oU [.str "rules" 367,.str "stand" 368,.str "kind" 369]
noncomputable def o106:Obj:=oT "is_long" "is_long" (top 14)
noncomputable def o107:Obj:=⟨.type "code",none,(.fields #[.str "is_long" 364,.str "is_long" 365,.str "/claim/cut.py" 366,.int 51 0,.int 3 0,.int 0 0,.int 0 0,.int 3 0,.ref 135,.bool true,.int 181 0,.ref 136,.none,.ref 137,.ref 138,.ref 139,.int 370 0,.int 51 0,.str "/claim/cut.py" 371]),#[]⟩
noncomputable def o108:Obj:=oF "is_long" "is_long" (top 14) "moonseat.stands" 298 140
noncomputable def o109:Obj:=oU [.str "rules" 376,.str "stand" 377,.str "kind" 378,.str "last" 379]
noncomputable def o110:Obj:=oT "is_short" "is_short" (top 15)
noncomputable def o111:Obj:=⟨.type "code",none,(.fields #[.str "is_short" 373,.str "is_short" 374,.str "/claim/cut.py" 375,.int 53 0,.int 3 0,.int 0 0,.int 0 0,.int 3 0,.ref 142,.bool true,.int 181 0,.ref 143,.none,.ref 144,.ref 145,.ref 146,.int 380 0,.int 53 0,.str "/claim/cut.py" 381]),#[]⟩
noncomputable def o112:Obj:=oF "is_short" "is_short" (top 15) "moonseat.stands" 298 147
noncomputable def o113:Obj:=oU [.str "stand" 386,.str "kind" 387]
noncomputable def o114:Obj:=oT "is_early" "is_early" (top 16)
noncomputable def o115:Obj:=⟨.type "code",none,(.fields #[.str "is_early" 383,.str "is_early" 384,.str "/claim/cut.py" 385,.int 58 0,.int 2 0,.int 0 0,.int 0 0,.int 3 0,.ref 149,.bool true,.int 181 0,.ref 150,.none,.ref 151,.ref 152,.ref 153,.int 388 0,.int 58 0,.str "/claim/cut.py" 389]),#[]⟩
noncomputable def o116:Obj:=oF "is_early" "is_early" (top 16) "moonseat.stands" 298 154
noncomputable def o117:Obj:=oU [.str "rules" 394,.str "stand" 395,.str "kind" 396,.str "one" 397,.str "other" 398,.str "far" 399,.str "ahead" 400]
noncomputable def o118:Obj:=oT "is_shunned" "is_shunned" (top 17)
noncomputable def o119:Obj:=⟨.type "code",none,(.fields #[.str "is_shunned" 391,.str "is_shunned" 392,.str "/claim/cut.py" 393,.int 60 0,.int 3 0,.int 0 0,.int 0 0,.int 3 0,.ref 156,.bool true,.int 181 0,.ref 157,.none,.ref 158,.ref 159,.ref 160,.int 401 0,.int 60 0,.str "/claim/cut.py" 402]),#[]⟩
noncomputable def o120:Obj:=oF "is_shunned" "is_shunned" (top 17) "moonseat.stands" 298 161
noncomputable def o121:Obj:=oU [.str "rules" 407,.str "stand" 408,.str "kind" 409,.str "place" 410,.str "due" 411,.str "is_met" 412]
noncomputable def o122:Obj:=oT "misses_due" "misses_due" (top 18)
noncomputable def o123:Obj:=⟨.type "code",none,(.fields #[.str "misses_due" 404,.str "misses_due" 405,.str "/claim/cut.py" 406,.int 66 0,.int 3 0,.int 0 0,.int 0 0,.int 3 0,.ref 163,.bool true,.int 181 0,.ref 164,.none,.ref 165,.ref 166,.ref 167,.int 413 0,.int 66 0,.str "/claim/cut.py" 414]),#[]⟩
noncomputable def o124:Obj:=oF "misses_due" "misses_due" (top 18) "moonseat.stands" 298 168
noncomputable def o125:Obj:=oU [.str "rules" 419,.str "stand" 420,.str "kind" 421]
noncomputable def o126:Obj:=oT "is_cut" "is_cut" (top 19)
noncomputable def o127:Obj:=⟨.type "code",none,(.fields #[.str "is_cut" 416,.str "is_cut" 417,.str "/claim/cut.py" 418,.int 72 0,.int 3 0,.int 0 0,.int 0 0,.int 3 0,.ref 170,.bool true,.int 181 0,.ref 171,.none,.ref 172,.ref 173,.ref 174,.int 422 0,.int 72 0,.str "/claim/cut.py" 423]),#[]⟩
noncomputable def o128:Obj:=oF "is_cut" "is_cut" (top 19) "moonseat.stands" 298 175
noncomputable def o129:Obj:=oU [.str "rules" 428,.str "stand" 429,.str "kind" 430]
noncomputable def o130:Obj:=oT "breach" "breach" (top 20)
noncomputable def o131:Obj:=⟨.type "code",none,(.fields #[.str "breach" 425,.str "breach" 426,.str "/claim/cut.py" 427,.int 76 0,.int 3 0,.int 0 0,.int 0 0,.int 3 0,.ref 177,.bool true,.int 181 0,.ref 178,.none,.ref 179,.ref 180,.ref 181,.int 431 0,.int 76 0,.str "/claim/cut.py" 432]),#[]⟩
noncomputable def o132:Obj:=oF "breach" "breach" (top 20) "moonseat.stands" 298 182
noncomputable def o133:Obj:=oU [.str "rules" 437,.str "stand" 438,.str "kind" 439]
noncomputable def o134:Obj:=oT "stepped" "stepped" (top 21)
noncomputable def o135:Obj:=⟨.type "code",none,(.fields #[.str "stepped" 434,.str "stepped" 435,.str "/claim/cut.py" 436,.int 92 0,.int 3 0,.int 0 0,.int 0 0,.int 3 0,.ref 184,.bool true,.int 181 0,.ref 185,.none,.ref 186,.ref 187,.ref 188,.int 440 0,.int 92 0,.str "/claim/cut.py" 441]),#[]⟩
noncomputable def o136:Obj:=oF "stepped" "stepped" (top 21) "moonseat.stands" 298 189
noncomputable def o137:Obj:=oU [.str "rules" 446,.str "stand" 447,.str "steps" 448,.str "kind" 449,.str "after" 450]
noncomputable def o138:Obj:=oT "steps_from" "steps_from" (top 22)
noncomputable def o139:Obj:=⟨.type "code",none,(.fields #[.str "steps_from" 443,.str "steps_from" 444,.str "/claim/cut.py" 445,.int 96 0,.int 2 0,.int 0 0,.int 0 0,.int 3 0,.ref 191,.bool true,.int 181 0,.ref 192,.none,.ref 193,.ref 194,.ref 195,.int 451 0,.int 96 0,.str "/claim/cut.py" 452]),#[]⟩
noncomputable def o140:Obj:=oF "steps_from" "steps_from" (top 22) "moonseat.stands" 298 196
noncomputable def o141:Obj:=oU [.str "rules" 457,.str "stand" 458,.str "layers" 459,.str "ahead" 460,.str "layer" 461,.str "behind" 462,.str "each" 463,.str "kind" 464,.str "after" 465]
noncomputable def o142:Obj:=oT "layers_from" "layers_from" (top 23)
noncomputable def o143:Obj:=⟨.type "code",none,(.fields #[.str "layers_from" 454,.str "layers_from" 455,.str "/claim/cut.py" 456,.int 103 0,.int 2 0,.int 0 0,.int 0 0,.int 3 0,.ref 198,.bool true,.int 181 0,.ref 199,.none,.ref 200,.ref 201,.ref 202,.int 466 0,.int 103 0,.str "/claim/cut.py" 467]),#[]⟩
noncomputable def o144:Obj:=oF "layers_from" "layers_from" (top 23) "moonseat.stands" 298 203
noncomputable def c145(P:Params):List (Nat×Obj):=[(3,o56 P),(12,o60),(24,o61),(64,o23),(65,o14),(66,o62 P),(67,o0),(68,o1)]
noncomputable def c146(P:Params):List (Nat×Obj):=[(69,o63),(70,o64),(71,o0),(72,o65 P),(73,o66),(74,o67),(75,o68),(76,o23)]
noncomputable def c147(P:Params):List (Nat×Obj):=[(77,o14),(78,o69 P),(79,o0),(80,o70),(81,o71),(82,o72),(83,o0),(84,o1)]
noncomputable def c148(P:Params):List (Nat×Obj):=[(85,o73),(86,o0),(87,o74),(88,o75),(89,o76),(90,o77),(91,o78 P),(92,o79)]
noncomputable def c149:List (Nat×Obj):=[(93,o80),(94,o81),(95,o0),(96,o1),(97,o82),(98,o0),(99,o83),(100,o84)]
noncomputable def c150:List (Nat×Obj):=[(101,o85),(102,o0),(103,o1),(104,o86),(105,o0),(106,o87),(107,o88),(108,o89)]
noncomputable def c151:List (Nat×Obj):=[(109,o0),(110,o1),(111,o90),(112,o91),(113,o92),(114,o0),(115,o1),(116,o93)]
noncomputable def c152:List (Nat×Obj):=[(117,o0),(118,o94),(119,o95),(120,o96),(121,o0),(122,o1),(123,o97),(124,o0)]
noncomputable def c153:List (Nat×Obj):=[(125,o98),(126,o99),(127,o100),(128,o0),(129,o1),(130,o101),(131,o0),(132,o102)]
noncomputable def c154:List (Nat×Obj):=[(133,o103),(134,o104),(135,o0),(136,o1),(137,o105),(138,o0),(139,o106),(140,o107)]
noncomputable def c155:List (Nat×Obj):=[(141,o108),(142,o0),(143,o1),(144,o109),(145,o0),(146,o110),(147,o111),(148,o112)]
noncomputable def c156:List (Nat×Obj):=[(149,o0),(150,o1),(151,o113),(152,o0),(153,o114),(154,o115),(155,o116),(156,o0)]
noncomputable def c157:List (Nat×Obj):=[(157,o1),(158,o117),(159,o0),(160,o118),(161,o119),(162,o120),(163,o0),(164,o1)]
noncomputable def c158:List (Nat×Obj):=[(165,o121),(166,o0),(167,o122),(168,o123),(169,o124),(170,o0),(171,o1),(172,o125)]
noncomputable def c159:List (Nat×Obj):=[(173,o0),(174,o126),(175,o127),(176,o128),(177,o0),(178,o1),(179,o129),(180,o0)]
noncomputable def c160:List (Nat×Obj):=[(181,o130),(182,o131),(183,o132),(184,o0),(185,o1),(186,o133),(187,o0),(188,o134)]
noncomputable def c161:List (Nat×Obj):=[(189,o135),(190,o136),(191,o0),(192,o1),(193,o137),(194,o0),(195,o138),(196,o139)]
noncomputable def c162:List (Nat×Obj):=[(197,o140),(198,o0),(199,o1),(200,o141),(201,o0),(202,o142),(203,o143),(204,o144)]
noncomputable def c163(P:Params):List DictEntry:=[de P "__name__" 165 (.str "law_moonseat_k26_verdicts_and_advice" 705),de P "__doc__" 166 .none,de P "__package__" 167 .none,de P "__loader__" 168 (.builtin "__main__.__loader__#opaque"),de P "__spec__" 169 .none,de P "__annotations__" 170 (.ref 6),de P "__builtins__" 171 (.ref 4),de P "__file__" 173 (.str "/claim/cut.py" 172)]
noncomputable def c164(P:Params):List DictEntry:=[de P "is_shunned" 403 (.ref 162),de P "misses_due" 415 (.ref 169),de P "is_cut" 424 (.ref 176),de P "breach" 433 (.ref 183),de P "stepped" 442 (.ref 190),de P "steps_from" 453 (.ref 197),de P "layers_from" 468 (.ref 204),de P "is_kind" 478 (.ref 211)]
noncomputable def c165(P:Params):List DictEntry:=[de P "has_kinds_alone" 484 (.ref 216),de P "check_row" 492 (.ref 223),de P "walked" 503 (.ref 230),de P "stand_of" 513 (.ref 237),de P "LEAST_BEAT" 517 (.int 2 516),de P "MOST_BEAT" 519 (.int 5 518),de P "check_beat" 526 (.ref 244),de P "spoiler_is_next" 534 (.ref 251)]
noncomputable def c166(P:Params):List DictEntry:=[de P "hosts_from" 540 (.ref 256),de P "verdict" 550 (.ref 263),de P "advice" 564 (.ref 270),de P "MOST_SIZE" 568 (.int 30 567),de P "MOST_KINDS" 570 (.int 4 569),de P "MOST_SHUNS" 572 (.int 20 571),de P "MOST_BARS" 574 (.int 12 573),de P "MOST_DUES" 576 (.int 3 575)]
noncomputable def c167(P:Params):List DictEntry:=[de P "MOST_RUN" 578 (.int 4 577),de P "MOST_REST" 580 (.int 4 579),de P "MOST_FAR" 582 (.int 2 581),de P "fits_kind" 592 (.ref 277),de P "fits_shun" 603 (.ref 284),de P "fits_span" 615 (.ref 291),de P "fits_counts" 626 (.ref 298),de P "fits_rows" 632 (.ref 303)]
noncomputable def c168(P:Params):List DictEntry:=[de P "Rules" 704 (.ref 355),de P "_law_numbers" 719 (.ref 366)]
noncomputable def o169(P:Params):Obj:=⟨.type "dict",none,(.dict (List.toArray (List.append (c163 P) (List.append (c53 P) (List.append (c54 P) (List.append (c164 P) (List.append (c165 P) (List.append (c166 P) (List.append (c167 P) (c168 P))))))))) 58),#[]⟩
noncomputable def c170:List Value:=f3 66 0 168 (f3 72 0 175 (f3 76 0 182 (f3 92 0 189 (f3 96 0 196 (f3 103 0 203 (f3 117 0 210 (f3 119 0 215 ([]))))))))
noncomputable def c171:List Value:=f3 121 0 222 (f3 126 0 229 (f3 134 0 236 (f3 143 0 243 (f3 146 0 250 (f3 148 0 255 (f3 160 0 262 (f3 166 0 269 ([]))))))))
noncomputable def c172:List Value:=f3 184 0 276 (f3 189 0 283 (f3 194 0 290 (f3 199 0 297 (f3 203 0 302 (f3 210 0 309 (f3 238 0 365 ([])))))))
noncomputable def o173:Obj:=⟨.none,none,(.fields (List.toArray (List.append (c57) (List.append (c58) (List.append (c170) (List.append (c171) (c172))))))),#[]⟩
noncomputable def o174:Obj:=oU [.str "rules" 474,.str "number" 475]
noncomputable def o175:Obj:=oT "is_kind" "is_kind" (top 25)
noncomputable def o176:Obj:=⟨.type "code",none,(.fields #[.str "is_kind" 471,.str "is_kind" 472,.str "/claim/cut.py" 473,.int 117 0,.int 2 0,.int 0 0,.int 0 0,.int 3 0,.ref 205,.bool true,.int 181 0,.ref 206,.none,.ref 207,.ref 208,.ref 209,.int 476 0,.int 117 0,.str "/claim/cut.py" 477]),#[]⟩
noncomputable def o177:Obj:=oF "is_kind" "is_kind" (top 25) "moonseat.sheets" 469 210
noncomputable def o178:Obj:=oT "has_kinds_alone" "has_kinds_alone" (top 26)
noncomputable def o179:Obj:=⟨.type "code",none,(.fields #[.str "has_kinds_alone" 479,.str "has_kinds_alone" 480,.str "/claim/cut.py" 481,.int 119 0,.int 2 0,.int 0 0,.int 0 0,.int 3 0,.ref 212,.bool true,.int 181 0,.ref 213,.none,.none,.none,.ref 214,.int 482 0,.int 119 0,.str "/claim/cut.py" 483]),#[]⟩
noncomputable def o180:Obj:=oF "has_kinds_alone" "has_kinds_alone" (top 26) "moonseat.sheets" 469 215
noncomputable def o181:Obj:=oU [.str "rules" 488,.str "row" 489]
noncomputable def o182:Obj:=oT "check_row" "check_row" (top 27)
noncomputable def o183:Obj:=⟨.type "code",none,(.fields #[.str "check_row" 485,.str "check_row" 486,.str "/claim/cut.py" 487,.int 121 0,.int 2 0,.int 0 0,.int 0 0,.int 3 0,.ref 217,.bool true,.int 181 0,.ref 218,.none,.ref 219,.ref 220,.ref 221,.int 490 0,.int 121 0,.str "/claim/cut.py" 491]),#[]⟩
noncomputable def o184:Obj:=oF "check_row" "check_row" (top 27) "moonseat.sheets" 469 222
noncomputable def o185:Obj:=oU [.str "rules" 496,.str "row" 497,.str "stand" 498,.str "kind" 499,.str "word" 500]
noncomputable def o186:Obj:=oT "walked" "walked" (top 28)
noncomputable def o187:Obj:=⟨.type "code",none,(.fields #[.str "walked" 493,.str "walked" 494,.str "/claim/cut.py" 495,.int 126 0,.int 2 0,.int 0 0,.int 0 0,.int 3 0,.ref 224,.bool true,.int 181 0,.ref 225,.none,.ref 226,.ref 227,.ref 228,.int 501 0,.int 126 0,.str "/claim/cut.py" 502]),#[]⟩
noncomputable def o188:Obj:=oF "walked" "walked" (top 28) "moonseat.sheets" 469 229
noncomputable def o189:Obj:=oU [.str "rules" 507,.str "row" 508,.str "stand" 509,.str "word" 510]
noncomputable def o190:Obj:=oT "stand_of" "stand_of" (top 29)
noncomputable def o191:Obj:=⟨.type "code",none,(.fields #[.str "stand_of" 504,.str "stand_of" 505,.str "/claim/cut.py" 506,.int 134 0,.int 2 0,.int 0 0,.int 0 0,.int 3 0,.ref 231,.bool true,.int 181 0,.ref 232,.none,.ref 233,.ref 234,.ref 235,.int 511 0,.int 134 0,.str "/claim/cut.py" 512]),#[]⟩
noncomputable def o192:Obj:=oF "stand_of" "stand_of" (top 29) "moonseat.sheets" 469 236
noncomputable def o193:Obj:=oU [.str "beat" 523]
noncomputable def o194:Obj:=oT "check_beat" "check_beat" (top 33)
noncomputable def o195:Obj:=⟨.type "code",none,(.fields #[.str "check_beat" 520,.str "check_beat" 521,.str "/claim/cut.py" 522,.int 143 0,.int 1 0,.int 0 0,.int 0 0,.int 3 0,.ref 238,.bool true,.int 181 0,.ref 239,.none,.ref 240,.ref 241,.ref 242,.int 524 0,.int 143 0,.str "/claim/cut.py" 525]),#[]⟩
noncomputable def o196:Obj:=oF "check_beat" "check_beat" (top 33) "moonseat.host" 514 243
noncomputable def o197:Obj:=oU [.str "beat" 530,.str "stand" 531]
noncomputable def o198:Obj:=oT "spoiler_is_next" "spoiler_is_next" (top 34)
noncomputable def o199:Obj:=⟨.type "code",none,(.fields #[.str "spoiler_is_next" 527,.str "spoiler_is_next" 528,.str "/claim/cut.py" 529,.int 146 0,.int 2 0,.int 0 0,.int 0 0,.int 3 0,.ref 245,.bool true,.int 181 0,.ref 246,.none,.ref 247,.ref 248,.ref 249,.int 532 0,.int 146 0,.str "/claim/cut.py" 533]),#[]⟩
noncomputable def o200:Obj:=oF "spoiler_is_next" "spoiler_is_next" (top 34) "moonseat.host" 514 250
noncomputable def o201:Obj:=oT "hosts_from" "hosts_from" (top 35)
noncomputable def o202:Obj:=⟨.type "code",none,(.fields #[.str "hosts_from" 535,.str "hosts_from" 536,.str "/claim/cut.py" 537,.int 148 0,.int 3 0,.int 0 0,.int 0 0,.int 3 0,.ref 252,.bool true,.int 181 0,.ref 253,.none,.none,.none,.ref 254,.int 538 0,.int 148 0,.str "/claim/cut.py" 539]),#[]⟩
noncomputable def o203:Obj:=oF "hosts_from" "hosts_from" (top 35) "moonseat.host" 514 255
noncomputable def o204:Obj:=oU [.str "rules" 544,.str "beat" 545,.str "row" 546,.str "stand" 547]
noncomputable def o205:Obj:=oT "verdict" "verdict" (top 36)
noncomputable def o206:Obj:=⟨.type "code",none,(.fields #[.str "verdict" 541,.str "verdict" 542,.str "/claim/cut.py" 543,.int 160 0,.int 3 0,.int 0 0,.int 0 0,.int 3 0,.ref 257,.bool true,.int 181 0,.ref 258,.none,.ref 259,.ref 260,.ref 261,.int 548 0,.int 160 0,.str "/claim/cut.py" 549]),#[]⟩
noncomputable def o207:Obj:=oF "verdict" "verdict" (top 36) "moonseat.host" 514 262
noncomputable def o208:Obj:=oU [.str "rules" 554,.str "beat" 555,.str "row" 556,.str "stand" 557,.str "hosts" 558,.str "wanted" 559,.str "kind" 560,.str "after" 561]
noncomputable def o209:Obj:=oT "advice" "advice" (top 37)
noncomputable def o210:Obj:=⟨.type "code",none,(.fields #[.str "advice" 551,.str "advice" 552,.str "/claim/cut.py" 553,.int 166 0,.int 3 0,.int 0 0,.int 0 0,.int 3 0,.ref 264,.bool true,.int 181 0,.ref 265,.none,.ref 266,.ref 267,.ref 268,.int 562 0,.int 166 0,.str "/claim/cut.py" 563]),#[]⟩
noncomputable def o211:Obj:=oF "advice" "advice" (top 37) "moonseat.host" 514 269
noncomputable def o212:Obj:=oU [.str "row" 586,.str "least" 587,.str "most" 588,.str "rest" 589]
noncomputable def o213:Obj:=oT "fits_kind" "fits_kind" (top 47)
noncomputable def o214:Obj:=⟨.type "code",none,(.fields #[.str "fits_kind" 583,.str "fits_kind" 584,.str "/claim/cut.py" 585,.int 184 0,.int 1 0,.int 0 0,.int 0 0,.int 3 0,.ref 271,.bool true,.int 181 0,.ref 272,.none,.ref 273,.ref 274,.ref 275,.int 590 0,.int 184 0,.str "/claim/cut.py" 591]),#[]⟩
noncomputable def o215:Obj:=oF "fits_kind" "fits_kind" (top 47) "moonseat.rules" 565 276
noncomputable def o216:Obj:=oU [.str "row" 596,.str "many" 597,.str "one" 598,.str "other" 599,.str "far" 600]
noncomputable def o217:Obj:=oT "fits_shun" "fits_shun" (top 48)
noncomputable def o218:Obj:=⟨.type "code",none,(.fields #[.str "fits_shun" 593,.str "fits_shun" 594,.str "/claim/cut.py" 595,.int 189 0,.int 2 0,.int 0 0,.int 0 0,.int 3 0,.ref 278,.bool true,.int 181 0,.ref 279,.none,.ref 280,.ref 281,.ref 282,.int 601 0,.int 189 0,.str "/claim/cut.py" 602]),#[]⟩
noncomputable def o219:Obj:=oF "fits_shun" "fits_shun" (top 48) "moonseat.rules" 565 283
noncomputable def o220:Obj:=oU [.str "row" 607,.str "many" 608,.str "size" 609,.str "kind" 610,.str "first" 611,.str "last" 612]
noncomputable def o221:Obj:=oT "fits_span" "fits_span" (top 49)
noncomputable def o222:Obj:=⟨.type "code",none,(.fields #[.str "fits_span" 604,.str "fits_span" 605,.str "/claim/cut.py" 606,.int 194 0,.int 3 0,.int 0 0,.int 0 0,.int 3 0,.ref 285,.bool true,.int 181 0,.ref 286,.none,.ref 287,.ref 288,.ref 289,.int 613 0,.int 194 0,.str "/claim/cut.py" 614]),#[]⟩
noncomputable def o223:Obj:=oF "fits_span" "fits_span" (top 49) "moonseat.rules" 565 290
noncomputable def o224:Obj:=oU [.str "size" 619,.str "kinds" 620,.str "shuns" 621,.str "bars" 622,.str "dues" 623]
noncomputable def o225:Obj:=oT "fits_counts" "fits_counts" (top 50)
noncomputable def o226:Obj:=⟨.type "code",none,(.fields #[.str "fits_counts" 616,.str "fits_counts" 617,.str "/claim/cut.py" 618,.int 199 0,.int 5 0,.int 0 0,.int 0 0,.int 3 0,.ref 292,.bool true,.int 181 0,.ref 293,.none,.ref 294,.ref 295,.ref 296,.int 624 0,.int 199 0,.str "/claim/cut.py" 625]),#[]⟩
noncomputable def o227:Obj:=oF "fits_counts" "fits_counts" (top 50) "moonseat.rules" 565 297
noncomputable def o228:Obj:=oT "fits_rows" "fits_rows" (top 51)
noncomputable def o229:Obj:=⟨.type "code",none,(.fields #[.str "fits_rows" 627,.str "fits_rows" 628,.str "/claim/cut.py" 629,.int 203 0,.int 5 0,.int 0 0,.int 0 0,.int 3 0,.ref 299,.bool true,.int 181 0,.ref 300,.none,.none,.none,.ref 301,.int 630 0,.int 203 0,.str "/claim/cut.py" 631]),#[]⟩
noncomputable def o230:Obj:=oF "fits_rows" "fits_rows" (top 51) "moonseat.rules" 565 302
noncomputable def c231(P:Params):List DictEntry:=[de P "__module__" 640 (.str "moonseat.rules" 565),de P "__qualname__" 642 (.str "Rules" 641),de P "__firstlineno__" 644 (.int 210 643),de P "__init__" 656 (.ref 317),de P "kinds" 663 (.ref 324),de P "shuns" 670 (.ref 331),de P "bars" 677 (.ref 338),de P "dues" 684 (.ref 345)]
noncomputable def c232(P:Params):List DictEntry:=[de P "many" 691 (.ref 352),de P "__static_attributes__" 697 (.ref 353)]
noncomputable def o233(P:Params):Obj:=⟨.type "dict",none,(.dict (List.toArray (List.append (c231 P) (c232 P))) 10),#[]⟩
noncomputable def c234:List Value:=f3 212 4 316 (f3 223 4 323 (f3 226 4 330 (f3 229 4 337 (f3 232 4 344 (f3 235 4 351 ([]))))))
noncomputable def o235:Obj:=⟨.none,none,(.fields (List.toArray (c234))),#[]⟩
noncomputable def o236:Obj:=⟨.type "code",none,(fC "Rules" "Rules" 635 636 637 210 0 0 0 0 307 false 181 308 638 639),#[]⟩
noncomputable def o237:Obj:=⟨.type "frame",none,.plain,#[some (.ref 309),some (.ref 3),some (.ref 306),none,some (.str "moonseat.rules" 565),none,some (.ref 0)]⟩
noncomputable def o238:Obj:=oU [.str "self" 648,.str "size" 649,.str "kinds" 650,.str "shuns" 651,.str "bars" 652,.str "dues" 653]
noncomputable def o239:Obj:=oT "__init__" "Rules.__init__" (inClass (top 52) 0)
noncomputable def o240:Obj:=⟨.type "code",none,(.fields #[.str "__init__" 645,.str "Rules.__init__" 646,.str "/claim/cut.py" 647,.int 212 0,.int 6 0,.int 0 0,.int 0 0,.int 3 0,.ref 311,.bool true,.int 181 0,.ref 312,.none,.ref 313,.ref 314,.ref 315,.int 654 0,.int 212 0,.str "/claim/cut.py" 655]),#[]⟩
noncomputable def o241:Obj:=oF "__init__" "Rules.__init__" (inClass (top 52) 0) "moonseat.rules" 565 316
noncomputable def o242:Obj:=oU [.str "self" 660]
noncomputable def o243:Obj:=oT "kinds" "Rules.kinds" (inClass (top 52) 1)
noncomputable def o244:Obj:=⟨.type "code",none,(.fields #[.str "kinds" 657,.str "Rules.kinds" 658,.str "/claim/cut.py" 659,.int 223 0,.int 1 0,.int 0 0,.int 0 0,.int 3 0,.ref 318,.bool true,.int 181 0,.ref 319,.none,.ref 320,.ref 321,.ref 322,.int 661 0,.int 223 0,.str "/claim/cut.py" 662]),#[]⟩
noncomputable def o245:Obj:=oF "kinds" "Rules.kinds" (inClass (top 52) 1) "moonseat.rules" 565 323
noncomputable def o246:Obj:=oU [.str "self" 667]
noncomputable def o247:Obj:=oT "shuns" "Rules.shuns" (inClass (top 52) 2)
noncomputable def o248:Obj:=⟨.type "code",none,(.fields #[.str "shuns" 664,.str "Rules.shuns" 665,.str "/claim/cut.py" 666,.int 226 0,.int 1 0,.int 0 0,.int 0 0,.int 3 0,.ref 325,.bool true,.int 181 0,.ref 326,.none,.ref 327,.ref 328,.ref 329,.int 668 0,.int 226 0,.str "/claim/cut.py" 669]),#[]⟩
noncomputable def o249:Obj:=oF "shuns" "Rules.shuns" (inClass (top 52) 2) "moonseat.rules" 565 330
noncomputable def o250:Obj:=oU [.str "self" 674]
noncomputable def o251:Obj:=oT "bars" "Rules.bars" (inClass (top 52) 3)
noncomputable def o252:Obj:=⟨.type "code",none,(.fields #[.str "bars" 671,.str "Rules.bars" 672,.str "/claim/cut.py" 673,.int 229 0,.int 1 0,.int 0 0,.int 0 0,.int 3 0,.ref 332,.bool true,.int 181 0,.ref 333,.none,.ref 334,.ref 335,.ref 336,.int 675 0,.int 229 0,.str "/claim/cut.py" 676]),#[]⟩
noncomputable def o253:Obj:=oF "bars" "Rules.bars" (inClass (top 52) 3) "moonseat.rules" 565 337
noncomputable def o254:Obj:=oU [.str "self" 681]
noncomputable def o255:Obj:=oT "dues" "Rules.dues" (inClass (top 52) 4)
noncomputable def o256:Obj:=⟨.type "code",none,(.fields #[.str "dues" 678,.str "Rules.dues" 679,.str "/claim/cut.py" 680,.int 232 0,.int 1 0,.int 0 0,.int 0 0,.int 3 0,.ref 339,.bool true,.int 181 0,.ref 340,.none,.ref 341,.ref 342,.ref 343,.int 682 0,.int 232 0,.str "/claim/cut.py" 683]),#[]⟩
noncomputable def o257:Obj:=oF "dues" "Rules.dues" (inClass (top 52) 4) "moonseat.rules" 565 344
noncomputable def o258:Obj:=oU [.str "self" 688]
noncomputable def o259:Obj:=oT "many" "Rules.many" (inClass (top 52) 5)
noncomputable def o260:Obj:=⟨.type "code",none,(.fields #[.str "many" 685,.str "Rules.many" 686,.str "/claim/cut.py" 687,.int 235 0,.int 1 0,.int 0 0,.int 0 0,.int 3 0,.ref 346,.bool true,.int 181 0,.ref 347,.none,.ref 348,.ref 349,.ref 350,.int 689 0,.int 235 0,.str "/claim/cut.py" 690]),#[]⟩
noncomputable def o261:Obj:=oF "many" "Rules.many" (inClass (top 52) 5) "moonseat.rules" 565 351
noncomputable def o262:Obj:=oU [.str "bar_rows" 692,.str "due_rows" 693,.str "kind_rows" 694,.str "shun_rows" 695,.str "size" 696]
noncomputable def c263(P:Params):List DictEntry:=[de P "__module__" 640 (.str "moonseat.rules" 565),de P "__firstlineno__" 644 (.int 210 643),de P "__init__" 656 (.ref 317),de P "kinds" 663 (.ref 324),de P "shuns" 670 (.ref 331),de P "bars" 677 (.ref 338),de P "dues" 684 (.ref 345),de P "many" 691 (.ref 352)]
noncomputable def c264(P:Params):List DictEntry:=[de P "__static_attributes__" 697 (.ref 353),de P "__dict__" 699 (.ref 356),de P "__weakref__" 701 (.ref 357),de P "__doc__" 702 .none]
noncomputable def o265(P:Params):Obj:=⟨.type "dict",none,(.dict (List.toArray (List.append (c263 P) (c264 P))) 4),#[]⟩
noncomputable def o266:Obj:=⟨.type "type",none,(.cls { name := "Rules",bases:=[.type "object"],mro:=[.ref 355,.type "object"],ns:=354,qualname := "Rules",hasDict:=true,slotNames:=[],subclasses:=[],abstract:=false,collection:=none,hasDel:=false }),#[none,none,some (.str "Rules" 633),some (.str "Rules" 641),some (.builtin "object.__new__"),some (.bool true)]⟩
noncomputable def o267:Obj:=⟨.type "getset_descriptor",none,(.fields #[.str "__dict__" 698,.ref 355,.builtin "function.__dict__",.builtin "function.__dict__#set"]),#[]⟩
noncomputable def o268:Obj:=⟨.type "getset_descriptor",none,(.fields #[.str "__weakref__" 700,.ref 355,.builtin "ExceptionGroup.__weakref__",.none]),#[]⟩
noncomputable def o269:Obj:=⟨.type "super",none,(.fields #[.ref 355,.ref 355,.ref 355]),#[]⟩
noncomputable def o270:Obj:=⟨.type "builtin_function_or_method",none,(.fields #[.builtin "object.__init_subclass__",.ref 355]),#[]⟩
noncomputable def o271:Obj:=oU [.str "_law_script" 710,.str "_law_many" 711,.str "_law_row" 712,.str "_law_seed" 713,.str "_law_cell" 714,.str "_law_rest" 715,.str "_law_k" 716]
noncomputable def o272:Obj:=oT "_law_numbers" "_law_numbers" (top 54)
noncomputable def o273:Obj:=⟨.type "code",none,(.fields #[.str "_law_numbers" 707,.str "_law_numbers" 708,.str "/claim/cut.py" 709,.int 238 0,.int 2 0,.int 0 0,.int 0 0,.int 3 0,.ref 360,.bool true,.int 181 0,.ref 361,.none,.ref 362,.ref 363,.ref 364,.int 717 0,.int 238 0,.str "/claim/cut.py" 718]),#[]⟩
noncomputable def o274:Obj:=oF "_law_numbers" "_law_numbers" (top 54) "law_moonseat_k26_verdicts_and_advice" 705 365
noncomputable def c275(P:Params):List (Nat×Obj):=[(3,o169 P),(12,o173),(205,o0),(206,o1),(207,o174),(208,o0),(209,o175),(210,o176)]
noncomputable def c276:List (Nat×Obj):=[(211,o177),(212,o0),(213,o1),(214,o178),(215,o179),(216,o180),(217,o0),(218,o1)]
noncomputable def c277:List (Nat×Obj):=[(219,o181),(220,o0),(221,o182),(222,o183),(223,o184),(224,o0),(225,o1),(226,o185)]
noncomputable def c278:List (Nat×Obj):=[(227,o0),(228,o186),(229,o187),(230,o188),(231,o0),(232,o1),(233,o189),(234,o0)]
noncomputable def c279:List (Nat×Obj):=[(235,o190),(236,o191),(237,o192),(238,o0),(239,o1),(240,o193),(241,o0),(242,o194)]
noncomputable def c280:List (Nat×Obj):=[(243,o195),(244,o196),(245,o0),(246,o1),(247,o197),(248,o0),(249,o198),(250,o199)]
noncomputable def c281:List (Nat×Obj):=[(251,o200),(252,o0),(253,o1),(254,o201),(255,o202),(256,o203),(257,o0),(258,o1)]
noncomputable def c282:List (Nat×Obj):=[(259,o204),(260,o0),(261,o205),(262,o206),(263,o207),(264,o0),(265,o1),(266,o208)]
noncomputable def c283:List (Nat×Obj):=[(267,o0),(268,o209),(269,o210),(270,o211),(271,o0),(272,o1),(273,o212),(274,o0)]
noncomputable def c284:List (Nat×Obj):=[(275,o213),(276,o214),(277,o215),(278,o0),(279,o1),(280,o216),(281,o0),(282,o217)]
noncomputable def c285:List (Nat×Obj):=[(283,o218),(284,o219),(285,o0),(286,o1),(287,o220),(288,o0),(289,o221),(290,o222)]
noncomputable def c286:List (Nat×Obj):=[(291,o223),(292,o0),(293,o1),(294,o224),(295,o0),(296,o225),(297,o226),(298,o227)]
noncomputable def c287(P:Params):List (Nat×Obj):=[(299,o0),(300,o1),(301,o228),(302,o229),(303,o230),(304,o0),(305,o14),(306,o233 P)]
noncomputable def c288:List (Nat×Obj):=[(307,o0),(308,o235),(309,o236),(310,o237),(311,o0),(312,o1),(313,o238),(314,o0)]
noncomputable def c289:List (Nat×Obj):=[(315,o239),(316,o240),(317,o241),(318,o0),(319,o1),(320,o242),(321,o0),(322,o243)]
noncomputable def c290:List (Nat×Obj):=[(323,o244),(324,o245),(325,o0),(326,o1),(327,o246),(328,o0),(329,o247),(330,o248)]
noncomputable def c291:List (Nat×Obj):=[(331,o249),(332,o0),(333,o1),(334,o250),(335,o0),(336,o251),(337,o252),(338,o253)]
noncomputable def c292:List (Nat×Obj):=[(339,o0),(340,o1),(341,o254),(342,o0),(343,o255),(344,o256),(345,o257),(346,o0)]
noncomputable def c293(P:Params):List (Nat×Obj):=[(347,o1),(348,o258),(349,o0),(350,o259),(351,o260),(352,o261),(353,o262),(354,o265 P)]
noncomputable def c294:List (Nat×Obj):=[(355,o266),(356,o267),(357,o268),(358,o269),(359,o270),(360,o0),(361,o1),(362,o271)]
noncomputable def c295:List (Nat×Obj):=[(363,o0),(364,o272),(365,o273),(366,o274)]
noncomputable def c296(P:Params):List DictEntry:=[de P "Rules" 704 (.ref 355),de P "_law_numbers" 719 (.ref 366),de P "_law_same" 725 (.ref 371),de P "_law_windows" 738 (.ref 378),de P "_law_book" 744 (.ref 383),de P "_law_made" 751 (.ref 390),de P "_law_start" 757 (.ref 395),de P "_law_turned_away" 773 (.ref 402)]
noncomputable def c297(P:Params):List DictEntry:=[de P "_law_met" 788 (.ref 409),de P "_law_step" 815 (.ref 416),de P "_law_walk" 821 (.ref 421),de P "_law_stand" 831 (.ref 428),de P "_law_levels" 844 (.ref 435),de P "_law_hosts" 859 (.ref 442),de P "_law_advice" 872 (.ref 449),de P "law" 878 (.ref 454)]
noncomputable def o298(P:Params):Obj:=⟨.type "dict",none,(.dict (List.toArray (List.append (c163 P) (List.append (c53 P) (List.append (c54 P) (List.append (c164 P) (List.append (c165 P) (List.append (c166 P) (List.append (c167 P) (List.append (c296 P) (c297 P)))))))))) 72),#[]⟩
noncomputable def c299:List Value:=f3 184 0 276 (f3 189 0 283 (f3 194 0 290 (f3 199 0 297 (f3 203 0 302 (f3 210 0 309 (f3 238 0 365 (f3 254 0 370 ([]))))))))
noncomputable def c300:List Value:=f3 264 0 377 (f3 270 0 382 (f3 290 0 389 (f3 292 0 394 (f3 294 0 401 (f3 304 0 408 (f3 311 0 415 (f3 334 0 420 ([]))))))))
noncomputable def c301:List Value:=f3 343 0 427 (f3 348 0 434 (f3 359 0 441 (f3 375 0 448 (f3 382 0 453 ([])))))
noncomputable def o302:Obj:=⟨.none,none,(.fields (List.toArray (List.append (c57) (List.append (c58) (List.append (c170) (List.append (c171) (List.append (c299) (List.append (c300) (c301))))))))),#[]⟩
noncomputable def o303:Obj:=oT "_law_same" "_law_same" (top 55)
noncomputable def o304:Obj:=⟨.type "code",none,(.fields #[.str "_law_same" 720,.str "_law_same" 721,.str "/claim/cut.py" 722,.int 254 0,.int 2 0,.int 0 0,.int 0 0,.int 3 0,.ref 367,.bool true,.int 181 0,.ref 368,.none,.none,.none,.ref 369,.int 723 0,.int 254 0,.str "/claim/cut.py" 724]),#[]⟩
noncomputable def o305:Obj:=oF "_law_same" "_law_same" (top 55) "law_moonseat_k26_verdicts_and_advice" 705 370
noncomputable def o306:Obj:=oU [.str "_law_many" 729,.str "_law_size" 730,.str "_law_count" 731,.str "_law_d" 732,.str "_law_rows" 733,.str "_law_k" 734,.str "_law_first" 735]
noncomputable def o307:Obj:=oT "_law_windows" "_law_windows" (top 56)
noncomputable def o308:Obj:=⟨.type "code",none,(.fields #[.str "_law_windows" 726,.str "_law_windows" 727,.str "/claim/cut.py" 728,.int 264 0,.int 4 0,.int 0 0,.int 0 0,.int 3 0,.ref 372,.bool true,.int 181 0,.ref 373,.none,.ref 374,.ref 375,.ref 376,.int 736 0,.int 264 0,.str "/claim/cut.py" 737]),#[]⟩
noncomputable def o309:Obj:=oF "_law_windows" "_law_windows" (top 56) "law_moonseat_k26_verdicts_and_advice" 705 377
noncomputable def o310:Obj:=oT "_law_book" "_law_book" (top 57)
noncomputable def o311:Obj:=⟨.type "code",none,(.fields #[.str "_law_book" 739,.str "_law_book" 740,.str "/claim/cut.py" 741,.int 270 0,.int 2 0,.int 0 0,.int 0 0,.int 3 0,.ref 379,.bool true,.int 181 0,.ref 380,.none,.none,.none,.ref 381,.int 742 0,.int 270 0,.str "/claim/cut.py" 743]),#[]⟩
noncomputable def o312:Obj:=oF "_law_book" "_law_book" (top 57) "law_moonseat_k26_verdicts_and_advice" 705 382
noncomputable def o313:Obj:=oU [.str "_law_book_here" 748]
noncomputable def o314:Obj:=oT "_law_made" "_law_made" (top 58)
noncomputable def o315:Obj:=⟨.type "code",none,(.fields #[.str "_law_made" 745,.str "_law_made" 746,.str "/claim/cut.py" 747,.int 290 0,.int 1 0,.int 0 0,.int 0 0,.int 3 0,.ref 384,.bool true,.int 181 0,.ref 385,.none,.ref 386,.ref 387,.ref 388,.int 749 0,.int 290 0,.str "/claim/cut.py" 750]),#[]⟩
noncomputable def o316:Obj:=oF "_law_made" "_law_made" (top 58) "law_moonseat_k26_verdicts_and_advice" 705 389
noncomputable def o317:Obj:=oT "_law_start" "_law_start" (top 59)
noncomputable def o318:Obj:=⟨.type "code",none,(.fields #[.str "_law_start" 752,.str "_law_start" 753,.str "/claim/cut.py" 754,.int 292 0,.int 1 0,.int 0 0,.int 0 0,.int 3 0,.ref 391,.bool true,.int 181 0,.ref 392,.none,.none,.none,.ref 393,.int 755 0,.int 292 0,.str "/claim/cut.py" 756]),#[]⟩
noncomputable def o319:Obj:=oF "_law_start" "_law_start" (top 59) "law_moonseat_k26_verdicts_and_advice" 705 394
noncomputable def o320:Obj:=oU [.str "_law_book_here" 761,.str "_law_stand_here" 762,.str "_law_new" 763,.str "_law_kind" 764,.str "_law_length" 765,.str "_law_before" 766,.str "_law_waits" 767,.str "_law_one" 768,.str "_law_other" 769,.str "_law_far" 770]
noncomputable def o321:Obj:=oT "_law_turned_away" "_law_turned_away" (top 60)
noncomputable def o322:Obj:=⟨.type "code",none,(.fields #[.str "_law_turned_away" 758,.str "_law_turned_away" 759,.str "/claim/cut.py" 760,.int 294 0,.int 3 0,.int 0 0,.int 0 0,.int 3 0,.ref 396,.bool true,.int 181 0,.ref 397,.none,.ref 398,.ref 399,.ref 400,.int 771 0,.int 294 0,.str "/claim/cut.py" 772]),#[]⟩
noncomputable def o323:Obj:=oF "_law_turned_away" "_law_turned_away" (top 60) "law_moonseat_k26_verdicts_and_advice" 705 401
noncomputable def o324:Obj:=oU [.str "_law_book_here" 777,.str "_law_here" 778,.str "_law_met_here" 779,.str "_law_new" 780,.str "_law_done" 781,.str "_law_k" 782,.str "_law_kind" 783,.str "_law_first" 784,.str "_law_last" 785]
noncomputable def o325:Obj:=oT "_law_met" "_law_met" (top 61)
noncomputable def o326:Obj:=⟨.type "code",none,(.fields #[.str "_law_met" 774,.str "_law_met" 775,.str "/claim/cut.py" 776,.int 304 0,.int 4 0,.int 0 0,.int 0 0,.int 3 0,.ref 403,.bool true,.int 181 0,.ref 404,.none,.ref 405,.ref 406,.ref 407,.int 786 0,.int 304 0,.str "/claim/cut.py" 787]),#[]⟩
noncomputable def o327:Obj:=oF "_law_met" "_law_met" (top 61) "law_moonseat_k26_verdicts_and_advice" 705 408
noncomputable def o328:Obj:=oU [.str "_law_book_here" 792,.str "_law_stand_here" 793,.str "_law_new" 794,.str "_law_place" 795,.str "_law_kind" 796,.str "_law_length" 797,.str "_law_before" 798,.str "_law_waits" 799,.str "_law_met_here" 800,.str "_law_here" 801,.str "_law_run" 802,.str "_law_closed" 803,.str "_law_first" 804,.str "_law_last" 805,.str "_law_done" 806,.str "_law_left" 807,.str "_law_j" 808,.str "_law_least" 809,.str "_law_most" 810,.str "_law_rest" 811,.str "_law_wait" 812]
noncomputable def o329:Obj:=oT "_law_step" "_law_step" (top 62)
noncomputable def o330:Obj:=⟨.type "code",none,(.fields #[.str "_law_step" 789,.str "_law_step" 790,.str "/claim/cut.py" 791,.int 311 0,.int 3 0,.int 0 0,.int 0 0,.int 3 0,.ref 410,.bool true,.int 181 0,.ref 411,.none,.ref 412,.ref 413,.ref 414,.int 813 0,.int 311 0,.str "/claim/cut.py" 814]),#[]⟩
noncomputable def o331:Obj:=oF "_law_step" "_law_step" (top 62) "law_moonseat_k26_verdicts_and_advice" 705 415
noncomputable def o332:Obj:=oT "_law_walk" "_law_walk" (top 63)
noncomputable def o333:Obj:=⟨.type "code",none,(.fields #[.str "_law_walk" 816,.str "_law_walk" 817,.str "/claim/cut.py" 818,.int 334 0,.int 2 0,.int 0 0,.int 0 0,.int 3 0,.ref 417,.bool true,.int 181 0,.ref 418,.none,.none,.none,.ref 419,.int 819 0,.int 334 0,.str "/claim/cut.py" 820]),#[]⟩
noncomputable def o334:Obj:=oF "_law_walk" "_law_walk" (top 63) "law_moonseat_k26_verdicts_and_advice" 705 420
noncomputable def o335:Obj:=oU [.str "_law_book_here" 825,.str "_law_row" 826,.str "_law_stand_here" 827,.str "_law_kind" 828]
noncomputable def o336:Obj:=oT "_law_stand" "_law_stand" (top 64)
noncomputable def o337:Obj:=⟨.type "code",none,(.fields #[.str "_law_stand" 822,.str "_law_stand" 823,.str "/claim/cut.py" 824,.int 343 0,.int 2 0,.int 0 0,.int 0 0,.int 3 0,.ref 422,.bool true,.int 181 0,.ref 423,.none,.ref 424,.ref 425,.ref 426,.int 829 0,.int 343 0,.str "/claim/cut.py" 830]),#[]⟩
noncomputable def o338:Obj:=oF "_law_stand" "_law_stand" (top 64) "law_moonseat_k26_verdicts_and_advice" 705 427
noncomputable def o339:Obj:=oU [.str "_law_book_here" 835,.str "_law_stand_here" 836,.str "_law_floors" 837,.str "_law_known" 838,.str "_law_one" 839,.str "_law_kind" 840,.str "_law_behind" 841]
noncomputable def o340:Obj:=oT "_law_levels" "_law_levels" (top 65)
noncomputable def o341:Obj:=⟨.type "code",none,(.fields #[.str "_law_levels" 832,.str "_law_levels" 833,.str "/claim/cut.py" 834,.int 348 0,.int 2 0,.int 0 0,.int 0 0,.int 3 0,.ref 429,.bool true,.int 181 0,.ref 430,.none,.ref 431,.ref 432,.ref 433,.int 842 0,.int 348 0,.str "/claim/cut.py" 843]),#[]⟩
noncomputable def o342:Obj:=oF "_law_levels" "_law_levels" (top 65) "law_moonseat_k26_verdicts_and_advice" 705 434
noncomputable def o343:Obj:=oU [.str "_law_book_here" 848,.str "_law_beat" 849,.str "_law_stand_here" 850,.str "_law_known" 851,.str "_law_floor" 852,.str "_law_one" 853,.str "_law_later" 854,.str "_law_kind" 855,.str "_law_behind" 856]
noncomputable def o344:Obj:=oT "_law_hosts" "_law_hosts" (top 66)
noncomputable def o345:Obj:=⟨.type "code",none,(.fields #[.str "_law_hosts" 845,.str "_law_hosts" 846,.str "/claim/cut.py" 847,.int 359 0,.int 3 0,.int 0 0,.int 0 0,.int 3 0,.ref 436,.bool true,.int 181 0,.ref 437,.none,.ref 438,.ref 439,.ref 440,.int 857 0,.int 359 0,.str "/claim/cut.py" 858]),#[]⟩
noncomputable def o346:Obj:=oF "_law_hosts" "_law_hosts" (top 66) "law_moonseat_k26_verdicts_and_advice" 705 441
noncomputable def o347:Obj:=oU [.str "_law_book_here" 863,.str "_law_beat" 864,.str "_law_stand_here" 865,.str "_law_known" 866,.str "_law_foe" 867,.str "_law_kind" 868,.str "_law_behind" 869]
noncomputable def o348:Obj:=oT "_law_advice" "_law_advice" (top 67)
noncomputable def o349:Obj:=⟨.type "code",none,(.fields #[.str "_law_advice" 860,.str "_law_advice" 861,.str "/claim/cut.py" 862,.int 375 0,.int 4 0,.int 0 0,.int 0 0,.int 3 0,.ref 443,.bool true,.int 181 0,.ref 444,.none,.ref 445,.ref 446,.ref 447,.int 870 0,.int 375 0,.str "/claim/cut.py" 871]),#[]⟩
noncomputable def o350:Obj:=oF "_law_advice" "_law_advice" (top 67) "law_moonseat_k26_verdicts_and_advice" 705 448
noncomputable def o351:Obj:=oT "law" "law" (top 68)
noncomputable def o352:Obj:=⟨.type "code",none,(.fields #[.str "law" 873,.str "law" 874,.str "/claim/cut.py" 875,.int 382 0,.int 1 0,.int 0 0,.int 0 0,.int 3 0,.ref 450,.bool true,.int 181 0,.ref 451,.none,.none,.none,.ref 452,.int 876 0,.int 382 0,.str "/claim/cut.py" 877]),#[]⟩
noncomputable def o353:Obj:=oF "law" "law" (top 68) "law_moonseat_k26_verdicts_and_advice" 705 453
noncomputable def c354(P:Params):List (Nat×Obj):=[(3,o298 P),(12,o302),(367,o0),(368,o1),(369,o303),(370,o304),(371,o305),(372,o0)]
noncomputable def c355:List (Nat×Obj):=[(373,o1),(374,o306),(375,o0),(376,o307),(377,o308),(378,o309),(379,o0),(380,o1)]
noncomputable def c356:List (Nat×Obj):=[(381,o310),(382,o311),(383,o312),(384,o0),(385,o1),(386,o313),(387,o0),(388,o314)]
noncomputable def c357:List (Nat×Obj):=[(389,o315),(390,o316),(391,o0),(392,o1),(393,o317),(394,o318),(395,o319),(396,o0)]
noncomputable def c358:List (Nat×Obj):=[(397,o1),(398,o320),(399,o0),(400,o321),(401,o322),(402,o323),(403,o0),(404,o1)]
noncomputable def c359:List (Nat×Obj):=[(405,o324),(406,o0),(407,o325),(408,o326),(409,o327),(410,o0),(411,o1),(412,o328)]
noncomputable def c360:List (Nat×Obj):=[(413,o0),(414,o329),(415,o330),(416,o331),(417,o0),(418,o1),(419,o332),(420,o333)]
noncomputable def c361:List (Nat×Obj):=[(421,o334),(422,o0),(423,o1),(424,o335),(425,o0),(426,o336),(427,o337),(428,o338)]
noncomputable def c362:List (Nat×Obj):=[(429,o0),(430,o1),(431,o339),(432,o0),(433,o340),(434,o341),(435,o342),(436,o0)]
noncomputable def c363:List (Nat×Obj):=[(437,o1),(438,o343),(439,o0),(440,o344),(441,o345),(442,o346),(443,o0),(444,o1)]
noncomputable def c364:List (Nat×Obj):=[(445,o347),(446,o0),(447,o348),(448,o349),(449,o350),(450,o0),(451,o1),(452,o351)]
noncomputable def c365:List (Nat×Obj):=[(453,o352),(454,o353)]
noncomputable def c366(P:Params):List Obj:=[boot_o_0 P,boot_o_1 P,boot_o_2 P,o298 P,boot_o_4 P,boot_o_5 P,boot_o_6 P,boot_o_7 P]
noncomputable def c367(P:Params):List Obj:=[boot_o_8 P,boot_o_9 P,boot_o_10 P,o0,o302,o2,o3,o13]
noncomputable def c368(P:Params):List Obj:=[o14,o15 P,o0,o1,o16,o17,o0,o18 P]
noncomputable def c369(P:Params):List Obj:=[o61,o20,o21,o22,o23,o14,o24 P,o0]
noncomputable def c370(P:Params):List Obj:=[o1,o25,o26,o0,o27 P,o28,o29,o30]
noncomputable def c371(P:Params):List Obj:=[o23,o14,o31 P,o0,o1,o32,o33,o0]
noncomputable def c372(P:Params):List Obj:=[o34 P,o35,o36,o37,o23,o14,o38 P,o0]
noncomputable def c373(P:Params):List Obj:=[o1,o39,o40,o0,o41 P,o42,o43,o44]
noncomputable def c374(P:Params):List Obj:=[o23,o14,o62 P,o0,o1,o63,o64,o0]
noncomputable def c375(P:Params):List Obj:=[o65 P,o66,o67,o68,o23,o14,o69 P,o0]
noncomputable def c376:List Obj:=[o70,o71,o72,o0,o1,o73,o0,o74]
noncomputable def c377(P:Params):List Obj:=[o75,o76,o77,o78 P,o79,o80,o81,o0]
noncomputable def c378:List Obj:=[o1,o82,o0,o83,o84,o85,o0,o1]
noncomputable def c379:List Obj:=[o86,o0,o87,o88,o89,o0,o1,o90]
noncomputable def c380:List Obj:=[o91,o92,o0,o1,o93,o0,o94,o95]
noncomputable def c381:List Obj:=[o96,o0,o1,o97,o0,o98,o99,o100]
noncomputable def c382:List Obj:=[o0,o1,o101,o0,o102,o103,o104,o0]
noncomputable def c383:List Obj:=[o1,o105,o0,o106,o107,o108,o0,o1]
noncomputable def c384:List Obj:=[o109,o0,o110,o111,o112,o0,o1,o113]
noncomputable def c385:List Obj:=[o0,o114,o115,o116,o0,o1,o117,o0]
noncomputable def c386:List Obj:=[o118,o119,o120,o0,o1,o121,o0,o122]
noncomputable def c387:List Obj:=[o123,o124,o0,o1,o125,o0,o126,o127]
noncomputable def c388:List Obj:=[o128,o0,o1,o129,o0,o130,o131,o132]
noncomputable def c389:List Obj:=[o0,o1,o133,o0,o134,o135,o136,o0]
noncomputable def c390:List Obj:=[o1,o137,o0,o138,o139,o140,o0,o1]
noncomputable def c391:List Obj:=[o141,o0,o142,o143,o144,o0,o1,o174]
noncomputable def c392:List Obj:=[o0,o175,o176,o177,o0,o1,o178,o179]
noncomputable def c393:List Obj:=[o180,o0,o1,o181,o0,o182,o183,o184]
noncomputable def c394:List Obj:=[o0,o1,o185,o0,o186,o187,o188,o0]
noncomputable def c395:List Obj:=[o1,o189,o0,o190,o191,o192,o0,o1]
noncomputable def c396:List Obj:=[o193,o0,o194,o195,o196,o0,o1,o197]
noncomputable def c397:List Obj:=[o0,o198,o199,o200,o0,o1,o201,o202]
noncomputable def c398:List Obj:=[o203,o0,o1,o204,o0,o205,o206,o207]
noncomputable def c399:List Obj:=[o0,o1,o208,o0,o209,o210,o211,o0]
noncomputable def c400:List Obj:=[o1,o212,o0,o213,o214,o215,o0,o1]
noncomputable def c401:List Obj:=[o216,o0,o217,o218,o219,o0,o1,o220]
noncomputable def c402:List Obj:=[o0,o221,o222,o223,o0,o1,o224,o0]
noncomputable def c403:List Obj:=[o225,o226,o227,o0,o1,o228,o229,o230]
noncomputable def c404(P:Params):List Obj:=[o0,o14,o233 P,o0,o235,o236,o237,o0]
noncomputable def c405:List Obj:=[o1,o238,o0,o239,o240,o241,o0,o1]
noncomputable def c406:List Obj:=[o242,o0,o243,o244,o245,o0,o1,o246]
noncomputable def c407:List Obj:=[o0,o247,o248,o249,o0,o1,o250,o0]
noncomputable def c408:List Obj:=[o251,o252,o253,o0,o1,o254,o0,o255]
noncomputable def c409:List Obj:=[o256,o257,o0,o1,o258,o0,o259,o260]
noncomputable def c410(P:Params):List Obj:=[o261,o262,o265 P,o266,o267,o268,o269,o270]
noncomputable def c411:List Obj:=[o0,o1,o271,o0,o272,o273,o274,o0]
noncomputable def c412:List Obj:=[o1,o303,o304,o305,o0,o1,o306,o0]
noncomputable def c413:List Obj:=[o307,o308,o309,o0,o1,o310,o311,o312]
noncomputable def c414:List Obj:=[o0,o1,o313,o0,o314,o315,o316,o0]
noncomputable def c415:List Obj:=[o1,o317,o318,o319,o0,o1,o320,o0]
noncomputable def c416:List Obj:=[o321,o322,o323,o0,o1,o324,o0,o325]
noncomputable def c417:List Obj:=[o326,o327,o0,o1,o328,o0,o329,o330]
noncomputable def c418:List Obj:=[o331,o0,o1,o332,o333,o334,o0,o1]
noncomputable def c419:List Obj:=[o335,o0,o336,o337,o338,o0,o1,o339]
noncomputable def c420:List Obj:=[o0,o340,o341,o342,o0,o1,o343,o0]
noncomputable def c421:List Obj:=[o344,o345,o346,o0,o1,o347,o0,o348]
noncomputable def c422:List Obj:=[o349,o350,o0,o1,o351,o352,o353]
noncomputable def o423:Obj:=⟨.none,none,(.dict (List.toArray []) 0),#[]⟩
noncomputable def hA(P:Params):Heap:=⟨⟨(List.append (c4 P) (c5 P))⟩,{}⟩
noncomputable def t0(P:Params):BT:=putAll .nil (List.append (c6 P) (c7 P))
noncomputable def t1(P:Params):BT:=putAll (t0 P) (List.append (c45 P) (List.append (c46 P) (List.append (c47 P) (List.append (c48 P) (List.append (c49 P) (List.append (c50 P) (c51)))))))
noncomputable def t2(P:Params):BT:=putAll (t1 P) (List.append (c145 P) (List.append (c146 P) (List.append (c147 P) (List.append (c148 P) (List.append (c149) (List.append (c150) (List.append (c151) (List.append (c152) (List.append (c153) (List.append (c154) (List.append (c155) (List.append (c156) (List.append (c157) (List.append (c158) (List.append (c159) (List.append (c160) (List.append (c161) (c162))))))))))))))))))
noncomputable def t3(P:Params):BT:=putAll (t2 P) (List.append (c275 P) (List.append (c276) (List.append (c277) (List.append (c278) (List.append (c279) (List.append (c280) (List.append (c281) (List.append (c282) (List.append (c283) (List.append (c284) (List.append (c285) (List.append (c286) (List.append (c287 P) (List.append (c288) (List.append (c289) (List.append (c290) (List.append (c291) (List.append (c292) (List.append (c293 P) (List.append (c294) (c295)))))))))))))))))))))
noncomputable def t4(P:Params):BT:=putAll (t3 P) (List.append (c354 P) (List.append (c355) (List.append (c356) (List.append (c357) (List.append (c358) (List.append (c359) (List.append (c360) (List.append (c361) (List.append (c362) (List.append (c363) (List.append (c364) (c365))))))))))))
noncomputable def sts0:List Stmt:=[top 0,top 1,top 2,top 3,top 4]
noncomputable def sts1:List Stmt:=[top 5,top 6,top 7,top 8,top 9,top 10,top 11,top 12,top 13,top 14,top 15,top 16,top 17,top 18,top 19,top 20,top 21,top 22,top 23,top 24]
noncomputable def sts2:List Stmt:=[top 25,top 26,top 27,top 28,top 29,top 30,top 31,top 32,top 33,top 34,top 35,top 36,top 37,top 38,top 39,top 40,top 41,top 42,top 43,top 44,top 45,top 46,top 47,top 48,top 49,top 50,top 51,top 52,top 53,top 54]
noncomputable def sts3:List Stmt:=[top 55,top 56,top 57,top 58,top 59,top 60,top 61,top 62,top 63,top 64,top 65,top 66,top 67,top 68]
noncomputable def hF(P:Params):Heap:=⟨⟨(List.append (c366 P) (List.append (c367 P) (List.append (c368 P) (List.append (c369 P) (List.append (c370 P) (List.append (c371 P) (List.append (c372 P) (List.append (c373 P) (List.append (c374 P) (List.append (c375 P) (List.append (c376) (List.append (c377 P) (List.append (c378) (List.append (c379) (List.append (c380) (List.append (c381) (List.append (c382) (List.append (c383) (List.append (c384) (List.append (c385) (List.append (c386) (List.append (c387) (List.append (c388) (List.append (c389) (List.append (c390) (List.append (c391) (List.append (c392) (List.append (c393) (List.append (c394) (List.append (c395) (List.append (c396) (List.append (c397) (List.append (c398) (List.append (c399) (List.append (c400) (List.append (c401) (List.append (c402) (List.append (c403) (List.append (c404 P) (List.append (c405) (List.append (c406) (List.append (c407) (List.append (c408) (List.append (c409) (List.append (c410 P) (List.append (c411) (List.append (c412) (List.append (c413) (List.append (c414) (List.append (c415) (List.append (c416) (List.append (c417) (List.append (c418) (List.append (c419) (List.append (c420) (List.append (c421) (c422)))))))))))))))))))))))))))))))))))))))))))))))))))))))))⟩,{}⟩
noncomputable def K(P:Params):Frag:=((nat_lit 2,o423) :: (nat_lit 3,o298 P) :: (nat_lit 15,o13) :: (nat_lit 22,o0) :: (nat_lit 23,o18 P) :: (nat_lit 24,o61) :: (nat_lit 25,o20) :: (nat_lit 28,o23) :: (nat_lit 35,o0) :: (nat_lit 36,o27 P) :: (nat_lit 37,o28) :: (nat_lit 40,o23) :: (nat_lit 47,o0) :: (nat_lit 48,o34 P) :: (nat_lit 49,o35) :: (nat_lit 52,o23) :: (nat_lit 59,o0) :: (nat_lit 60,o41 P) :: (nat_lit 61,o42) :: (nat_lit 64,o23) :: (nat_lit 71,o0) :: (nat_lit 72,o65 P) :: (nat_lit 73,o66) :: (nat_lit 76,o23) :: (nat_lit 83,o0) :: (nat_lit 85,o73) :: (nat_lit 86,o0) :: (nat_lit 88,o75) :: (nat_lit 89,o76) :: (nat_lit 90,o77) :: (nat_lit 91,o78 P) :: (nat_lit 92,o79) :: (nat_lit 95,o0) :: (nat_lit 97,o82) :: (nat_lit 98,o0) :: (nat_lit 100,o84) :: (nat_lit 101,o85) :: (nat_lit 102,o0) :: (nat_lit 104,o86) :: (nat_lit 105,o0) :: (nat_lit 107,o88) :: (nat_lit 108,o89) :: (nat_lit 109,o0) :: (nat_lit 112,o91) :: (nat_lit 113,o92) :: (nat_lit 114,o0) :: (nat_lit 116,o93) :: (nat_lit 117,o0) :: (nat_lit 119,o95) :: (nat_lit 120,o96) :: (nat_lit 121,o0) :: (nat_lit 123,o97) :: (nat_lit 124,o0) :: (nat_lit 126,o99) :: (nat_lit 127,o100) :: (nat_lit 128,o0) :: (nat_lit 130,o101) :: (nat_lit 131,o0) :: (nat_lit 133,o103) :: (nat_lit 134,o104) :: (nat_lit 135,o0) :: (nat_lit 137,o105) :: (nat_lit 138,o0) :: (nat_lit 140,o107) :: (nat_lit 141,o108) :: (nat_lit 142,o0) :: (nat_lit 144,o109) :: (nat_lit 145,o0) :: (nat_lit 147,o111) :: (nat_lit 148,o112) :: (nat_lit 149,o0) :: (nat_lit 151,o113) :: (nat_lit 152,o0) :: (nat_lit 154,o115) :: (nat_lit 155,o116) :: (nat_lit 156,o0) :: (nat_lit 158,o117) :: (nat_lit 159,o0) :: (nat_lit 161,o119) :: (nat_lit 162,o120) :: (nat_lit 163,o0) :: (nat_lit 165,o121) :: (nat_lit 166,o0) :: (nat_lit 168,o123) :: (nat_lit 169,o124) :: (nat_lit 170,o0) :: (nat_lit 172,o125) :: (nat_lit 173,o0) :: (nat_lit 175,o127) :: (nat_lit 176,o128) :: (nat_lit 177,o0) :: (nat_lit 179,o129) :: (nat_lit 180,o0) :: (nat_lit 182,o131) :: (nat_lit 183,o132) :: (nat_lit 184,o0) :: (nat_lit 186,o133) :: (nat_lit 187,o0) :: (nat_lit 189,o135) :: (nat_lit 190,o136) :: (nat_lit 191,o0) :: (nat_lit 193,o137) :: (nat_lit 194,o0) :: (nat_lit 196,o139) :: (nat_lit 197,o140) :: (nat_lit 198,o0) :: (nat_lit 200,o141) :: (nat_lit 201,o0) :: (nat_lit 203,o143) :: (nat_lit 204,o144) :: (nat_lit 205,o0) :: (nat_lit 207,o174) :: (nat_lit 208,o0) :: (nat_lit 210,o176) :: (nat_lit 211,o177) :: (nat_lit 212,o0) :: (nat_lit 215,o179) :: (nat_lit 216,o180) :: (nat_lit 217,o0) :: (nat_lit 219,o181) :: (nat_lit 220,o0) :: (nat_lit 222,o183) :: (nat_lit 223,o184) :: (nat_lit 224,o0) :: (nat_lit 226,o185) :: (nat_lit 227,o0) :: (nat_lit 229,o187) :: (nat_lit 230,o188) :: (nat_lit 231,o0) :: (nat_lit 233,o189) :: (nat_lit 234,o0) :: (nat_lit 236,o191) :: (nat_lit 237,o192) :: (nat_lit 238,o0) :: (nat_lit 240,o193) :: (nat_lit 241,o0) :: (nat_lit 243,o195) :: (nat_lit 244,o196) :: (nat_lit 245,o0) :: (nat_lit 247,o197) :: (nat_lit 248,o0) :: (nat_lit 250,o199) :: (nat_lit 251,o200) :: (nat_lit 252,o0) :: (nat_lit 255,o202) :: (nat_lit 256,o203) :: (nat_lit 257,o0) :: (nat_lit 259,o204) :: (nat_lit 260,o0) :: (nat_lit 262,o206) :: (nat_lit 263,o207) :: (nat_lit 264,o0) :: (nat_lit 266,o208) :: (nat_lit 267,o0) :: (nat_lit 269,o210) :: (nat_lit 270,o211) :: (nat_lit 271,o0) :: (nat_lit 273,o212) :: (nat_lit 274,o0) :: (nat_lit 276,o214) :: (nat_lit 277,o215) :: (nat_lit 278,o0) :: (nat_lit 280,o216) :: (nat_lit 281,o0) :: (nat_lit 283,o218) :: (nat_lit 284,o219) :: (nat_lit 285,o0) :: (nat_lit 287,o220) :: (nat_lit 288,o0) :: (nat_lit 290,o222) :: (nat_lit 291,o223) :: (nat_lit 292,o0) :: (nat_lit 294,o224) :: (nat_lit 295,o0) :: (nat_lit 297,o226) :: (nat_lit 298,o227) :: (nat_lit 299,o0) :: (nat_lit 302,o229) :: (nat_lit 303,o230) :: (nat_lit 311,o0) :: (nat_lit 313,o238) :: (nat_lit 314,o0) :: (nat_lit 316,o240) :: (nat_lit 317,o241) :: (nat_lit 318,o0) :: (nat_lit 320,o242) :: (nat_lit 321,o0) :: (nat_lit 323,o244) :: (nat_lit 324,o245) :: (nat_lit 325,o0) :: (nat_lit 327,o246) :: (nat_lit 328,o0) :: (nat_lit 330,o248) :: (nat_lit 331,o249) :: (nat_lit 332,o0) :: (nat_lit 334,o250) :: (nat_lit 335,o0) :: (nat_lit 337,o252) :: (nat_lit 338,o253) :: (nat_lit 339,o0) :: (nat_lit 341,o254) :: (nat_lit 342,o0) :: (nat_lit 344,o256) :: (nat_lit 345,o257) :: (nat_lit 346,o0) :: (nat_lit 348,o258) :: (nat_lit 349,o0) :: (nat_lit 351,o260) :: (nat_lit 352,o261) :: (nat_lit 353,o262) :: (nat_lit 354,o265 P) :: (nat_lit 355,o266) :: (nat_lit 356,o267) :: (nat_lit 357,o268) :: (nat_lit 360,o0) :: (nat_lit 362,o271) :: (nat_lit 363,o0) :: (nat_lit 365,o273) :: (nat_lit 366,o274) :: (nat_lit 367,o0) :: (nat_lit 370,o304) :: (nat_lit 371,o305) :: (nat_lit 372,o0) :: (nat_lit 374,o306) :: (nat_lit 375,o0) :: (nat_lit 377,o308) :: (nat_lit 378,o309) :: (nat_lit 379,o0) :: (nat_lit 382,o311) :: (nat_lit 383,o312) :: (nat_lit 384,o0) :: (nat_lit 386,o313) :: (nat_lit 387,o0) :: (nat_lit 389,o315) :: (nat_lit 390,o316) :: (nat_lit 391,o0) :: (nat_lit 394,o318) :: (nat_lit 395,o319) :: (nat_lit 396,o0) :: (nat_lit 398,o320) :: (nat_lit 399,o0) :: (nat_lit 401,o322) :: (nat_lit 402,o323) :: (nat_lit 403,o0) :: (nat_lit 405,o324) :: (nat_lit 406,o0) :: (nat_lit 408,o326) :: (nat_lit 409,o327) :: (nat_lit 410,o0) :: (nat_lit 412,o328) :: (nat_lit 413,o0) :: (nat_lit 415,o330) :: (nat_lit 416,o331) :: (nat_lit 417,o0) :: (nat_lit 420,o333) :: (nat_lit 421,o334) :: (nat_lit 422,o0) :: (nat_lit 424,o335) :: (nat_lit 425,o0) :: (nat_lit 427,o337) :: (nat_lit 428,o338) :: (nat_lit 429,o0) :: (nat_lit 431,o339) :: (nat_lit 432,o0) :: (nat_lit 434,o341) :: (nat_lit 435,o342) :: (nat_lit 436,o0) :: (nat_lit 438,o343) :: (nat_lit 439,o0) :: (nat_lit 441,o345) :: (nat_lit 442,o346) :: (nat_lit 443,o0) :: (nat_lit 445,o347) :: (nat_lit 446,o0) :: (nat_lit 448,o349) :: (nat_lit 449,o350) :: (nat_lit 450,o0) :: (nat_lit 453,o352) :: (nat_lit 454,o353) :: [])
noncomputable def kA:List Addr:=(2 :: 3 :: 15 :: 22 :: 23 :: 24 :: 25 :: 28 :: 35 :: 36 :: 37 :: 40 :: 47 :: 48 :: 49 :: 52 :: 59 :: 60 :: 61 :: 64 :: 71 :: 72 :: 73 :: 76 :: 83 :: 85 :: 86 :: 88 :: 89 :: 90 :: 91 :: 92 :: 95 :: 97 :: 98 :: 100 :: 101 :: 102 :: 104 :: 105 :: 107 :: 108 :: 109 :: 112 :: 113 :: 114 :: 116 :: 117 :: 119 :: 120 :: 121 :: 123 :: 124 :: 126 :: 127 :: 128 :: 130 :: 131 :: 133 :: 134 :: 135 :: 137 :: 138 :: 140 :: 141 :: 142 :: 144 :: 145 :: 147 :: 148 :: 149 :: 151 :: 152 :: 154 :: 155 :: 156 :: 158 :: 159 :: 161 :: 162 :: 163 :: 165 :: 166 :: 168 :: 169 :: 170 :: 172 :: 173 :: 175 :: 176 :: 177 :: 179 :: 180 :: 182 :: 183 :: 184 :: 186 :: 187 :: 189 :: 190 :: 191 :: 193 :: 194 :: 196 :: 197 :: 198 :: 200 :: 201 :: 203 :: 204 :: 205 :: 207 :: 208 :: 210 :: 211 :: 212 :: 215 :: 216 :: 217 :: 219 :: 220 :: 222 :: 223 :: 224 :: 226 :: 227 :: 229 :: 230 :: 231 :: 233 :: 234 :: 236 :: 237 :: 238 :: 240 :: 241 :: 243 :: 244 :: 245 :: 247 :: 248 :: 250 :: 251 :: 252 :: 255 :: 256 :: 257 :: 259 :: 260 :: 262 :: 263 :: 264 :: 266 :: 267 :: 269 :: 270 :: 271 :: 273 :: 274 :: 276 :: 277 :: 278 :: 280 :: 281 :: 283 :: 284 :: 285 :: 287 :: 288 :: 290 :: 291 :: 292 :: 294 :: 295 :: 297 :: 298 :: 299 :: 302 :: 303 :: 311 :: 313 :: 314 :: 316 :: 317 :: 318 :: 320 :: 321 :: 323 :: 324 :: 325 :: 327 :: 328 :: 330 :: 331 :: 332 :: 334 :: 335 :: 337 :: 338 :: 339 :: 341 :: 342 :: 344 :: 345 :: 346 :: 348 :: 349 :: 351 :: 352 :: 353 :: 354 :: 355 :: 356 :: 357 :: 360 :: 362 :: 363 :: 365 :: 366 :: 367 :: 370 :: 371 :: 372 :: 374 :: 375 :: 377 :: 378 :: 379 :: 382 :: 383 :: 384 :: 386 :: 387 :: 389 :: 390 :: 391 :: 394 :: 395 :: 396 :: 398 :: 399 :: 401 :: 402 :: 403 :: 405 :: 406 :: 408 :: 409 :: 410 :: 412 :: 413 :: 415 :: 416 :: 417 :: 420 :: 421 :: 422 :: 424 :: 425 :: 427 :: 428 :: 429 :: 431 :: 432 :: 434 :: 435 :: 436 :: 438 :: 439 :: 441 :: 442 :: 443 :: 445 :: 446 :: 448 :: 449 :: 450 :: 453 :: 454 :: [])
theorem kOk:∀P,kA=(K P).map (·.1):=fun _=>by kernel_rfl
noncomputable def q:Program:={ pw with main:={ pw.main with body:=(top 1 :: top 2 :: top 3 :: top 4 :: top 5 :: top 6 :: top 8 :: top 9 :: top 10 :: top 11 :: top 12 :: top 13 :: top 14 :: top 15 :: top 16 :: top 17 :: top 18 :: top 19 :: top 20 :: top 21 :: top 22 :: top 23 :: top 25 :: top 26 :: top 27 :: top 28 :: top 29 :: top 31 :: top 32 :: top 33 :: top 34 :: top 35 :: top 36 :: top 37 :: top 39 :: top 40 :: top 41 :: top 42 :: top 43 :: top 44 :: top 45 :: top 46 :: top 47 :: top 48 :: top 49 :: top 50 :: top 51 :: top 52 :: top 54 :: top 55 :: top 56 :: top 57 :: top 58 :: top 59 :: top 60 :: top 61 :: top 62 :: top 63 :: top 64 :: top 65 :: top 66 :: top 67 :: top 68 :: []) } }
noncomputable abbrev Xt:Shared->Bool:=fun s=>xlAt q [] s && recOk (RowW.records (OpenRow.toRowW (OpenLaw.row PySem.Challenge.rw_moonseat_k26_verdicts_and_advice))) s
noncomputable def G2(p:Program)(w:World)(m:Nat)(an:Option Value)(n:Nat)(s:Shared)(t:Thread):=segRun treeTable p w m an 1 n s t
lay_quick G2
theorem g2{p:Program}{w:World}{m:Nat}{an:Option Value}{n:Nat}{s:Shared}{t:Thread}{r}(e:PySem.W.Fast.tw10880070632800087129 p w m an n s t=r):segRun treeTable p w m an 1 n s t=r:=by rw[<-PySem.W.Fast.te10880070632800087129]at e; exact e
noncomputable def G3(p:Program)(w:World)(m:Nat)(an:Option Value)(n:Nat)(s:SharedT)(t:Thread):=segRunT treeTable p w m an 1 n s t
lay_quick G3
theorem g3{p:Program}{w:World}{m:Nat}{an:Option Value}{n:Nat}{s:SharedT}{t:Thread}{r}(e:PySem.W.Fast.tw4145583888436359099 p w m an n s t=r):segRunT treeTable p w m an 1 n s t=r:=by rw[<-PySem.W.Fast.te4145583888436359099]at e; exact e
noncomputable def G4(p:Program)(w:World)(m:Nat)(an:Option Value)(n:Nat)(s:Shared)(t:Thread):=topRun treeTable p w m an n s t
lay_quick G4
theorem g4{p:Program}{w:World}{m:Nat}{an:Option Value}{n:Nat}{s:Shared}{t:Thread}{r}(e:PySem.W.Fast.tw6531939937263253831 p w m an n s t=r):topRun treeTable p w m an n s t=r:=by rw[<-PySem.W.Fast.te6531939937263253831]at e; exact e
noncomputable def G7(p:Program)(g h:Heap)(s:Shared):=(staticsOk (importedModules p.main.body) g h && namesBound p h && gensDone s && laidKept g h)
lay_quick G7
theorem g7{p:Program}{g h:Heap}{s:Shared}{r}(e:PySem.W.Fast.tw9566738594451217396 p g h s=r):(staticsOk (importedModules p.main.body) g h && namesBound p h && gensDone s && laidKept g h)=r:=by rw[<-PySem.W.Fast.te9566738594451217396]at e; exact e
noncomputable def G9(h:Heap):=(h.isNs mainGlobals && (Array.mk []:Array GenState).size == 0,h.objs.size,h.nsMap mainGlobals "__annotations__")
lay_quick G9
theorem g9{h:Heap}{r}(e:PySem.W.Fast.tw14578262778655688011 h=r):(h.isNs mainGlobals && (Array.mk []:Array GenState).size == 0,h.objs.size,h.nsMap mainGlobals "__annotations__")=r:=by rw[<-PySem.W.Fast.te14578262778655688011]at e; exact e
noncomputable def G5(q:Program)(R:WRecords)(md:List Str)(s:Shared):=(openSeen q [] md (fun s=>xlAt q [] s && recOk R s) true s)
noncomputable def G6(q:Program):=openGood q []
lay_quick G5 G6
theorem g5{q:Program}{R:WRecords}{md:List Str}{s:Shared}{α:Type}(f:_->α)(e:f (PySem.W.Fast.tw5989712690265804088 q R md s)=f (PySem.W.Fast.tw12956129408465502666 q)):f (openSeen q [] md (fun s=>xlAt q [] s && recOk R s) true s)=f (openGood q []):=by rw[<-PySem.W.Fast.te5989712690265804088,<-PySem.W.Fast.te12956129408465502666]at e; exact e
noncomputable def Lpre(w:World)(os:OsState):=topGo treeTable pw w 11 (some (.ref 6)) 12 (⟨boot_heap w.params,Array.mk [],boot_drawn,boot_toks,os⟩:Shared) (topStub pw)
noncomputable def Rpre(w:World)(os:OsState):=some ((⟨hA w.params,Array.mk [],{},187,os⟩:Shared),(⟨denote treeTable cE,cE,(⟨0,0,0,0⟩:Pos),[topFrame (⟨0,0,0,0⟩:Pos)]⟩:Thread))
lay_quick Lpre Rpre
theorem Qpre:Lpre=Rpre:=PySem.W.Fast.te10476676399240795362.trans ((by kernel_rfl:PySem.W.Fast.tw10476676399240795362=PySem.W.Fast.tw9996742816549557572).trans PySem.W.Fast.te9996742816549557572.symm)
theorem Ppre(w:World)(os:OsState):topGo treeTable pw w 11 (some (.ref 6)) 12 (⟨boot_heap w.params,Array.mk [],boot_drawn,boot_toks,os⟩:Shared) (topStub pw)=some ((⟨hA w.params,Array.mk [],{},187,os⟩:Shared),(⟨denote treeTable cE,cE,(⟨0,0,0,0⟩:Pos),[topFrame (⟨0,0,0,0⟩:Pos)]⟩:Thread)):=congrFun (congrFun Qpre w) os
theorem Pblk(w:World)(os:OsState):segRun treeTable pw w 11 (some (.ref 6)) 1 1 (⟨hA w.params,Array.mk [],{},187,os⟩:Shared) (blockOf bd env cE (⟨0,0,0,0⟩:Pos) [topFrame (⟨0,0,0,0⟩:Pos)])=some (Flow.next,SharedT.abs (⟨t0 w.params,15,{},Array.mk [],{},187,os⟩:SharedT),cE,(⟨0,0,0,0⟩:Pos)):=g2 (by kernel_rfl)
theorem P0(w:World)(os:OsState):segRunT treeTable pw w 11 (some (.ref 6)) 1 835 (⟨t0 w.params,15,{},Array.mk [],{},187,os⟩:SharedT) (piecesOf sts0 env cE (⟨0,0,0,0⟩:Pos) [topFrame (⟨0,0,0,0⟩:Pos)])=some (Flow.next,(⟨t1 w.params,64,{},Array.mk [],{},255,os⟩:SharedT),cE,(⟨8,0,9,8⟩:Pos)):=g3 (by kernel_rfl)
theorem P1(w:World)(os:OsState):segRunT treeTable pw w 11 (some (.ref 6)) 1 998 (⟨t1 w.params,64,{},Array.mk [],{},255,os⟩:SharedT) (piecesOf sts1 env cE (⟨8,0,9,8⟩:Pos) [topFrame (⟨0,0,0,0⟩:Pos)])=some (Flow.next,(⟨t2 w.params,205,{},Array.mk [],{},471,os⟩:SharedT),cE,(⟨116,0,116,8⟩:Pos)):=g3 (by kernel_rfl)
theorem P2(w:World)(os:OsState):segRunT treeTable pw w 11 (some (.ref 6)) 1 1000 (⟨t2 w.params,205,{},Array.mk [],{},471,os⟩:SharedT) (piecesOf sts2 env cE (⟨116,0,116,8⟩:Pos) [topFrame (⟨0,0,0,0⟩:Pos)])=some (Flow.next,(⟨t3 w.params,367,{},Array.mk [],{},720,os⟩:SharedT),cE,(⟨238,0,253,31⟩:Pos)):=g3 (by kernel_rfl)
theorem P3(w:World)(os:OsState):segRunT treeTable pw w 11 (some (.ref 6)) 1 458 (⟨t3 w.params,367,{},Array.mk [],{},720,os⟩:SharedT) (piecesOf sts3 env cE (⟨238,0,253,31⟩:Pos) [topFrame (⟨0,0,0,0⟩:Pos)])=some (Flow.next,(⟨t4 w.params,455,{},Array.mk [],{},879,os⟩:SharedT),cE,(⟨382,0,402,15⟩:Pos)):=g3 (by kernel_rfl)
theorem Pfin(w:World)(os:OsState):topRun treeTable pw w 11 (some (.ref 6)) 2 (SharedT.abs (⟨t4 w.params,455,{},Array.mk [],{},879,os⟩:SharedT)) (⟨doneF .next,cE,(⟨382,0,402,15⟩:Pos),[topFrame (⟨0,0,0,0⟩:Pos)]⟩:Thread)=some (⟨hF w.params,Array.mk [],{},879,os⟩:Shared):=g4 (by kernel_rfl)
theorem Pc0(w:World)(os:OsState):(openSeen q [] (importedModules pw.main.body) Xt true (⟨hF w.params,Array.mk [],{},879,os⟩:Shared)).1=(openGood q []).1:=g5 (·.1) (by kernel_rfl)
theorem Pc1(w:World)(os:OsState):(openSeen q [] (importedModules pw.main.body) Xt true (⟨hF w.params,Array.mk [],{},879,os⟩:Shared)).2.1=(openGood q []).2.1:=g5 (·.2.1) (by kernel_rfl)
theorem Pc2(w:World)(os:OsState):(openSeen q [] (importedModules pw.main.body) Xt true (⟨hF w.params,Array.mk [],{},879,os⟩:Shared)).2.2.1=(openGood q []).2.2.1:=g5 (·.2.2.1) (by kernel_rfl)
theorem Pc3(w:World)(os:OsState):(openSeen q [] (importedModules pw.main.body) Xt true (⟨hF w.params,Array.mk [],{},879,os⟩:Shared)).2.2.2.1=(openGood q []).2.2.2.1:=g5 (·.2.2.2.1) (by kernel_rfl)
theorem Pc4(w:World)(os:OsState):(openSeen q [] (importedModules pw.main.body) Xt true (⟨hF w.params,Array.mk [],{},879,os⟩:Shared)).2.2.2.2.1=(openGood q []).2.2.2.2.1:=g5 (·.2.2.2.2.1) (by kernel_rfl)
theorem Pc5(w:World)(os:OsState):(openSeen q [] (importedModules pw.main.body) Xt true (⟨hF w.params,Array.mk [],{},879,os⟩:Shared)).2.2.2.2.2.1=(openGood q []).2.2.2.2.2.1:=g5 (·.2.2.2.2.2.1) (by kernel_rfl)
theorem Pc6(w:World)(os:OsState):(openSeen q [] (importedModules pw.main.body) Xt true (⟨hF w.params,Array.mk [],{},879,os⟩:Shared)).2.2.2.2.2.2.1=(openGood q []).2.2.2.2.2.2.1:=g5 (·.2.2.2.2.2.2.1) (by kernel_rfl)
theorem Pc7(w:World)(os:OsState):(openSeen q [] (importedModules pw.main.body) Xt true (⟨hF w.params,Array.mk [],{},879,os⟩:Shared)).2.2.2.2.2.2.2.1=(openGood q []).2.2.2.2.2.2.2.1:=g5 (·.2.2.2.2.2.2.2.1) (by kernel_rfl)
theorem Pc8(w:World)(os:OsState):(openSeen q [] (importedModules pw.main.body) Xt true (⟨hF w.params,Array.mk [],{},879,os⟩:Shared)).2.2.2.2.2.2.2.2=(openGood q []).2.2.2.2.2.2.2.2:=g5 (·.2.2.2.2.2.2.2.2) (by kernel_rfl)
theorem Pa(w:World)(os:OsState):(staticsOk (importedModules pw.main.body) (boot_heap w.params) (hF w.params) && namesBound pw (hF w.params) && gensDone (⟨hF w.params,Array.mk [],{},879,os⟩:Shared) && laidKept (boot_heap w.params) (hF w.params))=true:=g7 (by kernel_rfl)
theorem Py(w:World)(os:OsState):kA.map ((⟨hF w.params,Array.mk [],{},879,os⟩:Shared)).heap.get?=(K w.params).map fun p=>some p.2:=by kernel_rfl
theorem Pz(w:World):((boot_heap w.params).isNs mainGlobals && (Array.mk []:Array GenState).size == 0,(boot_heap w.params).objs.size,(boot_heap w.params).nsMap mainGlobals "__annotations__")=(true,11,(some (.ref 6))):=g9 (by kernel_rfl)
theorem run(w:World)(os:OsState):topRun treeTable pw w 11 (some (.ref 6)) (12 + (1 + (835 + (998 + (1000 + (458 + 2)))))) (⟨boot_heap w.params,Array.mk [],boot_drawn,boot_toks,os⟩:Shared) (topStub pw)=some (⟨hF w.params,Array.mk [],{},879,os⟩:Shared):=
  go_top (Ppre w os) (piece_block (Pblk w os) (piece_app (l:=sts0) (segRun_of (P0 w os)) (piece_app (l:=sts1) (segRun_of (P1 w os)) (piece_app (l:=sts2) (segRun_of (P2 w os)) (piece_app (l:=sts3) (segRun_of (P3 w os)) (piece_nil (Pfin w os)))))))
theorem opn:opening pw=plainProg pw.main.scope.names:=by kernel_rfl
theorem fen(s:Shared):fenceModules? pw s=some s:=by kernel_rfl
theorem left:LeftO pw q [] Xt (Hook.obs (kHook K kA kOk)) (Hook.val (kHook K kA kOk)) 6700:=
  LeftO.of_pieces (H₀:=boot_heap) (H₁:=hF) (boot_open opn (by decide) fen) Pz run (by decide) fun w=>funext fun os=>Prod.ext (Pa w os) (Prod.ext (Prod.ext (Pc0 w os) (Prod.ext (Pc1 w os) (Prod.ext (Pc2 w os) (Prod.ext (Pc3 w os) (Prod.ext (Pc4 w os) (Prod.ext (Pc5 w os) (Prod.ext (Pc6 w os) (Prod.ext (Pc7 w os) (Pc8 w os))))))))) (Py w os))
end
end Hd
namespace M
open PySem L2 DS CP
noncomputable def gE(K:W.Frag):Sp:=fun vs H Q _=>∃(a:Addr) (ns:List Int),vs=[.ref a]/\jy K H a (ns.map V.int)/\ns.length<=63/\∀H',Q (.bl true) H'
theorem bi{K:W.Frag}{C:Addr}(vs:List V)(H:Hp)(Q:VK)(E:XK)(h:gE K vs H Q E):ga K [false] (kn C) vs H Q E:=by
  obtain⟨a,ns,rfl,hS,hl,q⟩:=h
  have e:jb H []=H:=by funext b; rfl
  exact⟨[],[.scr ns],.bl true,(fun a h=>by cases h),⟨.inl (by rw[e]; show DS.j7 K H (.scr ns) _; rw[DS.j7]; exact⟨a,rfl,hS⟩),trivial⟩,Xe C ns hl,fun v H' _ r=>by rw[DS.j7]at r; rw[r]; exact q H'⟩
theorem dW{l:W.OpenLaw}{w:World}{K:W.Frag}{h:Heap}{mg:Str->Option Value}{fa C:Addr}(X:K.In h)(G:h.Ns mainGlobals mg)(hfa:mg "law" = some (.ref fa))
  (aC:W.nsIn K mainGlobals "Rules" = some (some (.ref C)))
  (pg:W.plainGet K C Str.empty=true)
  (hd:W.hasDictIn K C=true)
  (po:W.plainOver K C=true)
  (sa:W.findIn K (.ref C) "__setattr__" = some (some (.builtin "object.__setattr__")))
  (mk:W.makesIn K C=true)
  (kc:W.keepIn K (.ref C)=true)
  (h__law_numbers:At K "_law_numbers" "_law_numbers" (top 54))
  (h__law_windows:At K "_law_windows" "_law_windows" (top 56))
  (h__law_book:At K "_law_book" "_law_book" (top 57))
  (h_fits_counts:At K "fits_counts" "fits_counts" (top 50))
  (h_fits_kind:At K "fits_kind" "fits_kind" (top 47))
  (h_fits_shun:At K "fits_shun" "fits_shun" (top 48))
  (h_fits_span:At K "fits_span" "fits_span" (top 49))
  (h_fits_rows:At K "fits_rows" "fits_rows" (top 51))
  (h_Rules___init__:Qi K C "__init__" "Rules.__init__" (inClass (top 52) 0))
  (h__law_made:At K "_law_made" "_law_made" (top 58))
  (h__law_start:At K "_law_start" "_law_start" (top 59))
  (h__law_turned_away:At K "_law_turned_away" "_law_turned_away" (top 60))
  (h__law_met:At K "_law_met" "_law_met" (top 61))
  (h__law_step:At K "_law_step" "_law_step" (top 62))
  (h__law_walk:At K "_law_walk" "_law_walk" (top 63))
  (h__law_levels:At K "_law_levels" "_law_levels" (top 65))
  (h__law_hosts:At K "_law_hosts" "_law_hosts" (top 66))
  (h__law_stand:At K "_law_stand" "_law_stand" (top 64))
  (h__law_same:At K "_law_same" "_law_same" (top 55))
  (h_check_beat:At K "check_beat" "check_beat" (top 33))
  (h_Rules_many:Qi K C "many" "Rules.many" (inClass (top 52) 5))
  (h_is_kind:At K "is_kind" "is_kind" (top 25))
  (h_has_kinds_alone:At K "has_kinds_alone" "has_kinds_alone" (top 26))
  (h_check_row:At K "check_row" "check_row" (top 27))
  (h_empty_stand:At K "empty_stand" "empty_stand" (top 8))
  (h_is_barred:At K "is_barred" "is_barred" (top 13))
  (h_is_long:At K "is_long" "is_long" (top 14))
  (h_is_short:At K "is_short" "is_short" (top 15))
  (h_is_early:At K "is_early" "is_early" (top 16))
  (h_is_shunned:At K "is_shunned" "is_shunned" (top 17))
  (h_met_with:At K "met_with" "met_with" (top 11))
  (h_misses_due:At K "misses_due" "misses_due" (top 18))
  (h_run_with:At K "run_with" "run_with" (top 9))
  (h_is_cut:At K "is_cut" "is_cut" (top 19))
  (h_breach:At K "breach" "breach" (top 20))
  (h_waits_with:At K "waits_with" "waits_with" (top 10))
  (h_stand_with:At K "stand_with" "stand_with" (top 12))
  (h_walked:At K "walked" "walked" (top 28))
  (h_stand_of:At K "stand_of" "stand_of" (top 29))
  (h_stepped:At K "stepped" "stepped" (top 21))
  (h_steps_from:At K "steps_from" "steps_from" (top 22))
  (h_layers_from:At K "layers_from" "layers_from" (top 23))
  (h_spoiler_is_next:At K "spoiler_is_next" "spoiler_is_next" (top 34))
  (h_hosts_from:At K "hosts_from" "hosts_from" (top 35))
  (h_verdict:At K "verdict" "verdict" (top 36))
  (h_advice:At K "advice" "advice" (top 37))
  (h__law_advice:At K "_law_advice" "_law_advice" (top 67))
  (h_law:At K "law" "law" (top 68))
  (hF:∀f∈(T0 C).fl,yI K C f)
  (hG:∀p∈(T0 C).gs,G0 K p.1 p.2):
    ∃fd:FuncData,(∀(s:Shared) (v:Value),BindsTo s fd ⟨[v],[]⟩ [("_law_script",v)])/\∀base:Heap,K.In base->base.Ns mainGlobals mg->FnOk l.prog w K mg base Yb 99 fa fd ["_law_script"] (gE K):=by
  have XG:∀x v,W.nsIn K mainGlobals x=some (some v)->mg x=some v:=fun x v a=>W.mg_of X G a
  obtain⟨f_law,kn,a_law,F_law⟩:=h_law
  have e:=hfa.symm.trans (XG _ _ a_law)
  cases e
  obtain⟨_,_,kV,dc,pm,an,cd,ct,_,rfl,_,_⟩:=F_law.ex
  refine⟨W.fnOf "law" "law" (defArgs (top 68)) (defBody (top 68)) (defScope (top 68)) .none kV dc pm an cd ct,fun s v=>.of_eq rfl,fun base _ _=>?_⟩
  have h:TOk l.prog w K mg base 0 (T0 C):=⟨fun p hp=>e_ XG (fun x a=>W.mg_none_of X G a) (hG p hp),(fun _ h=>by cases h),⟨pg,hd,po,sa⟩,hF⟩
  have h:TOk l.prog w K mg base 2 (T1 C):=TOk.F XG h h__law_numbers (Gp C)
  have h:TOk l.prog w K mg base 4 (T2 C):=TOk.F XG h h__law_windows (Gq C)
  have h:TOk l.prog w K mg base 6 (T3 C):=TOk.E XG h h__law_book (wp C)
  have h:TOk l.prog w K mg base 8 (T4 C):=TOk.E XG h h_fits_counts (k6 C)
  have h:TOk l.prog w K mg base 10 (T5 C):=TOk.E XG h h_fits_kind (wq C)
  have h:TOk l.prog w K mg base 12 (T6 C):=TOk.E XG h h_fits_shun (wr C)
  have h:TOk l.prog w K mg base 14 (T7 C):=TOk.E XG h h_fits_span (wt C)
  have h:TOk l.prog w K mg base 16 (T8 C):=TOk.E XG h h_fits_rows (wu C)
  have h:TOk l.prog w K mg base 18 (T9 C):=TOk.I XG (d:=yn C) h h_Rules___init__ rfl (UL C) rfl (UM C) mk kc aC (uR C)
  have h:TOk l.prog w K mg base 20 (CL C):=TOk.F XG h h__law_made (ww C)
  have h:TOk l.prog w K mg base 22 (CM C):=TOk.E XG h h__law_start (KZ C)
  have h:TOk l.prog w K mg base 24 (CN C):=TOk.E XG h h__law_turned_away (uj C)
  have h:TOk l.prog w K mg base 26 (CO C):=TOk.E XG h h__law_met (WU C)
  have h:TOk l.prog w K mg base 28 (CQ C):=TOk.E XG h h__law_step (wx C)
  have h:TOk l.prog w K mg base 30 (CS C):=TOk.F XG h h__law_walk (wy C)
  have h:TOk l.prog w K mg base 32 (CT C):=TOk.F XG h h__law_levels (k7 C)
  have h:TOk l.prog w K mg base 34 (CU C):=TOk.F XG h h__law_hosts (K_ C)
  have h:TOk l.prog w K mg base 36 (CV C):=TOk.E XG h h__law_stand (w5 C)
  have h:TOk l.prog w K mg base 42 (CW C):=TOk.R XG h h__law_same (jP C) (zj C) 6 (fun _=>rfl) (fun _=>rfl) (wA C) rfl (wB C)
  have h:TOk l.prog w K mg base 44 (CY C):=TOk.E XG h h_check_beat (w8 C)
  have h:TOk l.prog w K mg base 46 (CZ C):=TOk.mE (d:=ZK C) h h_Rules_many (wa C) rfl
  have h:TOk l.prog w K mg base 48 (C_ C):=TOk.E XG h h_is_kind (QL C)
  have h:TOk l.prog w K mg base 50 (d4 C):=TOk.E XG h h_has_kinds_alone (uS C)
  have h:TOk l.prog w K mg base 52 (d8 C):=TOk.E XG h h_check_row (wC C)
  have h:TOk l.prog w K mg base 54 (dg C):=TOk.E XG h h_empty_stand (k8 C)
  have h:TOk l.prog w K mg base 56 (dh C):=TOk.E XG h h_is_barred (wD C)
  have h:TOk l.prog w K mg base 58 (dj C):=TOk.E XG h h_is_long (QM C)
  have h:TOk l.prog w K mg base 60 (dl C):=TOk.E XG h h_is_short (WV C)
  have h:TOk l.prog w K mg base 62 (dm C):=TOk.E XG h h_is_early (WW C)
  have h:TOk l.prog w K mg base 64 (dn C):=TOk.E XG h h_is_shunned (wb C)
  have h:TOk l.prog w K mg base 66 (dw C):=TOk.E XG h h_met_with (WX C)
  have h:TOk l.prog w K mg base 68 (dz C):=TOk.E XG h h_misses_due (wc C)
  have h:TOk l.prog w K mg base 70 (dA C):=TOk.E XG h h_run_with (WY C)
  have h:TOk l.prog w K mg base 72 (dB C):=TOk.E XG h h_is_cut (Xf C)
  have h:TOk l.prog w K mg base 74 (dE C):=TOk.E XG h h_breach (Xg C)
  have h:TOk l.prog w K mg base 76 (dF C):=TOk.E XG h h_waits_with (wf C)
  have h:TOk l.prog w K mg base 78 (dG C):=TOk.E XG h h_stand_with (wg C)
  have h:TOk l.prog w K mg base 80 (dH C):=TOk.E XG h h_walked (Xh C)
  have h:TOk l.prog w K mg base 82 (dI C):=TOk.E XG h h_stand_of (WZ C)
  have h:TOk l.prog w K mg base 84 (dJ C):=TOk.E XG h h_stepped (QN C)
  have h:TOk l.prog w K mg base 86 (dM C):=TOk.F XG h h_steps_from (wk C)
  have h:TOk l.prog w K mg base 88 (dN C):=TOk.F XG h h_layers_from (k9 C)
  have h:TOk l.prog w K mg base 90 (dQ C):=TOk.E XG h h_spoiler_is_next (uT C)
  have h:TOk l.prog w K mg base 92 (dR C):=TOk.F XG h h_hosts_from (wl C)
  have h:TOk l.prog w K mg base 94 (dS C):=TOk.E XG h h_verdict (QO C)
  have h:TOk l.prog w K mg base 96 (dU C):=TOk.E XG h h_advice (Xi C)
  have h:TOk l.prog w K mg base 98 (Eu C):=TOk.E XG h h__law_advice (ka C)
  exact(aF (d:=aM C) h F_law (E5 C) rfl).imp bi
theorem walk{l:W.OpenLaw}{q:Program}{loose:List Str}{XP:(Str->Option Value)->Heap->Prop}{YP:World->Heap->Prop}{d:DefRec}{K:Params->W.Frag}(hn:l.most=some 63)(hdf:d.params.defaults=[])
    (hY:∀(w:World) (h:Heap),YP w h->(K w.params).In h)
    (F:∀(w:World) (mg:Str->Option Value) (fa:Addr) (h:Heap),(K w.params).In h->h.Ns mainGlobals mg->mg d.name=some (.ref fa)->
      ∃fd:FuncData,(∀(s:Shared) (u:Value),BindsTo s fd ⟨[u],[]⟩ [("_law_script",u)])/\∀base:Heap,(K w.params).In base->base.Ns mainGlobals mg->FnOk l.prog w (K w.params) mg base Yb 99 fa fd ["_law_script"] (gE (K w.params))):
    W.WalkO q loose XP YP l.row.toRowW d [] (fun f vs=>PySem.call f vs):=
  L2.Ab (n:=63) (k:=99) (x := "_law_script") (CX:=fun _=>Yb) (sp:=fun w=>gE (K w.params)) hn (by decide) hdf ⟨rfl,by decide,by decide⟩ hY F (fun _ _ a ns hl _ hS=>⟨a,ns,rfl,hS,hl,fun _=>rfl⟩) fun _ _ _ _ _ z=>z
end M
open PySem PySem.W PyProof.Rows
set_option maxRecDepth 100000 in
set_option maxHeartbeats 0 in
theorem PySem.Challenge.cw_moonseat_k26_verdicts_and_advice_holds : PySem.Challenge.rw_moonseat_k26_verdicts_and_advice.Holds := by
  w_on; o_law
  refine holds_open (q:=Hd.q) (loose:=[]) (Xt:=Hd.Xt) (XP:=XL Hd.q []) (Yf:=Hook.obs (kHook Hd.K Hd.kA Hd.kOk)) (Ya:=Hook.val (kHook Hd.K Hd.kA Hd.kOk)) (YP:=Hook.says (kHook Hd.K Hd.kA Hd.kOk)) (N:=6700) Hd.left (Hook.of _) (Hook.keeps _) (fun s e=>xl_of s (Bool.and_eq_true_iff.mp e).1) XL.keeps (by rfl) (by rfl) (by rfl) (fun s e=>recFacts_of (Bool.and_eq_true_iff.mp e).2) (by rfl) (by assumption) (by decide +kernel) ⟨rfl,rfl,rfl,rfl,rfl,by decide +kernel⟩ ?hw ?hc
  case hw=>w_witness2
  k_fill
  refine M.walk (l:=PySem.Challenge.rw_moonseat_k26_verdicts_and_advice) rfl rfl (fun w h Y=>kIn_of Y) ?F
  case F=>
    intro w mg fa h KX G hmg
    refine' M.dW KX G hmg ?_ ?_ ?_ ?_ ?_ ?_ ?_ ?_ ?_ ?_ ?_ ?_ ?_ ?_ ?_ ?_ ?_ ?_ ?_ ?_ ?_ ?_ ?_ ?_ ?_ ?_ ?_ ?_ ?_ ?_ ?_ ?_ ?_ ?_ ?_ ?_ ?_ ?_ ?_ ?_ ?_ ?_ ?_ ?_ ?_ ?_ ?_ ?_ ?_ ?_ ?_ ?_ ?_ ?_ ?_ ?_ ?_
    rotate_left 1
    iterate 7 (next=>k_is)
    iterate 8 (next=>exact CP.WO (by k_is) (L2.VM (by k_is) (by k_is) (by k_is)))
    iterate 1 (next=>exact CP.Qj (by k_is) (by k_is) (L2.VM (by k_is) (by k_is) (by k_is)))
    iterate 11 (next=>exact CP.WO (by k_is) (L2.VM (by k_is) (by k_is) (by k_is)))
    iterate 1 (next=>exact CP.Qj (by k_is) (by k_is) (L2.VM (by k_is) (by k_is) (by k_is)))
    iterate 27 (next=>exact CP.WO (by k_is) (L2.VM (by k_is) (by k_is) (by k_is)))
    iterate 1 (next=>exact CP.JE (show W.findIn _ _ _=_ by k_is) (CP.JE (show W.findIn _ _ _=_ by k_is) (CP.JE (show W.findIn _ _ _=_ by k_is) (CP.JE (show W.findIn _ _ _=_ by k_is) (CP.JE (show W.findIn _ _ _=_ by k_is) (CP.Et))))))
    iterate 1 (next=>exact CP.JE ⟨_,by k_is⟩ (CP.JE ⟨_,by k_is⟩ (CP.JE ⟨_,by k_is⟩ (CP.JE ⟨_,by k_is⟩ (CP.JE ⟨_,by k_is⟩ (CP.JE ⟨_,by k_is⟩ (CP.JE ⟨_,by k_is⟩ (CP.JE ⟨_,by k_is⟩ (CP.JE ⟨_,by k_is⟩ (CP.JE ⟨_,by k_is⟩ (CP.JE (show W.nsIn _ _ _=_ by k_is) (CP.JE (show W.nsIn _ _ _=_ by k_is) (CP.JE (show W.nsIn _ _ _=_ by k_is) (CP.JE (show W.nsIn _ _ _=_ by k_is) (CP.JE (show W.nsIn _ _ _=_ by k_is) (CP.JE (show W.nsIn _ _ _=_ by k_is) (CP.JE (show W.nsIn _ _ _=_ by k_is) (CP.JE (show W.nsIn _ _ _=_ by k_is) (CP.JE (show W.nsIn _ _ _=_ by k_is) (CP.JE (show W.nsIn _ _ _=_ by k_is) (CP.JE (show W.nsIn _ _ _=_ by k_is) (CP.JE (show W.nsIn _ _ _=_ by k_is) (CP.JE (show W.nsIn _ _ _=_ by k_is) (CP.JE (show W.nsIn _ _ _=_ by k_is) (CP.JE (show W.nsIn _ _ _=_ by k_is) (CP.Et))))))))))))))))))))))))))
