import PyProof.Rows.All
import Wide.All
import OpenK.AllK
import Wide.FinOn
import Lean
import PyProof.EqAt
import PyProof.EqKinds
import PyProof.TupleCall
import PyProof.NeKinds
import PyProof.IsiTupleOf
import PyProof.IsiPairs
import PyProof.IsiHeapPairs
import PyProof.ConsumeWalk
import PyProof.EnumFor
import PyProof.EnumMake
import PyProof.AutoSeq1
import KE.KIntText
import PyProof.Rows.StrSplitJoin
import PyProof.Rows.StrNews2
import PyProof.FString5
import PyProof.Rows.FStr
import PyProof.CollectIter
import PyProof.Rows.CallKwBuiltin
import PyProof.Draws
import PyProof.ListTruth
import PyProof.SeqRoads
import PyProof.FactsAll.str_0
import PyProof.FactsAll.str_5
import PyProof.FactsAll.str_6
import PyProof.FactsAll.str_7
import PyProof.FactsAll.tuple_0
import PyProof.FactsAll.list_1
import PyProof.FactsAll.tuple_2
import PyProof.FactsAll.tuple_3
import PyProof.FactsAll.list_3
import PyProof.AutoListH
import PyProof.MinMaxWalk
import KE.KTryMore
import PyProof.ExcArgsOwn
import PyProof.InstStoreFacts
import PyProof.ExcAttrAll.ValueError
import PyProof.FactsAll.list_2
import PyProof.ListRange
import KE.KRevIter
import PyProof.SumWalkG
import PySem.Challenge.RW_moonseat_k40_rule_texts_refused
section
open PySem PySem.Spec PyProof.Rows
def wAa:=@wpAny_bind
def wBa:=@wpAny_pure
def wCa:=@wpAny_mono
def wDa:=@wpAny_holding
def wGa:=@wpAny_execs_cons
def wHa:=@wpAny_call
def wIa:=@Heap.get?_push_of_some
def wJa:=@Heap.get?_push_size
def wKa:=@Heap.get?_update_other
def wLa:=@Heap.lt_size
def wMa:=@List.mem_cons_of_mem
def wNa:=@List.mem_cons_self
def wPa:=@Nat.le_refl
def wQa:=@Nat.le_of_lt
def wSa:=@Nat.le_trans
def wTa:=@Nat.ne_of_lt
def wUa:=@Nat.lt_irrefl
def wYa:=@List.mem_of_getElem?
def vAa:=@decide_eq_true
def vBa:=@decide_eq_false
def vCa:=@of_decide_eq_true
def vDa:=@absurd
def vFa:=@Option.some.inj
def vIa:=@List.mem_append_left
def vJa:=@List.mem_append_right
def vKa:=@Nat.le_add_right
def vLa:=@eq_of_beq
def vMa:=@Nat.le_succ
def vNa:=@Bool.false_ne_true
def vOa:=@wpAny_standAt
def vSa:=@codeAny_builtin
def vTa:=@wpAny_newObj_type
def vUa:=@Heap.get?_update_self
end
noncomputable section
set_option Elab.async false
set_option linter.all false
set_option maxRecDepth 100000
namespace L2
open PySem PySem.Spec PyProof.Rows
noncomputable abbrev zT:=Sum Int Str
noncomputable def XD:zT->Value->Bool
 | .inl k,v=>Value.isInt k v
 | .inr x,v=>Value.isStrOf x v
noncomputable def Hf(w:World):zT->Int
 | .inl k=>hashInt k
 | .inr x=>hashStr w x
theorem Jj:∀{k:zT} {v:Value},XD k v=true->(∃i t,k=Sum.inl i/\v=Value.int i t) \/ (∃x t,k=Sum.inr x/\v=Value.str x t)
 | .inl i,v,h=>by
  obtain⟨t,e⟩:=Value.isInt_shape (k:=i) (v:=v) h;exact .inl ⟨i,t,rfl,e⟩
 | .inr x,v,h=>by
  obtain⟨t,e⟩:=Value.isStrOf_shape (x:=x) (v:=v) h;exact .inr ⟨x,t,rfl,e⟩
theorem B8(a b:Int):decide ((Sum.inl a:zT)=Sum.inl b)=(a==b):=by
 by_cases e:a=b
 ·subst e;simp
 ·have h:¬(Sum.inl a:zT)=Sum.inl b:=fun q=>e (Sum.inl.inj q);rw[decide_eq_false h];exact(beq_eq_false_iff_ne.mpr e).symm
theorem B9(a b:Str):decide ((Sum.inr a:zT)=Sum.inr b)=decide (a=b):=by
 by_cases e:a=b
 ·subst e;simp
 ·have h:¬(Sum.inr a:zT)=Sum.inr b:=fun q=>e (Sum.inr.inj q);rw[decide_eq_false h,decide_eq_false e]
theorem Ba(a:Int)(b:Str):decide ((Sum.inl a:zT)=Sum.inr b)=false:=vBa (fun q=>nomatch q)
theorem Bb(a:Str)(b:Int):decide ((Sum.inr a:zT)=Sum.inl b)=false:=vBa (fun q=>nomatch q)
def gw(prog:Program)(w:World):PySem.KeyKind prog w zT where
 is:=XD
 hash:=Hf w
 inj:=fun v a b ha hb=>by
  rcases Jj ha with⟨i,t,rfl,rfl⟩ | ⟨x,t,rfl,rfl⟩
  ·rcases Jj hb with⟨j,u,rfl,e⟩ | ⟨y,u,rfl,e⟩
   ·injection e with e1 _;rw[e1]
   ·exact nomatch e
  ·rcases Jj hb with⟨j,u,rfl,e⟩ | ⟨y,u,rfl,e⟩
   ·exact nomatch e
   ·injection e with e1 _;rw[e1]
 byValue:=fun k v h=>by
  rcases Jj h with⟨i,t,rfl,rfl⟩ | ⟨x,t,rfl,rfl⟩ <;> rfl
 pyHash:=fun hv h=>by
  rcases Jj hv with⟨i,t,rfl,rfl⟩ | ⟨x,t,rfl,rfl⟩
  ·exact wpAny_pyHash_int h
  ·exact wpAny_pyHash_str h
 eqBool:=fun hu hv h=>by
  rcases Jj hu with⟨i,t,rfl,rfl⟩ | ⟨x,t,rfl,rfl⟩
  ·rcases Jj hv with⟨j,u,rfl,rfl⟩ | ⟨y,u,rfl,rfl⟩
   ·rw[B8]at h;exact wpAny_eqBool_int h
   ·rw[Ba]at h;exact SeqAt.EqAt.int_str i t y u _ _ _ _ h
  ·rcases Jj hv with⟨j,u,rfl,rfl⟩ | ⟨y,u,rfl,rfl⟩
   ·rw[Bb]at h;exact SeqAt.EqAt.str_int x t j u _ _ _ _ h
   ·rw[B9]at h;exact wpAny_eqBool_str h
 «strs»:=fun k x t v h=>by
  rcases Jj h with⟨i,u,rfl,e⟩ | ⟨y,u,rfl,e⟩
  ·exact nomatch e
  ·injection e with e1 _;subst e1;cases v <;> rfl
inductive V where
 | non | bl (b:Bool) | int (i:Int) | str (x:Str) | byt (b:Array UInt8) | flt (b:UInt64) | ref (a:Addr) | ty (n:String)
 deriving DecidableEq
def jq:V->Value->Prop
 | .non,u=>u=Value.none
 | .bl b,u=>u=Value.bool b
 | .int i,u=>∃t,u=Value.int i t
 | .str x,u=>∃t,u=Value.str x t
 | .byt b,u=>∃t,u=Value.bytes b t
 | .flt b,u=>∃t,u=Value.float b t
 | .ref a,u=>u=Value.ref a
 | .ty n,u=>u=Value.type n
abbrev jg:List V->List Value->Prop:=Paired jq
theorem jg.length{xs:List V}{us:List Value}(r:jg xs us):xs.length=us.length:=Paired.length r
theorem jg.get:∀{xs:List V} {us:List Value} {i:Nat} {x:V},jg xs us->xs[i]?=some x->∃u,us[i]?=some u/\jq x u
 | _,_,_,_,.nil,e=>by simp at e
 | _,_,0,_,.cons r _,e=>by simp at e;subst e;exact⟨_,rfl,r⟩
 | _,_,i+1,x,.cons _ t,e=>by
  obtain⟨u,h1,h2⟩:=jg.get (i:=i) (x:=x) t (by simpa using e);exact⟨u,by simpa using h1,h2⟩
theorem jg.set{x:V}{u:Value}(r:jq x u):∀{xs:List V} {us:List Value} (i:Nat),jg xs us->jg (xs.set i x) (us.set i u)
 | _,_,_,.nil=>.nil
 | _,_,0,.cons _ t=>.cons r t
 | _,_,i+1,.cons q t=>.cons q (jg.set r i t)
theorem jg.append:∀{xs ys:List V} {us ws:List Value},jg xs us->jg ys ws->jg (xs++ys) (us++ws)
 | _,_,_,_,.nil,s=>s
 | _,_,_,_,.cons r t,s=>.cons r (jg.append t s)
theorem jg.take:∀{xs:List V} {us:List Value} (n:Nat),jg xs us->jg (xs.take n) (us.take n)
 | _,_,0,_=>.nil
 | _,_,_+1,.nil=>.nil
 | _,_,n+1,.cons r t=>.cons r (jg.take n t)
theorem jg.drop:∀{xs:List V} {us:List Value} (n:Nat),jg xs us->jg (xs.drop n) (us.drop n)
 | _,_,0,r=>r
 | _,_,_+1,.nil=>.nil
 | _,_,n+1,.cons _ t=>jg.drop n t
def ZY:Option V->Option Value->Prop
 | some v,some u=>jq v u
 | none,none=>True
 | _,_=>False
def KV{κ:Type}:List (κ×V)->List (κ×Value)->Prop:=Paired fun(p:κ×V) (q:κ×Value)=>p.1=q.1/\jq p.2 q.2
noncomputable def kV:zT->V
 | .inl i=>.int i
 | .inr x=>.str x
inductive HO where
 | lst (xs:List V)
 | tup (xs:List V)
 | dK (kvs:List (zT×V)) | dT (kvs:List (List zT×V))
 | set (S:Int->Bool) (n:Nat)
 | ins (C dx:Addr) (fs:List (Str×V))
 | own (x:Addr)
 | xd (fs:List (Str×V))
 | met (f x:Addr)
 | rng (lo hi:Int)
 | frz (o:Obj) (u:HO)
 | tbl (ps:Array Value)
 | ext (φ:Heap->Prop)
noncomputable abbrev Hp:=Addr->Option HO
noncomputable def upd(H:Hp)(a:Addr)(o:HO):Hp:=fun b=>if b=a then some o else H b
theorem ju{H:Hp}{a:Addr}{o:HO}:upd H a o a=some o:=by unfold upd;rw[if_pos rfl]
theorem je{H:Hp}{a b:Addr}{o:HO}(h:b≠a):upd H a o b=H b:=by unfold upd;rw[if_neg h]
theorem jz{H:Hp}{a b:Addr}{o:HO}(h:H a=some o)(h':H b=none):a≠b:=by
 intro e;subst e;rw[h]at h';cases h'
section
variable (P:Program) (w:World)
def Jb(H:Hp)(h:Heap)(a:Addr):HO->Prop
 | .lst xs=>xs.length<=sizeLine/\∃(its:List Value) (n:Nat),jg xs its/\h.get? a=some { cls:=.type "list",data:=.seq its.toArray n }
 | .tup xs=>xs.length<=sizeLine/\∃its:List Value,jg xs its/\IsTup h a its.toArray
 | .dK kvs=>kvs.length<=sizeLine/\(a==sysModules)=false/\∃vs,KV kvs vs/\h.DictOf (gw P w) a vs
 | .dT kvs=>kvs.length<=sizeLine/\(a==sysModules)=false/\∃xs:List (List zT×Addr×Value),
   Paired (fun(p:List zT×V) (q:List zT×Addr×Value)=>p.1=q.1/\H q.2.1=some (.tup (p.1.map kV))/\jq p.2 q.2.2) kvs xs/\
   ∃o es ep,h.get? a=some o/\o.ExactDict/\o.data=.dict es ep/\es.toList=xs.map (entryOfKey (tupleKind (gw P w)))/\(xs.map (·.1)).Nodup
 | .set S n=>h.SetOf (intKind P w) a S n
 | .ins C dx fs=>H dx=some (.own a)/\fs.length<=1000/\dx≠a/\h.get? a=some (PySem.W.instObj C dx)/\
   ∃mA,h.Ns1 dx mA/\(∀f,ZY (fs.lookup f) (mA f))/\PySem.Within mA (fs.map (·.1))
 | .own _=>∃o,h.get? a=some o
 | .xd fs=>∃mA,h.Ns1 a mA/\∀f,ZY (fs.lookup f) (mA f)
 | .rng lo hi=>∃t u v,h.get? a=some { cls:=.type "range",data:=.fields #[.int lo t,.int hi u,.int 1 v] }
 | .frz o u=>h.get? a=some o/\Jb H h a u
 | .tbl ps=>h.get? a=some { cls:=.none,data:=.fields ps }
 | .met f x=>h.get? a=some (PySem.W.methodObj (.ref f) (.ref x))
 | .ext φ=>φ h/\(∃o,h.get? a=some o)/\∀h1 h2:Heap,φ h1->(∀o,h1.get? a=some o->h2.get? a=some o)->φ h2
def JG(H:Hp)(h:Heap):Prop:=∀a o,H a=some o->Jb P w H h a o
end
section
variable {P:Program} {w:World} {H H':Hp} {h h':Heap} {a:Addr} {o:HO}
theorem Jb.lt(x:Jb P w H h a o):a < h.objs.size:=by
 cases o with
 | lst xs=>obtain⟨_,_,_,_,e⟩:=x;exact wLa e
 | tup xs=>obtain⟨_,_,_,p⟩:=x;exact p.lt
 | dK kvs=>obtain⟨_,_,_,_,o,_,_,e,_⟩:=x;exact wLa e
 | dT kvs=>obtain⟨_,_,_,_,o,_,_,e,_⟩:=x;exact wLa e
 | set S n=>obtain⟨o,_,_,_,e,_⟩:=x;exact wLa e
 | ins C dx fs=>obtain⟨_,_,_,e,_⟩:=x;exact wLa e
 | own y=>obtain⟨_,e⟩:=x;exact wLa e
 | xd fs=>obtain⟨_,⟨_,_,_,e,_⟩,_⟩:=x;exact wLa e
 | rng lo hi=>obtain⟨_,_,_,e⟩:=x;exact wLa e
 | frz ob u=>obtain⟨e,_⟩:=x;exact wLa e
 | tbl ps=>exact wLa (show h.get? a=some _ from x)
 | met f y=>exact wLa (show h.get? a=some _ from x)
 | ext φ=>obtain⟨_,⟨_,e⟩,_⟩:=x;exact wLa e
theorem Paired.mapP{α β:Type}{F G:α->β->Prop}:∀{l₁:List α} {l₂:List β},Paired F l₁ l₂->(∀a b,F a b->G a b)->Paired G l₁ l₂
 | _,_,.nil,_=>.nil
 | _,_,.cons r t,f=>.cons (f _ _ r) (Paired.mapP t f)
theorem Jb.stay(x:Jb P w H h a o)(k:∀b u,(b=a \/ H b=some (.own a))->h.get? b=some u->h'.get? b=some u)
  (ho:∀b,H b=some (.own a)->H' b=some (.own a)) (ht:∀b xs,H b=some (.tup xs)->H' b=some (.tup xs)):Jb P w H' h' a o:=by
 induction o with
 | lst xs=>obtain⟨z,its,n,r,e⟩:=x;exact⟨z,its,n,r,k _ _ (.inl rfl) e⟩
 | tup xs=>obtain⟨z,its,r,ob,e,c⟩:=x;exact⟨z,its,r,ob,k _ _ (.inl rfl) e,c⟩
 | dK kvs=>obtain⟨z,y,vs,r,ob,es,ep,e,c⟩:=x;exact⟨z,y,vs,r,ob,es,ep,k _ _ (.inl rfl) e,c⟩
 | dT kvs=>
  obtain⟨z,y,xs,r,ob,es,ep,e,c⟩:=x;exact⟨z,y,xs,Paired.mapP r fun p q z=>⟨z.1,ht _ _ z.2.1,z.2.2⟩,ob,es,ep,k _ _ (.inl rfl) e,c⟩
 | set S n=>obtain⟨ob,es,ep,t,e,c⟩:=x;exact⟨ob,es,ep,t,k _ _ (.inl rfl) e,c⟩
 | ins C dx fs=>
  obtain⟨d,z,ne,e,mA,⟨od,es,ep,e2,c⟩,r⟩:=x;exact⟨ho _ d,z,ne,k _ _ (.inl rfl) e,mA,⟨od,es,ep,k _ _ (.inr d) e2,c⟩,r⟩
 | own y=>obtain⟨ob,e⟩:=x;exact⟨ob,k _ _ (.inl rfl) e⟩
 | xd fs=>obtain⟨mA,⟨od,es,ep,e,c⟩,r⟩:=x;exact⟨mA,⟨od,es,ep,k _ _ (.inl rfl) e,c⟩,r⟩
 | rng lo hi=>obtain⟨t,u,v,e⟩:=x;exact⟨t,u,v,k _ _ (.inl rfl) e⟩
 | frz ob u ih=>obtain⟨e,q⟩:=x;exact⟨k _ _ (.inl rfl) e,ih q⟩
 | tbl ps=>
  have e:h.get? a=some { cls:=.none,data:=.fields ps }:=x;show h'.get? a=some { cls:=.none,data:=.fields ps };exact k a _ (.inl rfl) e
 | met f y=>
  have e:h.get? a=some (PySem.W.methodObj (.ref f) (.ref y)):=x;show h'.get? a=some (PySem.W.methodObj (.ref f) (.ref y));exact k a _ (.inl rfl) e
 | ext φ=>obtain⟨p,⟨o,e⟩,st⟩:=x;exact⟨st _ _ p fun o q=>k _ _ (.inl rfl) q,⟨o,k _ _ (.inl rfl) e⟩,st⟩
theorem JG.lt(x:JG P w H h)(e:H a=some o):a < h.objs.size:=(x a o e).lt
theorem JG.fresh(x:JG P w H h)(e:h.objs.size<=a):H a=none:=by
 cases q:H a with
 | none=>rfl
 | some u=>exact vDa (Nat.lt_of_lt_of_le (x.lt q) e) (wUa _)
theorem JG.kept(x:JG P w H h)(k:∀b u,h.get? b=some u->h'.get? b=some u):JG P w H h':=fun a o e=>
 (x a o e).stay (fun b u _ q=>k b u q) (fun _ q=>q) fun _ _ q=>q
theorem JG.laid(x:JG P w H h)(k:∀b u,h.get? b=some u->h'.get? b=some u)(hp:h.objs.size<=a)(new:Jb P w (upd H a o) h' a o):JG P w (upd H a o) h':=fun b u e=>by
 have hn:=x.fresh hp;by_cases hb:b=a
 ·subst hb;rw[ju]at e;cases e;exact new
 ·rw[je hb]at e;exact(x b u e).stay (fun c v _ q=>k c v q) (fun c q=>by rw[je (jz q hn)];exact q) fun c xs q=>by rw[je (jz q hn)];exact q
end
def Rd(H:Hp)(a:Addr)(u:HO):Prop:=H a=some u \/∃o,H a=some (.frz o u)
theorem Rd.ok{P:Program}{w:World}{H:Hp}{h:Heap}{a:Addr}{u:HO}(r:Rd H a u)(x:JG P w H h):Jb P w H h a u:=by
 rcases r with r | ⟨o,r⟩
 ·exact x a u r
 ·obtain⟨_,q⟩:=x a _ r;exact q
def XE:Option HO->Prop
 | some (.lst _)=>True
 | some (.dK _)=>True
 | some (.dT _)=>True
 | some (.set _ _)=>True
 | some (.ins _ _ _)=>True
 | some (.ext _)=>True
 | _=>False
section
variable {P:Program} {w:World} {H:Hp} {h h':Heap} {x e:Addr} {o':HO}
theorem JG.write(ok:JG P w H h)(mu:XE (H x))(he:e=x \/ H e=some (.own x))(k:∀b u,b≠e->h.get? b=some u->h'.get? b=some u)(heo:∃u,h'.get? e=some u)
  (new:Jb P w (upd H x o') h' x o'):JG P w (upd H x o') h':=fun b u q=>by
 have nown:∀c y,H c=some (.own y)->c≠x:=fun c y r z=>by subst z;rw[r]at mu;exact mu
 have ntup:∀c xs,H c=some (.tup xs)->c≠x:=fun c xs r z=>by subst z;rw[r]at mu;exact mu
 by_cases hb:b=x
 ·subst hb;rw[ju]at q;cases q;exact new
 ·rw[je hb]at q;by_cases hbe:b=e
  ·have q':H b=some (.own x):=by
    rcases he with z | z
    ·exact vDa (hbe.trans z) hb
    ·rw[hbe];exact z
   rw[q]at q';cases q';obtain⟨v,hv⟩:=heo;exact⟨v,by rw[hbe];exact hv⟩
  ·refine(ok b u q).stay (fun c v hc r=>k c v ?_ r) (fun c r=>by rw[je (nown c b r)];exact r) fun c xs r=>by rw[je (ntup c xs r)];exact r
   rcases hc with rfl | hc
   ·exact hbe
   ·rintro rfl;rcases he with z | z
    ·exact nown c b hc z
    ·rw[hc]at z;cases z;exact hb rfl
end
structure Un (fs ex:List Addr) (H H':Hp) (h h':Heap):Prop where
 keep:∀b o,h.get? b=some o->H b=none->b∉fs->b∉ex->h'.get? b=some o
 slot:∀b o,h.get? b=some o->H b=none->b∈fs->b∉ex->∃sl,h'.get? b=some { o with slots:=sl }
 free:∀b o,h.get? b=some o->H b=none->b∉ex->H' b=none
 there:∀b o,h.get? b=some o->b∉ex->∃o',h'.get? b=some o'
 tups:∀b xs,H b=some (.tup xs)->H' b=some (.tup xs)
 frzs:∀b o u,H b=some (.frz o u)->H' b=some (.frz o u)
 tbls:∀b ps,H b=some (.tbl ps)->∃more,H' b=some (.tbl (ps++more))
section
variable {fs fs' ex ex':List Addr} {H H1 H2:Hp} {h h1 h2 h':Heap} {a x e:Addr} {o:HO}
theorem Un.any(u:Un fs ex H H1 h h1){b:Addr}{ob:Obj}(q:h.get? b=some ob)(n:H b=none)(hx:b∉ex):∃sl,h1.get? b=some { ob with slots:=sl }:=by
 by_cases hb:b∈fs
 ·exact u.slot b ob q n hb hx
 ·exact⟨ob.slots,u.keep b ob q n hb hx⟩
theorem Un.kept(k:∀b u,h.get? b=some u->h'.get? b=some u):Un fs ex H H h h':=
 ⟨fun b ob q _ _ _=>k b ob q,fun b ob q _ _ _=>⟨ob.slots,k b ob q⟩,fun _ _ _ n _=>n,fun b ob q _=>⟨ob,k b ob q⟩,fun _ _ q=>q,fun _ _ _ q=>q,fun _ ps q=>⟨#[],by rw[q];simp⟩⟩
theorem Un.refl:Un fs ex H H h h:=Un.kept fun _ _ q=>q
theorem Un.laid(k:∀b u,h.get? b=some u->h'.get? b=some u)(hp:h.objs.size<=a)(hn:H a=none):Un fs ex H (upd H a o) h h' where
 keep:=fun b u q _ _ _=>k b u q
 slot:=fun b u q _ _ _=>⟨u.slots,k b u q⟩
 free:=fun b u q n _=>by rw[je (Nat.ne_of_lt (Nat.lt_of_lt_of_le (Heap.lt_size q) hp))];exact n
 there:=fun b u q _=>⟨u,k b u q⟩
 tups:=fun b xs q=>by rw[je (jz q hn)];exact q
 frzs:=fun b u xs q=>by rw[je (jz q hn)];exact q
 tbls:=fun b ps q=>⟨#[],by rw[je (jz q hn),q];simp⟩
theorem Un.write(mu:XE (H x))(he:e=x \/ H e=some (.own x))(k:∀b u,b≠e->h.get? b=some u->h'.get? b=some u)(heo:∃u,h'.get? e=some u):Un fs ex H (upd H x o) h h':=by
 have hx:∀b,H b=none->b≠x:=fun b n z=>by subst z;rw[n]at mu;exact mu
 have hb:∀b,H b=none->b≠e:=fun b n z=>by
  subst z;rcases he with r | r
  ·exact hx b n r
  ·rw[n]at r;cases r
 have hm:∀b u,H b=some u->¬XE (some u)->b≠x:=fun b u q nm z=>by subst z;rw[q]at mu;exact nm mu
 refine⟨fun b u q n _ _=>k b u (hb b n) q,fun b u q n _ _=>⟨u.slots,k b u (hb b n) q⟩,fun b u q n _=>by rw[je (hx b n)];exact n,fun b u q _=>?_,
  fun b xs q=>by rw[je (hm b _ q fun z=>z)];exact q,fun b u xs q=>by rw[je (hm b _ q fun z=>z)];exact q,fun b ps q=>⟨#[],by rw[je (hm b _ q fun z=>z),q];simp⟩⟩
 by_cases hbe:b=e
 ·subst hbe;exact heo
 ·exact⟨u,k b u hbe q⟩
end
noncomputable def ZD(h:Heap)(H:Hp):List Addr:=(List.range h.objs.size).filter fun a=>(H a).isSome
def vS(h:Heap)(H:Hp):Heap:=PySem.W.hideAll h (ZD h H)
theorem qA(h:Heap)(H:Hp):(vS h H).objs.size=h.objs.size:=PySem.W.hideAll_size _ _
theorem QN{h:Heap}{H:Hp}{b:Addr}{o:Obj}(e:h.get? b=some o)(n:H b=none):(vS h H).get? b=some o:=
 PySem.W.hideAll_get _ e fun hm=>by
  have q:(H b).isSome=true:=(List.mem_filter.mp hm).2;rw[n]at q;simp at q
theorem Ah{h:Heap}{H:Hp}{b:Addr}{o:Obj}(e:(vS h H).get? b=some o):h.get? b=some o/\H b=none:=by
 have e':h.get? b=some o:=PySem.W.of_hideAll (ZD h H) e;refine⟨e',?_⟩;cases q:H b with
 | none=>rfl
 | some x=>
  have hm:b∈ZD h H:=List.mem_filter.mpr ⟨List.mem_range.mpr (wLa e'),by simp[q]⟩;have z:(vS h H).get? b=none:=PySem.W.hideAll_none (ZD h H) hm;rw[z]at e;cases e
structure Mod (K:PySem.W.Frag) (mg:Str->Option Value) (base:Heap):Prop where
 kin:K.In base
 glob:base.Ns mainGlobals mg
 blt:∃mb,base.Ns builtinsNs mb/\∀x:Str,x≠ "__name__" ->mb x=bootBuiltins x
 nolimit:base.NoLimit
structure Cx where
 prog:Program
 w:World
 K:PySem.W.Frag
 mg:Str->Option Value
 base:Heap
 A:Around
 N:List Str
 s₀:Shared
 H₀:Hp
 env:Env
 outer:List Env
 stack:List Env
 ex:List Addr
 fn:Str->Bool
 calm:Bool
 pn:List (Addr×Obj)
 xe:Value->Shared->Prop
noncomputable def J8(l:List Env):List Addr:=l.filterMap (·.frame)
abbrev Cx.fs(X:Cx):List Addr:=J8 X.outer
def Go(sc:Scope)(x:Str):Prop:=sc.names.lookup x=some .local \/ sc.names.lookup x=some .cell \/ sc.names.lookup x=some .free
def Vx(sc:Scope)(x:Str):Prop:=sc.names.lookup x=some .local \/ sc.names.lookup x=some .cell
def Hg(env:Env)(h:Heap)(m:Str->Option Value)(x:Str)(u:Value):Prop:=
 (env.kindOf x=some .local/\m x=some u) \/ ((env.kindOf x=some .cell \/ env.kindOf x=some .free)/\∃c,env.cells.lookup x=some c/\h.IsCell c (some u))
structure Cx.Ok (X:Cx):Prop where
 mod:Mod X.K X.mg X.base
 kind:X.env.scope.kind=.function
 glob:X.env.globals=mainGlobals
 blt:X.env.builtins=builtinsNs
 above:X.s₀.heap.objs.size<=X.env.locals
 inj:∀x y c,X.env.cells.lookup x=some c->X.env.cells.lookup y=some c->x=y
 has:∀x,(X.env.kindOf x=some .cell \/ X.env.kindOf x=some .free)->∃c,X.env.cells.lookup x=some c
 cab:∀x c,X.fn x=true->X.env.cells.lookup x=some c->X.s₀.heap.objs.size<=c
 hd:X.calm=true->X.A.handled=none
 frames:X.A.frames=some X.stack
 stk:X.stack=X.outer \/ (X.stack=X.env::X.outer/\X.env.frame=some X.env.locals)
 exf:∀b∈X.ex,b≠X.env.locals/\∀x c,X.env.cells.lookup x=some c->c≠b
 bs:∀b o,X.base.get? b=some o->X.s₀.heap.get? b=some o/\X.H₀ b=none
 bsz:X.base.objs.size<=X.s₀.heap.objs.size
 noex:∀b o,X.base.get? b=some o->b∉X.ex
 exfs:∀b∈X.ex,b∉X.fs
 funs:X.s₀.heap.FunFrames X.base X.outer
 frf:∀b∈X.fs,X.H₀ b=none
structure Inv (X:Cx) (pins:List (Addr×Obj)) (U:List (Option V)) (H:Hp) (s:Shared):Prop where
 ok:X.Ok
 os:s.os=X.s₀.os
 bare:AllBare s.gens
 base:Un X.fs X.ex X.H₀ H X.s₀.heap s.heap
 loc:∃m,s.heap.Ns X.env.locals m/\∀(i:Nat) (x:Str) (v:V),X.N[i]?=some x->U[i]?=some (some v)->Go X.env.scope x->∃u,jq v u/\Hg X.env s.heap m x u
 cell:∀x c,X.env.cells.lookup x=some c->∃v,s.heap.IsCell c v
 free:H X.env.locals=none
 freeC:∀x c,X.env.cells.lookup x=some c->H c=none
 pin:∀p∈X.pn++pins,s.heap.get? p.1=some p.2/\H p.1=none/\p.1≠X.env.locals/\p.1∉X.fs/\∀v,p.2.data≠.cell v
 hok:JG X.prog X.w H s.heap
 len:U.length=X.N.length
section
variable {X:Cx} {pins:List (Addr×Obj)} {U:List (Option V)} {H H':Hp} {s:Shared} {h':Heap}
theorem Cx.Ok.nofr(ok:X.Ok){b:Addr}{o:Obj}(e:X.base.get? b=some o):b∉X.fs:=fun hb=>by
 have:=(ok.funs.mem hb).1;rw[e]at this;cases this
theorem Inv.bs(I:Inv X pins U H s):∀b o,X.base.get? b=some o->s.heap.get? b=some o/\H b=none:=fun b o e=>
 ⟨I.base.keep b o (I.ok.bs b o e).1 (I.ok.bs b o e).2 (I.ok.nofr e) (I.ok.noex b o e),I.base.free b o (I.ok.bs b o e).1 (I.ok.bs b o e).2 (I.ok.noex b o e)⟩
theorem Inv.bk(I:Inv X pins U H s):∀b o,X.base.get? b=some o->s.heap.get? b=some o:=fun b o e=>(I.bs b o e).1
theorem Inv.mod(I:Inv X pins U H s):Mod X.K X.mg X.base:=I.ok.mod
theorem Inv.kIn(I:Inv X pins U H s):X.K.In s.heap:=I.ok.mod.kin.keeps I.bk
theorem Inv.lt(I:Inv X pins U H s):X.env.locals < s.heap.objs.size:=let ⟨_,hn,_⟩:=I.loc;hn.lt
theorem Inv.sz(I:Inv X pins U H s):X.s₀.heap.objs.size<=s.heap.objs.size:=wSa I.ok.above (wQa I.lt)
theorem Inv.nofs(I:Inv X pins U H s){a:Addr}(h:s.heap.objs.size<=a):a∉X.fs:=fun hb=>by
 obtain⟨_,o,ho,_⟩:=I.ok.funs.mem hb;exact vDa (Nat.lt_of_lt_of_le (wLa ho) (wSa I.sz h)) (wUa _)
theorem Inv.cne(I:Inv X pins U H s):∀x c,X.env.cells.lookup x=some c->c≠X.env.locals:=fun x c e z=>by
 obtain⟨v,o,ho,hd⟩:=I.cell x c e;obtain⟨m,⟨o',es,ep,ho',hd',_⟩,_⟩:=I.loc;rw[z,ho']at ho;cases ho;rw[hd']at hd;cases hd
theorem Inv.funs(I:Inv X pins U H s):s.heap.FunFrames X.base X.outer:=by
 have all:∀(l:List Env),(∀b∈J8 l,b∈X.fs)->X.s₀.heap.FunFrames X.base l->s.heap.FunFrames X.base l:=by
  intro l;induction l with
  | nil=>intro _ _;trivial
  | cons env r ih=>
   intro hs hl;obtain⟨hk,⟨L,o,hf,hn,ho,hd⟩,hr⟩:=hl;have hL:L∈X.fs:=hs L (by unfold J8;rw[List.filterMap_cons,hf];exact wNa);obtain⟨sl,e⟩:=I.base.slot L o ho (I.ok.frf L hL) hL fun z=>I.ok.exfs L z hL;exact⟨hk,⟨L,_,hf,hn,e,hd⟩,ih (fun b hb=>hs b (by unfold J8;rw[List.filterMap_cons,hf];exact wMa _ hb)) hr⟩
 exact all X.outer (fun _ hb=>hb) I.ok.funs
theorem Inv.stack(I:Inv X pins U H s):s.heap.FunFrames X.base X.stack:=by
 rcases I.ok.stk with e | ⟨e,hf⟩
 ·rw[e];exact I.funs
 ·rw[e];obtain⟨m,hn,_⟩:=I.loc;refine .cons (by rw[I.ok.kind];decide) hf hn ?_ I.funs;exact Heap.get?_none_of_le (wSa I.ok.bsz I.ok.above)
theorem Inv.stkSub(I:Inv X pins U H s):∀b∈J8 X.stack,b∈X.env.locals::X.fs:=fun b hb=>by
 rcases I.ok.stk with e | ⟨e,hf⟩
 ·rw[e]at hb;exact wMa _ hb
 ·rw[e]at hb;unfold J8 at hb;rw[List.filterMap_cons,hf]at hb;exact hb
theorem Inv.stkFree(I:Inv X pins U H s):∀b∈J8 X.stack,H b=none:=fun b hb=>by
 rcases List.mem_cons.mp (I.stkSub b hb)with e | hb
 ·rw[e];exact I.free
 ·obtain⟨_,o,ho,_⟩:=I.ok.funs.mem hb;exact I.base.free b o ho (I.ok.frf b hb) fun z=>I.ok.exfs b z hb
theorem Inv.step{g':Array GenState}{t':Nat}{d':Drawn}{ch:List Addr}(I:Inv X pins U H s)
  (hch:∀b∈ch,(b∈X.ex \/ X.s₀.heap.objs.size<=b)/\b≠X.env.locals/\(∀x c,X.env.cells.lookup x=some c->c≠b)/\∀p∈X.pn++pins,p.1≠b)
  (keep:∀b o,b≠X.env.locals->b∉X.fs->b∉ch->s.heap.get? b=some o->H b=none->h'.get? b=some o)
  (slot:∀b o,b≠X.env.locals->b∈X.fs->b∉ch->s.heap.get? b=some o->H b=none->∃sl,h'.get? b=some { o with slots:=sl }) (free:∀b o,b∉ch->s.heap.get? b=some o->H b=none->H' b=none)
  (there:∀b o,b∉ch->s.heap.get? b=some o->∃o',h'.get? b=some o')
  (tups:∀b xs,H b=some (.tup xs)->H' b=some (.tup xs)) (frzs:∀b o u,H b=some (.frz o u)->H' b=some (.frz o u)) (tbls:∀b ps,H b=some (.tbl ps)->∃more,H' b=some (.tbl (ps++more)))
  (ns:∀m,s.heap.Ns X.env.locals m->h'.Ns X.env.locals m) (hok:JG X.prog X.w H' h') (hg:AllBare g'):
  Inv X pins U H' { s with heap:=h',gens:=g',drawn:=d',toks:=t' }:=by
 have neL:∀b o,X.s₀.heap.get? b=some o->b≠X.env.locals:=fun b o e=>wTa (Nat.lt_of_lt_of_le (wLa e) I.ok.above);have neC:∀b o,X.s₀.heap.get? b=some o->b∉X.ex->b∉ch:=fun b o e hx hb=>by
  rcases(hch b hb).1 with z | z
  ·exact hx z
  ·exact vDa (Nat.lt_of_lt_of_le (wLa e) z) (wUa _)
 have cellK:∀x c,X.env.cells.lookup x=some c->∀v,s.heap.IsCell c v->h'.IsCell c v:=fun x c e v ⟨o,ho,hd⟩=>by
  have nch:c∉ch:=fun z=>(hch c z).2.2.1 x c e rfl;by_cases hc:c∈X.fs
  ·obtain⟨sl,q⟩:=slot c o (I.cne x c e) hc nch ho (I.freeC x c e);exact⟨_,q,hd⟩
  ·exact⟨o,keep c o (I.cne x c e) hc nch ho (I.freeC x c e),hd⟩
 refine⟨I.ok,I.os,hg,⟨fun b o e n hb hx=>?_,fun b o e n hb hx=>?_,fun b o e n hx=>?_,fun b o e hx=>?_,fun b xs e=>tups b xs (I.base.tups b xs e),fun b o xs e=>frzs b o xs (I.base.frzs b o xs e),fun b ps e=>?_⟩,?_,fun x c e=>?_,?_,fun x c e=>?_,fun p hp=>?_,hok,I.len⟩
 ·exact keep b o (neL b o e) hb (neC b o e hx) (I.base.keep b o e n hb hx) (I.base.free b o e n hx)
 ·obtain⟨sl,e1⟩:=I.base.slot b o e n hb hx;obtain⟨sl',e2⟩:=slot b _ (neL b o e) hb (neC b o e hx) e1 (I.base.free b o e n hx);exact⟨sl',e2⟩
 ·obtain⟨o',e1⟩:=I.base.there b o e hx;exact free b o' (neC b o e hx) e1 (I.base.free b o e n hx)
 ·obtain⟨o',e1⟩:=I.base.there b o e hx;exact there b o' (neC b o e hx) e1
 ·obtain⟨m1,e1⟩:=I.base.tbls b ps e;obtain⟨m2,e2⟩:=tbls b _ e1;exact⟨m1++m2,by rw[e2,Array.append_assoc]⟩
 ·obtain⟨m,hn,hl⟩:=I.loc;refine⟨m,ns m hn,fun i x v e1 e2 e3=>?_⟩;obtain⟨u,r,l⟩:=hl i x v e1 e2 e3;refine⟨u,r,?_⟩;rcases l with l | ⟨k,c,e,z⟩
  ·exact .inl l
  ·exact .inr ⟨k,c,e,cellK x c e _ z⟩
 ·obtain⟨v,z⟩:=I.cell x c e;exact⟨v,cellK x c e v z⟩
 ·obtain⟨m,⟨o,_,_,ho,_⟩,_⟩:=I.loc;exact free _ o (fun z=>(hch _ z).2.1 rfl) ho I.free
 ·obtain⟨v,o,ho,hd⟩:=I.cell x c e;exact free c o (fun z=>(hch c z).2.2.1 x c e rfl) ho (I.freeC x c e)
 ·obtain⟨e,n,ne,nf,d⟩:=I.pin p hp;have nch:p.1∉ch:=fun z=>(hch p.1 z).2.2.2 p hp rfl;exact⟨keep p.1 p.2 ne nf nch e n,free p.1 p.2 nch e n,ne,nf,d⟩
theorem Inv.un{t':Nat}(I:Inv X pins U H s)(u:Un X.fs [] H H' s.heap h')(hok:JG X.prog X.w H' h'):Inv X pins U H' { s with heap:=h',toks:=t' }:=by
 obtain⟨m,⟨o,es,ep,ho,r⟩,_⟩:=id I.loc;obtain⟨sl,hL⟩:=u.any ho I.free (by simp);exact I.step (g':=s.gens) (d':=s.drawn) (ch:=[]) (fun _ z=>nomatch z) (fun b o _ hb _ e n=>u.keep b o e n hb (by simp)) (fun b o _ hb _ e n=>u.slot b o e n hb (by simp)) (fun b o _ e n=>u.free b o e n (by simp)) (fun b o _ e=>u.there b o e (by simp)) u.tups u.frzs u.tbls (fun m' hm=>by
  obtain⟨o',es',ep',ho',r'⟩:=hm;rw[ho]at ho';cases ho';exact⟨_,es',ep',hL,r'⟩) hok I.bare
theorem Inv.call{g':Array GenState}{t':Nat}{d':Drawn}{ch:List Addr}(I:Inv X pins U H s)(u:Un (J8 X.stack) ch H H' s.heap h')(hok:JG X.prog X.w H' h')(hg:AllBare g')
  (hch:∀b∈ch,(b∈X.ex \/ X.s₀.heap.objs.size<=b)/\b≠X.env.locals/\(∀x c,X.env.cells.lookup x=some c->c≠b)/\∀p∈X.pn++pins,p.1≠b):
  Inv X pins U H' { s with heap:=h',gens:=g',drawn:=d',toks:=t' }:=by
 obtain⟨m,⟨o,es,ep,ho,r⟩,_⟩:=id I.loc;obtain⟨sl,hL⟩:=u.any ho I.free fun z=>(hch _ z).2.1 rfl;exact I.step (ch:=ch) hch (fun b o hL hb hc e n=>u.keep b o e n (fun z=>(List.mem_cons.mp (I.stkSub b z)).elim hL hb) hc) (fun b o _ _ hc e n=>u.any e n hc) (fun b o hc e n=>u.free b o e n hc) (fun b o hc e=>u.there b o e hc) u.tups u.frzs u.tbls (fun m' hm=>by
  obtain⟨o',es',ep',ho',r'⟩:=hm;rw[ho]at ho';cases ho';exact⟨_,es',ep',hL,r'⟩) hok hg
theorem Inv.turned{t':Nat}{it:Addr}(I:Inv X pins U H s)(k:∀b o,b≠it->s.heap.get? b=some o->h'.get? b=some o)(hn:H it=none)(hL:it≠X.env.locals)
  (h1:it∈X.ex \/ X.s₀.heap.objs.size<=it) (h2:∀x c,X.env.cells.lookup x=some c->c≠it) (h3:∀p∈X.pn++pins,p.1≠it):Inv X pins U H { s with heap:=h',toks:=t' }:=by
 have nit:∀b u,H b=some u->b≠it:=fun b u e z=>by rw[z,hn]at e;cases e
 refine I.step (g':=s.gens) (d':=s.drawn) (ch:=[it]) (fun b hb=>?_) (fun b o _ _ hc e _=>k b o (fun z=>hc (by simp[z])) e) (fun b o _ _ hc e _=>⟨o.slots,k b o (fun z=>hc (by simp[z])) e⟩) (fun _ _ _ _ n=>n)
  (fun b o hc e=>⟨o,k b o (fun z=>hc (by simp[z])) e⟩) (fun _ _ e=>e) (fun _ _ _ e=>e) (fun b ps e=>⟨#[],by rw[e];simp⟩) (fun m hm=>?_) (fun b u e=>?_) I.bare
 ·have e:b=it:=by simpa using hb
  subst e;exact⟨h1,hL,h2,h3⟩
 ·obtain⟨o,es,ep,ho,r⟩:=hm;exact⟨o,es,ep,k _ o (Ne.symm hL) ho,r⟩
 ·refine(I.hok b u e).stay (fun c v hc q=>k c v ?_ q) (fun _ q=>q) fun _ _ q=>q;rcases hc with z | z
  ·rw[z];exact nit b u e
  ·exact nit c _ z
theorem Inv.tok(I:Inv X pins U H s)(t:Nat):Inv X pins U H { s with toks:=t }:=I.un (h':=s.heap) (t':=t) Un.refl I.hok
theorem Inv.kept{t':Nat}(I:Inv X pins U H s)(k:∀b u,s.heap.get? b=some u->h'.get? b=some u):Inv X pins U H { s with heap:=h',toks:=t' }:=I.un (Un.kept k) (I.hok.kept k)
theorem Inv.laid{a:Addr}{o:HO}{t':Nat}(I:Inv X pins U H s)(k:∀b u,s.heap.get? b=some u->h'.get? b=some u)(hp:s.heap.objs.size<=a)(new:Jb X.prog X.w (upd H a o) h' a o):
  Inv X pins U (upd H a o) { s with heap:=h',toks:=t' }:=I.un (Un.laid k hp (I.hok.fresh hp)) (I.hok.laid k hp new)
theorem Inv.write{x e:Addr}{o:HO}{t':Nat}(I:Inv X pins U H s)(mu:XE (H x))(he:e=x \/ H e=some (.own x))(k:∀b u,b≠e->s.heap.get? b=some u->h'.get? b=some u)(heo:∃u,h'.get? e=some u)
  (new:Jb X.prog X.w (upd H x o) h' x o):Inv X pins U (upd H x o) { s with heap:=h',toks:=t' }:=I.un (Un.write mu he k heo) (I.hok.write mu he k heo new)
theorem Inv.weak{U':List (Option V)}(I:Inv X pins U H s)(hl:U'.length=U.length)(w:∀(i:Nat) v,U'[i]?=some (some v)->U[i]?=some (some v)):Inv X pins U' H s:=
 ⟨I.ok,I.os,I.bare,I.base,let ⟨m,hn,hl'⟩:=I.loc;⟨m,hn,fun i x v e1 e2 e3=>hl' i x v e1 (w i v e2) e3⟩,I.cell,I.free,I.freeC,I.pin,I.hok,hl.trans I.len⟩
theorem Inv.pins_of{pins':List (Addr×Obj)}(I:Inv X pins U H s)(h:∀p∈pins',s.heap.get? p.1=some p.2/\H p.1=none/\p.1≠X.env.locals/\p.1∉X.fs/\∀v,p.2.data≠.cell v):Inv X pins' U H s:=
 ⟨I.ok,I.os,I.bare,I.base,I.loc,I.cell,I.free,I.freeC,fun p hp=>(List.mem_append.mp hp).elim (fun z=>I.pin p (vIa _ z)) (h p),I.hok,I.len⟩
theorem Ug{N:List Str}(hN:N.Nodup){i j:Nat}{x:Str}(a:N[i]?=some x)(b:N[j]?=some x):i=j:=by
 obtain⟨h1,e1⟩:=List.getElem?_eq_some_iff.mp a;obtain⟨h2,e2⟩:=List.getElem?_eq_some_iff.mp b;exact(List.getElem_inj hN).mp (e1.trans e2.symm)
theorem Gp{M:Model}{A:Around}{E:Value->Shared->Prop}{i:Nat}{x:Str}{v:V}{u:Value}{Q:Unit->Shared->Prop}(I:Inv X pins U H s)(hN:X.N.Nodup)(hi:X.N[i]?=some x)(hx:Vx X.env.scope x)(r:jq v u)
  (h:∀s',Inv X pins (U.set i (some v)) H s'->(∃a,Heap.SameBut a s.heap s'.heap/\(a=X.env.locals \/ X.env.cells.lookup x=some a))->Q () s') (hf:X.fn x=true \/ X.env.scope.names.lookup x=some .local:=by first | exact .inl rfl | exact .inr rfl | assumption):wpAny M A (storeName X.env x u) Q E s:=by
 obtain⟨m,hn,hl⟩:=id I.loc;have hcls:(X.env.scope.kind==.class||(X.env.scope.kind==.module&&X.env.locals != X.env.globals))=false:=by rw[I.ok.kind];rfl
 have hiU:i < U.length:=by rw[I.len];exact(List.getElem?_eq_some_iff.mp hi).1
 have cne:=I.cne;have tracked:∀{a:Addr} {h':Heap},(∃o,s.heap.get? a=some o/\H a=none)->Heap.SameBut a s.heap h'->JG X.prog X.w H h':=fun {a h'} ha hs b ob e=>by
  obtain⟨_,_,hfree⟩:=ha;refine(I.hok b ob e).stay (fun c w' hc q=>(hs.2 c ?_).trans q) (fun _ q=>q) fun _ _ q=>q;rintro rfl;rcases hc with rfl | hc
  ·rw[hfree]at e;cases e
  ·rw[hfree]at hc;cases hc
 rcases hx with hk | hk
 ·refine wpAny_storeName_local hk hn (fun h' hn' hs=>?_) hcls;obtain⟨oL,_,_,hoL,_⟩:=id hn;refine h _ ⟨I.ok,I.os,I.bare,⟨fun b o e n hb hx=>?_,fun b o e n hb hx=>?_,I.base.free,fun b o e hx=>?_,I.base.tups,I.base.frzs,I.base.tbls⟩,⟨_,hn',fun j y v' e1 e2 e3=>?_⟩,fun y c e=>?_,I.free,I.freeC,fun p hp=>?_,tracked ⟨oL,hoL,I.free⟩ hs,by simpa using I.len⟩ ⟨_,hs,.inl rfl⟩
  ·exact(hs.2 b (wTa (Nat.lt_of_lt_of_le (wLa e) I.ok.above))).trans (I.base.keep b o e n hb hx)
  ·obtain⟨sl,e1⟩:=I.base.slot b o e n hb hx;exact⟨sl,(hs.2 b (wTa (Nat.lt_of_lt_of_le (wLa e) I.ok.above))).trans e1⟩
  ·obtain⟨o',e1⟩:=I.base.there b o e hx;exact⟨o',(hs.2 b (wTa (Nat.lt_of_lt_of_le (wLa e) I.ok.above))).trans e1⟩
  ·by_cases hj:j=i
   ·subst hj;rw[hi]at e1;cases e1;rw[List.getElem?_set_self hiU]at e2;cases e2;exact⟨u,r,.inl ⟨hk,by simp⟩⟩
   ·rw[List.getElem?_set_ne (Ne.symm hj)]at e2;obtain⟨u',r',q⟩:=hl j y v' e1 e2 e3;refine⟨u',r',?_⟩;rcases q with⟨k,e⟩ | ⟨k,c,e,z⟩
    ·refine .inl ⟨k,?_⟩;have:y≠x:=fun e=>hj (Ug hN e1 (e▸hi));simp[this,e]
    ·exact .inr ⟨k,c,e,z.sameBut hs (cne y c e)⟩
  ·obtain⟨w',z⟩:=I.cell y c e;exact⟨w',z.sameBut hs (cne y c e)⟩
  ·obtain⟨e,n,ne,nf,d⟩:=I.pin p hp;exact⟨(hs.2 p.1 ne).trans e,n,ne,nf,d⟩
 ·have hfn:X.fn x=true:=by
   rcases hf with z | z
   ·exact z
   ·rw[z]at hk;cases hk
  obtain⟨c,hc⟩:=I.ok.has x (.inl hk);obtain⟨w',z⟩:=I.cell x c hc;refine wpAny_storeName_cell I.ok.kind hk hc z (fun h' hc' hs=>?_);obtain⟨oc,hoc,hocd⟩:=id z;refine h { s with heap:=h' } ⟨I.ok,I.os,I.bare,⟨fun b o e n hb hx=>?_,fun b o e n hb hx=>?_,I.base.free,fun b o e hx=>?_,I.base.tups,I.base.frzs,I.base.tbls⟩,⟨m,hn.sameBut hs (Ne.symm (cne x c hc)),fun j y v' e1 e2 e3=>?_⟩,fun y c' e=>?_,I.free,I.freeC,fun p hp=>?_,tracked ⟨oc,hoc,I.freeC x c hc⟩ hs,by simpa using I.len⟩ ⟨c,hs,.inr hc⟩
  ·exact(hs.2 b (wTa (Nat.lt_of_lt_of_le (wLa e) (I.ok.cab x c hfn hc)))).trans (I.base.keep b o e n hb hx)
  ·obtain⟨sl,e1⟩:=I.base.slot b o e n hb hx;exact⟨sl,(hs.2 b (wTa (Nat.lt_of_lt_of_le (wLa e) (I.ok.cab x c hfn hc)))).trans e1⟩
  ·obtain⟨o',e1⟩:=I.base.there b o e hx;exact⟨o',(hs.2 b (wTa (Nat.lt_of_lt_of_le (wLa e) (I.ok.cab x c hfn hc)))).trans e1⟩
  ·by_cases hj:j=i
   ·subst hj;rw[hi]at e1;cases e1;rw[List.getElem?_set_self hiU]at e2;cases e2;exact⟨u,r,.inr ⟨.inl hk,c,hc,hc'⟩⟩
   ·rw[List.getElem?_set_ne (Ne.symm hj)]at e2;obtain⟨u',r',q⟩:=hl j y v' e1 e2 e3;refine⟨u',r',?_⟩;rcases q with q | ⟨k,c',e,z'⟩
    ·exact .inl q
    ·refine .inr ⟨k,c',e,z'.sameBut hs ?_⟩;rintro rfl;exact hj (Ug hN e1 (I.ok.inj _ _ _ e hc▸hi))
  ·by_cases hcc:c'=c
   ·subst hcc;exact⟨_,hc'⟩
   ·obtain⟨w2,z2⟩:=I.cell y c' e;exact⟨w2,z2.sameBut hs hcc⟩
  ·obtain⟨e,n,ne,nf,d⟩:=I.pin p hp;refine⟨(hs.2 p.1 ?_).trans e,n,ne,nf,d⟩;intro q;rw[q,hoc]at e;have q':oc=p.2:=vFa e;exact d w' (by rw[<-q'];exact hocd)
theorem vT{M:Model}{A:Around}{E:Value->Shared->Prop}{i:Nat}{x:Str}{v:V}{u:Value}{Q:Unit->Shared->Prop}(I:Inv X pins U H s)(hN:X.N.Nodup)(hi:X.N[i]?=some x)(hx:Vx X.env.scope x)(r:jq v u)
  (h:∀s',Inv X pins (U.set i (some v)) H s'->Q () s') (hf:X.fn x=true \/ X.env.scope.names.lookup x=some .local:=by first | exact .inl rfl | exact .inr rfl | assumption):wpAny M A (storeName X.env x u) Q E s:=
 Gp I hN hi hx r (fun s' I' _=>h s' I') hf
theorem Inv.call'{s':Shared}{ch:List Addr}(I:Inv X pins U H s)(ho:s'.os=s.os)(u:Un (J8 X.stack) ch H H' s.heap s'.heap)(hok:JG X.prog X.w H' s'.heap)(hg:AllBare s'.gens)
  (hch:∀b∈ch,(b∈X.ex \/ X.s₀.heap.objs.size<=b)/\b≠X.env.locals/\(∀x c,X.env.cells.lookup x=some c->c≠b)/\∀p∈X.pn++pins,p.1≠b):Inv X pins U H' s':=by
 obtain⟨h',g',d',t',o'⟩:=s';have e:o'=s.os:=ho;subst e;exact I.call (g':=g') (t':=t') (d':=d') u hok hg hch
end
noncomputable abbrev XK:=Value->Option Addr->Hp->Prop
noncomputable abbrev St:=List (Option V)
noncomputable abbrev VK:=V->Hp->Prop
noncomputable abbrev TE:=St->Hp->VK->Prop
noncomputable abbrev TT:=St->Hp->(Bool->Hp->Prop)->Prop
noncomputable abbrev TA:=St->Hp->(List V->Hp->Prop)->Prop
structure Ends where
 nx:St->Hp->Prop
 rt:VK
 bk:St->Hp->Prop:=fun _ _=>False
 ct:St->Hp->Prop:=fun _ _=>False
noncomputable abbrev TS:=Ends->St->Hp->Prop
def EP(X:Cx)(pins:List (Addr×Obj))(U:St)(Q:VK)(u:Value)(s':Shared):Prop:=∃v H',Inv X pins U H' s'/\jq v u/\Q v H'
def TP(X:Cx)(pins:List (Addr×Obj))(U:St)(Q:Bool->Hp->Prop)(b:Bool)(s':Shared):Prop:=∃H',Inv X pins U H' s'/\Q b H'
def AP(X:Cx)(pins:List (Addr×Obj))(U:St)(Q:List V->Hp->Prop)(us:List Value)(s':Shared):Prop:=∃vs H',Inv X pins U H' s'/\jg vs us/\Q vs H'
def SP(X:Cx)(pins:List (Addr×Obj))(D:Ends)(f:Flow)(s':Shared):Prop:=
 match f with
 | .next=>∃U' H',Inv X pins U' H' s'/\D.nx U' H'
 | .brk=>∃U' H',Inv X pins U' H' s'/\D.bk U' H'
 | .cont=>∃U' H',Inv X pins U' H' s'/\D.ct U' H'
 | .ret u=>∃v U' H',Inv X pins U' H' s'/\jq v u/\D.rt v H'
def PE(X:Cx)(e:Expr)(t:TE):Prop:=
 ∀(pins:List (Addr×Obj)) (s:Shared) (U:St) (H:Hp) (Q:VK),Inv X pins U H s->t U H Q->wpAny (model X.prog X.w) X.A (eval e X.env) (EP X pins U Q) X.xe s
def PT(X:Cx)(e:Expr)(t:TT):Prop:=
 ∀(pins:List (Addr×Obj)) (s:Shared) (U:St) (H:Hp) (Q:Bool->Hp->Prop),Inv X pins U H s->t U H Q->wpAny (model X.prog X.w) X.A (isTrue e X.env (eval e X.env)) (TP X pins U Q) X.xe s
def PW(X:Cx)(e:Expr)(t:TT):Prop:=
 ∀(whole:Sem Value) (pins:List (Addr×Obj)) (s:Shared) (U:St) (H:Hp) (Q:Bool->Hp->Prop),Inv X pins U H s->t U H Q->wpAny (model X.prog X.w) X.A (isTrue e X.env whole) (TP X pins U Q) X.xe s
theorem PW.pt{X:Cx}{e:Expr}{t:TT}(h:PW X e t):PT X e t:=h _
def PA(X:Cx)(es:List Expr)(t:TA):Prop:=
 ∀(pos:Pos) (pins:List (Addr×Obj)) (s:Shared) (U:St) (H:Hp) (Q:List V->Hp->Prop),Inv X pins U H s->t U H Q->wpAny (model X.prog X.w) X.A (spliced (backTo pos (starEach es X.env))) (AP X pins U Q) X.xe s
def PS(X:Cx)(st:Stmt)(t:TS):Prop:=
 ∀(pins:List (Addr×Obj)) (s:Shared) (U:St) (H:Hp) (D:Ends),Inv X pins U H s->t D U H->wpAny (model X.prog X.w) X.A (exec st X.env) (SP X pins D) X.xe s
def jr(X:Cx)(st:List Stmt)(t:TS):Prop:=
 ∀(pins:List (Addr×Obj)) (s:Shared) (U:St) (H:Hp) (D:Ends),Inv X pins U H s->t D U H->wpAny (model X.prog X.w) X.A (execs st X.env) (SP X pins D) X.xe s
theorem ji{α:Type}{t:Sem α}{Q Q':α->Shared->Prop}{M:Model}{A:Around}{E:Value->Shared->Prop}{s:Shared}(h:wpAny M A t Q E s)(hQ:∀a s,Q a s->Q' a s):wpAny M A t Q' E s:=wCa h hQ fun _ _ x=>x
section
variable {X:Cx}
def J_(i:Nat):TE:=fun U H Q=>∃v,U[i]?=some (some v)/\Q v H
def tC(v:V):TE:=fun _ H Q=>Q v H
theorem km{i:Nat}{x:Str}{pos:Pos}(hN:X.N[i]?=some x)(hv:Go X.env.scope x)(hd:(x==("__debug__" : Str))=false:=by decide)(hcd:(x==("__classdict__" : Str))=false:=by decide):PE X (.Name x pos) (J_ i):=by
 intro pins s U H Q I h;obtain⟨v,e,h⟩:=h;obtain⟨m,hn,hl⟩:=I.loc;obtain⟨u,r,l⟩:=hl i x v hN e hv;have fin:EP X pins U Q u s:=⟨v,H,I,r,h⟩
 rcases l with⟨hk,hm⟩ | ⟨hk,c,hc,hcell⟩
 ·exact wpAny_Name (wpAny_loadName_local I.ok.kind hk hn hm fin) hd
 ·rcases hk with hk | hk
  ·exact wpAny_Name (wpAny_loadName_cell I.ok.kind hk hc hcell fin) hd
  ·exact wpAny_Name (wpAny_loadName_free I.ok.kind hk hc hcell fin hcd) hd
theorem Bc{i j pos}:PE X (.Constant (.int i) j pos) (tC (.int i)):=fun _ _ _ H _ I h=>wpAny_Constant_int ⟨.int i,H,I.tok _,⟨_,rfl⟩,h⟩
theorem E5{b j pos}:PE X (.Constant (.bool b) j pos) (tC (.bl b)):=fun _ _ _ H _ I h=>Constant_bool ⟨.bl b,H,I,rfl,h⟩
theorem Be{j pos}:PE X (.Constant .none j pos) (tC .non):=fun _ _ _ H _ I h=>Constant_none ⟨.non,H,I,rfl,h⟩
theorem qB{x j pos}:PE X (.Constant (.str x) j pos) (tC (.str x)):=fun _ _ _ H _ I h=>Calls.Constant_str ⟨.str x,H,I.tok _,⟨_,rfl⟩,h⟩
def Gl(X:Cx)(x:Str):Prop:=X.env.kindOf x=some .globalImplicit
theorem yL{E:Value->Shared->Prop}{pins:List (Addr×Obj)}{s:Shared}{U:St}{H:Hp}{x:Str}{u:Value}{pos:Pos}{Q:Value->Shared->Prop}(I:Inv X pins U H s)(hg:Gl X x)(hm:X.mg x=some u)(h:Q u s)
  (hd:(x==("__debug__" : Str))=false:=by decide):wpAny (model X.prog X.w) X.A (eval (.Name x pos) X.env) Q E s:=
 Calls.Name_function_global I.ok.kind hg (Calls.loadGlobal_global (by rw[I.ok.glob];exact I.mod.glob.keeps I.bk) hm h) hd
theorem zq{E:Value->Shared->Prop}{pins:List (Addr×Obj)}{s:Shared}{U:St}{H:Hp}{x:Str}{u:Value}{pos:Pos}{Q:Value->Shared->Prop}(I:Inv X pins U H s)(hg:Gl X x)(hm:X.mg x=none)(hv:bootBuiltins x=some u)(h:Q u s)
  (hn:x≠ "__name__" := by decide) (hd:(x==("__debug__" : Str))=false:=by decide):wpAny (model X.prog X.w) X.A (eval (.Name x pos) X.env) Q E s:=by
 obtain⟨mb,h1,h2⟩:=I.mod.blt;exact Calls.Name_function_global I.ok.kind hg (Calls.loadGlobal_builtin (by rw[I.ok.glob];exact I.mod.glob.keeps I.bk) hm (by rw[I.ok.blt];exact h1.keeps I.bk) ((h2 x hn).trans hv) h) hd
theorem uc{x:Str}{v:V}{u:Value}{pos:Pos}(hg:Gl X x)(hm:X.mg x=some u)(r:jq v u)(hd:(x==("__debug__" : Str))=false:=by decide):PE X (.Name x pos) (tC v):=
 fun _ _ _ H _ I h=>yL I hg hm ⟨v,H,I,r,h⟩ hd
theorem ud{x:Str}{v:V}{u:Value}{pos:Pos}(hg:Gl X x)(hm:X.mg x=none)(hv:bootBuiltins x=some u)(r:jq v u)(hn:x≠ "__name__" := by decide)(hd:(x==("__debug__" : Str))=false:=by decide):PE X (.Name x pos) (tC v):=
 fun _ _ _ H _ I h=>zq I hg hm hv ⟨v,H,I,r,h⟩ hn hd
variable {a b:Expr} {ta tb:TE} {pos:Pos}
variable {tA tB':TT} {rest:List Expr}
def Hh(t u:TT):TT:=fun U H Q=>t U H fun c H1=>if c=true then u U H1 Q else Q false H1
def iW(t u:TT):TT:=fun U H Q=>t U H fun c H1=>if c=true then Q true H1 else u U H1 Q
def Hi(t:TT):TT:=fun U H Q=>t U H fun c H1=>Q (!c) H1
theorem Ai(ha:PT X a tA):PW X (.BoolOp .And [a] pos) tA:=by
 intro wh pins s U H Q I h;refine isTrue_and (ji (ha pins s U H Q I h) fun c s1 e=>?_);cases c with
 | true=>exact isTrue_and_nil e
 | false=>exact e
theorem Bf(ha:PT X a tA):PW X (.BoolOp .Or [a] pos) tA:=by
 intro wh pins s U H Q I h;refine isTrue_or (ji (ha pins s U H Q I h) fun c s1 e=>?_);cases c with
 | false=>exact isTrue_or_nil e
 | true=>exact e
theorem Bg(ha:PT X a tA)(hb:PW X (.BoolOp .And (b::rest) pos) tB'):PW X (.BoolOp .And (a::b::rest) pos) (Hh tA tB'):=by
 intro wh pins s U H Q I h;refine isTrue_and (ji (ha pins s U H _ I h) fun c s1 ⟨H1,I1,q1⟩=>?_);cases c with
 | true=>exact hb wh pins s1 U H1 Q I1 q1
 | false=>exact⟨H1,I1,q1⟩
theorem E6(ha:PT X a tA)(hb:PW X (.BoolOp .Or (b::rest) pos) tB'):PW X (.BoolOp .Or (a::b::rest) pos) (iW tA tB'):=by
 intro wh pins s U H Q I h;refine isTrue_or (ji (ha pins s U H _ I h) fun c s1 ⟨H1,I1,q1⟩=>?_);cases c with
 | true=>exact⟨H1,I1,q1⟩
 | false=>exact hb wh pins s1 U H1 Q I1 q1
theorem Bh(ha:PT X a tA):PT X (.UnaryOp .Not a pos) (Hi tA):=by
 intro pins s U H Q I h;exact isTrue_not (ha pins s U H (fun c H1=>Q (!c) H1) I h)
def E7(ta tb:TE):TE:=fun U H Q=>ta U H fun x H1=>∃c,x=.bl c/\if c=true then tb U H1 Q else Q (.bl false) H1
def Hj(ta tb:TE):TE:=fun U H Q=>ta U H fun x H1=>∃c,x=.bl c/\if c=true then Q (.bl true) H1 else tb U H1 Q
def E8(ta:TE):TE:=fun U H Q=>ta U H fun x H1=>∃c,x=.bl c/\Q (.bl (!c)) H1
theorem Bi{op}{t:TE}(h:PE X a t):PE X (.BoolOp op [a] pos) t:=fun pins s U H Q I hw=>BoolOp_one (h pins s U H Q I hw)
theorem Bj(ha:PE X a ta)(hb:PE X (.BoolOp .And (b::rest) pos) tb):PE X (.BoolOp .And (a::b::rest) pos) (E7 ta tb):=by
 intro pins s U H Q I h;refine BoolOp_and (ji (ha pins s U H _ I h) fun v s1 ⟨x,H1,I1,r1,q1⟩=>?_);obtain⟨c,rfl,q1⟩:=q1;cases r1;refine wpAny_truthy_bool ?_;cases c with
 | true=>exact hb pins s1 U H1 Q I1 q1
 | false=>exact⟨.bl false,H1,I1,rfl,q1⟩
theorem E9(ha:PE X a ta)(hb:PE X (.BoolOp .Or (b::rest) pos) tb):PE X (.BoolOp .Or (a::b::rest) pos) (Hj ta tb):=by
 intro pins s U H Q I h;refine BoolOp_or (ji (ha pins s U H _ I h) fun v s1 ⟨x,H1,I1,r1,q1⟩=>?_);obtain⟨c,rfl,q1⟩:=q1;cases r1;refine wpAny_truthy_bool ?_;cases c with
 | false=>exact hb pins s1 U H1 Q I1 q1
 | true=>exact⟨.bl true,H1,I1,rfl,q1⟩
theorem Bl(ha:PE X a ta):PE X (.UnaryOp .Not a pos) (E8 ta):=by
 intro pins s U H Q I h;refine UnaryOp_ (ji (ha pins s U H _ I h) fun v s1 ⟨x,H1,I1,r1,q1⟩=>?_);obtain⟨c,rfl,q1⟩:=q1;cases r1;exact not_of (wpAny_truthy_bool ⟨.bl (!c),H1,I1,rfl,q1⟩)
def iX(t:TT)(ta tb:TE):TE:=fun U H Q=>t U H fun c H1=>if c=true then ta U H1 Q else tb U H1 Q
theorem QO{c:Expr}(hc:PT X c tA)(ha:PE X a ta)(hb:PE X b tb):PE X (.IfExp c a b pos) (iX tA ta tb):=by
 intro pins s U H Q I h;refine wpAny_IfExp (ji (hc pins s U H _ I h) fun d s1 ⟨H1,I1,q1⟩=>?_);cases d with
 | true=>exact ha pins s1 U H1 Q I1 q1
 | false=>exact hb pins s1 U H1 Q I1 q1
end
def js(K:PySem.W.Frag)(H:Hp)(a:Addr)(xs:List V):Prop:=
 Rd H a (.lst xs) \/
  ∃(o:Obj) (its:Array Value) (n:Nat),K.lookup a=some o/\o.cls=.type "list" /\o.dict=none/\o.data=.seq its n/\its.size<=sizeLine/\jg xs its.toList
def Ju(K:PySem.W.Frag)(H:Hp)(a:Addr)(xs:List V):Prop:=
 Rd H a (.tup xs) \/
  ∃(o:Obj) (its:Array Value) (n:Nat),K.lookup a=some o/\o.cls=.type "tuple" /\o.data=.seq its n/\its.size<=sizeLine/\jg xs its.toList
noncomputable def Hk:Value->Option V
 | .none=>some .non
 | .bool b=>some (.bl b)
 | .int i _=>some (.int i)
 | .str x _=>some (.str x)
 | .bytes b _=>some (.byt b)
 | .float b _=>some (.flt b)
 | .ref a=>some (.ref a)
 | .type n=>some (.ty n)
 | _=>none
theorem jq.abs{x:V}{u:Value}(r:jq x u):Hk u=some x:=by
 cases x with
 | non=>cases r;rfl
 | bl _=>cases r;rfl
 | int _=>obtain⟨t,rfl⟩:=r;rfl
 | str _=>obtain⟨t,rfl⟩:=r;rfl
 | byt _=>obtain⟨t,rfl⟩:=r;rfl
 | flt _=>obtain⟨t,rfl⟩:=r;rfl
 | ref _=>cases r;rfl
 | ty _=>cases r;rfl
theorem jq.inj{x y:V}{u:Value}(r:jq x u)(q:jq y u):x=y:=vFa (r.abs.symm.trans q.abs)
theorem jg.inj:∀{xs ys:List V} {us:List Value},jg xs us->jg ys us->xs=ys
 | _,_,_,.nil,.nil=>rfl
 | _,_,_,.cons r t,.cons r' t'=>by rw[r.inj r',jg.inj t t']
section
variable {X:Cx} {pins:List (Addr×Obj)} {U:St} {H:Hp} {s:Shared} {a:Addr} {xs ys:List V}
theorem js.of{K:PySem.W.Frag}(h:H a=some (.lst xs)):js K H a xs:=.inl (.inl h)
theorem Ju.of{K:PySem.W.Frag}(h:H a=some (.tup xs)):Ju K H a xs:=.inl (.inl h)
theorem Inv.list(I:Inv X pins U H s)(h:js X.K H a xs):∃its:List Value,jg xs its/\PlainL s.heap a its.toArray/\xs.length<=sizeLine:=by
 rcases h with h | ⟨o,its,n,hk,hc,hd,hs,hz,r⟩
 ·obtain⟨z,its,n,r,e⟩:=h.ok I.hok;exact⟨its,r,⟨_,n,e,rfl,rfl,rfl⟩,z⟩
 ·refine⟨its.toList,r,⟨o,n,I.kIn a o hk,hc,hd,by simpa using hs⟩,?_⟩;have e:=r.length;simp only[Array.length_toList]at e;omega
theorem Inv.tuple(I:Inv X pins U H s)(h:Ju X.K H a xs):∃its:List Value,jg xs its/\IsTup s.heap a its.toArray/\xs.length<=sizeLine:=by
 rcases h with h | ⟨o,its,n,hk,hc,hs,hz,r⟩
 ·obtain⟨z,its,r,p⟩:=h.ok I.hok;exact⟨its,r,p,z⟩
 ·refine⟨its.toList,r,⟨o,I.kIn a o hk,hc,n,by simpa using hs⟩,?_⟩;have e:=r.length;simp only[Array.length_toList]at e;omega
theorem Inv.list_inj(I:Inv X pins U H s)(h:js X.K H a xs)(h':js X.K H a ys):xs=ys:=by
 obtain⟨its,r,⟨o,n,e,_,_,d⟩,_⟩:=I.list h;obtain⟨its',r',⟨o',n',e',_,_,d'⟩,_⟩:=I.list h';rw[e]at e';cases e';rw[d]at d';injection d' with d1 _;have:its=its':=by simpa using congrArg Array.toList d1
 subst this;exact r.inj r'
theorem Inv.tuple_inj(I:Inv X pins U H s)(h:Ju X.K H a xs)(h':Ju X.K H a ys):xs=ys:=by
 obtain⟨its,r,⟨o,e,_,n,d⟩,_⟩:=I.tuple h;obtain⟨its',r',⟨o',e',_,n',d'⟩,_⟩:=I.tuple h';rw[e]at e';cases e';rw[d]at d';injection d' with d1 _;have:its=its':=by simpa using congrArg Array.toList d1
 subst this;exact r.inj r'
end
noncomputable abbrev Cx.wish(X:Cx)(E:Value->Shared->Prop):Cx:={ X with xe:=E }
abbrev Cx.nox(X:Cx):Cx:=X.wish fun _ _=>False
theorem Cx.Ok.wish{X:Cx}(ok:X.Ok)(E:Value->Shared->Prop):(X.wish E).Ok:=
 ⟨ok.mod,ok.kind,ok.glob,ok.blt,ok.above,ok.inj,ok.has,ok.cab,ok.hd,ok.frames,ok.stk,ok.exf,ok.bs,ok.bsz,ok.noex,ok.exfs,ok.funs,ok.frf⟩
theorem Cx.Ok.unwish{X:Cx}{E:Value->Shared->Prop}(ok:(X.wish E).Ok):X.Ok:=
 ⟨ok.mod,ok.kind,ok.glob,ok.blt,ok.above,ok.inj,ok.has,ok.cab,ok.hd,ok.frames,ok.stk,ok.exf,ok.bs,ok.bsz,ok.noex,ok.exfs,ok.funs,ok.frf⟩
section
variable {X:Cx} {pins:List (Addr×Obj)} {U:St} {H:Hp} {s:Shared} {E:Value->Shared->Prop}
theorem Inv.wish(I:Inv X pins U H s)(E:Value->Shared->Prop):Inv (X.wish E) pins U H s:=⟨I.ok.wish E,I.os,I.bare,I.base,I.loc,I.cell,I.free,I.freeC,I.pin,I.hok,I.len⟩
theorem Inv.unwish(I:Inv (X.wish E) pins U H s):Inv X pins U H s:=⟨I.ok.unwish,I.os,I.bare,I.base,I.loc,I.cell,I.free,I.freeC,I.pin,I.hok,I.len⟩
theorem SP.unwish{D:Ends}{f:Flow}{s':Shared}(h:SP (X.wish E) pins D f s'):SP X pins D f s':=by
 cases f with
 | next=>obtain⟨U',H',I,q⟩:=h;exact⟨U',H',I.unwish,q⟩
 | brk=>obtain⟨U',H',I,q⟩:=h;exact⟨U',H',I.unwish,q⟩
 | cont=>obtain⟨U',H',I,q⟩:=h;exact⟨U',H',I.unwish,q⟩
 | ret u=>obtain⟨v,U',H',I,r,q⟩:=h;exact⟨v,U',H',I.unwish,r,q⟩
theorem jr.nox{st:List Stmt}{t:TS}(h:jr X.nox st t):jr X st t:=fun pins s U H D I hw=>
 wCa (h pins s U H D (I.wish _) hw) (fun _ _ q=>q.unwish) fun _ _ z=>False.elim z
end
section
variable {X:Cx} {st:Stmt} {rest:List Stmt} {t u:TS} {e:Expr} {te:TE} {pos:Pos}
def Ea:TS:=fun D U H=>D.nx U H
def Hl(t u:TS):TS:=fun D U H=>t { D with nx:=u D } U H
theorem gy:jr X [] Ea:=fun _ _ U H _ I h=>wpAny_execs_nil ⟨U,H,I,h⟩
theorem yB(h1:PS X st t)(h2:jr X rest u):jr X (st::rest) (Hl t u):=by
 intro pins s U H D I h;refine wGa (ji (h1 pins s U H { D with nx:=u D } I h) fun f s1 q=>?_);cases f with
 | next=>
  obtain⟨U',H',I',q⟩:=q;exact h2 pins s1 U' H' D I' q
 | ret v=>exact q
 | brk=>exact q
 | cont=>exact q
theorem vt(h1:PS X st t):jr X [st] t:=by
 intro pins s U H D I h;refine wGa (ji (h1 pins s U H D I h) fun f s1 q=>?_);cases f with
 | next=>exact wpAny_execs_nil q
 | ret v=>exact q
 | brk=>exact q
 | cont=>exact q
theorem Inv.quiet{pins:List (Addr×Obj)}{U:St}{H:Hp}{s:Shared}(I:Inv X pins U H s):interactive X.env=false:=by simp[interactive,I.ok.kind]
def vU(te:TE):TS:=fun D U H=>te U H fun _ H1=>D.nx U H1
theorem YU(he:PE X e te)(hs:swapsWith e none pos.line X.env=pure false:=by rfl):PS X (.Expr e pos) (vU te):=by
 intro pins s U H D I h;exact wpAny_Expr_any (ji (he pins s U H _ I h) fun v s1 ⟨x,H1,I1,r1,q1⟩=>⟨U,H1,I1,q1⟩) I.quiet hs
def Hm(te:TE):TS:=fun D U H=>te U H D.rt
theorem UF(he:PE X e te):PS X (.Return (some e) pos) (Hm te):=by
 intro pins s U H D I h;exact wpAny_Return_some (ji (he pins s U H _ I h) fun v s1 ⟨x,H1,I1,r1,q1⟩=>⟨x,U,H1,I1,r1,q1⟩)
def Eb:TS:=fun D _ H=>D.rt .non H
theorem Aj:PS X (.Return none pos) Eb:=fun _ _ U H _ I h=>wpAny_Return_none ⟨.non,U,H,I,rfl,h⟩
def Hn(c:TT)(t u:TS):TS:=fun D U H=>c U H fun b H1=>if b=true then t D U H1 else u D U H1
theorem GZ{c:Expr}{a b:List Stmt}{tc:TT}(hc:PT X c tc)(ha:jr X a t)(hb:jr X b u):PS X (.If c a b pos) (Hn tc t u):=by
 intro pins s U H D I h;refine wpAny_If (ji (hc pins s U H _ I h) fun d s1 ⟨H1,I1,q1⟩=>?_);cases d with
 | true=>exact ha pins s1 U H1 D I1 q1
 | false=>exact hb pins s1 U H1 D I1 q1
def Bm:TS:=fun _ _ _=>False
theorem Gq{sts:List Stmt}:jr X sts Bm:=fun _ _ _ _ _ _ h=>h.elim
end
noncomputable abbrev TG:=V->St->Hp->(St->Hp->Prop)->Prop
noncomputable abbrev Vy:=List V->St->Hp->(St->Hp->Prop)->Prop
def PG(X:Cx)(target:Expr)(t:TG):Prop:=
 ∀(pins:List (Addr×Obj)) (s:Shared) (U:St) (H:Hp) (v:V) (u:Value) (Q:St->Hp->Prop),Inv X pins U H s->jq v u->t v U H Q->
  wpAny (model X.prog X.w) X.A (assign target X.env u) (fun _ s'=>∃U' H',Inv X pins U' H' s'/\Q U' H') X.xe s
def Vg(X:Cx)(ts:List Expr)(t:Vy):Prop:=
 ∀(pins:List (Addr×Obj)) (s:Shared) (U:St) (H:Hp) (vs:List V) (us:List Value) (Q:St->Hp->Prop),Inv X pins U H s->jg vs us->t vs U H Q->
  wpAny (model X.prog X.w) X.A (assignInOrder ((assignEach ts X.env).map (·.2)) us) (fun _ s'=>∃U' H',Inv X pins U' H' s'/\Q U' H') X.xe s
noncomputable abbrev QP:=V->V->V->Hp->(Hp->Prop)->Prop
def Bn(X:Cx)(t:QP):Prop:=
 ∀(pins:List (Addr×Obj)) (s:Shared) (U:St) (H:Hp) (o i v:V) (ov iv u:Value) (Q:Hp->Prop),Inv X pins U H s->jq o ov->jq i iv->jq v u->t o i v H Q->
  wpAny (model X.prog X.w) X.A (setItem ov iv u) (fun _ s'=>∃H',Inv X pins U H' s'/\Q H') X.xe s
section
variable {X:Cx} {pos:Pos}
def YA(i:Nat):TG:=fun v U H Q=>Q (U.set i (some v)) H
theorem Ak{i:Nat}{x:Str}(hN:X.N.Nodup)(hi:X.N[i]?=some x)(hx:Vx X.env.scope x)(hf:X.fn x=true \/ X.env.scope.names.lookup x=some .local:=by first | exact .inl rfl | exact .inr rfl | assumption):PG X (.Name x pos) (YA i):=by
 intro pins s U H v u Q I r h;exact wpAny_assign_Name (vT I hN hi hx r (fun s' I'=>⟨_,H,I',h⟩) hf)
def Ho:Vy:=fun vs U H Q=>vs=[]/\Q U H
def Ec(t:TG)(u:Vy):Vy:=fun vs U H Q=>∃v r,vs=v::r/\t v U H fun U' H'=>u r U' H' Q
theorem Al:Vg X [] Ho:=by
 intro pins s U H vs us Q I r h;obtain⟨e,h⟩:=h;subst e;cases r;exact assignInOrder_nil ⟨U,H,I,h⟩
theorem QQ{e:Expr}{es:List Expr}{t:TG}{u:Vy}(h1:PG X e t)(h2:Vg X es u)
  (hs:(assignEach (e::es) X.env).map (·.2)=assign e X.env::(assignEach es X.env).map (·.2):=by rfl):Vg X (e::es) (Ec t u):=by
 intro pins s U H vs us Q I r h;obtain⟨v,vr,e1,h⟩:=h;subst e1;cases r with
 | cons r rr=>
  rw[hs];refine assignInOrder_cons (ji (h1 pins s U H _ _ _ I r h) fun _ s1 ⟨U1,H1,I1,q1⟩=>?_);exact h2 pins s1 U1 H1 _ _ Q I1 rr q1
def Hq(K:PySem.W.Frag)(n:Nat)(t:Vy):TG:=fun v U H Q=>∃a xs,v=.ref a/\Ju K H a xs/\xs.length=n/\t xs U H Q
theorem Bo{es:List Expr}{k:Nat}{t:Vy}{n:Nat}(hc:X.calm=true)(h:Vg X es t)
  (hn:(assignEach es X.env).length=n:=by rfl) (hst:(assignEach es X.env).findIdx? (·.1)=none:=by rfl):PG X (.Tuple es k pos) (Hq X.K n t):=by
 intro pins s U H v u Q I r hw;obtain⟨a,xs,e1,hq,hl,hw⟩:=hw;subst e1;cases r;obtain⟨its,rv,ht,hz⟩:=I.tuple hq;refine assign_Tuple_tuple (I.ok.hd hc) ht (by simp[hn,<-hl,rv.length]) hst fun h' hx=>?_;have I1:Inv X pins U H { s with heap:=h' }:=I.kept (t':=s.toks) fun b o e=>hx b o (wTa (wLa e)) e;exact h pins _ U H xs _ Q I1 (by simpa using rv) hw
def Bp(to ti:TE)(t:QP):TG:=fun v U H Q=>to U H fun o H1=>ti U H1 fun i H2=>t o i v H2 fun H3=>Q U H3
theorem Bq{o i:Expr}{to ti:TE}{t:QP}(ho:PE X o to)(hi:PE X i ti)(hs:Bn X t)
  (ha:∀v,assign (.Subscript o i pos) X.env v=(do
   let ov<-holding [v] (eval o X.env)
   let iv<-holding [v,ov] (eval i X.env)
   standAt pos
   holding [v,ov,iv] (setItem ov iv v)
   release [v,ov,iv] []):=by intro _;rfl):PG X (.Subscript o i pos) (Bp to ti t):=by
 intro pins s U H v u Q I r h;rw[ha];refine wAa (wDa (ji (ho pins s U H _ I h) fun ov s1 ⟨x,H1,I1,r1,q1⟩=>?_));refine wAa (wDa (ji (hi pins s1 U H1 _ I1 q1) fun iv s2 ⟨y,H2,I2,r2,q2⟩=>?_));refine wAa (vOa (wAa (wDa (ji (hs pins s2 U H2 x y v ov iv u _ I2 r1 r2 r q2) fun _ s3 ⟨H3,I3,q3⟩=>?_))));exact wpAny_release ⟨U,H3,I3,q3⟩
def Yp(te:TE)(g:TG):TS:=fun D U H=>te U H fun x H1=>g x U H1 D.nx
theorem kn{tg e:Expr}{te:TE}{g:TG}(he:PE X e te)(hg:PG X tg g)(hs:swapsWithSole [tg] e pos.line X.env=pure false:=by rfl)(hw:swappedStores [tg] e X.env=pure none:=by rfl)
  (h1:(assignEach [tg] X.env).map (·.2)=[assign tg X.env]:=by rfl):PS X (.Assign [tg] e pos) (Yp te g):=by
 intro pins s U H D I h;refine wpAny_Assign_stores (ji (he pins s U H _ I h) fun v s1 ⟨x,H1,I1,r1,q1⟩=>?_) hs hw;rw[h1];exact ji (hg pins s1 U H1 x v _ I1 r1 q1) fun _ s2 q=>q
theorem Zc{i:Nat}{x:Str}{e:Expr}{te:TE}{pos':Pos}(hN:X.N.Nodup)(hi:X.N[i]?=some x)(hx:Vx X.env.scope x)(he:PE X e te)(hs:swapsWith e (some (.Name x pos')) pos.line X.env=pure false:=by rfl)(hf:X.fn x=true \/ X.env.scope.names.lookup x=some .local:=by first | exact .inl rfl | exact .inr rfl | assumption):
  PS X (.Assign [.Name x pos'] e pos) (Yp te (YA i)):=by
 intro pins s U H D I h;refine wpAny_Assign_Name (ji (he pins s U H _ I h) fun v s1 ⟨y,H1,I1,r1,q1⟩=>?_) hs;exact vT I1 hN hi hx r1 (fun s2 I2=>⟨_,H1,I2,q1⟩) hf
end
section
variable {X:Cx} {pos:Pos}
def Br(c:TT)(tb:TS):TS:=fun D U H=>∃W:Nat->St->Hp->Prop,(∃m,W m U H)/\∀m U H,W m U H->
 c U H fun b H1=>if b=true then∃N:St->Hp->Prop,(∀U' H',N U' H'->∃m',m' < m/\W m' U' H')/\tb { D with nx:=N,ct:=N,bk:=D.nx } U H1 else D.nx U H1
theorem QR{c:Expr}{body:List Stmt}{tc:TT}{tb:TS}(hp:PassesOwn (model X.prog X.w) X.A X.env X.xe)(hc:PT X c tc)(hb:jr X body tb):PS X (.While c body [] pos) (Br tc tb):=by
 intro pins s U H D I h;obtain⟨W,⟨m0,w0⟩,turn⟩:=h;refine wpAny_While (codeAny_whileLoop (fun n s'=>∃U' H',Inv X pins U' H' s'/\W n U' H') ?_ m0 ⟨U,H,I,w0⟩);rintro n s1 ⟨U1,H1,I1,w1⟩;refine wpAny_passesOwn hp (ji (hc pins s1 U1 H1 _ I1 (turn n U1 H1 w1)) fun b s2 ⟨H2,I2,q2⟩=>?_);cases b with
 | true=>
  obtain⟨N,hN,q2⟩:=q2;rw[if_pos rfl];refine wpAny_passesOwn hp (ji (hb pins s2 U1 H2 _ I2 q2) fun f s3 q3=>?_);cases f with
  | next=>
   obtain⟨U3,H3,I3,n3⟩:=q3;obtain⟨m',hm,w3⟩:=hN U3 H3 n3;exact⟨m',hm,U3,H3,I3,w3⟩
  | cont=>
   obtain⟨U3,H3,I3,n3⟩:=q3;obtain⟨m',hm,w3⟩:=hN U3 H3 n3;exact⟨m',hm,U3,H3,I3,w3⟩
  | brk=>exact q3
  | ret v=>exact q3
 | false=>
  rw[if_neg Bool.false_ne_true];exact wpAny_execs_nil ⟨U1,H2,I2,q2⟩
end
structure It where
 go:Nat->Hp->Prop
 yld:Nat->Hp->V->Hp->Prop
 stop:Nat->Hp->Prop
def Jl(X:Cx)(pins:List (Addr×Obj))(H:Hp)(b:Addr):Prop:=
 H b=none/\b≠X.env.locals/\b∉X.fs/\(b∈X.ex \/ X.s₀.heap.objs.size<=b)/\(∀x c,X.env.cells.lookup x=some c->c≠b)/\∀p∈X.pn++pins,p.1≠b
theorem Inv.fpOk{X:Cx}{pins:List (Addr×Obj)}{U:St}{H H':Hp}{s:Shared}{b:Addr}(I:Inv X pins U H s)(hb:s.heap.objs.size<=b)(hn:H' b=none):Jl X pins H' b:=by
 refine⟨hn,Nat.ne_of_gt (Nat.lt_of_lt_of_le I.lt hb),I.nofs hb,.inr (wSa I.sz hb),fun x c e z=>?_,fun p hp z=>?_⟩
 ·obtain⟨v,q⟩:=I.cell x c e;exact vDa (Nat.lt_of_lt_of_le q.lt (by rw[z];exact hb)) (wUa _)
 ·exact vDa (Nat.lt_of_lt_of_le (wLa (I.pin p hp).1) (by rw[z];exact hb)) (wUa _)
structure Turn (P:Program) (w:World) (K:PySem.W.Frag) (tg:Expr) (J:It) (fp:List Addr) (it:Addr) (tn:Nat->Heap->Prop):Prop where
 mem:it∈fp
 obj:∀i h,tn i h->∀b∈fp,∃o,h.get? b=some o/\∀v,o.data≠.cell v
 keep:∀i h h',tn i h->(∀b∈fp,∀o,h.get? b=some o->h'.get? b=some o)->tn i h'
 item:∀(X:Cx),X.prog=P->X.w=w->X.K=K->X.calm=true->∀(i:Nat) (pins:List (Addr×Obj)) (s:Shared) (U:St) (H:Hp) (E:Value->Shared->Prop),Inv X pins U H s->(∀b∈fp,Jl X pins H b)->tn i s.heap->J.go i H->
  wpAny (model P w) X.A (pyNext (.ref it)) (fun r s1=>∃u,r=some u/\
   wpAny (model P w) X.A (letOwnedTupleGo tg (.ref it) u) (fun _ s2=>∃x H',Inv X pins U H' s2/\jq x u/\J.yld i H x H'/\tn (i+1) s2.heap/\∀b∈fp,H' b=none) E s1) E s
 done:∀(X:Cx),X.prog=P->X.w=w->X.K=K->X.calm=true->∀(i:Nat) (pins:List (Addr×Obj)) (s:Shared) (U:St) (H:Hp) (E:Value->Shared->Prop),Inv X pins U H s->(∀b∈fp,Jl X pins H b)->tn i s.heap->J.stop i H->
  wpAny (model P w) X.A (pyNext (.ref it)) (fun r s1=>r=none/\Inv X pins U H s1) E s
 self:∀(A:Around) (i:Nat) (s:Shared) (Q:Value->Shared->Prop) (E:Value->Shared->Prop),tn i s.heap->Q (.ref it) s->wpAny (model P w) A (pyIter (.ref it)) Q E s
noncomputable abbrev TI:=St->Hp->(It->Hp->Prop)->Prop
def Fp(X:Cx)(pins:List (Addr×Obj))(U:St)(tg:Expr)(R:It->Hp->Prop)(itv:Value)(s2:Shared):Prop:=
 ∃(it:Addr) (fp:List Addr) (tn:Nat->Heap->Prop) (J:It) (H':Hp),itv=.ref it/\Inv X pins U H' s2/\Turn X.prog X.w X.K tg J fp it tn/\tn 0 s2.heap/\(∀b∈fp,Jl X pins H' b)/\R J H'
def PI(X:Cx)(tg iter:Expr)(wi:TI):Prop:=
 ∀(pins:List (Addr×Obj)) (s:Shared) (U:St) (H:Hp) (R:It->Hp->Prop),Inv X pins U H s->wi U H R->
  wpAny (model X.prog X.w) X.A (eval iter X.env) (fun v s1=>wpAny (model X.prog X.w) X.A (pyIter v) (Fp X pins U tg R) X.xe s1) X.xe s
theorem G_{M:Model}{A:Around}{E:Value->Shared->Prop}{s:Shared}{tg:Expr}{it:Addr}{u:Value}{o:Obj}{n:String}{vs:Array Value}{Q:Unit->Shared->Prop}(ho:s.heap.get? it=some o)(hc:o.cls=.type n)(hd:o.data=.fields vs)
  (hn:["enumerate", "zip", "dict_itemiterator", "dict_reverseitemiterator", "odict_iterator", "itertools.zip_longest", "itertools.pairwise"].contains n=false) (hQ:Q () s):wpAny M A (letOwnedTupleGo tg (.ref it) u) Q E s:=by
 unfold letOwnedTupleGo;cases tg <;> first
  | exact wBa hQ
  | (cases u <;> first
    | exact wBa hQ
    | (refine wAa (wpAny_load ho ?_)
       rw[hc,hd];show wpAny M A (if (["enumerate", "zip", "dict_itemiterator", "dict_reverseitemiterator", "odict_iterator", "itertools.zip_longest", "itertools.pairwise"].contains n&&vs[0]?==some (rawInt _))=true then _ else _) Q E s;rw[if_neg (by intro h;rw[hn,Bool.false_and]at h;cases h)];exact wBa hQ))
def Bs(K:PySem.W.Frag)(a:Addr):It:=
 ⟨fun i H=>∃xs x,js K H a xs/\xs[i]?=some x,fun i H x H'=>H'=H/\∀xs,js K H a xs->xs[i]?=some x,fun i H=>∃xs,js K H a xs/\xs.length<=i⟩
def Bt(K:PySem.W.Frag)(a:Addr):It:=
 ⟨fun i H=>∃xs x,Ju K H a xs/\xs[i]?=some x,fun i H x H'=>H'=H/\∀xs,Ju K H a xs->xs[i]?=some x,fun i H=>∃xs,Ju K H a xs/\xs.length<=i⟩
def XF(lo:Int)(n:Nat):It:=⟨fun i _=>i < n,fun i H x H'=>H'=H/\x=.int (lo+i),fun i _=>n<=i⟩
theorem qC{P:Program}{w:World}{K:PySem.W.Frag}{tg:Expr}(a it:Addr):Turn P w K tg (Bs K a) [it] it (fun i h=>h.IsListIter it a i) where
 mem:=by simp
 obj:=fun i h st b hb=>by
  have e:b=it:=by simpa using hb
  subst e;obtain⟨o,e,c,d⟩:=st;exact⟨o,e,fun v z=>by rw[d]at z;cases z⟩
 keep:=fun i h h' st k=>st.at fun o e=>k it (by simp) o e
 item:=by
  intro X hP hw hK hc i pins s U H E I hf st hg;subst hP hw hK;obtain⟨xs,x,hq,hx⟩:=hg;obtain⟨its,rv,p,hz⟩:=I.list hq;obtain⟨u,hu,ru⟩:=rv.get hx;obtain⟨f0,f1,f2,f3,f4,f5⟩:=hf it (by simp);refine wpAny_pyNext_list_item st p.isList (x:=u) (by simpa using hu) fun h' st' sb=>?_;have I1:Inv X pins U H { s with heap:=h' }:=I.turned (t':=s.toks) (fun b o hb e=>(sb.2 b hb).trans e) f0 f1 f3 f4 f5;obtain⟨o,e,c,d⟩:=id st';exact⟨u,rfl,G_ (s:={ s with heap:=h' }) e c d (by decide) ⟨x,H,I1,ru,⟨rfl,fun ys hy=>by rw[I.list_inj hy hq];exact hx⟩,st',fun b hb=>(hf b hb).1⟩⟩
 done:=by
  intro X hP hw hK hc i pins s U H E I hf st hg;subst hP hw hK;obtain⟨xs,hq,hx⟩:=hg;obtain⟨its,rv,p,hz⟩:=I.list hq;obtain⟨f0,f1,f2,f3,f4,f5⟩:=hf it (by simp);have hl:=rv.length;exact wpAny_pyNext_list_end (I.ok.hd hc) st p.isList (by simp;omega) fun h' eb=>⟨rfl,I.turned (t':=s.toks) (fun b o hb e=>eb b o hb e) f0 f1 f3 f4 f5⟩
 self:=fun _ _ _ _ _ st h=>wpAny_pyIter_listiter st h
theorem Wk{P:Program}{w:World}{K:PySem.W.Frag}{tg:Expr}(a it:Addr):Turn P w K tg (Bt K a) [it] it (fun i h=>h.IsTupleIter it a i) where
 mem:=by simp
 obj:=fun i h st b hb=>by
  have e:b=it:=by simpa using hb
  subst e;obtain⟨o,e,c,d⟩:=st;exact⟨o,e,fun v z=>by rw[d]at z;cases z⟩
 keep:=fun i h h' st k=>st.at fun o e=>k it (by simp) o e
 item:=by
  intro X hP hw hK hc i pins s U H E I hf st hg;subst hP hw hK;obtain⟨xs,x,hq,hx⟩:=hg;obtain⟨its,rv,p,hz⟩:=I.tuple hq;obtain⟨u,hu,ru⟩:=rv.get hx;obtain⟨f0,f1,f2,f3,f4,f5⟩:=hf it (by simp);refine wpAny_pyNext_tuple_item st (show s.heap.IsTuple a its.toArray from p) (x:=u) (by simpa using hu) fun h' st' sb=>?_;have I1:Inv X pins U H { s with heap:=h' }:=I.turned (t':=s.toks) (fun b o hb e=>(sb.2 b hb).trans e) f0 f1 f3 f4 f5;obtain⟨o,e,c,d⟩:=id st';exact⟨u,rfl,G_ (s:={ s with heap:=h' }) e c d (by decide) ⟨x,H,I1,ru,⟨rfl,fun ys hy=>by rw[I.tuple_inj hy hq];exact hx⟩,st',fun b hb=>(hf b hb).1⟩⟩
 done:=by
  intro X hP hw hK hc i pins s U H E I hf st hg;subst hP hw hK;obtain⟨xs,hq,hx⟩:=hg;obtain⟨its,rv,p,hz⟩:=I.tuple hq;obtain⟨f0,f1,f2,f3,f4,f5⟩:=hf it (by simp);have hl:=rv.length;exact wpAny_pyNext_tuple_end (I.ok.hd hc) st (show s.heap.IsTuple a its.toArray from p) (by simp;omega) fun h' eb=>⟨rfl,I.turned (t':=s.toks) (fun b o hb e=>eb b o hb e) f0 f1 f3 f4 f5⟩
 self:=fun _ _ _ _ _ st h=>wpAny_pyIter_tupleiter st h
theorem Wl{P:Program}{w:World}{K:PySem.W.Frag}{tg:Expr}(it:Addr)(lo:Int)(n:Nat):Turn P w K tg (XF lo n) [it] it (fun i h=>IsRangeIter h it (lo+(i:Nat) * 1) ((n:Int) - (i:Nat)) 1) where
 mem:=by simp
 obj:=fun i h st b hb=>by
  have e:b=it:=by simpa using hb
  subst e;exact⟨_,st,fun v z=>by
   have z':Data.fields _=Data.cell v:=z;cases z'⟩
 keep:=fun i h h' st k=>k it (by simp) _ st
 item:=by
  intro X hP hw hK hc i pins s U H E I hf st hg;subst hP hw hK;obtain⟨f0,f1,f2,f3,f4,f5⟩:=hf it (by simp);have W:=Walks.range (prog:=X.prog) (w:=X.w) (I.ok.hd hc) it lo 1 n;refine W.item i s _ _ hg st fun v h' tk hv st' kk=>?_;obtain⟨t,rfl⟩:=hv;have I1:Inv X pins U H { s with heap:=h',toks:=tk }:=I.turned (fun b o hb e=>kk b o (by simpa using hb) e) f0 f1 f3 f4 f5;refine⟨_,rfl,G_ (s:={ s with heap:=h',toks:=tk }) (n := "range_iterator") st' rfl rfl (by decide) ⟨.int (lo+i),H,I1,⟨t,?_⟩,⟨rfl,rfl⟩,st',fun b hb=>(hf b hb).1⟩⟩;rw[Int.mul_one]
 done:=by
  intro X hP hw hK hc i pins s U H E I hf st hg;subst hP hw hK;obtain⟨f0,f1,f2,f3,f4,f5⟩:=hf it (by simp);exact wpAny_pyNext_range_end (I.ok.hd hc) st (by have:n<=i:=hg;omega) fun h' eb=>⟨rfl,I.turned (t':=s.toks) (fun b o hb e=>eb b o hb e) f0 f1 f3 f4 f5⟩
 self:=fun _ _ _ _ _ st h=>wpAny_pyIter_rangeiter st h
section
variable {X:Cx} {tg:Expr}
theorem QS{pins:List (Addr×Obj)}{U:St}{H:Hp}{s:Shared}{R:It->Hp->Prop}{E:Value->Shared->Prop}{lo hi:Int}{t u v:Tok}{tk:Nat}(I:Inv X pins U H s)(h1:-(2 ^ 62)<=lo)(h2:lo < 2 ^ 62)(h3:-(2 ^ 62)<=hi)(h4:hi < 2 ^ 62)
  (q:R (XF lo (hi - lo).toNat) H):wpAny (model X.prog X.w) X.A (pyIter (.ref s.heap.objs.size)) (Fp X pins U tg R) E { s with heap:=s.heap.push { cls:=.type "range",data:=.fields #[.int lo t,.int hi u,.int 1 v] },toks:=tk }:=by
 refine wpAny_pyIter_range (IsRange.new ..) (small_one h1 h2 h3 h4) ?_;have I1:Inv X pins U H { s with heap:=s.heap.push { cls:=.type "range",data:=.fields #[.int lo t,.int hi u,.int 1 v] },toks:=tk }:=I.kept fun b o e=>wIa _ e;refine⟨(s.heap.push { cls:=.type "range",data:=.fields #[.int lo t,.int hi u,.int 1 v] }).objs.size,[(s.heap.push { cls:=.type "range",data:=.fields #[.int lo t,.int hi u,.int 1 v] }).objs.size],_,_,H,rfl,
  I1.kept (t':=tk) fun b o e=>wIa _ e,Wl _ lo (hi - lo).toNat,?_,fun b hb=>?_,q⟩
 ·have e1:lo+((0:Nat):Int) * 1=lo:=by simp
  have e2:(((hi - lo).toNat:Nat):Int) - ((0:Nat):Int)=Builtin.Range.rangeSize lo hi 1:=by rw[rangeSize_one];split <;> omega
  show IsRangeIter _ _ (lo+((0:Nat):Int) * 1) ((((hi - lo).toNat:Nat):Int) - ((0:Nat):Int)) 1;rw[e1,e2];exact wJa _ rfl
 ·have e:b=(s.heap.push { cls:=.type "range",data:=.fields #[.int lo t,.int hi u,.int 1 v] }).objs.size:=by simpa using hb
  subst e;exact I1.fpOk (wPa _) (I1.hok.fresh (wPa _))
def Ed(ta:TA):TI:=fun U H R=>ta U H fun vs H1=>∃j:Int,vs=[.int j]/\-(2 ^ 62)<=j/\j < 2 ^ 62/\R (XF 0 j.toNat) H1
theorem qD{a:Expr}{ta:TA}{p pos:Pos}(hg:Gl X "range")(hm:X.mg "range" = none)(ha:PA X [a] ta)(hs:starEach [a] X.env=[(false,eval a X.env)]:=by rfl):PI X tg (.Call (.Name "range" p) [a] [] pos) (Ed ta):=by
 intro pins s U H R I h;refine Call_ (zq I hg hm boot_range (PyProof.Rows.callWith_type1 (ji (ha pos pins s U H _ I h) fun us s1 ⟨vs,H1,I1,r1,q1⟩=>?_) hs rfl));obtain⟨j,e,q1,q2,q⟩:=q1;subst e;cases r1 with
 | cons r rr=>
  cases rr;obtain⟨t,rfl⟩:=r;exact call_range_1 (QS I1 (by omega) (by omega) q1 q2 (by simpa using q))
def Hr(wi:TI)(g:TG)(tb:TS):TS:=fun D U H=>wi U H fun J H1=>∃W:Nat->Nat->St->Hp->Prop,(∃m,W 0 m U H1)/\∀i m U H,W i m U H->
 (J.stop i H/\D.nx U H) \/ (J.go i H/\∃N:St->Hp->Prop,(∀U' H',N U' H'->∃m',m' < m/\W (i+1) m' U' H')/\∀x H',J.yld i H x H'->g x U H' fun U2 H2=>tb { D with nx:=N,ct:=N,bk:=D.nx } U2 H2)
noncomputable def Vz(fp:List Addr)(h:Heap):List (Addr×Obj):=fp.filterMap fun b=>(h.get? b).map fun o=>(b,o)
theorem zV{fp:List Addr}{h:Heap}{b:Addr}{o:Obj}(hb:b∈fp)(e:h.get? b=some o):(b,o)∈Vz fp h:=List.mem_filterMap.mpr ⟨b,hb,by rw[e];rfl⟩
theorem qF{fp:List Addr}{h:Heap}{p:Addr×Obj}(hp:p∈Vz fp h):p.1∈fp/\h.get? p.1=some p.2:=by
 obtain⟨b,hb,e⟩:=List.mem_filterMap.mp hp;cases q:h.get? b with
 | none=>rw[q]at e;cases e
 | some o=>
  rw[q]at e;have e':(b,o)=p:=vFa e;subst e';exact⟨hb,q⟩
theorem Inv.pinned{pins:List (Addr×Obj)}{U:St}{H:Hp}{s:Shared}{fp:List Addr}(I:Inv X pins U H s)(hf:∀b∈fp,Jl X pins H b)(ho:∀b∈fp,∃o,s.heap.get? b=some o/\∀v,o.data≠.cell v):Inv X (pins++Vz fp s.heap) U H s:=
 I.pins_of fun p hp=>(List.mem_append.mp hp).elim (fun z=>I.pin p (vJa _ z)) fun z=>by
  obtain⟨hb,e⟩:=qF z;obtain⟨f0,f1,f2,_⟩:=hf p.1 hb;obtain⟨o,e',d⟩:=ho p.1 hb;rw[e]at e';cases e';exact⟨e,f0,f1,f2,d⟩
theorem Inv.unpinned{pins pl:List (Addr×Obj)}{U:St}{H:Hp}{s:Shared}(I:Inv X (pins++pl) U H s):Inv X pins U H s:=I.pins_of fun p hp=>I.pin p (vJa _ (vIa _ hp))
theorem qG{iter:Expr}{body:List Stmt}{wi:TI}{g:TG}{tb:TS}{pos:Pos}(hp:PassesOwn (model X.prog X.w) X.A X.env X.xe)(hc:X.calm=true)(hi:PI X tg iter wi)(hg:PG X tg g)(hb:jr X body tb)
  (hs:∀x,foldedSetIterable iter X.env x=pure x:=by intro _;rfl):PS X (.For tg iter body [] pos) (Hr wi g tb):=by
 intro pins s U H D I h;refine wpAny_For (ji (hi pins s U H _ I h) fun v s1 h1=>ji h1 fun itv s2 h2=>?_) hs;obtain⟨it,fp,tn,J,H2,e,I2,T,st2,f2,W,⟨m0,w0⟩,turn⟩:=h2;subst e;have stat:∀{H':Hp},(∀b∈fp,H' b=none)->∀b∈fp,Jl X pins H' b:=fun hn b hb=>⟨hn b hb,(f2 b hb).2⟩
 refine codeAny_forLoop_any (fun n s'=>∃i U' H',Inv X pins U' H' s'/\tn i s'.heap/\(∀b∈fp,H' b=none)/\W i n U' H') ?_ m0 ⟨0,U,H2,I2,st2,fun b hb=>(f2 b hb).1,w0⟩;rintro n s3 ⟨i,U3,H3,I3,st3,fr3,w3⟩;rcases turn i n U3 H3 w3 with⟨stop,qn⟩ | ⟨go,N,hN,step⟩
 ·refine wpAny_passesOwn hp (ji (T.done X rfl rfl rfl hc i pins s3 U3 H3 X.xe I3 (stat fr3) st3 stop) fun r s4 ⟨hr,I4⟩=>?_);subst hr;exact wpAny_execs_nil ⟨U3,H3,I4,qn⟩
 ·refine wpAny_passesOwn hp (ji (T.item X rfl rfl rfl hc i pins s3 U3 H3 X.xe I3 (stat fr3) st3 go) fun r s4 ⟨u,hr,h4⟩=>?_);subst hr;refine wpAny_passesOwn hp (ji h4 fun _ s5 ⟨x,H5,I5,r5,y5,st5,fr5⟩=>?_);have I5':=I5.pinned (stat fr5) (T.obj _ _ st5);refine wpAny_passesOwn hp (ji (hg _ s5 U3 H5 x u _ I5' r5 (step x H5 y5)) fun _ s6 ⟨U6,H6,I6,q6⟩=>?_);refine wpAny_passesOwn hp (ji (hb _ s6 U6 H6 _ I6 q6) fun f s7 q7=>?_);have again:∀{U7:St} {H7:Hp},Inv X (pins++Vz fp s5.heap) U7 H7 s7->N U7 H7->∃m,m < n/\∃i U' H',Inv X pins U' H' s7/\tn i s7.heap/\(∀b∈fp,H' b=none)/\W i m U' H':=fun {U7 H7} I7 n7=>by
   obtain⟨m',hm,w7⟩:=hN U7 H7 n7;refine⟨m',hm,i+1,U7,H7,I7.unpinned,T.keep _ _ _ st5 fun b hb o e=>(I7.pin (b,o) (vJa _ (vJa _ (zV hb e)))).1,fun b hb=>?_,w7⟩;obtain⟨o,e,d⟩:=T.obj _ _ st5 b hb;exact(I7.pin (b,o) (vJa _ (vJa _ (zV hb e)))).2.1
  cases f with
  | next=>obtain⟨U7,H7,I7,n7⟩:=q7;exact again I7 n7
  | cont=>obtain⟨U7,H7,I7,n7⟩:=q7;exact again I7 n7
  | brk=>obtain⟨U7,H7,I7,q7⟩:=q7;exact⟨U7,H7,I7.unpinned,q7⟩
  | ret v=>obtain⟨x7,U7,H7,I7,r7,q7⟩:=q7;exact⟨x7,U7,H7,I7.unpinned,r7,q7⟩
end
noncomputable abbrev R2:=V->V->Hp->VK->Prop
def jH(X:Cx)(f:Value->Value->Sem Value)(r:R2):Prop:=
 ∀(pins:List (Addr×Obj)) (s:Shared) (U:St) (H:Hp) (x y:V) (v u:Value) (Q:VK),Inv X pins U H s->jq x v->jq y u->r x y H Q->
  wpAny (model X.prog X.w) X.A (f v u) (EP X pins U Q) X.xe s
def Bu(X:Cx)(f:Value->Sem Value)(r:V->Hp->VK->Prop):Prop:=
 ∀(pins:List (Addr×Obj)) (s:Shared) (U:St) (H:Hp) (x:V) (v:Value) (Q:VK),Inv X pins U H s->jq x v->r x H Q->
  wpAny (model X.prog X.w) X.A (f v) (EP X pins U Q) X.xe s
def yw(X:Cx)(f:Value)(r:List V->Hp->VK->Prop):Prop:=
 ∀(pins:List (Addr×Obj)) (s:Shared) (U:St) (H:Hp) (xs:List V) (us:List Value) (Q:VK),Inv X pins U H s->jg xs us->r xs H Q->
  wpAny (model X.prog X.w) X.A (call f us) (EP X pins U Q) X.xe s
def Hs(X:Cx)(r:V->Hp->(Bool->Hp->Prop)->Prop):Prop:=
 ∀(pins:List (Addr×Obj)) (s:Shared) (U:St) (H:Hp) (x:V) (v:Value) (Q:Bool->Hp->Prop),Inv X pins U H s->jq x v->r x H Q->
  wpAny (model X.prog X.w) X.A (truthy v) (TP X pins U Q) X.xe s
def wy(r:R2)(ta tb:TE):TE:=fun U H Q=>ta U H fun x H1=>tb U H1 fun y H2=>r x y H2 Q
def iY(r:V->Hp->VK->Prop)(ta:TE):TE:=fun U H Q=>ta U H fun x H1=>r x H1 Q
def rI(C:Int->Int->Prop)(g:Int->Int->V):R2:=fun x y H Q=>∃i j,x=.int i/\y=.int j/\C i j/\Q (g i j) H
def zU(g:Int->Int->V):R2:=fun x y H Q=>∃i j,x=.int i/\y=.int j/\Q (g i j) H
def rU(g:Int->V):V->Hp->VK->Prop:=fun x H Q=>∃i,x=.int i/\Q (g i) H
section
variable {X:Cx} {a b c:Expr} {ta tb tc:TE} {pos:Pos}
theorem QT(ha:PE X a ta)(hb:PE X b tb){pins:List (Addr×Obj)}{s:Shared}{U:St}{H:Hp}{R:V->V->Hp->Prop}(I:Inv X pins U H s)
  (h:ta U H fun x H1=>tb U H1 fun y H2=>R x y H2) {Q:Value->Shared->Prop} {f:Value->Value->Sem Value}
  (hf:∀v u s2 x y H2,Inv X pins U H2 s2->jq x v->jq y u->R x y H2->wpAny (model X.prog X.w) X.A (f v u) Q X.xe s2):
  wpAny (model X.prog X.w) X.A (eval a X.env) (fun v s₁=>wpAny (model X.prog X.w) X.A (eval b X.env) (fun u s₂=>wpAny (model X.prog X.w) X.A (f v u) Q X.xe s₂) X.xe s₁) X.xe s:=by
 refine ji (ha pins s U H _ I h) fun v s1 ⟨x,H1,I1,r1,q1⟩=>?_;refine ji (hb pins s1 U H1 _ I1 q1) fun u s2 ⟨y,H2,I2,r2,q2⟩=>?_;exact hf v u s2 x y H2 I2 r1 r2 q2
theorem XH{op:Operator}{r:R2}(ho:jH X (binaryOp op) r)(ha:PE X a ta)(hb:PE X b tb):PE X (.BinOp a op b pos) (wy r ta tb):=by
 intro pins s U H Q I h;exact wpAny_BinOp (QT ha hb I h fun v u s2 x y H2 I2 rx ry q=>ho pins s2 U H2 x y v u Q I2 rx ry q)
theorem Ee{op:UnaryOp}{r:V->Hp->VK->Prop}(ho:Bu X (unaryOp op) r)(ha:PE X a ta):PE X (.UnaryOp op a pos) (iY r ta):=by
 intro pins s U H Q I h;exact UnaryOp_ (ji (ha pins s U H _ I h) fun v s1 ⟨x,H1,I1,r1,q1⟩=>ho pins s1 U H1 x v Q I1 r1 q1)
theorem XI{f:Value->Value->Sem Value}{C:Int->Int->Prop}{g:Int->Int->Int}
  (rule:∀(i j:Int) (t u:Tok) (s:Shared) (Q:Value->Shared->Prop) (E:Value->Shared->Prop),C i j->Q (.int (g i j) s.toks) { s with toks:=s.toks+1 }->wpAny (model X.prog X.w) X.A (f (.int i t) (.int j u)) Q E s):
  jH X f (rI C fun i j=>.int (g i j)):=by
 intro pins s U H x y v u Q I rx ry h;obtain⟨i,j,rfl,rfl,hc,q⟩:=h;obtain⟨t,rfl⟩:=rx;obtain⟨t',rfl⟩:=ry;exact rule i j t t' s _ _ hc ⟨.int (g i j),H,I.tok _,⟨_,rfl⟩,q⟩
theorem Bv{f:Value->Value->Sem Value}{g:Int->Int->Int}
  (rule:∀(i j:Int) (t u:Tok) (s:Shared) (Q:Value->Shared->Prop) (E:Value->Shared->Prop),Q (.int (g i j) s.toks) { s with toks:=s.toks+1 }->wpAny (model X.prog X.w) X.A (f (.int i t) (.int j u)) Q E s):
  jH X f (zU fun i j=>.int (g i j)):=by
 intro pins s U H x y v u Q I rx ry h;obtain⟨i,j,rfl,rfl,q⟩:=h;obtain⟨t,rfl⟩:=rx;obtain⟨t',rfl⟩:=ry;exact rule i j t t' s _ _ ⟨.int (g i j),H,I.tok _,⟨_,rfl⟩,q⟩
theorem Wm{f:Value->Value->Sem Value}{g:Int->Int->Bool}
  (rule:∀(i j:Int) (t u:Tok) (s:Shared) (Q:Value->Shared->Prop) (E:Value->Shared->Prop),Q (.bool (g i j)) s->wpAny (model X.prog X.w) X.A (f (.int i t) (.int j u)) Q E s):
  jH X f (zU fun i j=>.bl (g i j)):=by
 intro pins s U H x y v u Q I rx ry h;obtain⟨i,j,rfl,rfl,q⟩:=h;obtain⟨t,rfl⟩:=rx;obtain⟨t',rfl⟩:=ry;exact rule i j t t' s _ _ ⟨.bl (g i j),H,I,rfl,q⟩
def QU(i j:Int):Prop:=0 < j/\j < 1073741824
def QV(i j:Int):Prop:=0<=j/\j<=1000000/\i.natAbs < 2 ^ 64
def Uh(i j:Int):Prop:=(-(2 ^ 64) < i/\i < 2 ^ 64) \/ (-(2 ^ 64) < j/\j < 2 ^ 64)
theorem Uh.ok{i j:Int}(h:Uh i j):IntMulOk i j:=by
 rcases h with⟨h1,h2⟩ | ⟨h1,h2⟩
 ·exact .of_left (intBits_le_64 h1 h2)
 ·exact .of_right (intBits_le_64 h1 h2)
theorem Bw:jH X (binaryOp .Add) (zU fun i j=>.int (i+j)):=Bv fun _ _ _ _ _ _ _ q=>add_int q
theorem Bx:jH X (binaryOp .Sub) (zU fun i j=>.int (i - j)):=Bv fun _ _ _ _ _ _ _ q=>sub_int q
theorem Bz:jH X (binaryOp .Mult) (rI Uh fun i j=>.int (i * j)):=XI fun _ _ _ _ _ _ _ hc q=>mul_int q hc.ok
theorem Am:jH X (binaryOp .FloorDiv) (rI QU fun i j=>.int (i / j)):=XI fun i j _ _ _ _ _ hc q=>by
 have h1:(0:Int) < j:=hc.1;have h2:j < 1073741824:=hc.2;exact floordiv_int (by omega) (by rw[Int.fdiv_eq_ediv_of_nonneg i (by omega)];exact q) (.inl (PyProof.noPylong_small (by omega)))
theorem BA:jH X (binaryOp .Mod) (rI (fun _ j=>0 < j) fun i j=>.int (i % j)):=XI fun i j _ _ _ _ _ hc q=>by
 have h1:(0:Int) < j:=hc;exact mod_int' (by omega) (by rw[Int.fmod_eq_emod_of_nonneg i (by omega)];exact q)
theorem BB:jH X (binaryOp .Pow) (rI QV fun i j=>.int (i ^ j.toNat)):=XI fun _ _ _ _ _ _ _ hc q=>pow_int_small hc.1 hc.2.1 hc.2.2 q
theorem iZ{f:Value->Sem Value}{g:Int->Int}
  (rule:∀(i:Int) (t:Tok) (s:Shared) (Q:Value->Shared->Prop) (E:Value->Shared->Prop),Q (.int (g i) s.toks) { s with toks:=s.toks+1 }->wpAny (model X.prog X.w) X.A (f (.int i t)) Q E s):
  Bu X f (rU fun i=>.int (g i)):=by
 intro pins s U H x v Q I rx h;obtain⟨i,rfl,q⟩:=h;obtain⟨t,rfl⟩:=rx;exact rule i t s _ _ ⟨.int (g i),H,I.tok _,⟨_,rfl⟩,q⟩
theorem BC:Bu X (unaryOp .USub) (rU fun i=>.int (-i)):=iZ fun _ _ _ _ _ q=>neg_int q
end
noncomputable def BD:V->V->Bool
 | .non,.non=>true | .non,.int _=>true | .int _,.non=>true | .non,.bl _=>true | .bl _,.non=>true | .non,.str _=>true | .str _,.non=>true
 | .int _,.int _=>true | .bl _,.bl _=>true | .str _,.str _=>true | .byt _,.byt _=>true
 | .int _,.str _=>true | .str _,.int _=>true | .bl _,.str _=>true | .str _,.bl _=>true
 | _,_=>false
def XJ:R2:=fun x y H Q=>BD x y=true/\Q (.bl (decide (x=y))) H
def XM:R2:=fun x y H Q=>BD x y=true/\Q (.bl (!decide (x=y))) H
theorem vv{i j:Int}:decide (V.int i=V.int j)=(i==j):=by
 rw[Bool.eq_iff_iff];simp
theorem VA{i j:Bool}:decide (V.bl i=V.bl j)=(i==j):=by
 rw[Bool.eq_iff_iff];simp
theorem vz{i j:Str}:decide (V.str i=V.str j)=(i==j):=by
 rw[Bool.eq_iff_iff];simp
theorem wz{i j:Array UInt8}:decide (V.byt i=V.byt j)=(i.toList==j.toList):=by
 rw[Bool.eq_iff_iff];cases i;cases j;simp
section
variable {X:Cx} {a b c:Expr} {ta tb tc:TE} {pos:Pos}
theorem jE{pins:List (Addr×Obj)}{U:St}{H:Hp}{s:Shared}{Q:VK}{k k':Bool}(I:Inv X pins U H s)(q:Q (.bl k) H)(e:k=k'):EP X pins U Q (.bool k') s:=by
 subst e;exact⟨.bl k,H,I,rfl,q⟩
theorem Ef:jH X (compareOp .Eq) XJ:=by
 intro pins s U H x y v u Q I rx ry h;obtain⟨hs,q⟩:=h;cases x with
 | non=>
  cases rx;cases y with
  | non=>cases ry;exact PySem.EqNone.eq_none_none (jE I q (by simp))
  | bl j=>cases ry;exact PySem.EqNone.eq_none_bool (jE I q (by simp))
  | int j=>obtain⟨t',rfl⟩:=ry;exact PySem.EqNone.eq_none_int (jE I q (by simp))
  | str j=>obtain⟨t',rfl⟩:=ry;exact PySem.EqNone.eq_none_str (jE I q (by simp))
  | _=>exact vDa (show false=true from hs) vNa
 | bl i=>
  cases rx;cases y with
  | non=>cases ry;exact PySem.EqNone.eq_bool_none (jE I q (by simp))
  | bl j=>cases ry;exact eq_bool (jE I q VA)
  | str j=>obtain⟨t',rfl⟩:=ry;exact PySem.EqMixed.eq_bool_str (jE I q (by simp))
  | _=>exact vDa (show false=true from hs) vNa
 | int i=>
  obtain⟨t,rfl⟩:=rx;cases y with
  | non=>cases ry;exact PySem.EqNone.eq_int_none (jE I q (by simp))
  | int j=>obtain⟨t',rfl⟩:=ry;exact eq_int (jE I q vv)
  | str j=>obtain⟨t',rfl⟩:=ry;exact PySem.EqMixed.eq_int_str (jE I q (by simp))
  | _=>exact vDa (show false=true from hs) vNa
 | str i=>
  obtain⟨t,rfl⟩:=rx;cases y with
  | non=>cases ry;exact PySem.EqNone.eq_str_none (jE I q (by simp))
  | bl j=>cases ry;exact PySem.EqMixed.eq_str_bool (jE I q (by simp))
  | int j=>obtain⟨t',rfl⟩:=ry;exact PySem.EqMixed.eq_str_int (jE I q (by simp))
  | str j=>obtain⟨t',rfl⟩:=ry;exact eq_str (jE I q vz)
  | _=>exact vDa (show false=true from hs) vNa
 | byt i=>
  obtain⟨t,rfl⟩:=rx;cases y with
  | byt j=>obtain⟨t',rfl⟩:=ry;exact PySem.W.eq_bytes (jE I q wz)
  | _=>exact vDa (show false=true from hs) vNa
 | _=>cases y <;> exact vDa (show false=true from hs) vNa
theorem Eg:jH X (compareOp .NotEq) XM:=by
 intro pins s U H x y v u Q I rx ry h;obtain⟨hs,q⟩:=h;cases x with
 | non=>
  cases rx;cases y with
  | non=>cases ry;exact PySem.EqNone.ne_none_none (jE I q (by simp))
  | bl j=>cases ry;exact PySem.EqNone.ne_none_bool (jE I q (by simp))
  | int j=>obtain⟨t',rfl⟩:=ry;exact PySem.EqNone.ne_none_int (jE I q (by simp))
  | str j=>obtain⟨t',rfl⟩:=ry;exact PySem.EqNone.ne_none_str (jE I q (by simp))
  | _=>exact vDa (show false=true from hs) vNa
 | bl i=>
  cases rx;cases y with
  | non=>cases ry;exact PySem.EqNone.ne_bool_none (jE I q (by simp))
  | bl j=>cases ry;exact ne_bool (jE I q (congrArg not VA))
  | str j=>obtain⟨t',rfl⟩:=ry;exact PySem.EqMixed.ne_bool_str (jE I q (by simp))
  | _=>exact vDa (show false=true from hs) vNa
 | int i=>
  obtain⟨t,rfl⟩:=rx;cases y with
  | non=>cases ry;exact PySem.EqNone.ne_int_none (jE I q (by simp))
  | int j=>obtain⟨t',rfl⟩:=ry;exact ne_int (jE I q (congrArg not vv))
  | str j=>obtain⟨t',rfl⟩:=ry;exact PySem.EqMixed.ne_int_str (jE I q (by simp))
  | _=>exact vDa (show false=true from hs) vNa
 | str i=>
  obtain⟨t,rfl⟩:=rx;cases y with
  | non=>cases ry;exact PySem.EqNone.ne_str_none (jE I q (by simp))
  | bl j=>cases ry;exact PySem.EqMixed.ne_str_bool (jE I q (by simp))
  | int j=>obtain⟨t',rfl⟩:=ry;exact PySem.EqMixed.ne_str_int (jE I q (by simp))
  | str j=>obtain⟨t',rfl⟩:=ry;exact ne_str (jE I q (congrArg not vz))
  | _=>exact vDa (show false=true from hs) vNa
 | byt i=>
  obtain⟨t,rfl⟩:=rx;cases y with
  | byt j=>obtain⟨t',rfl⟩:=ry;exact PySem.W.ne_bytes (jE I q (congrArg not wz))
  | _=>exact vDa (show false=true from hs) vNa
 | _=>cases y <;> exact vDa (show false=true from hs) vNa
theorem Eh:jH X (compareOp .Lt) (zU fun i j=>.bl (decide (i < j))):=Wm fun _ _ _ _ _ _ _ q=>lt_int q
theorem Ei:jH X (compareOp .LtE) (zU fun i j=>.bl (decide (i<=j))):=Wm fun _ _ _ _ _ _ _ q=>le_int q
theorem Ej:jH X (compareOp .Gt) (zU fun i j=>.bl (decide (j < i))):=Wm fun _ _ _ _ _ _ _ q=>gt_int q
theorem Ek:jH X (compareOp .GtE) (zU fun i j=>.bl (decide (j<=i))):=Wm fun _ _ _ _ _ _ _ q=>ge_int q
theorem qH:jH X (compareOp .In) (fun x y H Q=>∃i j,x=.str i/\y=.str j/\Q (.bl (!(Builtin.Str.occurrences j i 0 j.length 1).isEmpty)) H):=by
 intro pins s U H x y v u Q I rx ry h;obtain⟨i,j,rfl,rfl,q⟩:=h;obtain⟨t,rfl⟩:=rx;obtain⟨t',rfl⟩:=ry;exact in_str (jE I q rfl)
theorem BE:jH X (compareOp .Is) (fun x y H Q=>y=.non/\Q (.bl (decide (x=.non))) H):=by
 intro pins s U H x y v u Q I rx ry h;obtain⟨rfl,q⟩:=h;cases ry;refine is_none_gen (jE I q ?_);cases x <;> first
  | (cases rx;rfl)
  | (obtain⟨t,rfl⟩:=rx;rfl)
theorem An:jH X (compareOp .IsNot) (fun x y H Q=>y=.non/\Q (.bl (!decide (x=.non))) H):=by
 intro pins s U H x y v u Q I rx ry h;obtain⟨rfl,q⟩:=h;cases ry;refine isnot_none_gen (jE I q ?_);cases x <;> first
  | (cases rx;rfl)
  | (obtain⟨t,rfl⟩:=rx;rfl)
theorem jH.or{f:Value->Value->Sem Value}{r r':R2}(h:jH X f r)(h':jH X f r'):jH X f (fun x y H Q=>r x y H Q \/ r' x y H Q):=by
 intro pins s U H x y v u Q I rx ry q;rcases q with q | q
 ·exact h pins s U H x y v u Q I rx ry q
 ·exact h' pins s U H x y v u Q I rx ry q
theorem Ao{op:CmpOp}{r:R2}(ho:jH X (compareOp op) r)(ha:PE X a ta)(hb:PE X b tb)(hm:behindInMarks op b=false):PE X (.Compare a [op] [b] pos) (wy r ta tb):=by
 intro pins s U H Q I h;exact wpAny_Compare1 (QT ha hb I h fun v u s2 x y H2 I2 rx ry q=>ho pins s2 U H2 x y v u Q I2 rx ry q) hm
def Wn(t:TE):TT:=fun U H Q=>t U H fun x H'=>∃k,x=.bl k/\Q k H'
theorem Ap{op:CmpOp}{r:R2}(ho:jH X (compareOp op) r)(ha:PE X a ta)(hb:PE X b tb)(hm:behindInMarks op b=false):PT X (.Compare a [op] [b] pos) (Wn (wy r ta tb)):=by
 intro pins s U H Q I h;refine wpAny_isTrue_Compare1 (ji (ha pins s U H _ I h) fun v s1 ⟨x,H1,I1,r1,q1⟩=>ji (hb pins s1 U H1 _ I1 q1) fun u s2 ⟨y,H2,I2,r2,q2⟩=>
  ji (ho pins s2 U H2 x y v u _ I2 r1 r2 q2) fun c s3 ⟨z,H3,I3,r3,k,e,q3⟩=>?_) hm
 subst e;cases r3;exact wpAny_truthy_bool ⟨H3,I3,q3⟩
def ko(r r':R2)(ta tb tc:TE):TE:=fun U H Q=>ta U H fun x H1=>tb U H1 fun y H2=>r x y H2 fun z H3=>∃k,z=.bl k/\
 (if k=true then tc U H3 fun w' H4=>r' y w' H4 Q else Q (.bl false) H3)
theorem QW{op op':CmpOp}{r r':R2}(ho:jH X (compareOp op) r)(ho':jH X (compareOp op') r')(ha:PE X a ta)(hb:PE X b tb)(hc:PE X c tc)
  (hm:lastMarks [op,op'] [b,c]=false:=by with_unfolding_all rfl):PE X (.Compare a [op,op'] [b,c] pos) (ko r r' ta tb tc):=by
 intro pins s U H Q I h;refine Compare_chain (ji (ha pins s U H _ I h) fun v s1 ⟨x,H1,I1,r1,q1⟩=>chain_link (ji (hb pins s1 U H1 _ I1 q1) fun u s2 ⟨y,H2,I2,r2,q2⟩=>
  ji (ho pins s2 U H2 x y v u _ I2 r1 r2 q2) fun d s3 ⟨z,H3,I3,r3,k,e,q3⟩=>?_)) hm
 subst e;cases r3;refine wpAny_truthy_bool ?_;cases k with
 | false=>exact ite_ff ⟨.bl false,H3,I3,rfl,q3⟩
 | true=>exact ite_tt (chain_last (ji (hc pins s3 U H3 _ I3 q3) fun w' s4 ⟨z',H4,I4,r4,q4⟩=>ho' pins s4 U H4 y z' u w' Q I4 r2 r4 q4))
theorem QX{op op':CmpOp}{r r':R2}(ho:jH X (compareOp op) r)(ho':jH X (compareOp op') r')(ha:PE X a ta)(hb:PE X b tb)(hc:PE X c tc)
  (hm:lastMarks [op,op'] [b,c]=false:=by with_unfolding_all rfl):PT X (.Compare a [op,op'] [b,c] pos) (Wn (ko r r' ta tb tc)):=by
 intro pins s U H Q I h;refine isTrue_chain (ji (ha pins s U H _ I h) fun v s1 ⟨x,H1,I1,r1,q1⟩=>test_link (ji (hb pins s1 U H1 _ I1 q1) fun u s2 ⟨y,H2,I2,r2,q2⟩=>
  ji (ho pins s2 U H2 x y v u _ I2 r1 r2 q2) fun d s3 ⟨z,H3,I3,r3,k,e,q3⟩=>?_)) hm
 subst e;cases r3;refine wpAny_truthy_bool ?_;cases k with
 | false=>
  obtain⟨k',e',q'⟩:=q3;cases e';exact ite_ff ⟨H3,I3,q'⟩
 | true=>
  refine ite_tt (test_last (ji (hc pins s3 U H3 _ I3 q3) fun w' s4 ⟨z',H4,I4,r4,q4⟩=>ji (ho' pins s4 U H4 y z' u w' _ I4 r2 r4 q4) fun d' s5 ⟨z2,H5,I5,r5,k2,e2,q5⟩=>?_));subst e2;cases r5;exact wpAny_truthy_bool ⟨H5,I5,q5⟩
def QY(K:PySem.W.Frag)(x:V)(H:Hp)(k:Bool):Prop:=
 match x with
 | .non=>k=false
 | .bl b=>k=b
 | .int i=>k=(i != 0)
 | .str y=>y.length<=sizeLine/\k=((y.length:Int) != 0)
 | .byt y=>y.size<=sizeLine/\k=((y.size:Int) != 0)
 | .ref p=>(∃xs,js K H p xs/\k=!xs.isEmpty) \/ (∃xs,Ju K H p xs/\k=!xs.isEmpty) \/∃kvs,H p=some (.dK kvs)/\k=!kvs.isEmpty
 | _=>False
theorem Wo{κ:Type}{kvs:List (κ×V)}{vs:List (κ×Value)}(r:KV kvs vs):(!vs.isEmpty)=!kvs.isEmpty:=by
 cases r <;> rfl
theorem UG{xs:List V}{its:List Value}(r:jg xs its):(!its.toArray.isEmpty)=!xs.isEmpty:=by
 cases r <;> simp
theorem zr:(sizeLine:Nat) < 2 ^ 63:=by rw[sizeLine_eq];decide
theorem BF:Hs X (fun x H Q=>∃k,QY X.K x H k/\Q k H):=by
 intro pins s U H x v Q I rx h;obtain⟨k,e,q⟩:=h;have hl:=zr;have hs:sizeLine=16777216:=sizeLine_eq;cases x with
 | non=>
  cases rx;have e':k=false:=e;subst e';exact truthy_none ⟨H,I,q⟩
 | bl b=>
  cases rx;have e':k=b:=e;subst e';exact wpAny_truthy_bool ⟨H,I,q⟩
 | int i=>
  obtain⟨t,rfl⟩:=rx;have e':k=(i != 0):=e;subst e';exact PySem.P.truthy_int ⟨H,I,q⟩
 | str y=>
  obtain⟨t,rfl⟩:=rx;obtain⟨hy,e'⟩:y.length<=sizeLine/\k=((y.length:Int) != 0):=e;subst e';exact PySem.P.truthy_str (by omega) ⟨H,I.tok _,q⟩
 | byt y=>
  obtain⟨t,rfl⟩:=rx;obtain⟨hy,e'⟩:y.size<=sizeLine/\k=((y.size:Int) != 0):=e;subst e';exact PySem.W.truthy_bytes (by omega) ⟨H,I.tok _,q⟩
 | ref p=>
  cases rx;have e':(∃xs,js X.K H p xs/\k=!xs.isEmpty) \/ (∃xs,Ju X.K H p xs/\k=!xs.isEmpty) \/∃kvs,H p=some (.dK kvs)/\k=!kvs.isEmpty:=e;rcases e' with⟨xs,hx,e'⟩ | ⟨xs,hx,e'⟩ | ⟨kvs,hx,e'⟩
  ·subst e';obtain⟨its,r,pl,hz⟩:=I.list hx;have hlen:=r.length;exact wpAny_truthy_list pl.isList (by simp only[List.size_toArray];omega) ⟨H,I.tok _,by rw[UG r];exact q⟩
  ·subst e';obtain⟨its,r,pl,hz⟩:=I.tuple hx;have hlen:=r.length;exact truthy_tuple pl (by simp only[List.size_toArray];omega) ⟨H,I.tok _,by rw[UG r];exact q⟩
  ·subst e';obtain⟨hz,hS,vs,r,m⟩:kvs.length<=sizeLine/\(p==sysModules)=false/\∃vs,KV kvs vs/\s.heap.DictOf (gw X.prog X.w) p vs:=I.hok p _ hx;have hlen:kvs.length=vs.length:=Paired.length r;exact wpAny_truthy_dict hS m (by omega) ⟨H,I.tok _,by rw[Wo r];exact q⟩
 | _=>exact(show False from e).elim
theorem QZ(ha:PE X a ta)(he:∀whole,isTrue a X.env whole=(do let v<-whole;standAt a.pos;holding [v] (truthy v))):
  PT X a (fun U H Q=>ta U H fun x H'=>∃k,QY X.K x H' k/\Q k H'):=by
 intro pins s U H Q I h;exact isTrue_plain (ji (ha pins s U H _ I h) fun v s1 ⟨x,H1,I1,r1,q1⟩=>BF pins s1 U H1 x v Q I1 r1 q1) (he _)
theorem Wp:jH X (binaryOp .Add) (fun x y H Q=>∃i j,x=.str i/\y=.str j/\i.length+j.length<=sizeLine/\Q (.str (i++j)) H):=by
 intro pins s U H x y v u Q I rx ry h;obtain⟨i,j,rfl,rfl,hz,q⟩:=h;obtain⟨t,rfl⟩:=rx;obtain⟨t',rfl⟩:=ry;exact add_str (fun t' tk=>⟨.str (i++j),H,I.tok _,⟨_,rfl⟩,q⟩) hz
theorem zW{x:V}{us:List Value}(r:jg [x] us):∃u,us=[u]/\jq x u:=by
 cases r with
 | cons r1 r2=>cases r2;exact⟨_,rfl,r1⟩
theorem El{x y:V}{us:List Value}(r:jg [x,y] us):∃u w',us=[u,w']/\jq x u/\jq y w':=by
 cases r with
 | cons r1 r2=>
  cases r2 with
  | cons r3 r4=>cases r4;exact⟨_,_,rfl,r1,r3⟩
theorem qI(hc:X.calm=true):yw X (.builtin "max") (fun xs H Q=>∃i j,xs=[.int i,.int j]/\Q (.int (if j > i then j else i)) H):=by
 intro pins s U H xs us Q I r h;obtain⟨i,j,rfl,q⟩:=h;obtain⟨u,w',rfl,⟨t,rfl⟩,⟨t',rfl⟩⟩:=El r;refine max_two_ints (I.ok.hd hc) fun h' tk k=>⟨_,H,I.kept k,?_,q⟩
 by_cases hj:j > i
 ·rw[if_pos hj,if_pos hj];exact⟨_,rfl⟩
 ·rw[if_neg hj,if_neg hj];exact⟨_,rfl⟩
theorem qJ:yw X (.type "int") (fun xs H Q=>(∃i,xs=[.int i]/\Q (.int i) H) \/∃k,xs=[.bl k]/\Q (.int (if k then 1 else 0)) H):=by
 intro pins s U H xs us Q I r h;rcases h with⟨i,rfl,q⟩ | ⟨k,rfl,q⟩
 ·obtain⟨u,rfl,t,rfl⟩:=zW r;exact call_int_int ⟨.int i,H,I,⟨_,rfl⟩,q⟩
 ·obtain⟨u,rfl,r1⟩:=zW r;cases r1;exact call_int_bool ⟨.int (if k then 1 else 0),H,I.tok _,⟨_,rfl⟩,q⟩
theorem kq:yw X (.type "str") (fun xs H Q=>∃i,xs=[.int i]/\i.natAbs.log2 < 1920/\Q (.str (toString i)) H):=by
 intro pins s U H xs us Q I r h;obtain⟨i,rfl,hz,q⟩:=h;obtain⟨u,rfl,t,rfl⟩:=zW r;exact PySem.P.str_of_int hz ⟨.str _,H,I.tok _,⟨_,rfl⟩,q⟩
end
structure ObjM (h:Heap) (x dx C:Addr) (mA:Str->Option Value):Prop where
 obj:h.get? x=some (PySem.W.instObj C dx)
 ns:h.Ns1 dx mA
 ne:dx≠x
theorem Gr{h:Heap}{dx:Addr}{mA:Str->Option Value}(n:h.Ns1 dx mA):∃od,h.get? dx=some od/\∀name,PySem.W.lookIn name od=some (mA name):=by
 obtain⟨o,es,ep,ho,hd,hk,_,hm⟩:=n;refine⟨o,ho,fun name=>?_⟩;have e:=hm name;unfold nsFind findBy at e;rw[<-Array.find?_toList]at e;unfold PySem.W.lookIn;rw[hd];dsimp only;split
 ·rename_i y q;rw[q]at e;exact congrArg some e
 ·rename_i q;rw[q]at e;have a:es.toList.any (·.refKey)=false:=by
   rw[List.any_eq_false];intro y hy;obtain⟨z,t,hkey⟩:=hk y (Array.mem_toList_iff.mp hy);simp[DictEntry.refKey,hkey]
  have a':¬es.toList.any (·.refKey)=true:=by rw[a];exact vNa
  rw[if_neg a'];exact congrArg some e
theorem ObjM.look{h:Heap}{x dx C:Addr}{mA:Str->Option Value}(I:ObjM h x dx C mA):∃od,PySem.W.InstAt h x (PySem.W.instObj C dx) C (some od)/\∀name,PySem.W.lookIn name od=some (mA name):=
 let ⟨od,ho,hl⟩:=Gr I.ns
 ⟨od,⟨I.obj,rfl,rfl,ho⟩,hl⟩
section
variable {prog:Program} {w:World} {A:Around} {E:Value->Shared->Prop} {s:Shared} {K:PySem.W.Frag} {x dx C f:Addr} {mA:Str->Option Value} {name:Str} {v:Value}
theorem Aq{expr:Bool}{Q:Value->Shared->Prop}(X:K.In s.heap)(I:ObjM s.heap x dx C mA)(hg:PySem.W.plainGet K C name=true)(hh:PySem.W.hasDictIn K C=true)
  (ha:PySem.W.findIn K (.ref C) name=some none) (hv:mA name=some v) (hv':PySem.W.handedIn v=true) (h:Q v { s with toks:=s.toks+1 }):
  wpAny (model prog w) A (getAttr (.ref x) name expr) Q E s:=by
 obtain⟨od,J,hl⟩:=I.look;exact PySem.W.get_value X J (PySem.W.plainGet_of hg).1 (PySem.W.findObj_own hh ha rfl (by rw[hl,hv])) hv' h
theorem Q_{pl:Sem Bool}{Q:Value×List Value->Shared->Prop}(X:K.In s.heap)(I:ObjM s.heap x dx C mA)(hg:PySem.W.plainGet K C name=true)
  (hf:PySem.W.findIn K (.ref C) name=some (some (.ref f))) (ht:PySem.W.isFn K (.ref f)=true) (hv:mA name=none) (h:Q (.ref f,[.ref x]) s):
  wpAny (model prog w) A (getMethod (.ref x) name pl) Q E s:=by
 obtain⟨od,J,hl⟩:=I.look;exact PySem.W.method_fn X J (PySem.W.plainGet_of hg).1 (PySem.W.plainGet_of hg).2 hf (beq_iff_eq.mp ht) (by show(PySem.W.lookIn name od).map (·.isSome)=some false;rw[hl,hv];rfl) h
theorem Ar{ns:List Str}{Q:Unit->Shared->Prop}(X:K.In s.heap)(I:ObjM s.heap x dx C mA)
  (hs:PySem.W.findIn K (.ref C) "__setattr__" = some (some (.builtin "object.__setattr__"))) (hp:PySem.W.plainOver K C=true) (ht:PySem.W.takerIn K C name=some none) (hh:PySem.W.hasDictIn K C=true)
  (hw:PySem.Within mA ns) (hsz:ns.length<=sizeLine)
  (h:∀h',ObjM h' x dx C (fun y=>if y=name then some v else mA y)->Heap.SameBut dx s.heap h'->Q () { s with heap:=h',toks:=s.toks+2 }):
  wpAny (model prog w) A (setAttr (.ref x) name v) Q E s:=by
 obtain⟨od,J,hl⟩:=I.look;refine PySem.W.set_plain X J hs (PySem.W.osa_open (s:={ s with toks:=s.toks+1 }) (r:=none) X J hp ht fun b=>?_);obtain⟨cd,hc,hd'⟩:=PySem.W.any_some hh;have hx:s.heap.get? x=some ⟨.ref C,some dx,.plain,#[]⟩:=I.obj;refine wAa (wBa (wAa (wAa (wpAny_loadPart hx (wAa (PySem.W.Looks.here (s:={ s with toks:=s.toks+1 }) (PySem.W.looks_clsIn X hc) ?_))))));rw[hd'];refine wBa (a:=some dx) (wAa (wBa (wAa ?_)));refine wpAny_nsSet1 (s:={ s with toks:=s.toks+1 }) I.ns fun h' hn2 hs2=>?_;obtain⟨oD,esD,epD,hoD,hdD,hcD⟩:=hn2.count (PySem.Within.cons name v hw);refine wAa (wpAny_lookBehind hoD (by rw[hdD];exact pastItsLine_dict (wSa hcD (by rw[List.length_cons];omega))) ?_);exact wBa (h _ ⟨(hs2.2 _ (Ne.symm I.ne)).trans I.obj,hn2,I.ne⟩ hs2)
theorem kr{R:Result->Shared->Prop}{vs:List Value}{kw:List (Str×Value)}(X:K.In s.heap)(hm:PySem.W.makesIn K C=true)
  (hi:PySem.W.findIn K (.ref C) "__init__" = some (some (.ref f))) (hf:PySem.W.typeIn K (.ref f)=some (.type "function"))
  (h:codeAny (model prog w) (A.under (.builtin "type.__call__" ⟨.ref C::vs,kw⟩)) (.call (.ref f) ⟨.ref (s.heap.objs.size+1)::vs,kw⟩) (PySem.W.InitBack (s.heap.objs.size+1) R)
   { s with heap:=(s.heap.push PySem.W.emptyDict).push (PySem.W.instObj C s.heap.objs.size) }):
  codeAny (model prog w) A (.call (.ref C) ⟨vs,kw⟩) R s:=by
 obtain⟨hh,g,d,t,os⟩:=s;exact PySem.W.make_core (PySem.W.makes_of X hm) (PySem.W.looks_findIn X hi) (fun self=>PySem.W.bind_fn X self hf) (.inl rfl) h
end
noncomputable def yq(f:Str)(v:V):List (Str×V)->List (Str×V)
 | []=>[(f,v)]
 | (g,x)::r=>if g=f then(g,v)::r else(g,x)::yq f v r
theorem uG(f g:Str)(v:V):∀fs:List (Str×V),(yq f v fs).lookup g=if g=f then some v else fs.lookup g
 | []=>by
  show List.lookup g [(f,v)]=_;by_cases h:g=f
  ·have hb:(g==f)=true:=beq_iff_eq.mpr h;simp only[List.lookup,hb,if_pos h]
  ·have hb:(g==f)=false:=beq_eq_false_iff_ne.mpr h;simp only[List.lookup,hb,if_neg h]
 | (k,x)::r=>by
  have ih:=uG f g v r;rw[show yq f v ((k,x)::r)=(if k=f then(k,v)::r else(k,x)::yq f v r) from rfl];by_cases hk:k=f
  ·rw[if_pos hk];by_cases h:g=k
   ·have hb:(g==k)=true:=beq_iff_eq.mpr h;simp only[List.lookup,hb,if_pos (h.trans hk)]
   ·have hb:(g==k)=false:=beq_eq_false_iff_ne.mpr h;simp only[List.lookup,hb,if_neg (fun e:g=f=>h (e.trans hk.symm))]
  ·rw[if_neg hk];by_cases h:g=k
   ·have hb:(g==k)=true:=beq_iff_eq.mpr h;simp only[List.lookup,hb,if_neg (fun e:g=f=>hk (h.symm.trans e))]
   ·have hb:(g==k)=false:=beq_eq_false_iff_ne.mpr h;simp only[List.lookup,hb];exact ih
theorem VB(f:Str)(v:V):∀fs:List (Str×V),f∈(yq f v fs).map (·.1)/\∀g,g∈fs.map (·.1)->g∈(yq f v fs).map (·.1)
 | []=>⟨by simp[yq],fun g h=>by simp at h⟩
 | (k,x)::r=>by
  obtain⟨i1,i2⟩:=VB f v r;rw[show yq f v ((k,x)::r)=(if k=f then(k,v)::r else(k,x)::yq f v r) from rfl];by_cases hk:k=f
  ·rw[if_pos hk];subst hk;exact⟨by simp,fun g h=>by simpa using h⟩
  ·rw[if_neg hk];refine⟨?_,fun g h=>?_⟩
   ·rw[List.map_cons];exact wMa _ i1
   ·rw[List.map_cons]at h⊢;rcases List.mem_cons.mp h with e | e
    ·exact List.mem_cons.mpr (.inl e)
    ·exact wMa _ (i2 g e)
theorem uH(f:Str)(v:V):∀fs:List (Str×V),(yq f v fs).length<=fs.length+1
 | []=>by simp[yq]
 | (k,x)::r=>by
  have ih:=uH f v r;rw[show yq f v ((k,x)::r)=(if k=f then(k,v)::r else(k,x)::yq f v r) from rfl];by_cases hk:k=f
  ·rw[if_pos hk,List.length_cons,List.length_cons];omega
  ·rw[if_neg hk,List.length_cons,List.length_cons];omega
theorem ZY.some_of{v:V}{o:Option Value}(r:ZY (some v) o):∃u,o=some u/\jq v u:=by
 cases o with
 | none=>exact(show False from r).elim
 | some u=>exact⟨u,rfl,r⟩
theorem ZY.none_of{o:Option Value}(r:ZY none o):o=none:=by
 cases o with
 | none=>rfl
 | some u=>exact(show False from r).elim
theorem qK{v:V}{u:Value}(r:jq v u):PySem.W.handedIn u=true:=by
 cases v with
 | non=>cases (show u=Value.none from r);rfl
 | bl b=>cases (show u=Value.bool b from r);rfl
 | int i=>obtain⟨t,e⟩:=(show∃t,u=Value.int i t from r);cases e;rfl
 | str x=>obtain⟨t,e⟩:=(show∃t,u=Value.str x t from r);cases e;rfl
 | byt b=>obtain⟨t,e⟩:=(show∃t,u=Value.bytes b t from r);cases e;rfl
 | flt b=>obtain⟨t,e⟩:=(show∃t,u=Value.float b t from r);cases e;rfl
 | ref a=>cases (show u=Value.ref a from r);rfl
 | ty n=>cases (show u=Value.type n from r);rfl
section
variable {P:Program} {w:World} {H H':Hp} {h h':Heap} {a C dx:Addr} {fs fs':List (Str×V)}
theorem gz(hok:JG P w H h)(e:H a=some (.ins C dx fs)):∃mA,ObjM h a dx C mA/\(∀f,ZY (fs.lookup f) (mA f))/\PySem.Within mA (fs.map (·.1))/\fs.length<=1000/\H dx=some (.own a):=by
 obtain⟨d,z,ne,ob,mA,n,r,q⟩:=(show Jb P w H h a (.ins C dx fs) from hok a _ e)
 exact⟨mA,⟨ob,n,ne⟩,r,q,z,d⟩
end
structure Cls (K:PySem.W.Frag) (C:Addr):Prop where
 pg:PySem.W.plainGet K C Str.empty=true
 hd:PySem.W.hasDictIn K C=true
 po:PySem.W.plainOver K C=true
 sa:PySem.W.findIn K (.ref C) "__setattr__" = some (some (.builtin "object.__setattr__"))
theorem Cls.get{K:PySem.W.Frag}{C:Addr}(c:Cls K C)(f:Str):PySem.W.plainGet K C f=true:=c.pg
def yC(K:PySem.W.Frag)(C:Addr)(f:Str):Prop:=PySem.W.findIn K (.ref C) f=some none
theorem yC.taker{K:PySem.W.Frag}{C:Addr}{f:Str}(n:yC K C f):PySem.W.takerIn K C f=some none:=by
 unfold PySem.W.takerIn;rw[show PySem.W.findIn K (.ref C) f=some none from n];rfl
structure Meth (K:PySem.W.Frag) (C:Addr) (m:Str) (f:Addr):Prop where
 at_:PySem.W.findIn K (.ref C) m=some (some (.ref f))
 fn:PySem.W.isFn K (.ref f)=true
 kp:PySem.W.keepIn K (.ref f)=true
section
variable {X:Cx} {pins:List (Addr×Obj)} {U:St} {H:Hp} {s:Shared} {a C dx:Addr} {fs:List (Str×V)} {f:Str} {v:V} {A:Around} {E:Value->Shared->Prop}
theorem Wq{b:Bool}{Q:Value->Shared->Prop}(I:Inv X pins U H s)(e:H a=some (.ins C dx fs))(c:Cls X.K C)(n:yC X.K C f)(l:fs.lookup f=some v)
  (h:∀u s',Inv X pins U H s'->jq v u->Q u s'):wpAny (model X.prog X.w) A (getAttr (.ref a) f b) Q E s:=by
 obtain⟨mA,O,r,_,_,_⟩:=gz I.hok e;obtain⟨u,hu,ru⟩:=ZY.some_of (v:=v) (o:=mA f) (by rw[<-l];exact r f);exact Aq I.kIn O (c.get f) c.hd n hu (qK ru) (h u _ (I.tok _) ru)
theorem Wr{m:Str}{g:Addr}{pl:Sem Bool}{Q:Value×List Value->Shared->Prop}(I:Inv X pins U H s)(e:H a=some (.ins C dx fs))(c:Cls X.K C)(k:Meth X.K C m g)(l:fs.lookup m=none)
  (h:Q (.ref g,[.ref a]) s):wpAny (model X.prog X.w) A (getMethod (.ref a) m pl) Q E s:=by
 obtain⟨mA,O,r,_,_,_⟩:=gz I.hok e;have hn:mA m=none:=ZY.none_of (by rw[<-l];exact r m);exact Q_ I.kIn O (c.get m) k.at_ k.fn hn h
theorem Ws{y:V}{u:Value}{Q:Unit->Shared->Prop}(I:Inv X pins U H s)(e:H a=some (.ins C dx fs))(c:Cls X.K C)(n:yC X.K C f)(hl:fs.length < 1000)(ry:jq y u)
  (h:∀s',Inv X pins U (upd H a (.ins C dx (yq f y fs))) s'->Q () s'):wpAny (model X.prog X.w) A (setAttr (.ref a) f u) Q E s:=by
 obtain⟨mA,O,r,wi,_,ho⟩:=gz I.hok e;have hz:(fs.map (·.1)).length<=sizeLine:=by rw[List.length_map,sizeLine_eq];omega
 refine Ar I.kIn O c.sa c.po n.taker c.hd wi hz fun h' O' sb=>h _ ?_;have hd:∃o,h'.get? dx=some o:=let ⟨o,_,_,e',_⟩:=O'.ns;⟨o,e'⟩
 refine I.write (x:=a) (e:=dx) (by rw[e];exact True.intro) (.inr ho) (fun b q hb z=>(sb.2 b hb).trans z) hd ?_;refine⟨by rw[je O.ne];exact ho,?_,O.ne,O'.obj,_,O'.ns,fun g=>?_,fun g hg=>?_⟩
 ·have:=uH f y fs;omega
 ·show ZY ((yq f y fs).lookup g) (if g=f then some u else mA g);rw[uG];by_cases q:g=f
  ·rw[if_pos q,if_pos q];exact ry
  ·rw[if_neg q,if_neg q];exact r g
 ·by_cases q:g=f
  ·rw[q];exact(VB f y fs).1
  ·refine(VB f y fs).2 g (wi g fun z=>hg ?_);show(if g=f then some u else mA g)=none;rw[if_neg q];exact z
theorem Inv.made(I:Inv X pins U H s):Inv X pins U (upd (upd H s.heap.objs.size (.own (s.heap.objs.size+1))) (s.heap.objs.size+1) (.ins C s.heap.objs.size []))
  { s with heap:=(s.heap.push PySem.W.emptyDict).push (PySem.W.instObj C s.heap.objs.size) }:=by
 have e1:(s.heap.push PySem.W.emptyDict).get? s.heap.objs.size=some PySem.W.emptyDict:=wJa s.heap rfl;have e2:((s.heap.push PySem.W.emptyDict).push (PySem.W.instObj C s.heap.objs.size)).get? (s.heap.objs.size+1)=some (PySem.W.instObj C s.heap.objs.size):=by
  have:=wJa (s.heap.push PySem.W.emptyDict) (o:=PySem.W.instObj C s.heap.objs.size) rfl;rwa [Heap.size_push]at this
 have e3:(s.heap.push PySem.W.emptyDict).Ns s.heap.objs.size (fun _=>none):=⟨PySem.W.emptyDict,#[],_,e1,rfl,(fun e he=>vDa he (by simp)),fun _=>rfl⟩
 have I1:=I.laid (a:=s.heap.objs.size) (o:=.own (s.heap.objs.size+1)) (h':=s.heap.push PySem.W.emptyDict) (t':=s.toks) (fun b u q=>wIa _ q) (wPa _) ⟨_,e1⟩;refine I1.laid (a:=s.heap.objs.size+1) (o:=.ins C s.heap.objs.size []) (t':=s.toks) (fun b u q=>wIa _ q) (Nat.le_of_eq (Heap.size_push _ _)) ?_;have ne:s.heap.objs.size≠s.heap.objs.size+1:=wTa (Nat.lt_succ_self _);refine⟨by rw[je ne,ju],Nat.zero_le _,ne,e2,fun _=>none,(Heap.Ns1.of_empty e3).at fun o q=>wIa _ q,fun _=>True.intro,fun y hy=>vDa rfl hy⟩
theorem YV{prog:Program}{w:World}{env:Env}{e:Expr}{f:Str}{pos:Pos}{s:Shared}{Q:Value->Shared->Prop}(hb:attributeBase e f env (eval e env)=eval e env)
  (h:wpAny (model prog w) A (eval e env) (fun o s₁=>wpAny (model prog w) A (getAttr o f true) Q E s₁) E s):wpAny (model prog w) A (eval (.Attribute e f pos) env) Q E s:=
 Attribute_any_ h (by rw[arm_eval_Attribute,hb])
end
def Ht(K:PySem.W.Frag)(ta:TE)(f:Str):TE:=fun U H Q=>ta U H fun x H1=>∃a C dx fs v,x=.ref a/\H1 a=some (.ins C dx fs)/\Cls K C/\yC K C f/\fs.lookup f=some v/\Q v H1
def BG(K:PySem.W.Frag)(ta tv:TE)(f:Str):TS:=fun D U H=>tv U H fun y H1=>ta U H1 fun x H2=>∃a C dx fs,x=.ref a/\H2 a=some (.ins C dx fs)/\Cls K C/\yC K C f/\fs.length < 1000/\
 D.nx U (upd H2 a (.ins C dx (yq f y fs)))
section
variable {X:Cx} {o e value:Expr} {f:Str} {pos pos' tpos:Pos} {ta tv:TE}
theorem BH(he:PE X e ta)(hb:attributeBase e f X.env (eval e X.env)=eval e X.env):PE X (.Attribute e f pos) (Ht X.K ta f):=by
 intro pins s U H Q I h;refine YV hb (ji (he pins s U H _ I h) fun u s1 ⟨x,H1,I1,rx,a,C,dx,fs,v,ex,ea,c,n,l,q⟩=>?_);subst ex;obtain rfl:u=Value.ref a:=rx;exact Wq I1 ea c n l fun u' s2 I2 ru=>⟨v,H1,I2,ru,q⟩
theorem BI(ha:PE X o ta)(hv:PE X value tv)(hs:swapsWith value (some (.Attribute o f pos')) pos.line X.env=pure false):PS X (.Assign [.Attribute o f pos'] value pos) (BG X.K ta tv f):=by
 intro pins s U H D I h;refine plainObj_wpAny_Assign_Attribute (ji (hv pins s U H _ I h) fun u s1 ⟨y,H1,I1,ry,q⟩=>ji (ha pins s1 U H1 _ I1 q) fun ov s2 ⟨x,H2,I2,rx,a,C,dx,fs,ex,ea,c,n,l,q2⟩=>?_) hs;subst ex;obtain rfl:ov=Value.ref a:=rx;exact Ws I2 ea c n l ry fun s3 I3=>⟨U,_,I3,q2⟩
end
structure Room (k:Nat) (A:Around):Prop where
 hd:A.handled=none
 dp:A.depth+3 * k+5 < recursionLimit
 un:A.units+16 * k+200 < cLine
theorem Room.mono{j k:Nat}{A:Around}(r:Room k A)(h:j<=k):Room j A:=⟨r.hd,by have:=r.dp;omega,by have:=r.un;omega⟩
theorem Room.deeper{k:Nat}{A:Around}(r:Room (k+1) A)(env:Env):Room k (A.deeper env):=
 ⟨r.hd,by have:=r.dp;show A.depth+1+3 * k+5 < _;omega,by have:=r.un;show A.units+3+16 * k+200 < _;omega⟩
theorem Wt{A:Around}{C:Addr}{us:List Value}{kw:List (Str×Value)}:(A.under (.builtin "type.__call__" ⟨.ref C::us,kw⟩)).depth=A.depth+1:=by
 first | rfl | simp[Around.under,Code.weight,Code.isCreation,Code.isGuard,Code.isCaller,Code.frames,Code.isFrame,guardIds]
theorem Wu{A:Around}{C:Addr}{us:List Value}{kw:List (Str×Value)}:(A.under (.builtin "type.__call__" ⟨.ref C::us,kw⟩)).units=A.units+1:=by
 first | rfl | simp[Around.under,Code.cUnits,Code.frames,Code.isFrame]
theorem Room.make{k:Nat}{A:Around}(r:Room (k+1) A)(C:Addr)(us:List Value)(kw:List (Str×Value)):Room k (A.under (.builtin "type.__call__" ⟨.ref C::us,kw⟩)):=
 ⟨r.hd,by have:=r.dp;rw[Wt];omega,by have:=r.un;rw[Wu];omega⟩
theorem Room.depth{k:Nat}{A:Around}(r:Room k A):A.depth < recursionLimit:=by have:=r.dp;omega
theorem Room.units{k:Nat}{A:Around}(r:Room k A):A.units+64 < cLine:=by have:=r.un;omega
def Y0:TA:=fun _ H Q=>Q [] H
def Jk(ta:TE)(tr:TA):TA:=fun U H Q=>ta U H fun x H1=>tr U H1 fun xs H2=>Q (x::xs) H2
section
variable {X:Cx} {e:Expr} {es:List Expr} {te:TE} {t:TA} {pos:Pos}
theorem jU:PA X [] Y0:=fun _ _ _ _ H Q I h=>Calls.spliced_nil ⟨[],H,I,.nil,h⟩
theorem jx(ha:PE X e te)(hr:PA X es t)(hs:starEach (e::es) X.env=(false,eval e X.env)::starEach es X.env:=by rfl):PA X (e::es) (Jk te t):=by
 intro pos pins s U H Q I h;rw[hs];show wpAny _ _ (spliced ((false,eval e X.env)::backTo pos (starEach es X.env))) _ _ s;refine Calls.spliced_cons (ji (ha pins s U H _ I h) fun u s1 ⟨x,H1,I1,r1,q1⟩=>?_);exact ji (hr pos pins s1 U H1 _ I1 q1) fun us s2 ⟨xs,H2,I2,r2,q2⟩=>⟨x::xs,H2,I2,.cons r1 r2,q2⟩
def Hu(t:TA):TE:=fun U H Q=>t U H fun xs H1=>xs.length<=sizeLine/\∀p,H1 p=none->Q (.ref p) (upd H1 p (.tup xs))
def BJ(t:TA):TE:=fun U H Q=>t U H fun xs H1=>xs.length<=sizeLine/\∀p,H1 p=none->Q (.ref p) (upd H1 p (.lst xs))
theorem BK{x1}(h:PA X es t):PE X (.Tuple es x1 pos) (Hu t):=by
 intro pins s U H Q I hq;refine wpAny_Tuple_spliced (ji (h pos pins s U H _ I hq) fun us s1 ⟨xs,H1,I1,r,z,q⟩=>⟨by rw[<-r.length];exact z,?_⟩);have hf:H1 s1.heap.objs.size=none:=I1.hok.fresh (wPa _);refine⟨.ref s1.heap.objs.size,upd H1 s1.heap.objs.size (.tup xs),I1.laid (t':=s1.toks) (fun b u e=>wIa _ e) (wPa _) ?_,rfl,q _ hf⟩;exact⟨z,us,r,⟨_,wJa _ rfl,rfl,_,rfl⟩⟩
theorem ku(h:PA X es t):PE X (.List es pos) (BJ t):=by
 intro pins s U H Q I hq;refine wpAny_List_spliced (ji (h pos pins s U H _ I hq) fun us s1 ⟨xs,H1,I1,r,z,q⟩=>⟨by rw[<-r.length];exact z,?_⟩);have hf:H1 s1.heap.objs.size=none:=I1.hok.fresh (wPa _);refine⟨.ref s1.heap.objs.size,upd H1 s1.heap.objs.size (.lst xs),I1.laid (t':=s1.toks) (fun b u e=>wIa _ e) (wPa _) ?_,rfl,q _ hf⟩;exact⟨z,us,0,r,wJa _ rfl⟩
end
noncomputable abbrev Sp:=List V->Hp->VK->XK->Prop
noncomputable abbrev Vh:=List Env->Hp->Shared->XK->Value->Shared->Prop
structure Env0 (P:Program) (w:World) (K:PySem.W.Frag) (mg:Str->Option Value) (base:Heap) (A:Around) (outer:List Env) (s:Shared) (H:Hp):Prop where
 frames:A.frames=some outer
 mod:Mod K mg base
 bs:∀b o,base.get? b=some o->s.heap.get? b=some o/\H b=none
 bsz:base.objs.size<=s.heap.objs.size
 funs:s.heap.FunFrames base outer
 frf:∀b∈J8 outer,H b=none
 hok:JG P w H s.heap
 bare:AllBare s.gens
def CE(outer:List Env)(P:Program)(w:World)(H:Hp)(s:Shared)(Q:VK)(u:Value)(s':Shared):Prop:=
 ∃v H',s'.os=s.os/\AllBare s'.gens/\Un (J8 outer) [] H H' s.heap s'.heap/\JG P w H' s'.heap/\jq v u/\Q v H'
def CR(CX:Vh)(outer:List Env)(P:Program)(w:World)(H:Hp)(s:Shared)(Q:VK)(E:XK)(r:Result)(s':Shared):Prop:=
 match r with
 | .ok (.ret u)=>CE outer P w H s Q u s'
 | .ok _=>False
 | .error e=>CX outer H s E e s'
structure FnOk (P:Program) (w:World) (K:PySem.W.Frag) (mg:Str->Option Value) (base:Heap) (CX:Vh) (k:Nat) (f:Addr) (fd:FuncData) (ps:List Str) (sp:Sp):Prop where
 len:∀vs H Q E,sp vs H Q E->vs.length=ps.length
 run:∀(A:Around) (outer:List Env) (s:Shared) (H:Hp) (args:Args) (us:List Value) (vs:List V) (Q:VK) (E:XK),Room k A->Env0 P w K mg base A outer s H->BindsTo s fd args (ps.zip us)->jg vs us->sp vs H Q E->
  codeAny (model P w) A (.call (.ref f) args) (CR CX outer P w H s Q E) s
theorem FnOk.imp{P:Program}{w:World}{K:PySem.W.Frag}{mg:Str->Option Value}{base:Heap}{CX:Vh}{k:Nat}{f:Addr}{fd:FuncData}{ps:List Str}{sp sp':Sp}(F:FnOk P w K mg base CX k f fd ps sp)
  (h:∀vs H Q E,sp' vs H Q E->sp vs H Q E):FnOk P w K mg base CX k f fd ps sp':=
 ⟨fun vs H Q E q=>F.len vs H Q E (h _ _ _ _ q),fun A outer s H args us vs Q E hr he hb hv hs=>F.run A outer s H args us vs Q E hr he hb hv (h _ _ _ _ hs)⟩
theorem Env0.make{P:Program}{w:World}{K:PySem.W.Frag}{mg:Str->Option Value}{base:Heap}{A:Around}{outer:List Env}{s:Shared}{H:Hp}(e:Env0 P w K mg base A outer s H)(C:Addr)(us:List Value)(kw:List (Str×Value)):
  Env0 P w K mg base (A.under (.builtin "type.__call__" ⟨.ref C::us,kw⟩)) outer s H:=⟨by first | exact e.frames | (simpa[Around.under,Code.envs,Code.isFrame,pushEnvs]using e.frames),e.mod,e.bs,e.bsz,e.funs,e.frf,e.hok,e.bare⟩
section
variable {X:Cx} {pins:List (Addr×Obj)} {U:St} {H:Hp} {s s':Shared}
theorem Inv.env0(I:Inv X pins U H s):Env0 X.prog X.w X.K X.mg X.base X.A X.stack s H:=
 ⟨I.ok.frames,I.ok.mod,I.bs,wSa I.ok.bsz I.sz,I.stack,I.stkFree,I.hok,I.bare⟩
theorem Inv.after{Q:VK}{u:Value}(I:Inv X pins U H s)(h:CE X.stack X.prog X.w H s Q u s'):EP X pins U Q u s':=by
 obtain⟨v,H',os,bare,un,hok,r,q⟩:=h;obtain⟨hh,g,d,t,os'⟩:=s';obtain rfl:os'=s.os:=os;exact⟨v,H',I.call (h':=hh) (g':=g) (d':=d) (t':=t) (ch:=[]) un hok bare (fun b z=>vDa z (by simp)),r,q⟩
end
def Wv(sp:Sp)(dvs:List V)(E:XK)(t:TA):TE:=fun U H Q=>t U H fun vs H1=>sp (vs++dvs) H1 Q E
def XO(C:Addr)(m:Str)(sp:Sp)(dvs:List V)(E:XK)(ta:TE)(t:TA):TE:=fun U H Q=>ta U H fun x H1=>∃a dx fs,x=.ref a/\H1 a=some (.ins C dx fs)/\fs.lookup m=none/\
 t U H1 fun vs H2=>sp (x::(vs++dvs)) H2 Q E
def XQ(C:Addr)(sp:Sp)(dvs:List V)(E:XK)(t:TA):TE:=fun U H Q=>t U H fun vs H1=>∀x dx,H1 x=none->H1 dx=none->dx≠x->
 sp (.ref x::(vs++dvs)) (upd (upd H1 dx (.own x)) x (.ins C dx [])) (fun v H2=>v=.non/\Q (.ref x) H2) E
def Js(K:PySem.W.Frag)(fd:FuncData)(ps:List Str)(ds:List Value):Prop:=
 ∀(s:Shared) (us:List Value),K.In s.heap->(us++ds).length=ps.length->BindsTo s fd ⟨us,[]⟩ (ps.zip (us++ds))
theorem Js.all{K:PySem.W.Frag}{fd:FuncData}{ps:List Str}(h:∀us:List Value,us.length=ps.length->bindArgs fd ⟨us,[]⟩=pure (ps.zip us)):Js K fd ps []:=fun s us _ hl=>by
 rw[List.append_nil]at hl⊢;exact .of_eq (h us hl)
def vA(CX:Vh)(X:Cx)(E:XK):Prop:=∀(pins:List (Addr×Obj)) (U:St) (H:Hp) (s:Shared) (e:Value) (s':Shared),Inv X pins U H s->CX X.stack H s E e s'->X.xe e s'
section
variable {X:Cx} {CX:Vh} {k:Nat} {f C:Addr} {fd:FuncData} {ps:List Str} {sp:Sp} {dvs:List V} {ds:List Value} {E:XK} {x m:Str} {p pos apos:Pos} {e o:Expr} {es:List Expr} {ta:TE} {t:TA}
theorem qL{pins:List (Addr×Obj)}{U:St}{H:Hp}{s:Shared}{Q:VK}{us:List Value}{vs:List V}(F:FnOk X.prog X.w X.K X.mg X.base CX k f fd ps sp)(hr:Room k X.A)(hb:Js X.K fd ps ds)(hd:jg dvs ds)(hx:vA CX X E)
  (I:Inv X pins U H s) (r:jg vs us) (h:sp (vs++dvs) H Q E):wpAny (model X.prog X.w) X.A (call (.ref f) us) (EP X pins U Q) X.xe s:=by
 have r2:jg (vs++dvs) (us++ds):=r.append hd;have hl:(us++ds).length=ps.length:=by rw[<-r2.length];exact F.len _ _ _ _ h
 refine wHa (codeAny_mono (F.run X.A X.stack s H ⟨us,[]⟩ (us++ds) (vs++dvs) Q E hr I.env0 (hb s us I.kIn hl) r2 h) fun r s' hq=>?_);cases r with
 | error e=>exact hx pins U H s e s' I hq
 | ok fl=>
  cases fl with
  | ret u=>exact I.after hq
  | next=>exact False.elim hq
  | brk=>exact False.elim hq
  | cont=>exact False.elim hq
theorem As(F:FnOk X.prog X.w X.K X.mg X.base CX k f fd ps sp)(hr:Room k X.A)(hg:Gl X x)(hm:X.mg x=some (.ref f))(hk:PySem.W.keepIn X.K (.ref f)=true)(hb:Js X.K fd ps ds)(hd:jg dvs ds)(hx:vA CX X E)
  (ha:PA X (e::es) t) (hdb:(x==("__debug__" : Str))=false:=by decide) (he:starEach (e::es) X.env=(false,eval e X.env)::starEach es X.env:=by rfl) (hpl:(backTo pos (starEach es X.env)).any (·.1)=false:=by rfl):
  PE X (.Call (.Name x p) (e::es) [] pos) (Wv sp dvs E t):=by
 intro pins s U H Q I h;refine wpAny_Call_Name_kw (yL I hg hm ?_ hdb);refine PySem.W.callWith_K (h₀:=X.base) I.ok.mod.kin hk (ji (ha pos pins s U H _ I h) fun us s1 ⟨vs,H1,I1,r,q⟩=>⟨I1.kIn,?_⟩) he hpl;exact qL F hr hb hd hx I1 r q
theorem xa{pl:Sem Bool}(he:PE X o ta)(c:Cls X.K C)(hm:Meth X.K C m f)(F:FnOk X.prog X.w X.K X.mg X.base CX k f fd ps sp)(hr:Room k X.A)(hb:Js X.K fd ps ds)(hd:jg dvs ds)(hx:vA CX X E)
  (ht:eval (.Call (.Attribute o m apos) [] [] pos) X.env=(do
   let ov<-eval o X.env
   standAt apos.atName
   let (f,first)<-holding [ov] (getMethod ov m pl)
   callWith pos f first (backTo pos (starEach [] X.env)) (backToKw pos (keywordEach [] X.env))):=by rfl):
  PE X (.Call (.Attribute o m apos) [] [] pos) (XO C m sp dvs E ta Y0):=by
 intro pins s U H Q I h;refine PySem.W.methodCall_KW (pl:=pl) (ji (he pins s U H _ I h) fun u s1 ⟨x,H1,I1,rx,a,dx,fs,ex,ea,l,q⟩=>?_) ht;subst ex;obtain rfl:u=Value.ref a:=rx;refine Wr I1 ea c hm l ?_;exact PySem.W.callWith_K0 (first:=[.ref a]) I1.kIn hm.kp (qL (us:=[.ref a]) (vs:=[.ref a]) F hr hb hd hx I1 (.cons rfl .nil) q)
structure Mk (K:PySem.W.Frag) (C f:Addr):Prop where
 makes:PySem.W.makesIn K C=true
 init:PySem.W.findIn K (.ref C) "__init__" = some (some (.ref f))
 fn:PySem.W.isFn K (.ref f)=true
 kp:PySem.W.keepIn K (.ref C)=true
theorem xb{pins:List (Addr×Obj)}{U:St}{H:Hp}{s:Shared}{Q:VK}{us:List Value}{vs:List V}(M:Mk X.K C f)(F:FnOk X.prog X.w X.K X.mg X.base CX k f fd ps sp)(hr:Room (k+1) X.A)(hb:Js X.K fd ps ds)(hd:jg dvs ds)
  (hx:vA CX X E) (I:Inv X pins U H s) (r:jg vs us)
  (h:∀x dx,H x=none->H dx=none->dx≠x->sp (.ref x::(vs++dvs)) (upd (upd H dx (.own x)) x (.ins C dx [])) (fun v H2=>v=.non/\Q (.ref x) H2) E):
  wpAny (model X.prog X.w) X.A (call (.ref C) us) (EP X pins U Q) X.xe s:=by
 have hq:=h (s.heap.objs.size+1) s.heap.objs.size (I.hok.fresh (vMa _)) (I.hok.fresh (wPa _)) (wTa (Nat.lt_succ_self _));have I2:=Inv.made (C:=C) I;have r2:jg (V.ref (s.heap.objs.size+1)::(vs++dvs)) (Value.ref (s.heap.objs.size+1)::(us++ds)):=.cons rfl (r.append hd);have hl:(Value.ref (s.heap.objs.size+1)::us++ds).length=ps.length:=by
  have e:=r2.length;rw[F.len _ _ _ _ hq]at e;exact e.symm
 refine wHa (kr (f:=f) I.kIn M.makes M.init (beq_iff_eq.mp M.fn) (codeAny_mono (F.run _ X.stack _ _ ⟨Value.ref (s.heap.objs.size+1)::us,[]⟩ (Value.ref (s.heap.objs.size+1)::(us++ds)) _ _ E (hr.make C us [])
  (I2.env0.make C us []) (hb _ (Value.ref (s.heap.objs.size+1)::us) I2.kIn hl) r2 hq) fun r s' hq'=>?_))
 cases r with
 | error e=>exact hx pins U _ _ e s' I2 hq'
 | ok fl=>
  cases fl with
  | ret u=>
   obtain⟨v,H',I3,rv,ev,q3⟩:=I2.after hq';subst ev;exact⟨rv,⟨V.ref (s.heap.objs.size+1),H',I3,rfl,q3⟩⟩
  | next=>exact False.elim hq'
  | brk=>exact False.elim hq'
  | cont=>exact False.elim hq'
theorem Au(M:Mk X.K C f)(F:FnOk X.prog X.w X.K X.mg X.base CX k f fd ps sp)(hr:Room (k+1) X.A)(hg:Gl X x)(hm:X.mg x=some (.ref C))(hb:Js X.K fd ps ds)(hd:jg dvs ds)(hx:vA CX X E)
  (ha:PA X (e::es) t) (hdb:(x==("__debug__" : Str))=false:=by decide) (he:starEach (e::es) X.env=(false,eval e X.env)::starEach es X.env:=by rfl) (hpl:(backTo pos (starEach es X.env)).any (·.1)=false:=by rfl):
  PE X (.Call (.Name x p) (e::es) [] pos) (XQ C sp dvs E t):=by
 intro pins s U H Q I h;refine wpAny_Call_Name_kw (yL I hg hm ?_ hdb);refine PySem.W.callWith_K (h₀:=X.base) I.ok.mod.kin M.kp (ji (ha pos pins s U H _ I h) fun us s1 ⟨vs,H1,I1,r,q⟩=>⟨I1.kIn,?_⟩) he hpl;exact xb M F hr hb hd hx I1 r q
end
structure FnScope (N P:List Str) (sc:Scope):Prop where
 kind:sc.kind=.function
 co:sc.isCoroutine=false
 gen:sc.isGenerator=false
 nd:N.Nodup
 pre:N.take P.length=P
 par:∀x∈P,sc.names.lookup x=some .local \/ sc.names.lookup x=some .cell
 nofree:∀y∈sc.names,y.2≠.free
theorem Gs{kindOf:Str->Option NameKind}{x:Str}:∀{binds:List (Str×Value)} {m:Str->Option Value},(∀v,(x,v)∉binds)->bindL kindOf binds m x=m x
 | [],_,_=>rfl
 | (n,v)::r,m,h=>by
  unfold bindL;rw[Gs fun w hw=>h w (List.mem_cons_of_mem _ hw)];split
  ·have:x≠n:=by rintro rfl;exact h v wNa
   simp[this]
  ·rfl
theorem Gu{kindOf:Str->Option NameKind}{x:Str}:∀{binds:List (Str×Value)} {m:Str->Option Value},(∀v,(x,v)∉binds)->bindC kindOf binds m x=m x
 | [],_,_=>rfl
 | (n,v)::r,m,h=>by
  unfold bindC;rw[Gu fun w hw=>h w (List.mem_cons_of_mem _ hw)];split
  ·rfl
  ·have:x≠n:=by rintro rfl;exact h v wNa
   simp[this]
theorem Gv{kindOf:Str->Option NameKind}{x:Str}{v:Value}:∀{P:List Str} {vs:List Value} {i:Nat} {m:Str->Option Value},P.Nodup->P[i]?=some x->vs[i]?=some v->kindOf x=some .local->
  bindL kindOf (P.zip vs) m x=some v
 | [],_,_,_,_,h,_,_=>by simp at h
 | _::_,[],_,_,_,_,h,_=>by simp at h
 | p::P,w::vs,0,m,nd,h1,h2,hk=>by
  simp at h1 h2;subst h1;subst h2;show bindL kindOf ((p,w)::P.zip vs) m p=_;unfold bindL;rw[Gs fun v hv=>(List.nodup_cons.mp nd).1 (List.of_mem_zip hv).1,if_pos hk];simp
 | p::P,w::vs,i+1,m,nd,h1,h2,hk=>by
  show bindL kindOf ((p,w)::P.zip vs) m x=_;unfold bindL;exact Gv (i:=i) (List.nodup_cons.mp nd).2 (by simpa using h1) (by simpa using h2) hk
theorem Gw{kindOf:Str->Option NameKind}{x:Str}{v:Value}:∀{P:List Str} {vs:List Value} {i:Nat} {m:Str->Option Value},P.Nodup->P[i]?=some x->vs[i]?=some v->kindOf x≠some .local->
  bindC kindOf (P.zip vs) m x=some v
 | [],_,_,_,_,h,_,_=>by simp at h
 | _::_,[],_,_,_,_,h,_=>by simp at h
 | p::P,w::vs,0,m,nd,h1,h2,hk=>by
  simp at h1 h2;subst h1;subst h2;show bindC kindOf ((p,w)::P.zip vs) m p=_;unfold bindC;rw[Gu fun v hv=>(List.nodup_cons.mp nd).1 (List.of_mem_zip hv).1,if_neg hk];simp
 | p::P,w::vs,i+1,m,nd,h1,h2,hk=>by
  show bindC kindOf ((p,w)::P.zip vs) m x=_;unfold bindC;exact Gw (i:=i) (List.nodup_cons.mp nd).2 (by simpa using h1) (by simpa using h2) hk
noncomputable def start(N:List Str)(vs:List V):St:=vs.map some++List.replicate (N.length - vs.length) none
noncomputable def jP(CX:Vh)(P:Program)(w:World)(K:PySem.W.Frag)(mg:Str->Option Value)(base:Heap)(N:List Str)(qual:Str)(scope:Scope)(f:Addr)(cd:Value)(A:Around)(outer:List Env)(s:Shared)(H:Hp)(E:XK):Cx where
 prog:=P
 w:=w
 K:=K
 mg:=mg
 base:=base
 A:=A.deeper (envOfC qual scope s.heap.objs.size f cd)
 N:=N
 s₀:=s
 H₀:=H
 env:=envOfC qual scope s.heap.objs.size f cd
 outer:=outer
 stack:=envOfC qual scope s.heap.objs.size f cd::outer
 ex:=[]
 calm:=true
 fn:=fun _=>true
 pn:=[]
 xe:=fun e s'=>wpAny (model P w) (A.deeper (envOfC qual scope s.heap.objs.size f cd)) (leaving (envOfC qual scope s.heap.objs.size f cd) e) (fun _ s''=>CX outer H s E e s'') (fun e' s''=>CX outer H s E e' s'') s'
theorem kv{sc:Scope}{n:Nat}{x:Str}(h:sc.names.lookup x=some .cell):∃c,(cellsFrom n sc.names []).lookup x=some c:=by
 have q:=PySem.W.cellsFrom_some sc.names n [] (.inl h);exact Option.isSome_iff_exists.mp q
theorem qM{CX:Vh}{P:Program}{w:World}{K:PySem.W.Frag}{mg:Str->Option Value}{base:Heap}{N ps:List Str}{qual:Str}{scope:Scope}{f:Addr}{cd:Value}{A:Around}{outer:List Env}{s s1:Shared}{H:Hp}{E:XK}{us:List Value}{vs:List V}
  (S:FnScope N ps scope) (hd:A.handled=none) (e0:Env0 P w K mg base A outer s H) (hl:vs.length=ps.length) (r:jg vs us)
  (x:InCallC s s.heap.objs.size (bindL (envOfC qual scope s.heap.objs.size f cd).kindOf (ps.zip us) fun _=>none) (cellsFrom (s.heap.objs.size+1) scope.names []) (bindC (envOfC qual scope s.heap.objs.size f cd).kindOf (ps.zip us) fun _=>none) s1):
  Inv (jP CX P w K mg base N qual scope f cd A outer s H E) [] (start N vs) H s1:=by
 have hpl:ps.length<=N.length:=by have:=congrArg List.length S.pre;rw[List.length_take]at this;omega
 obtain⟨h1,tk,rfl,hk⟩:=x.done;have noA:∀b:Addr,b∉(jP CX P w K mg base N qual scope f cd A outer s H E).ex:=fun b z=>vDa (show b∈([]:List Addr) from z) (by simp);refine⟨⟨e0.mod,S.kind,rfl,rfl,wPa _,fun y z c h1 h2=>?_,fun y hy=>?_,fun y c _ h=>?_,fun _=>hd,Around.frames_deeper e0.frames,.inr ⟨rfl,rfl⟩,fun b z=>vDa z (noA b),e0.bs,e0.bsz,fun b _ _=>noA b,fun b z=>vDa z (noA b),e0.funs,e0.frf⟩,
  rfl,e0.bare,Un.kept hk,⟨_,x.toInCall.ns,fun i y v h1 h2 h3=>?_⟩,fun y c h=>⟨_,x.cell y c h⟩,e0.hok.fresh (wPa _),fun y c h=>?_,fun p hp=>vDa (show p∈([]:List (Addr×Obj)) from hp) (by simp),e0.hok.kept hk,?_⟩
 ·exact name_of_addr x.apart (PySem.mem_of_lookup h1) (PySem.mem_of_lookup h2)
 ·have hy:scope.names.lookup y=some .cell \/ scope.names.lookup y=some .free:=hy;rcases hy with hy | hy
  ·exact kv hy
  ·exact vDa rfl (S.nofree _ (PySem.mem_of_lookup hy))
 ·exact wQa (x.above y c (PySem.mem_of_lookup h))
 ·have hi:i < vs.length:=by
   unfold start at h2;by_cases hi:i < vs.length
   ·exact hi
   ·rw[List.getElem?_append_right (by simpa using hi)]at h2;rw[List.getElem?_replicate]at h2;split at h2 <;> cases h2
  have ha:vs[i]?=some v:=by
   unfold start at h2;rw[List.getElem?_append_left (by simpa using hi),List.getElem?_map]at h2;cases e:vs[i]? with
   | none=>rw[e]at h2;cases h2
   | some a=>rw[e]at h2;cases h2;rfl
  obtain⟨u,hu,rv⟩:=r.get ha;have hp:ps[i]?=some y:=by
   rw[<-S.pre,List.getElem?_take_of_lt (by omega)];exact h1
  have ndP:ps.Nodup:=by rw[<-S.pre];exact S.nd.sublist (List.take_sublist _ _)
  refine⟨u,rv,?_⟩;rcases S.par y (wYa hp)with k | k
  ·exact .inl ⟨k,Gv ndP hp hu k⟩
  ·obtain⟨c,e⟩:=kv (n:=s.heap.objs.size+1) k;refine .inr ⟨.inl k,c,e,?_⟩;have q:=x.cell y c e;rw[Gw ndP hp hu (by show scope.names.lookup y≠_;rw[k];decide)]at q;exact q
 ·exact e0.hok.fresh (wQa (x.above y c (PySem.mem_of_lookup h)))
 ·unfold start;show _=N.length;rw[List.length_append,List.length_map,List.length_replicate];omega
theorem Ww{CX:Vh}{P:Program}{w:World}{K:PySem.W.Frag}{mg:Str->Option Value}{base:Heap}{k:Nat}{f:Addr}{name qual:Str}{params:Arguments}{body:List Stmt}{scope:Scope}{dV kV doc pm cdv ct oc:Value}{an od:Option Addr}
  {osl:Array (Option Value)} {N ps:List Str} {sp:Sp} (lk:K.lookup f=some ⟨oc,od,.func (PySem.W.fnOf name qual params body scope dV kV doc pm an cdv ct),osl⟩) (hcd:PySem.W.codeIn K cdv qual=true) (S:FnScope N ps scope)
  (len:∀vs H Q E,sp vs H Q E->vs.length=ps.length)
  (hbody:∀(A:Around) (outer:List Env) (s:Shared) (H:Hp) (vs:List V) (Q:VK) (E:XK),Room k (A.deeper (envOfC qual scope s.heap.objs.size f cdv))->sp vs H Q E->
   ∃t,jr (jP CX P w K mg base N qual scope f cdv A outer s H E) body t/\t { nx:=fun _ H'=>Q .non H',rt:=Q } (start N vs) H):
  FnOk P w K mg base CX (k+1) f (PySem.W.fnOf name qual params body scope dV kV doc pm an cdv ct) ps sp:=by
 refine⟨len,fun A outer s H args us vs Q E hr e0 hb r hsp=>?_⟩;have hl:=len _ _ _ _ hsp;have KX:K.In s.heap:=e0.mod.kin.keeps fun b o e=>(e0.bs b o e).1;have lim:s.heap.NoLimit:=e0.mod.nolimit.keeps fun b o e=>(e0.bs b o e).1;have hkind:∀y∈ps.zip us,scope.names.lookup y.1=some .local \/ (scope.names.lookup y.1=some .cell/\((cellsFrom (s.heap.objs.size+1) scope.names []).lookup y.1).isSome=true):=fun⟨n,v⟩ hy=>by
  rcases S.par n (List.of_mem_zip hy).1 with q | q
  ·exact .inl q
  ·exact .inr ⟨q,PySem.W.cellsFrom_some _ _ _ (.inl q)⟩
 refine codeAny_call_function hr.depth (KX _ _ lk) rfl S.co S.gen rfl (PySem.W.codeRec_of KX hcd) (hb _ _ _ _ ?_);refine wpAny_newFunctionEnv_cells S.kind hkind fun env he s1 x=>?_;subst he;refine⟨lim.keeps x.toInCall.keep,codeAny_func ?_⟩;obtain⟨t,ht,hq⟩:=hbody A outer s H vs Q E (hr.deeper _) hsp;have I:Inv (jP CX P w K mg base N qual scope f cdv A outer s H E) [] (start N vs) H s1:=qM S hr.hd e0 hl r x;refine wCa (ht [] s1 (start N vs) H _ I hq) (fun fl s' hs=>?_) fun e s' hs=>hs;have fin:∀{U':St} {H':Hp} {v:V} {u:Value},Inv (jP CX P w K mg base N qual scope f cdv A outer s H E) [] U' H' s'->jq v u->Q v H'->CE outer P w H s Q u s':=
  fun {U' H' v u} J rv q=>⟨v,H',J.os,J.bare,J.base,J.hok,rv,q⟩
 cases fl with
 | ret u=>
  obtain⟨v,U',H',J,rv,q⟩:=hs;exact fin J rv q
 | next=>
  obtain⟨U',H',J,q⟩:=hs;exact fin (v:=V.non) (u:=Value.none) J rfl q
 | brk=>
  obtain⟨_,_,_,q⟩:=hs;exact False.elim q
 | cont=>
  obtain⟨_,_,_,q⟩:=hs;exact False.elim q
section
variable {X:Cx} {x:Str} {p pos:Pos} {e:Expr} {es:List Expr} {t:TA} {id T:String} {r:List V->Hp->VK->Prop}
def wA(r:List V->Hp->VK->Prop)(t:TA):TE:=fun U H Q=>t U H fun vs H1=>r vs H1 Q
theorem Yq(hc:yw X (.builtin id) r)(hg:Gl X x)(hm:X.mg x=none)(hv:bootBuiltins x=some (.builtin id))(ha:PA X (e::es) t)(hn:x≠ "__name__" := by decide)(hdb:(x==("__debug__" : Str))=false:=by decide)
  (he:starEach (e::es) X.env=(false,eval e X.env)::starEach es X.env:=by rfl) (hpl:(backTo pos (starEach es X.env)).any (·.1)=false:=by rfl):PE X (.Call (.Name x p) (e::es) [] pos) (wA r t):=by
 intro pins s U H Q I h;refine wpAny_Call_Name_kw (zq I hg hm hv ?_ hn hdb);exact PyProof.Rows.callWith_builtin1 (ji (ha pos pins s U H _ I h) fun us s1 ⟨vs,H1,I1,r1,q1⟩=>hc pins s1 U H1 vs us Q I1 r1 q1) he hpl
theorem zt(hc:yw X (.type T) r)(hg:Gl X x)(hm:X.mg x=none)(hv:bootBuiltins x=some (.type T))(ha:PA X (e::es) t)(hn:x≠ "__name__" := by decide)(hdb:(x==("__debug__" : Str))=false:=by decide)
  (he:starEach (e::es) X.env=(false,eval e X.env)::starEach es X.env:=by rfl) (hpl:(backTo pos (starEach es X.env)).any (·.1)=false:=by rfl):PE X (.Call (.Name x p) (e::es) [] pos) (wA r t):=by
 intro pins s U H Q I h;refine wpAny_Call_Name_kw (zq I hg hm hv ?_ hn hdb);exact PyProof.Rows.callWith_type1 (ji (ha pos pins s U H _ I h) fun us s1 ⟨vs,H1,I1,r1,q1⟩=>hc pins s1 U H1 vs us Q I1 r1 q1) he hpl
end
end L2
namespace HT
open PySem PyProof.Rows
section
open PySem.SeqAt
open PySem.AutoSeq1 (wpAny_loadPart')
open PySem.MeetsSeq PySem.MeetsSeq2 PySem.MeetsSeq3
end
section
variable {prog:Program} {w:World} {A:Around} {E:Value->Shared->Prop} {s:Shared}
noncomputable def sIx(n d:Nat):Option Int->Nat
 | none=>d
 | some v=>if v < 0 then(v+(n:Int)).toNat else min v.toNat n
theorem sIx_nat(n d k:Nat):sIx n d (some (k:Int))=min k n:=by
 show(if (k:Int) < 0 then((k:Int)+(n:Int)).toNat else min (k:Int).toNat n)=min k n;rw[if_neg (by omega),Int.toNat_natCast]
theorem sIx_le(n d:Nat)(hd:d<=n)(o:Option Int):sIx n d o<=n:=by
 cases o with
 | none=>exact hd
 | some v=>
  show(if v < 0 then(v+(n:Int)).toNat else min v.toNat n)<=n;by_cases hv:v < 0
  ·rw[if_pos hv];omega
  ·rw[if_neg hv];exact Nat.min_le_right _ _
theorem clip_eq(v:Int)(n d:Nat):(if v < 0 then max (v+(n:Int)) 0 else min v (n:Int))=((sIx n d (some v):Nat):Int):=by
 show(if v < 0 then max (v+(n:Int)) 0 else min v (n:Int))=(((if v < 0 then(v+(n:Int)).toNat else min v.toNat n):Nat):Int)
 by_cases hv:v < 0
 ·simp only[if_pos hv];omega
 ·simp only[if_neg hv];omega
theorem adjust_gen(lo hi:Option Int)(n:Nat):Builtin.Slice.sliceAdjust lo hi 1 (n:Int)=(((sIx n 0 lo:Nat):Int),((sIx n n hi:Nat):Int)):=by
 have h1:¬((1:Int) < 0):=by omega
 unfold Builtin.Slice.sliceAdjust;simp only[h1,if_false];refine Prod.ext ?_ ?_
 ·cases lo with
  | none=>rfl
  | some v=>exact clip_eq v n 0
 ·cases hi with
  | none=>rfl
  | some v=>exact clip_eq v n n
theorem places_gen(i j:Nat):Builtin.Slice.slicePlaces (i:Int) (j:Int) 1=j - i:=by
 unfold Builtin.Slice.slicePlaces;have h1:(1:Int) > 0:=by omega
 simp only[h1,if_true,Int.ediv_one];split <;> omega
theorem slicePart_{v:Value}{o:Option Int}{Q:Option Int->Shared->Prop}(p:IsPart v o)(h:Q o s):wpAny (model prog w) A (Builtin.Slice.slicePartIndex v) Q E s:=by
 cases p with
 | none=>exact slicePart_none h
 | int i t=>exact slicePart_int h
theorem sliceApplied_gen{sl:Addr}{vl vu:Value}{lo hi:Option Int}{n:Nat}{Q:Int×Int×Nat->Shared->Prop}(hs:s.heap.IsSliceOf sl vl vu .none)(pl:IsPart vl lo)(pu:IsPart vu hi)
  (h:Q (((sIx n 0 lo:Nat):Int),1,sIx n n hi - sIx n 0 lo) s):wpAny (model prog w) A (Builtin.Slice.sliceApplied (.ref sl) (pure (n:Int))) Q E s:=by
 obtain⟨os,hos,hcs,hds⟩:=id hs;unfold Builtin.Slice.sliceApplied Builtin.Slice.sliceFields;refine wAa (wAa (wpAny_field hos hds (x:=vl) rfl (wAa (wpAny_field hos hds (x:=vu) rfl (wAa (wpAny_field hos hds (x:=.none) rfl (wBa ?_)))))));refine wAa (slicePart_none ?_);show wpAny _ _ (if ((1:Int)==0)=true then _ else _) _ _ s;rw[if_neg (by decide)];refine wAa (slicePart_ pl (wAa (slicePart_ pu (wAa (wBa ?_)))));show wpAny _ _ (match Builtin.Slice.sliceAdjust lo hi 1 (n:Int)with | (lo,hi)=>pure (lo,(1:Int),Builtin.Slice.slicePlaces lo hi 1)) _ _ s;rw[adjust_gen lo hi n];show wpAny _ _ (pure (((sIx n 0 lo:Nat):Int),(1:Int),Builtin.Slice.slicePlaces ((sIx n 0 lo:Nat):Int) ((sIx n n hi:Nat):Int) 1)) _ _ s;rw[places_gen];exact wBa h
theorem pick_gen(xs:Array Value)(i k:Nat):((List.range k).filterMap fun(m:Nat)=>xs[((i:Int)+(m:Int) * 1).toNat]?).toArray=((xs.toList.drop i).take k).toArray:=by
 have e:(fun(m:Nat)=>xs[((i:Int)+(m:Int) * 1).toNat]?)=fun m=>xs[i+m]?:=by
  funext m;have:((i:Int)+(m:Int) * 1).toNat=i+m:=by omega
  rw[this]
 rw[e];have:=pick_run xs i k;rw[List.filterMap_map]at this;have e2:((fun x=>xs[x]?)∘fun x=>i+x)=fun m=>xs[i+m]?:=rfl;rw[e2]at this;rw[this]
theorem getItem_tuple_cut{t sl:Addr}{items:Array Value}{vl vu:Value}{lo hi:Option Int}{Q:Value->Shared->Prop}(ht:IsTup s.heap t items)(hs:s.heap.IsSliceOf sl vl vu .none)(pl:IsPart vl lo)(pu:IsPart vu hi)
  (hw:¬(sIx items.size 0 lo=0/\sIx items.size items.size hi=items.size))
  (h:Q (.ref s.heap.objs.size) { s with heap:=s.heap.push { cls:=.type "tuple",data:=.seq ((items.toList.drop (sIx items.size 0 lo)).take (sIx items.size items.size hi - sIx items.size 0 lo)).toArray } })
  (hsz:items.size<=sizeLine):wpAny (model prog w) A (getItem (.ref t) (.ref sl)) Q E s:=by
 have htake:sizeOk (.seq ((items.toList.drop (sIx items.size 0 lo)).take (sIx items.size items.size hi - sIx items.size 0 lo)).toArray):=by
  show((items.toList.drop (sIx items.size 0 lo)).take (sIx items.size items.size hi - sIx items.size 0 lo)).toArray.size<=sizeLine;rw[List.size_toArray,List.length_take,List.length_drop,Array.length_toList];omega
 have hj:sIx items.size items.size hi<=items.size:=sIx_le _ _ (wPa _) hi;obtain⟨os,hos,hcs,hds⟩:=id hs;have hTs:s.TypeIs (.ref sl) "slice" := ⟨os,hos,hcs⟩
 unfold getItem
 try with_reducible refine wDa ?_
 first | refine wAa (wBa ?_) | skip
 refine wAa (wpAny_sequenceKey ht.typeIs (by decide) ?_);refine wAa (wpAny_callSpecial?_slot (name:=Str.ofString "__getitem__") ht.typeIs PyProof.Rows.slot_tuple_getitem
  (wpAny_call_entry PyProof.Rows.slot_tuple_getitem ht.typeIs entry_tuple_getitem ?_ (args_tuple_getitem _ _)))
 show wpAny _ _ (Builtin.Tuple.tupleItemsOf (.ref t) >>= _) _ _ s;refine wAa (tupleItemsOf_ ht ?_);refine wAa (wpAny_typeOf hTs ?_);rw[if_pos (by decide)];refine wAa (sliceApplied_gen hs pl pu ?_);have hno:¬((((sIx items.size 0 lo:Nat):Int)==0&&(1:Int)==1&&(sIx items.size items.size hi - sIx items.size 0 lo)==items.size)=true):=by
  intro q;rw[Bool.and_eq_true,Bool.and_eq_true]at q;have q1:((sIx items.size 0 lo:Nat):Int)=0:=vLa q.1.1;have q2:sIx items.size items.size hi - sIx items.size 0 lo=items.size:=vLa q.2;exact hw ⟨by omega,by omega⟩
 show wpAny _ _ (if (((sIx items.size 0 lo:Nat):Int)==0&&(1:Int)==1&&(sIx items.size items.size hi - sIx items.size 0 lo)==items.size)=true then _ else _) _ _ s;rw[if_neg hno,pick_gen]
 first
  | exact wAa (m:=Builtin.Tuple.tupleExact _) (vTa (wBa ⟨_,rfl,wBa h⟩) htake)
  | exact wAa (m:=Builtin.Tuple.tupleExact _) (vTa (wAa (wBa (wBa ⟨_,rfl,wBa h⟩))) htake)
  | exact wAa (wAa (m:=Builtin.Tuple.tupleExact _) (vTa (wBa (wBa ⟨_,rfl,wBa h⟩)) htake))
  | exact wAa (wAa (m:=Builtin.Tuple.tupleExact _) (vTa (wBa ⟨_,rfl,wBa h⟩) htake))
end
end HT
namespace L2
open PySem PySem.Spec PyProof.Rows
noncomputable abbrev TO:=St->Hp->(Option Int->Hp->Prop)->Prop
def PO(X:Cx)(e:Option Expr)(t:TO):Prop:=
 ∀(pins:List (Addr×Obj)) (s:Shared) (U:St) (H:Hp) (Q:Option Int->Hp->Prop),Inv X pins U H s->t U H Q->
  wpAny (model X.prog X.w) X.A (evalPart e X.env) (fun u s'=>∃o H',Inv X pins U H' s'/\IsPart u o/\Q o H') X.xe s
noncomputable def Av:TO:=fun _ H Q=>Q none H
noncomputable def Em(t:TE):TO:=fun U H Q=>t U H fun x H1=>∃i,x=.int i/\Q (some i) H1
section
variable {X:Cx} {e:Expr} {te:TE} {lo hi:Option Expr} {tl th:TO} {pos p2:Pos}
theorem Aw:PO X none Av:=by
 intro pins s U H Q I h;rw[evalPart_none];exact wBa ⟨none,H,I,.none,h⟩
theorem Ax(h:PE X e te):PO X (some e) (Em te):=by
 intro pins s U H Q I hw;rw[evalPart_some];refine ji (h pins s U H _ I hw) fun u s1 ⟨x,H1,I1,r1,q1⟩=>?_;obtain⟨i,rfl,q⟩:=q1;obtain⟨t,rfl⟩:=r1;exact⟨some i,H1,I1,.int i t,q⟩
def XR(X:Cx)(r:V->Option Int->Option Int->Hp->VK->Prop):Prop:=
 ∀(pins:List (Addr×Obj)) (s:Shared) (U:St) (H:Hp) (x:V) (v vl vu:Value) (lo hi:Option Int) (sl:Addr) (Q:VK),Inv X pins U H s->jq x v->s.heap.IsSliceOf sl vl vu .none->IsPart vl lo->IsPart vu hi->r x lo hi H Q->
  ∃T id,typeLookup (.type T) "__getitem__" = pure (some (.builtin id))/\s.TypeIs v T/\wpAny (model X.prog X.w) X.A (getItem v (.ref sl)) (EP X pins U Q) X.xe s
def i_(r:V->Option Int->Option Int->Hp->VK->Prop)(te:TE)(tl th:TO):TE:=fun U H Q=>te U H fun x H1=>tl U H1 fun l H2=>th U H2 fun u H3=>r x l u H3 Q
theorem Ui{r:V->Option Int->Option Int->Hp->VK->Prop}(hr:XR X r)(he:PE X e te)(hl:PO X lo tl)(hu:PO X hi th):PE X (.Subscript e (.Slice lo hi none p2) pos) (i_ r te tl th):=by
 intro pins s U H Q I h;refine Subscript_ (ji (he pins s U H _ I h) fun v s1 ⟨x,H1,I1,r1,q1⟩=>?_);refine wpAny_Slice (ji (hl pins s1 U H1 _ I1 q1) fun vl s2 ⟨l,H2,I2,pl,q2⟩=>ji (hu pins s2 U H2 _ I2 q2) fun vu s3 ⟨u,H3,I3,pu,q3⟩=>?_);rw[evalPart_none];refine wBa ?_;have I4:Inv X pins U H3 { s3 with heap:=s3.heap.push { cls:=.type "slice",data:=.fields #[vl,vu,.none] } }:=I3.kept (t':=s3.toks) fun b ob q=>wIa _ q;obtain⟨T,id,hT,ht,hg⟩:=hr pins { s3 with heap:=s3.heap.push { cls:=.type "slice",data:=.fields #[vl,vu,.none] } } U H3 x v vl vu l u s3.heap.objs.size Q I4 r1 (Heap.IsSliceOf.new ..) pl pu q3;show wpAny (model X.prog X.w) X.A (subscriptTail e (.Slice lo hi none p2) v (.ref s3.heap.objs.size)) (EP X pins U Q) X.xe { s3 with heap:=s3.heap.push { cls:=.type "slice",data:=.fields #[vl,vu,.none] } };exact tail_any (ops:=[.ref s3.heap.objs.size,v]) ht hT hg (by with_unfolding_all rfl)
def VC(xs:List V)(lo hi:Option Int):List V:=(xs.drop (HT.sIx xs.length 0 lo)).take (HT.sIx xs.length xs.length hi - HT.sIx xs.length 0 lo)
theorem uI(xs:List V)(lo hi:Option Int):(VC xs lo hi).length<=xs.length:=by
 unfold VC;rw[List.length_take,List.length_drop];omega
def Hv(K:PySem.W.Frag):V->Option Int->Option Int->Hp->VK->Prop:=fun x lo hi H Q=>∃a xs,x=.ref a/\Ju K H a xs/\
 ¬(HT.sIx xs.length 0 lo=0/\HT.sIx xs.length xs.length hi=xs.length)/\∀p,H p=none->Q (.ref p) (upd H p (.tup (VC xs lo hi)))
theorem BL:XR X (Hv X.K):=by
 intro pins s U H x v vl vu lo hi sl Q I rx hs pl pu h;obtain⟨a,xs,rfl,hx,hw,q⟩:=h;cases rx;obtain⟨its,r,ht,hz⟩:=I.tuple hx;have hlen:its.toArray.size=xs.length:=by rw[List.size_toArray];exact r.length.symm
 refine⟨"tuple",_,PyProof.Rows.slot_tuple_getitem.lookup,ht.typeIs,?_⟩;refine HT.getItem_tuple_cut ht hs pl pu (by rw[hlen];exact hw) ?_ (by rw[hlen];exact hz);rw[hlen];refine⟨.ref s.heap.objs.size,_,I.laid (t':=s.toks) (o:=.tup (VC xs lo hi)) (fun b ob q=>wIa _ q) (wPa _) ?_,rfl,q _ (I.hok.fresh (wPa _))⟩;exact⟨wSa (uI xs lo hi) hz,_,(r.drop (HT.sIx xs.length 0 lo)).take (HT.sIx xs.length xs.length hi - HT.sIx xs.length 0 lo),IsTup.new _ _⟩
end
noncomputable def zu(n:Nat)(i:Int):Option Nat:=if 0<=i then(if i < n then some i.toNat else none)else if -(n:Int)<=i then some (i+n).toNat else none
def atI{α:Type}(xs:List α)(i:Int):Option α:=(zu xs.length i).bind fun j=>xs[j]?
theorem wB{n:Nat}{i:Int}{j:Nat}(h:zu n i=some j):seqIndex? i n=some j/\j < n/\-(n:Int)<=i/\i < n:=by
 unfold zu at h;by_cases h0:0<=i
 ·rw[if_pos h0]at h;by_cases h1:i < n
  ·rw[if_pos h1]at h;have e:i.toNat=j:=vFa h;exact⟨by rw[seqIndex_of h0 h1,e],by omega,by omega,h1⟩
  ·rw[if_neg h1]at h;cases h
 ·rw[if_neg h0]at h;by_cases h1:-(n:Int)<=i
  ·rw[if_pos h1]at h;have e:(i+n).toNat=j:=vFa h;exact⟨by rw[seqIndex_neg (by omega) h1,e],by omega,h1,by omega⟩
  ·rw[if_neg h1]at h;cases h
theorem gA{α:Type}{xs:List α}{i:Int}{v:α}(h:atI xs i=some v):∃j,seqIndex? i xs.length=some j/\xs[j]?=some v/\j < xs.length/\-(xs.length:Int)<=i/\i < xs.length:=by
 unfold atI at h;cases e:zu xs.length i with
 | none=>rw[e]at h;cases h
 | some j=>
  rw[e]at h;obtain⟨h1,h2,h3,h4⟩:=wB e;exact⟨j,h1,h,h2,h3,h4⟩
def gB(b:Expr):Prop:=∀o i,subscripted b false o i=operate [o,i] (getItem o i)
def uJ(X:Cx)(r:R2):Prop:=
 ∀(value slice:Expr) (pins:List (Addr×Obj)) (s:Shared) (U:St) (H:Hp) (x y:V) (v u:Value) (Q:VK),Inv X pins U H s->jq x v->jq y u->r x y H Q->
  subscripted slice false v u=operate [v,u] (getItem v u)->wpAny (model X.prog X.w) X.A (subscriptTail value slice v u) (EP X pins U Q) X.xe s
def BM(X:Cx)(id:String)(r:V->List V->Hp->VK->Prop):Prop:=
 ∀(pins:List (Addr×Obj)) (s:Shared) (U:St) (H:Hp) (x:V) (xs:List V) (v:Value) (us:List Value) (Q:VK),Inv X pins U H s->jq x v->jg xs us->r x xs H Q->
  wpAny (model X.prog X.w) X.A (call (.builtin id) (v::us)) (EP X pins U Q) X.xe s
section
variable {X:Cx} {a b:Expr} {ta tb:TE} {pos:Pos}
theorem uJ.or{r r':R2}(h:uJ X r)(h':uJ X r'):uJ X (fun x y H Q=>r x y H Q \/ r' x y H Q):=by
 intro value slice pins s U H x y v u Q I rx ry q hs;rcases q with q | q
 ·exact h value slice pins s U H x y v u Q I rx ry q hs
 ·exact h' value slice pins s U H x y v u Q I rx ry q hs
theorem XS{r:R2}(hr:uJ X r)(ha:PE X a ta)(hb:PE X b tb)(hs:gB b):PE X (.Subscript a b pos) (wy r ta tb):=by
 intro pins s U H Q I h;exact Subscript_ (QT ha hb I h fun v u s2 x y H2 I2 rx ry q=>hr a b pins s2 U H2 x y v u Q I2 rx ry q (hs _ _))
def xf(K:PySem.W.Frag):R2:=fun x y H Q=>∃p xs i v,x=.ref p/\y=.int i/\js K H p xs/\atI xs i=some v/\Q v H
def BN(K:PySem.W.Frag):R2:=fun x y H Q=>∃p xs i v,x=.ref p/\y=.int i/\Ju K H p xs/\atI xs i=some v/\Q v H
def xg:R2:=fun x y H Q=>∃z i c,x=.str z/\y=.int i/\z.length<=sizeLine/\atI z.cps.toList i=some c/\Q (.str ⟨#[c]⟩) H
theorem wC:uJ X (xf X.K):=by
 intro value slice pins s U H x y v u Q I rx ry h hs;obtain⟨p,xs,i,z,rfl,rfl,hq,he,q⟩:=h;cases rx;obtain⟨t,rfl⟩:=ry;obtain⟨its,r,pl,hz⟩:=I.list hq;obtain⟨j,h1,h2,h3,h4,h5⟩:=gA he;obtain⟨w,ew,rw'⟩:=r.get h2;have hl:=r.length;have hn:=zr;have fin:EP X pins U Q w s:=⟨z,H,I,rw',q⟩
 by_cases h0:0<=i
 ·have hj:i.toNat=j:=by
   rw[seqIndex_of h0 h5]at h1;exact vFa h1
  exact item_listR pl.isList h0 (by omega) (by rw[hj];simpa using ew) fin hs
 ·have hj:(i+(its.toArray.size:Int)).toNat=j:=by
   rw[seqIndex_neg (by omega) h4]at h1;rw[List.size_toArray,<-hl];exact vFa h1
  exact subscriptTail_builtinR (x:=w) pl.isList.typeIs slot_list_getitem.lookup
   (wpAny_getItem_list_neg (Q:=fun r s'=>r=w/\EP X pins U Q r s') pl.isList (by omega) (by rw[List.size_toArray] <;> omega) (by omega) (by rw[hj];simpa using ew) ⟨rfl,fin⟩) hs
theorem BO:uJ X (BN X.K):=by
 intro value slice pins s U H x y v u Q I rx ry h hs;obtain⟨p,xs,i,z,rfl,rfl,hq,he,q⟩:=h;cases rx;obtain⟨t,rfl⟩:=ry;obtain⟨its,r,pl,hz⟩:=I.tuple hq;obtain⟨j,h1,h2,h3,h4,h5⟩:=gA he;obtain⟨w,ew,rw'⟩:=r.get h2;have hl:=r.length;have hn:=zr;have fin:EP X pins U Q w s:=⟨z,H,I,rw',q⟩
 exact subscriptTail_builtinR (x:=w) pl.typeIs slot_tuple_getitem.lookup
  (getItem_tuple (j:=j) (Q:=fun r s'=>r=w/\EP X pins U Q r s') pl (by omega) (by omega) (by rw[List.size_toArray,<-hl];exact h1) (by simpa using ew) ⟨rfl,fin⟩) hs
theorem qN:uJ X xg:=by
 intro value slice pins s U H x y v u Q I rx ry h hs;obtain⟨z,i,c,rfl,rfl,hz,he,q⟩:=h;obtain⟨t,rfl⟩:=rx;obtain⟨t',rfl⟩:=ry;obtain⟨j,h1,h2,h3,h4,h5⟩:=gA he;have hl:z.cps.toList.length=z.length:=by simp[Str.length]
 rw[hl]at h1 h4 h5;have hn:=zr;exact tail_any (typeIs_str s z t) slot_str_getitem.lookup (getItem_str (c:=c) (by
  have e1:decide (i < -(2 ^ 63:Int))=false:=vBa (by omega);have e2:decide (i>=2 ^ 63)=false:=vBa (by omega);rw[e1,e2,Bool.or_false]) (by rw[h1];simpa using h2) ⟨.str ⟨#[c]⟩,H,I.tok _,⟨_,rfl⟩,q⟩) hs
def Fq(K:PySem.W.Frag):R2:=fun x y H Q=>xf K x y H Q \/ BN K x y H Q \/ xg x y H Q
theorem BP:uJ X (Fq X.K):=wC.or (BO.or qN)
theorem Wx(its:List Value)(n j:Nat)(u:Value):Obj.mapSeq (·.setIfInBounds j u) { cls:=.type "list",data:=.seq its.toArray n }={ cls:=.type "list",data:=.seq (its.set j u).toArray n }:=by
 simp[Obj.mapSeq]
theorem Inv.lst{pins:List (Addr×Obj)}{U:St}{H:Hp}{s:Shared}{p:Addr}{xs:List V}(I:Inv X pins U H s)(h:H p=some (.lst xs)):
  ∃(its:List Value) (n:Nat),jg xs its/\s.heap.get? p=some { cls:=.type "list",data:=.seq its.toArray n }/\xs.length<=sizeLine:=by
 obtain⟨z,its,n,r,e⟩:=I.hok p _ h;exact⟨its,n,r,e,z⟩
theorem Inv.lstUpd{pins:List (Addr×Obj)}{U:St}{H:Hp}{s:Shared}{p:Addr}{xs ys:List V}{its its':List Value}{n n':Nat}{f:Obj->Obj}(I:Inv X pins U H s)(h:H p=some (.lst xs))
  (ho:s.heap.get? p=some { cls:=.type "list",data:=.seq its.toArray n }) (hf:f { cls:=.type "list",data:=.seq its.toArray n }={ cls:=.type "list",data:=.seq its'.toArray n' }) (r:jg ys its') (hz:ys.length<=sizeLine) (t:Nat):
  Inv X pins U (upd H p (.lst ys)) { s with heap:=s.heap.update p f,toks:=t }:=by
 have e:(s.heap.update p f).get? p=some { cls:=.type "list",data:=.seq its'.toArray n' }:=by
  rw[Heap.get?_update_self f ho (by rw[hf] <;> rfl),hf]
 refine I.write (x:=p) (e:=p) (by rw[h];trivial) (.inl rfl) (fun b u hb q=>(wKa _ _ (Ne.symm hb)).trans q) ⟨_,e⟩ ?_;exact⟨hz,its',n',r,e⟩
def XT:V->V->V->Hp->(Hp->Prop)->Prop:=fun o i v H Q=>∃p xs k j,o=.ref p/\i=.int k/\H p=some (.lst xs)/\zu xs.length k=some j/\Q (upd H p (.lst (xs.set j v)))
theorem xh:Bn X XT:=by
 intro pins s U H o i v ov iv u Q I ro ri rv h;obtain⟨p,xs,k,j,rfl,rfl,hp,hj,q⟩:=h;cases ro;obtain⟨t,rfl⟩:=ri;obtain⟨its,n,r,ho,hz⟩:=I.lst hp;obtain⟨h1,h2,h3,h4⟩:=wB hj;have hl:=r.length;have hn:=zr;have I':Inv X pins U (upd H p (.lst (xs.set j v))) { s with heap:=s.heap.update p (Obj.mapSeq (·.setIfInBounds j u)) }:=
  I.lstUpd hp ho (Wx its n j u) (r.set rv j) (by rw[List.length_set];exact hz) s.toks
 by_cases h0:0<=k
 ·have hk:k.toNat=j:=by
   rw[seqIndex_of h0 h4]at h1;exact vFa h1
  exact PySem.W.ki_setAt ho h0 (by omega) (by rw[List.size_toArray,<-hl];exact h4) (by rw[hk];exact⟨_,I',q⟩)
 ·have hk:(k+(its.toArray.size:Int)).toNat=j:=by
   rw[seqIndex_neg (by omega) h3]at h1;rw[List.size_toArray,<-hl];exact vFa h1
  exact PySem.W.ki_setBack ho (by omega) (by rw[List.size_toArray,<-hl];exact h3) (by omega) (by rw[hk];exact⟨_,I',q⟩)
theorem kx(lo hi:Option Int)(n:Nat):(sliceBounds lo hi none n).1=((HT.sIx n 0 lo:Nat):Int)/\(sliceBounds lo hi none n).2.1=((HT.sIx n n hi:Nat):Int)/\(sliceBounds lo hi none n).2.2=1:=by
 refine⟨?_,?_,rfl⟩
 ·cases lo with
  | none=>simp[sliceBounds,HT.sIx]
  | some i=>
   simp only[sliceBounds,HT.sIx,Option.getD_none,show(1:Int) > 0 by decide,if_true];by_cases h:i < 0
   ·simp only[h,if_true] <;> omega
   ·simp only[h,if_false] <;> omega
 ·cases hi with
  | none=>simp[sliceBounds,HT.sIx]
  | some i=>
   simp only[sliceBounds,HT.sIx,Option.getD_none,show(1:Int) > 0 by decide,if_true];by_cases h:i < 0
   ·simp only[h,if_true] <;> omega
   ·simp only[h,if_false] <;> omega
theorem GM(its:List Value)(lo hi:Option Int):slicePick its.toArray lo hi none=((its.drop (HT.sIx its.length 0 lo)).take (HT.sIx its.length its.length hi - HT.sIx its.length 0 lo)).toArray:=by
 obtain⟨h1,h2,h3⟩:=kx lo hi its.toArray.size;unfold slicePick;rw[h1,h2,h3];simp only[sliceRange_one,pick_run,List.size_toArray] <;> rfl
def Hw(K:PySem.W.Frag):V->Option Int->Option Int->Hp->VK->Prop:=fun x lo hi H Q=>∃a xs,x=.ref a/\js K H a xs/\∀p,H p=none->Q (.ref p) (upd H p (.lst (VC xs lo hi)))
theorem Ay:XR X (Hw X.K):=by
 intro pins s U H x v vl vu lo hi sl Q I rx hs pl pu h;obtain⟨a,xs,rfl,hx,q⟩:=h;cases rx;obtain⟨its,r,ht,hz⟩:=I.list hx;have hlen:=r.length;refine⟨"list",_,slot_list_getitem.lookup,ht.isList.typeIs,?_⟩;refine wpAny_getItem_list_slice ht.isList hs pl pu .none (by simp) ?_ (by rw[List.size_toArray] <;> omega);rw[GM,<-hlen];refine⟨.ref s.heap.objs.size,_,I.laid (t':=s.toks) (o:=.lst (VC xs lo hi)) (fun b ob q=>wIa _ q) (wPa _) ?_,rfl,q _ (I.hok.fresh (wPa _))⟩;exact⟨wSa (uI xs lo hi) hz,_,0,(r.drop (HT.sIx xs.length 0 lo)).take (HT.sIx xs.length xs.length hi - HT.sIx xs.length 0 lo),wJa _ rfl⟩
noncomputable def zg:V->Bool
 | .non=>true
 | .bl _=>true
 | .int _=>true
 | .str _=>true
 | _=>false
noncomputable def ZE:V->V->Bool
 | .non,.non=>true
 | .bl a,.bl b=>a==b
 | .bl a,.int b=>(if a then 1 else 0)==b
 | .int a,.bl b=>a==(if b then 1 else 0)
 | .int a,.int b=>a==b
 | .str a,.str b=>a==b
 | _,_=>false
theorem BQ{A:Around}{s:Shared}{y x:V}{u v:Value}(ry:jq y u)(rx:jq x v)(fy:zg y=true)(fx:zg x=true):SeqAt.EqAt A s u v (ZE y x):=by
 cases y with
 | non=>
  cases ry;cases x with
  | non=>cases rx;exact SeqAt.EqAt.same _
  | bl b=>cases rx;exact SeqAt.EqAt.none_bool b
  | int b=>obtain⟨t,rfl⟩:=rx;exact SeqAt.EqAt.none_int b t
  | str b=>obtain⟨t,rfl⟩:=rx;exact SeqAt.EqAt.none_str b t
  | _=>exact vDa (show false=true from fx) vNa
 | bl a=>
  cases ry;cases x with
  | non=>cases rx;exact SeqAt.EqAt.bool_none a
  | bl b=>cases rx;exact SeqAt.EqAt.bool_bool a b
  | int b=>obtain⟨t,rfl⟩:=rx;exact SeqAt.EqAt.bool_int a b t
  | str b=>obtain⟨t,rfl⟩:=rx;exact SeqAt.EqAt.bool_str a b t
  | _=>exact vDa (show false=true from fx) vNa
 | int a=>
  obtain⟨t',rfl⟩:=ry;cases x with
  | non=>cases rx;exact SeqAt.EqAt.int_none a t'
  | bl b=>cases rx;exact SeqAt.EqAt.int_bool a t' b
  | int b=>obtain⟨t,rfl⟩:=rx;exact SeqAt.EqAt.int_int a t' b t
  | str b=>obtain⟨t,rfl⟩:=rx;exact SeqAt.EqAt.int_str a t' b t
  | _=>exact vDa (show false=true from fx) vNa
 | str a=>
  obtain⟨t',rfl⟩:=ry;cases x with
  | non=>cases rx;exact SeqAt.EqAt.str_none a t'
  | bl b=>cases rx;exact SeqAt.EqAt.str_bool a t' b
  | int b=>obtain⟨t,rfl⟩:=rx;exact SeqAt.EqAt.str_int a t' b t
  | str b=>obtain⟨t,rfl⟩:=rx;exact SeqAt.EqAt.str_str a t' b t
  | _=>exact vDa (show false=true from fx) vNa
 | _=>exact vDa (show false=true from fy) vNa
def Zd(x:V)(u:Value):Bool:=match u with
 | .none=>ZE .non x
 | .bool b=>ZE (.bl b) x
 | .int i _=>ZE (.int i) x
 | .str z _=>ZE (.str z) x
 | _=>false
theorem qO{x y:V}{u:Value}(r:jq y u)(f:zg y=true):Zd x u=ZE y x:=by
 cases y with
 | non=>cases r;rfl
 | bl b=>cases r;rfl
 | int i=>obtain⟨t,rfl⟩:=r;rfl
 | str z=>obtain⟨t,rfl⟩:=r;rfl
 | _=>exact vDa (show false=true from f) vNa
theorem vB{x:V}:∀{xs:List V} {us:List Value},jg xs us->xs.all zg=true->us.any (Zd x)=xs.any fun y=>ZE y x
 | _,_,.nil,_=>rfl
 | y::xs,u::us,.cons r t,f=>by
  rw[List.all_cons,Bool.and_eq_true]at f;rw[List.any_cons,List.any_cons,qO r f.1,vB t f.2]
theorem Ze{A:Around}{s:Shared}{x:V}{v:Value}(rx:jq x v)(fx:zg x=true):∀{xs:List V} {us:List Value},jg xs us->xs.all zg=true->∀u∈us,SeqAt.EqAt A s u v (Zd x u)
 | _,_,.nil,_=>fun u hu=>by cases hu
 | y::xs,u::us,.cons r t,f=>fun u' hu=>by
  rw[List.all_cons,Bool.and_eq_true]at f;rcases List.mem_cons.mp hu with rfl | hu
  ·rw[qO r f.1];exact BQ r rx f.1 fx
  ·exact Ze rx fx t f.2 u' hu
def yD(x:V)(xs:List V):Bool:=xs.any fun y=>ZE y x
def BR(K:PySem.W.Frag)(neg:Bool):R2:=fun x y H Q=>∃p xs,y=.ref p/\(js K H p xs \/ Ju K H p xs)/\zg x=true/\xs.all zg=true/\Q (.bl (if neg then !yD x xs else yD x xs)) H
theorem qP:jH X (compareOp .In) (BR X.K false):=by
 intro pins s U H x y v u Q I rx ry h;obtain⟨p,xs,rfl,hq,fx,fs,q⟩:=h;cases ry;rcases hq with hq | hq
 ·obtain⟨its,r,pl,hz⟩:=I.list hq;refine SeqAt.in_listAt (Zd x) pl.isList (fun w hw=>Ze rx fx r fs w (by simpa using hw)) ⟨.bl _,H,I,rfl,?_⟩;rw[show its.toArray.any (Zd x)=its.any (Zd x) by simp,vB r fs];exact q
 ·obtain⟨its,r,pl,hz⟩:=I.tuple hq;refine SeqAt.in_tupleAt (Zd x) pl (fun w hw=>Ze rx fx r fs w (by simpa using hw)) ⟨.bl _,H,I,rfl,?_⟩;rw[show its.toArray.any (Zd x)=its.any (Zd x) by simp,vB r fs];exact q
theorem ky:jH X (compareOp .NotIn) (BR X.K true):=by
 intro pins s U H x y v u Q I rx ry h;obtain⟨p,xs,rfl,hq,fx,fs,q⟩:=h;cases ry;rcases hq with hq | hq
 ·obtain⟨its,r,pl,hz⟩:=I.list hq;refine SeqAt.notIn_listAt (Zd x) pl.isList (fun w hw=>Ze rx fx r fs w (by simpa using hw)) ⟨.bl _,H,I,rfl,?_⟩;rw[show its.toArray.any (Zd x)=its.any (Zd x) by simp,vB r fs];exact q
 ·obtain⟨its,r,pl,hz⟩:=I.tuple hq;refine SeqAt.notIn_tupleAt (Zd x) pl (fun w hw=>Ze rx fx r fs w (by simpa using hw)) ⟨.bl _,H,I,rfl,?_⟩;rw[show its.toArray.any (Zd x)=its.any (Zd x) by simp,vB r fs];exact q
theorem kz:yw X (.builtin "len") (fun xs H Q=>∃p ys,xs=[.ref p]/\(js X.K H p ys \/ Ju X.K H p ys)/\Q (.int ys.length) H):=by
 intro pins s U H xs us Q I r h;obtain⟨p,ys,rfl,hq,q⟩:=h;obtain⟨u,rfl,rx⟩:=zW r;cases rx;have hn:=zr;rcases hq with hq | hq
 ·obtain⟨its,r',pl,hz⟩:=I.list hq;have hlen:=r'.length;exact Calls.call_len_list pl.isList (by simp only[List.size_toArray] <;> omega) ⟨.int ys.length,H,I.tok _,⟨s.toks+1,by rw[List.size_toArray,hlen]⟩,q⟩
 ·obtain⟨its,r',pl,hz⟩:=I.tuple hq;have hlen:=r'.length;exact len_tuple pl (by simp only[List.size_toArray] <;> omega) ⟨.int ys.length,H,I.tok _,⟨s.toks+1,by rw[List.size_toArray,hlen]⟩,q⟩
theorem kC:yw X (.builtin "len") (fun xs H Q=>∃z,xs=[.str z]/\z.length<=sizeLine/\Q (.int z.length) H):=by
 intro pins s U H xs us Q I r h;obtain⟨z,rfl,hz,q⟩:=h;obtain⟨u,rfl,t,rfl⟩:=zW r;have hn:=zr;exact len_str (by omega) ⟨.int z.length,H,I.tok _,⟨_,rfl⟩,q⟩
theorem kD:yw X (.type "list") (fun xs H Q=>∃p ys,xs=[.ref p]/\(js X.K H p ys \/ Ju X.K H p ys)/\∀l,H l=none->Q (.ref l) (upd H l (.lst ys))):=by
 intro pins s U H xs us Q I r h;obtain⟨p,ys,rfl,hq,q⟩:=h;obtain⟨u,rfl,rx⟩:=zW r;cases rx;have fin:∀(its:List Value),jg ys its->ys.length<=sizeLine->∀(h':Heap) (c':Nat),(∀b o',s.heap.get? b=some o'->h'.get? b=some o')->
   h'.get? s.heap.objs.size=some { cls:=.type "list",dict:=none,data:=.seq its.toArray c',slots:=#[] }->EP X pins U Q (.ref s.heap.objs.size) { s with heap:=h' }:=fun its r' hz h' c' kp e=>
  ⟨.ref s.heap.objs.size,_,I.laid (t':=s.toks) kp (wPa _) (show Jb X.prog X.w _ h' _ (.lst ys) from⟨hz,its,c',r',e⟩),rfl,q _ (I.hok.fresh (wPa _))⟩
 rcases hq with hq | hq
 ·obtain⟨its,r',pl,hz⟩:=I.list hq;have hlen:=r'.length;obtain⟨o,ho,hc,n,hd⟩:=pl.isList;exact call_list_seq p (.inl rfl) ho hc hd (fun h' c' kp e=>fin its r' hz h' c' kp e) (by simp only[List.size_toArray] <;> omega)
 ·obtain⟨its,r',pl,hz⟩:=I.tuple hq;have hlen:=r'.length;obtain⟨o,ho,hc,n,hd⟩:=pl;exact call_list_seq p (.inr rfl) ho hc hd (fun h' c' kp e=>fin its r' hz h' c' kp e) (by simp only[List.size_toArray] <;> omega)
theorem GN:yw X (.type "tuple") (fun xs H Q=>∃p ys,xs=[.ref p]/\((js X.K H p ys/\∀l,H l=none->Q (.ref l) (upd H l (.tup ys))) \/ (Ju X.K H p ys/\Q (.ref p) H))):=by
 intro pins s U H xs us Q I r h;obtain⟨p,ys,rfl,h⟩:=h;obtain⟨u,rfl,rx⟩:=zW r;cases rx;rcases h with⟨hq,q⟩ | ⟨hq,q⟩
 ·obtain⟨its,r',pl,hz⟩:=I.list hq;have hlen:=r'.length;refine call_tuple_list pl.isList (fun h' kp=>?_) (by simp only[List.size_toArray] <;> omega);have I1:Inv X pins U H { s with heap:=h' }:=I.kept (t':=s.toks) kp;have I2:Inv X pins U (upd H h'.objs.size (.tup ys)) { s with heap:=h'.push { cls:=.type "tuple",data:=.seq its.toArray } }:=
   I1.laid (t':=s.toks) (fun b o e=>wIa _ e) (wPa _) (show Jb X.prog X.w _ _ _ (.tup ys) from⟨hz,its,r',IsTup.new _ _⟩)
  exact⟨.ref h'.objs.size,_,I2,rfl,q _ (I1.hok.fresh (wPa _))⟩
 ·obtain⟨its,r',pl,hz⟩:=I.tuple hq;exact call_tuple_same pl ⟨.ref p,H,I,rfl,q⟩
def Fs(K:PySem.W.Frag)(T:String)(x:V)(H:Hp):Prop:=match x with
 | .str _=>T = "str"
 | .int _=>T = "int"
 | .ref p=>(T = "list" /\∃xs,js K H p xs) \/ (T = "tuple" /\∃o,K.lookup p=some o/\o.cls=.type "tuple" /\o.dict=none) \/
   (T = "dict" /\((∃kvs,H p=some (.dK kvs)) \/∃kvs,H p=some (.dT kvs))) \/ (T = "set" /\∃S n,H p=some (.set S n))
 | _=>False
theorem BS{pins:List (Addr×Obj)}{U:St}{H:Hp}{s:Shared}{T:String}{x:V}{v:Value}(I:Inv X pins U H s)(r:jq x v)(ty:Fs X.K T x H):
  s.TypeIs v T/\∀a,v=.ref a->∃ob,s.heap.get? a=some ob/\ob.dict=none:=by
 cases x with
 | str z=>
  obtain⟨t,rfl⟩:=r;cases (show T = "str" from ty);exact⟨typeIs_str s z t,fun _ e=>nomatch e⟩
 | int i=>
  obtain⟨t,rfl⟩:=r;cases (show T = "int" from ty);exact⟨typeIs_int s i t,fun _ e=>nomatch e⟩
 | ref p=>
  cases r;rcases ty with⟨rfl,xs,hq⟩ | ⟨rfl,o,hk,hc,hd⟩ | ⟨rfl,hk⟩ | ⟨rfl,S,n,hk⟩
  ·obtain⟨its,_,pl,_⟩:=I.list hq;refine⟨pl.isList.typeIs,fun a e=>?_⟩;cases e;obtain⟨o,n,e,c,hd,_⟩:=pl;exact⟨o,e,hd⟩
  ·refine⟨⟨o,I.kIn p o hk,hc⟩,fun a e=>?_⟩;cases e;exact⟨o,I.kIn _ o hk,hd⟩
  ·have z:∃o,s.heap.get? p=some o/\o.ExactDict:=by
    rcases hk with⟨kvs,hk⟩ | ⟨kvs,hk⟩
    ·obtain⟨_,_,_,_,o,_,_,e,ex,_⟩:=I.hok p _ hk;exact⟨o,e,ex⟩
    ·obtain⟨_,_,_,_,o,_,_,e,ex,_⟩:=I.hok p _ hk;exact⟨o,e,ex⟩
   obtain⟨o,e,ex⟩:=z;refine⟨⟨o,e,ex.1⟩,fun a e2=>?_⟩;cases e2;exact⟨o,e,ex.2.1⟩
  ·obtain⟨o,_,_,_,e,ex,_⟩:=I.hok p _ hk;refine⟨⟨o,e,ex.1⟩,fun a e2=>?_⟩;cases e2;exact⟨o,e,ex.2.1⟩
 | _=>exact False.elim ty
def uK(K:PySem.W.Frag)(T:String)(r:V->List V->Hp->VK->Prop)(to:TE)(t:TA):TE:=fun U H Q=>to U H fun x H1=>Fs K T x H1/\t U H1 fun xs H2=>r x xs H2 Q
variable {o e:Expr} {es:List Expr} {to:TE} {t:TA} {name:Str} {apos cpos:Pos} {T id:String} {r:V->List V->Hp->VK->Prop}
theorem ZF(pa:PlainAttrs T)(slot:Slot T name id)(hty:typeOf (.builtin id)=pure (.type "method_descriptor"))(hm:BM X id r)(ho:PE X o to)(ha:PA X (e::es) t)
  (hbase:attributeBase o name X.env (eval o X.env)=eval o X.env:=by rfl)
  (hfew:((backTo cpos (starEach (e::es) X.env)).all (fun x=>!x.1)&&(backToKw cpos (keywordEach [] X.env)).all (fun x=>x.1.isSome)
   && decide ((e::es).length+([]:List Keyword).length+(if ([]:List Keyword).isEmpty then 0 else 1) < 30))=true:=by rfl)
  (hline:(apos.endLine==cpos.line)=true:=by rfl) (hs:starEach (e::es) X.env=(false,eval e X.env)::starEach es X.env:=by rfl) (hplain:(backTo cpos (starEach es X.env)).any (·.1)=false:=by rfl):
  PE X (.Call (.Attribute o name apos) (e::es) [] cpos) (uK X.K T r to t):=by
 intro pins s U H Q I h;refine wpAny_Call_method_late hbase hfew hline rfl (ji (ho pins s U H _ I h) fun v s1 ⟨x,H1,I1,r1,ty,q1⟩=>?_);obtain⟨h1,h2⟩:=BS I1 r1 ty;refine⟨T,id,pa,slot,hty,h1,h2,?_⟩;have hA:=ha cpos pins s1 U H1 _ I1 q1;rw[hs]at hA⊢;refine Calls.callWith_builtin (by show(false||(backTo cpos (starEach es X.env)).any (·.1))=false;rw[hplain] <;> rfl) (Calls.evalArgs_plain ?_)
 exact ji hA fun us s2 ⟨vs,H2,I2,r2,q2⟩=>hm pins s2 U H2 x vs v us Q I2 r1 r2 q2
end
def wD(X:Cx)(id:String)(r:V->List V->Hp->VK->Prop):Prop:=
 ∀(pins:List (Addr×Obj)) (s:Shared) (U:St) (H:Hp) (x:V) (xs:List V) (v:Value) (us:List Value) (Q:VK),Inv X pins U H s->jq x v->jg xs us->r x xs H Q->
  wpAny (model X.prog X.w) X.A (call (.builtin id) (v::us)) (EP X pins U Q) X.xe s
theorem jg.one:∀{x:V} {us:List Value},jg [x] us->∃u,us=[u]/\jq x u
 | _,_,.cons r .nil=>⟨_,rfl,r⟩
theorem jg.eraseIdx:∀{xs:List V} {us:List Value} (i:Nat),jg xs us->jg (xs.eraseIdx i) (us.eraseIdx i)
 | _,_,_,.nil=>.nil
 | _,_,0,.cons _ t=>t
 | _,_,i+1,.cons r t=>.cons r (jg.eraseIdx i t)
theorem Gx{α:Type}:∀(l:List α) (i:Nat),(l.eraseIdx i).length<=l.length
 | [],_=>wPa _
 | _::_,0=>vMa _
 | _::r,i+1=>Nat.succ_le_succ (Gx r i)
section
variable {X:Cx} {pins:List (Addr×Obj)} {U:St} {H:Hp} {s:Shared} {l b:Addr} {xs ys zs:List V}
theorem Inv.lset{its its':List Value}{n:Nat}{f:Array Value->Array Value}{t':Nat}(I:Inv X pins U H s)(hH:H l=some (.lst xs))
  (e:s.heap.get? l=some { cls:=.type "list",data:=.seq its.toArray n }) (hf:f its.toArray=its'.toArray) (hv:jg ys its') (hz:ys.length<=sizeLine):
  Inv X pins U (upd H l (.lst ys)) { s with heap:=s.heap.update l (Obj.mapSeq f),toks:=t' }:=by
 have q:=PySem.IsL.update e f;rw[hf]at q;refine I.write (x:=l) (e:=l) (by rw[hH];exact trivial) (.inl rfl) (fun b' u hb hu=>(wKa s.heap (Obj.mapSeq f) (Ne.symm hb)).trans hu) ⟨_,q⟩ ?_;exact⟨hz,its',_,hv,q⟩
theorem Inv.lnew{its:List Value}{t':Nat}(I:Inv X pins U H s)(hv:jg ys its)(hz:ys.length<=sizeLine):
  Inv X pins U (upd H s.heap.objs.size (.lst ys)) { s with heap:=s.heap.push { cls:=.type "list",data:=.seq its.toArray },toks:=t' }:=
 I.laid (fun _ _ q=>wIa _ q) (wPa _) ⟨hz,its,0,hv,wJa _ rfl⟩
theorem Inv.fresh(I:Inv X pins U H s):H s.heap.objs.size=none:=I.hok.fresh (wPa _)
theorem Inv.lstM(I:Inv X pins U H s)(hH:H l=some (.lst xs)):xs.length<=sizeLine/\∃(its:List Value) (n:Nat),jg xs its/\xs.length=its.length/\s.heap.get? l=some { cls:=.type "list",data:=.seq its.toArray n }:=by
 obtain⟨z,its,n,r,e⟩:=I.hok l _ hH;exact⟨z,its,n,r,r.length,e⟩
end
section
variable {X:Cx}
def ue:V->List V->Hp->VK->Prop:=fun x vs H Q=>∃l xs y,x=.ref l/\vs=[y]/\H l=some (.lst xs)/\xs.length < sizeLine/\Q .non (upd H l (.lst (xs++[y])))
theorem qQ:wD X "list.append" ue:=by
 intro pins s U H x vs v us Q I rx rv h;obtain⟨l,xs,y,rfl,rfl,hH,hz,q⟩:=h;cases rx;obtain⟨u,rfl,ru⟩:=rv.one;obtain⟨z,its,n,r,hl,e⟩:=I.lstM hH;refine call_meets F.slot_list_append ⟨_,e,rfl⟩ F.entry_list_append (F.args_list_append_2 _ _) (PySem.list_append l its.toArray n u (by rw[List.size_toArray];omega)) ⟨e,?_⟩;refine⟨.non,_,I.lset (its':=its++[u]) hH e (by simp) (r.append (.cons ru .nil)) ?_,rfl,q⟩;rw[List.length_append,List.length_singleton];omega
def UH:V->List V->Hp->VK->Prop:=fun x vs H Q=>∃l xs i k y,x=.ref l/\vs=[.int i]/\H l=some (.lst xs)/\-(2 ^ 63)<=i/\i < 2 ^ 63/\seqIndex? i xs.length=some k/\xs[k]?=some y/\Q y (upd H l (.lst (xs.eraseIdx k)))
theorem xi:wD X "list.pop" UH:=by
 intro pins s U H x vs v us Q I rx rv h;obtain⟨l,xs,i,k,y,rfl,rfl,hH,h1,h2,hk,hy,q⟩:=h;cases rx;obtain⟨u,rfl,ru⟩:=rv.one;obtain⟨t,rfl⟩:=ru;obtain⟨z,its,n,r,hl,e⟩:=I.lstM hH;obtain⟨w,hw,rw'⟩:=r.get hy;refine call_meets F.slot_list_pop ⟨_,e,rfl⟩ F.entry_list_pop (F.args_list_pop_2 _ _)
  (MeetsSeq.list_pop_at l its.toArray n i t k w (fitsIndex_both h1 h2) (by rw[List.size_toArray,<-hl];exact hk) (by rw[<-Array.getElem?_toList];exact hw) (by rw[List.size_toArray];omega)) ⟨e,?_⟩
 refine⟨y,_,I.lset (its':=its.eraseIdx k) hH e ?_ (r.eraseIdx k) ?_,rw',q⟩
 ·show its.toArray.eraseIdxIfInBounds k=(its.eraseIdx k).toArray;rw[List.eraseIdxIfInBounds_toArray]
 ·have:=Gx xs k;omega
def BU:R2:=fun x y H Q=>∃l b xs zs,x=.ref l/\y=.ref b/\H l=some (.lst xs)/\H b=some (.lst zs)/\xs.length+zs.length<=sizeLine/\∀p,H p=none->Q (.ref p) (upd H p (.lst (xs++zs)))
theorem BV:jH X (binaryOp .Add) BU:=by
 intro pins s U H x y v u Q I rx ry h;obtain⟨l,b,xs,zs,rfl,rfl,hH,hB,hz,q⟩:=h;cases rx;cases ry;obtain⟨z,its,n,r,hl,e⟩:=I.lstM hH;obtain⟨z2,its2,n2,r2,hl2,e2⟩:=I.lstM hB;refine PySem.P.add_list e e2 ?_ (by rw[List.size_toArray,List.size_toArray];omega);have ea:its.toArray++its2.toArray=(its++its2).toArray:=by simp
 rw[ea];exact⟨.ref _,_,I.lnew (t':=s.toks) (r.append r2) (by rw[List.length_append];omega),rfl,q _ I.fresh⟩
end
end L2
namespace Att
open PySem PySem.W PySem.Calls PyProof.Rows
theorem ints_of_wellAll{P:Params}{h:Heap}:∀(ns:List Int) (vs:List Value),WellAll P h vs (ns.map WData.int)->IntsAre vs ns:=by
 intro ns;induction ns with
 | nil=>
  intro vs w;rw[List.map_nil]at w;cases w;exact .nil
 | cons n ns ih=>
  intro vs w;rw[List.map_cons]at w;cases w with
  | cons a b=>
   cases a;exact .cons _ _ (ih _ b)
theorem script_of{l:OpenLaw}{n:Nat}(hn:l.most=some n){P:Params}{h:Heap}{args:List WData}{vals:List Value}
  (hpre:l.row.toRowW.claim.pre args=true) (hwl:WellAll P h vals args):
  ∃a vs ns,vals=[Value.ref a]/\args=[WData.list (ns.map WData.int)]/\h.get? a=some { cls:=.type "list",data:=.seq vs.toArray }/\IntsAre vs ns/\ns.length<=n:=by
 have hsh:WShape.hasAll [] args [.list .int]=true:=(pre_splitW hpre).1;have hc:l.pre.holds [] { args:=args }=true:=(pre_splitW hpre).2;obtain⟨d,r,rfl,h1,h2⟩:=hasAllW_cons hsh;obtain rfl:=hasAllW_nil h2;obtain⟨xs,rfl,h3⟩:=hasW_list h1;obtain⟨ns,rfl⟩:=items_int h3;have hlen:ns.length<=n:=by
  unfold OpenLaw.pre at hc;have h4:(WTm.not (.lt (.lit (.int (n:Int))) (.len (.arg 0)))).holds [] { args:=[.list (ns.map .int)] }=true:=by
   have h4:=(holds_andW hc).1;rw[hn]at h4;exact h4
  have h5:=condW_of h4 (w_not (w_lt w_lit (w_len_list (w_arg rfl))));rw[List.length_map]at h5;refine Nat.le_of_not_lt fun q=>?_;have q':(n:Int) < ((ns.length:Nat):Int):=by omega
  first
   | (rw[decide_eq_true q']at h5;exact vDa h5 (by decide))
   | (simp at h5;omega)
 cases hwl with
 | cons w1 w2=>
  cases w2;cases w1 with
  | list ho hall=>exact⟨_,_,ns,rfl,rfl,ho,ints_of_wellAll ns _ hall,hlen⟩
theorem post_true(l:OpenLaw)(args:List WData):l.row.toRowW.claim.post args (.bool true) args=true:=
 postW_of (r:=l.row.toRowW) (X:=(true==true))
  (show WShape.has [] (.bool true) .bool=true by first | rfl | decide | simp[WShape.has,WShape.arms,WShape.armsAll])
  (show(WTm.eq .res (.lit (.bool true))).value [] { args:=args,res:=some (.bool true),after:=args }=some (.bool (true==true)) from w_eq_bool (w_res rfl) w_lit) rfl
theorem attach_call{l:OpenLaw}{n:Nat}{q:Program}{loose:List Str}{XP:(Str->Option Value)->Heap->Prop}{YP:World->Heap->Prop}{d:DefRec}
  (hn:l.most=some n) (hdf:d.params.defaults=[])
  (call:∀(w:World) (s₀ s₁:Shared) (mg mb:Str->Option Value) (fa:Addr) (o:Obj) (pm cd doc:Value) (a:Addr) (vs:List Value) (ns:List Int),
   Ground q loose [] XP w s₀ mg mb s₁.heap->YP w s₁.heap->
   s₁.heap.get? fa=some o->o.data=.func (docDef d.name d.params d.body d.scope pm cd doc)->s₁.heap.CodeRec cd d.name->mg d.name=some (.ref fa)->
   s₁.heap.get? a=some { cls:=.type "list",data:=.seq vs.toArray }->IntsAre vs ns->ns.length<=n->s₁.gens=#[]->
   codeAny (model l.prog w) callerA (.call (.ref fa) ⟨[.ref a],[]⟩) (fun r s'=>r=.ok (.ret (.bool true))/\OldK s₁.heap s'.heap/\s'.os=s₁.os/\AllBare s'.gens) s₁):
  WalkO q loose XP YP l.row.toRowW d [] (fun f vs=>PySem.call f vs):=by
 intro w s₀ s₁ mg mb G Y fa o pm cd doc dV kV ho hd hcd hD hmg hg args vals as hpre hlay hrd hwl hlo;obtain rfl:dV=.none:=Dflts.none hD hdf;obtain rfl:kV=.none:=Dflts.noKw hD;obtain⟨a,vs,ns,rfl,rfl,hobj,hints,hlen⟩:=script_of hn hpre hwl;refine enter_call (codeAny_mono (call w s₀ s₁ mg mb fa o pm cd doc a vs ns G Y ho (fd_plain hd) hcd hmg hobj hints hlen hg) fun r s' hq=>?_);obtain⟨rfl,h2,h3,h4⟩:=hq;exact⟨.inl ⟨.bool true,.bool true,[],rfl,fun _=>rfl,.bool true,post_true l _,fun _=>⟨List.Pairwise.nil,fun _ hm=>(nomatch hm)⟩⟩,h2,h3,h4⟩
end Att
namespace L2
open PySem PySem.Spec PyProof.Rows
theorem Gy:∀{vs:List Value} {ns:List Int},IntsAre vs ns->jg (ns.map V.int) vs
 | _,_,.nil=>.nil
 | _,_,.cons n t h=>.cons ⟨t,rfl⟩ (Gy h)
def xj(H:Hp):Prop:=∀b,H b=none \/∃o xs,H b=some (.frz o (.lst xs))
theorem xk{P:Program}{w:World}{K:PySem.W.Frag}{mg mb:Str->Option Value}{CX:Vh}{k:Nat}{fa a:Addr}{fd:FuncData}{x:Str}{sp:Sp}{s₁:Shared}{vs:List Value}{ns:List Int}
  (KX:K.In s₁.heap) (hns:s₁.heap.Ns mainGlobals mg) (hb:s₁.heap.Ns builtinsNs mb) (hbb:∀x:Str,x≠ "__name__" ->mb x=bootBuiltins x) (hlim:s₁.heap.NoLimit) (hg:s₁.gens=#[])
  (ha:s₁.heap.get? a=some { cls:=.type "list",data:=.seq vs.toArray }) (hi:IntsAre vs ns) (hl:ns.length<=sizeLine) (hr:Room k callerA)
  (F:∀base:Heap,K.In base->base.Ns mainGlobals mg->FnOk P w K mg base CX k fa fd [x] sp) (hbind:∀(s:Shared) (u:Value),BindsTo s fd ⟨[u],[]⟩ [(x,u)])
  (hsp:∀H:Hp,xj H->js K H a (ns.map V.int)->sp [.ref a] H (fun v _=>v=.bl true) fun _ _ _=>False)
  (hCX:∀H e s',CX [] H s₁ (fun _ _ _=>False) e s'->False):
  codeAny (model P w) callerA (.call (.ref fa) ⟨[.ref a],[]⟩) (fun r s'=>r=.ok (.ret (.bool true))/\OldK s₁.heap s'.heap/\s'.os=s₁.os/\AllBare s'.gens) s₁:=by
 have rv:=Gy hi;have lenV:=hi.length;have core:∀H:Hp,xj H->js K H a (ns.map V.int)->JG P w H s₁.heap->(∀b,H b≠none->b=a)->(H a≠none->K.lookup a=none)->
   codeAny (model P w) callerA (.call (.ref fa) ⟨[.ref a],[]⟩) (fun r s'=>r=.ok (.ret (.bool true))/\OldK s₁.heap s'.heap/\s'.os=s₁.os/\AllBare s'.gens) s₁:=by
  intro H hO hS hok hA hK;have base_of:∀{b:Addr} {o:Obj},s₁.heap.get? b=some o->H b=none->(vS s₁.heap H).get? b=some o:=fun e n=>QN e n;have noA:∀{b:Addr} {o:Obj} {es:Array DictEntry} {ep:Nat},s₁.heap.get? b=some o->o.data=.dict es ep->H b=none:=fun {b o es ep} e d=>by
   cases q:H b with
   | none=>rfl
   | some u=>
    have e':b=a:=hA b (by rw[q];simp);subst e';rw[ha]at e;cases e;have d':Data.seq vs.toArray _=Data.dict es ep:=d;cases d'
  have nsK:∀{b:Addr} {m:Str->Option Value},s₁.heap.Ns b m->(vS s₁.heap H).Ns b m:=fun {b m} ⟨o,es,ep,e,d,r⟩=>⟨o,es,ep,base_of e (noA e d),d,r⟩
  have hKb:K.In (vS s₁.heap H):=fun b o e=>base_of (KX b o e) (by
   cases q:H b with
   | none=>rfl
   | some u=>
    have e':b=a:=hA b (by rw[q];simp);subst e';rw[hK (by rw[q];simp)]at e;cases e)
  have hM:Mod K mg (vS s₁.heap H):=⟨hKb,nsK hns,⟨mb,nsK hb,hbb⟩,let ⟨mc,h1,h2⟩:=hlim;⟨mc,nsK h1,h2⟩⟩
  have e0:Env0 P w K mg (vS s₁.heap H) callerA [] s₁ H:=⟨rfl,hM,fun b o e=>Ah e,Nat.le_of_eq (qA _ _),trivial,fun b hb=>vDa (show b∈([]:List Addr) from hb) (by simp),hok,.of_eq hg⟩
  refine codeAny_mono ((F _ hKb (nsK hns)).run callerA [] s₁ H ⟨[.ref a],[]⟩ [.ref a] [.ref a] _ _ hr e0 (hbind s₁ (.ref a)) (.cons rfl .nil) (hsp H hO hS)) fun r s' h=>?_;cases r with
  | error e=>exact(hCX H e s' h).elim
  | ok fl=>
   cases fl with
   | next=>exact False.elim h
   | brk=>exact False.elim h
   | cont=>exact False.elim h
   | ret u=>
    obtain⟨v,H',os,bare,un,hok',r',q⟩:=h;have q':v=.bl true:=q;subst q';obtain rfl:u=Value.bool true:=r';refine⟨rfl,OldK.of_keep fun b o e=>?_,os,bare⟩;cases q:H b with
    | none=>exact un.keep b o e q (by intro z;exact vDa (show b∈([]:List Addr) from z) (by simp)) (by simp)
    | some u=>
     rcases hO b with z | ⟨ob,xs,z⟩
     ·rw[q]at z;cases z
     ·have z2:=un.frzs b ob _ z;obtain⟨e1,_⟩:=hok b _ z;obtain⟨e2,_⟩:=hok' b _ z2;rw[e]at e1;cases e1;exact e2
 cases hk:K.lookup a with
 | some o=>
  have e:=KX a o hk;rw[ha]at e;cases e;refine core (fun _=>none) (fun _=>.inl rfl) (.inr ⟨_,vs.toArray,_,hk,rfl,rfl,rfl,by rw[List.size_toArray,lenV];exact hl,by simpa using rv⟩) (fun b u z=>by have z':(none:Option HO)=some u:=z;cases z') (fun b z=>vDa rfl z) fun z=>vDa rfl z
 | none=>
  refine core (fun b=>if b=a then some (.frz { cls:=.type "list",data:=.seq vs.toArray } (.lst (ns.map V.int)))else none) (fun b=>?_) (.inl (.inr ⟨{ cls:=.type "list",data:=.seq vs.toArray },if_pos rfl⟩)) (fun b u z=>?_) (fun b z=>?_) fun _=>hk
  ·by_cases hb:b=a
   ·exact .inr ⟨_,_,if_pos hb⟩
   ·exact .inl (if_neg hb)
  ·by_cases hb:b=a
   ·have z':=(if_pos hb).symm.trans z;cases z';subst hb;exact⟨ha,by rw[List.length_map];exact hl,vs,_,rv,ha⟩
   ·have z':=(if_neg hb).symm.trans z;cases z'
  ·by_cases hb:b=a
   ·exact hb
   ·exact vDa (if_neg hb) z
noncomputable abbrev I_{K:PySem.W.Frag}{h:Heap}(_:K.In h):PySem.W.Frag:=K
theorem Az{l:PySem.W.OpenLaw}{n k:Nat}{q:Program}{loose:List Str}{XP:(Str->Option Value)->Heap->Prop}{YP:World->Heap->Prop}{d:DefRec}{K:Params->PySem.W.Frag}{CX:World->Vh}{sp:World->Sp}{x:Str}
  (hn:l.most=some n) (hn2:n<=sizeLine) (hdf:d.params.defaults=[]) (hr:Room k callerA)
  (hY:∀(w:World) (h:Heap),YP w h->(K w.params).In h)
  (F:∀(w:World) (mg:Str->Option Value) (fa:Addr) (h:Heap),(K w.params).In h->h.Ns mainGlobals mg->mg d.name=some (.ref fa)->
   ∃fd:FuncData,(∀(s:Shared) (u:Value),BindsTo s fd ⟨[u],[]⟩ [(x,u)])/\
    ∀base:Heap,(K w.params).In base->base.Ns mainGlobals mg->FnOk l.prog w (K w.params) mg base (CX w) k fa fd [x] (sp w))
  (hsp:∀(w:World) (H:Hp) (a:Addr) (ns:List Int),ns.length<=n->xj H->js (K w.params) H a (ns.map V.int)->sp w [.ref a] H (fun v _=>v=.bl true) fun _ _ _=>False)
  (hCX:∀(w:World) (H:Hp) (s:Shared) (e:Value) (s':Shared),CX w [] H s (fun _ _ _=>False) e s'->False):
  PySem.W.WalkO q loose XP YP l.row.toRowW d [] (fun f vs=>PySem.call f vs):=by
 refine Att.attach_call hn hdf fun w s₀ s₁ mg mb fa o pm cd doc a vs ns G Y ho hd hcd hmg hobj hints hlen hg=>?_;have KX:=hY w _ Y;obtain⟨fd,hb,hF⟩:=F w mg fa _ KX G.T.g hmg;exact xk KX G.T.g G.T.b G.T.builtins G.T.nolimit hg hobj hints (wSa hlen hn2) hr hF hb (fun H hO hS=>hsp w H a ns hlen hO hS) fun H e s'=>hCX w H s₁ e s'
noncomputable def inClass(s:Stmt)(j:Nat):Stmt:=match s with
 | .ClassDef _ _ _ body _ _ _ _ _ _ _=>body.getD j (.Pass ⟨0,0,0,0⟩)
 | _=>.Pass ⟨0,0,0,0⟩
noncomputable def defArgs(s:Stmt):Arguments:=match s with
 | .FunctionDef _ a _ _ _ _ _ _ _ _=>a
 | _=>{ posonlyargs:=[],args:=[],vararg:=none,kwonlyargs:=[],kw_defaults:=[],kwarg:=none,defaults:=[] }
noncomputable def defBody(s:Stmt):List Stmt:=match s with
 | .FunctionDef _ _ b _ _ _ _ _ _ _=>b
 | _=>[]
noncomputable def defScope(s:Stmt):Scope:=match s with
 | .FunctionDef _ _ _ _ _ _ sc _ _ _=>sc
 | _=>{ kind:=.function,names:=[],isGenerator:=false,isCoroutine:=false }
abbrev JH:Vh:=fun _ _ _ _ _ _=>False
abbrev E0:XK:=fun _ _ _=>False
theorem Wy{X:Cx}:vA JH X E0:=fun _ _ _ _ _ _ _ h=>h.elim
structure Fun (K:PySem.W.Frag) (x qual:Str) (st:Stmt) (f:Addr) (fd:FuncData):Prop where
 ex:∃(oc:Value) (od:Option Addr) (kV doc pm:Value) (an:Option Addr) (cdv ct:Value) (osl:Array (Option Value)),
  fd=PySem.W.fnOf x qual (defArgs st) (defBody st) (defScope st) .none kV doc pm an cdv ct/\K.lookup f=some ⟨oc,od,.func fd,osl⟩/\PySem.W.codeIn K cdv qual=true
 kp:PySem.W.keepIn K (.ref f)=true
section
variable {P:Program} {w:World} {K:PySem.W.Frag} {mg:Str->Option Value} {base:Heap}
theorem Fun.ok{x qual:Str}{st:Stmt}{f:Addr}{fd:FuncData}{N ps:List Str}{k:Nat}{sp:Sp}(F:Fun K x qual st f fd)(S:FnScope N ps (defScope st))(len:∀vs H Q E,sp vs H Q E->vs.length=ps.length)
  (hbody:∀(cdv:Value) (A:Around) (outer:List Env) (s:Shared) (H:Hp) (vs:List V) (Q:VK) (E:XK),Room k (A.deeper (envOfC qual (defScope st) s.heap.objs.size f cdv))->sp vs H Q E->
   ∃t,jr (jP JH P w K mg base N qual (defScope st) f cdv A outer s H E).nox (defBody st) t/\t { nx:=fun _ H'=>Q .non H',rt:=Q } (start N vs) H):FnOk P w K mg base JH (k+1) f fd ps sp:=by
 obtain⟨oc,od,kV,doc,pm,an,cdv,ct,osl,rfl,lk,hcd⟩:=F.ex;refine Ww lk hcd S len fun A outer s H vs Q E hr hsp=>?_;obtain⟨t,h,q⟩:=hbody cdv A outer s H vs Q E hr hsp;exact⟨t,h.nox,q⟩
theorem Fun.binds{x qual:Str}{st:Stmt}{f:Addr}{fd:FuncData}{ps:List Str}(F:Fun K x qual st f fd)
  (h:∀(kV doc pm:Value) (an:Option Addr) (cdv ct:Value) (us:List Value),us.length=ps.length->bindArgs (PySem.W.fnOf x qual (defArgs st) (defBody st) (defScope st) .none kV doc pm an cdv ct) ⟨us,[]⟩=pure (ps.zip us)):Js K fd ps []:=by
 obtain⟨oc,od,kV,doc,pm,an,cdv,ct,osl,rfl,lk,hcd⟩:=F.ex;exact .all (h kV doc pm an cdv ct)
theorem vC{x qual:Str}{st:Stmt}{f:Addr}{oc:Value}{od an:Option Addr}{osl:Array (Option Value)}{kV doc pm cdv ct:Value}(l:K.lookup f=some ⟨oc,od,.func (PySem.W.fnOf x qual (defArgs st) (defBody st) (defScope st) .none kV doc pm an cdv ct),osl⟩)
  (c:PySem.W.codeIn K cdv qual=true) (k:PySem.W.keepIn K (.ref f)=true):Fun K x qual st f (PySem.W.fnOf x qual (defArgs st) (defBody st) (defScope st) .none kV doc pm an cdv ct):=⟨⟨oc,od,kV,doc,pm,an,cdv,ct,osl,rfl,l,c⟩,k⟩
end
section
variable {X:Cx}
theorem pv(i:Nat){x:Str}{pos:Pos}(hN:X.N[i]?=some x:=by rfl)(hv:Go X.env.scope x:=by first | exact Or.inl rfl | exact Or.inr (Or.inl rfl) | exact Or.inr (Or.inr rfl))(hd:(x==("__debug__" : Str))=false:=by decide)
  (hcd:(x==("__classdict__" : Str))=false:=by decide):PE X (.Name x pos) (J_ i):=km hN hv hd hcd
end
theorem yE{A B:Prop}(h:B):if false=true then A else B:=by
 rw[if_neg Bool.false_ne_true];exact h
theorem yF{A B:Prop}(h:A):if true=true then A else B:=by
 rw[if_pos rfl];exact h
def j3(H H':Hp):Prop:=∀b o,H b=some o->H' b=some o
theorem j3.refl(H:Hp):j3 H H:=fun _ _ h=>h
theorem j3.trans{H H1 H2:Hp}(a:j3 H H1)(b:j3 H1 H2):j3 H H2:=fun c o h=>b c o (a c o h)
theorem j3.free{H H':Hp}(e:j3 H H'){l:Addr}(h:H' l=Option.none):H l=Option.none:=by
 cases q:H l with
 | none=>rfl
 | some o=>
  rw[e l o q]at h;cases h
theorem j3.seq{K:PySem.W.Frag}{H H':Hp}{a:Addr}{xs:List V}(e:j3 H H')(h:js K H a xs):js K H' a xs:=by
 rcases h with(h | ⟨o,h⟩) | h
 ·exact .inl (.inl (e _ _ h))
 ·exact .inl (.inr ⟨o,e _ _ h⟩)
 ·exact .inr h
end L2
set_option maxHeartbeats 4000000
namespace L2
open PySem PySem.Spec PyProof.Rows
noncomputable def Y1(env:Env):List (Str×NameKind)->List (Str×Addr)->List (Str×Addr)
 | [],cs=>cs
 | (n,k)::r,cs=>Y1 env r (if k==.free then(match env.cells.lookup n with | some a=>(n,a)::cs | none=>cs)else cs)
theorem gD{env:Env}:∀{ns:List (Str×NameKind)} {cs:List (Str×Addr)},(∀x c,cs.lookup x=some c->env.cells.lookup x=some c)->∀x c,(Y1 env ns cs).lookup x=some c->env.cells.lookup x=some c
 | [],_,h,x,c,e=>h x c e
 | (n,k)::r,cs,h,x,c,e=>by
  refine gD (ns:=r) ?_ x c e;intro y d q;by_cases hk:(k==NameKind.free)=true
  ·rw[if_pos hk]at q;cases hl:env.cells.lookup n with
   | none=>rw[hl]at q;exact h y d q
   | some a=>
    rw[hl]at q;have q:((n,a)::cs).lookup y=some d:=q;rw[List.lookup_cons]at q;cases hy:(y==n)with
    | true=>
     rw[hy]at q;have e1:y=n:=by simpa using hy
     have e2:a=d:=by simpa using q
     rw[e1,hl,e2]
    | false=>rw[hy]at q;exact h y d q
  ·rw[if_neg hk]at q;exact h y d q
theorem Gz{env:Env}:∀{ns:List (Str×NameKind)} {cs:List (Str×Addr)} {x:Str},(∃c,cs.lookup x=some c)->∃c,(Y1 env ns cs).lookup x=some c
 | [],_,_,h=>h
 | (n,k)::r,cs,x,h=>by
  refine Gz (ns:=r) ?_;by_cases hk:(k==NameKind.free)=true
  ·rw[if_pos hk];cases hl:env.cells.lookup n with
   | none=>exact h
   | some a=>
    show∃c,((n,a)::cs).lookup x=some c;rw[List.lookup_cons];cases hy:(x==n)with
    | true=>exact⟨a,rfl⟩
    | false=>exact h
  ·rw[if_neg hk];exact h
theorem Uj{env:Env}:∀{ns:List (Str×NameKind)} {cs:List (Str×Addr)} {x:Str},(x,NameKind.free)∈ns->(∃c,env.cells.lookup x=some c)->∃c,(Y1 env ns cs).lookup x=some c
 | (n,k)::r,cs,x,hm,hc=>by
  rcases List.mem_cons.mp hm with e | hm
  ·cases e;obtain⟨c,hc⟩:=hc;refine Gz (ns:=r) ?_;rw[if_pos (by rfl)];rw[hc];exact⟨c,by rw[List.lookup_cons];simp⟩
  ·exact Uj (ns:=r) hm hc
theorem wE{scope:Scope}{env:Env}(h:∀y∈scope.names,y.2=.free->∃c,env.cells.lookup y.1=some c):closureFor scope env=pure (Y1 env scope.names []):=by
 unfold closureFor;have go:∀(ns:List (Str×NameKind)) (cs:List (Str×Addr)),(∀y∈ns,y.2=.free->∃c,env.cells.lookup y.1=some c)->
   (forIn ns cs fun(x:Str×NameKind) (r:List (Str×Addr))=>(match x with
    | (name,kind)=>if (kind==NameKind.free)=true then(do let a<-cellOf env name;pure (ForInStep.yield ((name,a)::r)))else pure (ForInStep.yield r):Sem (ForInStep (List (Str×Addr)))))=pure (Y1 env ns cs):=by
  intro ns;induction ns with
  | nil=>intro cs _;rfl
  | cons p r ih=>
   obtain⟨n,k⟩:=p;intro cs hh;rw[List.forIn_cons];by_cases hk:(k==NameKind.free)=true
   ·obtain⟨c,hc⟩:=hh (n,k) wNa (by simpa using hk);have hc:env.cells.lookup n=some c:=hc;have e1:cellOf env n=pure c:=by unfold cellOf;rw[hc]
    have e2:Y1 env ((n,k)::r) cs=Y1 env r ((n,c)::cs):=by
     show Y1 env r (if (k==NameKind.free)=true then _ else _)=_;rw[if_pos hk,hc]
    dsimp only;rw[if_pos hk,e1,e2,<-ih ((n,c)::cs) fun y hy=>hh y (List.mem_cons_of_mem _ hy)];rfl
   ·have e2:Y1 env ((n,k)::r) cs=Y1 env r cs:=by
     show Y1 env r (if (k==NameKind.free)=true then _ else _)=_;rw[if_neg hk]
    dsimp only;rw[if_neg hk,e2,<-ih cs fun y hy=>hh y (List.mem_cons_of_mem _ hy)];rfl
 exact(congrArg (fun m=>m >>= fun r=>(pure r:Sem (List (Str×Addr)))) (go scope.names [] h)).trans rfl
def Cx.comp(X:Cx)(N':List Str)(scope:Scope)(s3:Shared)(H3:Hp)(ex':List Addr):Cx:=
 { X with N:=N',s₀:=s3,H₀:=H3,env:=compEnvC scope (Y1 X.env scope.names []) s3.heap.objs.size X.env,outer:=X.stack,stack:=X.stack,ex:=ex',fn:=fun _=>false,pn:=[],xe:=fun _ _=>False }
inductive Caps (X:Cx) (scope:Scope):List (Str×Nat)->Prop
 | nil:Caps X scope []
 | cons {y:Str} {j:Nat} {r:List (Str×Nat)}:X.N[j]?=some y->(X.env.kindOf y=some .cell \/ X.env.kindOf y=some .free)->scope.names.lookup y=some .free->Caps X scope r->Caps X scope ((y,j)::r)
theorem Caps.get{X:Cx}{scope:Scope}:∀{caps:List (Str×Nat)} {k:Nat} {y:Str} {j:Nat},Caps X scope caps->caps[k]?=some (y,j)->
  X.N[j]?=some y/\(X.env.kindOf y=some .cell \/ X.env.kindOf y=some .free)/\scope.names.lookup y=some .free
 | _,_,_,_,.nil,e=>by simp at e
 | _,0,_,_,.cons a b c _,e=>by simp at e;obtain⟨rfl,rfl⟩:=e;exact⟨a,b,c⟩
 | _,k+1,_,_,.cons _ _ _ t,e=>Caps.get (k:=k) t (by simpa using e)
noncomputable abbrev cN(own:List Str)(caps:List (Str×Nat)):List Str:=own++caps.map (·.1)
noncomputable abbrev ZG(own:List Str)(caps:List (Str×Nat))(U:St):St:=own.map (fun _=>none)++caps.map fun p=>(U[p.2]?).join
def zE(X:Cx)(ifs:List Expr)(t:TT):Prop:=
 ∀(pins:List (Addr×Obj)) (s:Shared) (U:St) (H:Hp) (Q:Bool->Hp->Prop),Inv X pins U H s->t U H Q->
  wpAny (model X.prog X.w) X.A (forIn ifs true fun c r=>if r=true then do let ok<-isTrue c X.env (eval c X.env);pure (ForInStep.yield ok)else pure (ForInStep.yield r)) (TP X pins U Q) X.xe s
def En:TT:=fun _ H Q=>Q true H
theorem AA{X:Cx}:zE X [] En:=fun _ _ _ H _ I h=>wpAny_tests_nil ⟨H,I,h⟩
theorem AB{X:Cx}{c:Expr}{t:TT}(h:PT X c t):zE X [c] t:=fun pins s U H Q I q=>wpAny_tests_one (h pins s U H Q I q)
theorem VD{scope:Scope}{env:Env}{x:Str}{k:NameKind}(h:(relabel scope env).names.lookup x=some k):∃k0,scope.names.lookup x=some k0/\(k=k0 \/ (k0=.free/\k=.cell)):=by
 have go:∀ns:List (Str×NameKind),(ns.map fun(n,k)=>if (k==NameKind.free&&env.scope.kind==.function&&env.kindOf n==some .cell)then(n,NameKind.cell)else(n,k)).lookup x=some k->
   ∃k0,ns.lookup x=some k0/\(k=k0 \/ (k0=.free/\k=.cell)):=by
  intro ns;induction ns with
  | nil=>intro q;simp at q
  | cons p r ih=>
   obtain⟨n,k1⟩:=p;intro q;have q:List.lookup x ((if (k1==NameKind.free&&env.scope.kind==.function&&env.kindOf n==some .cell)=true then(n,NameKind.cell)else(n,k1))::(r.map fun(n,k)=>if (k==NameKind.free&&env.scope.kind==.function&&env.kindOf n==some .cell)then(n,NameKind.cell)else(n,k)))=some k:=q;by_cases hc:(k1==NameKind.free&&env.scope.kind==.function&&env.kindOf n==some .cell)=true
   ·rw[if_pos hc,List.lookup_cons]at q;rw[List.lookup_cons];cases hx:(x==n)with
    | true=>
     rw[hx]at q;have e:NameKind.cell=k:=by simpa using q
     refine⟨k1,rfl,.inr ⟨?_,e.symm⟩⟩;simp only[Bool.and_eq_true]at hc;simpa using hc.1.1
    | false=>rw[hx]at q;exact ih q
   ·rw[if_neg hc,List.lookup_cons]at q;rw[List.lookup_cons];cases hx:(x==n)with
    | true=>
     rw[hx]at q;have e:k1=k:=by simpa using q
     exact⟨k1,rfl,.inl e.symm⟩
    | false=>rw[hx]at q;exact ih q
 exact go scope.names h
def kE(k:Nat)(J:It)(U0:St)(g:TG)(tc:TT)(te:TE)(Qv:VK)(W:Nat->Nat->List V->Hp->Prop):Prop:=∀i m vs H,W i m vs H->
  (J.stop i H/\vs.length<=sizeLine/\∀D,H D=none->Qv (.ref D) (upd H D (.lst vs))) \/
  (J.go i H/\vs.length < sizeLine/\∃N:List V->Hp->Prop,(∀vs' H',N vs' H'->∃m',m' < m/\W (i+1) m' vs' H')/\
   ∀x H',J.yld i H x H'->g x U0 H' fun U2 H2=>U2.drop k=U0.drop k/\tc U2 H2 fun b H3=>if b=true then te U2 H3 fun y H4=>N (vs++[y]) H4 else N vs H3)
section
variable {X:Cx} {elt tg iter:Expr} {ifs:List Expr} {scope:Scope} {pos:Pos} {own:List Str} {caps:List (Str×Nat)} {g:TG} {tc:TT} {te:TE} {pins:List (Addr×Obj)} {U:St} {H:Hp} {s2:Shared} {J:It} {fp:List Addr} {it:Addr} {tn:Nat->Heap->Prop} {Qv:VK}
theorem AD(hcell:∀y∈scope.names,y.2≠.cell)(hkind:scope.kind=.function)
  (hfr:∀y∈scope.names,y.2=.free->X.env.kindOf y.1=some .cell \/ X.env.kindOf y.1=some .free)
  (I:Inv X pins U H s2) {ex':List Addr} (hf:∀b∈ex',b < s2.heap.objs.size/\Jl X pins H b):(X.comp (cN own caps) scope s2 H ex').Ok:=by
 have cin:∀x c,(Y1 X.env scope.names []).lookup x=some c->X.env.cells.lookup x=some c:=gD fun _ _ e=>by simp at e
 refine⟨I.ok.mod,hkind,I.ok.glob,I.ok.blt,wPa _,fun x y c h1 h2=>I.ok.inj x y c (cin x c h1) (cin y c h2),fun x hx=>?_,fun _ _ z=>(by cases z),I.ok.hd,I.ok.frames,.inl rfl,fun b hb=>⟨wTa (hf b hb).1,fun x c h=>(hf b hb).2.2.2.2.2.1 x c (cin x c h)⟩,
  I.bs,wSa I.ok.bsz I.sz,fun b o e hb=>?_,fun b hb hs=>?_,I.stack,I.stkFree⟩
 ·have q:∃k,(relabel scope X.env).names.lookup x=some k/\(k=.cell \/ k=.free):=by
   rcases hx with hx | hx
   ·exact⟨_,hx,.inl rfl⟩
   ·exact⟨_,hx,.inr rfl⟩
  obtain⟨k,q,hk⟩:=q;obtain⟨k0,q0,hk0⟩:=VD q;have m0:=PySem.mem_of_lookup q0;have e0:k0=.free:=by
   rcases hk0 with e | e
   ·rcases hk with z | z
    ·exact vDa (e.symm.trans z) (hcell _ m0)
    ·exact e.symm.trans z
   ·exact e.1
  subst e0;exact Uj m0 (I.ok.has x (hfr _ m0 rfl))
 ·rcases(hf b hb).2.2.2.2.1 with z | z
  ·exact I.ok.noex b o e z
  ·exact vDa (Nat.lt_of_lt_of_le (wLa e) (wSa I.ok.bsz z)) (wUa _)
 ·rcases List.mem_cons.mp (I.stkSub b hs)with z | z
  ·exact(hf b hb).2.2.1 z
  ·exact(hf b hb).2.2.2.1 z
theorem Wz(hcell:∀y∈scope.names,y.2≠.cell)(hkind:scope.kind=.function)
  (hfr:∀y∈scope.names,y.2=.free->X.env.kindOf y.1=some .cell \/ X.env.kindOf y.1=some .free) (hcap:Caps X scope caps)
  (I:Inv X pins U H s2) {ex':List Addr} (hf:∀b∈ex',b < s2.heap.objs.size/\Jl X pins H b) {h1:Heap} {t:Nat} {m:Str->Option Value} (hn:h1.Ns s2.heap.objs.size m) (hk:∀b o,s2.heap.get? b=some o->h1.get? b=some o):
  Inv (X.comp (cN own caps) scope s2 H ex') [] (ZG own caps U) H { s2 with heap:=h1,toks:=t }:=by
 have cin:∀x c,(Y1 X.env scope.names []).lookup x=some c->X.env.cells.lookup x=some c:=gD fun _ _ e=>by simp at e
 have ok:=AD (own:=own) (caps:=caps) hcell hkind hfr I hf;refine⟨ok,rfl,I.bare,Un.kept hk,⟨m,hn,fun i x v e1 e2 e3=>?_⟩,fun x c e=>?_,I.hok.fresh (wPa _),fun x c e=>I.freeC x c (cin x c e),fun p hp=>vDa (show p∈([]:List (Addr×Obj)) from hp) (by simp),I.hok.kept hk,by simp[Cx.comp,cN,ZG]⟩
 ·by_cases hi:i < own.length
  ·have e2:(own.map (fun _=>(none:Option V))++caps.map fun p=>(U[p.2]?).join)[i]?=some (some v):=e2;rw[List.getElem?_append_left (by simpa using hi),List.getElem?_map]at e2;cases q:own[i]? with
   | none=>rw[q]at e2;cases e2
   | some _=>rw[q]at e2;cases e2
  ·have e2:(own.map (fun _=>(none:Option V))++caps.map fun p=>(U[p.2]?).join)[i]?=some (some v):=e2;have e1:(own++caps.map (·.1))[i]?=some x:=e1;rw[List.getElem?_append_right (by simpa using hi),List.getElem?_map]at e2;rw[List.getElem?_append_right (by simpa using hi),List.getElem?_map]at e1;rw[List.length_map]at e2;cases q:caps[i - own.length]? with
   | none=>rw[q]at e1;cases e1
   | some p=>
    obtain⟨y,j⟩:=p;rw[q]at e1 e2;have e1:y=x:=vFa e1;subst e1;have e2:(U[j]?).join=some v:=vFa e2;obtain⟨a1,a2,a3⟩:=hcap.get q;have sj:U[j]?=some (some v):=by
     cases z:U[j]? with
     | none=>rw[z]at e2;cases e2
     | some z'=>rw[z]at e2;exact congrArg some e2
    obtain⟨m0,hn0,hl0⟩:=I.loc;have vis:Go X.env.scope y:=by
     rcases a2 with z | z
     ·exact .inr (.inl z)
     ·exact .inr (.inr z)
    obtain⟨u,r,l⟩:=hl0 j y v a1 sj vis;refine⟨u,r,.inr ⟨?_,?_⟩⟩
    ·rcases e3 with z | z
     ·obtain⟨k0,q0,hk0⟩:=VD z;rw[a3]at q0;cases q0;rcases hk0 with z' | z'
      ·cases z'
      ·cases z'.2
     ·exact z
    ·rcases l with⟨hk',_⟩ | ⟨_,c,hc,z⟩
     ·rcases a2 with z | z <;> rw[hk']at z <;> cases z
     ·obtain⟨c',hc'⟩:=Uj (cs:=[]) (PySem.mem_of_lookup a3) ⟨c,hc⟩;have:=cin y c' hc';rw[hc]at this;cases this;obtain⟨o,ho,hd⟩:=z;exact⟨c,hc',o,hk c o ho,hd⟩
 ·obtain⟨v,o,ho,hd⟩:=I.cell x c (cin x c e);exact⟨v,o,hk c o ho,hd⟩
end
section
variable {X:Cx} {elt tg iter:Expr} {ifs:List Expr} {scope:Scope} {pos:Pos} {own:List Str} {caps:List (Str×Nat)} {g:TG} {tc:TT} {te:TE} {pins:List (Addr×Obj)} {U:St} {H:Hp} {s2:Shared} {J:It} {fp:List Addr} {it:Addr} {tn:Nat->Heap->Prop} {Qv:VK}
theorem JG.adopt{P:Program}{w:World}{H:Hp}{h:Heap}{D:Addr}{vs:List V}{ys:List Value}{k:Nat}(x:JG P w H h)(hn:H D=none)(hl:vs.length<=sizeLine)(r:jg vs ys)(e:h.get? D=some { cls:=.type "list",data:=.seq ys.toArray k }):JG P w (upd H D (.lst vs)) h:=fun b u q=>by
 by_cases hb:b=D
 ·subst hb;rw[ju]at q;cases q;exact⟨hl,ys,k,r,e⟩
 ·rw[je hb]at q;exact(x b u q).stay (fun _ _ _ z=>z) (fun c z=>by rw[je (jz z hn)];exact z) fun c xs z=>by rw[je (jz z hn)];exact z
theorem qR{N':List Str}{U':St}{H':Hp}{s':Shared}{D:Addr}{vs:List V}{ys:List Value}{k:Nat}(I:Inv X pins U H s2)(hD:D < s2.heap.objs.size)(fD:Jl X pins H D)(hf:∀b∈fp,Jl X pins H b)
  (J':Inv (X.comp N' scope s2 H (D::fp)) [] U' H' s') (hn:H' D=none) (hl:vs.length<=sizeLine) (r:jg vs ys) (e:s'.heap.get? D=some { cls:=.type "list",data:=.seq ys.toArray k }):
  Inv X pins U (upd H' D (.lst vs)) s':=by
 have u:Un (J8 X.stack) (D::fp) H H' s2.heap s'.heap:=J'.base;have nD:∀b,b∉D::fp->b≠D:=fun b hb z=>hb (by rw[z];exact wNa);refine I.call' (ch:=D::fp) J'.os ⟨u.keep,u.slot,fun b o q n hx=>?_,u.there,fun b xs q=>?_,fun b o v q=>?_,fun b ps q=>?_⟩ (J'.hok.adopt hn hl r e) J'.bare fun b hb=>?_
 ·rw[je (nD b hx)];exact u.free b o q n hx
 ·rw[je (jz q fD.1)];exact u.tups b xs q
 ·rw[je (jz q fD.1)];exact u.frzs b o v q
 ·rw[je (jz q fD.1)];exact u.tbls b ps q
 ·have F:Jl X pins H b:=by
   rcases List.mem_cons.mp hb with z | z
   ·rw[z];exact fD
   ·exact hf b z
  exact⟨F.2.2.2.1,F.2.1,F.2.2.2.2.1,F.2.2.2.2.2⟩
theorem AE{C:Addr}{D:Addr}{W:Nat->Nat->List V->Hp->Prop}(hc:X.calm=true)
  (hg:∀s3 H3 ex',PG (X.comp (cN own caps) scope s3 H3 ex') tg g) (ht:∀s3 H3 ex',zE (X.comp (cN own caps) scope s3 H3 ex') ifs tc) (he:∀s3 H3 ex',PE (X.comp (cN own caps) scope s3 H3 ex') elt te)
  (I:Inv X pins U H s2) (hD:D < s2.heap.objs.size) (fD:Jl X pins H D) (nDf:D∉fp) (hfl:∀b∈fp,b < s2.heap.objs.size) (hf:∀b∈fp,Jl X pins H b) (T:Turn X.prog X.w X.K tg J fp it tn) (turn:kE own.length J (ZG own caps U) g tc te Qv W)
  (R:Result->Shared->Prop) (hR:∀s',(∃H' m,Inv X pins U H' s'/\s'.heap.Ns s2.heap.objs.size m/\Jl X pins H' s2.heap.objs.size/\Qv (.ref D) H')->R (.ok .next) s')
  (n:Nat) (s4:Shared) (st:∃i vs H' ys k,Inv (X.comp (cN own caps) scope s2 H (D::fp)) [] (ZG own caps U) H' s4/\tn i s4.heap/\(∀b∈fp,H' b=none)/\H' D=none/\
   s4.heap.get? D=some { cls:=.type "list",data:=.seq (ys:List Value).toArray k }/\jg vs ys/\W i n vs H'):
  codeAny (model X.prog X.w) X.A (.compLoop (.ListComp elt [⟨tg,iter,ifs,0⟩] scope pos) 0 (.ref it) (.ref D) (X.comp (cN own caps) scope s2 H (D::fp)).env) R s4:=by
 let Y:=X.comp (cN own caps) scope s2 H (D::fp)
 have stat:∀{H':Hp},H' D=none->(∀b∈fp,H' b=none)->∀s':Shared,∀U',Inv Y [] U' H' s'->∀b∈D::fp,Jl Y [] H' b:=fun {H'} h0 h1 s' U' I' b hb=>by
  have hb':b < s2.heap.objs.size:=by
   rcases List.mem_cons.mp hb with z | z
   ·rw[z];exact hD
   ·exact hfl b z
  refine⟨?_,wTa hb',I'.ok.exfs b hb,.inl hb,(I'.ok.exf b hb).2,fun p hp=>vDa (show p∈([]:List (Addr×Obj)) from hp) (by simp)⟩;rcases List.mem_cons.mp hb with z | z
  ·rw[z];exact h0
  ·exact h1 b z
 refine codeAny_loop rfl (fun n s'=>∃i vs H' ys k,Inv Y [] (ZG own caps U) H' s'/\tn i s'.heap/\(∀b∈fp,H' b=none)/\H' D=none/\
   s'.heap.get? D=some { cls:=.type "list",data:=.seq (ys:List Value).toArray k }/\jg vs ys/\W i n vs H') ?_ n st
 rintro n s3 ⟨i,vs,H3,ys,k,I3,st3,fr3,n3,g3,r3,w3⟩;show wpAny _ _ ((compTurn (.ListComp elt [⟨tg,iter,ifs,0⟩] scope pos) 0 (.ref it) (.ref D) Y.env).onRaise (fun x=>do noteFrame x Y.env;theTreesLotGoes x)) _ _ s3;refine wpAny_noted ?_;rw[compTurn_list];have F0:=stat n3 fr3 s3 _ I3;have pinD:∀{U':St} {H':Hp} {s':Shared} {ps:List (Addr×Obj)} {zs:List Value} {kk:Nat},Inv Y ps U' H' s'->H' D=none->s'.heap.get? D=some { cls:=.type "list",data:=.seq zs.toArray kk }->Inv Y (ps++[(D,{ cls:=.type "list",data:=.seq zs.toArray kk })]) U' H' s':=fun {U' H' s' ps zs kk} I' hn hg'=>
  I'.pins_of fun p hp=>(List.mem_append.mp hp).elim (fun z=>I'.pin p (vJa _ z)) fun z=>by
   have e:p=(D,{ cls:=.type "list",data:=.seq zs.toArray kk }):=by simpa using z
   subst e;have f:=(stat n3 fr3 s3 _ I3) D wNa;exact⟨hg',hn,f.2.1,f.2.2.1,fun v z=>by cases z⟩
 have I3p:=pinD I3 n3 g3;have F3:∀b∈fp,Jl Y ([]++[(D,{ cls:=.type "list",data:=.seq ys.toArray k })]) H3 b:=fun b hb=>by
  obtain⟨f0,f1,f2,f3,f4,f5⟩:=F0 b (wMa _ hb);refine⟨f0,f1,f2,f3,f4,fun p hp z=>?_⟩;have e:p=(D,{ cls:=.type "list",data:=.seq ys.toArray k }):=by simpa[Y,Cx.comp]using hp
  subst e;exact nDf (by rw[show D=b from z];exact hb)
 rcases turn i n vs H3 w3 with⟨stop,hl,q⟩ | ⟨go,hl,N,hN,step⟩
 ·refine wAa (vOa (wAa (wCa (T.done Y rfl rfl rfl hc i _ s3 _ H3 (fun _ _=>False) I3p F3 st3 stop) (fun r s5 h5=>?_) fun _ _ z=>z.elim)));obtain⟨hr,I5p⟩:=h5;subst hr;refine wBa (hR s5 ?_);have g5:s5.heap.get? D=some { cls:=.type "list",data:=.seq ys.toArray k }:=(I5p.pin (D,_) (by simp)).1;have I5:Inv Y [] (ZG own caps U) H3 s5:=I5p.unpinned (pins:=[]);obtain⟨m5,hm5,_⟩:=id I5.loc;refine⟨_,m5,qR I hD fD hf I5 n3 hl r3 g5,hm5,I.fpOk (wPa _) ?_,q D n3⟩;rw[je (Nat.ne_of_gt hD)];exact I5.free
 ·refine wAa (vOa (wAa (wCa (T.item Y rfl rfl rfl hc i _ s3 _ H3 (fun _ _=>False) I3p F3 st3 go) (fun r s5 h5=>?_) fun _ _ z=>z.elim)));obtain⟨u,hr,h5⟩:=h5;subst hr;refine wAa (wCa h5 (fun _ s6 h6=>?_) fun _ _ z=>z.elim);obtain⟨x,H6,I6,r6,y6,st6,fr6⟩:=h6;have F6:∀b∈fp,Jl Y ([]++[(D,{ cls:=.type "list",data:=.seq ys.toArray k })]) H6 b:=fun b hb=>⟨fr6 b hb,(F3 b hb).2⟩
  have I6':=I6.pinned F6 (T.obj _ _ st6);refine wAa (wCa (hg s2 H (D::fp) _ s6 _ H6 x u _ I6' r6 (step x H6 y6)) (fun _ s7 h7=>?_) fun _ _ z=>z.elim);obtain⟨U7,H7,I7,d7,q7⟩:=h7;refine wAa (wCa (ht s2 H (D::fp) _ s7 U7 H7 _ I7 q7) (fun b s8 h8=>?_) fun _ _ z=>z.elim);obtain⟨H8,I8,q8⟩:=h8;have fin:∀{s9:Shared} {H9:Hp} {vs':List V} {zs:List Value} {kk:Nat},Inv Y [] U7 H9 s9->tn (i+1) s9.heap->(∀b∈fp,H9 b=none)->H9 D=none->s9.heap.get? D=some { cls:=.type "list",data:=.seq zs.toArray kk }->jg vs' zs->N vs' H9->
    ∃m,m < n/\∃i vs H' ys k,Inv Y [] (ZG own caps U) H' s9/\tn i s9.heap/\(∀b∈fp,H' b=none)/\H' D=none/\s9.heap.get? D=some { cls:=.type "list",data:=.seq (ys:List Value).toArray k }/\jg vs ys/\W i m vs H':=fun {s9 H9 vs' zs kk} I9 st9 fr9 n9 g9 r9 w9=>by
   obtain⟨m',hm,w'⟩:=hN vs' H9 w9;refine⟨m',hm,i+1,vs',H9,zs,kk,?_,st9,fr9,n9,g9,r9,w'⟩;have l9:U7.length=(ZG own caps U).length:=I9.len.trans (by simp[Y,Cx.comp,cN,ZG]);refine I9.weak l9.symm fun j v e=>?_;by_cases hj:j < own.length
   ·rw[List.getElem?_append_left (by simpa using hj),List.getElem?_map]at e;cases q:own[j]? with
    | none=>rw[q]at e;cases e
    | some _=>rw[q]at e;cases e
   ·have z:=congrArg (fun l=>l[j - own.length]?) d7;simp only[List.getElem?_drop]at z;have ej:own.length+(j - own.length)=j:=by omega
    rw[ej]at z;exact z.trans e
  have pins8:∀{s9:Shared} {H9:Hp},Inv Y ([]++[(D,{ cls:=.type "list",data:=.seq ys.toArray k })]++Vz fp s6.heap) U7 H9 s9->tn (i+1) s9.heap/\(∀b∈fp,H9 b=none)/\H9 D=none/\s9.heap.get? D=some { cls:=.type "list",data:=.seq ys.toArray k }:=fun {s9 H9} I9=>by
   refine⟨T.keep _ _ _ st6 fun b hb o e=>(I9.pin (b,o) (vJa _ (vJa _ (zV hb e)))).1,fun b hb=>?_,(I9.pin (D,{ cls:=.type "list",data:=.seq ys.toArray k }) (vJa _ (vIa _ (by simp)))).2.1,(I9.pin (D,{ cls:=.type "list",data:=.seq ys.toArray k }) (vJa _ (vIa _ (by simp)))).1⟩;obtain⟨o,e,d⟩:=T.obj _ _ st6 b hb;exact(I9.pin (b,o) (vJa _ (vJa _ (zV hb e)))).2.1
  cases b with
  | false=>
   obtain⟨a1,a2,a3,a4⟩:=pins8 I8;exact wBa ⟨rfl,fin (I8.unpinned.unpinned) a1 a2 a3 a4 r3 q8⟩
  | true=>
   refine wAa (wAa (wCa (he s2 H (D::fp) _ s8 U7 H8 _ I8 q8) (fun y s9 h9=>?_) fun _ _ z=>z.elim));obtain⟨v9,H9,I9,r9,q9⟩:=h9;obtain⟨a1,a2,a3,a4⟩:=pins8 I9;have hlz:ys.toArray.size<=sizeLine:=by
    have:=r3.length;simp only[List.size_toArray];omega
   refine wAa (wpAny_list_append_plain (hsz:=hlz) ⟨k,a4⟩ fun h' hp sb=>wBa (wBa ⟨rfl,?_⟩));obtain⟨k',g'⟩:=hp;have I9':Inv Y [] U7 H9 s9:=I9.unpinned.unpinned;have F9:=stat a3 a2 s9 _ I9' D wNa;obtain⟨f0,f1,f2,f3,f4,f5⟩:=F9;have I10:Inv Y [] U7 H9 { s9 with heap:=h' }:=I9'.turned (t':=s9.toks) (fun b o hb e=>(sb.2 b hb).trans e) f0 f1 f3 f4 f5;refine fin (zs:=ys++[y]) (kk:=k') I10 (T.keep _ _ _ a1 fun b hb o e=>(sb.2 b fun z=>nDf (by rw[<-z];exact hb)).trans e) a2 a3 ?_ (r3.append (.cons r9 .nil)) q9;rw[g'];simp
end
structure CScope (X:Cx) (scope:Scope):Prop where
 kind:scope.kind=.function
 loc:(scope.names.all fun y=>y.2 != .local||scope.names.lookup y.1==some .local)=true
 nocell:(scope.names.all fun y=>y.2 != .cell)=true
 free:(scope.names.all fun y=>y.2 != .free||X.env.scope.names.lookup y.1==some .cell||X.env.scope.names.lookup y.1==some .free)=true
section
variable {X:Cx} {elt tg iter:Expr} {ifs:List Expr} {scope:Scope} {pos:Pos} {own:List Str} {caps:List (Str×Nat)} {g:TG} {tc:TT} {te:TE} {pins:List (Addr×Obj)} {U:St} {H:Hp} {s2:Shared} {J:It} {fp:List Addr} {it:Addr} {tn:Nat->Heap->Prop} {Qv:VK}
theorem CScope.l(S:CScope X scope):∀x∈scope.names,x.2=.local->scope.names.lookup x.1=some .local:=fun x hx e=>by
 have:=List.all_eq_true.mp S.loc x hx;rw[e]at this;simpa using this
theorem CScope.c(S:CScope X scope):∀x∈scope.names,x.2≠.cell:=fun x hx e=>by
 have:=List.all_eq_true.mp S.nocell x hx;rw[e]at this;simp at this
theorem CScope.f(S:CScope X scope):∀y∈scope.names,y.2=.free->X.env.kindOf y.1=some .cell \/ X.env.kindOf y.1=some .free:=fun x hx e=>by
 have:=List.all_eq_true.mp S.free x hx;rw[e]at this;simpa[Env.kindOf]using this
theorem wF{E:Value->Shared->Prop}{RR:Value->Addr->Result->Shared->Prop}(S:CScope X scope)(hcap:Caps X scope caps)(hc:X.calm=true)
  (hg:∀s3 H3 ex',PG (X.comp (cN own caps) scope s3 H3 ex') tg g) (ht:∀s3 H3 ex',zE (X.comp (cN own caps) scope s3 H3 ex') ifs tc) (he:∀s3 H3 ex',PE (X.comp (cN own caps) scope s3 H3 ex') elt te)
  (I:Inv X pins U H s2) (T:Turn X.prog X.w X.K tg J fp it tn) (st:tn 0 s2.heap) (hf:∀b∈fp,Jl X pins H b)
  (w:∃W,(∃m,W 0 m [] H)/\kE own.length J (ZG own caps U) g tc te Qv W)
  (hRR:∀D C s' H' m,Inv X pins U H' s'->s'.heap.Ns C m->Jl X pins H' C->Qv (.ref D) H'->RR (.ref D) C (.ok .next) s'):
  wpAny (model X.prog X.w) X.A (newList []) (fun acc s3=>wpAny (model X.prog X.w) X.A (newFunctionEnv scope X.env.globals (Y1 X.env scope.names []) [] X.env.qual none .none (some X.env)) (fun cenv s4=>
   codeAny (model X.prog X.w) X.A (.compStart (.ListComp elt [⟨tg,iter,ifs,0⟩] scope pos) 0 (.ref it) acc { cenv with scope:=relabel scope X.env }) (RR acc cenv.locals) s4) E s3) E s2:=by
 obtain⟨W,⟨m0,w0⟩,turn⟩:=w;refine vTa (wpAny_newFunctionEnv S.c (by intro y hy;simp at hy) (fun h1 hns hsb=>?_) S.kind);have hlt:∀b∈fp,b < s2.heap.objs.size:=fun b hb=>by
  obtain⟨o,e,_⟩:=T.obj _ _ st b hb;exact wLa e
 let s3:Shared:={ s2 with heap:=s2.heap.push { cls:=.type "list",dict:=none,data:=.seq ([]:List Value).toArray } }
 have e3:s3.heap.objs.size=s2.heap.objs.size+1:=Heap.size_push ..;have I3:Inv X pins U H s3:=I.kept (t':=s2.toks) fun b o e=>wIa _ e;have fD:Jl X pins H s2.heap.objs.size:=I.fpOk (wPa _) (I.hok.fresh (wPa _));have hk:∀b o,s3.heap.get? b=some o->h1.get? b=some o:=fun b o e=>hsb.extBut b o (wTa (wLa e)) (wIa _ e);have hD:s2.heap.objs.size < s3.heap.objs.size:=by rw[e3];exact Nat.lt_succ_self _
 have hl3:∀b∈fp,b < s3.heap.objs.size:=fun b hb=>Nat.lt_trans (hlt b hb) hD;have I4:Inv (X.comp (cN own caps) scope s3 H (s2.heap.objs.size::fp)) [] (ZG own caps U) H { s3 with heap:=h1,toks:=s2.toks+([]:List (Str×Value)).length }:=by
  refine Wz S.c S.kind S.f hcap I3 (fun b hb=>?_) hns hk;rcases List.mem_cons.mp hb with z | z
  ·rw[z];exact⟨hD,fD⟩
  ·exact⟨hl3 b z,hf b z⟩
 have st4:tn 0 h1:=T.keep _ _ _ st fun b hb o e=>hk b o (wIa _ e);have g4:h1.get? s2.heap.objs.size=some { cls:=.type "list",data:=.seq ([]:List Value).toArray }:=hk _ _ (wJa _ rfl);have loop:=AE (C:=0) (iter:=iter) (pos:=pos) hc hg ht he I3 hD fD (fun z=>wUa _ (hlt _ z)) hl3 hf T turn (RR (.ref s2.heap.objs.size) s3.heap.objs.size) (fun s' ⟨H',m,a1,a2,a3,a4⟩=>hRR _ _ s' H' m a1 a2 a3 a4) m0
  { s3 with heap:=h1,toks:=s2.toks+([]:List (Str×Value)).length } ⟨0,[],H,[],0,I4,st4,fun b hb=>(hf b hb).1,fD.1,g4,.nil,w0⟩
 exact codeAny_compStart_list loop (T.self _ 0 _ _ _ st4 loop)
def BW(own:List Str)(caps:List (Str×Nat))(wi:TI)(g:TG)(tc:TT)(te:TE):TE:=fun U H Q=>wi U H fun J H1=>∃W,(∃m,W 0 m [] H1)/\kE own.length J (ZG own caps U) g tc te Q W
theorem Eo{wi:TI}(own:List Str)(caps:List (Str×Nat))(S:CScope X scope)(hcap:Caps X scope caps)(hc:X.calm=true)(hi:PI X tg iter wi)
  (hg:∀s3 H3 ex',PG (X.comp (cN own caps) scope s3 H3 ex') tg g) (ht:∀s3 H3 ex',zE (X.comp (cN own caps) scope s3 H3 ex') ifs tc) (he:∀s3 H3 ex',PE (X.comp (cN own caps) scope s3 H3 ex') elt te)
  (hs:∀x,foldedSetIterable iter X.env x=pure x:=by intro _;rfl):PE X (.ListComp elt [⟨tg,iter,ifs,0⟩] scope pos) (BW own caps wi g tc te):=by
 intro pins s U H Q I h;rw[eval_ListComp];refine wpAny_comprehension_free (use:=none) rfl hs (wE fun y hy e=>I.ok.has y.1 (S.f y hy e)) S.kind S.l (ji (hi pins s U H _ I h) fun xv s1 h1=>ji h1 fun itv s2 h2=>?_);obtain⟨it,fp,tn,J,H2,e,I2,T,st,f2,w⟩:=h2;subst e;refine wF (RR:=fun acc C=>compPost (model X.prog X.w) X.A X.xe none (EP X pins U Q) acc C) S hcap hc hg ht he I2 T st f2 w ?_;intro D C s' H' m I' hn hf' q;refine⟨m,hn,fun h' sb=>⟨.ref D,H',?_,rfl,q⟩⟩;obtain⟨f0,f1,f2,f3,f4,f5⟩:=hf';exact I'.turned (t':=s'.toks) (fun b o hb e=>(sb.2 b hb).trans e) f0 f1 f3 f4 f5
theorem kG{wi:TI}(own:List Str)(caps:List (Str×Nat)){i:Nat}{x:Str}{pos' spos:Pos}(hN:X.N.Nodup)(hix:X.N[i]?=some x)(hx:Vx X.env.scope x)(S:CScope X scope)(hcap:Caps X scope caps)(hc:X.calm=true)(hi:PI X tg iter wi)
  (hg:∀s3 H3 ex',PG (X.comp (cN own caps) scope s3 H3 ex') tg g) (ht:∀s3 H3 ex',zE (X.comp (cN own caps) scope s3 H3 ex') ifs tc) (he:∀s3 H3 ex',PE (X.comp (cN own caps) scope s3 H3 ex') elt te)
  (hs:∀x,foldedSetIterable iter X.env x=pure x:=by intro _;rfl)
  (hsw:swapsWith (.ListComp elt [⟨tg,iter,ifs,0⟩] scope pos) (some (.Name x pos')) spos.line X.env=pure true:=by rfl) (hf:X.fn x=true \/ X.env.scope.names.lookup x=some .local:=by first | exact .inl rfl | exact .inr rfl | assumption):
  PS X (.Assign [.Name x pos'] (.ListComp elt [⟨tg,iter,ifs,0⟩] scope pos) spos) (Yp (BW own caps wi g tc te) (YA i)):=by
 intro pins s U H D I h;rw[exec_Assign_Name_used _ _ _ _ hsw];refine wAa (vOa (wAa ?_));show wpAny _ _ (do let _<-comprehension (.ListComp elt [⟨tg,iter,ifs,0⟩] scope pos) scope X.env _ (newList []) false (eval iter X.env) (some (assign (.Name x pos') X.env))) _ _ s;refine wAa (wCa (wpAny_comprehension_free (use:=some (assign (.Name x pos') X.env)) (Q:=fun _ s'=>SP X pins D .next s') rfl hs (wE fun y hy e=>I.ok.has y.1 (S.f y hy e)) S.kind S.l
  (ji (hi pins s U H _ I h) fun xv s1 h1=>ji h1 fun itv s2 h2=>?_)) (fun _ s' hq=>wBa (wBa hq)) fun _ _ e=>e)
 obtain⟨it,fp,tn,J,H2,e,I2,T,st,f2,w⟩:=h2;subst e;refine wF (RR:=fun acc C=>compPost (model X.prog X.w) X.A X.xe (some (assign (.Name x pos') X.env)) (fun _ s'=>SP X pins D .next s') acc C) S hcap hc hg ht he I2 T st f2 w ?_;intro A C s' H' m I' hn hf' q;obtain⟨f0,f1,f2,f3,f4,f5⟩:=hf';show wpAny _ _ (assign (.Name x pos') X.env (.ref A)) _ _ _;refine wpAny_assign_Name (Gp (v:=.ref A) I' hN hix hx rfl (fun s'' I'' hsb=>?_) hf);obtain⟨a,sb,ha⟩:=hsb;have aC:C≠a:=by
  rcases ha with z | z
  ·rw[z];exact f1
  ·exact fun e=>f4 x a z e.symm
 refine⟨m,hn.sameBut sb aC,fun h' sb'=>⟨_,H',?_,q⟩⟩;exact I''.turned (t':=s''.toks) (fun b o hb e=>(sb'.2 b hb).trans e) f0 f1 f3 f4 f5
end
inductive Sk where
 | l | t
def Vi(K:PySem.W.Frag):Sk->Hp->Addr->List V->Prop
 | .l=>js K
 | .t=>Ju K
def jV:Sk->Heap->Addr->Array Value->Prop
 | .l,h,a,vs=>h.IsList a vs
 | .t,h,a,vs=>h.IsTuple a vs
def jW:Sk->Heap->Addr->Addr->Nat->Prop
 | .l,h,it,a,i=>h.IsListIter it a i
 | .t,h,it,a,i=>h.IsTupleIter it a i
theorem jV.at{k:Sk}{h h':Heap}{a:Addr}{vs:Array Value}(x:jV k h a vs)(e:∀o,h.get? a=some o->h'.get? a=some o):jV k h' a vs:=by
 cases k
 ·exact Heap.IsList.at x e
 ·obtain⟨o,ho,r⟩:=x;exact⟨o,e o ho,r⟩
theorem jW.at{k:Sk}{h h':Heap}{it a:Addr}{i:Nat}(x:jW k h it a i)(e:∀o,h.get? it=some o->h'.get? it=some o):jW k h' it a i:=by
 cases k <;> (obtain⟨o,ho,r⟩:=x;exact⟨o,e o ho,r⟩)
theorem jW.obj{k:Sk}{h:Heap}{it a:Addr}{i:Nat}(x:jW k h it a i):∃o,h.get? it=some o/\∀v,o.data≠.cell v:=by
 cases k <;> (obtain⟨o,ho,_,d⟩:=x;exact⟨o,ho,fun v z=>by rw[d]at z;cases z⟩)
theorem jV.lt{k:Sk}{h:Heap}{a:Addr}{vs:Array Value}(x:jV k h a vs):a < h.objs.size:=by
 cases k <;> (obtain⟨o,ho,_⟩:=x;exact wLa ho)
section
variable {prog:Program} {w:World} {A:Around} {E:Value->Shared->Prop} {s:Shared} {it a:Addr} {i:Nat} {its:Array Value} {x:Value}
theorem GO{Q:Value->Shared->Prop}(hi:s.heap.IsTupleIter it a i)(ht:s.heap.IsTuple a its)(hx:its[i]?=some x)
  (hQ:∀h',h'.IsTupleIter it a (i+1)->Heap.SameBut it s.heap h'->Q x { s with heap:=h' }):wpAny (model prog w) A (Builtin.SmallTypes.nextOf (.ref it)) Q E s:=by
 obtain⟨o,ho,hc,hd⟩:=id hi;obtain⟨oa,hoa,_,na,hda⟩:=ht;unfold Builtin.SmallTypes.nextOf;refine wAa (wpAny_callSpecial?_slot (name:=Str.ofString "__next__") hi.typeIs F.slot_tuple_iterator_next (wpAny_call_entry F.slot_tuple_iterator_next hi.typeIs F.entry_tuple_iterator_next ?_ (F.args_tuple_iterator_next_1 _)));show wpAny _ _ (field (.ref it) 0 >>= _) _ _ s;refine wAa (wpAny_field ho hd (x:=.ref a) rfl ?_);show wpAny _ _ (if (Value.ref a==Value.none)=true then _ else _) _ _ s;have nn:¬((Value.ref a==Value.none)=true):=vNa;rw[if_neg nn];show wpAny _ _ (field (.ref it) 1 >>= _) _ _ s;refine wAa (wpAny_field ho hd (x:=.int i 0) rfl ?_);show wpAny _ _ (seqItems? (.ref a) >>= _) _ _ s;refine wAa (wpAny_seqItems hoa hda ?_);simp only[Int.toNat_natCast,hx];refine wAa (wpAny_setField ho hd (by simp) (wBa ⟨x,rfl,wBa (hQ _ ⟨_,vUa _ ho (Obj.isFreed_of_fields (Obj.data_mapFields hd _)),(Obj.cls_mapFields ..).trans hc,?_⟩ (Heap.SameBut.update ..))⟩));rw[Obj.data_mapFields hd];simp[rawInt]
theorem kH{Q:Value->Shared->Prop}(hh:A.handled=none)(hi:s.heap.IsTupleIter it a i)(ht:s.heap.IsTuple a its)(hx:its[i]?=none)
  (hE:∀h' e,Heap.ExtBut it s.heap h'->(∃o,h'.get? e=some o/\o.cls=.type "StopIteration")->E (.ref e) { s with heap:=h' }):wpAny (model prog w) A (Builtin.SmallTypes.nextOf (.ref it)) Q E s:=by
 obtain⟨o,ho,hc,hd⟩:=id hi;obtain⟨oa,hoa,_,na,hda⟩:=ht;unfold Builtin.SmallTypes.nextOf;refine wAa (wpAny_callSpecial?_slot (name:=Str.ofString "__next__") hi.typeIs F.slot_tuple_iterator_next (wpAny_call_entry F.slot_tuple_iterator_next hi.typeIs F.entry_tuple_iterator_next ?_ (F.args_tuple_iterator_next_1 _)));show wpAny _ _ (field (.ref it) 0 >>= _) _ _ s;refine wAa (wpAny_field ho hd (x:=.ref a) rfl ?_);show wpAny _ _ (if (Value.ref a==Value.none)=true then _ else _) _ _ s;have nn:¬((Value.ref a==Value.none)=true):=vNa;rw[if_neg nn];show wpAny _ _ (field (.ref it) 1 >>= _) _ _ s;refine wAa (wpAny_field ho hd (x:=.int i 0) rfl ?_);show wpAny _ _ (seqItems? (.ref a) >>= _) _ _ s;refine wAa (wpAny_seqItems hoa hda ?_);simp only[Int.toNat_natCast,hx];refine wAa (wpAny_rule (wAa (wpAny_setField ho hd (by simp) ?_)));show wpAny _ _ (newExc (.type "StopIteration") [] >>= _) _ _ _;refine wAa ?_;simp only[newExc,newTuple];refine wAa (vTa ?_ (by size_fits));refine wAa (m:=firstArgMember _ _) (wpAny_of_eq (a:=Value.none) (by first | rfl | (simp only[firstArgMember];rfl)) (vTa ?_ (by size_fits)));simp only[raiseNew];refine wAa (wpAny_handled ?_)
 first | rw[show A.in1.handled=none from hh] | rw[hh]
 exact wAa (wBa (wpAny_throw (hE _ _ (((Heap.SameBut.update ..).extBut.push _).push _) ⟨_,wJa _ rfl,rfl⟩)))
theorem VE{k:Sk}{Q:Value->Shared->Prop}(hi:jW k s.heap it a i)(ht:jV k s.heap a its)(hx:its[i]?=some x)
  (hQ:∀h',jW k h' it a (i+1)->Heap.SameBut it s.heap h'->Q x { s with heap:=h' }):wpAny (model prog w) A (Builtin.SmallTypes.nextOf (.ref it)) Q E s:=by
 cases k
 ·exact wpAny_nextOf_list_item hi ht hx hQ
 ·exact GO hi ht hx hQ
theorem kI{k:Sk}{Q:Value->Shared->Prop}(hh:A.handled=none)(hi:jW k s.heap it a i)(ht:jV k s.heap a its)(hx:its[i]?=none)
  (hE:∀h' e,Heap.ExtBut it s.heap h'->(∃o,h'.get? e=some o/\o.cls=.type "StopIteration")->E (.ref e) { s with heap:=h' }):wpAny (model prog w) A (Builtin.SmallTypes.nextOf (.ref it)) Q E s:=by
 cases k
 ·exact wpAny_nextOf_list_end hh hi ht hx hE
 ·exact kH hh hi ht hx hE
noncomputable def vV(k:Sk)(a:Addr):Obj:={ cls:=.type (match k with | .l => "list_iterator" | .t => "tuple_iterator"),data:=.fields #[.ref a,.int 0 0] }
theorem UI{k:Sk}{h:Heap}{it a:Addr}(e:h.get? it=some (vV k a)):jW k h it a 0:=by
 cases k <;> exact⟨_,e,rfl,rfl⟩
theorem wG{k:Sk}{Q:Value->Shared->Prop}(ht:jV k s.heap a its)(hQ:Q (.ref s.heap.objs.size) { s with heap:=s.heap.push (vV k a) }):wpAny (model prog w) A (pyIter (.ref a)) Q E s:=by
 cases k
 ·exact wpAny_pyIter_list ht hQ
 ·exact wpAny_pyIter_tuple ht hQ
end
abbrev XU(k:Sk)(h:Heap)(a:Addr):Heap:=h.push (vV k a)
abbrev qS(k j:Sk)(h:Heap)(a b:Addr):Heap:=(XU k h a).push (vV j b)
abbrev XV(k j:Sk)(h:Heap)(a b:Addr):Heap:=(qS k j h a b).push { cls:=.type "tuple",data:=.seq #[.ref h.objs.size,.ref (XU k h a).objs.size] }
abbrev XW(k j:Sk)(h:Heap)(a b:Addr):Heap:=(XV k j h a b).push { cls:=.type "tuple",data:=.seq #[.none,.none] }
abbrev kJ(k j:Sk)(h:Heap)(a b:Addr):Heap:=(XW k j h a b).push { cls:=.type "zip",data:=.fields #[.none,.bool false,.bool false,.ref (qS k j h a b).objs.size,.ref (XV k j h a b).objs.size] }
theorem GP(k j:Sk)(a b:Addr)(xs ys:Array Value):
  Meets (Builtin.«zip.__new__» ⟨[.type "zip",.ref a,.ref b],[]⟩) (fun _ R s=>jV k s.heap a xs/\jV j s.heap b ys/\R (.ok (.ret (.ref (XW k j s.heap a b).objs.size))) { s with heap:=kJ k j s.heap a b }):=
 .of_wp fun prog w A R s h=>by
  obtain⟨hp,g,d,tk,os⟩:=s;obtain⟨ha,hb,h⟩:=h;have hsub:=sub_zip;have ha':jV k (Shared.heap ⟨hp,g,d,tk,os⟩) a xs:=ha;have hb':jV j (Shared.heap ⟨hp.push (vV k a),g,d,tk,os⟩) b ys:=hb.at fun o e=>wIa _ e
  wp_walk using wG ha',wG hb'
  exact⟨_,rfl,h⟩
section
variable {prog:Program} {w:World} {A:Around} {E:Value->Shared->Prop} {s:Shared}
theorem xm{k j:Sk}{a b:Addr}{xs ys:Array Value}{Q:Value->Shared->Prop}(ha:jV k s.heap a xs)(hb:jV j s.heap b ys)
  (h:∀h',IsZip h' (s.heap.objs.size+4) (s.heap.objs.size+2) (s.heap.objs.size+3) .none->IsPair h' (s.heap.objs.size+2) (.ref s.heap.objs.size) (.ref (s.heap.objs.size+1))->
   IsPair h' (s.heap.objs.size+3) .none .none->jW k h' s.heap.objs.size a 0->jW j h' (s.heap.objs.size+1) b 0->
   (∀c o,s.heap.get? c=some o->h'.get? c=some o)->Q (.ref (s.heap.objs.size+4)) { s with heap:=h' }):
  wpAny (model prog w) A (call (.type "zip") [.ref a,.ref b]) Q E s:=by
 refine callType_new F.called_zip (by decide) (F.typeCall_zip_2 _ _) (F.newCall_zip_2 _ _) (fun obj=>F.args_object_init_3 obj _ _) F.entry_zip_new (GP k j a b xs ys) ⟨ha,hb,?_⟩;have z1:(XU k s.heap a).objs.size=s.heap.objs.size+1:=Heap.size_push ..;have z2:(qS k j s.heap a b).objs.size=s.heap.objs.size+2:=by rw[Heap.size_push,z1]
 have z3:(XV k j s.heap a b).objs.size=s.heap.objs.size+3:=by rw[Heap.size_push,z2]
 have z4:(XW k j s.heap a b).objs.size=s.heap.objs.size+4:=by rw[Heap.size_push,z3]
 have up:∀c o,(qS k j s.heap a b).get? c=some o->(kJ k j s.heap a b).get? c=some o:=fun c o e=>wIa _ (wIa _ (wIa _ e));have g5:(kJ k j s.heap a b).get? (XW k j s.heap a b).objs.size=some _:=wJa _ rfl;have g4:(kJ k j s.heap a b).get? (XV k j s.heap a b).objs.size=some _:=wIa _ (wJa _ rfl);have g3:(kJ k j s.heap a b).get? (qS k j s.heap a b).objs.size=some _:=wIa _ (wIa _ (wJa _ rfl));have g2:(kJ k j s.heap a b).get? (XU k s.heap a).objs.size=some (vV j b):=up _ _ (wJa _ rfl);have g1:(kJ k j s.heap a b).get? s.heap.objs.size=some (vV k a):=up _ _ (wIa _ (wJa _ rfl));show _/\_;rw[z2,z3,z4]at g5;rw[z1,z2]at g3;rw[z3]at g4;rw[z1]at g2;rw[z4];exact⟨⟨_,g5,rfl⟩,h _ g5 g3 g4 (UI g1) (UI g2) fun c o x=>up c o (wIa _ (wIa _ x))⟩
variable {z TI TO i1 i2 a b:Addr} {k j:Sk} {n1 n2:Nat} {xs ys:Array Value} {x y:Value}
theorem xo{u v:Value}{Q:Value->Shared->Prop}(D:ZipApart z TI TO i1 i2 a b)(hz:IsZip s.heap z TI TO .none)(hTI:IsPair s.heap TI (.ref i1) (.ref i2))(hTO:IsPair s.heap TO u v)
  (h1:jW k s.heap i1 a n1) (h2:jW j s.heap i2 b n2) (ha:jV k s.heap a xs) (hb:jV j s.heap b ys) (hx:xs[n1]?=some x) (hy:ys[n2]?=some y)
  (hQ:∀h',IsZip h' z TI TO (rawInt s.heap.objs.size)->IsPair h' TO x y->jW k h' i1 a (n1+1)->jW j h' i2 b (n2+1)->IsPair h' s.heap.objs.size x y->
   (∀c o,c≠z->c≠TO->c≠i1->c≠i2->s.heap.get? c=some o->h'.get? c=some o)->Q (.ref s.heap.objs.size) { s with heap:=h' }):
  wpAny (model prog w) A (Builtin.«zip.__next__» ⟨[.ref z],[]⟩) (fun fin s'=>∃v,fin=.done (.ret v)/\Q v s') E s:=by
 show wpAny _ _ (field (.ref z) 2 >>= _) _ _ _;refine wAa (wpAny_field hz rfl (x:=.bool false) rfl ?_);show wpAny _ _ (field (.ref z) 3 >>= _) _ _ _;refine wAa (wpAny_field hz rfl (x:=.ref TI) rfl (wAa (wpAny_seqItems hTI rfl ?_)));show wpAny _ _ (Builtin.SmallTypes.ownedTupleIsFree (.ref z) >>= _) _ _ _;refine wAa ?_;unfold Builtin.SmallTypes.ownedTupleIsFree;refine wAa (wpAny_field hz rfl (x:=.none) rfl (wBa ?_));simp only[if_true];refine wAa (wpAny_rule (wAa (wpAny_field hz rfl (x:=.ref TO) rfl (wAa (wpAny_setField_rec hz (by simp) fun g1 z1 s1=>?_)))))
 replace z1:IsZip g1 z TI TO .ellipsis:=z1
 refine wAa ?_;simp only[List.zipIdx_cons,List.zipIdx_nil,List.forIn_cons,List.forIn_nil];have e1:∀c o,c≠z->s.heap.get? c=some o->g1.get? c=some o:=fun c o hc e=>s1.extBut c o hc e;refine wAa (wAa (wpAny_onRaise ?_));show wpAny _ _ (Builtin.SmallTypes.nextOf (.ref i1) >>= _) _ _ _;refine wAa (VE (h1.at fun o e=>e1 _ o D.i1z e) (ha.at fun o e=>e1 _ o D.l1z e) hx fun g2 it2 s2=>wBa ?_);have e2:∀c o,c≠z->c≠i1->s.heap.get? c=some o->g2.get? c=some o:=fun c o hc hd e=>s2.extBut c o hd (e1 c o hc e);have t2:IsPair g2 TO u v:=e2 _ _ D.TOz D.TOi1 hTO;refine wAa (wpAny_seqItems t2 rfl (wAa (wpAny_updateSeq_pair t2 fun g3 t3 s3=>?_)))
 replace t3:IsPair g3 TO x v:=t3
 refine wAa (wpAny_letGo (wBa (wAa (wAa (wpAny_onRaise ?_)))));have e3:∀c o,c≠z->c≠i1->c≠TO->s.heap.get? c=some o->g3.get? c=some o:=fun c o hc hd he e=>s3.extBut c o he (e2 c o hc hd e);show wpAny _ _ (Builtin.SmallTypes.nextOf (.ref i2) >>= _) _ _ _;refine wAa (VE (h2.at fun o e=>e3 _ o D.i2z D.i12.symm D.TOi2.symm e) (hb.at fun o e=>e3 _ o D.l2z D.l2i1 D.l2TO e) hy fun g4 it4 s4=>wBa ?_);have t4:IsPair g4 TO x v:=s4.extBut _ _ D.TOi2 t3;refine wAa (wpAny_seqItems t4 rfl (wAa (wpAny_updateSeq_pair t4 fun g5 t5 s5=>?_)))
 replace t5:IsPair g5 TO x y:=t5
 refine wAa (wpAny_letGo (wBa (wBa (wAa (wpAny_seqItems t5 rfl (wAa (wpAny_newTuple ?_)))))));have sz:g5.objs.size=s.heap.objs.size:=by rw[s5.1,s4.1,s3.1,s2.1,s1.1]
 have z5:IsZip g5 z TI TO .ellipsis:=s5.extBut _ _ D.TOz.symm (s4.extBut _ _ D.i2z.symm (s3.extBut _ _ D.TOz.symm (s2.extBut _ _ D.i1z.symm z1)));have e5:∀c o,c≠z->c≠TO->c≠i1->c≠i2->s.heap.get? c=some o->g5.get? c=some o:=fun c o c1 c2 c3 c4 e=>s5.extBut _ _ c2 (s4.extBut _ _ c4 (e3 c o c1 c3 c2 e));have it5:jW k g5 i1 a (n1+1):=((it2.at fun o e=>s3.extBut _ o D.TOi1.symm e).at fun o e=>s4.extBut _ o D.i12 e).at fun o e=>s5.extBut _ o D.TOi1.symm e;have jt5:jW j g5 i2 b (n2+1):=it4.at fun o e=>s5.extBut _ o D.TOi2.symm e;have lz:z < g5.objs.size:=wLa z5;show wpAny _ _ (Builtin.SmallTypes.ownedTupleHandOut (.ref z) (.ref g5.objs.size) >>= _) _ _ _;refine wAa ?_;unfold Builtin.SmallTypes.ownedTupleHandOut;have z6:IsZip (g5.push { cls:=.type "tuple",data:=.seq #[x,y] }) z TI TO .ellipsis:=wIa _ z5;refine wAa (wpAny_setField_rec z6 (by simp) fun g7 z7 s7=>?_)
 replace z7:IsZip g7 z TI TO (rawInt g5.objs.size):=z7
 refine wpAny_setField_rec z7 (by simp) fun g8 z8 s8=>?_
 replace z8:IsZip g8 z TI TO (rawInt g5.objs.size):=z8
 have up:∀c o,c≠z->g5.get? c=some o->g8.get? c=some o:=fun c o c1 e=>s8.extBut _ _ c1 (s7.extBut _ _ c1 (wIa _ e));have t8:IsPair g8 g5.objs.size x y:=s8.extBut _ _ (Nat.ne_of_gt lz) (s7.extBut _ _ (Nat.ne_of_gt lz) (wJa _ rfl));rw[sz]at z8 t8;refine wBa ⟨_,rfl,?_⟩;show Q (.ref g5.objs.size) _;rw[sz];exact hQ g8 z8 (up _ _ D.TOz t5) (it5.at fun o e=>up _ o D.i1z e) (jt5.at fun o e=>up _ o D.i2z e) t8 fun c o c1 c2 c3 c4 e=>up c o c1 (e5 c o c1 c2 c3 c4 e)
theorem xq{u v:Value}{Q:Fin->Shared->Prop}(hh:A.handled=none)(D:ZipApart z TI TO i1 i2 a b)(hz:IsZip s.heap z TI TO .none)(hTI:IsPair s.heap TI (.ref i1) (.ref i2))(hTO:IsPair s.heap TO u v)
  (h1:jW k s.heap i1 a n1) (h2:jW j s.heap i2 b n2) (ha:jV k s.heap a xs) (hb:jV j s.heap b ys) (hend:xs[n1]?=none \/ ys[n2]?=none)
  (hE:∀h' e,(∀c o,c≠z->c≠TO->c≠i1->c≠i2->s.heap.get? c=some o->h'.get? c=some o)->(∃o,h'.get? e=some o/\o.cls=.type "StopIteration")->E (.ref e) { s with heap:=h' }):
  wpAny (model prog w) A (Builtin.«zip.__next__» ⟨[.ref z],[]⟩) Q E s:=by
 show wpAny _ _ (field (.ref z) 2 >>= _) _ _ _;refine wAa (wpAny_field hz rfl (x:=.bool false) rfl ?_);show wpAny _ _ (field (.ref z) 3 >>= _) _ _ _;refine wAa (wpAny_field hz rfl (x:=.ref TI) rfl (wAa (wpAny_seqItems hTI rfl ?_)));show wpAny _ _ (Builtin.SmallTypes.ownedTupleIsFree (.ref z) >>= _) _ _ _;refine wAa ?_;unfold Builtin.SmallTypes.ownedTupleIsFree;refine wAa (wpAny_field hz rfl (x:=.none) rfl (wBa ?_));simp only[if_true];refine wAa (wpAny_rule (wAa (wpAny_field hz rfl (x:=.ref TO) rfl (wAa (wpAny_setField_rec hz (by simp) fun g1 z1 s1=>?_)))))
 replace z1:IsZip g1 z TI TO .ellipsis:=z1
 refine wAa ?_;simp only[List.zipIdx_cons,List.zipIdx_nil,List.forIn_cons,List.forIn_nil];have e1:∀c o,c≠z->s.heap.get? c=some o->g1.get? c=some o:=fun c o hc e=>s1.extBut c o hc e;refine wAa (wAa (wpAny_onRaise ?_));show wpAny _ _ (Builtin.SmallTypes.nextOf (.ref i1) >>= _) _ _ _;cases hx:xs[n1]? with
 | none=>
  refine wAa (kI hh (h1.at fun o e=>e1 _ o D.i1z e) (ha.at fun o e=>e1 _ o D.l1z e) hx fun g2 e s2 he=>?_);obtain⟨oe,hoe,hce⟩:=he;have z2:IsZip g2 z TI TO .ellipsis:=s2 _ _ D.i1z.symm z1;have ez:e≠z:=fun q=>by subst q;rw[z2]at hoe;cases hoe;simp at hce
  exact wpAny_setField_rec z2 (by simp) fun g3 _ s3=>hE g3 e (fun c o c1 _ c3 _ q=>s3.extBut _ _ c1 (s2 _ _ c3 (e1 _ _ c1 q))) ⟨oe,s3.extBut _ _ ez hoe,hce⟩
 | some x=>
  have hy:ys[n2]?=none:=by
   rcases hend with q | q
   ·rw[hx]at q;cases q
   ·exact q
  refine wAa (VE (h1.at fun o e=>e1 _ o D.i1z e) (ha.at fun o e=>e1 _ o D.l1z e) hx fun g2 it2 s2=>wBa ?_);have e2:∀c o,c≠z->c≠i1->s.heap.get? c=some o->g2.get? c=some o:=fun c o hc hd e=>s2.extBut c o hd (e1 c o hc e);have t2:IsPair g2 TO u v:=e2 _ _ D.TOz D.TOi1 hTO;refine wAa (wpAny_seqItems t2 rfl (wAa (wpAny_updateSeq_pair t2 fun g3 t3 s3=>?_)));refine wAa (wpAny_letGo (wBa (wAa (wAa (wpAny_onRaise ?_)))));have e3:∀c o,c≠z->c≠i1->c≠TO->s.heap.get? c=some o->g3.get? c=some o:=fun c o hc hd he e=>s3.extBut c o he (e2 c o hc hd e);show wpAny _ _ (Builtin.SmallTypes.nextOf (.ref i2) >>= _) _ _ _;refine wAa (kI hh (h2.at fun o e=>e3 _ o D.i2z D.i12.symm D.TOi2.symm e) (hb.at fun o e=>e3 _ o D.l2z D.l2i1 D.l2TO e) hy fun g4 e s4 he=>?_);obtain⟨oe,hoe,hce⟩:=he;have z4:IsZip g4 z TI TO .ellipsis:=s4 _ _ D.i2z.symm (s3.extBut _ _ D.TOz.symm (s2.extBut _ _ D.i1z.symm z1));have ez:e≠z:=fun q=>by subst q;rw[z4]at hoe;cases hoe;simp at hce
  exact wpAny_setField_rec z4 (by simp) fun g5 _ s5=>hE g5 e (fun c o c1 c2 c3 c4 q=>s5.extBut _ _ c1 (s4 _ _ c4 (e3 c o c1 c3 c2 q))) ⟨oe,s5.extBut _ _ ez hoe,hce⟩
theorem WA{u v:Value}{Q:Option Value->Shared->Prop}(D:ZipApart z TI TO i1 i2 a b)(hz:IsZip s.heap z TI TO .none)(hTI:IsPair s.heap TI (.ref i1) (.ref i2))(hTO:IsPair s.heap TO u v)
  (h1:jW k s.heap i1 a n1) (h2:jW j s.heap i2 b n2) (ha:jV k s.heap a xs) (hb:jV j s.heap b ys) (hx:xs[n1]?=some x) (hy:ys[n2]?=some y)
  (hQ:∀h',IsZip h' z TI TO (rawInt s.heap.objs.size)->IsPair h' TO x y->jW k h' i1 a (n1+1)->jW j h' i2 b (n2+1)->IsPair h' s.heap.objs.size x y->
   (∀c o,c≠z->c≠TO->c≠i1->c≠i2->s.heap.get? c=some o->h'.get? c=some o)->Q (some (.ref s.heap.objs.size)) { s with heap:=h' }):
  wpAny (model prog w) A (pyNext (.ref z)) Q E s:=by
 have hT:s.TypeIs (.ref z) "zip" := ⟨_,hz,rfl⟩
 unfold pyNext;exact wAa (wpAny_attempt (wpAny_callSpecial?_slot (name:=Str.ofString "__next__") hT F.slot_zip_next (wpAny_call_entry F.slot_zip_next hT F.entry_zip_next
   (xo D hz hTI hTO h1 h2 ha hb hx hy fun h' a1 a2 a3 a4 a5 a6=>wBa (hQ h' a1 a2 a3 a4 a5 a6)) (F.args_zip_next_1 _))))
theorem qT{u v:Value}{Q:Option Value->Shared->Prop}(hh:A.handled=none)(D:ZipApart z TI TO i1 i2 a b)(hz:IsZip s.heap z TI TO .none)(hTI:IsPair s.heap TI (.ref i1) (.ref i2))(hTO:IsPair s.heap TO u v)
  (h1:jW k s.heap i1 a n1) (h2:jW j s.heap i2 b n2) (ha:jV k s.heap a xs) (hb:jV j s.heap b ys) (hend:xs[n1]?=none \/ ys[n2]?=none)
  (hQ:∀h',(∀c o,c≠z->c≠TO->c≠i1->c≠i2->s.heap.get? c=some o->h'.get? c=some o)->Q none { s with heap:=h' }):wpAny (model prog w) A (pyNext (.ref z)) Q E s:=by
 have hT:s.TypeIs (.ref z) "zip" := ⟨_,hz,rfl⟩
 unfold pyNext;refine wAa (wpAny_attempt (wpAny_callSpecial?_slot (name:=Str.ofString "__next__") hT F.slot_zip_next (wpAny_call_entry F.slot_zip_next hT F.entry_zip_next (xq hh D hz hTI hTO h1 h2 ha hb hend fun h' e hk he=>?_) (F.args_zip_next_1 _))));obtain⟨o,ho,hc⟩:=he;exact wAa (wpAny_isInstance (T := "StopIteration") (b:=true) ⟨o,ho,hc⟩ isSubtype_stop (wBa (hQ _ hk)))
end
section
variable {X:Cx} {pins:List (Addr×Obj)} {U:St} {H:Hp} {s:Shared} {h':Heap}
theorem Inv.turnedL{t':Nat}{ch:List Addr}(I:Inv X pins U H s)(hch:∀b∈ch,Jl X pins H b)(k:∀c o,c∉ch->s.heap.get? c=some o->h'.get? c=some o):Inv X pins U H { s with heap:=h',toks:=t' }:=by
 have nit:∀b u,H b=some u->b∉ch:=fun b u e z=>by rw[(hch b z).1]at e;cases e
 refine I.step (g':=s.gens) (d':=s.drawn) (ch:=ch) (fun b hb=>?_) (fun b o _ _ hc e _=>k b o hc e) (fun b o _ _ hc e _=>⟨o.slots,k b o hc e⟩) (fun _ _ _ _ n=>n)
  (fun b o hc e=>⟨o,k b o hc e⟩) (fun _ _ e=>e) (fun _ _ _ e=>e) (fun b ps e=>⟨#[],by rw[e];simp⟩) (fun m hm=>?_) (fun b u e=>?_) I.bare
 ·obtain⟨f0,f1,f2,f3,f4,f5⟩:=hch b hb;exact⟨f3,f1,f4,f5⟩
 ·obtain⟨o,es,ep,ho,r⟩:=hm;exact⟨o,es,ep,k _ o (fun z=>(hch _ z).2.1 rfl) ho,r⟩
 ·refine(I.hok b u e).stay (fun c v hc q=>k c v ?_ q) (fun _ q=>q) fun _ _ q=>q;rcases hc with z | z
  ·rw[z];exact nit b u e
  ·exact nit c _ z
theorem Inv.tupled{t':Nat}{ch:List Addr}{T:Addr}{vs:List V}{us:List Value}(I:Inv X pins U H s)(hT:T=s.heap.objs.size)(hch:∀b∈ch,Jl X pins H b)(k:∀c o,c∉ch->s.heap.get? c=some o->h'.get? c=some o)
  (r:jg vs us) (hz:vs.length<=sizeLine) (ht:IsTup h' T us.toArray):Inv X pins U (upd H T (.tup vs)) { s with heap:=h',toks:=t' }:=by
 have nit:∀b u,H b=some u->b∉ch:=fun b u e z=>by rw[(hch b z).1]at e;cases e
 have nT:∀b o,s.heap.get? b=some o->b≠T:=fun b o e=>by rw[hT];exact wTa (wLa e)
 have fT:H T=none:=by rw[hT];exact I.hok.fresh (wPa _)
 refine I.step (g':=s.gens) (d':=s.drawn) (ch:=ch) (fun b hb=>?_) (fun b o _ _ hc e _=>k b o hc e) (fun b o _ _ hc e _=>⟨o.slots,k b o hc e⟩) (fun b o _ e n=>by rw[je (nT b o e)];exact n)
  (fun b o hc e=>⟨o,k b o hc e⟩) (fun b xs e=>by rw[je (jz e fT)];exact e) (fun b o u e=>by rw[je (jz e fT)];exact e) (fun b ps e=>⟨#[],by rw[je (jz e fT),e];simp⟩) (fun m hm=>?_) (fun b u e=>?_) I.bare
 ·obtain⟨f0,f1,f2,f3,f4,f5⟩:=hch b hb;exact⟨f3,f1,f4,f5⟩
 ·obtain⟨o,es,ep,ho,r⟩:=hm;exact⟨o,es,ep,k _ o (fun z=>(hch _ z).2.1 rfl) ho,r⟩
 ·by_cases hb:b=T
  ·subst hb;rw[ju]at e;cases e;exact⟨hz,us,r,ht⟩
  ·rw[je hb]at e;refine(I.hok b u e).stay (fun c v hc q=>k c v ?_ q) (fun c q=>by rw[je (jz q fT)];exact q) fun c xs q=>by rw[je (jz q fT)];exact q
   rcases hc with z | z
   ·rw[z];exact nit b u e
   ·exact nit c _ z
theorem Inv.seqK{k:Sk}{a:Addr}{xs:List V}(I:Inv X pins U H s)(h:Vi X.K k H a xs):∃its:List Value,jg xs its/\jV k s.heap a its.toArray/\xs.length<=sizeLine:=by
 cases k
 ·obtain⟨its,r,p,z⟩:=I.list h;exact⟨its,r,p.isList,z⟩
 ·obtain⟨its,r,p,z⟩:=I.tuple h;exact⟨its,r,p,z⟩
theorem Inv.seqK_inj{k:Sk}{a:Addr}{xs ys:List V}(I:Inv X pins U H s)(h:Vi X.K k H a xs)(h':Vi X.K k H a ys):xs=ys:=by
 cases k
 ·exact I.list_inj h h'
 ·exact I.tuple_inj h h'
end
theorem zv:2<=sizeLine:=by decide
def Ft(K:PySem.W.Frag)(k j:Sk)(a b:Addr):It:=
 ⟨fun i H=>∃xs ys x y,Vi K k H a xs/\Vi K j H b ys/\xs[i]?=some x/\ys[i]?=some y,
  fun i H v H'=>∃p,H p=none/\v=.ref p/\∀xs ys x y,Vi K k H a xs->Vi K j H b ys->xs[i]?=some x->ys[i]?=some y->H'=upd H p (.tup [x,y]),
  fun i H=>∃xs ys,Vi K k H a xs/\Vi K j H b ys/\(xs.length<=i \/ ys.length<=i)⟩
theorem xr{P:Program}{w:World}{K:PySem.W.Frag}{es:List Expr}{x1:Nat}{tp:Pos}{k j:Sk}{a b z TI TO i1 i2:Addr}(D:ZipApart z TI TO i1 i2 a b):
  Turn P w K (.Tuple es x1 tp) (Ft K k j a b) [z,TI,TO,i1,i2] z (fun i h=>IsZip h z TI TO .none/\IsPair h TI (.ref i1) (.ref i2)/\(∃u v,IsPair h TO u v)/\jW k h i1 a i/\jW j h i2 b i) where
 mem:=by simp
 obj:=fun i h st c hc=>by
  obtain⟨s1,s2,⟨u,v,s3⟩,s4,s5⟩:=st;simp only[List.mem_cons,List.not_mem_nil,or_false]at hc;rcases hc with rfl | rfl | rfl | rfl | rfl
  ·exact⟨_,s1,fun v z=>by cases z⟩
  ·exact⟨_,s2,fun v z=>by cases z⟩
  ·exact⟨_,s3,fun v z=>by cases z⟩
  ·exact s4.obj
  ·exact s5.obj
 keep:=fun i h h' st kk=>by
  obtain⟨s1,s2,⟨u,v,s3⟩,s4,s5⟩:=st;exact⟨kk z (by simp) _ s1,kk TI (by simp) _ s2,⟨u,v,kk TO (by simp) _ s3⟩,s4.at fun o e=>kk i1 (by simp) o e,s5.at fun o e=>kk i2 (by simp) o e⟩
 item:=by
  intro X hP hw hK hc i pins s U H E I hf st hg;subst hP hw hK;obtain⟨s1,s2,⟨u,v,s3⟩,s4,s5⟩:=st;obtain⟨xs,ys,x,y,qa,qb,ex,ey⟩:=hg;obtain⟨ia,ra,pa,_⟩:=I.seqK qa;obtain⟨ib,rb,pb,_⟩:=I.seqK qb;obtain⟨ux,eux,rx⟩:=ra.get ex;obtain⟨uy,euy,ry⟩:=rb.get ey;refine WA D s1 s2 s3 s4 s5 pa pb (x:=ux) (y:=uy) (by simpa using eux) (by simpa using euy) fun h' b1 b2 b3 b4 b5 bk=>?_;refine⟨_,rfl,wpAny_letOwnedTupleGo_zip b1 fun h2 c1 c2=>?_⟩;have F4:∀c∈[z,TO,i1,i2],Jl X pins H c:=fun c hc=>hf c (by
   simp only[List.mem_cons,List.not_mem_nil,or_false]at hc⊢;rcases hc with q | q | q | q
   ·exact .inl q
   ·exact .inr (.inr (.inl q))
   ·exact .inr (.inr (.inr (.inl q)))
   ·exact .inr (.inr (.inr (.inr q))))
  have kp:∀c o,c∉[z,TO,i1,i2]->s.heap.get? c=some o->h2.get? c=some o:=fun c o hc e=>by
   simp only[List.mem_cons,List.not_mem_nil,or_false,not_or]at hc;exact c2.extBut c o hc.1 (bk c o hc.1 hc.2.1 hc.2.2.1 hc.2.2.2 e)
  have nz:s.heap.objs.size≠z:=Nat.ne_of_gt (wLa s1);have ht:IsTup h2 s.heap.objs.size ([ux,uy]:List Value).toArray:=⟨_,c2.extBut _ _ nz b5,rfl,_,rfl⟩
  have I2:=I.tupled (t':=s.toks) (h':=h2) rfl F4 kp (vs:=[x,y]) (us:=[ux,uy]) (.cons rx (.cons ry .nil)) zv ht;refine⟨.ref s.heap.objs.size,_,I2,rfl,⟨s.heap.objs.size,I.hok.fresh (wPa _),rfl,fun xs' ys' x' y' qa' qb' ex' ey'=>?_⟩,⟨c1,kp _ _ (by simp[D.TIz,D.TITO,D.TIi1,D.TIi2]) s2,⟨ux,uy,c2.extBut _ _ D.TOz b2⟩,b3.at fun o e=>c2.extBut _ o D.i1z e,b4.at fun o e=>c2.extBut _ o D.i2z e⟩,fun c hc=>?_⟩
  ·rw[I.seqK_inj qa' qa,ex]at ex';rw[I.seqK_inj qb' qb,ey]at ey';cases ex';cases ey';rfl
  ·have q:=(hf c hc).1;rw[je ?_]
   ·exact q
   ·intro e;have:c < s.heap.objs.size:=by
     simp only[List.mem_cons,List.not_mem_nil,or_false]at hc;rcases hc with rfl | rfl | rfl | rfl | rfl
     ·exact wLa s1
     ·exact wLa s2
     ·exact wLa s3
     ·obtain⟨o,e,_⟩:=s4.obj;exact wLa e
     ·obtain⟨o,e,_⟩:=s5.obj;exact wLa e
    rw[e]at this;exact wUa _ this
 done:=by
  intro X hP hw hK hc i pins s U H E I hf st hg;subst hP hw hK;obtain⟨s1,s2,⟨u,v,s3⟩,s4,s5⟩:=st;obtain⟨xs,ys,qa,qb,hend⟩:=hg;obtain⟨ia,ra,pa,_⟩:=I.seqK qa;obtain⟨ib,rb,pb,_⟩:=I.seqK qb;have la:=ra.length;have lb:=rb.length;have hend':ia.toArray[i]?=none \/ ib.toArray[i]?=none:=by
   rcases hend with q | q
   ·exact .inl (by simp;omega)
   ·exact .inr (by simp;omega)
  refine qT (I.ok.hd hc) D s1 s2 s3 s4 s5 pa pb hend' fun h' bk=>⟨rfl,?_⟩
  refine I.turnedL (t':=s.toks) (ch:=[z,TI,TO,i1,i2]) hf fun c o hc e=>?_;simp only[List.mem_cons,List.not_mem_nil,or_false,not_or]at hc;exact bk c o hc.1 hc.2.2.1 hc.2.2.2.1 hc.2.2.2.2 e
 self:=fun _ _ _ _ _ st h=>wpAny_pyIter_zip st.1 h
theorem j3.tup{K:PySem.W.Frag}{H H':Hp}{a:Addr}{xs:List V}(e:j3 H H')(h:Ju K H a xs):Ju K H' a xs:=by
 rcases h with(h | ⟨o,h⟩) | h
 ·exact .inl (.inl (e _ _ h))
 ·exact .inl (.inr ⟨o,e _ _ h⟩)
 ·exact .inr h
section
variable {X:Cx}
theorem xt(hc:X.calm=true):yw X (.builtin "all") (fun xs H Q=>∃(p:Addr) (bs:List Bool),xs=[.ref p]/\js X.K H p (bs.map V.bl)/\Q (.bl (bs.all id)) H):=by
 intro pins s U H xs us Q I r h;obtain⟨p,bs,e,hq,q⟩:=h;subst e;cases r with
 | cons r rr=>
  cases rr;cases r;obtain⟨its,rv,pl,hz⟩:=I.list hq;refine call_all_walk (wpAny_pyIter_list pl.isList ?_);have hp:p < s.heap.objs.size:=by obtain⟨o,ho,_⟩:=pl.isList;exact wLa ho
  have hlen:its.length=bs.length:=by have:=rv.length;simp at this;omega
  refine⟨s.heap.objs.size,_,_,_,_,_,fun i=>(bs[i]?).getD true,rfl,Walks.list (A:=X.A.in1) (I.ok.hd hc) s.heap.objs.size p (wTa hp) its.toArray,⟨⟨_,wJa _ rfl,rfl,rfl⟩,Heap.IsList.at pl.isList fun o e=>wIa _ e⟩,?_,fun h' tk hk=>?_⟩
  ·intro i v s' Q' E' hv hq';have hv:its[i]?=some v:=by simpa using hv
   have hi:i < bs.length:=by rw[<-hlen];exact(List.getElem?_eq_some_iff.mp hv).1
   obtain⟨u,eu,ru⟩:=rv.get (i:=i) (x:=V.bl bs[i]) (by simp[hi]);rw[hv]at eu;cases eu;cases ru;have e1:(bs[i]?).getD true=bs[i]:=by simp[hi]
   have hq':Q' ((bs[i]?).getD true) s':=hq';rw[e1]at hq';exact wpAny_truthy_bool hq'
  ·have e:((List.range its.toArray.size).all fun i=>(bs[i]?).getD true)=bs.all id:=by
    rw[List.size_toArray,hlen,Bool.eq_iff_iff];simp only[List.all_eq_true,List.mem_range,id];constructor
    ·intro hh x hx;obtain⟨i,hi,rfl⟩:=List.mem_iff_getElem.mp hx;have:=hh i hi;simpa[hi]using this
    ·intro hh i hi;have:=hh bs[i] (List.getElem_mem hi);simpa[hi]using this
   rw[e];have I':Inv X pins U H { s with heap:=h',toks:=tk }:=I.turnedL (t':=tk) (ch:=[s.heap.objs.size]) (fun b hb=>by
    have e:b=s.heap.objs.size:=by simpa using hb
    subst e;exact I.fpOk (wPa _) (I.hok.fresh (wPa _))) (fun c o hc' e'=>hk c o hc' (wIa _ e'))
   exact⟨.bl (bs.all id),H,I',rfl,q⟩
inductive Kd where
 | i | b | s | l | t
def xu(K:PySem.W.Frag)(H:Hp):V->Kd->Prop
 | .int _,.i=>True
 | .bl _,.b=>True
 | .str _,.s=>True
 | .ref a,.l=>∃xs,js K H a xs
 | .ref a,.t=>∃xs,Ju K H a xs
 | _,_=>False
@[simp] noncomputable def Vj:Kd->Nat
 | .i=>0 | .b=>1 | .s=>2 | .l=>3 | .t=>4
def UJ(k:Kd)(T:String):Option Bool:=if T = "int" then some (Vj k==0||Vj k==1)else if T = "bool" then some (Vj k==1)else if T = "str" then some (Vj k==2)else if T = "list" then some (Vj k==3)else if T = "tuple" then some (Vj k==4)else none
theorem VF{k:Kd}{T:String}{b:Bool}(h:UJ k T=some b):(T = "int" /\(Vj k==0||Vj k==1)=b) \/ (T = "bool" /\(Vj k==1)=b) \/ (T = "str" /\(Vj k==2)=b) \/ (T = "list" /\(Vj k==3)=b) \/ (T = "tuple" /\(Vj k==4)=b):=by
 unfold UJ at h;by_cases t1:T = "int"
 ·rw[if_pos t1]at h;exact .inl ⟨t1,vFa h⟩
 rw[if_neg t1]at h;by_cases t2:T = "bool"
 ·rw[if_pos t2]at h;exact .inr (.inl ⟨t2,vFa h⟩)
 rw[if_neg t2]at h;by_cases t3:T = "str"
 ·rw[if_pos t3]at h;exact .inr (.inr (.inl ⟨t3,vFa h⟩))
 rw[if_neg t3]at h;by_cases t4:T = "list"
 ·rw[if_pos t4]at h;exact .inr (.inr (.inr (.inl ⟨t4,vFa h⟩)))
 rw[if_neg t4]at h;by_cases t5:T = "tuple"
 ·rw[if_pos t5]at h;exact .inr (.inr (.inr (.inr ⟨t5,vFa h⟩)))
 rw[if_neg t5]at h;cases h
def BX(K:PySem.W.Frag):List V->Hp->VK->Prop:=fun xs H Q=>∃x T k b,xs=[x,.ty T]/\xu K H x k/\UJ k T=some b/\Q (.bl b) H
theorem xw:yw X (.builtin "isinstance") (BX X.K):=by
 intro pins s U H xs us Q I r h;obtain⟨x,T,k,b,e,hk,hb,q⟩:=h;subst e;cases r with
 | cons r rr=>
  cases rr with
  | cons r' rr=>
   cases rr;cases r';have fin:∀tk,EP X pins U Q (.bool b) { s with toks:=tk }:=fun tk=>⟨.bl b,H,I.tok tk,rfl,q⟩
   have fin0:EP X pins U Q (.bool b) s:=⟨.bl b,H,I,rfl,q⟩
   cases k with
   | i=>
    cases x <;> try exact hk.elim
    obtain⟨t,rfl⟩:=r;rcases VF hb with⟨rfl,rfl⟩ | ⟨rfl,rfl⟩ | ⟨rfl,rfl⟩ | ⟨rfl,rfl⟩ | ⟨rfl,rfl⟩
    all_goals (first | exact IsiPair.int_int fin0 | exact IsiPair.int_bool (fin _) | exact IsiPair.int_str (fin _) | exact IsiPair.int_list (fin _) | exact IsiPair.int_tuple (fin _))
   | b=>
    cases x <;> try exact hk.elim
    cases r;rcases VF hb with⟨rfl,rfl⟩ | ⟨rfl,rfl⟩ | ⟨rfl,rfl⟩ | ⟨rfl,rfl⟩ | ⟨rfl,rfl⟩
    all_goals (first | exact IsiPair.bool_int fin0 | exact IsiPair.bool_bool fin0 | exact IsiPair.bool_str (fin _) | exact IsiPair.bool_list (fin _) | exact IsiPair.bool_tuple (fin _))
   | s=>
    cases x <;> try exact hk.elim
    obtain⟨t,rfl⟩:=r;rcases VF hb with⟨rfl,rfl⟩ | ⟨rfl,rfl⟩ | ⟨rfl,rfl⟩ | ⟨rfl,rfl⟩ | ⟨rfl,rfl⟩
    all_goals (first | exact IsiPair.str_str fin0 | exact IsiPair.str_int (fin _) | exact IsiPair.str_bool (fin _) | exact IsiPair.str_list (fin _) | exact IsiPair.str_tuple (fin _))
   | l=>
    cases x <;> try exact hk.elim
    cases r;obtain⟨ys,hq⟩:=hk;obtain⟨its,rv,pl,_⟩:=I.list hq;obtain⟨o,ho,hc,_⟩:=pl.isList;rcases VF hb with⟨rfl,rfl⟩ | ⟨rfl,rfl⟩ | ⟨rfl,rfl⟩ | ⟨rfl,rfl⟩ | ⟨rfl,rfl⟩
    all_goals (first | exact IsiPair.list_list ho hc fin0 | exact IsiPair.list_int ho hc (fin _) | exact IsiPair.list_bool ho hc (fin _) | exact IsiPair.list_str ho hc (fin _) | exact IsiPair.list_tuple ho hc (fin _))
   | t=>
    cases x <;> try exact hk.elim
    cases r;obtain⟨ys,hq⟩:=hk;obtain⟨its,rv,pl,_⟩:=I.tuple hq;obtain⟨o,ho,hc,_⟩:=pl;rcases VF hb with⟨rfl,rfl⟩ | ⟨rfl,rfl⟩ | ⟨rfl,rfl⟩ | ⟨rfl,rfl⟩ | ⟨rfl,rfl⟩
    all_goals (first | exact IsiPair.tuple_tuple ho hc fin0 | exact IsiPair.tuple_int ho hc (fin _) | exact IsiPair.tuple_bool ho hc (fin _) | exact IsiPair.tuple_str ho hc (fin _) | exact IsiPair.tuple_list ho hc (fin _))
noncomputable def vW:Kd->Bool
 | .l=>true
 | .t=>true
 | _=>false
def XX(K:PySem.W.Frag)(te:TE):TE:=fun U H Q=>te U H fun x H1=>∃k,xu K H1 x k/\∀p,H1 p=none->Q (.bl (vW k)) (upd H1 p (.tup [.ty "list",.ty "tuple"]))
theorem AF{e:Expr}{te:TE}{p p1 p2 tp pos:Pos}{x1:Nat}(hgi:Gl X "isinstance")(hmi:X.mg "isinstance" = none)(hgl:Gl X "list")(hml:X.mg "list" = none)(hgt:Gl X "tuple")(hmt:X.mg "tuple" = none)(he:PE X e te)
  (hs:starEach [e,.Tuple [.Name "list" p1,.Name "tuple" p2] x1 tp] X.env=(false,eval e X.env)::starEach [.Tuple [.Name "list" p1,.Name "tuple" p2] x1 tp] X.env:=by rfl)
  (hs2:starEach [.Tuple [.Name "list" p1,.Name "tuple" p2] x1 tp] X.env=(false,eval (.Tuple [.Name "list" p1,.Name "tuple" p2] x1 tp) X.env)::starEach [] X.env:=by rfl):
  PE X (.Call (.Name "isinstance" p) [e,.Tuple [.Name "list" p1,.Name "tuple" p2] x1 tp] [] pos) (XX X.K te):=by
 intro pins s U H Q I h;refine wpAny_Call_Name_kw (zq I hgi hmi boot_isinstance ?_);refine PyProof.Rows.callWith_builtin1 ?_ hs (by rw[hs2];rfl);rw[hs];show wpAny _ _ (spliced ((false,eval e X.env)::backTo pos (starEach [.Tuple [.Name "list" p1,.Name "tuple" p2] x1 tp] X.env))) _ _ s;refine Calls.spliced_cons (ji (he pins s U H _ I h) fun u s1 xx=>?_);obtain⟨x,H1,I1,r1,k,hk,q⟩:=xx;rw[hs2];show wpAny _ _ (spliced ((false,eval (.Tuple [.Name "list" p1,.Name "tuple" p2] x1 tp) X.env)::backTo pos (starEach [] X.env))) _ _ s1;refine Calls.spliced_cons ?_;have hpa:PA X [.Name "list" p1,.Name "tuple" p2] (Jk (tC (.ty "list")) (Jk (tC (.ty "tuple")) Y0)):=jx (ud hgl hml boot_list rfl) (jx (ud hgt hmt boot_tuple rfl) jU);refine wpAny_Tuple_spliced (ji (hpa tp pins s1 U H1 (fun vs H2=>vs=[.ty "list",.ty "tuple"]/\H2=H1) I1 ⟨rfl,rfl⟩) fun us s2 xx=>?_);obtain⟨xs,H2,I2,r2,e1,e2⟩:=xx;subst e1 e2;have eu:us=[.type "list",.type "tuple"]:=by
  cases r2 with
  | cons a b=>
   cases b with
   | cons c d=>
    cases d;cases a;cases c;rfl
 subst eu;refine⟨zv,Calls.spliced_nil ?_⟩;have hf:H2 s2.heap.objs.size=none:=I2.hok.fresh (wPa _);have I3:=I2.laid (h':=s2.heap.push { cls:=.type "tuple",data:=.seq ([.type "list",.type "tuple"]:List Value).toArray }) (t':=s2.toks) (o:=.tup [.ty "list",.ty "tuple"]) (fun b u e=>wIa _ e) (wPa _)
  ⟨zv,[.type "list",.type "tuple"],.cons rfl (.cons rfl .nil),⟨_,wJa _ rfl,rfl,_,rfl⟩⟩
 have fin:∀b tk,b=vW k->EP X pins U Q (.bool b) { s2 with heap:=s2.heap.push { cls:=.type "tuple",data:=.seq ([.type "list",.type "tuple"]:List Value).toArray },toks:=tk }:=fun b tk eb=>by
  subst eb;exact⟨.bl (vW k),_,I3.tok tk,rfl,q _ hf⟩
 have tob:∀a o,s2.heap.get? a=some o->(s2.heap.push { cls:=.type "tuple",data:=.seq ([.type "list",.type "tuple"]:List Value).toArray }).get? a=some o:=fun a o e=>wIa _ e;cases k with
 | i=>
  cases x <;> try exact hk.elim
  obtain⟨t,rfl⟩:=r1;exact IsiPair.tupleOf (Tx := "int") (cs:=[.type "list",.type "tuple"]) (vs:=[false,false]) ⟨Answers.of_false_int (by decide +kernel) F.isi_meta_list F.sub_int_list,Answers.of_false_int (by decide +kernel) F.isi_meta_tuple F.sub_int_tuple,trivial⟩ rfl (wJa _ rfl) fun tk=>fin _ tk rfl
 | b=>
  cases x <;> try exact hk.elim
  cases r1;exact IsiPair.tupleOf (Tx := "bool") (cs:=[.type "list",.type "tuple"]) (vs:=[false,false]) ⟨Answers.of_false_bool (by decide +kernel) F.isi_meta_list F.sub_bool_list,Answers.of_false_bool (by decide +kernel) F.isi_meta_tuple F.sub_bool_tuple,trivial⟩ rfl (wJa _ rfl) fun tk=>fin _ tk rfl
 | s=>
  cases x <;> try exact hk.elim
  obtain⟨t,rfl⟩:=r1;exact IsiPair.tupleOf (Tx := "str") (cs:=[.type "list",.type "tuple"]) (vs:=[false,false]) ⟨Answers.of_false_str (by decide +kernel) F.isi_meta_list F.sub_str_list,Answers.of_false_str (by decide +kernel) F.isi_meta_tuple F.sub_str_tuple,trivial⟩ rfl (wJa _ rfl) fun tk=>fin _ tk rfl
 | l=>
  cases x <;> try exact hk.elim
  cases r1;obtain⟨ys,hq⟩:=hk;obtain⟨its,rv,pl,_⟩:=I2.list hq;obtain⟨o,ho,hc,_⟩:=pl.isList;exact IsiPair.tupleOf (Tx := "list") (cs:=[.type "list",.type "tuple"]) (vs:=[true,false]) ⟨Answers.of_true F.isi_meta_list F.sub_list_list,Answers.of_false_list (by decide +kernel) F.isi_meta_tuple F.sub_list_tuple,trivial⟩ ⟨o,tob _ _ ho,hc⟩ (wJa _ rfl) fun tk=>fin _ tk rfl
 | t=>
  cases x <;> try exact hk.elim
  cases r1;obtain⟨ys,hq⟩:=hk;obtain⟨its,rv,pl,_⟩:=I2.tuple hq;obtain⟨o,ho,hc,_⟩:=pl;exact IsiPair.tupleOf (Tx := "tuple") (cs:=[.type "list",.type "tuple"]) (vs:=[false,true]) ⟨Answers.of_false_tuple (by decide +kernel) F.isi_meta_list F.sub_tuple_list,Answers.of_true F.isi_meta_tuple F.sub_tuple_tuple,trivial⟩ ⟨o,tob _ _ ho,hc⟩ (wJa _ rfl) fun tk=>fin _ tk rfl
end
def gE(r r' r'':R2)(ta tb tc td:TE):TE:=fun U H Q=>ta U H fun x H1=>tb U H1 fun y H2=>r x y H2 fun z H3=>∃k,z=.bl k/\
 (if k=true then tc U H3 fun w' H4=>r' y w' H4 fun z' H5=>∃k',z'=.bl k'/\(if k'=true then td U H5 fun q H6=>r'' w' q H6 Q else Q (.bl false) H5)else Q (.bl false) H3)
section
variable {X:Cx} {a b c d:Expr} {ta tb tc td:TE} {pos:Pos}
theorem qU{op op' op'':CmpOp}{r r' r'':R2}(ho:jH X (compareOp op) r)(ho':jH X (compareOp op') r')(ho'':jH X (compareOp op'') r'')(ha:PE X a ta)(hb:PE X b tb)(hc:PE X c tc)(hd:PE X d td)
  (hm:lastMarks [op,op',op''] [b,c,d]=false:=by with_unfolding_all rfl):PE X (.Compare a [op,op',op''] [b,c,d] pos) (gE r r' r'' ta tb tc td):=by
 intro pins s U H Q I h;refine Compare_chain (ji (ha pins s U H _ I h) fun v s1 ⟨x,H1,I1,r1,q1⟩=>chain_link (ji (hb pins s1 U H1 _ I1 q1) fun u s2 ⟨y,H2,I2,r2,q2⟩=>
  ji (ho pins s2 U H2 x y v u _ I2 r1 r2 q2) fun _ s3 ⟨z,H3,I3,r3,k,e,q3⟩=>?_)) hm
 subst e;cases r3;refine wpAny_truthy_bool ?_;cases k with
 | false=>exact ite_ff ⟨.bl false,H3,I3,rfl,q3⟩
 | true=>
  refine ite_tt (chain_link (ji (hc pins s3 U H3 _ I3 q3) fun w' s4 ⟨z',H4,I4,r4,q4⟩=>ji (ho' pins s4 U H4 y z' u w' _ I4 r2 r4 q4) fun _ s5 xx=>?_));obtain⟨z5,H5,I5,r5,k5,e5,q5⟩:=xx;subst e5;cases r5;refine wpAny_truthy_bool ?_;cases k5 with
  | false=>exact ite_ff ⟨.bl false,H5,I5,rfl,q5⟩
  | true=>exact ite_tt (chain_last (ji (hd pins s5 U H5 _ I5 q5) fun w6 s6 ⟨z6,H6,I6,r6,q6⟩=>ho'' pins s6 U H6 z' z6 w' w6 Q I6 r4 r6 q6))
end
section
variable {X:Cx}
open PySem.SeqAt
end
structure FnI (P:Program) (w:World) (K:PySem.W.Frag) (mg:Str->Option Value) (base:Heap) (k:Nat) (x:Str) (ps:List Str) (sp:Sp):Prop where
 ex:∃f fd,FnOk P w K mg base JH k f fd ps sp/\Js K fd ps []/\PySem.W.keepIn K (.ref f)=true/\mg x=some (.ref f)
structure MtI (P:Program) (w:World) (K:PySem.W.Frag) (mg:Str->Option Value) (base:Heap) (k:Nat) (C:Addr) (m:Str) (ps:List Str) (sp:Sp):Prop where
 ex:∃f fd,FnOk P w K mg base JH k f fd ps sp/\Js K fd ps []/\Meth K C m f
structure MkI (P:Program) (w:World) (K:PySem.W.Frag) (mg:Str->Option Value) (base:Heap) (k:Nat) (C:Addr) (x:Str) (ps:List Str) (sp:Sp):Prop where
 ex:∃f fd,FnOk P w K mg base JH k f fd ps sp/\Js K fd ps []/\Mk K C f/\mg x=some (.ref C)
section
variable {X:Cx} {k:Nat} {x m:Str} {ps:List Str} {sp:Sp} {p pos apos:Pos} {e o:Expr} {es:List Expr} {t:TA} {ta:TE} {C:Addr}
theorem WB(F:FnI X.prog X.w X.K X.mg X.base k x ps sp)(hr:Room k X.A)(ha:PA X (e::es) t)(hg:Gl X x:=by rfl)(hdb:(x==("__debug__" : Str))=false:=by decide)
  (he:starEach (e::es) X.env=(false,eval e X.env)::starEach es X.env:=by rfl) (hpl:(backTo pos (starEach es X.env)).any (·.1)=false:=by rfl):PE X (.Call (.Name x p) (e::es) [] pos) (Wv sp [] E0 t):=by
 obtain⟨f,fd,G,b,kp,hm⟩:=F.ex;exact As G hr hg hm kp b .nil Wy ha hdb he hpl
theorem qV{pl:Sem Bool}(he:PE X o ta)(c:Cls X.K C)(M:MtI X.prog X.w X.K X.mg X.base k C m ps sp)(hr:Room k X.A)
  (ht:eval (.Call (.Attribute o m apos) [] [] pos) X.env=(do
   let ov<-eval o X.env
   standAt apos.atName
   let (f,first)<-holding [ov] (getMethod ov m pl)
   callWith pos f first (backTo pos (starEach [] X.env)) (backToKw pos (keywordEach [] X.env))):=by rfl):
  PE X (.Call (.Attribute o m apos) [] [] pos) (XO C m sp [] E0 ta Y0):=by
 obtain⟨f,fd,G,b,hm⟩:=M.ex;exact xa he c hm G hr b .nil Wy ht
theorem Ep(M:MkI X.prog X.w X.K X.mg X.base k C x ps sp)(hr:Room (k+1) X.A)(ha:PA X (e::es) t)(hg:Gl X x:=by rfl)(hdb:(x==("__debug__" : Str))=false:=by decide)
  (he:starEach (e::es) X.env=(false,eval e X.env)::starEach es X.env:=by rfl) (hpl:(backTo pos (starEach es X.env)).any (·.1)=false:=by rfl):PE X (.Call (.Name x p) (e::es) [] pos) (XQ C sp [] E0 t):=by
 obtain⟨f,fd,G,b,mk,hm⟩:=M.ex;exact Au mk G hr hg hm b .nil Wy ha hdb he hpl
theorem BZ(ho:PE X o ta)(ha:PA X [e] t)(hbase:attributeBase o "append" X.env (eval o X.env)=eval o X.env:=by rfl)
  (hfew:((backTo pos (starEach [e] X.env)).all (fun x=>!x.1)&&(backToKw pos (keywordEach [] X.env)).all (fun x=>x.1.isSome)
   && decide (([e]:List Expr).length+([]:List Keyword).length+(if ([]:List Keyword).isEmpty then 0 else 1) < 30))=true:=by rfl)
  (hline:(apos.endLine==pos.line)=true:=by rfl) (hs:starEach [e] X.env=(false,eval e X.env)::starEach [] X.env:=by rfl) (hplain:(backTo pos (starEach [] X.env)).any (·.1)=false:=by rfl):
  PE X (.Call (.Attribute o "append" apos) [e] [] pos) (uK X.K "list" ue ta t):=
 ZF PySem.F.plainAttrs_list PySem.F.slot_list_append PySem.F.type_list_append qQ ho ha hbase hfew hline hs hplain
end
theorem I0{X:Cx}{x:Str}{i:Int}{pos:Pos}(hm:∃t,X.mg x=some (.int i t))(hg:Gl X x:=by rfl)(hd:(x==("__debug__" : Str))=false:=by decide):PE X (.Name x pos) (tC (.int i)):=by
 obtain⟨t,h⟩:=hm;exact uc hg h ⟨t,rfl⟩ hd
theorem jD{H:Hp}{p:Addr}(h:H p=none)(o:HO):j3 H (upd H p o):=fun b u q=>by rw[je (jz q h)];exact q
theorem j3.upd{H0 H:Hp}{p:Addr}(s:j3 H0 H)(h:H0 p=none)(o:HO):j3 H0 (upd H p o):=fun b u q=>by rw[je (jz q h)];exact s b u q
theorem j3.none{H H':Hp}(s:j3 H H'){p:Addr}(h:H' p=Option.none):H p=Option.none:=s.free h
noncomputable abbrev T3:=Int×Int×Int
noncomputable def B_:HO->Bool
 | .tup _=>true
 | .frz _ (.tup _)=>true
 | _=>false
def UK(H H':Hp):Prop:=∀b o,B_ o=true->H b=some o->H' b=some o
theorem UK.sqT{K:PySem.W.Frag}{H H':Hp}{a:Addr}{xs:List V}(k:UK H H')(h:Ju K H a xs):Ju K H' a xs:=by
 rcases h with(h | ⟨o,h⟩) | h
 ·exact .inl (.inl (k _ _ rfl h))
 ·exact .inl (.inr ⟨o,k _ _ rfl h⟩)
 ·exact .inr h
def Fv(K:PySem.W.Frag)(a:Addr):It:=
 ⟨fun i H=>∃xs x,js K H a xs/\xs[i]?=some x,fun i H v H'=>∃p,H p=none/\v=.ref p/\∀xs x,js K H a xs->xs[i]?=some x->H'=upd H p (.tup [.int i,x]),fun i H=>∃xs,js K H a xs/\xs.length<=i⟩
theorem qW{P:Program}{w:World}{K:PySem.W.Frag}{es:List Expr}{x1:Nat}{tp:Pos}{a e it:Addr}(hei:e≠it)(hle:a≠e)(hli:a≠it):
  Turn P w K (.Tuple es x1 tp) (Fv K a) [e,it] e (fun i h=>(∃old,IsEnum h e it (i:Nat) old)/\h.IsListIter it a i) where
 mem:=by simp
 obj:=fun i h st c hc=>by
  obtain⟨⟨old,s1⟩,s2⟩:=st;simp only[List.mem_cons,List.not_mem_nil,or_false]at hc;rcases hc with rfl | rfl
  ·exact⟨_,s1,fun v z=>by cases z⟩
  ·obtain⟨o,ho,_,d⟩:=s2;exact⟨o,ho,fun v z=>by rw[d]at z;cases z⟩
 keep:=fun i h h' st kk=>by
  obtain⟨⟨old,s1⟩,s2⟩:=st;exact⟨⟨old,kk e (by simp) _ s1⟩,s2.at fun o z=>kk it (by simp) o z⟩
 item:=by
  intro X hP hw hK hc i pins s U H E I hf st hg;subst hP hw hK;obtain⟨⟨old,s1⟩,s2⟩:=st;obtain⟨xs,x,qa,ex⟩:=hg;obtain⟨ia,ra,pa,_⟩:=I.list qa;obtain⟨ux,eux,rx⟩:=ra.get ex;refine wpAny_pyNext_enum_item s1 s2 pa.isList (x:=ux) (by simpa using eux) hei fun h' b1 b2 b3 b4 bk=>?_;refine⟨_,rfl,wpAny_letOwnedTupleGo_enum b1 fun h2 c1 c2=>?_⟩;have lt1:e < s.heap.objs.size:=wLa s1;have lt2:it < s.heap.objs.size:=by obtain⟨o,ho,_⟩:=s2;exact wLa ho
  have kp:∀c o,c∉[e,it]->s.heap.get? c=some o->h2.get? c=some o:=fun c o hc z=>by
   simp only[List.mem_cons,List.not_mem_nil,or_false,not_or]at hc;exact c2.extBut c o hc.1 (bk c o hc.1 hc.2 z)
  have ht:IsTup h2 s.heap.objs.size ([.int i s.toks,ux]:List Value).toArray:=⟨_,c2.extBut _ _ (Nat.ne_of_gt lt1) b3,rfl,_,rfl⟩
  have I2:=I.tupled (t':=s.toks+1) (h':=h2) rfl hf kp (vs:=[.int i,x]) (us:=[.int i s.toks,ux]) (.cons ⟨_,rfl⟩ (.cons rx .nil)) zv ht;refine⟨.ref s.heap.objs.size,_,I2,rfl,⟨s.heap.objs.size,I.hok.fresh (wPa _),rfl,fun xs' x' qa' ex'=>?_⟩,⟨⟨ux,by simpa using c1⟩,b2.at fun o z=>c2.extBut _ o hei.symm z⟩,fun c hc=>?_⟩
  ·rw[I.list_inj qa' qa,ex]at ex';cases ex';rfl
  ·have q:=(hf c hc).1;rw[je ?_]
   ·exact q
   ·intro z;simp only[List.mem_cons,List.not_mem_nil,or_false]at hc;rcases hc with rfl | rfl
    ·rw[z]at lt1;exact wUa _ lt1
    ·rw[z]at lt2;exact wUa _ lt2
 done:=by
  intro X hP hw hK hc i pins s U H E I hf st hg;subst hP hw hK;obtain⟨⟨old,s1⟩,s2⟩:=st;obtain⟨xs,qa,hend⟩:=hg;obtain⟨ia,ra,pa,_⟩:=I.list qa;have la:=ra.length;refine wpAny_pyNext_enum_end (I.ok.hd hc) s1 s2 pa.isList (by simp;omega) fun h' bk=>⟨rfl,?_⟩
  refine I.turnedL (t':=s.toks) (ch:=[e,it]) hf fun c o hc z=>?_;simp only[List.mem_cons,List.not_mem_nil,or_false,not_or]at hc;exact bk c o hc.2 z
 self:=fun _ _ _ _ _ st h=>by
  obtain⟨⟨old,s1⟩,s2⟩:=st;exact wpAny_pyIter_enum s1 h
theorem GA:bootBuiltins "enumerate" = some (.type "enumerate"):=by decide +kernel
def Es(K:PySem.W.Frag)(ta:TA):TI:=fun U H R=>ta U H fun vs H1=>∃a xs,vs=[.ref a]/\js K H1 a xs/\R (Fv K a) H1
theorem AG{X:Cx}{es:List Expr}{x1:Nat}{tp:Pos}{e1:Expr}{ta:TA}{p pos:Pos}(hg:Gl X "enumerate")(hm:X.mg "enumerate" = none)(ha:PA X [e1] ta)(hs:starEach [e1] X.env=[(false,eval e1 X.env)]:=by rfl):
  PI X (.Tuple es x1 tp) (.Call (.Name "enumerate" p) [e1] [] pos) (Es X.K ta):=by
 intro pins s U H R I h;refine Call_ (zq I hg hm GA (PyProof.Rows.callWith_type1 (ji (ha pos pins s U H _ I h) fun us s1 xx=>?_) hs rfl));obtain⟨vs,H1,I1,r1,q1⟩:=xx;obtain⟨a,xs,e,qa,q⟩:=q1;subst e;cases r1 with
 | cons r rr=>
  cases rr;cases r;obtain⟨ia,ra,pa,_⟩:=I1.list qa;have lt:a < s1.heap.objs.size:=by obtain⟨o,ho,_⟩:=pa.isList;exact wLa ho
  refine call_enumerate_list pa.isList fun h' b1 b2 b3 bk=>?_;refine wpAny_pyIter_enum b1 ?_;have fr:∀m,Jl X pins H1 (s1.heap.objs.size+m):=fun m=>I1.fpOk (vKa _ _) (I1.hok.fresh (vKa _ _));refine⟨_,_,_,_,H1,rfl,I1.kept (t':=s1.toks) bk,qW (a:=a) (e:=s1.heap.objs.size+1) (it:=s1.heap.objs.size) (Nat.ne_of_gt (Nat.lt_succ_self _)) (wTa (Nat.lt_succ_of_lt lt)) (wTa lt),⟨⟨_,b1⟩,b2⟩,fun c hc=>?_,q⟩;simp only[List.mem_cons,List.not_mem_nil,or_false]at hc;rcases hc with rfl | rfl
  ·exact fr 1
  ·exact fr 0
end L2
namespace DS
open PySem PySem.Spec PyProof.Rows L2
inductive D where
 | non | bl (b:Bool) | int (i:Int) | str (x:Str) | tup (l:List D) | lst (l:List D) | ins (C:Addr) (ns:List Str) (ds:List D) | scr (ns:List Int)
mutual
noncomputable def j8(K:PySem.W.Frag)(H:Hp):D->V->Prop
 | .non,v=>v=.non
 | .bl b,v=>v=.bl b
 | .int i,v=>v=.int i
 | .str x,v=>v=.str x
 | .tup l,v=>∃a xs,v=.ref a/\Ju K H a xs/\j4 K H l xs
 | .lst l,v=>∃a xs,v=.ref a/\H a=some (.lst xs)/\j4 K H l xs
 | .scr ns,v=>∃a,v=.ref a/\js K H a (ns.map V.int)
 | .ins C ns l,v=>∃a dx xs,v=.ref a/\H a=some (.ins C dx (ns.zip xs))/\ns.length=xs.length/\j4 K H l xs
noncomputable def j4(K:PySem.W.Frag)(H:Hp):List D->List V->Prop
 | [],vs=>vs=[]
 | d::ds,vs=>∃v r,vs=v::r/\j8 K H d v/\j4 K H ds r
end
mutual
theorem j8.same{K:PySem.W.Frag}{H H':Hp}(e:j3 H H'):∀{d:D} {v:V},j8 K H d v->j8 K H' d v
 | .non,_,h=>h
 | .bl _,_,h=>h
 | .int _,_,h=>h
 | .str _,_,h=>h
 | .tup l,_,h=>by
  rw[j8]at h⊢;obtain⟨a,xs,rfl,q,r⟩:=h;exact⟨a,xs,rfl,e.tup q,j4.same e r⟩
 | .lst l,_,h=>by
  rw[j8]at h⊢;obtain⟨a,xs,rfl,q,r⟩:=h;exact⟨a,xs,rfl,e _ _ q,j4.same e r⟩
 | .scr ns,_,h=>by
  rw[j8]at h⊢;obtain⟨a,rfl,q⟩:=h;exact⟨a,rfl,e.seq q⟩
 | .ins C ns l,_,h=>by
  rw[j8]at h⊢;obtain⟨a,dx,xs,rfl,q,n,r⟩:=h;exact⟨a,dx,xs,rfl,e _ _ q,n,j4.same e r⟩
theorem j4.same{K:PySem.W.Frag}{H H':Hp}(e:j3 H H'):∀{ds:List D} {vs:List V},j4 K H ds vs->j4 K H' ds vs
 | [],_,h=>h
 | d::ds,_,h=>by
  rw[j4]at h⊢;obtain⟨v,r,rfl,a,b⟩:=h;exact⟨v,r,rfl,j8.same e a,j4.same e b⟩
end
section
variable {K:PySem.W.Frag} {H:Hp}
theorem j4.len:∀{ds:List D} {vs:List V},j4 K H ds vs->vs.length=ds.length
 | [],_,h=>by rw[j4]at h;subst h;rfl
 | d::ds,_,h=>by
  rw[j4]at h;obtain⟨v,r,rfl,a,b⟩:=h;rw[List.length_cons,List.length_cons,j4.len b]
theorem j4.get:∀{ds:List D} {vs:List V} {i:Nat} {d:D},j4 K H ds vs->ds[i]?=some d->∃v,vs[i]?=some v/\j8 K H d v
 | [],_,_,_,h,e=>by simp at e
 | d::ds,_,0,_,h,e=>by
  rw[j4]at h;obtain⟨v,r,rfl,a,b⟩:=h;simp at e;subst e;exact⟨v,rfl,a⟩
 | d::ds,_,i+1,d',h,e=>by
  rw[j4]at h;obtain⟨v,r,rfl,a,b⟩:=h;obtain⟨v',e',q⟩:=j4.get (i:=i) b (by simpa using e);exact⟨v',by simpa using e',q⟩
theorem j4.nil:j4 K H [] []:=by rw[j4]
theorem j4.cons{d:D}{ds:List D}{v:V}{vs:List V}(a:j8 K H d v)(b:j4 K H ds vs):j4 K H (d::ds) (v::vs):=by rw[j4];exact⟨v,vs,rfl,a,b⟩
theorem j4.app:∀{ds es:List D} {vs us:List V},j4 K H ds vs->j4 K H es us->j4 K H (ds++es) (vs++us)
 | [],_,_,_,h,g=>by rw[j4]at h;subst h;exact g
 | d::ds,es,_,us,h,g=>by
  rw[j4]at h;obtain⟨u,r,rfl,a,b⟩:=h;exact j4.cons a (j4.app b g)
theorem j4.snoc{d:D}{v:V}{ds:List D}{vs:List V}(h:j4 K H ds vs)(q:j8 K H d v):j4 K H (ds++[d]) (vs++[v]):=h.app (j4.cons q j4.nil)
theorem j4.drop:∀{ds:List D} {vs:List V} (n:Nat),j4 K H ds vs->j4 K H (ds.drop n) (vs.drop n)
 | _,_,0,h=>h
 | [],_,n+1,h=>by rw[j4]at h;subst h;exact j4.nil
 | d::ds,_,n+1,h=>by
  rw[j4]at h;obtain⟨u,r,rfl,a,b⟩:=h;exact j4.drop n b
theorem j4.take:∀{ds:List D} {vs:List V} (n:Nat),j4 K H ds vs->j4 K H (ds.take n) (vs.take n)
 | _,_,0,h=>j4.nil
 | [],_,n+1,h=>by rw[j4]at h;subst h;exact j4.nil
 | d::ds,_,n+1,h=>by
  rw[j4]at h;obtain⟨u,r,rfl,a,b⟩:=h;exact j4.cons a (j4.take n b)
theorem j4.set{d:D}{v:V}(q:j8 K H d v):∀{ds:List D} {vs:List V} (n:Nat),j4 K H ds vs->j4 K H (ds.set n d) (vs.set n v)
 | [],_,n,h=>by rw[j4]at h;subst h;exact j4.nil
 | e::ds,_,0,h=>by
  rw[j4]at h;obtain⟨u,r,rfl,a,b⟩:=h;exact j4.cons q b
 | e::ds,_,n+1,h=>by
  rw[j4]at h;obtain⟨u,r,rfl,a,b⟩:=h;exact j4.cons a (j4.set q n b)
end
noncomputable def j7(H:Hp)(O:List Addr):Hp:=fun b=>if b∈O then none else H b
theorem Z8{H:Hp}{O:List Addr}{b:Addr}(h:b∈O):j7 H O b=none:=if_pos h
theorem jF{H:Hp}{O:List Addr}{b:Addr}(h:b∉O):j7 H O b=H b:=if_neg h
theorem j_{H:Hp}{O:List Addr}{b:Addr}{o:HO}(h:j7 H O b=some o):b∉O/\H b=some o:=by
 by_cases hb:b∈O
 ·rw[Z8 hb]at h;cases h
 ·rw[jF hb]at h;exact⟨hb,h⟩
theorem YW{H:Hp}{O:List Addr}:j3 (j7 H O) H:=fun b o h=>(j_ h).2
theorem jY{H:Hp}{O O':List Addr}(s:∀a∈O',a∈O):j3 (j7 H O) (j7 H O'):=fun b o h=>by
 obtain⟨h1,h2⟩:=j_ h;rw[jF (fun z=>h1 (s b z))];exact h2
theorem jc{H H':Hp}{O:List Addr}(s:j3 H H'):j3 (j7 H O) (j7 H' O):=fun b o h=>by
 obtain⟨h1,h2⟩:=j_ h;rw[jF h1];exact s _ _ h2
theorem zw{H H':Hp}{O:List Addr}{l:Addr}(s:j3 H H')(hl:H l=none):j3 (j7 H O) (j7 H' (l::O)):=fun b o h=>by
 obtain⟨h1,h2⟩:=j_ h;have ne:b≠l:=jz h2 hl;rw[jF (by intro z;rcases List.mem_cons.mp z with z | z;exact ne z;exact h1 z)];exact s _ _ h2
theorem Jd{H:Hp}{O:List Addr}{l:Addr}{o:HO}(h:l∈O):j7 (upd H l o) O=j7 H O:=by
 funext b;by_cases hb:b∈O
 ·rw[Z8 hb,Z8 hb]
 ·rw[jF hb,jF hb,je (fun e=>hb (by rw[e];exact h))]
inductive OD where
 | lst (ds:List D) | ins (C:Addr) (ns:List Str) (ds:List D)
@[simp] noncomputable def OD.toD:OD->D
 | .lst ds=>.lst ds
 | .ins C ns ds=>.ins C ns ds
def JD(K:PySem.W.Frag)(H Hd:Hp)(l:Addr):OD->Prop
 | .lst ds=>∃vs,H l=some (.lst vs)/\j4 K Hd ds vs
 | .ins C ns ds=>∃dx vs,H l=some (.ins C dx (ns.zip vs))/\ns.length=vs.length/\j4 K Hd ds vs
theorem JD.same{K:PySem.W.Frag}{H H' Hd Hd':Hp}{l:Addr}{o:OD}(s:∀u,H l=some u->H' l=some u)(sd:j3 Hd Hd')(h:JD K H Hd l o):JD K H' Hd' l o:=by
 cases o with
 | lst ds=>obtain⟨vs,a,b⟩:=h;exact⟨vs,s _ a,b.same sd⟩
 | ins C ns ds=>obtain⟨dx,vs,a,n,b⟩:=h;exact⟨dx,vs,s _ a,n,b.same sd⟩
theorem JD.there{K:PySem.W.Frag}{H Hd:Hp}{l:Addr}{o:OD}(h:JD K H Hd l o):H l≠none:=by
 cases o with
 | lst ds=>obtain⟨vs,a,b⟩:=h;rw[a];exact fun z=>nomatch z
 | ins C ns ds=>obtain⟨dx,vs,a,n,b⟩:=h;rw[a];exact fun z=>nomatch z
theorem JD.rep{K:PySem.W.Frag}{H Hd:Hp}{l:Addr}{o:OD}(s:∀u,H l=some u->Hd l=some u)(h:JD K H Hd l o):j8 K Hd o.toD (.ref l):=by
 cases o with
 | lst ds=>obtain⟨vs,a,b⟩:=h;show j8 K Hd (.lst ds) _;rw[j8];exact⟨l,vs,rfl,s _ a,b⟩
 | ins C ns ds=>obtain⟨dx,vs,a,n,b⟩:=h;show j8 K Hd (.ins C ns ds) _;rw[j8];exact⟨l,dx,vs,rfl,s _ a,n,b⟩
inductive Sl where
 | un
 | cl (d:D)
 | bo (d:D)
 | ow (q:Option Addr) (o:OD)
 | lo (q:Option Addr) (ls:List (List D))
noncomputable abbrev j6:=List Sl
def RB(K:PySem.W.Frag)(O:List Addr)(H:Hp)(d:D)(v:V):Prop:=j8 K (j7 H O) d v \/∃l o,v=.ref l/\d=OD.toD o/\JD K H (j7 H O) l o
theorem RB.same{K:PySem.W.Frag}{O:List Addr}{H H':Hp}{d:D}{v:V}(s:j3 H H')(h:RB K O H d v):RB K O H' d v:=by
 rcases h with h | ⟨l,o,e1,e2,h1⟩
 ·exact .inl (h.same (jc s))
 ·exact .inr ⟨l,o,e1,e2,h1.same (s l) (jc s)⟩
theorem RB.full{K:PySem.W.Frag}{O:List Addr}{H:Hp}{d:D}{v:V}(h:RB K O H d v):j8 K H d v:=by
 rcases h with h | ⟨l,o,rfl,rfl,h1⟩
 ·exact h.same YW
 ·exact(h1.same (fun _ z=>z) YW).rep fun _ z=>z
theorem RB.lst{K:PySem.W.Frag}{O:List Addr}{H:Hp}{ds:List D}{v:V}(h:RB K O H (.lst ds) v):∃p xs,v=.ref p/\H p=some (.lst xs)/\j4 K (j7 H O) ds xs:=by
 rcases h with h | ⟨l,o,rfl,e,h1⟩
 ·rw[j8]at h;obtain⟨a,xs,rfl,q,r⟩:=h;exact⟨a,xs,rfl,YW _ _ q,r⟩
 ·cases o <;> cases e;obtain⟨vs,a,b⟩:=h1;exact⟨l,vs,rfl,a,b⟩
theorem RB.tup{K:PySem.W.Frag}{O:List Addr}{H:Hp}{ds:List D}{v:V}(h:RB K O H (.tup ds) v):∃p xs,v=.ref p/\Ju K H p xs/\j4 K (j7 H O) ds xs:=by
 rcases h with h | ⟨l,o,rfl,e,h1⟩
 ·rw[j8]at h;obtain⟨a,xs,rfl,q,r⟩:=h;exact⟨a,xs,rfl,YW.tup q,r⟩
 ·cases o <;> cases e
theorem RB.int{K:PySem.W.Frag}{O:List Addr}{H:Hp}{i:Int}{v:V}(h:RB K O H (.int i) v):v=.int i:=by have:=h.full;rwa [j8]at this
theorem RB.bl{K:PySem.W.Frag}{O:List Addr}{H:Hp}{i:Bool}{v:V}(h:RB K O H (.bl i) v):v=.bl i:=by have:=h.full;rwa [j8]at this
theorem RB.str{K:PySem.W.Frag}{O:List Addr}{H:Hp}{i:Str}{v:V}(h:RB K O H (.str i) v):v=.str i:=by have:=h.full;rwa [j8]at this
theorem RB.non{K:PySem.W.Frag}{O:List Addr}{H:Hp}{v:V}(h:RB K O H .non v):v=.non:=by have:=h.full;rwa [j8]at this
theorem RB.ins{K:PySem.W.Frag}{O:List Addr}{H:Hp}{C:Addr}{ns:List Str}{ds:List D}{v:V}(h:RB K O H (.ins C ns ds) v):∃a dx xs,v=.ref a/\H a=some (.ins C dx (ns.zip xs))/\ns.length=xs.length/\j4 K (j7 H O) ds xs:=by
 rcases h with h | ⟨l,o,rfl,e,h1⟩
 ·rw[j8]at h;obtain⟨a,dx,xs,rfl,q,n,r⟩:=h;exact⟨a,dx,xs,rfl,YW _ _ q,n,r⟩
 ·cases o <;> cases e;obtain⟨dx,vs,a,n,b⟩:=h1;exact⟨l,dx,vs,rfl,a,n,b⟩
def yj(K:PySem.W.Frag)(Hd H:Hp):List Addr->List (List D)->Prop
 | [],[]=>True
 | a::as,m::r=>(∃vs,H a=some (.lst vs)/\j4 K Hd m vs)/\yj K Hd H as r
 | _,_=>False
theorem yj.mono{K:PySem.W.Frag}{Hd Hd' H H':Hp}(sd:j3 Hd Hd'):∀{as:List Addr} {ls:List (List D)},(∀a∈as,∀u,H a=some u->H' a=some u)->yj K Hd H as ls->yj K Hd' H' as ls
 | [],[],_,_=>trivial
 | a::as,xs::r,s,h=>by
  obtain⟨⟨vs,h1,h2⟩,h3⟩:=h;exact⟨⟨vs,s a wNa _ h1,h2.same sd⟩,yj.mono sd (fun b hb=>s b (wMa _ hb)) h3⟩
 | [],_::_,_,h=>h.elim
 | _::_,[],_,h=>h.elim
theorem yj.at{K:PySem.W.Frag}{Hd H:Hp}:∀{as:List Addr} {ls:List (List D)},yj K Hd H as ls->∀a∈as,∃vs,H a=some (.lst vs)
 | _::_,_::_,h,a,ha=>by
  obtain⟨⟨vs,h1,_⟩,h3⟩:=h;rcases List.mem_cons.mp ha with rfl | ha
  ·exact⟨vs,h1⟩
  ·exact yj.at h3 a ha
 | _::_,[],h,_,_=>h.elim
def Zf(K:PySem.W.Frag)(H Hd:Hp)(l:Addr)(ps:List Addr)(ls:List (List D)):Prop:=H l=some (.lst (ps.map V.ref))/\yj K Hd H ps ls
theorem Zf.at{K:PySem.W.Frag}{H Hd:Hp}{l:Addr}{ps:List Addr}{ls:List (List D)}(h:Zf K H Hd l ps ls):∀a∈l::ps,∃vs,H a=some (.lst vs):=fun a ha=>by
 rcases List.mem_cons.mp ha with rfl | ha
 ·exact⟨_,h.1⟩
 ·exact h.2.at a ha
def yt(Z:j6)(U:L2.St)(a:Addr):Prop:=∃(j:Nat) (q:Option Addr) (o:OD),Z[j]?=some (.ow q o)/\U[j]?=some (some (.ref a))
def XY(K:PySem.W.Frag)(H0:Hp)(Z:j6)(U:L2.St)(H:Hp)(O:List Addr):Prop:=∀(i:Nat) (q:Option Addr) (ls:List (List D)),Z[i]?=some (.lo q ls)->∃l ps,U[i]?=some (some (.ref l))/\Zf K H (j7 H O) l ps ls/\(l::ps).Nodup/\(∀a∈l::ps,a∈O/\H0 a=none/\¬yt Z U a)/\(∀p,q=some p->l=p)/\∀j q' ms,Z[j]?=some (.lo q' ms)->j=i
theorem XY.up{K:PySem.W.Frag}{H0 H H':Hp}{Z Z':j6}{U U':L2.St}{O O':List Addr}(h:XY K H0 Z U H O)(h1:∀(i:Nat) (q:Option Addr) (ls:List (List D)),Z'[i]?=some (.lo q ls)->Z[i]?=some (.lo q ls)/\U'[i]?=U[i]?)(h2:∀a,H a≠none->yt Z' U' a->yt Z U a)
  (h3:∀a,a∈O->¬yt Z U a->a∈O'/\∀u,H a=some u->H' a=some u) (h4:j3 (j7 H O) (j7 H' O')):XY K H0 Z' U' H' O':=fun i q ls e=>by
 obtain⟨e1,e2⟩:=h1 i q ls e;obtain⟨l,ps,a,b,n,f,p,u⟩:=h i q ls e1;have k:∀c∈l::ps,∀u,H c=some u->H' c=some u:=fun c hc=>(h3 c (f c hc).1 (f c hc).2.2).2;refine⟨l,ps,e2.trans a,⟨k l wNa _ b.1,b.2.mono h4 fun c hc=>k c (wMa _ hc)⟩,n,fun c hc=>⟨(h3 c (f c hc).1 (f c hc).2.2).1,(f c hc).2.1,fun z=>(f c hc).2.2 (h2 c ?_ z)⟩,p,fun j q' ms z=>u j q' ms (h1 j q' ms z).1⟩;obtain⟨vs,hv⟩:=b.at c hc;rw[hv];exact fun z=>nomatch z
structure Rel (K:PySem.W.Frag) (H0:Hp) (O0:List Addr) (Z:j6) (U:L2.St) (H:Hp) (O:List Addr):Prop where
 len:U.length=Z.length
 sub:∀a∈O0,a∈O
 fr:∀a∈O,a∈O0 \/ H0 a=none
 al0:∀a∈O0,H0 a≠none
 al:∀a∈O,H a≠none
 keep:j3 H0 H
 cl:∀(i:Nat) (d:D),Z[i]?=some (.cl d)->∃v,U[i]?=some (some v)/\j8 K (j7 H O) d v
 bo:∀(i:Nat) (d:D),Z[i]?=some (.bo d)->∃v,U[i]?=some (some v)/\RB K O0 H0 d v
 ow:∀(i:Nat) (q:Option Addr) (o:OD),Z[i]?=some (.ow q o)->∃l,(∀p,q=some p->l=p)/\U[i]?=some (some (.ref l))/\JD K H (j7 H O) l o/\l∈O/\H0 l=none
 dist:∀(i j:Nat) (q q':Option Addr) (ds es:OD) (l:Addr),Z[i]?=some (.ow q ds)->Z[j]?=some (.ow q' es)->U[i]?=some (some (.ref l))->U[j]?=some (some (.ref l))->i=j
 lo:XY K H0 Z U H O
section
variable {K:PySem.W.Frag} {H0 H H':Hp} {O0 O:List Addr} {Z:j6} {U:L2.St}
theorem Rel.in0(R:Rel K H0 O0 Z U H O):j3 (j7 H0 O0) (j7 H O):=fun b o h=>by
 obtain⟨h1,h2⟩:=j_ h;rw[jF (fun z=>by rcases R.fr b z with y | y;exact h1 y;rw[h2]at y;cases y)];exact R.keep _ _ h2
theorem Rel.grow(R:Rel K H0 O0 Z U H O)(s:j3 H H'):Rel K H0 O0 Z U H' O where
 len:=R.len
 sub:=R.sub
 fr:=R.fr
 al0:=R.al0
 al:=fun a h z=>R.al a h (s.none z)
 keep:=R.keep.trans s
 cl:=fun i d e=>by obtain⟨v,a,b⟩:=R.cl i d e;exact⟨v,a,b.same (jc s)⟩
 bo:=R.bo
 ow:=fun i q d e=>by obtain⟨l,z,a,b,d,f⟩:=R.ow i q d e;exact⟨l,z,a,b.same (s l) (jc s),d,f⟩
 dist:=R.dist
 lo:=R.lo.up (fun i q' ls e=>⟨e,rfl⟩) (fun a _ z=>z) (fun a h _=>⟨h,fun u z=>s a u z⟩) (jc s)
theorem Rel.new(R:Rel K H0 O0 Z U H O){p:Addr}(h:H p=none):p∉O:=fun z=>R.al p z h
theorem jh{α:Type}{xs:List α}{i j:Nat}{x y:α}(h:(xs.set i x)[j]?=some y):(j=i/\y=x/\i < xs.length) \/ (j≠i/\xs[j]?=some y):=by
 rw[List.getElem?_set]at h;by_cases e:i=j
 ·subst e;rw[if_pos rfl]at h;split at h
  ·exact .inl ⟨rfl,(vFa h).symm,by assumption⟩
  ·cases h
 ·rw[if_neg e]at h;exact .inr ⟨fun z=>e z.symm,h⟩
theorem YX{α:Type}{xs:List α}{i:Nat}{x:α}(h:i < xs.length):(xs.set i x)[i]?=some x:=by simp[h]
theorem jO{α:Type}{xs:List α}{i j:Nat}{x:α}(h:j≠i):(xs.set i x)[j]?=xs[j]?:=by rw[List.getElem?_set,if_neg (fun z=>h z.symm)]
theorem vE{i j:Nat}{s:Sl}{v:Option V}{q:Option Addr}{ls:List (List D)}(hs:∀q ls,s≠.lo q ls)(e:(Z.set i s)[j]?=some (.lo q ls)):Z[j]?=some (.lo q ls)/\(U.set i v)[j]?=U[j]?:=by
 rcases jh e with⟨rfl,e',_⟩ | ⟨ne,e'⟩
 ·exact vDa e'.symm (hs q ls)
 ·exact⟨e',jO ne⟩
theorem vX{i:Nat}{s:Sl}{v:Option V}{a:Addr}(hs:∀q o,s=.ow q o->v≠some (.ref a))(hi:U.length=Z.length):yt (Z.set i s) (U.set i v) a->yt Z U a:=fun xx=>by
 obtain⟨j,q,o,e,z⟩:=xx;rcases jh e with⟨rfl,e',hj⟩ | ⟨ne,e'⟩
 ·rw[YX (by rw[hi];exact hj)]at z;exact vDa (vFa z) (hs _ _ e'.symm)
 ·rw[jO ne]at z;exact⟨j,q,o,e',z⟩
theorem Rel.set(R:Rel K H0 O0 Z U H O){d:D}{v:V}(q:j8 K (j7 H O) d v)(i:Nat):Rel K H0 O0 (Z.set i (.cl d)) (U.set i (some v)) H O where
 len:=by rw[List.length_set,List.length_set];exact R.len
 sub:=R.sub
 fr:=R.fr
 al0:=R.al0
 al:=R.al
 keep:=R.keep
 cl:=fun j d' e=>by
  rcases jh e with⟨rfl,e',hi⟩ | ⟨ne,e'⟩
  ·cases e';exact⟨v,YX (by rw[R.len];exact hi),q⟩
  ·rw[jO ne];exact R.cl j d' e'
 bo:=fun j d' e=>by
  rcases jh e with⟨rfl,e',hi⟩ | ⟨ne,e'⟩
  ·cases e'
  ·rw[jO ne];exact R.bo j d' e'
 ow:=fun j q' d' e=>by
  rcases jh e with⟨rfl,e',hi⟩ | ⟨ne,e'⟩
  ·cases e'
  ·rw[jO ne];exact R.ow j q' d' e'
 dist:=fun j k q1 q2 ds es l e1 e2 s1 s2=>by
  rcases jh e1 with⟨rfl,e',hi⟩ | ⟨ne,e1'⟩
  ·cases e'
  ·rcases jh e2 with⟨rfl,e',hi⟩ | ⟨ne2,e2'⟩
   ·cases e'
   ·rw[jO ne]at s1;rw[jO ne2]at s2;exact R.dist j k q1 q2 ds es l e1' e2' s1 s2
 lo:=R.lo.up (fun j q' ls e=>vE (by intro _ _ z;cases z) e) (fun a _ z=>vX (by intro _ _ z;cases z) R.len z) (fun a h _=>⟨h,fun u z=>z⟩) (j3.refl _)
theorem Rel.forget(R:Rel K H0 O0 Z U H O)(i:Nat):Rel K H0 O0 (Z.set i .un) U H O where
 len:=by rw[List.length_set];exact R.len
 sub:=R.sub
 fr:=R.fr
 al0:=R.al0
 al:=R.al
 keep:=R.keep
 cl:=fun j d' e=>by
  rcases jh e with⟨rfl,e',hi⟩ | ⟨ne,e'⟩
  ·cases e'
  ·exact R.cl j d' e'
 bo:=fun j d' e=>by
  rcases jh e with⟨rfl,e',hi⟩ | ⟨ne,e'⟩
  ·cases e'
  ·exact R.bo j d' e'
 ow:=fun j q' d' e=>by
  rcases jh e with⟨rfl,e',hi⟩ | ⟨ne,e'⟩
  ·cases e'
  ·exact R.ow j q' d' e'
 dist:=fun j k q1 q2 ds es l e1 e2 s1 s2=>by
  rcases jh e1 with⟨rfl,e',hi⟩ | ⟨ne,e1'⟩
  ·cases e'
  ·rcases jh e2 with⟨rfl,e',hi⟩ | ⟨ne2,e2'⟩
   ·cases e'
   ·exact R.dist j k q1 q2 ds es l e1' e2' s1 s2
 lo:=R.lo.up (fun j q' ls e=>⟨(vE (U:=U) (v:=none) (by intro _ _ z;cases z) e).1,rfl⟩) (fun a _ xx=>by
  obtain⟨j,q,o,e,z⟩:=xx;rcases jh e with⟨rfl,e',_⟩ | ⟨_,e'⟩
  ·cases e'
  ·exact⟨j,q,o,e',z⟩) (fun a h _=>⟨h,fun u z=>z⟩) (j3.refl _)
theorem Rel.own(R:Rel K H0 O0 Z U H O){ds:OD}{l:Addr}(s:j3 H H')(hn:H l=none)(h:JD K H' (j7 H' (l::O)) l ds)(i:Nat):Rel K H0 O0 (Z.set i (.ow none ds)) (U.set i (some (.ref l))) H' (l::O) where
 len:=by rw[List.length_set,List.length_set];exact R.len
 sub:=fun a h=>wMa _ (R.sub a h)
 fr:=fun a ha=>by
  rcases List.mem_cons.mp ha with rfl | ha
  ·exact .inr (R.keep.none hn)
  ·exact R.fr a ha
 al0:=R.al0
 al:=fun a ha=>by
  rcases List.mem_cons.mp ha with rfl | ha
  ·exact h.there
  ·exact fun z=>R.al a ha (s.none z)
 keep:=R.keep.trans s
 cl:=fun j d' e=>by
  rcases jh e with⟨rfl,e',hi⟩ | ⟨ne,e'⟩
  ·cases e'
  ·rw[jO ne];obtain⟨v,a,b⟩:=R.cl j d' e';exact⟨v,a,b.same (zw s hn)⟩
 bo:=fun j d' e=>by
  rcases jh e with⟨rfl,e',hi⟩ | ⟨ne,e'⟩
  ·cases e'
  ·rw[jO ne];exact R.bo j d' e'
 ow:=fun j q' d' e=>by
  rcases jh e with⟨rfl,e',hi⟩ | ⟨ne,e'⟩
  ·cases e';exact⟨l,(fun p z=>nomatch z),YX (by rw[R.len];exact hi),h,wNa,R.keep.none hn⟩
  ·rw[jO ne];obtain⟨l',z,a,b,d,f⟩:=R.ow j q' d' e';exact⟨l',z,a,b.same (s l') (zw s hn),wMa _ d,f⟩
 dist:=fun j k q1 q2 ds' es l' e1 e2 s1 s2=>by
  have other:∀(j:Nat) (q:Option Addr) (ds:OD),Z[j]?=some (.ow q ds)->U[j]?≠some (some (.ref l)):=fun j q ds e z=>by
   obtain⟨l2,_,a,b,_⟩:=R.ow j q ds e;rw[z]at a;cases a;exact b.there hn
  rcases jh e1 with⟨rfl,e',hi⟩ | ⟨ne,e1'⟩
  ·rcases jh e2 with⟨rfl,e'',hi'⟩ | ⟨ne2,e2'⟩
   ·rfl
   ·rw[YX (by rw[R.len];exact hi)]at s1;cases s1;rw[jO ne2]at s2;exact vDa s2 (other k q2 es e2')
  ·rcases jh e2 with⟨rfl,e',hi⟩ | ⟨ne2,e2'⟩
   ·rw[YX (by rw[R.len];exact hi)]at s2;cases s2;rw[jO ne]at s1;exact vDa s1 (other j q1 ds' e1')
   ·rw[jO ne]at s1;rw[jO ne2]at s2;exact R.dist j k q1 q2 ds' es l' e1' e2' s1 s2
 lo:=R.lo.up (fun j q' ls e=>vE (by intro _ _ z;cases z) e) (fun a ha z=>vX (by intro _ _ _ y;cases y;exact ha hn) R.len z) (fun a ha _=>⟨wMa _ ha,fun u z=>s a u z⟩) (zw s hn)
theorem Rel.change(R:Rel K H0 O0 Z U H O){qq:Option Addr}{ds ds':OD}{u:HO}{l:Addr}{i:Nat}(e:Z[i]?=some (.ow qq ds))(hq:∀p,qq=some p->l=p)(hi:U[i]?=some (some (.ref l)))(hl:l∈O)(h0:H0 l=none)(q:JD K (upd H l u) (j7 H O) l ds'):Rel K H0 O0 (Z.set i (.ow qq ds')) U (upd H l u) O where
 len:=by rw[List.length_set];exact R.len
 sub:=R.sub
 fr:=R.fr
 al0:=R.al0
 al:=fun a ha=>by
  by_cases z:a=l
  ·rw[z,ju];exact fun z=>nomatch z
  ·rw[je z];exact R.al a ha
 keep:=R.keep.upd h0 _
 cl:=fun j d' e=>by
  rcases jh e with⟨rfl,e',hi⟩ | ⟨ne,e'⟩
  ·cases e'
  ·rw[Jd hl];exact R.cl j d' e'
 bo:=fun j d' e=>by
  rcases jh e with⟨rfl,e',hi⟩ | ⟨ne,e'⟩
  ·cases e'
  ·exact R.bo j d' e'
 ow:=fun j q' d' e2=>by
  rw[Jd hl];rcases jh e2 with⟨rfl,e',_⟩ | ⟨ne,e'⟩
  ·cases e';exact⟨l,hq,hi,q,hl,h0⟩
  ·obtain⟨l',z,a,b,d,f⟩:=R.ow j q' d' e';refine⟨l',z,a,b.same (fun u h=>?_) (j3.refl _),d,f⟩;rw[je]
   ·exact h
   ·rintro rfl;exact ne (R.dist j i _ _ _ _ _ e' e a hi)
 dist:=fun j k q1 q2 ds1 es l' e1 e2 s1 s2=>by
  have f:∀(j:Nat) (q:Option Addr) (ds1:OD),(Z.set i (.ow qq ds'))[j]?=some (.ow q ds1)->∃q2 ds2,Z[j]?=some (.ow q2 ds2):=fun j q ds1 z=>by
   rcases jh z with⟨rfl,_,_⟩ | ⟨_,z⟩
   ·exact⟨_,_,e⟩
   ·exact⟨_,_,z⟩
  obtain⟨_,d1,f1⟩:=f j _ _ e1;obtain⟨_,d2,f2⟩:=f k _ _ e2;exact R.dist j k _ _ _ _ l' f1 f2 s1 s2
 lo:=by
  have ft:yt Z U l:=⟨i,_,_,e,hi⟩
  refine R.lo.up (fun j q' ls e=>⟨(vE (U:=U) (v:=none) (by intro _ _ z;cases z) e).1,rfl⟩) (fun a _ ⟨j,q,o,e',z⟩=>?_) (fun a ha nf=>⟨ha,fun u z=>?_⟩) (by rw[Jd hl];exact j3.refl _)
  ·rcases jh e' with⟨rfl,_,_⟩ | ⟨_,e'⟩
   ·exact⟨_,_,_,e,z⟩
   ·exact⟨j,q,o,e',z⟩
  ·rw[je fun y=>nf (by rw[y];exact ft)];exact z
theorem Rel.share(R:Rel K H0 O0 Z U H O){q:Option Addr}{ds:OD}{i:Nat}(e:Z[i]?=some (.ow q ds)):∃O',Rel K H0 O0 (Z.set i (.cl ds.toD)) U H O'/\j3 (j7 H O) (j7 H O'):=by
 obtain⟨l,_,hs,q,lo,h0⟩:=R.ow i q ds e;have ss:j3 (j7 H O) (j7 H (O.filter (·≠l))):=jY fun a h=>(List.mem_filter.mp h).1;have nin:l∉O.filter (·≠l):=fun z=>by simpa using (List.mem_filter.mp z).2
 refine⟨O.filter (·≠l),⟨by rw[List.length_set];exact R.len,fun a h=>List.mem_filter.mpr ⟨R.sub a h,?_⟩,fun a h=>R.fr a (List.mem_filter.mp h).1,R.al0,fun a h=>R.al a (List.mem_filter.mp h).1,R.keep,?_,?_,?_,?_,?_⟩,ss⟩
 ·have z:a≠l:=by
   rintro rfl;exact R.al0 a h h0
  simpa using z
 ·intro j d' e2;rcases jh e2 with⟨rfl,e',hi⟩ | ⟨ne,e'⟩
  ·cases e';exact⟨_,hs,(q.same (fun _ z=>z) ss).rep fun u z=>by rw[jF nin];exact z⟩
  ·obtain⟨v,a,b⟩:=R.cl j d' e';exact⟨v,a,b.same ss⟩
 ·intro j d' e2;rcases jh e2 with⟨rfl,e',hi⟩ | ⟨ne,e'⟩
  ·cases e'
  ·exact R.bo j d' e'
 ·intro j q' d' e2;rcases jh e2 with⟨rfl,e',hi⟩ | ⟨ne,e'⟩
  ·cases e'
  ·obtain⟨l',z,a,b,d,f⟩:=R.ow j q' d' e';refine⟨l',z,a,b.same (fun _ z=>z) ss,List.mem_filter.mpr ⟨d,?_⟩,f⟩;have z:l'≠l:=by
    rintro rfl;exact ne (R.dist j i _ _ _ _ _ e' e a hs)
   simpa using z
 ·intro j k q1 q2 ds1 es l' e1 e2 s1 s2;rcases jh e1 with⟨rfl,e',hi⟩ | ⟨ne,e1'⟩
  ·cases e'
  ·rcases jh e2 with⟨rfl,e',hi⟩ | ⟨ne2,e2'⟩
   ·cases e'
   ·exact R.dist j k _ _ _ _ l' e1' e2' s1 s2
 ·refine R.lo.up (fun j q' ls e=>⟨(vE (U:=U) (v:=none) (by intro _ _ z;cases z) e).1,rfl⟩) (fun a _ ⟨j,q,o,e',z⟩=>?_) (fun a ha nf=>⟨List.mem_filter.mpr ⟨ha,?_⟩,fun u z=>z⟩) ss
  ·rcases jh e' with⟨rfl,y,_⟩ | ⟨_,e'⟩
   ·cases y
   ·exact⟨j,q,o,e',z⟩
  ·have:a≠l:=fun y=>nf (by rw[y];exact⟨i,_,_,e,hs⟩);simpa using this
end
abbrev DE:=j6->Option D
abbrev DO:=j6->Option OD
noncomputable abbrev Fr:=PySem.W.Frag
def tE(K:Fr)(de:DE):TE:=fun U H Q=>∃H0 O0 Z O d,Rel K H0 O0 Z U H O/\de Z=some d/\∀v H',j3 H H'->j8 K (j7 H' O) d v->Q v H'
def tR(K:Fr)(de:DE):TE:=fun U H Q=>∃H0 O0 Z O d,Rel K H0 O0 Z U H O/\de Z=some d/\∀v H',j3 H H'->RB K O H' d v->Q v H'
def tF(K:Fr)(de:DO):TE:=fun U H Q=>∃H0 O0 Z O o,Rel K H0 O0 Z U H O/\de Z=some o/\∀l H',j3 H H'->H l=none->JD K H' (j7 H' (l::O)) l o->Q (.ref l) H'
def tT(K:Fr)(dt:j6->Option Bool):TT:=fun U H Q=>∃H0 O0 Z O b,Rel K H0 O0 Z U H O/\dt Z=some b/\∀H',j3 H H'->Q b H'
def AK(K:Fr)(O:List Addr)(H:Hp):Bool->D->V->Prop
 | true,d,v=>j8 K (j7 H O) d v
 | false,d,v=>RB K O H d v
def JQ(K:Fr)(O:List Addr)(H:Hp):List Bool->List D->List V->Prop
 | [],[],[]=>True
 | k::ks,d::ds,v::vs=>AK K O H k d v/\JQ K O H ks ds vs
 | _,_,_=>False
theorem AK.same{K:Fr}{O:List Addr}{H H':Hp}(s:j3 H H'):∀{k:Bool} {d:D} {v:V},AK K O H k d v->AK K O H' k d v
 | true,_,_,h=>j8.same (jc s) h
 | false,_,_,h=>RB.same s h
theorem AK.rb{K:Fr}{O:List Addr}{H:Hp}:∀{k:Bool} {d:D} {v:V},AK K O H k d v->RB K O H d v
 | true,_,_,h=>.inl h
 | false,_,_,h=>h
theorem JQ.same{K:Fr}{O:List Addr}{H H':Hp}(s:j3 H H'):∀{ks:List Bool} {ds:List D} {vs:List V},JQ K O H ks ds vs->JQ K O H' ks ds vs
 | [],[],[],_=>trivial
 | _::_,_::_,_::_,h=>⟨AK.same s h.1,JQ.same s h.2⟩
 | [],[],_::_,h=>h.elim
 | [],_::_,_,h=>h.elim
 | _::_,[],_,h=>h.elim
 | _::_,_::_,[],h=>h.elim
noncomputable abbrev DA:=List (Bool×DE)
@[simp] noncomputable def YB:DA->j6->Option (List D)
 | [],_=>some []
 | p::ps,Z=>(p.2 Z).bind fun d=>(YB ps Z).bind fun ds=>some (d::ds)
def YC(K:Fr)(l:DA):TA:=fun U H Q=>∃H0 O0 Z O ds,Rel K H0 O0 Z U H O/\YB l Z=some ds/\∀vs H',j3 H H'->JQ K O H' (l.map (·.1)) ds vs->Q vs H'
section
variable {X:Cx} {K:Fr} {e a b c d:Expr} {de da db dc dd:DE} {pos:Pos}
theorem jt{t t':TE}(h:PE X e t)(f:∀U H Q,t' U H Q->t U H Q):PE X e t':=fun pins s U H Q I q=>h pins s U H Q I (f U H Q q)
theorem uf{t t':TT}(h:PT X e t)(f:∀U H Q,t' U H Q->t U H Q):PT X e t':=fun pins s U H Q I q=>h pins s U H Q I (f U H Q q)
theorem XZ{t t':TT}(h:PW X e t)(f:∀U H Q,t' U H Q->t U H Q):PW X e t':=fun w pins s U H Q I q=>h w pins s U H Q I (f U H Q q)
theorem X_{es:List Expr}{t t':TA}(h:PA X es t)(f:∀U H Q,t' U H Q->t U H Q):PA X es t':=fun p pins s U H Q I q=>h p pins s U H Q I (f U H Q q)
theorem Hx(h:PE X e (tE K de)):PE X e (tR K de):=jt h fun U H Q ⟨H0,O0,Z,O,d,R,ed,q⟩=>⟨H0,O0,Z,O,d,R,ed,fun v H' s r=>q v H' s (.inl r)⟩
@[simp] def dL(df:DO)(Z:j6):Option D:=(df Z).bind fun l=>some l.toD
theorem j0{α β:Type}{o:Option α}{f:α->Option β}{y:β}(h:o.bind f=some y):∃x,o=some x/\f x=some y:=by
 cases o with
 | none=>cases h
 | some x=>exact⟨x,rfl,h⟩
theorem Hy{df:DO}(h:PE X e (tF K df)):PE X e (tE K (dL df)):=jt h fun U H Q xx=>by
 obtain⟨H0,O0,Z,O,d,R,ed,q⟩:=xx;obtain⟨ds,e1,e2⟩:=j0 ed;cases e2;exact⟨H0,O0,Z,O,ds,R,e1,fun l H' s hn r=>q _ _ s ((r.same (fun _ z=>z) (jY fun a h=>wMa _ h)).rep fun u z=>by rw[jF (R.new hn)];exact z)⟩
@[simp] def dV(i:Nat)(Z:j6):Option D:=match Z[i]? with
 | some (.cl d)=>some d
 | some (.bo d)=>some d
 | some (.ow _ o)=>some o.toD
 | _=>none
@[simp] noncomputable def dC(i:Nat)(Z:j6):Option D:=match Z[i]? with
 | some (.cl d)=>some d
 | _=>none
theorem Et(i:Nat){x:Str}(h:PE X (.Name x pos) (J_ i)):PE X (.Name x pos) (tR K (dV i)):=jt h fun U H Q xx=>by
 obtain⟨H0,O0,Z,O,d,R,ed,q⟩:=xx;unfold dV at ed;split at ed
 ·cases ed;obtain⟨v,e1,r⟩:=R.cl i _ (by assumption);exact⟨v,e1,q v H (j3.refl H) (.inl r)⟩
 ·cases ed;obtain⟨v,e1,r⟩:=R.bo i _ (by assumption);refine⟨v,e1,q v H (j3.refl H) ?_⟩;rcases r with r | ⟨l,o,e2,e3,h1⟩
  ·exact .inl (r.same R.in0)
  ·exact .inr ⟨l,o,e2,e3,h1.same (R.keep l) R.in0⟩
 ·cases ed;obtain⟨l,_,e1,h1,_⟩:=R.ow i _ _ (by assumption);exact⟨_,e1,q _ H (j3.refl H) (.inr ⟨l,_,rfl,rfl,h1⟩)⟩
 ·cases ed
theorem a8(i:Nat){x:Str}(h:PE X (.Name x pos) (J_ i)):PE X (.Name x pos) (tE K (dC i)):=jt h fun U H Q xx=>by
 obtain⟨H0,O0,Z,O,d,R,ed,q⟩:=xx;unfold dC at ed;split at ed
 ·cases ed;obtain⟨v,e1,r⟩:=R.cl i _ (by assumption);exact⟨v,e1,q v H (j3.refl H) r⟩
 ·cases ed
@[simp] noncomputable def dK(d:D)(_:j6):Option D:=some d
theorem UL{v:V}{d:D}(h:PE X e (tC v))(r:∀H,j8 K H d v):PE X e (tE K (dK d)):=jt h fun U H Q xx=>by
 obtain⟨H0,O0,Z,O,d',R,ed,q⟩:=xx;cases ed;exact q v H (j3.refl H) (r _)
theorem Eu{i j}:PE X (.Constant (.int i) j pos) (tE K (dK (.int i))):=UL Bc fun _=>by rw[j8]
theorem Hz{i j}:PE X (.Constant (.bool i) j pos) (tE K (dK (.bl i))):=UL E5 fun _=>by rw[j8]
theorem a9{j}:PE X (.Constant .none j pos) (tE K (dK .non)):=UL Be fun _=>by rw[j8]
theorem Ev{i j}:PE X (.Constant (.str i) j pos) (tE K (dK (.str i))):=UL qB fun _=>by rw[j8]
theorem cb{x:Str}{i:Int}(h:PE X (.Name x pos) (tC (.int i))):PE X (.Name x pos) (tE K (dK (.int i))):=UL h fun _=>by rw[j8]
@[simp] noncomputable def d2(f:D->D->Option D)(da db:DE)(Z:j6):Option D:=(da Z).bind fun x=>(db Z).bind fun y=>f x y
@[simp] noncomputable def d1(f:D->Option D)(da:DE)(Z:j6):Option D:=(da Z).bind f
def jR(K:Fr)(r:R2)(f:D->D->Option D):Prop:=∀(O:List Addr) (H:Hp) (a b d:D) (x y:V) (Q:VK),RB K O H a x->RB K O H b y->(∀p,H p=none->p∉O)->f a b=some d->(∀v H',j3 H H'->j8 K (j7 H' O) d v->Q v H')->r x y H Q
theorem UM{r:R2}{f:D->D->Option D}(hf:jR K r f):∀U H Q,tE K (d2 f da db) U H Q->wy r (tR K da) (tR K db) U H Q:=fun U H Q xx=>by
 obtain⟨H0,O0,Z,O,d,R,ed,q⟩:=xx;obtain⟨x,ex,ed⟩:=j0 ed;obtain⟨y,ey,ed⟩:=j0 ed;exact⟨H0,O0,Z,O,x,R,ex,fun vx H1 s1 rx=>⟨H0,O0,Z,O,y,R.grow s1,ey,fun vy H2 s2 ry=>hf O H2 x y d vx vy Q (rx.same s2) ry (fun p hp=>(R.grow (s1.trans s2)).new hp) ed fun v H' s r=>q v H' ((s1.trans s2).trans s) r⟩⟩
theorem HA{op:Operator}{r:R2}{f:D->D->Option D}(ho:jH X (binaryOp op) r)(hf:jR K r f)(ha:PE X a (tR K da))(hb:PE X b (tR K db)):PE X (.BinOp a op b pos) (tE K (d2 f da db)):=jt (XH ho ha hb) (UM hf)
theorem Ew{op:CmpOp}{r:R2}{f:D->D->Option D}(ho:jH X (compareOp op) r)(hf:jR K r f)(ha:PE X a (tR K da))(hb:PE X b (tR K db))(hm:behindInMarks op b=false):PE X (.Compare a [op] [b] pos) (tE K (d2 f da db)):=jt (Ao ho ha hb hm) (UM hf)
theorem ce{r:R2}{f:D->D->Option D}(ho:uJ X r)(hf:jR K r f)(ha:PE X a (tR K da))(hb:PE X b (tR K db))(hs:gB b):PE X (.Subscript a b pos) (tE K (d2 f da db)):=jt (XS ho ha hb hs) (UM hf)
def cf(K:Fr)(r:R2)(f:D->D->Option OD):Prop:=∀(O:List Addr) (H:Hp) (a b:D) (ds:OD) (x y:V) (Q:VK),RB K O H a x->RB K O H b y->f a b=some ds->(∀l H',j3 H H'->H l=none->JD K H' (j7 H' (l::O)) l ds->Q (.ref l) H')->r x y H Q
@[simp] noncomputable def ZH(f:D->D->Option OD)(da db:DE)(Z:j6):Option OD:=(da Z).bind fun x=>(db Z).bind fun y=>f x y
theorem HB{op:Operator}{r:R2}{f:D->D->Option OD}(ho:jH X (binaryOp op) r)(hf:cf K r f)(ha:PE X a (tR K da))(hb:PE X b (tR K db)):PE X (.BinOp a op b pos) (tF K (ZH f da db)):=jt (XH ho ha hb) fun U H Q xx=>by
 obtain⟨H0,O0,Z,O,d,R,ed,q⟩:=xx;obtain⟨x,ex,ed⟩:=j0 ed;obtain⟨y,ey,ed⟩:=j0 ed;exact⟨H0,O0,Z,O,x,R,ex,fun vx H1 s1 rx=>⟨H0,O0,Z,O,y,R.grow s1,ey,fun vy H2 s2 ry=>hf O H2 x y d vx vy Q (rx.same s2) ry ed fun l H' s hn r=>q l H' ((s1.trans s2).trans s) ((s1.trans s2).none hn) r⟩⟩
@[simp] noncomputable def fI(C:Int->Int->Bool)(g:Int->Int->D):D->D->Option D
 | .int i,.int j=>if C i j=true then some (g i j)else none
 | _,_=>none
noncomputable def vD:D->Option V
 | .int i=>some (.int i)
 | .bl i=>some (.bl i)
 | .str i=>some (.str i)
 | .non=>some .non
 | _=>none
theorem ci{K:Fr}{H:Hp}{d:D}{v:V}(h:vD d=some v):j8 K H d v:=by
 cases d <;> first | (cases h;rw[j8]) | cases h
theorem kK{C:Int->Int->Bool}{P:Int->Int->Prop}{g:Int->Int->D}{gv:Int->Int->V}(hP:∀i j,C i j=true->P i j)(hg:∀i j,vD (g i j)=some (gv i j)):jR K (rI P gv) (fI C g):=by
 intro O H a b d x y Q ha hb _ e q;unfold fI at e;split at e
 ·split at e
  ·cases e;exact⟨_,_,ha.int,hb.int,hP _ _ (by assumption),q _ H (j3.refl H) (ci (hg _ _))⟩
  ·cases e
 ·cases e
theorem UN{g:Int->Int->D}{gv:Int->Int->V}(hg:∀i j,vD (g i j)=some (gv i j)):jR K (zU gv) (fI (fun _ _=>true) g):=by
 intro O H a b d x y Q ha hb hn e q;obtain⟨i,j,e1,e2,_,q⟩:=kK (K:=K) (P:=fun _ _=>True) (fun _ _ _=>trivial) hg O H a b d x y Q ha hb hn e q;exact⟨i,j,e1,e2,q⟩
noncomputable abbrev kL:=fI (fun _ _=>true) fun i j=>.int (i - j)
noncomputable def Zg(i j:Int):Bool:=Nat.blt i.natAbs 18446744073709551616||Nat.blt j.natAbs 18446744073709551616
abbrev ad:=fI Zg fun i j=>.int (i * j)
noncomputable abbrev jK:=fI (fun _ j=>decide (0 < j)) fun i j=>.int (i % j)
noncomputable abbrev kM:=fI (fun _ j=>decide (0 < j)&&decide (j < 1073741824)) fun i j=>.int (i / j)
@[simp] noncomputable def ck(i j:Int):Bool:=decide (0<=j)&&(decide (j<=1000000)&&decide (i.natAbs < 2 ^ 64))
abbrev xy:=fI ck fun i j=>.int (i ^ j.toNat)
noncomputable abbrev UO:=fI (fun _ _=>true) fun i j=>.bl (decide (i < j))
noncomputable abbrev J9:=fI (fun _ _=>true) fun i j=>.bl (decide (i<=j))
noncomputable abbrev vF:=fI (fun _ _=>true) fun i j=>.bl (decide (j < i))
noncomputable abbrev ae:=fI (fun _ _=>true) fun i j=>.bl (decide (j<=i))
theorem Ex:jR K (zU fun i j=>.int (i - j)) kL:=UN fun _ _=>rfl
theorem Ey:jR K (rI Uh fun i j=>.int (i * j)) ad:=kK (fun i j h=>by
 unfold Zg at h;rw[Bool.or_eq_true,Nat.blt_eq,Nat.blt_eq]at h;unfold Uh;have e:(2:Int) ^ 64=18446744073709551616:=by decide
 rw[e];rcases h with h | h
 ·exact .inl ⟨by omega,by omega⟩
 ·exact .inr ⟨by omega,by omega⟩) fun _ _=>rfl
theorem Ez:jR K (rI (fun _ j=>0 < j) fun i j=>.int (i % j)) jK:=kK (fun i j h=>by simpa using h) fun _ _=>rfl
theorem EA:jR K (rI QU fun i j=>.int (i / j)) kM:=kK (fun i j h=>by simpa[QU]using h) fun _ _=>rfl
theorem EB:jR K (rI QV fun i j=>.int (i ^ j.toNat)) xy:=kK (fun i j h=>by simpa[QV,ck]using h) fun _ _=>rfl
theorem HC:jR K (zU fun i j=>.bl (decide (i < j))) UO:=UN fun _ _=>rfl
theorem HD:jR K (zU fun i j=>.bl (decide (i<=j))) J9:=UN fun _ _=>rfl
theorem HE:jR K (zU fun i j=>.bl (decide (j < i))) vF:=UN fun _ _=>rfl
theorem HF:jR K (zU fun i j=>.bl (decide (j<=i))) ae:=UN fun _ _=>rfl
noncomputable def ZI:D->Bool
 | .non=>true
 | _=>false
@[simp] theorem iO:ZI .non=true:=rfl
@[simp] theorem Ia(b:Bool):ZI (.bl b)=false:=rfl
@[simp] theorem iP(b:Int):ZI (.int b)=false:=rfl
@[simp] theorem iQ(b:Str):ZI (.str b)=false:=rfl
@[simp] theorem iR(b:List D):ZI (.tup b)=false:=rfl
@[simp] theorem iS(b:List D):ZI (.lst b)=false:=rfl
theorem af{H:Hp}{d:D}{v:V}(h:j8 K H d v):decide (v=.non)=ZI d:=by
 cases d <;> rw[j8]at h;all_goals first
  | (subst h;rfl)
  | (obtain⟨_,_,rfl,_⟩:=h;rfl)
  | (obtain⟨_,_,_,rfl,_⟩:=h;rfl)
  | (obtain⟨_,rfl,_⟩:=h;rfl)
def yu:D->D->Option D
 | d,.non=>some (.bl (ZI d))
 | _,_=>none
@[simp] theorem HG(d:D):yu d .non=some (.bl (ZI d)):=by cases d <;> rfl
def WC:D->D->Option D
 | d,.non=>some (.bl (!ZI d))
 | _,_=>none
theorem EC:jR K (fun x y H Q=>y=.non/\Q (.bl (decide (x=.non))) H) yu:=by
 intro O H a b d x y Q ha hb _ e q;unfold yu at e;split at e
 ·cases e;exact⟨hb.non,q _ H (j3.refl H) (by rw[j8,af ha.full])⟩
 ·cases e
theorem cq:jR K (fun x y H Q=>y=.non/\Q (.bl (!decide (x=.non))) H) WC:=by
 intro O H a b d x y Q ha hb _ e q;unfold WC at e;split at e
 ·cases e;exact⟨hb.non,q _ H (j3.refl H) (by rw[j8,af ha.full])⟩
 ·cases e
@[simp] noncomputable def kN:D->D->Option D
 | .int i,.int j=>some (.bl (decide (i=j)))
 | .bl i,.bl j=>some (.bl (decide (i=j)))
 | .str i,.str j=>some (.bl (decide (i=j)))
 | _,_=>none
@[simp] def xz(a b:D):Option D:=(kN a b).bind fun r=>match r with | .bl c=>some (.bl (!c)) | _=>none
theorem vv(x y:Int):decide (V.int x=V.int y)=decide (x=y):=by simp
theorem VA(x y:Bool):decide (V.bl x=V.bl y)=decide (x=y):=by simp
theorem vz(x y:Str):decide (V.str x=V.str y)=decide (x=y):=by simp
theorem ED:jR K XJ kN:=by
 intro O H a b d x y Q ha hb _ e q;unfold kN at e;split at e
 ·cases e;rw[ha.int,hb.int];exact⟨rfl,q _ H (j3.refl H) (by rw[j8,vv])⟩
 ·cases e;rw[ha.bl,hb.bl];exact⟨rfl,q _ H (j3.refl H) (by rw[j8,VA])⟩
 ·cases e;rw[ha.str,hb.str];exact⟨rfl,q _ H (j3.refl H) (by rw[j8,vz])⟩
 ·cases e
theorem EE:jR K XM xz:=by
 intro O H a b d x y Q ha hb _ e q;unfold xz kN at e;obtain⟨r,e1,e2⟩:=j0 e;split at e1
 ·cases e1;cases e2;rw[ha.int,hb.int];exact⟨rfl,q _ H (j3.refl H) (by rw[j8,vv])⟩
 ·cases e1;cases e2;rw[ha.bl,hb.bl];exact⟨rfl,q _ H (j3.refl H) (by rw[j8,VA])⟩
 ·cases e1;cases e2;rw[ha.str,hb.str];exact⟨rfl,q _ H (j3.refl H) (by rw[j8,vz])⟩
 ·cases e1
def jj:D->D->Option D
 | .lst l,.int i=>atI l i
 | .tup l,.int i=>atI l i
 | _,_=>none
@[simp] theorem iT(l:List D)(i:Int):jj (.lst l) (.int i)=L2.atI l i:=rfl
@[simp] theorem iU(l:List D)(i:Int):jj (.tup l) (.int i)=L2.atI l i:=rfl
theorem j4.atI{H:Hp}{l:List D}{xs:List V}{i:Int}{d:D}(h:j4 K H l xs)(e:L2.atI l i=some d):∃v,L2.atI xs i=some v/\j8 K H d v:=by
 unfold L2.atI at e⊢;rw[h.len];obtain⟨j,e1,e2⟩:=j0 e;obtain⟨v,e3,r⟩:=h.get e2;exact⟨v,by rw[e1];exact e3,r⟩
theorem HH:jR K (Fq K) jj:=by
 intro O H a b d x y Q ha hb _ e q;unfold jj at e;split at e
 ·obtain⟨p,xs,rfl,h1,h2⟩:=ha.lst;obtain⟨v,e3,r⟩:=h2.atI e;exact .inl ⟨p,xs,_,v,rfl,hb.int,js.of h1,e3,q v H (j3.refl H) r⟩
 ·obtain⟨p,xs,rfl,h1,h2⟩:=ha.tup;obtain⟨v,e3,r⟩:=h2.atI e;exact .inr (.inl ⟨p,xs,_,v,rfl,hb.int,h1,e3,q v H (j3.refl H) r⟩)
 ·cases e
@[simp] noncomputable def gF:D->D->Option OD
 | .lst l,.lst m=>if l.length+m.length<=sizeLine then some (.lst (l++m))else none
 | _,_=>none
theorem yG{O:List Addr}{H:Hp}{p:Addr}{ds:List D}{vs:List V}(hp:H p=none)(r:j4 K (j7 H O) ds vs):JD K (upd H p (.lst vs)) (j7 (upd H p (.lst vs)) (p::O)) p (.lst ds):=⟨vs,ju,r.same (zw (jD hp _) hp)⟩
theorem EF:cf K BU gF:=by
 intro O H a b ds x y Q ha hb e q;unfold gF at e;split at e
 ·split at e
  ·cases e;obtain⟨p,xs,rfl,h1,h2⟩:=ha.lst;obtain⟨p',xs',rfl,h1',h2'⟩:=hb.lst;exact⟨p,p',xs,xs',rfl,rfl,h1,h1',by rw[h2.len,h2'.len];assumption,fun l hl=>q l _ (jD hl _) hl (yG hl (h2.app h2'))⟩
  ·cases e
 ·cases e
theorem Y3{O:List Addr}{H:Hp}{p:Addr}{ds:List D}{vs:List V}(hO:p∉O)(hp:H p=none)(r:j4 K (j7 H O) ds vs):j8 K (j7 (upd H p (.tup vs)) O) (.tup ds) (.ref p):=by
 rw[j8];refine⟨p,vs,rfl,Ju.of ?_,r.same (jc (jD hp _))⟩;rw[jF hO,ju]
@[simp] noncomputable def jG:D->D->Option D
 | .int i,.int j=>some (.int (i+j))
 | .str i,.str j=>if i.length+j.length<=sizeLine then some (.str (i++j))else none
 | _,_=>none
theorem EG:jR K (fun x y H Q=>zU (fun i j=>.int (i+j)) x y H Q \/ (fun x y H Q=>∃i j,x=.str i/\y=.str j/\i.length+j.length<=sizeLine/\Q (.str (i++j)) H) x y H Q) jG:=by
 intro O H a b d x y Q ha hb hn e q;unfold jG at e;split at e
 ·cases e;exact .inl ⟨_,_,ha.int,hb.int,q _ H (j3.refl H) (by rw[j8])⟩
 ·split at e
  ·cases e;exact .inr ⟨_,_,ha.str,hb.str,by assumption,q _ H (j3.refl H) (by rw[j8])⟩
  ·cases e
 ·cases e
end
section
variable {X:Cx} {K:Fr} {e a b c d:Expr} {de da db dc dd:DE} {pos:Pos}
@[simp] noncomputable def gG(z:D)(yes:Option D):Option D:=match z with
 | .bl true=>yes
 | .bl false=>some (.bl false)
 | _=>none
theorem Yv{z d:D}{y:Option D}(h:gG z y=some d):∃k,z=.bl k/\((k=true/\y=some d) \/ (k=false/\d=.bl false)):=by
 unfold gG at h;split at h
 ·exact⟨true,rfl,.inl ⟨rfl,h⟩⟩
 ·exact⟨false,rfl,.inr ⟨rfl,(vFa h).symm⟩⟩
 ·cases h
@[simp] def J1(f f':D->D->Option D)(da db dc:DE)(Z:j6):Option D:=(da Z).bind fun x=>(db Z).bind fun y=>(f x y).bind fun z=>gG z ((dc Z).bind fun w=>f' y w)
theorem qX{r r':R2}{f f':D->D->Option D}(hf:jR K r f)(hf':jR K r' f'):∀U H Q,tE K (J1 f f' da db dc) U H Q->ko r r' (tR K da) (tR K db) (tR K dc) U H Q:=fun U H Q xx=>by
 obtain⟨H0,O0,Z,O,d,R,ed,q⟩:=xx;obtain⟨x,ex,ed⟩:=j0 ed;obtain⟨y,ey,ed⟩:=j0 ed;obtain⟨z,ez,ed⟩:=j0 ed;obtain⟨k,rfl,ek⟩:=Yv ed;refine⟨H0,O0,Z,O,x,R,ex,fun vx H1 s1 rx=>⟨H0,O0,Z,O,y,R.grow s1,ey,fun vy H2 s2 ry=>hf O H2 x y _ vx vy _ (rx.same s2) ry (fun p hp=>(R.grow (s1.trans s2)).new hp) ez fun v H3 s3 rz=>?_⟩⟩;rw[j8]at rz;subst rz;refine⟨k,rfl,?_⟩;have s13:=(s1.trans s2).trans s3;rcases ek with⟨rfl,e2⟩ | ⟨rfl,rfl⟩
 ·obtain⟨w,ew,e3⟩:=j0 e2;exact yF ⟨H0,O0,Z,O,w,R.grow s13,ew,fun vw H4 s4 rw'=>hf' O H4 y w d vy vw Q ((ry.same s3).same s4) rw' (fun p hp=>(R.grow (s13.trans s4)).new hp) e3 fun v H' s r=>q v H' ((s13.trans s4).trans s) r⟩
 ·exact yE (q _ _ s13 (by rw[j8]))
theorem AH{op op':CmpOp}{r r':R2}{f f':D->D->Option D}(ho:jH X (compareOp op) r)(ho':jH X (compareOp op') r')(hf:jR K r f)(hf':jR K r' f')(ha:PE X a (tR K da))(hb:PE X b (tR K db))(hc:PE X c (tR K dc))(hm:lastMarks [op,op'] [b,c]=false:=by with_unfolding_all rfl):PE X (.Compare a [op,op'] [b,c] pos) (tE K (J1 f f' da db dc)):=jt (QW ho ho' ha hb hc hm) (qX hf hf')
@[simp] def yM(f f' f'':D->D->Option D)(da db dc dd:DE)(Z:j6):Option D:=(da Z).bind fun x=>(db Z).bind fun y=>(f x y).bind fun z=>gG z ((dc Z).bind fun w=>(f' y w).bind fun z'=>gG z' ((dd Z).bind fun u=>f'' w u))
theorem xA{op op' op'':CmpOp}{r r' r'':R2}{f f' f'':D->D->Option D}(ho:jH X (compareOp op) r)(ho':jH X (compareOp op') r')(ho'':jH X (compareOp op'') r'')(hf:jR K r f)(hf':jR K r' f')(hf'':jR K r'' f'')(ha:PE X a (tR K da))(hb:PE X b (tR K db))(hc:PE X c (tR K dc))(hd:PE X d (tR K dd))(hm:lastMarks [op,op',op''] [b,c,d]=false:=by with_unfolding_all rfl):
  PE X (.Compare a [op,op',op''] [b,c,d] pos) (tE K (yM f f' f'' da db dc dd)):=jt (qU ho ho' ho'' ha hb hc hd hm) fun U H Q xx=>by
 obtain⟨H0,O0,Z,O,d,R,ed,q⟩:=xx;obtain⟨x,ex,ed⟩:=j0 ed;obtain⟨y,ey,ed⟩:=j0 ed;obtain⟨z,ez,ed⟩:=j0 ed;obtain⟨k,rfl,ek⟩:=Yv ed;refine⟨H0,O0,Z,O,x,R,ex,fun vx H1 s1 rx=>⟨H0,O0,Z,O,y,R.grow s1,ey,fun vy H2 s2 ry=>hf O H2 x y _ vx vy _ (rx.same s2) ry (fun p hp=>(R.grow (s1.trans s2)).new hp) ez fun v H3 s3 rz=>?_⟩⟩;rw[j8]at rz;subst rz;refine⟨k,rfl,?_⟩;have s13:=(s1.trans s2).trans s3;rcases ek with⟨rfl,e2⟩ | ⟨rfl,rfl⟩
 ·obtain⟨w,ew,e3⟩:=j0 e2;obtain⟨z',ez',e3⟩:=j0 e3;obtain⟨k',rfl,ek'⟩:=Yv e3;refine yF ⟨H0,O0,Z,O,w,R.grow s13,ew,fun vw H4 s4 rw'=>hf' O H4 y w _ vy vw _ ((ry.same s3).same s4) rw' (fun p hp=>(R.grow (s13.trans s4)).new hp) ez' fun v H5 s5 r=>?_⟩;rw[j8]at r;subst r;refine⟨k',rfl,?_⟩;have s15:=(s13.trans s4).trans s5;rcases ek' with⟨rfl,e4⟩ | ⟨rfl,rfl⟩
  ·obtain⟨u,eu,e5⟩:=j0 e4;exact yF ⟨H0,O0,Z,O,u,R.grow s15,eu,fun vu H6 s6 ru=>hf'' O H6 w u d vw vu Q ((rw'.same s5).same s6) ru (fun p hp=>(R.grow (s15.trans s6)).new hp) e5 fun v H' s r=>q v H' ((s15.trans s6).trans s) r⟩
  ·exact yE (q _ _ s15 (by rw[j8]))
 ·exact yE (q _ _ s13 (by rw[j8]))
@[simp] noncomputable def ah:D->Option Bool
 | .bl b=>some b
 | _=>none
noncomputable def ZZ:D->Option Bool
 | .bl b=>some b
 | .non=>some false
 | .int i=>some (i != 0)
 | .lst l=>some (!l.isEmpty)
 | .tup l=>some (!l.isEmpty)
 | _=>none
@[simp] theorem iV(b:Bool):ZZ (.bl b)=some b:=rfl
@[simp] theorem HI:ZZ .non=some false:=rfl
@[simp] theorem HJ(l:List D):ZZ (.lst l)=some (!l.isEmpty):=rfl
@[simp] theorem HK(l:List D):ZZ (.tup l)=some (!l.isEmpty):=rfl
@[simp] theorem HL(i:Int):ZZ (.int i)=some (i != 0):=rfl
theorem cr{O:List Addr}{H:Hp}{d:D}{v:V}{k:Bool}(h:RB K O H d v)(e:ZZ d=some k):QY K v H k:=by
 unfold ZZ at e;split at e
 ·cases e;rw[h.bl];rfl
 ·cases e;rw[h.non];rfl
 ·cases e;rw[h.int];rfl
 ·cases e;obtain⟨p,xs,rfl,h1,h2⟩:=h.lst;refine .inl ⟨xs,js.of h1,?_⟩;have:=h2.len;cases xs with
  | nil=>rw[List.length_eq_zero_iff.mp this.symm];rfl
  | cons x xs=>
   rename_i l;cases l with
   | nil=>cases this
   | cons y l=>rfl
 ·cases e;obtain⟨p,xs,rfl,h1,h2⟩:=h.tup;refine .inr (.inl ⟨xs,h1,?_⟩);have:=h2.len;cases xs with
  | nil=>rw[List.length_eq_zero_iff.mp this.symm];rfl
  | cons x xs=>
   rename_i l;cases l with
   | nil=>cases this
   | cons y l=>rfl
 ·cases e
abbrev DT:=j6->Option Bool
@[simp] def y0(de:DE)(Z:j6):Option Bool:=(de Z).bind ZZ
theorem ai(h:PE X e (tR K de))(hK:X.K=K:=by rfl)(he:∀whole,isTrue e X.env whole=(do let v<-whole;standAt e.pos;holding [v] (truthy v)):=by intro _;rfl):PT X e (tT K (y0 de)):=uf (QZ h he) fun U H Q xx=>by
 obtain⟨H0,O0,Z,O,k,R,ed,q⟩:=xx;subst hK;obtain⟨d,e1,e2⟩:=j0 ed;exact⟨H0,O0,Z,O,d,R,e1,fun v H' s r=>⟨k,cr r e2,q H' s⟩⟩
@[simp] def jy(de:DE)(Z:j6):Option Bool:=(de Z).bind ah
theorem Uk{d:D}{k:Bool}(h:ah d=some k):d=.bl k:=by
 unfold ah at h;split at h
 ·cases h;rfl
 ·cases h
theorem EH{op:CmpOp}{r:R2}{f:D->D->Option D}(ho:jH X (compareOp op) r)(hf:jR K r f)(ha:PE X a (tR K da))(hb:PE X b (tR K db))(hm:behindInMarks op b=false):PT X (.Compare a [op] [b] pos) (tT K (jy (d2 f da db))):=uf (Ap ho ha hb hm) fun U H Q xx=>by
 obtain⟨H0,O0,Z,O,k,R,ed,q⟩:=xx;obtain⟨d,e1,e2⟩:=j0 ed;cases Uk e2;exact UM hf U H _ ⟨H0,O0,Z,O,_,R,e1,fun v H' s r=>⟨k,by rw[j8]at r;exact r,q H' s⟩⟩
theorem AI{op op':CmpOp}{r r':R2}{f f':D->D->Option D}(ho:jH X (compareOp op) r)(ho':jH X (compareOp op') r')(hf:jR K r f)(hf':jR K r' f')(ha:PE X a (tR K da))(hb:PE X b (tR K db))(hc:PE X c (tR K dc))(hm:lastMarks [op,op'] [b,c]=false:=by with_unfolding_all rfl):PT X (.Compare a [op,op'] [b,c] pos) (tT K (jy (J1 f f' da db dc))):=uf (QX ho ho' ha hb hc hm) fun U H Q xx=>by
 obtain⟨H0,O0,Z,O,k,R,ed,q⟩:=xx;obtain⟨d,e1,e2⟩:=j0 ed;cases Uk e2;have e1':=e1;obtain⟨x,ex,e1⟩:=j0 e1;obtain⟨y,ey,e1⟩:=j0 e1;obtain⟨z,ez,e1⟩:=j0 e1;obtain⟨k',rfl,ek⟩:=Yv e1;refine⟨H0,O0,Z,O,x,R,ex,fun vx H1 s1 rx=>⟨H0,O0,Z,O,y,R.grow s1,ey,fun vy H2 s2 ry=>hf O H2 x y _ vx vy _ (rx.same s2) ry (fun p hp=>(R.grow (s1.trans s2)).new hp) ez fun v H3 s3 rz=>?_⟩⟩;rw[j8]at rz;subst rz;refine⟨k',rfl,?_⟩;have s13:=(s1.trans s2).trans s3;rcases ek with⟨rfl,e2⟩ | ⟨rfl,e0⟩
 ·obtain⟨w,ew,e3⟩:=j0 e2;exact yF ⟨H0,O0,Z,O,w,R.grow s13,ew,fun vw H4 s4 rw'=>hf' O H4 y w _ vy vw _ ((ry.same s3).same s4) rw' (fun p hp=>(R.grow (s13.trans s4)).new hp) e3 fun v H' s r=>⟨k,by rw[j8]at r;exact r,q H' ((s13.trans s4).trans s)⟩⟩
 ·cases e0;exact yE ⟨false,rfl,q _ s13⟩
@[simp] noncomputable def J0(dt:DT)(Z:j6):Option Bool:=(dt Z).bind fun k=>some (!k)
theorem EI{dt:DT}(h:PT X a (tT K dt)):PT X (.UnaryOp .Not a pos) (tT K (J0 dt)):=uf (Bh h) fun U H Q xx=>by
 obtain⟨H0,O0,Z,O,k,R,ed,q⟩:=xx;obtain⟨k',e1,e2⟩:=j0 ed;cases e2;exact⟨H0,O0,Z,O,k',R,e1,fun H' s=>q H' s⟩
@[simp] noncomputable def ug(dt du:DT)(Z:j6):Option Bool:=(dt Z).bind fun k=>if k=true then du Z else some false
@[simp] noncomputable def Jw(dt du:DT)(Z:j6):Option Bool:=(dt Z).bind fun k=>if k=true then some true else du Z
theorem cv{dt:DT}(h:PT X a (tT K dt)):PW X (.BoolOp .And [a] pos) (tT K dt):=Ai h
theorem EJ{dt:DT}(h:PT X a (tT K dt)):PW X (.BoolOp .Or [a] pos) (tT K dt):=Bf h
theorem EK{dt du:DT}{rest:List Expr}(h:PT X a (tT K dt))(h2:PW X (.BoolOp .And (b::rest) pos) (tT K du)):PW X (.BoolOp .And (a::b::rest) pos) (tT K (ug dt du)):=XZ (Bg h h2) fun U H Q xx=>by
 obtain⟨H0,O0,Z,O,k,R,ed,q⟩:=xx;obtain⟨k',e1,e2⟩:=j0 ed;refine⟨H0,O0,Z,O,k',R,e1,fun H' s=>?_⟩;cases k' with
 | true=>rw[if_pos rfl]at e2;exact yF ⟨H0,O0,Z,O,k,R.grow s,e2,fun H2 s2=>q H2 (s.trans s2)⟩
 | false=>rw[if_neg Bool.false_ne_true]at e2;cases e2;exact yE (q H' s)
theorem HM{dt du:DT}{rest:List Expr}(h:PT X a (tT K dt))(h2:PW X (.BoolOp .Or (b::rest) pos) (tT K du)):PW X (.BoolOp .Or (a::b::rest) pos) (tT K (Jw dt du)):=XZ (E6 h h2) fun U H Q xx=>by
 obtain⟨H0,O0,Z,O,k,R,ed,q⟩:=xx;obtain⟨k',e1,e2⟩:=j0 ed;refine⟨H0,O0,Z,O,k',R,e1,fun H' s=>?_⟩;cases k' with
 | true=>rw[if_pos rfl]at e2;cases e2;exact yF (q H' s)
 | false=>rw[if_neg Bool.false_ne_true]at e2;exact yE ⟨H0,O0,Z,O,k,R.grow s,e2,fun H2 s2=>q H2 (s.trans s2)⟩
theorem cw{dt:DT}(h:PW X e (tT K dt)):PT X e (tT K dt):=h.pt
@[simp] noncomputable def Y8(da db:DE)(Z:j6):Option D:=(da Z).bind fun x=>match x with
 | .bl true=>db Z
 | .bl false=>some (.bl false)
 | _=>none
@[simp] noncomputable def WD(da db:DE)(Z:j6):Option D:=(da Z).bind fun x=>match x with
 | .bl true=>some (.bl true)
 | .bl false=>db Z
 | _=>none
@[simp] noncomputable def aj(da:DE)(Z:j6):Option D:=(da Z).bind fun x=>match x with
 | .bl k=>some (.bl (!k))
 | _=>none
theorem ao{op}(h:PE X a (tE K da)):PE X (.BoolOp op [a] pos) (tE K da):=Bi h
theorem EL{rest:List Expr}(ha:PE X a (tR K da))(hb:PE X (.BoolOp .And (b::rest) pos) (tE K db)):PE X (.BoolOp .And (a::b::rest) pos) (tE K (Y8 da db)):=jt (Bj ha hb) fun U H Q xx=>by
 obtain⟨H0,O0,Z,O,d,R,ed,q⟩:=xx;obtain⟨x,e1,e2⟩:=j0 ed;refine⟨H0,O0,Z,O,x,R,e1,fun v H' s r=>?_⟩;split at e2
 ·exact⟨true,r.bl,yF ⟨H0,O0,Z,O,d,R.grow s,e2,fun v H2 s2 r2=>q v H2 (s.trans s2) r2⟩⟩
 ·cases e2;exact⟨false,r.bl,yE (q _ _ s (by rw[j8]))⟩
 ·cases e2
theorem HN{rest:List Expr}(ha:PE X a (tR K da))(hb:PE X (.BoolOp .Or (b::rest) pos) (tE K db)):PE X (.BoolOp .Or (a::b::rest) pos) (tE K (WD da db)):=jt (E9 ha hb) fun U H Q xx=>by
 obtain⟨H0,O0,Z,O,d,R,ed,q⟩:=xx;obtain⟨x,e1,e2⟩:=j0 ed;refine⟨H0,O0,Z,O,x,R,e1,fun v H' s r=>?_⟩;split at e2
 ·cases e2;exact⟨true,r.bl,yF (q _ _ s (by rw[j8]))⟩
 ·exact⟨false,r.bl,yE ⟨H0,O0,Z,O,d,R.grow s,e2,fun v H2 s2 r2=>q v H2 (s.trans s2) r2⟩⟩
 ·cases e2
theorem EM(ha:PE X a (tR K da)):PE X (.UnaryOp .Not a pos) (tE K (aj da)):=jt (Bl ha) fun U H Q xx=>by
 obtain⟨H0,O0,Z,O,d,R,ed,q⟩:=xx;obtain⟨x,e1,e2⟩:=j0 ed;refine⟨H0,O0,Z,O,x,R,e1,fun v H' s r=>?_⟩;split at e2
 ·cases e2;exact⟨_,r.bl,q _ _ s (by rw[j8])⟩
 ·cases e2
@[simp] noncomputable def gH(da:DE)(Z:j6):Option D:=(da Z).bind fun x=>match x with
 | .int i=>some (.int (-i))
 | _=>none
theorem EN(ha:PE X a (tR K da)):PE X (.UnaryOp .USub a pos) (tE K (gH da)):=jt (Ee BC ha) fun U H Q xx=>by
 obtain⟨H0,O0,Z,O,d,R,ed,q⟩:=xx;obtain⟨x,e1,e2⟩:=j0 ed;refine⟨H0,O0,Z,O,x,R,e1,fun v H' s r=>?_⟩;split at e2
 ·cases e2;exact⟨_,r.int,q _ _ s (by rw[j8])⟩
 ·cases e2
@[simp] noncomputable def WE(dt:DT)(da db:DE)(Z:j6):Option D:=(dt Z).bind fun k=>if k=true then da Z else db Z
theorem EO{dt:DT}(hc:PT X c (tT K dt))(ha:PE X a (tE K da))(hb:PE X b (tE K db)):PE X (.IfExp c a b pos) (tE K (WE dt da db)):=jt (QO hc ha hb) fun U H Q xx=>by
 obtain⟨H0,O0,Z,O,d,R,ed,q⟩:=xx;obtain⟨k,e1,e2⟩:=j0 ed;refine⟨H0,O0,Z,O,k,R,e1,fun H' s=>?_⟩;cases k with
 | true=>rw[if_pos rfl]at e2;exact yF ⟨H0,O0,Z,O,d,R.grow s,e2,fun v H2 s2 r2=>q v H2 (s.trans s2) r2⟩
 | false=>rw[if_neg Bool.false_ne_true]at e2;exact yE ⟨H0,O0,Z,O,d,R.grow s,e2,fun v H2 s2 r2=>q v H2 (s.trans s2) r2⟩
theorem EQ:PA X [] (YC K []):=X_ jU fun U H Q xx=>by
 obtain⟨H0,O0,Z,O,ds,R,ed,q⟩:=xx;cases ed;exact q [] H (j3.refl H) trivial
theorem au{es:List Expr}{l:DA}{k:Bool}{t:TE}(ht:∀U H Q,(∃H0 O0 Z O d,Rel K H0 O0 Z U H O/\de Z=some d/\∀v H',j3 H H'->AK K O H' k d v->Q v H')->t U H Q)(h:PE X e t)(hr:PA X es (YC K l))(hs:starEach (e::es) X.env=(false,eval e X.env)::starEach es X.env:=by rfl):PA X (e::es) (YC K ((k,de)::l)):=X_ (jx h hr hs) fun U H Q xx=>by
 obtain⟨H0,O0,Z,O,ds,R,ed,q⟩:=xx;obtain⟨d,e1,ed⟩:=j0 ed;obtain⟨ds',e2,ed⟩:=j0 ed;cases ed;exact ht _ _ _ ⟨H0,O0,Z,O,d,R,e1,fun v H1 s1 r1=>⟨H0,O0,Z,O,ds',R.grow s1,e2,fun vs H2 s2 r2=>q _ H2 (s1.trans s2) ⟨r1.same s2,r2⟩⟩⟩
theorem HP{es:List Expr}{l:DA}(h:PE X e (tE K de))(hr:PA X es (YC K l))(hs:starEach (e::es) X.env=(false,eval e X.env)::starEach es X.env:=by rfl):PA X (e::es) (YC K ((true,de)::l)):=au (fun U H Q z=>z) h hr hs
theorem HQ{es:List Expr}{l:DA}(h:PE X e (tR K de))(hr:PA X es (YC K l))(hs:starEach (e::es) X.env=(false,eval e X.env)::starEach es X.env:=by rfl):PA X (e::es) (YC K ((false,de)::l)):=au (fun U H Q z=>z) h hr hs
theorem VG:∀{l:DA} {Z:j6} {ds:List D},YB l Z=some ds->ds.length=l.length
 | [],_,_,h=>by cases h;rfl
 | p::ps,Z,ds,h=>by
  obtain⟨d,e1,h⟩:=j0 h;obtain⟨ds',e2,h⟩:=j0 h;cases h;rw[List.length_cons,List.length_cons,VG e2]
theorem JQ.reps{O:List Addr}{H:Hp}:∀{ks:List Bool} {ds:List D} {vs:List V},JQ K O H ks ds vs->ks.all id=true->j4 K (j7 H O) ds vs
 | [],[],[],_,_=>j4.nil
 | true::_,_::_,_::_,h,e=>j4.cons h.1 (JQ.reps h.2 (by simpa using e))
 | false::_,_::_,_::_,h,e=>by simp at e
 | [],[],_::_,h,_=>h.elim
 | [],_::_,_,h,_=>h.elim
 | _::_,[],_,h,_=>h.elim
 | _::_,_::_,[],h,_=>h.elim
theorem JQ.len{O:List Addr}{H:Hp}:∀{ks:List Bool} {ds:List D} {vs:List V},JQ K O H ks ds vs->vs.length=ds.length/\ks.length=ds.length
 | [],[],[],_=>⟨rfl,rfl⟩
 | _::_,_::_,_::_,h=>by have:=JQ.len h.2;simp[this.1,this.2]
 | [],[],_::_,h=>h.elim
 | [],_::_,_,h=>h.elim
 | _::_,[],_,h=>h.elim
 | _::_,_::_,[],h=>h.elim
@[simp] def YD(l:DA)(Z:j6):Option D:=(YB l Z).bind fun ds=>some (.tup ds)
theorem ER{es:List Expr}{l:DA}{x1}(h:PA X es (YC K l))(hk:(l.map (·.1)).all id=true:=by rfl)(hl:Nat.ble l.length sizeLine=true:=by rfl):PE X (.Tuple es x1 pos) (tE K (YD l)):=jt (BK h) fun U H Q xx=>by
 obtain⟨H0,O0,Z,O,d,R,ed,q⟩:=xx;obtain⟨ds,e1,e2⟩:=j0 ed;cases e2;refine⟨H0,O0,Z,O,ds,R,e1,fun vs H1 s1 r=>⟨by rw[r.len.1,VG e1];exact Nat.le_of_ble_eq_true hl,fun p hp=>q _ _ (s1.trans (jD hp _)) (Y3 ((R.grow s1).new hp) hp (r.reps hk))⟩⟩
@[simp] def jB(l:DA)(Z:j6):Option OD:=(YB l Z).bind fun ds=>some (.lst ds)
theorem ES{es:List Expr}{l:DA}(h:PA X es (YC K l))(hk:(l.map (·.1)).all id=true:=by rfl)(hl:Nat.ble l.length sizeLine=true:=by rfl):PE X (.List es pos) (tF K (jB l)):=jt (ku h) fun U H Q xx=>by
 obtain⟨H0,O0,Z,O,d,R,ed,q⟩:=xx;obtain⟨ds,e1,e2⟩:=j0 ed;cases e2;refine⟨H0,O0,Z,O,ds,R,e1,fun vs H1 s1 r=>⟨by rw[r.len.1,VG e1];exact Nat.le_of_ble_eq_true hl,fun p hp=>q _ _ (s1.trans (jD hp _)) (s1.none hp) (yG hp (r.reps hk))⟩⟩
abbrev UP:=j6->Option (Option Int)
noncomputable def UQ(K:Fr)(p:UP):TO:=fun U H Q=>∃H0 O0 Z O o,Rel K H0 O0 Z U H O/\p Z=some o/\∀H',j3 H H'->Q o H'
@[simp] noncomputable def yx:D->Option (Option Int)
 | .int i=>some (some i)
 | _=>none
theorem HR:PO X none (UQ K fun _=>some none):=fun pins s U H Q I xx=>by
 obtain⟨H0,O0,Z,O,o,R,ed,q⟩:=xx;cases ed;exact Aw pins s U H Q I (q H (j3.refl H))
theorem HS(h:PE X e (tR K de)):PO X (some e) (UQ K fun Z=>(de Z).bind yx):=fun pins s U H Q I xx=>by
 obtain⟨H0,O0,Z,O,o,R,ed,q⟩:=xx;obtain⟨d,e1,e2⟩:=j0 ed;refine Ax h pins s U H Q I ⟨H0,O0,Z,O,d,R,e1,fun v H' s r=>?_⟩;unfold yx at e2;split at e2
 ·cases e2;exact⟨_,r.int,q H' s⟩
 ·cases e2
def jZ{α:Type}(xs:List α)(lo hi:Option Int):List α:=(xs.drop (HT.sIx xs.length 0 lo)).take (HT.sIx xs.length xs.length hi - HT.sIx xs.length 0 lo)
theorem j4.cut{H:Hp}{l:List D}{xs:List V}(h:j4 K H l xs)(lo hi:Option Int):j4 K H (jZ l lo hi) (VC xs lo hi):=by
 unfold jZ VC;rw[h.len];exact(h.drop _).take _
theorem j4.ints{H:Hp}:∀ns:List Int,j4 K H (ns.map D.int) (ns.map V.int)
 | []=>j4.nil
 | n::ns=>j4.cons (by rw[j8]) (j4.ints ns)
def zX(d:D)(lo hi:Option Int):Option OD:=match d with
 | .lst l=>some (.lst (jZ l lo hi))
 | .scr ns=>some (.lst (jZ (ns.map D.int) lo hi))
 | _=>none
@[simp] theorem Fw(l:List D)(lo hi:Option Int):zX (.lst l) lo hi=some (.lst (jZ l lo hi)):=rfl
@[simp] theorem Fx(l:List Int)(lo hi:Option Int):zX (.scr l) lo hi=some (.lst (jZ (l.map D.int) lo hi)):=rfl
@[simp] def yN(de:DE)(p q:UP)(Z:j6):Option OD:=(de Z).bind fun d=>(p Z).bind fun lo=>(q Z).bind fun hi=>zX d lo hi
theorem ET{lo hi:Option Expr}{p q:UP}{p2:Pos}(he:PE X e (tR K de))(hl:PO X lo (UQ K p))(hu:PO X hi (UQ K q))(hK:X.K=K:=by rfl):PE X (.Subscript e (.Slice lo hi none p2) pos) (tF K (yN de p q)):=jt (Ui Ay he hl hu) fun U H Q xx=>by
 obtain⟨H0,O0,Z,O,d,R,ed,qq⟩:=xx;subst hK;obtain⟨x,e1,ed⟩:=j0 ed;obtain⟨l,e2,ed⟩:=j0 ed;obtain⟨u,e3,ed⟩:=j0 ed;refine⟨H0,O0,Z,O,x,R,e1,fun v H1 s1 r=>⟨H0,O0,Z,O,l,R.grow s1,e2,fun H2 s2=>⟨H0,O0,Z,O,u,R.grow (s1.trans s2),e3,fun H3 s3=>?_⟩⟩⟩;have s13:=(s1.trans s2).trans s3;have r3:=r.same (s2.trans s3);unfold zX at ed;split at ed
 ·cases ed;obtain⟨pp,xs,rfl,h1,h2⟩:=r3.lst;exact⟨pp,xs,rfl,js.of h1,fun p hp=>qq p _ (s13.trans (jD hp _)) (s13.none hp) (yG hp (h2.cut l u))⟩
 ·cases ed;have r4:=r3.full;rw[j8]at r4;obtain⟨pp,rfl,h1⟩:=r4;exact⟨pp,_,rfl,h1,fun p hp=>qq p _ (s13.trans (jD hp _)) (s13.none hp) (yG hp ((j4.ints _).cut l u))⟩
 ·cases ed
def WF(d:D)(lo hi:Option Int):Option D:=match d with
 | .tup l=>if HT.sIx l.length 0 lo=0/\HT.sIx l.length l.length hi=l.length then none else some (.tup (jZ l lo hi))
 | _=>none
@[simp] def k6(de:DE)(p q:UP)(Z:j6):Option D:=(de Z).bind fun d=>(p Z).bind fun lo=>(q Z).bind fun hi=>WF d lo hi
theorem EU{lo hi:Option Expr}{p q:UP}{p2:Pos}(he:PE X e (tR K de))(hl:PO X lo (UQ K p))(hu:PO X hi (UQ K q))(hK:X.K=K:=by rfl):PE X (.Subscript e (.Slice lo hi none p2) pos) (tE K (k6 de p q)):=jt (Ui BL he hl hu) fun U H Q xx=>by
 obtain⟨H0,O0,Z,O,d,R,ed,qq⟩:=xx;subst hK;obtain⟨x,e1,ed⟩:=j0 ed;obtain⟨l,e2,ed⟩:=j0 ed;obtain⟨u,e3,ed⟩:=j0 ed;refine⟨H0,O0,Z,O,x,R,e1,fun v H1 s1 r=>⟨H0,O0,Z,O,l,R.grow s1,e2,fun H2 s2=>⟨H0,O0,Z,O,u,R.grow (s1.trans s2),e3,fun H3 s3=>?_⟩⟩⟩;have s13:=(s1.trans s2).trans s3;have r3:=r.same (s2.trans s3);unfold WF at ed;split at ed
 ·split at ed
  ·cases ed
  ·cases ed;obtain⟨pp,xs,rfl,h1,h2⟩:=r3.tup;exact⟨pp,xs,rfl,h1,by rw[h2.len];assumption,fun p hp=>qq _ _ (s13.trans (jD hp _)) (Y3 ((R.grow s13).new hp) hp (h2.cut l u))⟩
 ·cases ed
def Fn(K:Fr)(r:List V->Hp->VK->Prop)(f:List D->Option D):Prop:=∀(O:List Addr) (H:Hp) (ks:List Bool) (ds:List D) (vs:List V) (d:D) (Q:VK),JQ K O H ks ds vs->(∀p,H p=none->p∉O)->f ds=some d->(∀v H',j3 H H'->j8 K (j7 H' O) d v->Q v H')->r vs H Q
def Fy(K:Fr)(r:List V->Hp->VK->Prop)(f:List D->Option OD):Prop:=∀(O:List Addr) (H:Hp) (ks:List Bool) (ds:List D) (vs:List V) (d:OD) (Q:VK),JQ K O H ks ds vs->f ds=some d->(∀l H',j3 H H'->H l=none->JD K H' (j7 H' (l::O)) l d->Q (.ref l) H')->r vs H Q
@[simp] def jd(f:List D->Option D)(l:DA)(Z:j6):Option D:=(YB l Z).bind f
@[simp] def yz(f:List D->Option OD)(l:DA)(Z:j6):Option OD:=(YB l Z).bind f
theorem YE{r:List V->Hp->VK->Prop}{f:List D->Option D}{l:DA}(hf:Fn K r f):∀U H Q,tE K (jd f l) U H Q->wA r (YC K l) U H Q:=fun U H Q xx=>by
 obtain⟨H0,O0,Z,O,d,R,ed,q⟩:=xx;obtain⟨ds,e1,e2⟩:=j0 ed;exact⟨H0,O0,Z,O,ds,R,e1,fun vs H1 s1 r1=>hf O H1 _ ds vs d Q r1 (fun p hp=>(R.grow s1).new hp) e2 fun v H' s r=>q v H' (s1.trans s) r⟩
theorem AJ{r:List V->Hp->VK->Prop}{f:List D->Option OD}{l:DA}(hf:Fy K r f):∀U H Q,tF K (yz f l) U H Q->wA r (YC K l) U H Q:=fun U H Q xx=>by
 obtain⟨H0,O0,Z,O,d,R,ed,q⟩:=xx;obtain⟨ds,e1,e2⟩:=j0 ed;exact⟨H0,O0,Z,O,ds,R,e1,fun vs H1 s1 r1=>hf O H1 _ ds vs d Q r1 e2 fun l H' s hn r=>q l H' (s1.trans s) (s1.none hn) r⟩
theorem YY{O:List Addr}{H:Hp}{ks:List Bool}{d:D}{vs:List V}(h:JQ K O H ks [d] vs):∃v,vs=[v]/\RB K O H d v:=by
 cases ks with
 | nil=>exact h.elim
 | cons k ks=>
  cases vs with
  | nil=>exact h.elim
  | cons v vs=>
   obtain⟨h1,h2⟩:=h;have:=JQ.len h2;have e:vs=[]:=List.length_eq_zero_iff.mp this.1;subst e;exact⟨v,rfl,AK.rb h1⟩
theorem HU{O:List Addr}{H:Hp}{ks:List Bool}{d d':D}{vs:List V}(h:JQ K O H ks [d,d'] vs):∃v v',vs=[v,v']/\RB K O H d v/\RB K O H d' v':=by
 cases ks with
 | nil=>exact h.elim
 | cons k ks=>
  cases vs with
  | nil=>exact h.elim
  | cons v vs=>
   obtain⟨h1,h2⟩:=h;obtain⟨v',rfl,r⟩:=YY h2;exact⟨v,v',rfl,AK.rb h1,r⟩
@[simp] noncomputable def Jm:List D->Option D
 | [.lst l]=>some (.int l.length)
 | [.tup l]=>some (.int l.length)
 | _=>none
theorem EV:Fn K (fun xs H Q=>∃p ys,xs=[.ref p]/\(js K H p ys \/ Ju K H p ys)/\Q (.int ys.length) H) Jm:=by
 intro O H ks ds vs d Q h hn e q;unfold Jm at e;split at e
 ·cases e;obtain⟨v,rfl,r⟩:=YY h;obtain⟨p,xs,rfl,h1,h2⟩:=r.lst;exact⟨p,xs,rfl,.inl (js.of h1),q _ H (j3.refl H) (by rw[j8,h2.len])⟩
 ·cases e;obtain⟨v,rfl,r⟩:=YY h;obtain⟨p,xs,rfl,h1,h2⟩:=r.tup;exact⟨p,xs,rfl,.inr h1,q _ H (j3.refl H) (by rw[j8,h2.len])⟩
 ·cases e
@[simp] noncomputable def ZJ:List D->Option OD
 | [.lst l]=>some (.lst l)
 | [.tup l]=>some (.lst l)
 | _=>none
theorem cx:Fy K (fun xs H Q=>∃p ys,xs=[.ref p]/\(js K H p ys \/ Ju K H p ys)/\∀l,H l=none->Q (.ref l) (upd H l (.lst ys))) ZJ:=by
 intro O H ks ds vs d Q h e q;unfold ZJ at e;split at e
 ·cases e;obtain⟨v,rfl,r⟩:=YY h;obtain⟨p,xs,rfl,h1,h2⟩:=r.lst;exact⟨p,xs,rfl,.inl (js.of h1),fun l hl=>q _ _ (jD hl _) hl (yG hl h2)⟩
 ·cases e;obtain⟨v,rfl,r⟩:=YY h;obtain⟨p,xs,rfl,h1,h2⟩:=r.tup;exact⟨p,xs,rfl,.inr h1,fun l hl=>q _ _ (jD hl _) hl (yG hl h2)⟩
 ·cases e
@[simp] noncomputable def JR:List D->Option D
 | [.lst l]=>some (.tup l)
 | [.tup l]=>some (.tup l)
 | _=>none
theorem AL:Fn K (fun xs H Q=>∃p ys,xs=[.ref p]/\((js K H p ys/\∀l,H l=none->Q (.ref l) (upd H l (.tup ys))) \/ (Ju K H p ys/\Q (.ref p) H))) JR:=by
 intro O H ks ds vs d Q h hn e q;unfold JR at e;split at e
 ·cases e;obtain⟨v,rfl,r⟩:=YY h;obtain⟨p,xs,rfl,h1,h2⟩:=r.lst;exact⟨p,xs,rfl,.inl ⟨js.of h1,fun l hl=>q _ _ (jD hl _) (Y3 (hn l hl) hl h2)⟩⟩
 ·cases e;obtain⟨v,rfl,r⟩:=YY h;have r0:=r;obtain⟨p,xs,rfl,h1,h2⟩:=r.tup;refine⟨p,xs,rfl,.inr ⟨h1,q _ H (j3.refl H) ?_⟩⟩;rcases r0 with r0 | ⟨_,o,_,z,_⟩
  ·exact r0
  ·cases o <;> cases z
 ·cases e
@[simp] noncomputable def WG:List D->Option D
 | [.int i,.int j]=>some (.int (if j > i then j else i))
 | _=>none
theorem EW:Fn K (fun xs H Q=>∃i j,xs=[.int i,.int j]/\Q (.int (if j > i then j else i)) H) WG:=by
 intro O H ks ds vs d Q h hn e q;unfold WG at e;split at e
 ·cases e;obtain⟨v,v',rfl,r,r'⟩:=HU h;exact⟨_,_,by rw[r.int,r'.int],q _ H (j3.refl H) (by rw[j8])⟩
 ·cases e
@[simp] noncomputable def Z_:List D->Option (List Bool)
 | []=>some []
 | .bl b::r=>(Z_ r).bind fun bs=>some (b::bs)
 | _::_=>none
theorem GB{H:Hp}:∀{l:List D} {bs:List Bool} {xs:List V},Z_ l=some bs->j4 K H l xs->xs=bs.map V.bl
 | [],bs,xs,e,h=>by cases e;rw[j4]at h;exact h
 | .bl b::r,bs,xs,e,h=>by
  obtain⟨bs',e1,e2⟩:=j0 e;cases e2;rw[j4]at h;obtain⟨v,vs,rfl,a,b'⟩:=h;rw[j8]at a;rw[a,GB e1 b'];rfl
 | .non::_,_,_,e,_=>by cases e
 | .int _::_,_,_,e,_=>by cases e
 | .str _::_,_,_,e,_=>by cases e
 | .tup _::_,_,_,e,_=>by cases e
 | .lst _::_,_,_,e,_=>by cases e
 | .ins _ _ _::_,_,_,e,_=>by cases e
 | .scr _::_,_,_,e,_=>by cases e
@[simp] def v3:List D->Option D
 | [.lst l]=>(Z_ l).bind fun bs=>some (.bl (bs.all id))
 | _=>none
theorem EX:Fn K (fun xs H Q=>∃(p:Addr) (bs:List Bool),xs=[.ref p]/\js K H p (bs.map V.bl)/\Q (.bl (bs.all id)) H) v3:=by
 intro O H ks ds vs d Q h hn e q;unfold v3 at e;split at e
 ·obtain⟨bs,e1,e2⟩:=j0 e;cases e2;obtain⟨v,rfl,r⟩:=YY h;obtain⟨p,xs,rfl,h1,h2⟩:=r.lst;rw[GB e1 h2]at h1;exact⟨p,bs,rfl,js.of h1,q _ H (j3.refl H) (by rw[j8])⟩
 ·cases e
noncomputable def yv(C:Addr)(f:Str):D->Option D
 | .ins C' ns ds=>if C'=C then(ns.zip ds).lookup f else none
 | _=>none
theorem uL{H:Hp}{f:Str}{d:D}:∀{ns:List Str} {ds:List D} {xs:List V},j4 K H ds xs->(ns.zip ds).lookup f=some d->∃v,(ns.zip xs).lookup f=some v/\j8 K H d v
 | [],_,_,_,e=>by cases e
 | _::_,[],_,_,e=>by cases e
 | n::ns,d'::ds,xs,h,e=>by
  rw[j4]at h;obtain⟨v,r,rfl,a,b⟩:=h;rw[List.zip_cons_cons,List.lookup_cons]at e⊢;cases hf:f==n with
  | true=>rw[hf]at e;cases e;exact⟨v,rfl,a⟩
  | false=>rw[hf]at e;exact uL b e
theorem EY{C:Addr}{f:Str}(h:PE X e (tR K de))(c:Cls K C)(n:yC K C f)(hb:attributeBase e f X.env (eval e X.env)=eval e X.env:=by rfl)(hK:X.K=K:=by rfl):PE X (.Attribute e f pos) (tE K (d1 (yv C f) de)):=jt (BH h hb) fun U H Q xx=>by
 obtain⟨H0,O0,Z,O,d,R,ed,q⟩:=xx;subst hK;obtain⟨x,e1,e2⟩:=j0 ed;refine⟨H0,O0,Z,O,x,R,e1,fun v H' s r=>?_⟩;unfold yv at e2;split at e2
 ·split at e2
  ·rename_i hC;subst hC;obtain⟨a,dx,xs,rfl,h1,hn,h2⟩:=r.ins;obtain⟨v,e3,r3⟩:=uL h2 e2;exact⟨a,_,dx,_,v,rfl,h1,c,n,e3,q v H' s r3⟩
  ·cases e2
 ·cases e2
end
def RP(K:Fr)(H0:Hp)(O0:List Addr)(H:Hp)(O:List Addr)(d:D)(v:V):Prop:=j8 K (j7 H O) d v \/ RB K O0 H0 d v
def tP(K:Fr)(de:DE):TE:=fun U H Q=>∃H0 O0 Z O d,Rel K H0 O0 Z U H O/\de Z=some d/\∀v H',j3 H H'->RP K H0 O0 H' O d v->Q v H'
theorem RP.at{K:Fr}{H0 H H':Hp}{O0 O O':List Addr}{d:D}{v:V}(r:RP K H0 O0 H O d v)(s0:j3 H0 H')(s1:j3 (j7 H0 O0) (j7 H' O'))(s2:j3 (j7 H O) (j7 H' O')):RB K O' H' d v:=by
 rcases r with r | r | ⟨l,o,e1,e2,h1⟩
 ·exact .inl (r.same s2)
 ·exact .inl (r.same s1)
 ·exact .inr ⟨l,o,e1,e2,h1.same (s0 l) s1⟩
def kO(K:Fr)(J:It)(H0:Hp)(O0:List Addr)(H:Hp)(O:List Addr)(items:List D):Prop:=∀(i:Nat) (H':Hp) (O':List Addr),j3 H0 H'->j3 (j7 H0 O0) (j7 H' O')->j3 (j7 H O) (j7 H' O')->(∀a∈O',H' a≠none)->
 (∀d,items[i]?=some d->J.go i H'/\∀x H'',J.yld i H' x H''->j3 H' H''/\j8 K (j7 H'' O') d x)/\(i=items.length->J.stop i H')
abbrev DI:=j6->Option (List D)
def zx(K:Fr)(di:DI):TI:=fun U H R=>∃H0 O0 Z O items,Rel K H0 O0 Z U H O/\di Z=some items/\∀J H',j3 H H'->kO K J H0 O0 H' O items->R J H'
section
variable {X:Cx} {K:Fr} {e a b c d tg:Expr} {de da db dc dd:DE} {pos:Pos}
theorem HV(h:PE X e (tE K de)):PE X e (tP K de):=jt h fun U H Q ⟨H0,O0,Z,O,d,R,ed,q⟩=>⟨H0,O0,Z,O,d,R,ed,fun v H' s r=>q v H' s (.inl r)⟩
@[simp] noncomputable def dP(i:Nat)(Z:j6):Option D:=match Z[i]? with
 | some (.cl d)=>some d
 | some (.bo d)=>some d
 | _=>none
theorem EZ(i:Nat){x:Str}(h:PE X (.Name x pos) (J_ i)):PE X (.Name x pos) (tP K (dP i)):=jt h fun U H Q xx=>by
 obtain⟨H0,O0,Z,O,d,R,ed,q⟩:=xx;unfold dP at ed;split at ed
 ·cases ed;obtain⟨v,e1,r⟩:=R.cl i _ (by assumption);exact⟨v,e1,q v H (j3.refl H) (.inl r)⟩
 ·cases ed;obtain⟨v,e1,r⟩:=R.bo i _ (by assumption);exact⟨v,e1,q v H (j3.refl H) (.inr r)⟩
 ·cases ed
theorem UR{wi wi':TI}(h:PI X tg e wi)(f:∀U H R,wi' U H R->wi U H R):PI X tg e wi':=fun pins s U H R I q=>h pins s U H R I (f U H R q)
def HW(K:Fr)(tl:TE):TI:=fun U H R=>tl U H fun x H1=>∃a,x=.ref a/\(((∃xs,js K H1 a xs)/\R (Bs K a) H1) \/ ((∃xs,Ju K H1 a xs)/\R (Bt K a) H1))
theorem cy{l:Expr}{tl:TE}(hl:PE X l tl):PI X tg l (HW X.K tl):=by
 intro pins s U H R I h;refine ji (hl pins s U H _ I h) fun v s1 xx=>?_;obtain⟨x,H1,I1,r1,q1⟩:=xx;obtain⟨a,e,q⟩:=q1;subst e;cases r1;rcases q with⟨⟨xs,hq⟩,q⟩ | ⟨⟨xs,hq⟩,q⟩
 ·obtain⟨its,rv,p,hz⟩:=I1.list hq;refine wpAny_pyIter_list p.isList ?_;refine⟨s1.heap.objs.size,[s1.heap.objs.size],_,_,H1,rfl,I1.kept (t':=s1.toks) fun b o e=>wIa _ e,qC a _,⟨_,wJa _ rfl,rfl,rfl⟩,fun b hb=>?_,q⟩;have e:b=s1.heap.objs.size:=by simpa using hb
  subst e;exact I1.fpOk (wPa _) (I1.hok.fresh (wPa _))
 ·obtain⟨its,rv,p,hz⟩:=I1.tuple hq;refine wpAny_pyIter_tuple (show s1.heap.IsTuple a its.toArray from p) ?_;refine⟨s1.heap.objs.size,[s1.heap.objs.size],_,_,H1,rfl,I1.kept (t':=s1.toks) fun b o e=>wIa _ e,Wk a _,⟨_,wJa _ rfl,rfl,rfl⟩,fun b hb=>?_,q⟩;have e:b=s1.heap.objs.size:=by simpa using hb
  subst e;exact I1.fpOk (wPa _) (I1.hok.fresh (wPa _))
noncomputable def YF:D->Option (List D)
 | .lst l=>some l
 | .tup l=>some l
 | _=>none
@[simp] theorem Fz(l:List D):YF (.lst l)=some l:=rfl
@[simp] theorem FA(l:List D):YF (.tup l)=some l:=rfl
@[simp] def JI(de:DE)(Z:j6):Option (List D):=(de Z).bind YF
theorem cz{H0 H:Hp}{O0 O:List Addr}{d:D}{v:V}{l:List D}(r:RP K H0 O0 H O d v)(e:YF d=some l)(s0:j3 H0 H)(s1:j3 (j7 H0 O0) (j7 H O)):
  ∃a,v=.ref a/\(((∃xs,js K H a xs)/\kO K (Bs K a) H0 O0 H O l) \/ ((∃xs,Ju K H a xs)/\kO K (Bt K a) H0 O0 H O l)):=by
 unfold YF at e;split at e
 ·cases e;obtain⟨p,xs,rfl,h1,h2⟩:=(r.at s0 s1 (j3.refl _)).lst;refine⟨p,rfl,.inl ⟨⟨xs,js.of h1⟩,fun i H' O' t0 t1 t2 _=>?_⟩⟩;obtain⟨p',ys,e',g1,g2⟩:=(r.at t0 t1 t2).lst;cases e';refine⟨fun d hd=>?_,fun hi=>⟨ys,js.of g1,by rw[g2.len,hi];exact wPa _⟩⟩;obtain⟨x,hx,rx⟩:=g2.get hd;refine⟨⟨ys,x,js.of g1,hx⟩,fun x' H'' y=>?_⟩;obtain⟨e1,y⟩:=y;have z:=y ys (js.of g1);rw[hx]at z;cases z;rw[e1];exact⟨j3.refl _,rx⟩
 ·cases e;obtain⟨p,xs,rfl,h1,h2⟩:=(r.at s0 s1 (j3.refl _)).tup;refine⟨p,rfl,.inr ⟨⟨xs,h1⟩,fun i H' O' t0 t1 t2 _=>?_⟩⟩;obtain⟨p',ys,e',g1,g2⟩:=(r.at t0 t1 t2).tup;cases e';refine⟨fun d hd=>?_,fun hi=>⟨ys,g1,by rw[g2.len,hi];exact wPa _⟩⟩;obtain⟨x,hx,rx⟩:=g2.get hd;refine⟨⟨ys,x,g1,hx⟩,fun x' H'' y=>?_⟩;obtain⟨e1,y⟩:=y;have z:=y ys g1;rw[hx]at z;cases z;rw[e1];exact⟨j3.refl _,rx⟩
 ·cases e
theorem E_(h:PE X e (tP K de))(hK:X.K=K:=by rfl):PI X tg e (zx K (JI de)):=UR (cy h) fun U H R xx=>by
 obtain⟨H0,O0,Z,O,items,Re,ed,q⟩:=xx;subst hK;obtain⟨d,e1,e2⟩:=j0 ed;refine⟨H0,O0,Z,O,d,Re,e1,fun v H' s r=>?_⟩;have R':=Re.grow s;obtain⟨a,rfl,z⟩:=cz r e2 R'.keep R'.in0;rcases z with⟨z1,z2⟩ | ⟨z1,z2⟩
 ·exact⟨a,rfl,.inl ⟨z1,q _ H' s z2⟩⟩
 ·exact⟨a,rfl,.inr ⟨z1,q _ H' s z2⟩⟩
noncomputable def Jq(lo:Int)(n:Nat):List D:=(List.range n).map fun(i:Nat)=>D.int (lo+(i:Int))
theorem cD{H0 H:Hp}{O0 O:List Addr}{lo:Int}{n:Nat}:kO K (XF lo n) H0 O0 H O (Jq lo n):=fun i H' O' _ _ _ _=>by
 refine⟨fun d hd=>?_,fun hi=>?_⟩
 ·unfold Jq at hd;rw[List.getElem?_map]at hd;cases q:(List.range n)[i]? with
  | none=>rw[q]at hd;cases hd
  | some j=>
   rw[q]at hd;cases hd;obtain⟨h1,h2⟩:=List.getElem?_eq_some_iff.mp q;rw[List.getElem_range]at h2;subst h2;rw[List.length_range]at h1;refine⟨h1,fun x H'' y=>?_⟩;obtain⟨e1,e2⟩:=y;rw[e1,e2];exact⟨j3.refl _,by rw[j8]⟩
 ·unfold Jq at hi;rw[List.length_map,List.length_range]at hi;show n<=i;omega
noncomputable def JS(j:Int):Bool:=Nat.blt j.natAbs 4611686018427387904
theorem YG{j:Int}(h1:-4611686018427387904 < j)(h2:j < 4611686018427387904):JS j=true:=by unfold JS;rw[Nat.blt_eq];omega
theorem WH{j:Int}(h:JS j=true):-(2 ^ 62)<=j/\j < 2 ^ 62:=by
 unfold JS at h;rw[Nat.blt_eq]at h;have e:(2:Int) ^ 62=4611686018427387904:=by decide
 rw[e];omega
@[simp] def YH(de:DE)(Z:j6):Option (List D):=(de Z).bind fun d=>match d with
 | .int j=>if JS j=true then some (Jq 0 j.toNat)else none
 | _=>none
theorem cH{p:Pos}(hg:Gl X "range")(hm:X.mg "range" = none)(h:PE X a (tR K da))(hs:starEach [a] X.env=[(false,eval a X.env)]:=by rfl):PI X tg (.Call (.Name "range" p) [a] [] pos) (zx K (YH da)):=UR (qD hg hm (jx h jU (by rw[hs];rfl)) hs) fun U H R xx=>by
 obtain⟨H0,O0,Z,O,items,Re,ed,q⟩:=xx;obtain⟨d,e1,e2⟩:=j0 ed;refine⟨H0,O0,Z,O,d,Re,e1,fun v H' s r=>?_⟩;split at e2
 ·split at e2
  ·cases e2;rename_i hj;have hj:=WH hj;exact⟨_,by rw[r.int],hj.1,hj.2,q _ H' s cD⟩
  ·cases e2
 ·cases e2
def f9(K:Fr)(ta:TA):TI:=fun U H R=>ta U H fun vs H1=>∃k j a b xs ys,vs=[.ref a,.ref b]/\Vi K k H1 a xs/\Vi K j H1 b ys/\R (Ft K k j a b) H1
theorem AM{es:List Expr}{x1:Nat}{tp:Pos}{e1 e2:Expr}{ta:TA}{p pos:Pos}(hg:Gl X "zip")(hm:X.mg "zip" = none)(ha:PA X [e1,e2] ta)(hs:starEach [e1,e2] X.env=[(false,eval e1 X.env),(false,eval e2 X.env)]:=by rfl)(hs2:starEach [e2] X.env=[(false,eval e2 X.env)]:=by rfl):
  PI X (.Tuple es x1 tp) (.Call (.Name "zip" p) [e1,e2] [] pos) (f9 X.K ta):=by
 intro pins s U H R I h;refine Call_ (zq I hg hm boot_zip (PyProof.Rows.callWith_type1 (ji (ha pos pins s U H _ I h) fun us s1 xx=>?_) (by rw[hs,hs2]) (by rw[hs2];rfl)));obtain⟨vs,H1,I1,r1,q1⟩:=xx;obtain⟨k,j,a,b,xs,ys,e,qa,qb,q⟩:=q1;subst e;cases r1 with
 | cons r rr=>
  cases rr with
  | cons r' rr=>
   cases rr;cases r;cases r';obtain⟨ia,ra,pa,_⟩:=I1.seqK qa;obtain⟨ib,rb,pb,_⟩:=I1.seqK qb;refine xm pa pb fun h' b1 b2 b3 b4 b5 bk=>?_;refine wpAny_pyIter_zip b1 ?_;have fr:∀m,Jl X pins H1 (s1.heap.objs.size+m):=fun m=>I1.fpOk (vKa _ _) (I1.hok.fresh (vKa _ _));refine⟨_,_,_,_,H1,rfl,I1.kept (t':=s1.toks) bk,xr (zipApart_new pa.lt pb.lt),⟨b1,b2,⟨_,_,b3⟩,b4,b5⟩,fun c hc=>?_,q⟩;simp only[List.mem_cons,List.not_mem_nil,or_false]at hc;rcases hc with rfl | rfl | rfl | rfl | rfl
   ·exact fr 4
   ·exact fr 2
   ·exact fr 3
   ·exact fr 0
   ·exact fr 1
theorem US{O:List Addr}{H:Hp}{d:D}{v:V}{l:List D}(r:RB K O H d v)(e:YF d=some l):∃k a xs,v=.ref a/\Vi K k H a xs/\j4 K (j7 H O) l xs/\(k=Sk.l↔∃m,d=D.lst m):=by
 unfold YF at e;split at e
 ·cases e;obtain⟨p,xs,rfl,h1,h2⟩:=r.lst;exact⟨.l,p,xs,rfl,js.of h1,h2,Iff.intro (fun _=>⟨_,rfl⟩) (fun _=>rfl)⟩
 ·cases e;obtain⟨p,xs,rfl,h1,h2⟩:=r.tup;exact⟨.t,p,xs,rfl,h1,h2,Iff.intro (fun z=>nomatch z) (fun z=>by obtain⟨_,z⟩:=z;cases z)⟩
 ·cases e
theorem av{k k':Sk}{d:D}(h:k=Sk.l↔∃m,d=D.lst m)(h':k'=Sk.l↔∃m,d=D.lst m):k=k':=by
 cases k <;> cases k' <;> first | rfl | (exact vDa (h'.mpr (h.mp rfl)) (by intro z;cases z)) | (exact vDa (h.mpr (h'.mp rfl)) (by intro z;cases z))
@[simp] def kP(da db:DE)(Z:j6):Option (List D):=(da Z).bind fun x=>(db Z).bind fun y=>(YF x).bind fun l=>(YF y).bind fun m=>some (List.zipWith (fun p q=>D.tup [p,q]) l m)
theorem xB{O:List Addr}{H:Hp}{p:Addr}{d d':D}{x y:V}(hO:p∉O)(hp:H p=none)(r:j8 K (j7 H O) d x)(r':j8 K (j7 H O) d' y):j8 K (j7 (upd H p (.tup [x,y])) O) (.tup [d,d']) (.ref p):=Y3 hO hp (j4.cons r (j4.cons r' j4.nil))
theorem fc{es:List Expr}{x1:Nat}{tp p:Pos}(hg:Gl X "zip")(hm:X.mg "zip" = none)(h:PE X a (tP K da))(h':PE X b (tP K db))(hs:starEach [a,b] X.env=[(false,eval a X.env),(false,eval b X.env)]:=by rfl)(hs2:starEach [b] X.env=[(false,eval b X.env)]:=by rfl)(hK:X.K=K:=by rfl):
  PI X (.Tuple es x1 tp) (.Call (.Name "zip" p) [a,b] [] pos) (zx K (kP da db)):=UR (AM hg hm (jx h (jx h' jU (by rw[hs2];rfl)) (by rw[hs,hs2])) hs hs2) fun U H R xx=>by
 obtain⟨H0,O0,Z,O,items,Re,ed,q⟩:=xx;subst hK;obtain⟨x,e1,ed⟩:=j0 ed;obtain⟨y,e2,ed⟩:=j0 ed;obtain⟨l,e3,ed⟩:=j0 ed;obtain⟨m,e4,ed⟩:=j0 ed;cases ed;refine⟨H0,O0,Z,O,x,Re,e1,fun v H1 s1 r=>⟨H0,O0,Z,O,y,Re.grow s1,e2,fun v2 H2 s2 r2=>?_⟩⟩;have R1:=Re.grow s1;have R2:=R1.grow s2;have r':RP X.K H0 O0 H2 O x v:=by
  rcases r with r | r
  ·exact .inl (r.same (jc s2))
  ·exact .inr r
 obtain⟨k,p,xs,rfl,h1,h2,hk⟩:=US (r'.at R2.keep R2.in0 (j3.refl _)) e3;obtain⟨j,p',ys,rfl,h1',h2',hj⟩:=US (r2.at R2.keep R2.in0 (j3.refl _)) e4;refine⟨k,j,p,p',xs,ys,rfl,h1,h1',q _ H2 (s1.trans s2) fun i H' O' t0 t1 t2 ta=>?_⟩;obtain⟨k2,q2,us,ea,g1,g2,hk2⟩:=US (r'.at t0 t1 t2) e3;cases ea;cases av hk hk2;obtain⟨j2,q3,ws,eb,g1',g2',hj2⟩:=US (r2.at t0 t1 t2) e4;cases eb;cases av hj hj2;refine⟨fun d hd=>?_,fun hi=>⟨us,ws,g1,g1',?_⟩⟩
 ·rw[List.getElem?_zipWith]at hd;split at hd
  ·cases hd;rename_i dp dq hp hq;obtain⟨u,hu,ru⟩:=g2.get hp;obtain⟨w,hw,rw'⟩:=g2'.get hq;refine⟨⟨us,ws,u,w,g1,g1',hu,hw⟩,fun x' H'' yy=>?_⟩;obtain⟨pp,hpp,rfl,yy⟩:=yy;rw[yy _ _ _ _ g1 g1' hu hw];exact⟨jD hpp _,xB (fun z=>ta pp z hpp) hpp ru rw'⟩
  ·cases hd
 ·rw[List.length_zipWith]at hi;rw[g2.len,g2'.len];omega
noncomputable def Jt:Nat->List D->List D
 | _,[]=>[]
 | n,d::ds=>.tup [.int n,d]::Jt (n+1) ds
theorem VH:∀(n:Nat) (l:List D),(Jt n l).length=l.length
 | _,[]=>rfl
 | n,d::ds=>by rw[Jt,List.length_cons,List.length_cons,VH]
theorem VI:∀(n:Nat) (l:List D) (i:Nat) (d:D),(Jt n l)[i]?=some d->∃d',l[i]?=some d'/\d=.tup [.int ((n+i:Nat):Int),d']
 | _,[],_,_,h=>by simp[Jt]at h
 | n,x::l,0,d,h=>by
  simp[Jt]at h;exact⟨x,rfl,by rw[<-h];rfl⟩
 | n,x::l,i+1,d,h=>by
  simp only[Jt,List.getElem?_cons_succ]at h;obtain⟨d',h1,h2⟩:=VI (n+1) l i d h;refine⟨d',by simpa using h1,?_⟩;rw[h2];have:n+1+i=n+(i+1):=by omega
  rw[this]
noncomputable def ZK:D->Option (List D)
 | .lst l=>some l
 | _=>none
@[simp] theorem FC(l:List D):ZK (.lst l)=some l:=rfl
@[simp] def UT(de:DE)(Z:j6):Option (List D):=(de Z).bind fun d=>(ZK d).bind fun l=>some (Jt 0 l)
theorem cJ{es:List Expr}{x1:Nat}{tp p:Pos}(hg:Gl X "enumerate")(hm:X.mg "enumerate" = none)(h:PE X a (tP K da))(hs:starEach [a] X.env=[(false,eval a X.env)]:=by rfl)(hK:X.K=K:=by rfl):
  PI X (.Tuple es x1 tp) (.Call (.Name "enumerate" p) [a] [] pos) (zx K (UT da)):=UR (AG hg hm (jx h jU (by rw[hs];rfl)) hs) fun U H R xx=>by
 obtain⟨H0,O0,Z,O,items,Re,ed,q⟩:=xx;subst hK;obtain⟨x,e1,ed⟩:=j0 ed;obtain⟨l,e3,ed⟩:=j0 ed;cases ed;refine⟨H0,O0,Z,O,x,Re,e1,fun v H1 s1 r=>?_⟩;have R1:=Re.grow s1;unfold ZK at e3;split at e3
 ·cases e3;obtain⟨p,xs,rfl,h1,h2⟩:=(r.at R1.keep R1.in0 (j3.refl _)).lst;refine⟨p,xs,rfl,js.of h1,q _ H1 s1 fun i H' O' t0 t1 t2 ta=>?_⟩;obtain⟨p',us,ea,g1,g2⟩:=(r.at t0 t1 t2).lst;cases ea;refine⟨fun d hd=>?_,fun hi=>⟨us,js.of g1,by rw[g2.len,hi,VH];exact wPa _⟩⟩;obtain⟨d',hd',rfl⟩:=VI 0 l i d hd;obtain⟨u,hu,ru⟩:=g2.get hd';refine⟨⟨us,u,js.of g1,hu⟩,fun x' H'' yy=>?_⟩;obtain⟨pp,hpp,rfl,yy⟩:=yy;rw[yy _ _ (js.of g1) hu];exact⟨jD hpp _,xB (fun z=>ta pp z hpp) hpp (by rw[j8,Nat.zero_add]) ru⟩
 ·cases e3
abbrev DG:=D->j6->Option j6
abbrev UU:=List D->j6->Option j6
def tG(K:Fr)(k:Nat)(g:DG):TG:=fun v U H Q=>∃H0 O0 Z O d Z',Rel K H0 O0 Z U H O/\j8 K (j7 H O) d v/\g d Z=some Z'/\∀U',Rel K H0 O0 Z' U' H O->U'.drop k=U.drop k->Q U' H
def wH(K:Fr)(k:Nat)(g:UU):Vy:=fun vs U H Q=>∃H0 O0 Z O ds Z',Rel K H0 O0 Z U H O/\j4 K (j7 H O) ds vs/\g ds Z=some Z'/\∀U',Rel K H0 O0 Z' U' H O->U'.drop k=U.drop k->Q U' H
theorem aw{t t':TG}(h:PG X tg t)(f:∀v U H Q,t' v U H Q->t v U H Q):PG X tg t':=fun pins s U H v u Q I r q=>h pins s U H v u Q I r (f v U H Q q)
theorem qY{ts:List Expr}{t t':Vy}(h:Vg X ts t)(f:∀v U H Q,t' v U H Q->t v U H Q):Vg X ts t':=fun pins s U H v u Q I r q=>h pins s U H v u Q I r (f v U H Q q)
@[simp] noncomputable def gN(i:Nat)(d:D)(Z:j6):Option j6:=some (Z.set i (.cl d))
theorem cK{i k:Nat}{x:Str}(h:PG X (.Name x pos) (YA i))(hi:i < k:=by decide):PG X (.Name x pos) (tG K k (gN i)):=aw h fun v U H Q xx=>by
 obtain⟨H0,O0,Z,O,d,Z',R,r,e,q⟩:=xx;cases e;exact q _ (R.set r i) (List.drop_set_of_lt hi)
@[simp] noncomputable def gZ(ds:List D)(Z:j6):Option j6:=match ds with
 | []=>some Z
 | _=>none
@[simp] noncomputable def gC(g:DG)(gs:UU)(ds:List D)(Z:j6):Option j6:=match ds with
 | d::r=>(g d Z).bind fun Z1=>gs r Z1
 | []=>none
theorem fe{k:Nat}:Vg X [] (wH K k gZ):=qY Al fun v U H Q xx=>by
 obtain⟨H0,O0,Z,O,d,Z',R,r,e,q⟩:=xx;unfold gZ at e;split at e
 ·cases e;rw[j4]at r;exact⟨r,q _ R rfl⟩
 ·cases e
theorem cL{k:Nat}{es:List Expr}{g:DG}{gs:UU}(h1:PG X e (tG K k g))(h2:Vg X es (wH K k gs))(hs:(assignEach (e::es) X.env).map (·.2)=assign e X.env::(assignEach es X.env).map (·.2):=by rfl):Vg X (e::es) (wH K k (gC g gs)):=qY (QQ h1 h2 hs) fun v U H Q xx=>by
 obtain⟨H0,O0,Z,O,ds,Z',R,r,ed,q⟩:=xx;unfold gC at ed;split at ed
 ·obtain⟨Z1,e1,e2⟩:=j0 ed;rw[j4]at r;obtain⟨v1,vr,rfl,a,b⟩:=r;exact⟨v1,vr,rfl,H0,O0,Z,O,_,Z1,R,a,e1,fun U' R' k1=>⟨H0,O0,Z1,O,_,Z',R',b,e2,fun U2 R2 k2=>q U2 R2 (k2.trans k1)⟩⟩
 ·cases ed
@[simp] noncomputable def gT(n:Nat)(gs:UU)(d:D)(Z:j6):Option j6:=match d with
 | .tup l=>if l.length=n then gs l Z else none
 | _=>none
theorem ff{es:List Expr}{k kk:Nat}{gs:UU}(n:Nat)(hc:X.calm=true)(h:Vg X es (wH K kk gs))(hn:(assignEach es X.env).length=n:=by rfl)(hst:(assignEach es X.env).findIdx? (·.1)=none:=by rfl)(hK:X.K=K:=by rfl):PG X (.Tuple es k pos) (tG K kk (gT n gs)):=aw (Bo hc h hn hst) fun v U H Q xx=>by
 obtain⟨H0,O0,Z,O,d,Z',R,r,ed,q⟩:=xx;subst hK;unfold gT at ed;split at ed
 ·split at ed
  ·obtain⟨a,xs,rfl,h1,h2⟩:=RB.tup (.inl r);exact⟨a,xs,rfl,h1,by rw[h2.len];assumption,H0,O0,Z,O,_,Z',R,h2,ed,q⟩
  ·cases ed
 ·cases ed
@[simp] noncomputable def jS(_:j6):Option Bool:=some true
theorem HX:zE X [] (tT K jS):=fun pins s U H Q I xx=>by
 obtain⟨H0,O0,Z,O,b,R,ed,q⟩:=xx;cases ed;exact AA pins s U H Q I (q H (j3.refl H))
theorem HY{dt:DT}(h:PT X c (tT K dt)):zE X [c] (tT K dt):=AB h
@[simp] noncomputable def Ul(k:Nat)(caps:List Nat)(Z:j6):j6:=List.replicate k .un++caps.map fun j=>(Z[j]?).getD .un
noncomputable def Y9(g:DG)(dc:DT)(de:DE):List D->j6->Option (List D)
 | [],_=>some []
 | d::ds,Z=>(g d Z).bind fun Z1=>(dc Z1).bind fun k=>if k=true then(de Z1).bind fun y=>(Y9 g dc de ds Z).bind fun ys=>some (y::ys)else Y9 g dc de ds Z
@[simp] def yH(k:Nat)(caps:List Nat)(di:DI)(g:DG)(dc:DT)(de:DE)(Z:j6):Option OD:=(di Z).bind fun items=>(Y9 g dc de items (Ul k caps Z)).bind fun ys=>if items.length<=sizeLine then some (.lst ys)else none
theorem xC{H0 H:Hp}{O0 O:List Addr}{Z:j6}{U:L2.St}(own:List Str)(caps:List (Str×Nat))(R:Rel K H0 O0 Z U H O)(hnd:(caps.map (·.2)).Nodup):Rel K H0 O0 (Ul own.length (caps.map (·.2)) Z) (ZG own caps U) H O:=by
 have key:∀(i:Nat) (s:Sl),s≠.un->(Ul own.length (caps.map (·.2)) Z)[i]?=some s->∃m x j,i=own.length+m/\caps[m]?=some (x,j)/\Z[j]?=some s/\(ZG own caps U)[i]?=some ((U[j]?).join):=fun i s hs e=>by
  unfold Ul at e;by_cases hi:i < own.length
  ·rw[List.getElem?_append_left (by rw[List.length_replicate];exact hi),List.getElem?_replicate,if_pos hi]at e;cases e;exact vDa rfl hs
  ·rw[List.getElem?_append_right (by rw[List.length_replicate];omega),List.length_replicate,List.map_map,List.getElem?_map]at e;cases q:caps[i - own.length]? with
   | none=>rw[q]at e;cases e
   | some p=>
    rw[q]at e;obtain⟨x,j⟩:=p;have e:(Z[j]?).getD .un=s:=vFa e;refine⟨i - own.length,x,j,by omega,q,?_,?_⟩
    ·cases z:Z[j]? with
     | none=>rw[z]at e;exact vDa e.symm hs
     | some s'=>rw[z]at e;rw[<-e];rfl
    ·show(own.map (fun _=>(none:Option V))++caps.map fun(p:Str×Nat)=>(U[p.2]?).join)[i]?=_;rw[List.getElem?_append_right (by rw[List.length_map];omega),List.length_map,List.getElem?_map,q];rfl
 have jn:∀{o:Option (Option V)} {v:V},o.join=some v->o=some (some v):=fun {o v} z=>by
  cases o with
  | none=>cases z
  | some w=>cases w with
   | none=>cases z
   | some u=>cases z;rfl
 have mj:∀{m m' j:Nat} {x x':Str},caps[m]?=some (x,j)->caps[m']?=some (x',j)->m=m':=fun {m m' j x x'} c1 c2=>by
  have h1:(caps.map (·.2))[m]?=some j:=by rw[List.getElem?_map,c1];rfl
  have h2:(caps.map (·.2))[m']?=some j:=by rw[List.getElem?_map,c2];rfl
  have l1:=(List.getElem?_eq_some_iff.mp h1).1;exact(List.getElem?_inj l1 hnd).mp (h1.trans h2.symm)
 refine⟨?_,R.sub,R.fr,R.al0,R.al,R.keep,?_,?_,?_,?_,?_⟩
 ·show(own.map (fun _=>(none:Option V))++caps.map fun(p:Str×Nat)=>(U[p.2]?).join).length=_;unfold Ul;simp
 ·intro i d e;obtain⟨m,x,j,_,_,e2,e3⟩:=key i _ (by intro z;cases z) e;obtain⟨v,h1,h2⟩:=R.cl j d e2;exact⟨v,by rw[e3,h1];rfl,h2⟩
 ·intro i d e;obtain⟨m,x,j,_,_,e2,e3⟩:=key i _ (by intro z;cases z) e;obtain⟨v,h1,h2⟩:=R.bo j d e2;exact⟨v,by rw[e3,h1];rfl,h2⟩
 ·intro i q o e;obtain⟨m,x,j,_,_,e2,e3⟩:=key i _ (by intro z;cases z) e;obtain⟨l,z,h1,h2⟩:=R.ow j q o e2;exact⟨l,z,by rw[e3,h1];rfl,h2⟩
 ·intro i i' q q' ds es l e e' f f';obtain⟨m,x,j,rfl,c1,e2,e3⟩:=key i _ (by intro z;cases z) e;obtain⟨m',x',j',rfl,c2,e2',e3'⟩:=key i' _ (by intro z;cases z) e';rw[e3]at f;rw[e3']at f';have ej:=R.dist j j' q q' ds es l e2 e2' (jn (vFa f)) (jn (vFa f'));subst ej;rw[mj c1 c2]
 ·intro i q0 ls e;obtain⟨m,x,j,rfl,c1,e2,e3⟩:=key i _ (by intro z;cases z) e;obtain⟨l,ps,h1,h2,nd,f,pn,u⟩:=R.lo j q0 ls e2;refine⟨l,ps,by rw[e3,h1];rfl,h2,nd,fun a ha=>⟨(f a ha).1,(f a ha).2.1,fun⟨k,q,o,y,z⟩=>(f a ha).2.2 ?_⟩,pn,fun k q9 ms y=>?_⟩
  ·obtain⟨_,_,j',_,_,y2,y3⟩:=key k _ (by intro z;cases z) y;rw[y3]at z;exact⟨j',q,o,y2,jn (vFa z)⟩
  ·obtain⟨m',x',j',rfl,c2,y2,_⟩:=key k _ (by intro z;cases z) y;have:=u j' q9 ms y2;subst this;rw[mj c1 c2]
end
section
variable {X:Cx} {K:Fr} {e a b c d tg:Expr} {de da db dc dd:DE} {pos:Pos}
theorem kQ{own:List Str}{caps:List (Str×Nat)}{di:DI}{g:DG}{dc:DT}{de:DE}(hnd:(caps.map (·.2)).Nodup):∀U H Q,tF K (yH own.length (caps.map (·.2)) di g dc de) U H Q->BW own caps (zx K di) (tG K own.length g) (tT K dc) (tE K de) U H Q:=fun U H Q xx=>by
 obtain⟨H0,O0,Z,O,o,R,ed,q⟩:=xx;obtain⟨items,e1,ed⟩:=j0 ed;obtain⟨ys,e2,ed⟩:=j0 ed;split at ed
 ·rename_i hz;cases ed;refine⟨H0,O0,Z,O,items,R,e1,fun J H1 s1 hJ=>?_⟩;have R1:=R.grow s1;have Rc:=xC own caps R1 hnd;refine⟨fun i m vs H'=>∃ys1 ys2,Y9 g dc de (items.drop i) (Ul own.length (caps.map (·.2)) Z)=some ys2/\ys1++ys2=ys/\j3 H1 H'/\j4 K (j7 H' O) ys1 vs/\m=items.length - i/\i<=items.length/\ys1.length<=i,⟨items.length,[],ys,by simpa using e2,rfl,j3.refl _,j4.nil,rfl,Nat.zero_le _,wPa _⟩,?_⟩;rintro i m vs H' ⟨ys1,ys2,d1,d2,sH,rp,rfl,hi,hy⟩;have R2:=R1.grow sH;obtain⟨hgo,hstop⟩:=hJ i H' O R2.keep R2.in0 (jc sH) R2.al;by_cases hlt:i < items.length
  ·right;have hx:items[i]?=some items[i]:=by simp[hlt]
   have hd:items.drop i=items[i]::items.drop (i+1):=(List.getElem_cons_drop hlt).symm;rw[hd]at d1;obtain⟨g1,g2⟩:=hgo _ hx;refine⟨g1,by rw[rp.len];omega,fun vs' H4=>∃ys1 ys2,Y9 g dc de (items.drop (i+1)) (Ul own.length (caps.map (·.2)) Z)=some ys2/\ys1++ys2=ys/\j3 H1 H4/\j4 K (j7 H4 O) ys1 vs'/\ys1.length<=i+1,?_,fun x H'' y=>?_⟩
   ·rintro vs' H4 ⟨z1,z2,a1,a2,a3,a4,a5⟩;exact⟨items.length - (i+1),by omega,z1,z2,a1,a2,a3,a4,rfl,hlt,a5⟩
   ·obtain⟨sy,rx⟩:=g2 x H'' y;obtain⟨Z1,f1,f2⟩:=j0 d1;obtain⟨k,f3,f4⟩:=j0 f2;refine⟨H0,O0,_,O,_,Z1,Rc.grow (sH.trans sy),rx,f1,fun U2 R3 kd=>⟨kd,H0,O0,Z1,O,k,R3,f3,fun H3 s3=>?_⟩⟩;cases k with
    | true=>
     rw[if_pos rfl]at f4;obtain⟨y1,f5,f6⟩:=j0 f4;obtain⟨yr,f7,f8⟩:=j0 f6;cases f8;refine yF ⟨H0,O0,Z1,O,y1,R3.grow s3,f5,fun v H4 s4 rv=>?_⟩;exact⟨ys1++[y1],yr,f7,by rw[<-d2];simp,sH.trans (sy.trans (s3.trans s4)),(rp.same (jc (sy.trans (s3.trans s4)))).snoc rv,by simp;exact hy⟩
    | false=>
     rw[if_neg Bool.false_ne_true]at f4;exact yE ⟨ys1,ys2,f4,d2,sH.trans (sy.trans s3),rp.same (jc (sy.trans s3)),by omega⟩
  ·left;have ei:i=items.length:=by omega
   refine⟨hstop ei,by rw[rp.len];omega,fun Dd hD=>?_⟩;have e0:items.drop i=[]:=List.drop_of_length_le (by omega);rw[e0]at d1;have e3:ys2=[]:=by
    have d1:some []=some ys2:=d1;exact(vFa d1).symm
   rw[e3,List.append_nil]at d2;subst d2;exact q Dd _ ((s1.trans sH).trans (jD hD _)) ((s1.trans sH).none hD) (yG hD rp)
 ·cases ed
theorem HZ{iter elt:Expr}{ifs:List Expr}{scope:Scope}{di:DI}{g:DG}{dc:DT}{de:DE}(own:List Str)(caps:List (Str×Nat))(S:CScope X scope)(hcap:Caps X scope caps)(hc:X.calm=true)(hi:PI X tg iter (zx K di))
  (hg:∀s3 H3 ex',PG (X.comp (cN own caps) scope s3 H3 ex') tg (tG K own.length g)) (ht:∀s3 H3 ex',zE (X.comp (cN own caps) scope s3 H3 ex') ifs (tT K dc)) (he:∀s3 H3 ex',PE (X.comp (cN own caps) scope s3 H3 ex') elt (tE K de))
  (hnd:(caps.map (·.2)).Nodup:=by decide) (hs:∀x,foldedSetIterable iter X.env x=pure x:=by intro _;rfl):PE X (.ListComp elt [⟨tg,iter,ifs,0⟩] scope pos) (tF K (yH own.length (caps.map (·.2)) di g dc de)):=jt (Eo own caps S hcap hc hi hg ht he hs) (kQ hnd)
def uM(K:Fr)(ks:List Bool)(F:List D->Option D):Sp:=fun vs H Q _=>∃O ds d,(∀a∈O,H a≠none)/\JQ K O H ks ds vs/\F ds=some d/\∀v H',j3 H H'->j8 K (j7 H' O) d v->Q v H'
def wI(K:Fr)(ks:List Bool)(F:List D->Option OD):Sp:=fun vs H Q _=>∃O ds o,(∀a∈O,H a≠none)/\JQ K O H ks ds vs/\F ds=some o/\∀l H',j3 H H'->H l=none->JD K H' (j7 H' (l::O)) l o->Q (.ref l) H'
variable {k:Nat} {x m:Str} {ps:List Str} {p apos:Pos} {es:List Expr} {l:DA} {ks:List Bool}
theorem cM{F:List D->Option D}(G:FnI X.prog X.w X.K X.mg X.base k x ps (uM K ks F))(hr:Room k X.A)(ha:PA X (e::es) (YC K l))(hk:l.map (·.1)=ks:=by rfl)(hg:Gl X x:=by rfl)(hdb:(x==("__debug__" : Str))=false:=by decide)
  (he:starEach (e::es) X.env=(false,eval e X.env)::starEach es X.env:=by rfl) (hpl:(backTo pos (starEach es X.env)).any (·.1)=false:=by rfl):PE X (.Call (.Name x p) (e::es) [] pos) (tE K (jd F l)):=jt (WB G hr ha hg hdb he hpl) fun U H Q xx=>by
 obtain⟨H0,O0,Z,O,d,R,ed,q⟩:=xx;subst hk;obtain⟨ds,e1,e2⟩:=j0 ed;refine⟨H0,O0,Z,O,ds,R,e1,fun vs H1 s1 r1=>?_⟩
 (try dsimp only)
 rw[List.append_nil];exact⟨O,ds,d,(R.grow s1).al,r1,e2,fun v H' s r=>q v H' (s1.trans s) r⟩
theorem cO{F:List D->Option OD}(G:FnI X.prog X.w X.K X.mg X.base k x ps (wI K ks F))(hr:Room k X.A)(ha:PA X (e::es) (YC K l))(hk:l.map (·.1)=ks:=by rfl)(hg:Gl X x:=by rfl)(hdb:(x==("__debug__" : Str))=false:=by decide)
  (he:starEach (e::es) X.env=(false,eval e X.env)::starEach es X.env:=by rfl) (hpl:(backTo pos (starEach es X.env)).any (·.1)=false:=by rfl):PE X (.Call (.Name x p) (e::es) [] pos) (tF K (yz F l)):=jt (WB G hr ha hg hdb he hpl) fun U H Q xx=>by
 obtain⟨H0,O0,Z,O,d,R,ed,q⟩:=xx;subst hk;obtain⟨ds,e1,e2⟩:=j0 ed;refine⟨H0,O0,Z,O,ds,R,e1,fun vs H1 s1 r1=>?_⟩
 (try dsimp only)
 rw[List.append_nil];exact⟨O,ds,d,(R.grow s1).al,r1,e2,fun l H' s hn r=>q l H' (s1.trans s) (s1.none hn) r⟩
noncomputable def WI(C:Addr)(m:Str)(F:List D->Option D):D->Option D:=fun d=>match d with
 | .ins C' ns ds=>if C'=C/\m∉ns then F [d]else none
 | _=>none
noncomputable def JT(C:Addr)(m:Str)(F:List D->Option OD):D->Option OD:=fun d=>match d with
 | .ins C' ns ds=>if C'=C/\m∉ns then F [d]else none
 | _=>none
theorem v7{α:Type}{m:Str}:∀{ns:List Str} {xs:List α},m∉ns->(ns.zip xs).lookup m=none
 | [],_,_=>rfl
 | _::_,[],_=>rfl
 | n::ns,x::xs,h=>by
  rw[List.zip_cons_cons,List.lookup_cons];have e:(m==n)=false:=by
   rw[beq_eq_false_iff_ne];exact fun z=>h (by rw[z];exact wNa)
  rw[e];exact v7 fun z=>h (wMa _ z)
theorem AN{F:List D->Option D}{C:Addr}{pl:Sem Bool}(he:PE X a (tR K da))(c:Cls K C)(M:MtI X.prog X.w X.K X.mg X.base k C m ps (uM K [false] F))(hr:Room k X.A)
  (ht:eval (.Call (.Attribute a m apos) [] [] pos) X.env=(do
   let ov<-eval a X.env
   standAt apos.atName
   let (f,first)<-holding [ov] (getMethod ov m pl)
   callWith pos f first (backTo pos (starEach [] X.env)) (backToKw pos (keywordEach [] X.env))):=by rfl) (hK:X.K=K:=by rfl):
  PE X (.Call (.Attribute a m apos) [] [] pos) (tE K (d1 (WI C m F) da)):=by
 subst hK;refine jt (qV he c M hr ht) fun U H Q xx=>?_;obtain⟨H0,O0,Z,O,d,R,ed,q⟩:=xx;obtain⟨x,e1,e2⟩:=j0 ed;refine⟨H0,O0,Z,O,x,R,e1,fun v H1 s1 r=>?_⟩;unfold WI at e2;split at e2
 ·split at e2
  ·rename_i hh;obtain⟨rfl,hm⟩:=hh;have r0:=r;obtain⟨pa,dx,xs,rfl,h1,hn,h2⟩:=r.ins;exact⟨pa,dx,_,rfl,h1,v7 hm,O,[_],d,(R.grow s1).al,⟨r0,trivial⟩,e2,fun v H' s r=>q v H' (s1.trans s) r⟩
  ·cases e2
 ·cases e2
@[simp] noncomputable def wJ(f:D->Option OD)(da:DE)(Z:j6):Option OD:=(da Z).bind f
theorem AO{F:List D->Option OD}{C:Addr}{pl:Sem Bool}(he:PE X a (tR K da))(c:Cls K C)(M:MtI X.prog X.w X.K X.mg X.base k C m ps (wI K [false] F))(hr:Room k X.A)
  (ht:eval (.Call (.Attribute a m apos) [] [] pos) X.env=(do
   let ov<-eval a X.env
   standAt apos.atName
   let (f,first)<-holding [ov] (getMethod ov m pl)
   callWith pos f first (backTo pos (starEach [] X.env)) (backToKw pos (keywordEach [] X.env))):=by rfl) (hK:X.K=K:=by rfl):
  PE X (.Call (.Attribute a m apos) [] [] pos) (tF K (wJ (JT C m F) da)):=by
 subst hK;refine jt (qV he c M hr ht) fun U H Q xx=>?_;obtain⟨H0,O0,Z,O,d,R,ed,q⟩:=xx;obtain⟨x,e1,e2⟩:=j0 ed;refine⟨H0,O0,Z,O,x,R,e1,fun v H1 s1 r=>?_⟩;unfold JT at e2;split at e2
 ·split at e2
  ·rename_i hh;obtain⟨rfl,hm⟩:=hh;have r0:=r;obtain⟨pa,dx,xs,rfl,h1,hn,h2⟩:=r.ins;exact⟨pa,dx,_,rfl,h1,v7 hm,O,[_],d,(R.grow s1).al,⟨r0,trivial⟩,e2,fun l H' s hn r=>q l H' (s1.trans s) (s1.none hn) r⟩
  ·cases e2
 ·cases e2
def ax(K:Fr)(C:Addr)(ks:List Bool)(F:Addr->List D->Option OD):Sp:=fun vs H Q _=>∃O ds p dx vs' o,vs=.ref p::vs'/\(∀a∈O,H a≠none)/\H p=some (.ins C dx [])/\p∉O/\JQ K O (j7 H [p]) ks ds vs'/\F p ds=some o/\∀H',j3 (j7 H [p]) H'->JD K H' (j7 H' (p::O)) p o->Q .non H'
@[simp] def k8(F:List D->Option OD)(l:DA)(Z:j6):Option OD:=(YB l Z).bind F
theorem cP{F:Addr->List D->Option OD}{F1:List D->Option OD}{C:Addr}(M:MkI X.prog X.w X.K X.mg X.base k C x ps (ax K C ks F))(hF:∀p ds o,F1 ds=some o->F p ds=some o)(hr:Room (k+1) X.A)(ha:PA X (e::es) (YC K l))(hk:l.map (·.1)=ks:=by rfl)(hg:Gl X x:=by rfl)(hdb:(x==("__debug__" : Str))=false:=by decide)
  (he:starEach (e::es) X.env=(false,eval e X.env)::starEach es X.env:=by rfl) (hpl:(backTo pos (starEach es X.env)).any (·.1)=false:=by rfl):PE X (.Call (.Name x p) (e::es) [] pos) (tF K (k8 F1 l)):=jt (Ep M hr ha hg hdb he hpl) fun U H Q xx=>by
 obtain⟨H0,O0,Z,O,o,R,ed,q⟩:=xx;subst hk;obtain⟨ds,e1,e2⟩:=j0 ed;refine⟨H0,O0,Z,O,ds,R,e1,fun vs H1 s1 r1=>fun y dy ny ndy hne=>?_⟩
 (try dsimp only)
 rw[List.append_nil];have R1:=R.grow s1;have sB:j3 H1 (j7 (upd (upd H1 dy (.own y)) y (.ins C dy [])) [y]):=fun c u z=>by
  rw[jF (by intro w;simp at w;exact jz z ny w),je (jz z ny),je (jz z ndy)];exact z
 refine⟨O,ds,y,dy,vs,o,rfl,fun c hc z=>?_,ju,R1.new ny,r1.same sB,hF y ds o e2,fun H' s ow=>⟨rfl,q y H' (s1.trans (sB.trans s)) (s1.none ny) ow⟩⟩;refine R1.al c hc ?_;by_cases h1:c=y
 ·rw[h1];exact ny
 ·rw[je h1]at z;by_cases h2:c=dy
  ·rw[h2];exact ndy
  ·rw[je h2]at z;exact z
inductive Rs where
 | nx (Z:j6) | rt (d:D) | rf (o:OD) | bk (Z:j6) | ct (Z:j6)
abbrev DS:=j6->Option Rs
def Fin(K:Fr)(H0:Hp)(O0:List Addr)(H:Hp)(O:List Addr)(E:Ends):Rs->Prop
 | .nx Z=>∀U' H' O',Rel K H0 O0 Z U' H' O'->j3 (j7 H O) (j7 H' O')->E.nx U' H'
 | .bk Z=>∀U' H' O',Rel K H0 O0 Z U' H' O'->j3 (j7 H O) (j7 H' O')->E.bk U' H'
 | .ct Z=>∀U' H' O',Rel K H0 O0 Z U' H' O'->j3 (j7 H O) (j7 H' O')->E.ct U' H'
 | .rt d=>∀v H',j3 H0 H'->j8 K (j7 H' O0) d v->E.rt v H'
 | .rf o=>∀l H',j3 H0 H'->H0 l=none->JD K H' (j7 H' (l::O0)) l o->E.rt (.ref l) H'
theorem Fin.mono{H0 H H1:Hp}{O0 O O1:List Addr}{E:Ends}{r:Rs}(s:j3 (j7 H O) (j7 H1 O1))(h:Fin K H0 O0 H O E r):Fin K H0 O0 H1 O1 E r:=by
 cases r with
 | nx Z=>exact fun U' H' O' R t=>h U' H' O' R (s.trans t)
 | bk Z=>exact fun U' H' O' R t=>h U' H' O' R (s.trans t)
 | ct Z=>exact fun U' H' O' R t=>h U' H' O' R (s.trans t)
 | rt d=>exact h
 | rf o=>exact h
def tS(K:Fr)(ds:DS):TS:=fun E U H=>∃H0 O0 Z O r,Rel K H0 O0 Z U H O/\ds Z=some r/\Fin K H0 O0 H O E r
variable {st:Stmt} {rest:List Stmt} {s1 s2:DS}
theorem jT{t t':TS}(h:PS X st t)(f:∀D U H,t' D U H->t D U H):PS X st t':=fun pins s U H D I q=>h pins s U H D I (f D U H q)
theorem ym{t t':TS}(h:jr X rest t)(f:∀D U H,t' D U H->t D U H):jr X rest t':=fun pins s U H D I q=>h pins s U H D I (f D U H q)
@[simp] noncomputable def jL(Z:j6):Option Rs:=some (.nx Z)
theorem qZ:jr X [] (tS K jL):=ym gy fun D U H xx=>by
 obtain⟨H0,O0,Z,O,r,R,ed,f⟩:=xx;cases ed;exact f U H O R (j3.refl _)
@[simp] noncomputable def j9(s1 s2:DS)(Z:j6):Option Rs:=(s1 Z).bind fun r=>match r with
 | .nx Z1=>s2 Z1
 | r=>some r
theorem gJ(h1:PS X st (tS K s1))(h2:jr X rest (tS K s2)):jr X (st::rest) (tS K (j9 s1 s2)):=ym (yB h1 h2) fun D U H xx=>by
 obtain⟨H0,O0,Z,O,r,R,ed,f⟩:=xx;obtain⟨r1,e1,e2⟩:=j0 ed;refine⟨H0,O0,Z,O,r1,R,e1,?_⟩;cases r1 with
 | nx Z1=>exact fun U' H' O' R' t=>⟨H0,O0,Z1,O',r,R',e2,f.mono t⟩
 | bk Z1=>cases e2;exact f
 | ct Z1=>cases e2;exact f
 | rt d=>cases e2;exact f
 | rf o=>cases e2;exact f
theorem q_(h1:PS X st (tS K s1)):jr X [st] (tS K s1):=vt h1
@[simp] noncomputable def Yb(_:j6):Option Rs:=none
theorem xD:jr X rest (tS K Yb):=ym Gq fun D U H ⟨H0,O0,Z,O,r,R,ed,f⟩=>by cases ed
@[simp] def VJ(i:Nat)(s:DS)(Z:j6):Option Rs:=match Z[i]? with
 | some (.ow _ o)=>s (Z.set i (.cl o.toD))
 | _=>none
theorem xF(i:Nat)(h:jr X rest (tS K s1)):jr X rest (tS K (VJ i s1)):=ym h fun D U H xx=>by
 obtain⟨H0,O0,Z,O,r,R,ed,f⟩:=xx;unfold VJ at ed;split at ed
 ·obtain⟨O',R',ss⟩:=R.share (by assumption);exact⟨H0,O0,_,O',r,R',ed,f.mono ss⟩
 ·cases ed
@[simp] noncomputable def jC(dt:DT)(s1 s2:DS)(Z:j6):Option Rs:=(dt Z).bind fun k=>if k=true then s1 Z else s2 Z
theorem cR{dt:DT}{sa sb:List Stmt}(hc:PT X c (tT K dt))(ha:jr X sa (tS K s1))(hb:jr X sb (tS K s2)):PS X (.If c sa sb pos) (tS K (jC dt s1 s2)):=jT (GZ hc ha hb) fun D U H xx=>by
 obtain⟨H0,O0,Z,O,r,R,ed,f⟩:=xx;obtain⟨k,e1,e2⟩:=j0 ed;refine⟨H0,O0,Z,O,k,R,e1,fun H' s=>?_⟩;cases k with
 | true=>rw[if_pos rfl]at e2;exact yF ⟨H0,O0,Z,O,r,R.grow s,e2,f.mono (jc s)⟩
 | false=>rw[if_neg Bool.false_ne_true]at e2;exact yE ⟨H0,O0,Z,O,r,R.grow s,e2,f.mono (jc s)⟩
@[simp] noncomputable def jA(i:Nat)(de:DE)(Z:j6):Option Rs:=(de Z).bind fun d=>some (.nx (Z.set i (.cl d)))
theorem cU{i:Nat}:∀D U H,tS K (jA i de) D U H->Yp (tE K de) (YA i) D U H:=fun D U H xx=>by
 obtain⟨H0,O0,Z,O,r,R,ed,f⟩:=xx;obtain⟨d,e1,e2⟩:=j0 ed;cases e2;exact⟨H0,O0,Z,O,d,R,e1,fun v H' s q=>f _ H' O ((R.grow s).set q i) (jc s)⟩
theorem ay{i:Nat}(h:PS X st (Yp (tE K de) (YA i))):PS X st (tS K (jA i de)):=jT h cU
@[simp] noncomputable def YI(i:Nat)(df:DO)(Z:j6):Option Rs:=(df Z).bind fun o=>some (.nx (Z.set i (.ow none o)))
theorem cY{i:Nat}{df:DO}:∀D U H,tS K (YI i df) D U H->Yp (tF K df) (YA i) D U H:=fun D U H xx=>by
 obtain⟨H0,O0,Z,O,r,R,ed,f⟩:=xx;obtain⟨d,e1,e2⟩:=j0 ed;cases e2;exact⟨H0,O0,Z,O,d,R,e1,fun l H' s hn q=>f _ H' (l::O) (R.own s hn q i) (zw s hn)⟩
theorem az{i:Nat}{df:DO}(h:PS X st (Yp (tF K df) (YA i))):PS X st (tS K (YI i df)):=jT h cY
theorem Um{te te':TE}{g:TG}(h:PS X st (Yp te g))(f:∀U H Q,te' U H Q->te U H Q):PS X st (Yp te' g):=jT h fun D U H q=>f U H _ q
theorem xG{df:DO}:∀U H Q,tE K (dL df) U H Q->tF K df U H Q:=fun U H Q xx=>by
 obtain⟨H0,O0,Z,O,d,R,ed,q⟩:=xx;obtain⟨ds,e1,e2⟩:=j0 ed;cases e2;exact⟨H0,O0,Z,O,ds,R,e1,fun l H' s hn r=>q _ _ s ((r.same (fun _ z=>z) (jY fun a h=>wMa _ h)).rep fun u z=>by rw[jF (R.new hn)];exact z)⟩
@[simp] noncomputable def VL(de:DE)(g:DG)(Z:j6):Option Rs:=(de Z).bind fun d=>(g d Z).bind fun Z'=>some (.nx Z')
theorem fg{g:DG}{kk:Nat}(h:PS X st (Yp (tE K de) (tG K kk g))):PS X st (tS K (VL de g)):=jT h fun D U H xx=>by
 obtain⟨H0,O0,Z,O,r,R,ed,f⟩:=xx;obtain⟨d,e1,ed⟩:=j0 ed;obtain⟨Z',e2,ed⟩:=j0 ed;cases ed;exact⟨H0,O0,Z,O,d,R,e1,fun v H' s q=>⟨H0,O0,Z,O,d,Z',R.grow s,q,e2,fun U' R' _=>f U' H' O R' (jc s)⟩⟩
@[simp] noncomputable def WJ(de:DE)(Z:j6):Option Rs:=(de Z).bind fun _=>some (.nx Z)
theorem Q0(h:PS X st (vU (tR K de))):PS X st (tS K (WJ de)):=jT h fun D U H xx=>by
 obtain⟨H0,O0,Z,O,r,R,ed,f⟩:=xx;obtain⟨d,e1,e2⟩:=j0 ed;cases e2;exact⟨H0,O0,Z,O,d,R,e1,fun v H' s q=>f _ H' O (R.grow s) (jc s)⟩
@[simp] noncomputable def zh(i:Nat)(de:DE)(Z:j6):Option Rs:=match Z[i]? with
 | some (.ow q (.lst ds))=>(de Z).bind fun d=>if ds.length < sizeLine then some (.nx (Z.set i (.ow q (.lst (ds++[d])))))else none
 | _=>none
theorem xH{i:Nat}(h:PS X st (vU (uK K "list" ue (J_ i) (Jk (tE K de) Y0)))):PS X st (tS K (zh i de)):=jT h fun D U H xx=>by
 obtain⟨H0,O0,Z,O,r,R,ed,f⟩:=xx;unfold zh at ed;split at ed
 ·rename_i q ds hi;obtain⟨d,e1,e2⟩:=j0 ed;split at e2
  ·rename_i hz;cases e2;obtain⟨l,hq,hs,⟨vs,hl,rp⟩,lo,h0⟩:=R.ow i _ _ hi;refine⟨_,hs,.inl ⟨rfl,_,js.of hl⟩,H0,O0,Z,O,d,R,e1,fun v H' s rv=>?_⟩;have R':=R.grow s;have rp':=rp.same (jc s);refine⟨l,vs,v,rfl,rfl,s _ _ hl,by rw[rp.len];exact hz,f _ _ O (R'.change hi hq hs lo h0 ⟨_,ju,rp'.snoc rv⟩) ?_⟩;rw[Jd lo];exact jc s
  ·cases e2
 ·cases ed
@[simp] def UV(i:Nat)(dx de:DE)(Z:j6):Option Rs:=match Z[i]? with
 | some (.ow q (.lst ds))=>(de Z).bind fun d=>(dx Z).bind fun j=>match j with
  | .int j=>(zu ds.length j).bind fun n=>some (.nx (Z.set i (.ow q (.lst (ds.set n d)))))
  | _=>none
 | _=>none
theorem cZ{i:Nat}{dx:DE}(h:PS X st (Yp (tE K de) (Bp (J_ i) (tR K dx) XT))):PS X st (tS K (UV i dx de)):=jT h fun D U H xx=>by
 obtain⟨H0,O0,Z,O,r,R,ed,f⟩:=xx;unfold UV at ed;split at ed
 ·rename_i q ds hi;obtain⟨d,e1,ed⟩:=j0 ed;obtain⟨j,e2,ed⟩:=j0 ed;split at ed
  ·obtain⟨n,e3,ed⟩:=j0 ed;cases ed;obtain⟨l,hq,hs,⟨vs,hl,rp⟩,lo,h0⟩:=R.ow i _ _ hi;refine⟨H0,O0,Z,O,d,R,e1,fun v H1 s1 rv=>⟨_,hs,H0,O0,Z,O,_,R.grow s1,e2,fun w H2 s2 rw'=>?_⟩⟩;have s12:=s1.trans s2;have R':=R.grow s12;have rp':=rp.same (jc s12);refine⟨l,vs,_,n,rfl,rw'.int,s12 _ _ hl,by rw[rp.len];exact e3,f _ _ O (R'.change hi hq hs lo h0 ⟨_,ju,rp'.set (rv.same (jc s2)) n⟩) ?_⟩;rw[Jd lo];exact jc s12
  ·cases ed
 ·cases ed
@[simp] noncomputable def jv(de:DE)(Z:j6):Option Rs:=(de Z).bind fun d=>some (.rt d)
theorem aA(h:PE X e (tE K de)):PS X (.Return (some e) pos) (tS K (jv de)):=jT (UF h) fun D U H xx=>by
 obtain⟨H0,O0,Z,O,r,R,ed,f⟩:=xx;obtain⟨d,e1,e2⟩:=j0 ed;cases e2;exact⟨H0,O0,Z,O,d,R,e1,fun v H' s q=>f v H' (R.keep.trans s) (q.same (jY R.sub))⟩
@[simp] noncomputable def vY(df:DO)(Z:j6):Option Rs:=(df Z).bind fun o=>some (.rf o)
theorem c_{df:DO}(h:PE X e (tF K df)):PS X (.Return (some e) pos) (tS K (vY df)):=jT (UF h) fun D U H xx=>by
 obtain⟨H0,O0,Z,O,r,R,ed,f⟩:=xx;obtain⟨d,e1,e2⟩:=j0 ed;cases e2;refine⟨H0,O0,Z,O,d,R,e1,fun l H' s hn q=>f l H' (R.keep.trans s) (R.keep.none hn) (q.same (fun _ z=>z) (jY fun a h=>?_))⟩;rcases List.mem_cons.mp h with rfl | h
 ·exact wNa
 ·exact wMa _ (R.sub a h)
@[simp] noncomputable def UW(i:Nat)(Z:j6):Option Rs:=match Z[i]? with
 | some (.ow _ o)=>some (.rf o)
 | _=>none
theorem C0{i:Nat}{x:Str}{pos':Pos}(h:PE X (.Name x pos') (J_ i)):PS X (.Return (some (.Name x pos')) pos) (tS K (UW i)):=jT (UF h) fun D U H xx=>by
 obtain⟨H0,O0,Z,O,r,R,ed,f⟩:=xx;unfold UW at ed;split at ed
 ·cases ed;obtain⟨l,_,hs,ow,lo,h0⟩:=R.ow i _ _ (by assumption);refine⟨_,hs,f l H R.keep h0 (ow.same (fun _ z=>z) (jY fun a h=>?_))⟩;rcases List.mem_cons.mp h with rfl | h
  ·exact lo
  ·exact R.sub a h
 ·cases ed
theorem C2:PS X (.Return none pos) (tS K (jv (dK .non))):=jT Aj fun D U H xx=>by
 obtain⟨H0,O0,Z,O,r,R,ed,f⟩:=xx;cases ed;exact f .non H R.keep (by rw[j8])
noncomputable def J2(g:DG)(s:DS):List D->DS
 | [],Z=>some (.nx Z)
 | d::ds,Z=>(g d Z).bind fun Z1=>(s Z1).bind fun r=>match r with
  | .nx Z2=>J2 g s ds Z2
  | .ct Z2=>J2 g s ds Z2
  | .bk Z2=>some (.nx Z2)
  | .rt d=>some (.rt d)
  | .rf o=>some (.rf o)
@[simp] def JL(di:DI)(g:DG)(s:DS)(Z:j6):Option Rs:=(di Z).bind fun items=>J2 g s items Z
theorem fh{iter:Expr}{body:List Stmt}{di:DI}{g:DG}{kk:Nat}(hp:PassesOwn (model X.prog X.w) X.A X.env X.xe)(hc:X.calm=true)(hi:PI X tg iter (zx K di))(hg:PG X tg (tG K kk g))(hb:jr X body (tS K s1))(hs:∀x,foldedSetIterable iter X.env x=pure x:=by intro _;rfl):PS X (.For tg iter body [] pos) (tS K (JL di g s1)):=jT (qG hp hc hi hg hb hs) fun D U H xx=>by
 obtain⟨H0,O0,Z,O,r,R,ed,f⟩:=xx;obtain⟨items,e1,ed⟩:=j0 ed;refine⟨H0,O0,Z,O,items,R,e1,fun J H1 s1' hJ=>?_⟩;have R1:=R.grow s1';have f1:=f.mono (jc s1');refine⟨fun i m U' H'=>∃Z' O',Rel K H0 O0 Z' U' H' O'/\J2 g s1 (items.drop i) Z'=some r/\j3 (j7 H1 O) (j7 H' O')/\m=items.length - i/\i<=items.length,⟨items.length,Z,O,R1,by simpa using ed,j3.refl _,rfl,Nat.zero_le _⟩,?_⟩;rintro i m U' H' ⟨Z',O',R',d1,sd,rfl,hi'⟩;obtain⟨hgo,hstop⟩:=hJ i H' O' R'.keep R'.in0 sd R'.al;by_cases hlt:i < items.length
 ·right;have hx:items[i]?=some items[i]:=by simp[hlt]
  have hd:items.drop i=items[i]::items.drop (i+1):=(List.getElem_cons_drop hlt).symm;rw[hd]at d1;obtain⟨g1,g2⟩:=hgo _ hx;refine⟨g1,fun U2 H2=>∃Z2 O2,Rel K H0 O0 Z2 U2 H2 O2/\J2 g s1 (items.drop (i+1)) Z2=some r/\j3 (j7 H1 O) (j7 H2 O2),?_,fun x H'' y=>?_⟩
  ·rintro U2 H2 ⟨Z2,O2,a1,a2,a3⟩;exact⟨items.length - (i+1),by omega,Z2,O2,a1,a2,a3,rfl,hlt⟩
  ·obtain⟨sy,rx⟩:=g2 x H'' y;obtain⟨Z1,f3,f4⟩:=j0 d1;obtain⟨r1,f5,f6⟩:=j0 f4;refine⟨H0,O0,Z',O',_,Z1,R'.grow sy,rx,f3,fun U2 R3 _=>⟨H0,O0,Z1,O',r1,R3,f5,?_⟩⟩;have t1:=sd.trans (jc sy);cases r1 with
   | nx Z2=>exact fun U3 H3 O3 R4 t=>⟨Z2,O3,R4,f6,t1.trans t⟩
   | ct Z2=>exact fun U3 H3 O3 R4 t=>⟨Z2,O3,R4,f6,t1.trans t⟩
   | bk Z2=>cases f6;exact fun U3 H3 O3 R4 t=>f1 U3 H3 O3 R4 (t1.trans t)
   | rt d=>cases f6;exact f1
   | rf o=>cases f6;exact f1
 ·left;have ei:i=items.length:=by omega
  refine⟨hstop ei,?_⟩;have e0:items.drop i=[]:=List.drop_of_length_le (by omega);rw[e0]at d1;have d1:some (Rs.nx Z')=some r:=d1;cases d1;exact f1 U' H' O' R' sd
noncomputable def uN(dt:DT)(s:DS):Nat->DS
 | 0,_=>none
 | n+1,Z=>(dt Z).bind fun k=>if k=true then(s Z).bind fun r=>match r with
  | .nx Z2=>uN dt s n Z2
  | .ct Z2=>uN dt s n Z2
  | .bk Z2=>some (.nx Z2)
  | .rt d=>some (.rt d)
  | .rf o=>some (.rf o)else some (.nx Z)
theorem AQ{dt:DT}{body:List Stmt}(n:Nat)(hp:PassesOwn (model X.prog X.w) X.A X.env X.xe)(hc:PT X c (tT K dt))(hb:jr X body (tS K s1)):PS X (.While c body [] pos) (tS K (uN dt s1 n)):=jT (QR hp hc hb) fun D U H xx=>by
 obtain⟨H0,O0,Z,O,r,R,ed,f⟩:=xx;refine⟨fun m U' H'=>∃Z' O',Rel K H0 O0 Z' U' H' O'/\uN dt s1 m Z'=some r/\j3 (j7 H O) (j7 H' O'),⟨n,Z,O,R,ed,j3.refl _⟩,?_⟩;rintro m U' H' ⟨Z',O',R',d1,sd⟩;cases m with
 | zero=>cases d1
 | succ m=>
  obtain⟨k,e1,e2⟩:=j0 d1;refine⟨H0,O0,Z',O',k,R',e1,fun H2 s2=>?_⟩;have t1:=sd.trans (jc s2);cases k with
  | true=>
   rw[if_pos rfl]at e2;obtain⟨r1,f5,f6⟩:=j0 e2;refine yF ⟨fun U3 H3=>∃Z3 O3,Rel K H0 O0 Z3 U3 H3 O3/\uN dt s1 m Z3=some r/\j3 (j7 H O) (j7 H3 O3),?_,H0,O0,Z',O',r1,R'.grow s2,f5,?_⟩
   ·rintro U3 H3 ⟨Z3,O3,a1,a2,a3⟩;exact⟨m,Nat.lt_succ_self m,Z3,O3,a1,a2,a3⟩
   ·cases r1 with
    | nx Z2=>exact fun U3 H3 O3 R4 t=>⟨Z2,O3,R4,f6,t1.trans t⟩
    | ct Z2=>exact fun U3 H3 O3 R4 t=>⟨Z2,O3,R4,f6,t1.trans t⟩
    | bk Z2=>cases f6;exact fun U3 H3 O3 R4 t=>f U3 H3 O3 R4 (t1.trans t)
    | rt d=>cases f6;exact f
    | rf o=>cases f6;exact f
  | false=>
   rw[if_neg Bool.false_ne_true]at e2;cases e2;exact yE (f U' H2 O' (R'.grow s2) t1)
theorem AR{iter elt:Expr}{ifs:List Expr}{scope:Scope}{di:DI}{g:DG}{dc:DT}{de:DE}(own:List Str)(caps:List (Str×Nat)){i:Nat}{x:Str}{pos' spos:Pos}(hN:X.N.Nodup)(hix:X.N[i]?=some x)(hx:Vx X.env.scope x)(S:CScope X scope)(hcap:Caps X scope caps)(hc:X.calm=true)(hi:PI X tg iter (zx K di))
  (hg:∀s3 H3 ex',PG (X.comp (cN own caps) scope s3 H3 ex') tg (tG K own.length g)) (ht:∀s3 H3 ex',zE (X.comp (cN own caps) scope s3 H3 ex') ifs (tT K dc)) (he:∀s3 H3 ex',PE (X.comp (cN own caps) scope s3 H3 ex') elt (tE K de)) (hnd:(caps.map (·.2)).Nodup:=by decide)
  (hs:∀x,foldedSetIterable iter X.env x=pure x:=by intro _;rfl)
  (hsw:swapsWith (.ListComp elt [⟨tg,iter,ifs,0⟩] scope pos) (some (.Name x pos')) spos.line X.env=pure true:=by rfl) (hf:X.fn x=true \/ X.env.scope.names.lookup x=some .local:=by first | exact .inl rfl | exact .inr rfl | assumption):
  PS X (.Assign [.Name x pos'] (.ListComp elt [⟨tg,iter,ifs,0⟩] scope pos) spos) (tS K (YI i (yH own.length (caps.map (·.2)) di g dc de))):=
 az (Um (kG own caps hN hix hx S hcap hc hi hg ht he hs hsw hf) (kQ hnd))
theorem AS{iter elt:Expr}{ifs:List Expr}{scope:Scope}{di:DI}{g:DG}{dc:DT}{de:DE}(own:List Str)(caps:List (Str×Nat)){i:Nat}{x:Str}{pos' spos:Pos}(hN:X.N.Nodup)(hix:X.N[i]?=some x)(hx:Vx X.env.scope x)(S:CScope X scope)(hcap:Caps X scope caps)(hc:X.calm=true)(hi:PI X tg iter (zx K di))
  (hg:∀s3 H3 ex',PG (X.comp (cN own caps) scope s3 H3 ex') tg (tG K own.length g)) (ht:∀s3 H3 ex',zE (X.comp (cN own caps) scope s3 H3 ex') ifs (tT K dc)) (he:∀s3 H3 ex',PE (X.comp (cN own caps) scope s3 H3 ex') elt (tE K de)) (hnd:(caps.map (·.2)).Nodup:=by decide)
  (hs:∀x,foldedSetIterable iter X.env x=pure x:=by intro _;rfl)
  (hsw:swapsWith (.ListComp elt [⟨tg,iter,ifs,0⟩] scope pos) (some (.Name x pos')) spos.line X.env=pure true:=by rfl) (hf:X.fn x=true \/ X.env.scope.names.lookup x=some .local:=by first | exact .inl rfl | exact .inr rfl | assumption):
  PS X (.Assign [.Name x pos'] (.ListComp elt [⟨tg,iter,ifs,0⟩] scope pos) spos) (tS K (jA i (dL (yH own.length (caps.map (·.2)) di g dc de)))):=
 ay (Um (Um (kG own caps hN hix hx S hcap hc hi hg ht he hs hsw hf) (kQ hnd)) xG)
end
section
variable {X:Cx} {K:Fr}
@[simp] def y9:D->D->Option D
 | .int i,.int j=>ad (.int i) (.int j)
 | _,_=>none
theorem C3:jR K (rI Uh fun i j=>.int (i * j)) y9:=by
 intro O H a b d x y Q ha hb hn e q;unfold y9 at e;split at e
 ·exact Ey O H _ _ d x y Q ha hb hn e q
 ·cases e
theorem AU:jH X (binaryOp .Mult) (rI Uh fun i j=>.int (i * j)):=Bz
theorem AV:jH X (binaryOp .Add) (fun x y H Q=>zU (fun i j=>.int (i+j)) x y H Q \/ (fun x y H Q=>∃i j,x=.str i/\y=.str j/\i.length+j.length<=sizeLine/\Q (.str (i++j)) H) x y H Q):=Bw.or Wp
end
mutual
noncomputable def Zi:D->D->Option Bool
 | .tup l,.tup m=>(Zj l m).bind fun b=>some (b&&l.length==m.length)
 | .lst l,.lst m=>if l.length=m.length then Zj l m else some false
 | .non,.non=>some true
 | .non,.tup _=>some false
 | .tup _,.non=>some false
 | .int a,.int b=>some (a==b)
 | .bl a,.bl b=>some (a==b)
 | .str a,.str b=>some (a==b)
 | _,_=>none
noncomputable def Zj:List D->List D->Option Bool
 | [],_=>some true
 | _::_,[]=>some true
 | a::l,b::m=>(Zi a b).bind fun x=>(Zj l m).bind fun y=>some (x&&y)
end
mutual
@[simp] noncomputable def Y4:D->Nat
 | .tup l=>Zl l+1
 | .lst l=>Zl l+1
 | _=>0
@[simp] noncomputable def Zl:List D->Nat
 | []=>0
 | d::ds=>max (Y4 d) (Zl ds)
end
theorem D.ind{P:D->Prop}(h:∀d,(∀l,d=.tup l->∀x∈l,P x)->(∀l,d=.lst l->∀x∈l,P x)->P d)(d:D):P d:=
 h d (fun l e x hx=>D.ind h x) (fun l e x hx=>D.ind h x)
termination_by sizeOf d
decreasing_by
 all_goals (subst e;have:=List.sizeOf_lt_of_mem hx;simp;omega)
theorem Uo:∀{l:List D} {d:D},d∈l->Y4 d<=Zl l
 | e::l,d,h=>by
  rw[Zl];rcases List.mem_cons.mp h with rfl | h
  ·exact Nat.le_max_left _ _
  ·exact wSa (Uo h) (Nat.le_max_right _ _)
section
variable {X:Cx} {K:Fr}
open PySem.SeqAt
theorem ZL{A:Around}:A.in1.units=A.units+1:=rfl
variable {pins:List (Addr×Obj)} {U:L2.St} {H:Hp} {s:Shared}
theorem UX(ih:∀d∈l,∀{d':D} {x:V} {r:Bool},j8 K H d x->j8 K H d' x->Zi d d'=some r->r=true):∀{m:List D} {xs:List V} {r:Bool},j4 K H l xs->j4 K H m xs->Zj l m=some r->r=true:=by
 induction l with
 | nil=>intro m xs r _ _ e;rw[Zj]at e;cases e;rfl
 | cons a l il=>
  intro m xs r h1 h2 e;cases m with
  | nil=>rw[Zj]at e;cases e;rfl
  | cons b m=>
   rw[Zj]at e;obtain⟨x,e1,e⟩:=j0 e;obtain⟨y,e2,e⟩:=j0 e;cases e;rw[j4]at h1 h2;obtain⟨v,t,rfl,a1,b1⟩:=h1;obtain⟨v',t',e',a2,b2⟩:=h2;cases e';rw[ih a List.mem_cons_self a1 a2 e1,il (fun d hd=>ih d (List.mem_cons_of_mem _ hd)) b1 b2 e2];rfl
theorem GC(I:Inv X pins U H s)(d:D):∀{d':D} {x:V} {r:Bool},j8 X.K H d x->j8 X.K H d' x->Zi d d'=some r->r=true:=by
 induction d using D.ind with
 | h d i1 i2=>
  intro d' x r h1 h2 e;unfold Zi at e;split at e
  ·obtain⟨b,e1,e2⟩:=j0 e;cases e2;rw[j8]at h1 h2;obtain⟨a,xs,rfl,qa,ra⟩:=h1;obtain⟨b',ys,e',qb,rb⟩:=h2;cases e';have exy:=I.tuple_inj qa qb;subst exy;rw[UX (fun d hd=>i1 _ rfl d hd) ra rb e1,<-ra.len,<-rb.len,beq_self_eq_true];rfl
  ·rw[j8]at h1 h2;obtain⟨a,xs,rfl,qa,ra⟩:=h1;obtain⟨b',ys,e',qb,rb⟩:=h2;cases e';rw[qa]at qb;cases qb;rw[if_pos (by rw[<-ra.len,<-rb.len])]at e;exact UX (fun d hd=>i2 _ rfl d hd) ra rb e
  ·cases e;rfl
  ·rw[j8]at h1;rw[j8]at h2;obtain⟨b',ys,e',qb,rb⟩:=h2;rw[h1]at e';cases e'
  ·rw[j8]at h1;rw[j8]at h2;obtain⟨b',ys,e',qb,rb⟩:=h1;rw[h2]at e';cases e'
  ·cases e;rw[j8]at h1 h2;rw[h1]at h2;cases h2;simp
  ·cases e;rw[j8]at h1 h2;rw[h1]at h2;cases h2;simp
  ·cases e;rw[j8]at h1 h2;rw[h1]at h2;cases h2;simp
  ·cases e
theorem k9{l:List D}(ih:∀d∈l,∀{d':D} {x y:V} {u v:Value} {A:Around} {r:Bool},Zi d d'=some r->j8 K H d x->j8 K H d' y->jq x u->jq y v->A.units+Y4 d < cLine->EqAt A s u v r):∀{m:List D} {xs ys:List V} {us vs:List Value} {A:Around} {r:Bool},Zj l m=some r->j4 K H l xs->j4 K H m ys->jg xs us->jg ys vs->A.units+Zl l < cLine->
  ∃e:Nat->Bool,(∀(j:Nat) (h1:j < us.length) (h2:j < vs.length),EqAt A s us[j] vs[j] (e j))/\(List.range (min l.length m.length)).all e=r:=by
 induction l with
 | nil=>
  intro m xs ys us vs A r e h1 h2 v1 v2 hu;rw[Zj]at e;cases e;rw[j4]at h1;subst h1;cases v1;exact⟨fun _=>true,fun j h1 _=>vDa h1 (by simp),by simp⟩
 | cons a l il=>
  intro m xs ys us vs A r e h1 h2 v1 v2 hu;cases m with
  | nil=>
   rw[Zj]at e;cases e;rw[j4]at h2;subst h2;cases v2;exact⟨fun _=>true,fun j _ h2=>vDa h2 (by simp),by simp⟩
  | cons b m=>
   rw[Zj]at e;obtain⟨x,e1,e⟩:=j0 e;obtain⟨y,e2,e⟩:=j0 e;cases e;rw[j4]at h1 h2;obtain⟨v,t,rfl,a1,b1⟩:=h1;obtain⟨v',t',rfl,a2,b2⟩:=h2;rw[Zl]at hu;cases v1 with
   | cons r1 rr1=>
    cases v2 with
    | cons r2 rr2=>
     obtain⟨e',q1,q2⟩:=il (fun d hd=>ih d (wMa _ hd)) e2 b1 b2 rr1 rr2 (A:=A) (by omega);refine⟨fun j=>match j with | 0=>x | j+1=>e' j,fun j h1 h2=>?_,?_⟩
     ·cases j with
      | zero=>exact ih a wNa e1 a1 a2 r1 r2 (by omega)
      | succ j=>exact q1 j (by simpa using h1) (by simpa using h2)
     ·rw[List.length_cons,List.length_cons,Nat.succ_min_succ,List.range_succ_eq_map,List.all_cons,List.all_map];rw[<-q2];rfl
theorem C4(I:Inv X pins U H s)(d:D):∀{d':D} {x y:V} {u v:Value} {A:Around} {r:Bool},Zi d d'=some r->j8 X.K H d x->j8 X.K H d' y->jq x u->jq y v->A.units+Y4 d < cLine->EqAt A s u v r:=by
 induction d using D.ind with
 | h d i1 i2=>
  intro d' x y u v A r e hx hy rx ry hu;have e0:=e;unfold Zi at e;split at e
  ·obtain⟨b,e1,e2⟩:=j0 e;cases e2;have hx0:=hx;have hy0:=hy;rw[j8]at hx hy;obtain⟨a,xs,rfl,qa,ra⟩:=hx;obtain⟨b',ys,rfl,qb,rb⟩:=hy;cases rx;cases ry;rw[Y4]at hu;by_cases hab:a=b'
   ·subst hab;have:=GC I _ hx0 hy0 e0;rw[this];exact EqAt.same _
   ·obtain⟨ia,va,pa,_⟩:=I.tuple qa;obtain⟨ib,vb,pb,_⟩:=I.tuple qb;have la:=(List.size_toArray (as:=ia)).trans (va.length.symm.trans ra.len);have lb:=(List.size_toArray (as:=ib)).trans (vb.length.symm.trans rb.len);obtain⟨e',h1,h2⟩:=k9 (fun d hd=>i1 _ rfl d hd) e1 ra rb va vb (A:=A.in1) (by rw[ZL];omega);have key:=RcAt.tuples (A:=A) (s:=s) (l:=a) (b:=b') (items:=ia.toArray) (items2:=ib.toArray) (e:=e') pa pb (by omega) (fun j h1' h2'=>by simpa using h1 j (by simpa using h1') (by simpa using h2'));rw[la,lb,h2]at key;exact EqAt.of_refs hab key
  ·have hx0:=hx;have hy0:=hy;rw[j8]at hx hy;obtain⟨a,xs,rfl,qa,ra⟩:=hx;obtain⟨b',ys,rfl,qb,rb⟩:=hy;cases rx;cases ry;rw[Y4]at hu;by_cases hab:a=b'
   ·subst hab;have:=GC I _ hx0 hy0 e0;rw[this];exact EqAt.same _
   ·obtain⟨ia,va,pa,_⟩:=I.list (js.of qa);obtain⟨ib,vb,pb,_⟩:=I.list (js.of qb);have la:=(List.size_toArray (as:=ia)).trans (va.length.symm.trans ra.len);have lb:=(List.size_toArray (as:=ib)).trans (vb.length.symm.trans rb.len);split at e
    ·rename_i ell;obtain⟨e',h1,h2⟩:=k9 (fun d hd=>i2 _ rfl d hd) e ra rb va vb (A:=A.in1) (by rw[ZL];omega);have key:=RcAt.lists (A:=A) (s:=s) (l:=a) (b:=b') (items:=ia.toArray) (items2:=ib.toArray) (e:=e') pa.isList pb.isList (by rw[la,lb,ell]) (by omega) (fun j h1' h2'=>by simpa using h1 j (by simpa using h1') (by simpa using h2'));rw[la]at key;rw[<-ell,Nat.min_self]at h2;rw[h2]at key;exact EqAt.of_refs hab key
    ·rename_i ell;cases e;exact EqAt.of_refs hab (RcAt.lists_lengths pa.isList pb.isList (by rw[la,lb];simpa using ell) (by omega))
  ·cases e;rw[j8]at hx hy;subst hx hy;cases rx;cases ry;exact EqAt.same _
  ·cases e;rw[j8]at hx;rw[j8]at hy;subst hx;cases rx;obtain⟨b',ys,rfl,qb,rb⟩:=hy;cases ry;obtain⟨ib,vb,pb,_⟩:=I.tuple qb;exact EqAt.none_tuple pb (by omega)
  ·cases e;rw[j8]at hx;rw[j8]at hy;subst hy;cases ry;obtain⟨b',ys,rfl,qb,rb⟩:=hx;cases rx;obtain⟨ib,vb,pb,_⟩:=I.tuple qb;exact EqAt.tuple_none pb (by omega)
  ·cases e;rw[j8]at hx hy;subst hx hy;obtain⟨t,rfl⟩:=rx;obtain⟨t',rfl⟩:=ry;exact EqAt.int_int _ _ _ _
  ·cases e;rw[j8]at hx hy;subst hx hy;cases rx;cases ry;exact EqAt.bool_bool _ _
  ·cases e;rw[j8]at hx hy;subst hx hy;obtain⟨t,rfl⟩:=rx;obtain⟨t',rfl⟩:=ry;exact EqAt.str_str _ _ _ _
  ·cases e
@[simp] noncomputable def Zm:D->D->Bool
 | .lst _,.lst _=>true
 | .tup _,.tup _=>true
 | _,_=>false
def Up(K:Fr)(neg:Bool):R2:=fun x y H Q=>∃d d' r,j8 K H d x/\j8 K H d' y/\Zm d d'=true/\Zi d d'=some r/\Y4 d<=20/\Q (.bl (if neg then !r else r)) H
theorem C5(I:Inv X pins U H s){d d':D}{x y:V}{u v:Value}{A:Around}{r:Bool}(e:Zi d d'=some r)(q:Zm d d'=true)(hx:j8 X.K H d x)(hy:j8 X.K H d' y)(rx:jq x u)(ry:jq y v)(hu:A.units+Y4 d < cLine):RcAt A s u v r/\RcNeAt A s u v (!r):=by
 unfold Zm at q;split at q
 ·rw[j8]at hx hy;obtain⟨a,xs,rfl,qa,ra⟩:=hx;obtain⟨b',ys,rfl,qb,rb⟩:=hy;cases rx;cases ry;rw[Y4]at hu;rw[Zi]at e;obtain⟨ia,va,pa,_⟩:=I.list (js.of qa);obtain⟨ib,vb,pb,_⟩:=I.list (js.of qb);have la:=(List.size_toArray (as:=ia)).trans (va.length.symm.trans ra.len);have lb:=(List.size_toArray (as:=ib)).trans (vb.length.symm.trans rb.len);split at e
  ·rename_i ell;obtain⟨e',h1,h2⟩:=k9 (fun d _=>C4 I d) e ra rb va vb (A:=A.in1) (by rw[ZL];omega);have key:=RcAt.lists (A:=A) (s:=s) (l:=a) (b:=b') (items:=ia.toArray) (items2:=ib.toArray) (e:=e') pa.isList pb.isList (by rw[la,lb,ell]) (by omega) (fun j h1' h2'=>by simpa using h1 j (by simpa using h1') (by simpa using h2'));have key2:=RcNeAt.lists (A:=A) (s:=s) (l:=a) (b:=b') (items:=ia.toArray) (items2:=ib.toArray) (e:=e') pa.isList pb.isList (by rw[la,lb,ell]) (by omega) (fun j h1' h2'=>by simpa using h1 j (by simpa using h1') (by simpa using h2'));rw[la]at key key2;rw[<-ell,Nat.min_self]at h2;rw[h2]at key key2;exact⟨key,key2⟩
  ·rename_i ell;cases e;exact⟨RcAt.lists_lengths pa.isList pb.isList (by rw[la,lb];simpa using ell) (by omega),RcNeAt.lists_lengths pa.isList pb.isList (by rw[la,lb];simpa using ell) (by omega)⟩
 ·rw[j8]at hx hy;obtain⟨a,xs,rfl,qa,ra⟩:=hx;obtain⟨b',ys,rfl,qb,rb⟩:=hy;cases rx;cases ry;rw[Y4]at hu;rw[Zi]at e;obtain⟨b,e1,e2⟩:=j0 e;cases e2;obtain⟨ia,va,pa,_⟩:=I.tuple qa;obtain⟨ib,vb,pb,_⟩:=I.tuple qb;have la:=(List.size_toArray (as:=ia)).trans (va.length.symm.trans ra.len);have lb:=(List.size_toArray (as:=ib)).trans (vb.length.symm.trans rb.len);obtain⟨e',h1,h2⟩:=k9 (fun d _=>C4 I d) e1 ra rb va vb (A:=A.in1) (by rw[ZL];omega);have key:=RcAt.tuples (A:=A) (s:=s) (l:=a) (b:=b') (items:=ia.toArray) (items2:=ib.toArray) (e:=e') pa pb (by omega) (fun j h1' h2'=>by simpa using h1 j (by simpa using h1') (by simpa using h2'));have key2:=RcNeAt.tuples (A:=A) (s:=s) (l:=a) (b:=b') (items:=ia.toArray) (items2:=ib.toArray) (e:=e') pa pb (by omega) (fun j h1' h2'=>by simpa using h1 j (by simpa using h1') (by simpa using h2'));rw[la,lb,h2]at key key2;exact⟨key,key2⟩
 ·cases q
theorem C6{k:Nat}(hr:Room k X.A):jH X (compareOp .Eq) (Up X.K false):=by
 intro pins s U H x y v u Q I rx ry h;obtain⟨d,d',r,hx,hy,q,e,hd,qq⟩:=h;have hu:=hr.units;exact(C5 (A:=X.A) I e q hx hy rx ry (by omega)).1 X.prog X.w X.xe _ ⟨.bl r,H,I,rfl,qq⟩
theorem C7{k:Nat}(hr:Room k X.A):jH X (compareOp .NotEq) (Up X.K true):=by
 intro pins s U H x y v u Q I rx ry h;obtain⟨d,d',r,hx,hy,q,e,hd,qq⟩:=h;have hu:=hr.units;exact(C5 (A:=X.A) I e q hx hy rx ry (by omega)).2 X.prog X.w X.xe _ ⟨.bl (!r),H,I,rfl,qq⟩
@[simp] def gK(neg:Bool):D->D->Option D:=fun a b=>if Zm a b=true/\Y4 a<=20 then(Zi a b).bind fun r=>some (.bl (if neg then !r else r))else none
theorem aB{neg:Bool}:jR K (Up K neg) (gK neg):=by
 intro O H a b d x y Q ha hb hn e q;unfold gK at e;split at e
 ·rename_i hh;obtain⟨r,e1,e2⟩:=j0 e;cases e2;exact⟨a,b,r,ha.full,hb.full,hh.1,e1,hh.2,q _ H (j3.refl H) (by rw[j8])⟩
 ·cases e
@[simp] def JU(a b:D):Option D:=if Zm a b=true then gK false a b else kN a b
@[simp] def zy(a b:D):Option D:=if Zm a b=true then gK true a b else xz a b
theorem H_:jR K (fun x y H Q=>XJ x y H Q \/ Up K false x y H Q) JU:=by
 intro O H a b d x y Q ha hb hn e q;unfold JU at e;split at e
 ·exact .inr (aB O H a b d x y Q ha hb hn e q)
 ·exact .inl (ED O H a b d x y Q ha hb hn e q)
theorem i6:jR K (fun x y H Q=>XM x y H Q \/ Up K true x y H Q) zy:=by
 intro O H a b d x y Q ha hb hn e q;unfold zy at e;split at e
 ·exact .inr (aB O H a b d x y Q ha hb hn e q)
 ·exact .inl (EE O H a b d x y Q ha hb hn e q)
theorem C8{k:Nat}(hr:Room k X.A):jH X (compareOp .Eq) (fun x y H Q=>XJ x y H Q \/ Up X.K false x y H Q):=Ef.or (C6 hr)
theorem C9{k:Nat}(hr:Room k X.A):jH X (compareOp .NotEq) (fun x y H Q=>XM x y H Q \/ Up X.K true x y H Q):=Eg.or (C7 hr)
@[simp] noncomputable def aD:D->Option V
 | .non=>some .non
 | .bl b=>some (.bl b)
 | .int i=>some (.int i)
 | .str s=>some (.str s)
 | _=>none
@[simp] def Uq:List D->Option (List V)
 | []=>some []
 | d::ds=>(aD d).bind fun v=>(Uq ds).bind fun vs=>some (v::vs)
theorem Q1{H:Hp}{d:D}{v w:V}(e:aD d=some v)(h:j8 K H d w):w=v/\zg v=true:=by
 unfold aD at e;split at e <;> first | (cases e;rw[j8]at h;exact⟨h,rfl⟩) | cases e
theorem gM{H:Hp}:∀{l:List D} {vs xs:List V},Uq l=some vs->j4 K H l xs->xs=vs/\vs.all zg=true
 | [],vs,xs,e,h=>by cases e;rw[j4]at h;exact⟨h,rfl⟩
 | d::l,vs,xs,e,h=>by
  rw[Uq]at e;obtain⟨v,e1,e⟩:=j0 e;obtain⟨r,e2,e⟩:=j0 e;cases e;rw[j4]at h;obtain⟨w,t,rfl,a,b⟩:=h;obtain⟨h1,h2⟩:=Q1 e1 a;obtain⟨h3,h4⟩:=gM e2 b;exact⟨by rw[h1,h3],by rw[List.all_cons,h2,h4];rfl⟩
@[simp] def GD(neg:Bool):D->D->Option D:=fun a b=>(aD a).bind fun v=>(YF b).bind fun l=>(Uq l).bind fun vs=>some (.bl (if neg then !yD v vs else yD v vs))
theorem Cd{neg:Bool}:jR K (BR K neg) (GD neg):=by
 intro O H a b d x y Q ha hb hn e q;unfold GD at e;obtain⟨v,e1,e⟩:=j0 e;obtain⟨l,e2,e⟩:=j0 e;obtain⟨vs,e3,e⟩:=j0 e;cases e;obtain⟨h1,h2⟩:=Q1 e1 ha.full;subst h1;unfold YF at e2;split at e2
 ·cases e2;obtain⟨p,xs,rfl,g1,g2⟩:=hb.lst;obtain⟨h3,h4⟩:=gM e3 g2;subst h3;exact⟨p,xs,rfl,.inl (js.of g1),h2,h4,q _ H (j3.refl H) (by rw[j8])⟩
 ·cases e2;obtain⟨p,xs,rfl,g1,g2⟩:=hb.tup;obtain⟨h3,h4⟩:=gM e3 g2;subst h3;exact⟨p,xs,rfl,.inr g1,h2,h4,q _ H (j3.refl H) (by rw[j8])⟩
 ·cases e2
@[simp] noncomputable def aE:D->Option Kd
 | .int _=>some .i
 | .bl _=>some .b
 | .str _=>some .s
 | .lst _=>some .l
 | .tup _=>some .t
 | _=>none
theorem aF{O:List Addr}{d:D}{v:V}{k:Kd}(e:aE d=some k)(h:RB K O H d v):xu K H v k:=by
 unfold aE at e;split at e
 ·cases e;rw[h.int];trivial
 ·cases e;rw[h.bl];trivial
 ·cases e;rw[h.str];trivial
 ·cases e;obtain⟨p,xs,rfl,g1,g2⟩:=h.lst;exact⟨xs,js.of g1⟩
 ·cases e;obtain⟨p,xs,rfl,g1,g2⟩:=h.tup;exact⟨xs,g1⟩
 ·cases e
variable {e:Expr} {de:DE} {pos p p1 p2 tp:Pos}
@[simp] def zF(T:String):D->Option D:=fun d=>(aE d).bind fun k=>(UJ k T).bind fun b=>some (.bl b)
theorem fj{T:String}{e2:Expr}(h:PE X (.Call (.Name "isinstance" p) [e,e2] [] pos) (wA (BX X.K) (Jk (tR K de) (Jk (tC (.ty T)) Y0))))(hK:X.K=K:=by rfl):PE X (.Call (.Name "isinstance" p) [e,e2] [] pos) (tE K (d1 (zF T) de)):=jt h fun U H Q xx=>by
 obtain⟨H0,O0,Z,O,d,R,ed,q⟩:=xx;subst hK;obtain⟨x,e1,e2⟩:=j0 ed;obtain⟨k,e3,e2⟩:=j0 e2;obtain⟨b,e4,e2⟩:=j0 e2;cases e2;exact⟨H0,O0,Z,O,x,R,e1,fun v H' s r=>⟨v,T,k,b,rfl,aF e3 r,e4,q _ H' s (by rw[j8])⟩⟩
@[simp] def WK:D->Option D:=fun d=>(aE d).bind fun k=>some (.bl (vW k))
theorem Ce{ex:Expr}(h:PE X ex (XX X.K (tR K de)))(hK:X.K=K:=by rfl):PE X ex (tE K (d1 WK de)):=jt h fun U H Q xx=>by
 obtain⟨H0,O0,Z,O,d,R,ed,q⟩:=xx;subst hK;obtain⟨x,e1,e2⟩:=j0 ed;obtain⟨k,e3,e2⟩:=j0 e2;cases e2;exact⟨H0,O0,Z,O,x,R,e1,fun v H' s r=>⟨k,aF e3 r,fun p hp=>q _ _ (s.trans (jD hp _)) (by rw[j8])⟩⟩
end
@[simp] noncomputable def ZM(f:Str)(d:D):List Str->List D->List Str×List D
 | g::ns,x::xs=>if g=f then(g::ns,d::xs)else((g::(ZM f d ns xs).1),x::(ZM f d ns xs).2)
 | _,_=>([f],[d])
section
variable {X:Cx} {K:Fr}
theorem kR{H:Hp}{f:Str}{d:D}{v:V}(r:j8 K H d v):∀{ns:List Str} {ds:List D} {vs:List V},ns.length=vs.length->j4 K H ds vs->∃vs',yq f v (ns.zip vs)=(ZM f d ns ds).1.zip vs'/\(ZM f d ns ds).1.length=vs'.length/\j4 K H (ZM f d ns ds).2 vs'
 | [],ds,vs,h,rp=>by
  have e:vs=[]:=List.length_eq_zero_iff.mp h.symm;subst e;have e:ds=[]:=by have:=rp.len;exact List.length_eq_zero_iff.mp this.symm
  subst e;exact⟨[v],rfl,rfl,j4.cons r j4.nil⟩
 | g::ns,[],vs,h,rp=>by rw[j4]at rp;subst rp;cases h
 | g::ns,x::ds,vs,h,rp=>by
  rw[j4]at rp;obtain⟨w,t,rfl,a,b⟩:=rp;rw[ZM];by_cases e:g=f
  ·rw[if_pos e];refine⟨v::t,?_,by simpa using h,j4.cons r b⟩;show(if g=f then(g,v)::ns.zip t else _)=_;rw[if_pos e];rfl
  ·rw[if_neg e];obtain⟨vs',q1,q2,q3⟩:=kR (f:=f) r (ns:=ns) (ds:=ds) (vs:=t) (by simpa using h) b;refine⟨w::vs',?_,by simpa using q2,j4.cons a q3⟩;show(if g=f then _ else(g,w)::yq f v (ns.zip t))=_;rw[if_neg e,q1];rfl
variable {e o:Expr} {de:DE} {pos pos':Pos} {st:Stmt}
@[simp] def yO(i:Nat)(C:Addr)(f:Str)(de:DE)(Z:j6):Option Rs:=match Z[i]? with
 | some (.ow q (.ins C' ns ds))=>if C'=C/\ns.length < 1000 then(de Z).bind fun d=>some (.nx (Z.set i (.ow q (.ins C' (ZM f d ns ds).1 (ZM f d ns ds).2))))else none
 | _=>none
theorem Cf{i:Nat}{C:Addr}{f:Str}(h:PS X st (BG X.K (J_ i) (tE K de) f))(c:Cls K C)(n:yC K C f)(hK:X.K=K:=by rfl):PS X st (tS K (yO i C f de)):=jT h fun D U H xx=>by
 obtain⟨H0,O0,Z,O,r,R,ed,fi⟩:=xx;subst hK;unfold yO at ed;split at ed
 ·rename_i q C' ns ds hi;split at ed
  ·rename_i hh;obtain⟨rfl,hlen⟩:=hh;obtain⟨d,e1,e2⟩:=j0 ed;cases e2;obtain⟨l,hq,hs,⟨dx,vs,hl,hn,rp⟩,lo,h0⟩:=R.ow i _ _ hi;refine⟨H0,O0,Z,O,d,R,e1,fun v H1 s1 rv=>⟨_,hs,l,_,dx,_,rfl,s1 _ _ hl,c,n,?_,?_⟩⟩
   ·rw[List.length_zip,<-hn,Nat.min_self];exact hlen
   have R':=R.grow s1;obtain⟨vs',p1,p2,p3⟩:=kR (f:=f) rv hn (rp.same (jc s1));refine fi _ _ O (R'.change hi hq hs lo h0 ⟨dx,vs',by rw[ju,p1],p2,p3⟩) ?_;rw[Jd lo];exact jc s1
  ·cases ed
 ·cases ed
@[simp] noncomputable def YJ(ks:List Bool)(ds:List D)(n:Nat):j6:=List.zipWith (fun k d=>if k=true then Sl.cl d else Sl.bo d) ks ds++List.replicate n .un
theorem JQ.get{O:List Addr}{H:Hp}:∀{ks:List Bool} {ds:List D} {vs:List V} {i:Nat} {d:D},JQ K O H ks ds vs->ds[i]?=some d->∃k v,ks[i]?=some k/\vs[i]?=some v/\AK K O H k d v
 | [],[],[],_,_,_,e=>by simp at e
 | k::_,d::_,v::_,0,_,h,e=>by simp at e;subst e;exact⟨k,v,rfl,rfl,h.1⟩
 | k::_,d::_,v::_,i+1,d',h,e=>by
  obtain⟨k',v',h1,h2,h3⟩:=JQ.get (i:=i) h.2 (by simpa using e);exact⟨k',v',by simpa using h1,by simpa using h2,h3⟩
 | [],[],_::_,_,_,h,_=>h.elim
 | [],_::_,_,_,_,h,_=>h.elim
 | _::_,[],_,_,_,h,_=>h.elim
 | _::_,_::_,[],_,_,h,_=>h.elim
theorem ya{O:List Addr}{H:Hp}{ks:List Bool}{ds:List D}{vs:List V}{n i:Nat}{s:Sl}(h:JQ K O H ks ds vs)(hs:s≠.un)(e:(YJ ks ds n)[i]?=some s):∃k d v,vs[i]?=some v/\AK K O H k d v/\s=(if k=true then Sl.cl d else Sl.bo d):=by
 unfold YJ at e;have hl:=h.len;by_cases hi:i < ds.length
 ·rw[List.getElem?_append_left (by rw[List.length_zipWith];omega),List.getElem?_zipWith]at e;have hd:ds[i]?=some ds[i]:=by simp[hi]
  obtain⟨k,v,h1,h2,h3⟩:=h.get hd;rw[h1,hd]at e;cases e;exact⟨k,_,v,h2,h3,rfl⟩
 ·rw[List.getElem?_append_right (by rw[List.length_zipWith];omega),List.getElem?_replicate]at e;split at e
  ·cases e;exact vDa rfl hs
  ·cases e
theorem kS{O:List Addr}{H:Hp}{ks:List Bool}{ds:List D}{vs:List V}{n:Nat}(h:JQ K O H ks ds vs)(al:∀a∈O,H a≠none):Rel K H O (YJ ks ds n) (vs.map some++List.replicate n none) H O:=by
 have hl:=h.len;have at':∀{i:Nat} {v:V},vs[i]?=some v->(vs.map some++List.replicate n none)[i]?=some (some v):=fun {i v} e=>by
  have:=(List.getElem?_eq_some_iff.mp e).1;rw[List.getElem?_append_left (by rw[List.length_map];exact this),List.getElem?_map,e];rfl
 refine⟨?_,fun a h=>h,fun a h=>.inl h,al,al,j3.refl _,?_,?_,?_,?_,?_⟩
 ·unfold YJ;rw[List.length_append,List.length_append,List.length_map,List.length_replicate,List.length_replicate,List.length_zipWith];omega
 ·intro i d e;obtain⟨k,d',v,h1,h2,h3⟩:=ya h (by intro z;cases z) e;cases k with
  | true=>cases h3;exact⟨v,at' h1,h2⟩
  | false=>cases h3
 ·intro i d e;obtain⟨k,d',v,h1,h2,h3⟩:=ya h (by intro z;cases z) e;cases k with
  | true=>cases h3
  | false=>cases h3;exact⟨v,at' h1,h2⟩
 ·intro i q o e;obtain⟨k,d',v,h1,h2,h3⟩:=ya h (by intro z;cases z) e;cases k <;> cases h3
 ·intro i j q q' o o' l e;obtain⟨k,d',v,h1,h2,h3⟩:=ya h (by intro z;cases z) e;cases k <;> cases h3
 ·intro i q0 ls e;obtain⟨k,d',v,h1,h2,h3⟩:=ya h (by intro z;cases z) e;cases k <;> cases h3
@[simp] def yA(ks:List Bool)(n:Nat)(body:DS):List D->Option D:=fun ds=>(body (YJ ks ds n)).bind fun r=>match r with
 | .rt d=>some d
 | .rf o=>some o.toD
 | .nx _=>some .non
 | _=>none
@[simp] def uO(ks:List Bool)(n:Nat)(body:DS):List D->Option OD:=fun ds=>(body (YJ ks ds n)).bind fun r=>match r with
 | .rf o=>some o
 | _=>none
@[simp] def Q2(C:Addr)(ks:List Bool)(n:Nat)(body:DS):Addr->List D->Option OD:=fun p ds=>(body (.ow (some p) (.ins C [] [])::YJ ks ds n)).bind fun r=>match r with
 | .nx Z=>(match (Z[0]?:Option Sl)with
  | some (Sl.ow q o)=>if q=some p then some o else none
  | _=>none)
 | _=>none
variable {P:Program} {w:World} {mg:Str->Option Value} {base:Heap} {x qual:Str} {f:Addr} {fd:FuncData} {N ps:List Str} {k n:Nat} {ks:List Bool} {body:DS}
theorem Cg(F:Fun K x qual st f fd)(S:FnScope N ps (defScope st))(hk:ks.length=ps.length)(hn:N.length - ps.length=n)
  (hb:∀(cdv:Value) (A:Around) (outer:List Env) (s:Shared) (H:Hp) (E:XK),Room k (A.deeper (envOfC qual (defScope st) s.heap.objs.size f cdv))->jr (jP JH P w K mg base N qual (defScope st) f cdv A outer s H E).nox (defBody st) (tS K body)):
  FnOk P w K mg base JH (k+1) f fd ps (uM K ks (yA ks n body)):=by
 refine F.ok S (fun vs H Q E h=>?_) fun cdv A outer s H vs Q E hr h=>?_
 ·obtain⟨O,ds,d,_,ak,_⟩:=h;have:=ak.len;omega
 ·obtain⟨O,ds,d,al,ak,e,q⟩:=h;refine⟨_,hb cdv A outer s H E hr,?_⟩;obtain⟨r,e1,e2⟩:=j0 e;have hl:N.length - vs.length=n:=by have:=ak.len;omega
  unfold L2.start;rw[hl];refine⟨H,O,_,O,r,kS ak al,e1,?_⟩;cases r with
  | rt d'=>cases e2;exact fun v H' s r=>q v H' s r
  | rf o=>
   cases e2;exact fun l H' s hl ow=>q _ H' s ((ow.same (fun _ z=>z) (jY fun a h=>wMa _ h)).rep fun u z=>by rw[jF (fun y=>al l y hl)];exact z)
  | nx Z=>cases e2;exact fun U' H' O' R' _=>q _ H' R'.keep (by rw[j8])
  | bk Z=>cases e2
  | ct Z=>cases e2
theorem i7(F:Fun K x qual st f fd)(S:FnScope N ps (defScope st))(hk:ks.length=ps.length)(hn:N.length - ps.length=n)
  (hb:∀(cdv:Value) (A:Around) (outer:List Env) (s:Shared) (H:Hp) (E:XK),Room k (A.deeper (envOfC qual (defScope st) s.heap.objs.size f cdv))->jr (jP JH P w K mg base N qual (defScope st) f cdv A outer s H E).nox (defBody st) (tS K body)):
  FnOk P w K mg base JH (k+1) f fd ps (wI K ks (uO ks n body)):=by
 refine F.ok S (fun vs H Q E h=>?_) fun cdv A outer s H vs Q E hr h=>?_
 ·obtain⟨O,ds,d,_,ak,_⟩:=h;have:=ak.len;omega
 ·obtain⟨O,ds,d,al,ak,e,q⟩:=h;refine⟨_,hb cdv A outer s H E hr,?_⟩;obtain⟨r,e1,e2⟩:=j0 e;have hl:N.length - vs.length=n:=by have:=ak.len;omega
  unfold L2.start;rw[hl];refine⟨H,O,_,O,r,kS ak al,e1,?_⟩;cases r with
  | rt d'=>cases e2
  | rf o=>cases e2;exact q
  | nx Z=>cases e2
  | bk Z=>cases e2
  | ct Z=>cases e2
theorem i8{C:Addr}(F:Fun K x qual st f fd)(S:FnScope N ps (defScope st))(hk:ks.length+1=ps.length)(hn:N.length - ps.length=n)
  (hb:∀(cdv:Value) (A:Around) (outer:List Env) (s:Shared) (H:Hp) (E:XK),Room k (A.deeper (envOfC qual (defScope st) s.heap.objs.size f cdv))->jr (jP JH P w K mg base N qual (defScope st) f cdv A outer s H E).nox (defBody st) (tS K body)):
  FnOk P w K mg base JH (k+1) f fd ps (ax K C ks (Q2 C ks n body)):=by
 refine F.ok S (fun vs H Q E h=>?_) fun cdv A outer s H vs Q E hr h=>?_
 ·obtain⟨O,ds,p,dx,vs',o,rfl,_,_,_,ak,_⟩:=h;have:=ak.len;rw[List.length_cons];omega
 ·obtain⟨O,ds,p,dx,vs',o,rfl,al,hp,hpO,ak,e,q⟩:=h;refine⟨_,hb cdv A outer s H E hr,?_⟩;obtain⟨r,e1,e2⟩:=j0 e;have hl:N.length - (V.ref p::vs').length=n:=by have:=ak.len;rw[List.length_cons];omega
  unfold L2.start;rw[hl];have al':∀a∈O,j7 H [p] a≠none:=fun a ha=>by
   rw[jF (by intro z;simp at z;exact hpO (z▸ha))];exact al a ha
  have R0:=kS (n:=n) ak al';have np:j7 H [p] p=none:=Z8 wNa;have sH:j3 (j7 H [p]) H:=YW;have sd:j3 (j7 (j7 H [p]) O) (j7 H (p::O)):=fun b u z=>by
   obtain⟨z1,z2⟩:=j_ z;obtain⟨z3,z4⟩:=j_ z2;rw[jF (by intro y;rcases List.mem_cons.mp y with y | y;exact z3 (by rw[y];exact List.mem_cons_self);exact z1 y)];exact z4
  have R:Rel K (j7 H [p]) O (.ow (some p) (.ins C [] [])::YJ ks ds n) (List.map some (V.ref p::vs')++List.replicate n none) H (p::O):=by
   refine⟨?_,fun a h=>wMa _ h,?_,al',?_,sH,?_,?_,?_,?_,?_⟩
   ·have:=R0.len;rw[List.length_cons,List.map_cons,List.cons_append,List.length_cons,this]
   ·intro a ha;rcases List.mem_cons.mp ha with rfl | ha
    ·exact .inr np
    ·exact .inl ha
   ·intro a ha;rcases List.mem_cons.mp ha with rfl | ha
    ·rw[hp];exact fun z=>nomatch z
    ·exact al a ha
   ·intro i d e;cases i with
    | zero=>cases e
    | succ i=>
     obtain⟨v,h1,h2⟩:=R0.cl i d e;exact⟨v,h1,h2.same sd⟩
   ·intro i d e;cases i with
    | zero=>cases e
    | succ i=>exact R0.bo i d e
   ·intro i q' o' e;cases i with
    | zero=>
     cases e;exact⟨p,(fun p' z=>vFa z),rfl,⟨dx,[],hp,rfl,j4.nil⟩,wNa,np⟩
    | succ i=>
     obtain⟨k',d',v,_,_,h3⟩:=ya ak (by intro z;cases z) e;cases k' <;> cases h3
   ·intro i j q1 q2 o1 o2 l e e';have z:∀(i:Nat) (q':Option Addr) (o':OD),(Sl.ow (some p) (.ins C [] [])::YJ ks ds n)[i]?=some (.ow q' o')->i=0:=fun i q' o' e=>by
     cases i with
     | zero=>rfl
     | succ i=>
      obtain⟨k',d',v,_,_,h3⟩:=ya ak (by intro z;cases z) e;cases k' <;> cases h3
    intro _ _;rw[z i _ _ e,z j _ _ e']
   ·intro i q0 ls e;cases i with
    | zero=>cases e
    | succ i=>
     obtain⟨k',d',v,_,_,h3⟩:=ya ak (by intro z;cases z) e;cases k' <;> cases h3
  refine⟨j7 H [p],O,_,p::O,r,R,e1,?_⟩;cases r with
  | nx Z=>
   intro U' H' O' R' _;have e2:(match (Z[0]?:Option Sl)with
    | some (Sl.ow q o)=>if q=some p then some o else none
    | _=>none)=some o:=e2
   split at e2
   ·rename_i qq o' h0;split at e2
    ·rename_i hq;cases e2;subst hq;obtain⟨l,hl2,_,ow,lo,_⟩:=R'.ow 0 _ _ h0;have el:=hl2 p rfl;subst el;refine q H' R'.keep (ow.same (fun _ z=>z) (jY fun a ha=>?_));rcases List.mem_cons.mp ha with rfl | ha
     ·exact lo
     ·exact R'.sub a ha
    ·cases e2
   ·cases e2
  | rt d'=>cases e2
  | rf o=>cases e2
  | bk Z=>cases e2
  | ct Z=>cases e2
end
section
variable {K:Fr} {H0 H H':Hp} {O0 O:List Addr} {Z:j6} {U:L2.St}
theorem Zn{F:List Addr}(s:j3 H H')(hn:∀a∈F,H a=none):j3 (j7 H O) (j7 H' (F++O)):=fun b o h=>by
 obtain⟨h1,h2⟩:=j_ h;rw[jF fun z=>?_]
 ·exact s _ _ h2
 ·rcases List.mem_append.mp z with z | z
  ·rw[hn b z]at h2;cases h2
  ·exact h1 z
theorem yt.there(R:Rel K H0 O0 Z U H O){a:Addr}:yt Z U a->H a≠none:=fun xx=>by
 obtain⟨j,q,o,e,z⟩:=xx;obtain⟨l,_,h1,h2,_⟩:=R.ow j q o e;rw[z]at h1;cases h1;exact h2.there
theorem Rel.lay{F:List Addr}(R:Rel K H0 O0 Z U H O)(s:j3 H H')(hn:∀a∈F,H a=none)(hA:∀a∈F,H' a≠none):Rel K H0 O0 Z U H' (F++O) where
 len:=R.len
 sub:=fun a h=>vJa _ (R.sub a h)
 fr:=fun a ha=>(List.mem_append.mp ha).elim (fun z=>.inr (R.keep.none (hn a z))) (R.fr a)
 al0:=R.al0
 al:=fun a ha=>(List.mem_append.mp ha).elim (hA a) fun z y=>R.al a z (s.none y)
 keep:=R.keep.trans s
 cl:=fun i d e=>by obtain⟨v,a,b⟩:=R.cl i d e;exact⟨v,a,b.same (Zn s hn)⟩
 bo:=R.bo
 ow:=fun i q o e=>by obtain⟨l,z,a,b,d,f⟩:=R.ow i q o e;exact⟨l,z,a,b.same (s l) (Zn s hn),vJa _ d,f⟩
 dist:=R.dist
 lo:=R.lo.up (fun _ _ _ e=>⟨e,rfl⟩) (fun _ _ z=>z) (fun a h _=>⟨vJa _ h,fun u z=>s a u z⟩) (Zn s hn)
theorem Rel.poke{a:Addr}{u:HO}(R:Rel K H0 O0 Z U H O)(nl:∀(i:Nat) (q:Option Addr) (ls:List (List D)),Z[i]?≠some (.lo q ls))(ha:a∈O)(h0:H0 a=none)(nf:¬yt Z U a):Rel K H0 O0 Z U (upd H a u) O where
 len:=R.len
 sub:=R.sub
 fr:=R.fr
 al0:=R.al0
 al:=fun b hb=>by
  by_cases z:b=a
  ·rw[z,ju];exact fun z=>nomatch z
  ·rw[je z];exact R.al b hb
 keep:=R.keep.upd h0 _
 cl:=fun i d e=>by rw[Jd ha];exact R.cl i d e
 bo:=R.bo
 ow:=fun i q o e=>by
  obtain⟨l,z,h1,h2,h3⟩:=R.ow i q o e;rw[Jd ha];exact⟨l,z,h1,h2.same (fun u y=>by rw[je fun w=>nf ⟨i,q,o,e,by rw[<-w];exact h1⟩];exact y) (j3.refl _),h3⟩
 dist:=R.dist
 lo:=fun i q ls e=>vDa e (nl i q ls)
theorem Rel.loSet{i:Nat}{q:Option Addr}{l:Addr}{ps:List Addr}{ls:List (List D)}(R:Rel K H0 O0 Z U H O)(nl:∀(j:Nat) (q:Option Addr) (ls:List (List D)),j≠i->Z[j]?≠some (.lo q ls))(pn:∀p,q=some p->l=p)(lat:Zf K H (j7 H O) l ps ls)(nd:(l::ps).Nodup)(fp:∀a∈l::ps,a∈O/\H0 a=none/\¬yt Z U a):
  Rel K H0 O0 (Z.set i (.lo q ls)) (U.set i (some (.ref l))) H O where
 len:=by rw[List.length_set,List.length_set];exact R.len
 sub:=R.sub
 fr:=R.fr
 al0:=R.al0
 al:=R.al
 keep:=R.keep
 cl:=fun j d e=>by
  rcases jh e with⟨rfl,e',_⟩ | ⟨ne,e'⟩
  ·cases e'
  ·rw[jO ne];exact R.cl j d e'
 bo:=fun j d e=>by
  rcases jh e with⟨rfl,e',_⟩ | ⟨ne,e'⟩
  ·cases e'
  ·rw[jO ne];exact R.bo j d e'
 ow:=fun j q o e=>by
  rcases jh e with⟨rfl,e',_⟩ | ⟨ne,e'⟩
  ·cases e'
  ·rw[jO ne];exact R.ow j q o e'
 dist:=fun j k q1 q2 o1 o2 a e1 e2 s1 s2=>by
  rcases jh e1 with⟨rfl,e',_⟩ | ⟨n1,e1'⟩
  ·cases e'
  ·rcases jh e2 with⟨rfl,e',_⟩ | ⟨n2,e2'⟩
   ·cases e'
   ·rw[jO n1]at s1;rw[jO n2]at s2;exact R.dist j k q1 q2 o1 o2 a e1' e2' s1 s2
 lo:=fun j q' ms e=>by
  rcases jh e with⟨rfl,e',hj⟩ | ⟨ne,e'⟩
  ·cases e';refine⟨l,ps,YX (by rw[R.len];exact hj),lat,nd,fun a ha=>⟨(fp a ha).1,(fp a ha).2.1,fun z=>(fp a ha).2.2 ?_⟩,pn,fun k q' ms e2=>?_⟩
   ·exact vX (by intro _ _ z;cases z) R.len z
   ·rcases jh e2 with⟨rfl,_,_⟩ | ⟨ne,e'⟩
    ·rfl
    ·exact vDa e' (nl k q' ms ne)
  ·exact vDa e' (nl j q' ms ne)
noncomputable def fz:Sl->Sl
 | .lo _ ls=>.cl (.lst (ls.map D.lst))
 | s=>s
noncomputable def frz(Z:j6):j6:=Z.map fz
theorem Z9{j:Nat}{s:Sl}(e:(frz Z)[j]?=some s):(Z[j]?=some s/\∀q ls,s≠.lo q ls) \/∃q ls,Z[j]?=some (.lo q ls)/\s=.cl (.lst (ls.map D.lst)):=by
 unfold frz at e;rw[List.getElem?_map]at e;cases h:Z[j]? with
 | none=>rw[h]at e;cases e
 | some t=>
  rw[h]at e;have e:=vFa e;cases t with
  | lo q ls=>exact .inr ⟨q,ls,rfl,e.symm⟩
  | un=>exact .inl ⟨by rw[<-e];rfl,fun q ls z=>by rw[z]at e;cases e⟩
  | cl d=>exact .inl ⟨by rw[<-e];rfl,fun q ls z=>by rw[z]at e;cases e⟩
  | bo d=>exact .inl ⟨by rw[<-e];rfl,fun q ls z=>by rw[z]at e;cases e⟩
  | ow q o=>exact .inl ⟨by rw[<-e];rfl,fun q ls z=>by rw[z]at e;cases e⟩
theorem yj.reps{Hd Hd':Hp}(sd:j3 Hd Hd'):∀{as:List Addr} {ls:List (List D)},(∀a∈as,Hd' a=H a)->yj K Hd H as ls->j4 K Hd' (ls.map D.lst) (as.map V.ref)
 | [],[],_,_=>j4.nil
 | a::as,m::r,s,h=>by
  obtain⟨⟨vs,h1,h2⟩,h3⟩:=h;refine j4.cons ?_ (yj.reps sd (fun b hb=>s b (wMa _ hb)) h3);rw[j8];exact⟨a,vs,rfl,by rw[s a List.mem_cons_self];exact h1,h2.same sd⟩
 | [],_::_,_,h=>h.elim
 | _::_,[],_,h=>h.elim
theorem Rel.frz(R:Rel K H0 O0 Z U H O):∃O',Rel K H0 O0 (frz Z) U H O'/\(∀a∈O,a∈O' \/∃vs,H a=some (.lst vs))/\∀a∈O',a∈O:=by
 obtain⟨fp,f1,f2⟩:∃fp:List Addr,(∀a∈fp,H0 a=none/\¬yt Z U a/\∃vs,H a=some (.lst vs))/\∀(i:Nat) (q:Option Addr) (ls:List (List D)),Z[i]?=some (.lo q ls)->∃l ps,U[i]?=some (some (.ref l))/\Zf K H (j7 H O) l ps ls/\∀a∈l::ps,a∈fp:=by
  by_cases hl:∃(i:Nat) (q:Option Addr) (ls:List (List D)),Z[i]?=some (.lo q ls)
  ·obtain⟨i,q,ls,hi⟩:=hl;obtain⟨l,ps,hs,a1,_,fp,_,un⟩:=R.lo i q ls hi;refine⟨l::ps,fun a ha=>⟨(fp a ha).2.1,(fp a ha).2.2,a1.at a ha⟩,fun j q' ms e=>?_⟩;have:=un j q' ms e;subst this;rw[hi]at e;cases e;exact⟨l,ps,hs,a1,fun a h=>h⟩
  ·exact⟨[],(fun a h=>by cases h),fun i q ls e=>vDa ⟨i,q,ls,e⟩ hl⟩
 have ss:j3 (j7 H O) (j7 H (O.filter fun a=>decide (a∉fp))):=jY fun a h=>(List.mem_filter.mp h).1;have out:∀a∈fp,j7 H (O.filter fun a=>decide (a∉fp)) a=H a:=fun a ha=>jF fun z=>by simpa[ha]using (List.mem_filter.mp z).2
 refine⟨O.filter fun a=>decide (a∉fp),⟨?_,fun a h=>List.mem_filter.mpr ⟨R.sub a h,vAa fun z=>R.al0 a h (f1 a z).1⟩,fun a h=>R.fr a (List.mem_filter.mp h).1,R.al0,fun a h=>R.al a (List.mem_filter.mp h).1,R.keep,?_,?_,?_,?_,?_⟩,fun a ha=>if h:a∈fp then .inr (f1 a h).2.2 else .inl (List.mem_filter.mpr ⟨ha,vAa h⟩),fun a h=>(List.mem_filter.mp h).1⟩
 ·unfold DS.frz;rw[List.length_map];exact R.len
 ·intro i d e;rcases Z9 e with⟨e,_⟩ | ⟨_,ls,e9,z⟩
  ·obtain⟨v,a,b⟩:=R.cl i d e;exact⟨v,a,b.same ss⟩
  ·cases z;obtain⟨l,ps,hs,⟨h1,h2⟩,hin⟩:=f2 i _ ls e9;refine⟨_,hs,?_⟩;rw[j8];exact⟨l,_,rfl,by rw[out l (hin l List.mem_cons_self)];exact h1,h2.reps ss fun a ha=>out a (hin a (wMa _ ha))⟩
 ·intro i d e;rcases Z9 e with⟨e,_⟩ | ⟨_,ls,e,z⟩
  ·exact R.bo i d e
  ·cases z
 ·intro i q o e;rcases Z9 e with⟨e,_⟩ | ⟨_,ls,e,z⟩
  ·obtain⟨l,z,a,b,d,f⟩:=R.ow i q o e;exact⟨l,z,a,b.same (fun _ z=>z) ss,List.mem_filter.mpr ⟨d,vAa fun y=>(f1 l y).2.1 ⟨i,q,o,e,a⟩⟩,f⟩
  ·cases z
 ·intro i j q q' o o' l e e';rcases Z9 e with⟨e,_⟩ | ⟨_,ls,e,z⟩
  ·rcases Z9 e' with⟨e',_⟩ | ⟨_,ls,e',z⟩
   ·exact R.dist i j q q' o o' l e e'
   ·cases z
  ·cases z
 ·intro i q ls e;rcases Z9 e with⟨_,z⟩ | ⟨_,_,_,z⟩
  ·exact vDa rfl (z q ls)
  ·cases z
end
mutual
@[simp] noncomputable def aG:D->Bool
 | .non=>true
 | .bl _=>true
 | .int _=>true
 | .str _=>true
 | .tup l=>gO l
 | _=>false
@[simp] noncomputable def gO:List D->Bool
 | []=>true
 | d::ds=>aG d&&gO ds
end
mutual
theorem kT{K:Fr}{H H':Hp}(k:UK H H'):∀{d:D} {v:V},aG d=true->j8 K H d v->j8 K H' d v
 | .non,_,_,h=>by rw[j8]at h⊢;exact h
 | .bl _,_,_,h=>by rw[j8]at h⊢;exact h
 | .int _,_,_,h=>by rw[j8]at h⊢;exact h
 | .str _,_,_,h=>by rw[j8]at h⊢;exact h
 | .tup l,_,n,h=>by
  rw[j8]at h⊢;obtain⟨a,xs,rfl,q,r⟩:=h;rw[aG]at n;exact⟨a,xs,rfl,k.sqT q,VM k n r⟩
 | .lst _,_,n,_=>by simp at n
 | .ins _ _ _,_,n,_=>by simp at n
 | .scr _,_,n,_=>by simp at n
theorem VM{K:Fr}{H H':Hp}(k:UK H H'):∀{ds:List D} {vs:List V},gO ds=true->j4 K H ds vs->j4 K H' ds vs
 | [],_,_,h=>by rw[j4]at h⊢;exact h
 | d::ds,_,n,h=>by
  rw[j4]at h;obtain⟨v,r,rfl,a,b⟩:=h;rw[gO,Bool.and_eq_true]at n;exact j4.cons (kT k n.1 a) (VM k n.2 b)
end
section
variable {X:Cx} {K:Fr} {e:Expr} {de:DE}
theorem aH{dt:DT}(h:PT X e (tT K dt)):PT X e (tT K fun Z=>dt (frz Z)):=uf h fun U H Q xx=>by
 obtain⟨H0,O0,Z,O,b,R,ed,q⟩:=xx;obtain⟨O',R',_⟩:=R.frz;exact⟨H0,O0,_,O',b,R',ed,q⟩
theorem fk{st:Stmt}{ds:DS}(h:PS X st (tS K ds)):PS X st (tS K fun Z=>ds (frz Z)):=jT h fun D U H xx=>by
 obtain⟨H0,O0,Z,O,r,R,ed,f⟩:=xx;obtain⟨O',R',_,g⟩:=R.frz;refine⟨H0,O0,_,O',r,R',ed,f.mono (jY g)⟩
end
section
variable {K:Fr} {Hd H H':Hp}
theorem yj.len:∀{as:List Addr} {ls:List (List D)},yj K Hd H as ls->as.length=ls.length
 | [],[],_=>rfl
 | _::_,_::_,h=>congrArg Nat.succ (yj.len h.2)
 | [],_::_,h=>h.elim
 | _::_,[],h=>h.elim
theorem yj.get:∀{as:List Addr} {ls:List (List D)} {n:Nat} {m:List D},yj K Hd H as ls->ls[n]?=some m->∃p vs,as[n]?=some p/\H p=some (.lst vs)/\j4 K Hd m vs
 | a::_,_::_,0,_,h,e=>by
  simp at e;subst e;obtain⟨vs,h1,h2⟩:=h.1;exact⟨a,vs,rfl,h1,h2⟩
 | _::as,_::r,n+1,m,h,e=>by
  obtain⟨p,vs,h1,h2⟩:=yj.get (n:=n) h.2 (by simpa using e);exact⟨p,vs,by simpa using h1,h2⟩
 | [],[],_,_,_,e=>by simp at e
 | [],_::_,_,_,h,_=>h.elim
 | _::_,[],_,_,h,_=>h.elim
theorem yj.set{p:Addr}{m:List D}(hp:∃vs,H' p=some (.lst vs)/\j4 K Hd m vs):∀{as:List Addr} {ls:List (List D)} {n:Nat},as.Nodup->as[n]?=some p->(∀a∈as,a≠p->∀u,H a=some u->H' a=some u)->yj K Hd H as ls->yj K Hd H' as (ls.set n m)
 | a::as,x::r,0,nd,e,s,h=>by
  simp at e;subst e;obtain⟨n1,n2⟩:=List.nodup_cons.mp nd;exact⟨hp,h.2.mono (j3.refl _) fun b hb=>s b (wMa _ hb) fun z=>n1 (z▸hb)⟩
 | a::as,x::r,n+1,nd,e,s,h=>by
  obtain⟨n1,n2⟩:=List.nodup_cons.mp nd;have e':as[n]?=some p:=by simpa using e
  obtain⟨vs,h1,h2⟩:=h.1;exact⟨⟨vs,s a wNa (fun z=>n1 (z▸wYa e')) _ h1,h2⟩,yj.set hp n2 e' (fun b hb=>s b (wMa _ hb)) h.2⟩
 | [],_,_,_,e,_,_=>by simp at e
 | _::_,[],_,_,_,_,h=>h.elim
end
theorem kU{α:Type}{xs:List α}{i:Nat}{x:α}(h:xs[i]?=some x):xs.set i x=xs:=by
 obtain⟨hl,he⟩:=List.getElem?_eq_some_iff.mp h;rw[<-he];exact List.set_getElem_self hl
section
variable {X:Cx} {K:Fr} {de dj:DE} {st:Stmt} {i:Nat}
theorem vZ{Z:j6}{q:Option Addr}{ls:List (List D)}{K:Fr}{H0 H:Hp}{O0 O:List Addr}{U:L2.St}(R:Rel K H0 O0 Z U H O)(hi:Z[i]?=some (.lo q ls)):∀(j:Nat) (q':Option Addr) (ms:List (List D)),(Z.set i .un)[j]?≠some (.lo q' ms):=fun j q' ms e=>by
 rcases jh e with⟨_,e',_⟩ | ⟨ne,e'⟩
 ·cases e'
 ·obtain⟨_,_,_,_,_,_,_,un⟩:=R.lo i q ls hi;exact ne (un j q' ms e')
theorem vG{Z:j6}{U:L2.St}{a:Addr}{j:Nat}:yt (Z.set j .un) U a->yt Z U a:=fun xx=>by
 obtain⟨k,q,o,e,z⟩:=xx;rcases jh e with⟨_,e',_⟩ | ⟨_,e'⟩
 ·cases e'
 ·exact⟨k,q,o,e',z⟩
theorem kW{Z:j6}{q:Option Addr}{ls:List (List D)}:(Z.set i .un).set i (.lo q ls)=Z.set i (.lo q ls):=by rw[List.set_set]
end
section
variable {K:Fr} {H0 H H':Hp} {O0 O:List Addr} {Z:j6} {U:L2.St} {i:Nat} {q:Option Addr} {ls:List (List D)}
theorem Ch{ps:List Addr}{j:Int}{n k:Nat}{p:Addr}(h:ps.length=k)(e:zu k j=some n)(hp:ps[n]?=some p):atI (ps.map V.ref) j=some (.ref p):=by
 unfold atI;rw[List.length_map,h,e];show(ps.map V.ref)[n]?=_;rw[List.getElem?_map,hp];rfl
theorem Rel.inner{n:Nat}{m:List D}(R:Rel K H0 O0 Z U H O)(hi:Z[i]?=some (.lo q ls))(hn:ls[n]?=some m):∃(l:Addr) (ps:List Addr) (p:Addr) (vs:List V),U[i]?=some (some (.ref l))/\H l=some (.lst (ps.map V.ref))/\ps.length=ls.length/\ps[n]?=some p/\H p=some (.lst vs)/\j4 K (j7 H O) m vs/\∀(H2:Hp) (m':List D) (ws:List V),j3 H H2->j4 K (j7 H2 O) m' ws->Rel K H0 O0 (Z.set i (.lo q (ls.set n m'))) U (upd H2 p (.lst ws)) O/\j3 (j7 H O) (j7 (upd H2 p (.lst ws)) O):=by
 obtain⟨l,ps,hs,⟨hl,el⟩,nd,fp,pn,un⟩:=R.lo i q ls hi;obtain⟨p,vs,hp,hv,rp⟩:=el.get hn;have pm:=wYa hp;have ha:=(fp p (wMa _ pm))
 have nl:l≠p:=fun z=>(List.nodup_cons.mp nd).1 (z▸pm);refine⟨l,ps,p,vs,hs,hl,el.len,hp,hv,rp,fun H2 m' ws s12 rw'=>?_⟩;have R2:=R.grow s12;have R3:=((R2.forget i).poke (u:=.lst ws) (vZ R2 hi) ha.1 ha.2.1 fun z=>ha.2.2 (vG z)).loSet (i:=i) (l:=l) (ps:=ps) (ls:=ls.set n m') (fun j q ls _=>vZ R2 hi j q ls) pn
  ⟨by rw[je nl];exact s12 _ _ hl,by
   rw[Jd ha.1];exact yj.set ⟨_,ju,rw'⟩ (List.nodup_cons.mp nd).2 hp (fun a _ ne u z=>by rw[je ne];exact z) (el.mono (jc s12) fun a _ u z=>s12 a u z)⟩ nd fun a h=>⟨(fp a h).1,(fp a h).2.1,fun z=>(fp a h).2.2 (vG z)⟩
 rw[kW,kU hs]at R3;exact⟨R3,by rw[Jd ha.1];exact jc s12⟩
end
section
variable {X:Cx} {K:Fr} {de dj dh:DE} {df:DO} {st:Stmt} {i:Nat}
def uh(i:Nat)(dj de:DE):DS:=fun Z=>match Z[i]? with
 | some (.lo q ls)=>(dj Z).bind fun j=>(de Z).bind fun d=>match j with
  | .int j=>(zu ls.length j).bind fun n=>(ls[n]?).bind fun m=>if m.length < sizeLine then some (.nx (Z.set i (.lo q (ls.set n (m++[d])))))else none
  | _=>none
 | _=>none
theorem Ci(h:PS X st (vU (uK K "list" ue (wy (xf K) (J_ i) (tR K dj)) (Jk (tE K de) Y0)))):PS X st (tS K (uh i dj de)):=jT h fun D U H xx=>by
 obtain⟨H0,O0,Z,O,r,R,ed,f⟩:=xx;unfold uh at ed;split at ed
 ·rename_i q ls hi;obtain⟨j,e1,ed⟩:=j0 ed;obtain⟨d,e2,ed⟩:=j0 ed;cases j with
  | int j=>
   obtain⟨n,e3,ed⟩:=j0 ed;obtain⟨m,e4,ed⟩:=j0 ed;split at ed
   ·rename_i hz;cases ed;obtain⟨l,ps,p,vs,hs,hl,hlen,hp,hv,rp,fin⟩:=R.inner hi e4;refine⟨_,hs,H0,O0,Z,O,_,R,e1,fun w H1 s1 r1=>?_⟩;refine⟨l,_,j,.ref p,rfl,r1.int,js.of (s1 _ _ hl),Ch hlen e3 hp,.inl ⟨rfl,_,js.of (s1 _ _ hv)⟩,H0,O0,Z,O,d,R.grow s1,e2,fun v H2 s2 rv=>?_⟩;have s12:=s1.trans s2;obtain⟨R3,s4⟩:=fin H2 (m++[d]) _ s12 ((rp.same (jc s12)).snoc rv);exact⟨p,vs,v,rfl,rfl,s12 _ _ hv,by rw[rp.len];exact hz,f _ _ O R3 s4⟩
   ·cases ed
  | _=>cases ed
 ·cases ed
end
noncomputable def fm:Sl->Bool
 | .lo _ _=>false
 | _=>true
noncomputable def aI:List DO->j6->Option (List (List D))
 | [],_=>some []
 | f::r,Z=>(f Z).bind fun o=>match o with
  | .lst m=>(aI r Z).bind fun ms=>some (m::ms)
  | _=>none
noncomputable def aJ(K:Fr):List DO->TA
 | []=>Y0
 | f::r=>Jk (tF K f) (aJ K r)
inductive PFl (X:Cx) (K:Fr):List Expr->List DO->Prop
 | nil:PFl X K [] []
 | cons {e:Expr} {f:DO} {es:List Expr} {fs:List DO}:PE X e (tF K f)->starEach (e::es) X.env=(false,eval e X.env)::starEach es X.env->PFl X K es fs->PFl X K (e::es) (f::fs)
section
variable {X:Cx} {K:Fr} {st:Stmt} {i:Nat}
theorem PFl.pa{es:List Expr}{fs:List DO}(h:PFl X K es fs):PA X es (aJ K fs):=by
 induction h with
 | nil=>exact jU
 | cons he hs _ ih=>exact jx he ih hs
theorem wK:∀{fs:List DO} {Z:j6} {ms:List (List D)},aI fs Z=some ms->ms.length=fs.length
 | [],_,_,e=>by cases e;rfl
 | f::r,Z,ms,e=>by
  obtain⟨o,_,e⟩:=j0 e;cases o with
  | lst m=>
   obtain⟨ms',e2,e⟩:=j0 e;cases e;rw[List.length_cons,List.length_cons,wK e2]
  | _=>cases e
theorem Q3{H0:Hp}{O0:List Addr}{Z:j6}{U:L2.St}:∀{fs:List DO} {ms:List (List D)} {H:Hp} {O:List Addr} {Q:List V->Hp->Prop},Rel K H0 O0 Z U H O->aI fs Z=some ms->
  (∀ps H',j3 H H'->(∀a∈ps,H a=none)->ps.Nodup->yj K (j7 H' (ps++O)) H' ps ms->Q (ps.map V.ref) H')->aJ K fs U H Q
 | [],ms,H,O,Q,R,e,q=>by
  cases e;exact q [] H (j3.refl _) (fun a h=>by cases h) List.nodup_nil trivial
 | f::fs,ms,H,O,Q,R,e,q=>by
  obtain⟨o,e1,e⟩:=j0 e;cases o with
  | lst m=>
   obtain⟨ms',e2,e⟩:=j0 e;cases e;refine⟨H0,O0,Z,O,_,R,e1,fun a H1 s1 ha ow=>?_⟩;obtain⟨vs,hv,rp⟩:=ow;have hn:∀b∈[a],H b=none:=fun b h=>by rw[List.mem_singleton.mp h];exact ha
   have hA:∀b∈[a],H1 b≠none:=fun b h=>by rw[List.mem_singleton.mp h,hv];exact fun z=>nomatch z
   refine Q3 (R.lay (F:=[a]) s1 hn hA) e2 fun ps H2 s2 hp nd el=>?_;have na:a∉ps:=fun z=>by have:=hp a z;rw[hv]at this;cases this
   have sm:j3 (j7 H2 (ps++([a]++O))) (j7 H2 (a::ps++O)):=jY fun b h=>by
    rcases List.mem_append.mp h with h | h
    ·rcases List.mem_cons.mp h with h | h
     ·exact vJa _ (by rw[h];exact wNa)
     ·exact vIa _ h
    ·exact vJa _ (vJa _ h)
   refine q (a::ps) H2 (s1.trans s2) (fun b h=>?_) (List.nodup_cons.mpr ⟨na,nd⟩) ⟨⟨vs,s2 _ _ hv,(rp.same (Zn (O:=[a]++O) s2 hp)).same sm⟩,el.mono sm fun b _ u z=>z⟩;rcases List.mem_cons.mp h with rfl | h
   ·exact ha
   ·exact s1.none (hp b h)
  | _=>cases e
def v_(i:Nat)(fs:List DO):DS:=fun Z=>(aI fs Z).bind fun ms=>if (Z.set i .un).all fm=true/\fs.length<=1000 then some (.nx (Z.set i (.lo none ms)))else none
theorem Cj{fs:List DO}(h:PS X st (Yp (BJ (aJ K fs)) (YA i))):PS X st (tS K (v_ i fs)):=jT h fun D U H xx=>by
 obtain⟨H0,O0,Z,O,r,R,ed,f⟩:=xx;obtain⟨ms,e1,ed⟩:=j0 ed;split at ed
 ·rename_i nl;cases ed;refine Q3 R e1 fun ps H1 s1 hp nd el=>?_;have z:(1000:Nat)<=sizeLine:=by decide
  have hl:=el.len;have hm:=wK e1;refine⟨by rw[List.length_map];omega,fun p hpn=>?_⟩;show D.nx _ _;have s2:=s1.trans (jD hpn (.lst (ps.map V.ref)));have hnp:p∉ps:=fun z=>by
   obtain⟨vs,hv⟩:=el.at p z;rw[hpn]at hv;cases hv
  have hn:∀a∈p::ps,H a=none:=fun a h=>by
   rcases List.mem_cons.mp h with rfl | h
   ·exact s1.none hpn
   ·exact hp a h
  have el2:yj K (j7 (upd H1 p (.lst (ps.map V.ref))) (p::ps++O)) (upd H1 p (.lst (ps.map V.ref))) ps ms:=by
   refine el.mono (fun b u hb=>?_) fun a ha u z=>(jD hpn _) a u z;obtain⟨h1,h2⟩:=j_ hb;rw[jF fun z=>?_]
   ·exact(jD hpn _) b u h2
   ·rcases List.mem_cons.mp z with rfl | z
    ·rw[hpn]at h2;cases h2
    ·exact h1 z
  have lat:Zf K (upd H1 p (.lst (ps.map V.ref))) (j7 (upd H1 p (.lst (ps.map V.ref))) (p::ps++O)) p ps ms:=⟨ju,el2⟩
  have R2:=(R.forget i).lay (F:=p::ps) s2 hn fun a ha=>by
   obtain⟨vs,hv⟩:=lat.at a ha;rw[hv];exact fun z=>nomatch z
  have R3:=R2.loSet (i:=i) (q:=none) (l:=p) (ps:=ps) (ls:=ms) (fun j q ms _ e=>by
   have:=List.all_eq_true.mp nl.1 _ (wYa e);cases this) (by intro _ z;cases z) lat (List.nodup_cons.mpr ⟨hnp,nd⟩) fun a ha=>⟨vIa _ ha,R.keep.none (hn a ha),fun z=>yt.there R (vG z) (hn a ha)⟩
  rw[kW]at R3;exact f _ _ _ R3 (Zn s2 hn)
 ·cases ed
inductive Rm where
 | nx (Z:j6) | rt (Z:j6) (d:D)
abbrev DM:=j6->Option Rm
def WL(K:Fr)(H0:Hp)(O0:List Addr)(H:Hp)(O:List Addr)(E:Ends):Rm->Prop
 | .nx Z=>∀U' H' O',Rel K H0 O0 Z U' H' O'->j3 (j7 H O) (j7 H' O')->E.nx U' H'
 | .rt Z d=>∀U' H' O' v,Rel K H0 O0 Z U' H' O'->j8 K (j7 H' O') d v->E.rt v H'
theorem WL.mono{H0 H H1:Hp}{O0 O O1:List Addr}{E:Ends}{r:Rm}(s:j3 (j7 H O) (j7 H1 O1))(h:WL K H0 O0 H O E r):WL K H0 O0 H1 O1 E r:=by
 cases r with
 | nx Z=>exact fun U' H' O' R t=>h U' H' O' R (s.trans t)
 | rt Z d=>exact h
def tM(K:Fr)(dm:DM):TS:=fun E U H=>∃H0 O0 Z O r,Rel K H0 O0 Z U H O/\dm Z=some r/\WL K H0 O0 H O E r
@[simp] noncomputable def Ur(ds:DS)(m:DM)(Z:j6):Option Rm:=(ds Z).bind fun r=>match r with
 | .nx Z1=>m Z1
 | _=>none
@[simp] noncomputable def VN(de:DE)(Z:j6):Option Rm:=(de Z).bind fun d=>some (.rt Z d)
@[simp] def kX(dt:DT)(de:DE)(m:DM)(Z:j6):Option Rm:=(dt Z).bind fun k=>if k=true then VN de Z else m Z
theorem fo{rest:List Stmt}{s1:DS}{m:DM}(h1:PS X st (tS K s1))(h2:jr X rest (tM K m)):jr X (st::rest) (tM K (Ur s1 m)):=ym (yB h1 h2) fun D U H xx=>by
 obtain⟨H0,O0,Z,O,r,R,ed,f⟩:=xx;obtain⟨r1,e1,e2⟩:=j0 ed;refine⟨H0,O0,Z,O,r1,R,e1,?_⟩;cases r1 with
 | nx Z1=>exact fun U' H' O' R' t=>⟨H0,O0,Z1,O',r,R',e2,f.mono t⟩
 | _=>cases e2
theorem WM{e:Expr}{pos:Pos}{de:DE}(h:PE X e (tE K de)):jr X [.Return (some e) pos] (tM K (VN de)):=ym (vt (UF h)) fun D U H xx=>by
 obtain⟨H0,O0,Z,O,r,R,ed,f⟩:=xx;obtain⟨d,e1,e2⟩:=j0 ed;cases e2;exact⟨H0,O0,Z,O,d,R,e1,fun v H' s r=>f U H' O v (R.grow s) r⟩
theorem i9{c e:Expr}{pos p:Pos}{de:DE}{dt:DT}{rest:List Stmt}{m:DM}(hc:PT X c (tT K dt))(h:PE X e (tE K de))(h2:jr X rest (tM K m)):jr X (.If c [.Return (some e) p] [] pos::rest) (tM K (kX dt de m)):=ym (yB (GZ hc (WM h) gy) h2) fun D U H xx=>by
 obtain⟨H0,O0,Z,O,r,R,ed,f⟩:=xx;obtain⟨k,e1,e2⟩:=j0 ed;refine⟨H0,O0,Z,O,k,R,e1,fun H' s=>?_⟩;cases k with
 | true=>
  rw[if_pos rfl]at e2;refine yF ⟨H0,O0,Z,O,r,R.grow s,e2,?_⟩;obtain⟨d,_,e3⟩:=j0 e2;cases e3;exact f
 | false=>rw[if_neg Bool.false_ne_true]at e2;exact yE ⟨H0,O0,Z,O,r,R.grow s,e2,f.mono (jc s)⟩
def kY(K:Fr)(F:Addr->List (List D)->List D->Option (List (List D)×D)):Sp:=fun vs H Q _=>∃(O:List Addr) (l:Addr) (ps:List Addr) (ls:List (List D)) (d:D) (ds:List D) (v:V) (us:List V) (ms:List (List D)) (r:D),vs=v::.ref l::us/\Zf K H (j7 H (l::ps++O)) l ps ls/\(l::ps).Nodup/\(∀a∈O,H a≠none/\a∉l::ps)/\j4 K (j7 H (l::ps++O)) (d::ds) (v::us)/\F l ls (d::ds)=some (ms,r)/\
 ∀ps' H' u,j3 (j7 H (l::ps)) H'->(l::ps').Nodup->(∀a∈ps',a∈ps \/ H a=none)->Zf K H' (j7 H' (l::ps'++O)) l ps' ms->j8 K (j7 H' (l::ps'++O)) r u->Q u H'
@[simp] noncomputable def xI(p:Addr)(ls:List (List D))(ds:List D)(n:Nat):j6:=match ds with
 | d::ds=>.cl d::.lo (some p) ls::(ds.map Sl.cl++List.replicate n .un)
 | []=>[]
@[simp] noncomputable def xJ(p:Addr):Option Rm->Option (List (List D)×D)
 | some (.rt Z d)=>(match (Z[1]?:Option Sl)with
  | some (.lo q ms)=>if q=some p then some (ms,d)else none
  | _=>none)
 | _=>none
@[simp] def kZ(m n:Nat)(body:DM)(p:Addr)(ls:List (List D))(ds:List D):Option (List (List D)×D):=if ds.length=m+1 then xJ p (body (xI p ls ds n))else none
theorem ic{H:Hp}{O:List Addr}{l:Addr}{ps:List Addr}{ls:List (List D)}{d:D}{ds:List D}{v:V}{us:List V}{n:Nat}(h1:Zf K H (j7 H (l::ps++O)) l ps ls)(nd:(l::ps).Nodup)(al:∀a∈O,H a≠none/\a∉l::ps)(rp:j4 K (j7 H (l::ps++O)) (d::ds) (v::us)):
  Rel K (j7 H (l::ps)) O (xI l ls (d::ds) n) ((v::.ref l::us).map some++List.replicate n none) H (l::ps++O):=by
 rw[j4]at rp;obtain⟨v',us',e,r0,r1⟩:=rp;cases e;have no:∀(j:Nat) (t:Sl),(.cl d::.un::(ds.map Sl.cl++List.replicate n .un):j6)[j]?=some t->(∃e,t=.cl e) \/ t=.un:=fun j t e=>by
  have:=wYa e;simp at this;rcases this with rfl | rfl | ⟨e,_,rfl⟩ | ⟨_,rfl⟩
  ·exact .inl ⟨_,rfl⟩
  ·exact .inr rfl
  ·exact .inl ⟨_,rfl⟩
  ·exact .inr rfl
 have R:Rel K (j7 H (l::ps)) O (.cl d::.un::(ds.map Sl.cl++List.replicate n .un)) ((v::.ref l::us).map some++List.replicate n none) H (l::ps++O):=by
  refine⟨?_,fun a h=>vJa _ h,fun a h=>(List.mem_append.mp h).elim (fun z=>.inr (Z8 z)) .inl,fun a h=>?_,fun a h=>?_,YW,fun j e hj=>?_,fun j e hj=>?_,fun j q o hj=>?_,fun j k q q' o o' a hj=>?_,fun j q ms hj=>?_⟩
  ·have:=r1.len;simp;omega
  ·rw[jF (al a h).2];exact(al a h).1
  ·rcases List.mem_append.mp h with h | h
   ·obtain⟨ws,hw⟩:=h1.at a h;rw[hw];exact fun z=>nomatch z
   ·exact(al a h).1
  ·match j,hj with
   | 0,hj=>cases hj;exact⟨v,rfl,r0⟩
   | 1,hj=>cases hj
   | j+2,hj=>
    have hj:(ds.map Sl.cl++List.replicate n .un)[j]?=some (.cl e):=hj;by_cases q:j < ds.length
    ·rw[List.getElem?_append_left (by rw[List.length_map];exact q),List.getElem?_map]at hj;obtain⟨e',e1,e2⟩:=Option.map_eq_some_iff.mp hj;cases e2;obtain⟨w,w1,w2⟩:=r1.get e1;refine⟨w,?_,w2⟩;show(us.map some++List.replicate n none)[j]?=_;rw[List.getElem?_append_left (by rw[List.length_map];exact(List.getElem?_eq_some_iff.mp w1).1),List.getElem?_map,w1];rfl
    ·rw[List.getElem?_append_right (by rw[List.length_map];omega)]at hj;have:=wYa hj;simp at this
  all_goals first
   | (rcases no j _ hj with⟨_,z⟩ | z <;> cases z)
 exact R.loSet (i:=1) (q:=some l) (l:=l) (ps:=ps) (ls:=ls) (fun j q ms _ e=>by rcases no j _ e with⟨_,z⟩ | z <;> cases z) (by intro _ z;cases z;rfl) h1 nd fun a h=>⟨vIa _ h,Z8 h,fun⟨j,q,o,e,_⟩=>by rcases no j _ e with⟨_,z⟩ | z <;> cases z⟩
variable {P:Program} {w:World} {mg:Str->Option Value} {base:Heap} {x qual:Str} {f:Addr} {fd:FuncData} {N ps:List Str} {k n:Nat} {body:DM}
theorem ie{m:Nat}(F:Fun K x qual st f fd)(S:FnScope N ps (defScope st))(hm:m+2=ps.length)(hn:N.length - ps.length=n)
  (hb:∀(cdv:Value) (A:Around) (outer:List Env) (s:Shared) (H:Hp) (E:XK),Room k (A.deeper (envOfC qual (defScope st) s.heap.objs.size f cdv))->jr (jP JH P w K mg base N qual (defScope st) f cdv A outer s H E).nox (defBody st) (tM K body)):
  FnOk P w K mg base JH (k+1) f fd ps (kY K (kZ m n body)):=by
 refine F.ok S (fun vs H Q E h=>?_) fun cdv A outer s H vs Q E hr h=>?_
 ·obtain⟨O,l,ps',ls,d,ds,v,us,ms,r,rfl,_,_,_,rp,e,_⟩:=h;have:=rp.len;unfold kZ at e;split at e
  ·rename_i hl;simp at hl this⊢;omega
  ·cases e
 ·obtain⟨O,l,ps',ls,d,ds,v,us,ms,r,rfl,h1,nd,al,rp,e,q⟩:=h;have hlen:=rp.len;unfold kZ at e;split at e
  case isFalse=>cases e
  rename_i hl;refine⟨_,hb cdv A outer s H E hr,?_⟩;have hl:N.length - (v::V.ref l::us).length=n:=by simp at hl hlen⊢;omega
  unfold L2.start;rw[hl];cases eb:body (xI l ls (d::ds) n)with
  | none=>rw[eb]at e;cases e
  | some rr=>
   rw[eb]at e;refine⟨_,O,_,_,rr,ic h1 nd al rp,eb,?_⟩;cases rr with
   | nx Z=>cases e
   | rt Z d'=>
    dsimp only[xJ]at e;split at e
    ·rename_i q' ms' he;split at e
     ·rename_i hq;cases e;intro U' H' O' u R' ru;obtain⟨l',ps'',hs,lat,nd',fp,pn,_⟩:=R'.lo 1 _ _ he;have el:=pn l hq;subst el;have sub:∀a∈l'::ps''++O,a∈O':=fun a h=>(List.mem_append.mp h).elim (fun z=>(fp a z).1) (R'.sub a);refine q ps'' H' u R'.keep nd' (fun a ha=>?_) ⟨lat.1,lat.2.mono (jY sub) fun _ _ _ z=>z⟩ (ru.same (jY sub));have:=(fp a (wMa _ ha)).2.1;by_cases y:a∈l'::ps'
      ·rcases List.mem_cons.mp y with y | y
       ·exact vDa (y▸ha) (List.nodup_cons.mp nd').1
       ·exact .inl y
      ·rw[jF y]at this;exact .inr this
     ·cases e
    ·cases e
end
section
variable {K:Fr} {H0 H H':Hp} {O0 O O':List Addr} {Z:j6} {U:L2.St} {i:Nat} {q:Option Addr} {ls:List (List D)}
theorem Rel.move(R:Rel K H0 O0 Z U H O)(nl:∀(j:Nat) (q:Option Addr) (ms:List (List D)),Z[j]?≠some (.lo q ms))(ss:j3 (j7 H O) (j7 H' O'))(kf:∀a,yt Z U a->a∈O'/\∀u,H a=some u->H' a=some u)(keep:j3 H0 H')(sub:∀a∈O0,a∈O')(fr:∀a∈O',a∈O0 \/ H0 a=none)(al:∀a∈O',H' a≠none):Rel K H0 O0 Z U H' O' where
 len:=R.len
 sub:=sub
 fr:=fr
 al0:=R.al0
 al:=al
 keep:=keep
 cl:=fun i d e=>by obtain⟨v,a,b⟩:=R.cl i d e;exact⟨v,a,b.same ss⟩
 bo:=R.bo
 ow:=fun i q o e=>by
  obtain⟨l,z,a,b,d,f⟩:=R.ow i q o e;have:=kf l ⟨i,q,o,e,a⟩;exact⟨l,z,a,b.same this.2 ss,this.1,f⟩
 dist:=R.dist
 lo:=fun j q ms e=>vDa e (nl j q ms)
theorem Rel.swap(R:Rel K H0 O0 Z U H O)(hi:Z[i]?=some (.lo q ls)):∃(l:Addr) (ps:List Addr) (O1:List Addr),U[i]?=some (some (.ref l))/\Zf K H (j7 H (l::ps++O1)) l ps ls/\(l::ps).Nodup/\(∀a∈O1,H a≠none/\a∉l::ps)/\(∀a∈l::ps++O1,a∈O)/\
  ∀(H1 H':Hp) (ps':List Addr) (ms:List (List D)),j3 H H1->j3 (j7 H1 (l::ps)) H'->(l::ps').Nodup->(∀a∈ps',a∈ps \/ H1 a=none)->Zf K H' (j7 H' (l::ps'++O1)) l ps' ms->Rel K H0 O0 (Z.set i (.lo q ms)) U H' (l::ps'++O1)/\j3 (j7 H O) (j7 H' (l::ps'++O1)):=by
 obtain⟨l,ps,hs,lat,nd,fp,pn,un⟩:=R.lo i q ls hi;have inO:∀a∈l::ps++O.filter (fun a=>decide (a∉l::ps)),a∈O:=fun a h=>(List.mem_append.mp h).elim (fun z=>(fp a z).1) fun z=>(List.mem_filter.mp z).1;refine⟨l,ps,O.filter fun a=>decide (a∉l::ps),hs,⟨lat.1,lat.2.mono (jY inO) fun _ _ _ z=>z⟩,nd,fun a h=>⟨R.al a (List.mem_filter.mp h).1,vCa (List.mem_filter.mp h).2⟩,inO,fun H1 H' ps' ms s1 s2 nd' hn0 at2=>?_⟩;have hn:∀a∈l::ps',a∈l::ps \/ H1 a=none:=fun a h=>by
  rcases List.mem_cons.mp h with h | h
  ·exact .inl (by rw[h];exact wNa)
  ·exact(hn0 a h).imp (wMa _) id
 have kp:∀a u,a∉l::ps->H a=some u->H' a=some u:=fun a u na z=>s2 a u (by rw[jF na];exact s1 _ _ z);have nn:∀a∈l::ps',H0 a=none/\(a∈O \/ H a=none):=fun a h=>(hn a h).elim (fun z=>⟨(fp a z).2.1,.inl (fp a z).1⟩) fun z=>⟨R.keep.none (s1.none z),.inr (s1.none z)⟩
 have ss:j3 (j7 H O) (j7 H' (l::ps'++O.filter fun a=>decide (a∉l::ps))):=fun b u h=>by
  obtain⟨b1,b2⟩:=j_ h;rw[jF fun z=>?_]
  ·exact kp b u (fun z=>b1 (fp b z).1) b2
  ·rcases List.mem_append.mp z with z | z
   ·rcases(nn b z).2 with y | y
    ·exact b1 y
    ·rw[y]at b2;cases b2
   ·exact b1 (List.mem_filter.mp z).1
 have ft:∀a,yt (Z.set i .un) U a->a∈O/\a∉l::ps:=fun a z=>by
  have z':=vG z;refine⟨?_,fun y=>(fp a y).2.2 z'⟩;obtain⟨j,q,o,e,y⟩:=z';obtain⟨l2,_,h1,_,h3,_⟩:=R.ow j q o e;rw[y]at h1;cases h1;exact h3
 have R2:=(R.forget i).move (H':=H') (O':=l::ps'++O.filter fun a=>decide (a∉l::ps)) (vZ R hi) ss (fun a z=>⟨vJa _ (List.mem_filter.mpr ⟨(ft a z).1,vAa (ft a z).2⟩),fun u y=>kp a u (ft a z).2 y⟩)
  (fun b u h=>kp b u (fun z=>by rw[(fp b z).2.1]at h;cases h) (R.keep _ _ h)) (fun a h=>vJa _ (List.mem_filter.mpr ⟨R.sub a h,vAa fun z=>R.al0 a h (fp a z).2.1⟩))
  (fun a h=>(List.mem_append.mp h).elim (fun z=>.inr (nn a z).1) fun z=>R.fr a (List.mem_filter.mp z).1) (fun a h=>by
   rcases List.mem_append.mp h with h | h
   ·obtain⟨ws,hw⟩:=at2.at a h;rw[hw];exact fun z=>nomatch z
   ·obtain⟨h1,h2⟩:=List.mem_filter.mp h;cases hu:H a with
    | none=>exact vDa hu (R.al a h1)
    | some u=>rw[kp a u (of_decide_eq_true h2) hu];exact fun z=>nomatch z)
 have R3:=R2.loSet (i:=i) (q:=q) (l:=l) (ps:=ps') (ls:=ms) (fun j q ls _=>vZ R hi j q ls) pn at2 nd' fun a h=>⟨vIa _ h,(nn a h).1,fun z=>by
  rcases hn a h with y | y
  ·exact(ft a z).2 y
  ·exact yt.there R (vG z) (s1.none y)⟩
 rw[kW,kU hs]at R3;exact⟨R3,ss⟩
end
section
variable {X:Cx} {K:Fr} {st:Stmt} {i j k:Nat} {x:Str} {ps:List Str} {p pos:Pos} {e0 e1 e2:Expr} {d0 d2:DE}
noncomputable def zA(j i:Nat)(F:List (List D)->List D->Option (List (List D)×D))(d0 d2:DE):DS:=fun Z=>match Z[i]? with
 | some (.lo q ls)=>(d0 Z).bind fun a=>(d2 Z).bind fun b=>(F ls [a,b]).bind fun r=>some (.nx ((Z.set i (.lo q r.1)).set j (.cl r.2)))
 | _=>none
def FD(K:Fr)(i:Nat)(F:Addr->List (List D)->List D->Option (List (List D)×D))(d0 d2:DE):TE:=Wv (kY K F) [] E0 (Jk (tE K d0) (Jk (J_ i) (Jk (tE K d2) Y0)))
theorem AW{F:Addr->List (List D)->List D->Option (List (List D)×D)}{F0:List (List D)->List D->Option (List (List D)×D)}(hF:∀l ls ds r,F0 ls ds=some r->F l ls ds=some r)(h:PS X st (Yp (FD K i F d0 d2) (YA j))):PS X st (tS K (zA j i F0 d0 d2)):=jT h fun D U H xx=>by
 obtain⟨H0,O0,Z,O,r,R,ed,f⟩:=xx;unfold zA at ed;split at ed
 ·rename_i q ls hi;obtain⟨a,q0,ed⟩:=j0 ed;obtain⟨b,q2,ed⟩:=j0 ed;obtain⟨⟨ms,rd⟩,q4,ed⟩:=j0 ed;cases ed;obtain⟨l,_,_,hs,_⟩:=R.swap hi;refine⟨H0,O0,Z,O,a,R,q0,fun v0 H1 s1 r0=>⟨_,hs,H0,O0,Z,O,b,R.grow s1,q2,fun v2 H2 s2 r2=>?_⟩⟩;have s12:=s1.trans s2;obtain⟨l',ps,O1,hs',lat,nd,al,sub,fin⟩:=(R.grow s12).swap hi;rw[hs]at hs';cases hs';have sd:j3 (j7 H2 O) (j7 H2 (l::ps++O1)):=jY sub;refine⟨O1,l,ps,ls,a,[b],v0,[v2],ms,rd,rfl,lat,nd,al,j4.cons ((r0.same (jc s2)).same sd) (j4.cons (r2.same sd) j4.nil),hF _ _ _ _ q4,fun ps' H' u s4 nd' hn at2 ru=>?_⟩;obtain⟨R3,s5⟩:=fin H2 H' ps' ms (j3.refl _) s4 nd' hn at2;exact f _ _ _ (R3.set ru j) ((jc s12).trans s5)
 ·cases ed
theorem AX{F:Addr->List (List D)->List D->Option (List (List D)×D)}(G:FnI X.prog X.w X.K X.mg X.base k x ps (kY X.K F))(hr:Room k X.A)(h0:PE X e0 (tE X.K d0))(h1:PE X e1 (J_ i))(h2:PE X e2 (tE X.K d2))(n0:∀r:List Expr,starEach (e0::r) X.env=(false,eval e0 X.env)::starEach r X.env)(n1:∀r:List Expr,starEach (e1::r) X.env=(false,eval e1 X.env)::starEach r X.env)(n2:∀r:List Expr,starEach (e2::r) X.env=(false,eval e2 X.env)::starEach r X.env)
  (hg:Gl X x) (hdb:(x==("__debug__" : Str))=false):PE X (.Call (.Name x p) [e0,e1,e2] [] pos) (FD X.K i F d0 d2):=
 (WB G hr (jx h0 (jx h1 (jx h2 jU (n2 _)) (n1 _)) (n0 _)) hg hdb (n0 _) (by rw[n1,n2];rfl))
end
end DS
namespace L2
open PySem PySem.Spec PyProof.Rows PySem.Builtin PySem.Builtin.Str
variable {X:Cx}
theorem Q4:jH X (compareOp .LtE) (fun x y H Q=>∃i j,x=.str i/\y=.str j/\Q (.bl (!(decide (j.cps.toList < i.cps.toList)))) H):=by
 intro pins s U H x y v u Q I rx ry h;obtain⟨i,j,rfl,rfl,q⟩:=h;obtain⟨t,rfl⟩:=rx;obtain⟨t',rfl⟩:=ry;exact PySem.P.le_str (jE I q rfl)
theorem k_:yw X (.type "int") (fun xs H Q=>∃x n,xs=[.str x]/\PySem.intText? x=some n/\x.length<=640/\Q (.int n) H):=by
 intro pins s U H xs us Q I r h;obtain⟨x,n,rfl,h1,h2,q⟩:=h;obtain⟨u,rfl,t,rfl⟩:=zW r;exact PySem.W.KIN.call_text h1 h2 ⟨.int n,H,I.tok _,⟨_,rfl⟩,q⟩
theorem ZN:∀{ts:List Str} {us:List Value},jg (ts.map V.str) us->∃l:List (Str×Tok),strValues l=us/\l.map (·.1)=ts
 | [],_,h=>by cases h;exact⟨[],rfl,rfl⟩
 | x::ts,_,h=>by
  cases h with
  | cons r t=>
   obtain⟨k,rfl⟩:=r;obtain⟨l,e1,e2⟩:=ZN t;exact⟨(x,k)::l,by rw[<-e1];rfl,by rw[<-e2];rfl⟩
theorem GE:∀(l:List (Str×Tok)),jg ((l.map (·.1)).map V.str) (strValues l)
 | []=>.nil
 | (x,t)::l=>.cons ⟨t,rfl⟩ (GE l)
def fq(K:PySem.W.Frag):V->List V->Hp->VK->Prop:=fun x vs H Q=>∃sep p ts,x=.str sep/\vs=[.ref p]/\js K H p (ts.map V.str)/\JoinOk sep ts=true/\Q (.str (Txt.join sep ts)) H
theorem AY:wD X "str.join" (fq X.K):=by
 intro pins s U H x vs v us Q I rx rv h;obtain⟨sep,p,ts,rfl,rfl,hq,hj,q⟩:=h;obtain⟨t,rfl⟩:=rx;obtain⟨u,rfl,ru⟩:=rv.one;cases ru;obtain⟨its,r',pl,hz⟩:=I.list hq;obtain⟨l,rfl,e⟩:=ZN r';exact SC.join pl.isList e hj fun t' k=>⟨.str _,H,I.tok _,⟨_,rfl⟩,q⟩
def Cl:V->List V->Hp->VK->Prop:=fun x vs H Q=>∃a b,x=.str a/\vs=[.str b]/\1<=b.length/\a.length < sizeLine/\∀p,H p=none->Q (.ref p) (upd H p (.lst ((Txt.split a b).map V.str)))
theorem xK:wD X "str.split" Cl:=by
 intro pins s U H x vs v us Q I rx rv h;obtain⟨a,b,rfl,rfl,hb,ha,q⟩:=h;obtain⟨t,rfl⟩:=rx;obtain⟨w',rfl,u,rfl⟩:=rv.one;have hw:=split_weight a b hb;have hy:(b.length==0)=false:=by rw[beq_eq_false_iff_ne];omega
 have fin:∀(l:List (Str×Tok)) (k:Nat),l.map (·.1)=Txt.split a b->EP X pins U Q (.ref s.heap.objs.size) { s with toks:=k,heap:=s.heap.push { cls:=.type "list",data:=.seq (strValues l).toArray } }:=fun l k e=>by
  have r:=GE l;rw[e]at r;exact⟨.ref s.heap.objs.size,_,I.laid (t':=k) (fun b o e=>wIa _ e) (wPa _) (show Jb X.prog X.w _ _ _ (.lst _) from⟨by rw[List.length_map];omega,strValues l,_,r,wJa _ rfl⟩),rfl,q _ (I.hok.fresh (wPa _))⟩
 cases h1:(decide (a.length < b.length)||decide (strKind a < strKind b))
 ·cases hf:(occurrences a b 0 a.length (a.length+1)).isEmpty
  ·have es:Txt.split a b=partsBetween a (occurrences a b 0 a.length (a.length+1)) b.length:=(if_neg (ne_true_of_eq_false h1)).trans (if_neg (ne_true_of_eq_false hf));have hz2:(partsBetween a (occurrences a b 0 a.length (a.length+1)) b.length).length<=sizeLine:=by rw[<-es];omega
   refine call_meets F.slot_str_split (typeIs_str _ _ _) F.entry_str_split (F.args_str_split_2 _ _) (meets_str_split_sep a b t u h1 hy hf (by omega) hz2) ?_;show wants _ _ _ { s with toks:=_,heap:=s.heap.push { cls:=.type "list",data:=.seq (strsFrom s.toks (partsBetween a (occurrences a b 0 a.length (a.length+1)) b.length)).toArray } };rw[strsFrom_eq];exact fin (numbered s.toks _) _ ((numbered_texts _ _).trans es.symm)
  ·exact call_meets F.slot_str_split (typeIs_str _ _ _) F.entry_str_split (F.args_str_split_2 _ _) (meets_str_split_not_found a b t u h1 hy hf) (fin [(a,t)] _ ((if_neg (ne_true_of_eq_false h1)).trans (if_pos hf)).symm)
 ·exact call_meets F.slot_str_split (typeIs_str _ _ _) F.entry_str_split (F.args_str_split_2 _ _) (meets_str_split_cannot_occur a b t u h1) (fin [(a,t)] _ (if_pos h1).symm)
def fu:V->List V->Hp->VK->Prop:=fun x vs H Q=>∃a b,x=.str a/\vs=[.str b]/\1<=b.length/\a.length < sizeLine/\∀p,H p=none->Q (.ref p) (upd H p (.tup [.str (Txt.partition a b).1,.str (Txt.partition a b).2.1,.str (Txt.partition a b).2.2]))
theorem AZ:wD X "str.partition" fu:=by
 intro pins s U H x vs v us Q I rx rv h;obtain⟨a,b,rfl,rfl,hb,ha,q⟩:=h;obtain⟨t,rfl⟩:=rx;obtain⟨w',rfl,u,rfl⟩:=rv.one;have hy:(b.length==0)=false:=by rw[beq_eq_false_iff_ne];omega
 have fin:∀(k ta tb tc:Nat),EP X pins U Q (.ref s.heap.objs.size) { s with toks:=k,heap:=s.heap.push { cls:=.type "tuple",data:=.seq [.str (Txt.partition a b).1 ta,.str (Txt.partition a b).2.1 tb,.str (Txt.partition a b).2.2 tc].toArray } }:=fun k ta tb tc=>
  ⟨.ref s.heap.objs.size,_,I.laid (t':=k) (fun b o e=>wIa _ e) (wPa _) (show Jb X.prog X.w _ _ _ (.tup _) from⟨by show 3<=sizeLine;decide,[.str (Txt.partition a b).1 ta,.str (Txt.partition a b).2.1 tb,.str (Txt.partition a b).2.2 tc],.cons (show jq (.str _) _ from⟨ta,rfl⟩) (.cons (show jq (.str _) _ from⟨tb,rfl⟩) (.cons (show jq (.str _) _ from⟨tc,rfl⟩) .nil)),IsTup.new _ _⟩),rfl,q _ (I.hok.fresh (wPa _))⟩
 refine call_meets F.slot_str_partition (typeIs_str _ _ _) F.entry_str_partition (F.args_str_partition_2 _ _) (meets_str_partition a b t u hy (by omega)) ?_;unfold Txt.partition at fin
 revert fin
 cases occurrences a b 0 a.length 1 with
 | nil=>intro fin;exact fin _ _ _ _
 | cons i r=>intro fin;exact fin _ _ _ _
end L2
namespace DS
open PySem PySem.Spec PyProof.Rows L2
@[simp] noncomputable def ZO(de:DE)(Z:j6):Option D:=(de Z).bind fun x=>match x with
 | .int i=>if i.natAbs.log2 < 1920 then some (.str (toString i))else none
 | .str y=>if y.length<=sizeLine then some (.str y)else none
 | _=>none
noncomputable def Q5:List DE->Str->DI
 | [],acc,_=>some [.str acc]
 | d::ds,acc,Z=>(d Z).bind fun x=>match x with
  | .str y=>if (acc++y).length<=sizeLine then Q5 ds (acc++y) Z else none
  | _=>none
def gP(ds:List DE):DE:=fun Z=>(Q5 ds Str.empty Z).bind fun l=>match l with
 | [.str y]=>if y.length<=sizeLine then some (.str y)else none
 | _=>none
inductive PFs (X:Cx) (K:Fr):List Expr->List DE->Prop
 | nil:PFs X K [] []
 | cons {e:Expr} {d:DE} {es:List Expr} {ds:List DE}:PE X e (tE K d)->PFs X K es ds->PFs X K (e::es) (d::ds)
section
variable {X:Cx} {K:Fr} {e:Expr} {de:DE} {pos:Pos}
theorem ig(h:PE X e (tE K de)):PE X (.FormattedValue e (-1) none pos) (tE K (ZO de)):=fun pins s U H Q I xx=>by
 obtain⟨H0,O0,Z,O,d,R,ed,q⟩:=xx;obtain⟨x,e1,ed⟩:=j0 ed;refine wpAny_FormattedValue_plain (ji (h pins s U H (fun v H'=>j3 H H'/\j8 K (j7 H' O) x v) I ⟨H0,O0,Z,O,x,R,e1,fun v H' s' r=>⟨s',r⟩⟩) fun v s1 yy=>?_)
 obtain⟨w,H1,I1,rv,ss,r⟩:=yy;cases x with
 | int i=>
  dsimp only at ed;split at ed
  ·rename_i hz;cases ed;rw[j8]at r;subst r;obtain⟨t,rfl⟩:=rv;exact wpAny_formatField_int hz ⟨.str _,H1,I1.tok _,⟨_,rfl⟩,q _ H1 ss (by rw[j8])⟩
  ·cases ed
 | str y=>
  dsimp only at ed;split at ed
  ·rename_i hz;cases ed;rw[j8]at r;subst r;obtain⟨t,rfl⟩:=rv;have fin:∀t' tk,EP X pins U Q (.str y t') { s1 with toks:=tk }:=fun t' tk=>⟨.str y,H1,I1.tok _,⟨_,rfl⟩,q _ H1 ss (by rw[j8])⟩
   exact PyProof.Rows.formatField_str fin hz
  ·cases ed
 | _=>cases ed
theorem xL{es:List Expr}{ds:List DE}(h:PFs X K es ds):∀{acc:Str} {out:List D} {pins:List (Addr×Obj)} {s:Shared} {U:L2.St} {H H0:Hp} {O0 O:List Addr} {Z:j6} {Q:Str->Shared->Prop},Inv X pins U H s->Rel K H0 O0 Z U H O->Q5 ds acc Z=some out->
  (∀s' H' y,j3 H H'->Inv X pins U H' s'->out=[.str y]->Q y s')->Joins (model X.prog X.w) X.A X.xe (evalEach es X.env) acc Q s:=by
 induction h with
 | nil=>
  intro acc out pins s U H H0 O0 O Z Q I R ed q;exact q s H acc (j3.refl H) I (by cases ed;rfl)
 | @cons e d es ds he _ ih=>
  intro acc out pins s U H H0 O0 O Z Q I R ed q;obtain⟨x,e1,ed⟩:=j0 ed;cases x with
  | str y=>
   dsimp only at ed;split at ed
   ·rename_i hz;refine ji (he pins s U H (fun v H'=>j3 H H'/\v=.str y) I ⟨H0,O0,Z,O,_,R,e1,fun v H' s' r=>⟨s',by rw[j8]at r;exact r⟩⟩) fun v s1 yy=>?_;obtain⟨w,H1,I1,rv,ss,rfl⟩:=yy;obtain⟨t,rfl⟩:=rv;exact⟨y,t,rfl,hz,ih I1 (R.grow ss) ed fun s' H' z s2 I' ez=>q s' H' z (ss.trans s2) I' ez⟩
   ·cases ed
  | _=>cases ed
theorem Cm{v1 v2:Expr}{rest:List Expr}{ds:List DE}(h:PFs X K (v1::v2::rest) ds):PE X (.JoinedStr (v1::v2::rest) pos) (tE K (gP ds)):=fun pins s U H Q I xx=>by
 obtain⟨H0,O0,Z,O,d,R,ed,q⟩:=xx;obtain⟨l,e1,ed⟩:=j0 ed;refine wpAny_JoinedStr (xL h I R e1 fun s' H' y ss I' el=>?_);subst el;dsimp only at ed;split at ed
 ·rename_i hz;cases ed;exact⟨hz,.str y,H',I'.tok _,⟨_,rfl⟩,q _ H' ss (by rw[j8])⟩
 ·cases ed
def Cn(x:Str):It:=⟨fun i _=>i < x.cps.size,fun i H v H'=>H'=H/\∃c,x.cps[i]?=some c/\v=.str ⟨#[c]⟩,fun i _=>x.cps.size<=i⟩
theorem A_{x:Str}{i:Nat}(h:i < x.cps.size):x.cps[i]?=some x.cps[i]:=by simp[h]
theorem xM{P:Program}{w:World}{K:PySem.W.Frag}{tg:Expr}(it:Addr)(x:Str)(t:Tok)(ty:String)(hty:ty = "str_ascii_iterator" \/ ty = "str_iterator"):Turn P w K tg (Cn x) [it] it (fun i h=>h.IsStrIter it ty x t i) where
 mem:=by simp
 obj:=fun i h st b hb=>by
  have e:b=it:=by simpa using hb
  subst e;obtain⟨o,e,c,d⟩:=st;exact⟨o,e,fun v z=>by rw[d]at z;cases z⟩
 keep:=fun i h h' st k=>by
  obtain⟨o,e,c⟩:=st;exact⟨o,k it (by simp) o e,c⟩
 item:=by
  intro X hP hw hK hc i pins s U H E I hf st hg;subst hP hw hK;have hx:=A_ (show i < x.cps.size from hg);obtain⟨f0,f1,f2,f3,f4,f5⟩:=hf it (by simp);have fin:∀(h':Heap),h'.IsStrIter it ty x t (i+1)->Heap.SameBut it s.heap h'->∃u,some (Value.str ⟨#[x.cps[i]]⟩ s.toks)=some u/\wpAny (model X.prog X.w) X.A (letOwnedTupleGo tg (.ref it) u) (fun _ s2=>∃v H',Inv X pins U H' s2/\jq v u/\(Cn x).yld i H v H'/\s2.heap.IsStrIter it ty x t (i+1)/\∀b∈[it],H' b=none) E { s with heap:=h',toks:=s.toks+1 }:=fun h' st' sb=>by
   have I1:Inv X pins U H { s with heap:=h',toks:=s.toks+1 }:=I.turned (t':=s.toks+1) (fun b o hb e=>(sb.2 b hb).trans e) f0 f1 f3 f4 f5;obtain⟨o,e,c,d⟩:=id st';exact⟨_,rfl,G_ (s:={ s with heap:=h',toks:=s.toks+1 }) e c d (by rcases hty with rfl | rfl <;> decide) ⟨.str ⟨#[x.cps[i]]⟩,H,I1,⟨_,rfl⟩,⟨rfl,_,hx,rfl⟩,st',fun b hb=>(hf b hb).1⟩⟩
  rcases hty with rfl | rfl
  ·exact wpAny_pyNext_ascii_item st hx fin
  ·exact wpAny_pyNext_wide_item st hx fin
 done:=by
  intro X hP hw hK hc i pins s U H E I hf st hg;subst hP hw hK;have hx:x.cps[i]?=none:=by simpa using (show x.cps.size<=i from hg)
  obtain⟨f0,f1,f2,f3,f4,f5⟩:=hf it (by simp);have fin:∀h',Heap.ExtBut it s.heap h'->(none:Option Value)=none/\Inv X pins U H { s with heap:=h' }:=fun h' eb=>⟨rfl,I.turned (t':=s.toks) (fun b o hb e=>eb b o hb e) f0 f1 f3 f4 f5⟩
  rcases hty with rfl | rfl
  ·exact wpAny_pyNext_ascii_end (I.ok.hd hc) st hx fin
  ·exact wpAny_pyNext_wide_end (I.ok.hd hc) st hx fin
 self:=fun _ _ _ _ _ st h=>by
  rcases hty with rfl | rfl
  ·exact wpAny_pyIter_striter_ascii st h
  ·exact wpAny_pyIter_striter_wide st h
noncomputable def Us(x:Str):List D:=x.cps.toList.map fun c=>D.str ⟨#[c]⟩
@[simp] def WN(de:DE)(Z:j6):Option (List D):=(de Z).bind fun d=>match d with
 | .str x=>some (Us x)
 | _=>none
theorem Co{H0 H:Hp}{O0 O:List Addr}(x:Str):kO K (Cn x) H0 O0 H O (Us x):=fun i H' O' _ _ _ _=>by
 have hl:(Us x).length=x.cps.size:=by simp[Us]
 refine⟨fun d hd=>?_,fun hi=>by show x.cps.size<=i;omega⟩;have hi:i < x.cps.size:=by have:=(List.getElem?_eq_some_iff.mp hd).1;omega
 refine⟨hi,fun v H'' yy=>?_⟩;obtain⟨rfl,c,hc,rfl⟩:=yy;unfold Us at hd;rw[List.getElem?_map]at hd;have:x.cps.toList[i]?=some c:=by simpa using hc
 rw[this]at hd;cases hd;exact⟨j3.refl _,by rw[j8]⟩
theorem fv{tg:Expr}(h:PE X e (tP K de))(hK:X.K=K:=by rfl):PI X tg e (zx K (WN de)):=fun pins s U H R I xx=>by
 subst hK;obtain⟨H0,O0,Z,O,items,Re,ed,q⟩:=xx;obtain⟨d,e1,ed⟩:=j0 ed;cases d with
 | str x=>
  cases ed;refine ji (h pins s U H (fun v H'=>j3 H H'/\v=.str x) I ⟨H0,O0,Z,O,_,Re,e1,fun v H' s' r=>⟨s',?_⟩⟩) fun v s1 yy=>?_
  ·have R1:=Re.grow s';exact(r.at R1.keep R1.in0 (j3.refl _)).str
  ·obtain⟨w,H1,I1,rv,ss,rfl⟩:=yy;obtain⟨t,rfl⟩:=rv;refine wpAny_pyIter_strU ?_;refine⟨s1.heap.objs.size,[s1.heap.objs.size],_,_,H1,rfl,I1.kept (t':=s1.toks) fun b o e=>wIa _ e,xM _ x t (strIterType x) (by unfold strIterType;split <;> simp),⟨_,wJa _ rfl,rfl,rfl⟩,fun b hb=>?_,q _ H1 ss (Co x)⟩;have e:b=s1.heap.objs.size:=by simpa using hb
   subst e;exact I1.fpOk (wPa _) (I1.hok.fresh (wPa _))
 | _=>cases ed
end
end DS
namespace L2
open PySem PySem.Spec PyProof.Rows
section
variable {prog:Program} {w:World} {A:Around} {E:Value->Shared->Prop} {s:Shared}
theorem WO{I:Addr}{fp wr:List Addr}{n:Nat}{P:Nat->Value->Prop}{T:Nat->Heap->Prop}(W:Walks prog w A I fp wr (n+1) P T):Walks prog w A I fp wr n (fun i=>P (i+1)) (fun i=>T (i+1)) where
 sub:=W.sub
 frame:=fun i h h'=>W.frame (i+1) h h'
 item:=fun i s Q E hi st hQ=>W.item (i+1) s Q E (by omega) st hQ
 done:=fun s Q E st hQ=>W.done s Q E st hQ
 self:=fun i s Q E st hQ=>W.self (i+1) s Q E st hQ
theorem KW{p:Addr}{x:Value}{its:List Value}{R:List Value->Shared->Prop}(hh:A.handled=none)(hp:s.heap.IsList p (x::its).toArray)(hz:its.length<=sizeLine)
  (hR:∀(h':Heap) (tk:Nat),(∀b o,s.heap.get? b=some o->h'.get? b=some o)->R [x,.ref h'.objs.size] { s with heap:=h'.push { cls:=.type "list",data:=.seq its.toArray },toks:=tk }):wpAny (model prog w) A (unpackItems (.ref p) 2 (some 1)) R E s:=by
 have ne:p≠s.heap.objs.size:=by obtain⟨o,ho,_⟩:=hp;exact wTa (wLa ho)
 unfold unpackItems;refine wAa ?_;unfold notIterableAtAll;refine wAa (wpAny_specialOf hp.typeIs slot_list_iter.lookup (wBa ?_));simp only[Bool.false_eq_true,if_false];refine wAa (wDa (wpAny_pyIter_list hp ?_));have it0:(s.heap.push { cls:=.type "list_iterator",data:=.fields #[.ref p,.int 0 0] }).IsListIter s.heap.objs.size p 0:=⟨_,wJa _ rfl,rfl,rfl⟩
 have hp0:=hp.push { cls:=.type "list_iterator",data:=.fields #[.ref p,.int 0 0] };show wpAny _ _ (holding [.ref s.heap.objs.size] (draw (.ref s.heap.objs.size) 1) >>= _) _ _ _;refine wAa (wDa ?_);show wpAny _ _ (pyNext (.ref s.heap.objs.size) >>= _) _ _ _;refine wAa (wpAny_pyNext_list_item it0 hp0 (x:=x) (by simp) fun h1 it1 sb1=>?_);refine wAa (wDa (wBa (wBa ?_)));rw[if_neg (by simp)];have hp1:h1.IsList p (x::its).toArray:=hp0.extBut sb1.extBut ne;have W0:=Walks.list (prog:=prog) (w:=w) (A:=A.in1) hh s.heap.objs.size p ne (x::its).toArray;have W1:Walks prog w A.in1 s.heap.objs.size [s.heap.objs.size,p] [s.heap.objs.size] (its.length+1) (fun i v=>(x::its).toArray[i]?=some v) (fun i h=>h.IsListIter s.heap.objs.size p i/\h.IsList p (x::its).toArray):=by
  have:=W0;simpa using this
 have W2:=WO W1;have lt1:∀b∈[s.heap.objs.size,p],b < h1.objs.size:=fun b hb=>by
  have e1:h1.objs.size=s.heap.objs.size+1:=sb1.1.trans (Heap.size_push ..);obtain⟨o,ho,_⟩:=hp;rw[e1];rcases List.mem_cons.mp hb with h | h
  ·rw[h];exact Nat.lt_succ_self _
  ·rw[List.mem_singleton.mp h];exact Nat.lt_succ_of_lt (wLa ho)
 refine wAa (wDa (wpAny_collect_iter (T := "list_iterator") (by simp) W2.toS (fun i s st=>by obtain⟨o,ho,hc,_⟩:=st.1;exact⟨o,ho,hc⟩) ⟨it1,hp1⟩ lt1 (by simp) (fun s' acc mv ac=>?_) hz));obtain⟨h',g',d',tk',os'⟩:=s';obtain⟨mh,mg,md,mo,mt⟩:=mv;dsimp only at mg md mo;subst mg md mo;have ea:acc.toList=its:=by
  apply List.ext_getElem?;intro j;by_cases hj:j < its.length
  ·have hs:j < acc.size:=by rw[ac.1];exact hj
   have h2:=ac.2 j acc[j] (by simp[hs]);have h3:acc.toList[j]?=some acc[j]:=by simp[hs]
   rw[h3,<-h2];simp
  ·rw[List.getElem?_eq_none (by simp[ac.1];omega),List.getElem?_eq_none (by omega)]
 rw[ea];have kp:∀b o,s.heap.get? b=some o->h'.get? b=some o:=fun b o e=>by
  have nb:b≠s.heap.objs.size:=wTa (wLa e);exact mh b o (by simpa using nb) (sb1.extBut b o nb (wIa _ e))
 rw[if_neg (by simp)];simp only[Nat.sub_self,Nat.sub_zero,List.take_length,List.drop_length,List.append_nil];refine wAa (vTa ?_ hz);exact wBa (hR h' tk' kp)
end
end L2
namespace L2
open PySem PySem.Spec PyProof.Rows
open AutoSeq1 (wpAny_loadPart')
theorem xN(a v:Value):checkTypeCall "enumerate" ⟨[a],[("start",v)]⟩=pure ():=by kernel_rfl
theorem xO(a v:Value):checkBuiltinCall "enumerate.__new__" ⟨[.type "enumerate",a],[("start",v)]⟩=pure ():=by kernel_rfl
theorem Q6(l:Addr)(xs:Array Value)(c:Nat)(dx:Option Addr)(sl:Array (Option Value))(k:Tok):
  Meets (Builtin.«enumerate.__new__» ⟨[.type "enumerate",.ref l],[("start",.int 1 k)]⟩) (fun _ R s=>s.heap.get? l=some { cls:=.type "list",dict:=dx,data:=.seq xs c,slots:=sl }/\
   R (.ok (.ret (.ref (s.heap.push { cls:=.type "list_iterator",data:=.fields #[.ref l,.int 0 0] }).objs.size)))
    { s with heap:=(s.heap.push { cls:=.type "list_iterator",data:=.fields #[.ref l,.int 0 0] }).push { cls:=.type "enumerate",data:=.fields #[.none,.bool false,.ref s.heap.objs.size,rawInt 1,.none,.none] } }):=by
 refine .of_wp fun prog w A R s h=>?_;obtain⟨hp,g,d,tk,os⟩:=s;obtain⟨hl,h⟩:=h;have hsub:=sub_enumerate;have hL:Heap.IsList (Shared.heap ⟨hp,g,d,tk,os⟩) l xs:=⟨_,hl,rfl,c,rfl⟩
 wp_walk using wpAny_loadPart' hl
 refine wpAny_stack_any fun st=>wBa ?_;split
 ·rename_i c' _ _ _ _ _;cases (c'==Value.type "enumerate")
  ·wp_walk using wpAny_loadPart' hl,wpAny_pyIter_list hL
   exact⟨_,rfl,h⟩
  ·wp_walk using wpAny_loadPart' hl,wpAny_pyIter_list hL
   exact⟨_,rfl,h⟩
 ·wp_walk using wpAny_loadPart' hl,wpAny_pyIter_list hL
  exact⟨_,rfl,h⟩
end L2
namespace L2
open PySem PySem.Spec PyProof.Rows
section
variable {prog:Program} {w:World} {A:Around} {E:Value->Shared->Prop} {s:Shared}
theorem xP(a b v:Value):argsOk "object.__init__" ⟨[a,b],[("start",v)]⟩:=by
 unfold argsOk;rw[signature?_of (id := "object.__init__") (n:=['_','_','t','i','n','i','_','_']) (o:=['t','c','e','j','b','o']) (by kernel_rfl) PySem.F.owner_object];kernel_rfl
theorem xQ{self a v:Value}:Meets (Builtin.«object.__init__» ⟨[self,a],[("start",v)]⟩) (fun _ R s=>s.TypeIs self "enumerate" /\R (.ok (.ret .none)) s):=by
 refine Meets.of_wp fun prog w A R s hs=>?_;obtain⟨hT,hq⟩:=hs;have hl:=PySem.F.called_enumerate.init.lookup;have hm:=PySem.F.called_enumerate.made
 repeat (any_goals (first | assumption | wp_step))
 exact⟨_,rfl,hq⟩
theorem WP{l:Addr}{xs:Array Value}{k:Tok}{Q:Value->Shared->Prop}(hL:s.heap.IsList l xs)
  (h:∀h',IsEnum h' (s.heap.objs.size+1) s.heap.objs.size 1 .none->h'.IsListIter s.heap.objs.size l 0->(∀b o,s.heap.get? b=some o->h'.get? b=some o)->Q (.ref (s.heap.objs.size+1)) { s with heap:=h' }):
  wpAny (model prog w) A (call (.type "enumerate") [.ref l] [("start",.int 1 k)]) Q E s:=by
 obtain⟨⟨c,dx,dt,sl⟩,hl,hc,n,hd⟩:=hL;have hc:c=.type "list" := hc;have hd:dt=.seq xs n:=hd;subst hc hd;have ft:=PySem.F.called_enumerate;obtain⟨c,tl,hmro⟩:=ft.mro;have hmade:=ft.made;have hsub:=ft.sub;refine wHa (codeAny_of_tree ?_);show wpAny _ _ (callAny (.type "enumerate") _) _ _ _;refine wBa ⟨Code.quiet_builtin _ (by decide +kernel),vSa PySem.F.entry_type_call ?_⟩;rw[Around.under_plain (weight_type_call_type "enumerate" [.ref l] [("start",.int 1 k)]) (units_type_call_type "enumerate" [.ref l] [("start",.int 1 k)])];have h1:=ft.notType;have h2:=ft.canCreate;have hct:=xN (.ref l) (.int 1 k)
 repeat (any_goals (first | assumption | wp_step))
 have hz:(s.heap.push { cls:=.type "list_iterator",data:=.fields #[.ref l,.int 0 0] }).objs.size=s.heap.objs.size+1:=Heap.size_push ..
 let G:Result->Shared->Prop:=fun r s'=>r=.ok (.ret (.ref (s.heap.objs.size+1)))/\s'={ s with heap:=(s.heap.push { cls:=.type "list_iterator",data:=.fields #[.ref l,.int 0 0] }).push { cls:=.type "enumerate",data:=.fields #[.none,.bool false,.ref s.heap.objs.size,rawInt 1,.none,.none] } }
 have kk:=Q6 l xs n dx sl k prog w A.in1 G s ⟨hl,by rw[hz],rfl⟩;refine codeAny_mono (codeAny_call_builtin (R:=G) ft.plain PySem.F.entry_enumerate_new (wpAny_of_eq (xO (.ref l) (.int 1 k)) kk)) fun r s1 hr=>?_;obtain⟨rfl,rfl⟩:=hr;have e1:((s.heap.push { cls:=.type "list_iterator",data:=.fields #[.ref l,.int 0 0] }).push { cls:=.type "enumerate",data:=.fields #[.none,.bool false,.ref s.heap.objs.size,rawInt 1,.none,.none] }).get? (s.heap.objs.size+1)=some { cls:=.type "enumerate",data:=.fields #[.none,.bool false,.ref s.heap.objs.size,rawInt 1,.none,.none] }:=by rw[<-hz];exact wJa _ rfl
 have hT:Shared.TypeIs { s with heap:=(s.heap.push { cls:=.type "list_iterator",data:=.fields #[.ref l,.int 0 0] }).push { cls:=.type "enumerate",data:=.fields #[.none,.bool false,.ref s.heap.objs.size,rawInt 1,.none,.none] } } (.ref (s.heap.objs.size+1)) "enumerate" := ⟨_,e1,rfl⟩
 have fin:=h _ e1 ⟨_,wIa _ (wJa _ rfl),rfl,rfl⟩ fun b o e=>wIa _ (wIa _ e);generalize (s.heap.push { cls:=.type "list_iterator",data:=.fields #[.ref l,.int 0 0] }).push { cls:=.type "enumerate",data:=.fields #[.none,.bool false,.ref s.heap.objs.size,rawInt 1,.none,.none] }=h' at hT fin⊢;clear kk e1 hl;have hli:=ft.init.lookup;have hbi:=ft.init.bind (.ref (s.heap.objs.size+1))
 repeat (any_goals (first | assumption | wp_step))
 let G2:Result->Shared->Prop:=fun r s'=>r=.ok (.ret .none)/\s'={ s with heap:=h' }
 have k2:=xQ (self:=.ref (s.heap.objs.size+1)) (a:=.ref l) (v:=.int 1 k) prog w A.in1 G2 { s with heap:=h' } ⟨hT,rfl,rfl⟩;refine codeAny_mono (codeAny_call_builtin (R:=G2) ft.init.plain PySem.F.entry_object_init (ft.init.check _ _ _ _ _ _ _ _ hT (xP _ _ _) k2)) fun r s2 hr=>?_;obtain⟨rfl,rfl⟩:=hr
 repeat (any_goals (first | assumption | wp_step))
end
theorem xR{prog:Program}{w:World}{A:Around}{it:Addr}{fp:List Addr}{n:Nat}{P:Nat->Value->Prop}{T:Nat->Heap->Prop}(D:Draws prog w A it fp n P T):Draws prog w A it fp (n+1) (fun j v=>∃i,j=i+1/\P i v) (fun j h=>∃i,j=i+1/\T i h) where
 live:=fun j h x=>by obtain⟨i,_,t⟩:=x;exact D.live i h t
 frame:=fun j h h' x k=>by obtain⟨i,e,t⟩:=x;exact⟨i,e,D.frame i h h' t k⟩
 item:=fun j s Q E hj x hQ=>by
  obtain⟨i,rfl,t⟩:=x;exact D.item i s Q E (by omega) t fun v h' tk p t' sb=>hQ v h' tk ⟨i,rfl,p⟩ ⟨i+1,rfl,t'⟩ sb
 done:=fun s Q E x hE=>by
  obtain⟨i,e,t⟩:=x;have:i=n:=by omega
  subst this;exact D.done s Q E t hE
def Cp(K:PySem.W.Frag)(a:Addr):It:=
 ⟨fun i H=>∃xs x,js K H a xs/\xs[i]?=some x,fun i H v H'=>∃p,H p=none/\v=.ref p/\∀xs x,js K H a xs->xs[i]?=some x->H'=upd H p (.tup [.int ((i:Int)+1),x]),fun i H=>∃xs,js K H a xs/\xs.length<=i⟩
theorem WQ{P:Program}{w:World}{K:PySem.W.Frag}{es:List Expr}{x1:Nat}{tp:Pos}{a e it:Addr}(hei:e≠it)(hle:a≠e)(hli:a≠it):
  Turn P w K (.Tuple es x1 tp) (Cp K a) [e,it] e (fun i h=>(∃old,IsEnum h e it ((i+1:Nat):Int) old)/\h.IsListIter it a i) where
 mem:=by simp
 obj:=fun i h st c hc=>by
  obtain⟨⟨old,s1⟩,s2⟩:=st;rcases List.mem_cons.mp hc with rfl | hc
  ·exact⟨_,s1,fun v z=>by cases z⟩
  ·rw[List.mem_singleton.mp hc];obtain⟨o,ho,_,d⟩:=s2;exact⟨o,ho,fun v z=>by rw[d]at z;cases z⟩
 keep:=fun i h h' st kk=>by
  obtain⟨⟨old,s1⟩,s2⟩:=st;exact⟨⟨old,kk e (by simp) _ s1⟩,s2.at fun o z=>kk it (by simp) o z⟩
 item:=by
  intro X hP hw hK hc i pins s U H E I hf st hg;subst hP hw hK;obtain⟨⟨old,s1⟩,s2⟩:=st;obtain⟨xs,x,qa,ex⟩:=hg;obtain⟨ia,ra,pa,_⟩:=I.list qa;obtain⟨ux,eux,rx⟩:=ra.get ex;have D:=xR (Draws.list (prog:=X.prog) (w:=X.w) (A:=X.A.in1) (I.ok.hd hc) it a hli ia.toArray);have lt1:e < s.heap.objs.size:=wLa s1;have lt2:it < s.heap.objs.size:=by obtain⟨o,ho,_⟩:=s2;exact wLa ho
  refine wpAny_pyNext_enum_itemD D s1 ⟨i,rfl,s2,pa.isList⟩ (by have:=(List.getElem?_eq_some_iff.mp eux).1;simp;omega) hei (by simp[hei,hle.symm]) fun y h' tk hy b1 b2 b3 b4 bk=>?_;obtain⟨i',e',hy⟩:=hy;have e':i'=i:=by omega
  subst e';have ey:y=ux:=by
   have:ia[i']?=some y:=by simpa using hy
   rw[eux]at this;cases this;rfl
  subst ey;obtain⟨i2,e2,b2,_⟩:=b2;have e2:i2=i' + 1:=by omega
  subst e2;refine⟨_,rfl,wpAny_letOwnedTupleGo_enum b1 fun h2 c1 c2=>?_⟩;have kp:∀c o,c∉[e,it]->s.heap.get? c=some o->h2.get? c=some o:=fun c o hc z=>by
   simp only[List.mem_cons,List.not_mem_nil,or_false,not_or]at hc;exact c2.extBut c o hc.1 (bk c o hc.1 hc.2 z)
  have ht:IsTup h2 s.heap.objs.size ([.int ((i' + 1:Nat):Int) tk,y]:List Value).toArray:=⟨_,c2.extBut _ _ (Nat.ne_of_gt lt1) b3,rfl,_,rfl⟩
  have I2:=I.tupled (t':=tk+1) (h':=h2) rfl hf kp (vs:=[.int ((i' + 1:Nat):Int),x]) (us:=[.int ((i' + 1:Nat):Int) tk,y]) (.cons ⟨_,rfl⟩ (.cons rx .nil)) zv ht;refine⟨.ref s.heap.objs.size,_,I2,rfl,⟨s.heap.objs.size,I.hok.fresh (wPa _),rfl,fun xs' x' qa' ex'=>?_⟩,⟨⟨y,by simpa using c1⟩,b2.at fun o z=>c2.extBut _ o hei.symm z⟩,fun c hc=>?_⟩
  ·rw[I.list_inj qa' qa,ex]at ex';cases ex';rfl
  ·have q:=(hf c hc).1;rw[je ?_]
   ·exact q
   ·intro z;rcases List.mem_cons.mp hc with rfl | hc
    ·rw[z]at lt1;exact wUa _ lt1
    ·rw[List.mem_singleton.mp hc]at z;rw[z]at lt2;exact wUa _ lt2
 done:=by
  intro X hP hw hK hc i pins s U H E I hf st hg;subst hP hw hK;obtain⟨⟨old,s1⟩,s2⟩:=st;obtain⟨xs,qa,hend⟩:=hg;obtain⟨ia,ra,pa,_⟩:=I.list qa;have la:=ra.length;have D:Draws X.prog X.w X.A.in1 it [it,a] 0 (fun _ _=>False) (fun _ h=>h.IsListIter it a i/\h.IsList a ia.toArray):=
   ⟨fun _ _ t=>by obtain⟨o,ho,_⟩:=t.1;exact⟨o,ho⟩,fun _ h h' t k=>⟨t.1.at fun o z=>k it (by simp) o z,t.2.at fun o z=>k a (by simp) o z⟩,fun _ _ _ _ z=>vDa z (Nat.not_lt_zero _),fun s Q E t hE=>wpAny_nextOf_list_end (I.ok.hd hc) t.1 t.2 (by simp;omega) hE⟩
  refine wpAny_pyNext_enum_endD D s1 ⟨s2,pa.isList⟩ fun h' bk=>⟨rfl,?_⟩
  refine I.turnedL (t':=s.toks) (ch:=[e,it]) hf fun c o hc z=>?_;simp only[List.mem_cons,List.not_mem_nil,or_false,not_or]at hc;exact bk c o hc.2 z
 self:=fun _ _ _ _ _ st h=>by
  obtain⟨⟨old,s1⟩,s2⟩:=st;exact wpAny_pyIter_enum s1 h
def Cq(K:PySem.W.Frag)(ta:TA):TI:=fun U H R=>ta U H fun vs H1=>∃a xs,vs=[.ref a]/\js K H1 a xs/\R (Cp K a) H1
theorem Ut{M:Model}{A:Around}{E:Value->Shared->Prop}{s:Shared}{pos:Pos}{T:String}{args:List (Bool×Sem Value)}{kws:List (Option Str×Sem Value)}{Q:Value->Shared->Prop}(h1:args.any (·.1)=false)(h2:kws.any (·.1.isNone)=false)
  (h:wpAny M A (evalArgs (.type T) true args kws) (fun a s1=>wpAny M A (call (.type T) a.pos a.kw) Q E s1) E s):wpAny M A (callWith pos (.type T) [] args kws) Q E s:=by
 unfold callWith;refine wAa (wDa (ji h fun a s1 q=>wAa (vOa ?_)));simp only[h1,h2,Bool.or_false];refine wAa (wBa ?_);exact wAa (ji q fun r s2 hr=>wAa (wDa (wpAny_point (wBa hr))))
theorem xS{X:Cx}{es:List Expr}{x1:Nat}{tp:Pos}{e1:Expr}{ta:TA}{p pos kp cp:Pos}{kk:Nat}(hg:Gl X "enumerate")(hm:X.mg "enumerate" = none)(ha:PA X [e1] ta)(hs:starEach [e1] X.env=[(false,eval e1 X.env)]):
  PI X (.Tuple es x1 tp) (.Call (.Name "enumerate" p) [e1] [⟨some "start",.Constant (.int 1) kk cp,kp⟩] pos) (Cq X.K ta):=by
 intro pins s U H R I h;refine wpAny_Call_Name_kw (zq I hg hm GA ?_ (by decide) (by decide));refine Ut (by rw[hs];rfl) rfl ?_;have hA:=ha pos pins s U H _ I h;rw[hs]at hA⊢;refine evalArgs_kwB rfl (ji hA fun us s1 xx=>?_);obtain⟨vs,H1,I1,r1,q1⟩:=xx;obtain⟨a,xs,rfl,qa,q⟩:=q1;cases r1 with
 | cons r rr=>
  cases rr;cases r;refine kws_cons (wpAny_Constant_int ?_);refine kws_nil ?_;obtain⟨ia,ra,pa,_⟩:=I1.list qa;have lt:a < s1.heap.objs.size:=by obtain⟨o,ho,_⟩:=pa.isList;exact wLa ho
  refine WP pa.isList fun h' b1 b2 bk=>?_;refine wpAny_pyIter_enum b1 ?_;have fr:∀m,Jl X pins H1 (s1.heap.objs.size+m):=fun m=>I1.fpOk (vKa _ _) (I1.hok.fresh (vKa _ _));refine⟨_,_,_,_,H1,rfl,I1.kept (t':=s1.toks+1) bk,WQ (a:=a) (e:=s1.heap.objs.size+1) (it:=s1.heap.objs.size) (Nat.ne_of_gt (Nat.lt_succ_self _)) (wTa (Nat.lt_succ_of_lt lt)) (wTa lt),⟨⟨_,b1⟩,b2⟩,fun c hc=>?_,q⟩;rcases List.mem_cons.mp hc with rfl | hc
  ·exact fr 1
  ·rw[List.mem_singleton.mp hc];exact fr 0
end L2
namespace DS
open PySem PySem.Spec PyProof.Rows L2
section
variable {X:Cx} {K:Fr} {a:Expr} {da:DE} {pos:Pos}
@[simp] def VO(de:DE)(Z:j6):Option (List D):=(de Z).bind fun d=>(ZK d).bind fun l=>some (Jt 1 l)
theorem b7{es:List Expr}{x1:Nat}{tp p kp cp:Pos}{kk:Nat}(hg:Gl X "enumerate")(hm:X.mg "enumerate" = none)(h:PE X a (tP K da))(hs:starEach [a] X.env=[(false,eval a X.env)])(hK:X.K=K):
  PI X (.Tuple es x1 tp) (.Call (.Name "enumerate" p) [a] [⟨some "start",.Constant (.int 1) kk cp,kp⟩] pos) (zx K (VO da)):=UR (xS hg hm (jx h jU (by rw[hs];rfl)) hs) fun U H R xx=>by
 obtain⟨H0,O0,Z,O,items,Re,ed,q⟩:=xx;subst hK;obtain⟨x,e1,ed⟩:=j0 ed;obtain⟨l,e3,ed⟩:=j0 ed;cases ed;refine⟨H0,O0,Z,O,x,Re,e1,fun v H1 s1 r=>?_⟩;have R1:=Re.grow s1;unfold ZK at e3;split at e3
 ·cases e3;obtain⟨p,xs,rfl,h1,h2⟩:=(r.at R1.keep R1.in0 (j3.refl _)).lst;refine⟨p,xs,rfl,js.of h1,q _ H1 s1 fun i H' O' t0 t1 t2 ta=>?_⟩;obtain⟨p',us,ea,g1,g2⟩:=(r.at t0 t1 t2).lst;cases ea;refine⟨fun d hd=>?_,fun hi=>⟨us,js.of g1,by rw[g2.len,hi,VH];exact wPa _⟩⟩;obtain⟨d',hd',rfl⟩:=VI 1 l i d hd;obtain⟨u,hu,ru⟩:=g2.get hd';refine⟨⟨us,u,js.of g1,hu⟩,fun x' H'' yy=>?_⟩;obtain⟨pp,hpp,rfl,yy⟩:=yy;rw[yy _ _ (js.of g1) hu];exact⟨jD hpp _,xB (fun z=>ta pp z hpp) hpp (by rw[j8];congr 1;omega) ru⟩
 ·cases e3
end
end DS
namespace L2
open PySem PySem.Spec PyProof.Rows
section
variable {prog:Program} {w:World} {A:Around} {R:Result->Shared->Prop}
theorem Q7{I p:Addr}{its:List Value}{bs:List Bool}(hh:A.handled=none)(hne:p≠I)(hlen:bs.length=its.length):∀(k i:Nat) (s:Shared),its.length - i=k->i<=its.length->s.heap.IsListIter I p i->s.heap.IsList p its.toArray->
  (∀(j:Nat) (v:Value),its[j]?=some v->∃l xs,v=.ref l/\l≠I/\s.heap.IsList l xs/\(xs.size:Int) < 2 ^ 63/\bs[j]?=some (!xs.isEmpty))->
  (∀(h':Heap) (tk:Nat),(∀b o,b≠I->s.heap.get? b=some o->h'.get? b=some o)->R (.ok (.ret (.bool ((bs.drop i).any id)))) { s with heap:=h',toks:=tk })->codeAny (model prog w) A (.builtin "any.loop" ⟨[.ref I],[]⟩) R s:=by
 intro k;induction k with
 | zero=>
  intro i s hk hi st hp hv hR;refine vSa PySem.F.entry_any_loop ?_;rw[Around.under_plainId PySem.F.plain_any_loop _];show wpAny _ A.in1 (pyNext (.ref I) >>= _) _ _ s;refine wAa (wpAny_pyNext_list_end hh st hp (by simp;omega) fun h' eb=>?_);refine wAa (wpAny_rule (wBa ?_));have:=hR h' s.toks fun b o hb e=>eb b o hb e;rw[List.drop_of_length_le (by omega)]at this;exact this
 | succ k ih=>
  intro i s hk hi st hp hv hR;have lt:i < its.length:=by omega
  have eb:bs.drop i=bs[i]'(by omega)::bs.drop (i+1):=List.drop_eq_getElem_cons (by omega);obtain⟨l,xs,e1,e2,e3,e4,e5⟩:=hv i its[i] (by simp[lt]);have e6:bs[i]'(by omega)=!xs.isEmpty:=by
   have:bs[i]?=some (bs[i]'(by omega)):=by simp
   rw[this]at e5;exact vFa e5
  rw[eb,List.any_cons,e6]at hR;refine vSa PySem.F.entry_any_loop ?_;rw[Around.under_plainId PySem.F.plain_any_loop _];show wpAny _ A.in1 (pyNext (.ref I) >>= _) _ _ s;refine wAa (wpAny_pyNext_list_item st hp (x:=.ref l) (by rw[<-e1];simp[lt]) fun h1 st1 sb=>?_);have kp:∀b o,b≠I->s.heap.get? b=some o->h1.get? b=some o:=fun b o hb e=>sb.extBut b o hb e;refine wAa (wDa (wpAny_truthy_list (e3.extBut sb.extBut e2) e4 ?_));refine wAa (wpAny_letGo ?_);cases hb:!xs.isEmpty with
  | true=>
   rw[hb]at hR;exact wAa (wpAny_rule (wBa (hR h1 _ kp)))
  | false=>
   rw[hb]at hR;simp only[Bool.false_eq_true,if_false];refine wBa ⟨plainId_quiet PySem.F.plain_any_loop _,ih (i+1) _ (by omega) lt st1 (hp.extBut sb.extBut hne) (fun j v hj=>?_) fun h2 tk k2=>?_⟩
   ·obtain⟨l,xs,f1,f2,f3,f4,f5⟩:=hv j v hj;exact⟨l,xs,f1,f2,f3.extBut sb.extBut f2,f4,f5⟩
   ·exact hR h2 tk fun b o hb e=>k2 b o hb (kp b o hb e)
end
variable {X:Cx}
def aK(K:PySem.W.Frag):List V->Hp->VK->Prop:=fun xs H Q=>∃(p:Addr) (ys:List V) (bs:List Bool),xs=[.ref p]/\js K H p ys/\bs.length=ys.length/\(∀(j:Nat) (y:V),ys[j]?=some y->∃a zs,y=.ref a/\js K H a zs/\bs[j]?=some (!zs.isEmpty))/\Q (.bl (bs.any id)) H
theorem Q8(hc:X.calm=true):yw X (.builtin "any") (aK X.K):=by
 rintro pins s U H _ us Q I r ⟨p,ys,bs,rfl,hq,hl,hy,q⟩;obtain⟨u,rfl,ru⟩:=zW r;cases ru;obtain⟨its,rv,pl,hz⟩:=I.list hq;have hlen:=rv.length;have ne:p≠s.heap.objs.size:=by
  obtain⟨o,ho,_⟩:=pl.isList;exact wTa (wLa ho)
 refine call_function_tree PySem.F.kind_any PySem.F.plain_any PySem.F.entry_any (PySem.F.args_any1 _) ?_;unfold Builtin.«any»;refine wAa (m:=oneArg "any" _) (wBa ?_);refine wAa (wpAny_pyIter_list pl.isList (wBa ⟨plainId_quiet PySem.F.plain_any_loop _,?_⟩));have n63:=zr;refine Q7 (its:=its) (bs:=bs) (I.ok.hd hc) ne (by omega) its.length 0 _ rfl (Nat.zero_le _) ⟨_,wJa _ rfl,rfl,rfl⟩ (pl.isList.push _) (fun j v hj=>?_) fun h' tk k2=>?_
 ·have hj':j < ys.length:=by have:=(List.getElem?_eq_some_iff.mp hj).1;omega
  obtain⟨a,zs,e1,e2,e3⟩:=hy j ys[j] (by simp[hj']);obtain⟨v',hv',rr⟩:=rv.get (i:=j) (x:=ys[j]) (by simp[hj']);rw[hj]at hv';cases hv';rw[e1]at rr;cases rr;obtain⟨it2,rv2,pl2,hz2⟩:=I.list e2;have l2:=rv2.length;refine⟨a,it2.toArray,rfl,?_,pl2.isList.push _,by simp only[List.size_toArray];omega,?_⟩
  ·obtain⟨o,ho,_⟩:=pl2.isList;exact wTa (wLa ho)
  ·rw[e3];cases zs <;> cases it2 <;> simp at l2⊢
 ·have J:Inv X pins U H { s with heap:=h',toks:=tk }:=I.kept fun b o e=>k2 b o (wTa (wLa e)) (wIa _ e);exact⟨.bl (bs.any id),H,J,by rw[List.drop_zero];rfl,q⟩
end L2
namespace DS
open PySem PySem.Spec PyProof.Rows L2
variable {X:Cx} {K:Fr}
noncomputable def WR:List D->Option (List Bool)
 | []=>some []
 | .lst m::r=>(WR r).bind fun bs=>some ((!m.isEmpty)::bs)
 | _=>none
theorem GF{H:Hp}:∀{l:List D} {bs:List Bool} {vs:List V},WR l=some bs->j4 K H l vs->bs.length=vs.length/\∀(j:Nat) (y:V),vs[j]?=some y->∃a zs,y=.ref a/\H a=some (.lst zs)/\bs[j]?=some (!zs.isEmpty)
 | [],bs,vs,e,r=>by
  cases e;rw[j4]at r;subst r;exact⟨rfl,fun j y h=>by simp at h⟩
 | x::l,bs,vs,e,r=>by
  cases x with
  | lst m=>
   obtain⟨bs',e1,e⟩:=j0 e;cases e;rw[j4]at r;obtain⟨v,r',rfl,q,r⟩:=r;obtain⟨h1,h2⟩:=GF e1 r;rw[j8]at q;obtain⟨a,zs,rfl,g1,g2⟩:=q;refine⟨by simp[h1],fun j y hj=>?_⟩;cases j with
   | zero=>
    simp at hj;subst hj;refine⟨a,zs,rfl,g1,?_⟩;have:=g2.len;cases zs <;> cases m <;> simp at this⊢
   | succ j=>exact h2 j y (by simpa using hj)
  | _=>cases e
@[simp] def ZP:List D->Option D
 | [.lst l]=>(WR l).bind fun bs=>some (.bl (bs.any id))
 | _=>none
theorem Cr:Fn K (aK K) ZP:=by
 intro O H ks ds vs d Q h hn e q;unfold ZP at e;split at e
 ·obtain⟨bs,e1,e⟩:=j0 e;cases e;obtain⟨v,rfl,r⟩:=YY h;obtain⟨p,xs,rfl,h1,h2⟩:=r.lst;obtain⟨b1,b2⟩:=GF e1 h2;exact⟨p,xs,bs,rfl,js.of h1,b1,fun j y hj=>by
   obtain⟨a,zs,f1,f2,f3⟩:=b2 j y hj;exact⟨a,zs,f1,js.of (j_ f2).2,f3⟩,q _ H (j3.refl H) (by rw[j8])⟩
 ·cases e
end DS
namespace L2
open PySem PySem.Spec PyProof.Rows
open AutoSeq1 (wpAny_loadPart')
noncomputable def JN(y:Str):List Str->Option Nat
 | []=>none
 | a::r=>if a=y then some 0 else(JN y r).map (· + 1)
theorem ii(p:Addr)(a0 a1 a2 a3 y:Str)(k0 k1 k2 k3 u:Tok)(c:Nat)(dx:Option Addr)(sl:Array (Option Value))(j:Nat)(hj:JN y [a0,a1,a2,a3]=some j):Meets (Builtin.«tuple.index» ⟨[.ref p,.str y u],[]⟩) (fun A R s=>s.heap.get? p=some { cls:=.type "tuple",dict:=dx,data:=.seq #[.str a0 k0,.str a1 k1,.str a2 k2,.str a3 k3] c,slots:=sl }/\R (.ok (.ret (.int j s.toks))) { s with toks:=s.toks+1 }):=by
 refine .of_wp fun prog w A R s h=>?_;obtain⟨hp,g,d,tk,os⟩:=s;obtain⟨hl,h⟩:=h;unfold Builtin.«tuple.index»;simp only[Std.Legacy.Range.forIn_eq_forIn_range']
 wp_walk using wpAny_loadPart' hl
 have rr:List.range' [0:min #[Value.str a0 k0,Value.str a1 k1,Value.str a2 k2,Value.str a3 k3].size #[Value.str a0 k0,Value.str a1 k1,Value.str a2 k2,Value.str a3 k3].size].start [0:min #[Value.str a0 k0,Value.str a1 k1,Value.str a2 k2,Value.str a3 k3].size #[Value.str a0 k0,Value.str a1 k1,Value.str a2 k2,Value.str a3 k3].size].size [0:min #[Value.str a0 k0,Value.str a1 k1,Value.str a2 k2,Value.str a3 k3].size #[Value.str a0 k0,Value.str a1 k1,Value.str a2 k2,Value.str a3 k3].size].step=[0,1,2,3]:=by simp[Std.Legacy.Range.size];rfl
 rw[rr];simp only[List.forIn_cons];have hit:∀(i:Nat) (n:Nat),i=j->wpAny (model prog w) A.in1 (retInt (i:Int)) (fun r s1=>∃v,r=Fin.done (Flow.ret v)/\R (Except.ok (Flow.ret v)) s1) (fun e s'=>R (Except.error e) s') ⟨hp,g,d,tk,os⟩:=fun i n e=>by
  subst e;exact wAa (wpAny_mkInt (wBa ⟨_,rfl,h⟩))
 show wpAny _ _ ((eqBool (.str a0 k0) (.str y u) >>= _) >>= _) _ _ _;refine wAa (wAa (wpAny_eqBool_str ?_));by_cases q0:a0=y
 ·rw[if_pos (decide_eq_true q0)];refine wAa (wCa (hit 0 0 (by simp[JN,q0]at hj;exact hj)) (fun r s1 z=>wBa (wBa (wBa z))) fun _ _ z=>z)
 rw[if_neg (by simpa using q0)];refine wBa ?_;show wpAny _ _ ((eqBool (.str a1 k1) (.str y u) >>= _) >>= _) _ _ _;refine wAa (wAa (wpAny_eqBool_str ?_));by_cases q1:a1=y
 ·rw[if_pos (decide_eq_true q1)];refine wAa (wCa (hit 1 0 (by simp[JN,q0,q1]at hj;exact hj)) (fun r s1 z=>wBa (wBa (wBa z))) fun _ _ z=>z)
 rw[if_neg (by simpa using q1)];refine wBa ?_;show wpAny _ _ ((eqBool (.str a2 k2) (.str y u) >>= _) >>= _) _ _ _;refine wAa (wAa (wpAny_eqBool_str ?_));by_cases q2:a2=y
 ·rw[if_pos (decide_eq_true q2)];refine wAa (wCa (hit 2 0 (by simp[JN,q0,q1,q2]at hj;exact hj)) (fun r s1 z=>wBa (wBa (wBa z))) fun _ _ z=>z)
 rw[if_neg (by simpa using q2)];refine wBa ?_;show wpAny _ _ ((eqBool (.str a3 k3) (.str y u) >>= _) >>= _) _ _ _;refine wAa (wAa (wpAny_eqBool_str ?_));by_cases q3:a3=y
 ·rw[if_pos (decide_eq_true q3)];refine wAa (wCa (hit 3 0 (by simp[JN,q0,q1,q2,q3]at hj;exact hj)) (fun r s1 z=>wBa (wBa (wBa z))) fun _ _ z=>z)
 ·simp[JN,q0,q1,q2,q3]at hj
end L2
namespace L2
open PySem PySem.Spec PyProof.Rows
variable {X:Cx}
end L2
namespace DS
open PySem PySem.Spec PyProof.Rows L2
section
variable {X:Cx} {K:Fr} {a b e:Expr} {da db de:DE} {st:Stmt} {pos:Pos} {i j:Nat}
noncomputable def zY:List D->Option (List Str)
 | []=>some []
 | .str x::r=>(zY r).bind fun l=>some (x::l)
 | _=>none
theorem Uu:∀{l:List D} {ts:List Str},zY l=some ts->l=ts.map D.str
 | [],_,e=>by cases e;rfl
 | x::l,ts,e=>by
  cases x with
  | str y=>
   obtain⟨r,e1,e⟩:=j0 e;cases e;rw[Uu e1];rfl
  | _=>cases e
theorem Yw{H:Hp}:∀{ts:List Str} {vs:List V},j4 K H (ts.map D.str) vs↔vs=ts.map V.str
 | [],vs=>by rw[List.map_nil,j4];rfl
 | x::ts,vs=>by
  rw[List.map_cons,j4];constructor
  ·rintro⟨v,r,rfl,h1,h2⟩;rw[j8]at h1;rw[h1,Yw.mp h2];rfl
  ·rintro rfl;exact⟨.str x,_,rfl,by rw[j8],Yw.mpr rfl⟩
@[simp] def V0:D->D->Option D
 | .str s,.lst l=>(zY l).bind fun ts=>if JoinOk s ts=true then some (.str (Txt.join s ts))else none
 | _,_=>none
noncomputable def Jx:D->D->Option OD
 | .str x,.str y=>if 1<=y.length/\x.length < sizeLine then some (.lst ((Txt.split x y).map D.str))else none
 | _,_=>none
noncomputable def UY:D->D->Option D
 | .str x,.str y=>if 1<=y.length/\x.length < sizeLine then some (.tup [.str (Txt.partition x y).1,.str (Txt.partition x y).2.1,.str (Txt.partition x y).2.2])else none
 | _,_=>none
theorem Cs{ap:Pos}(ha:PE X a (tR K da))(hb:PE X b (tR K db))(hbase:attributeBase a "join" X.env (eval a X.env)=eval a X.env)(hl:(ap.endLine==pos.line)=true)(hs:∀r:List Expr,starEach (b::r) X.env=(false,eval b X.env)::starEach r X.env)(hK:X.K=K):PE X (.Call (.Attribute a "join" ap) [b] [] pos) (tE K (d2 V0 da db)):=by
 subst hK;refine jt (ZF PySem.F.plainAttrs_str PySem.F.slot_str_join PySem.F.type_str_join AY ha (jx hb jU (hs _)) hbase (by rw[hs];rfl) hl (hs _) rfl) fun U H Q xx=>?_;obtain⟨H0,O0,Z,O,d,R,ed,q⟩:=xx;obtain⟨x,e1,ed⟩:=j0 ed;obtain⟨y,e2,ed⟩:=j0 ed;refine⟨H0,O0,Z,O,x,R,e1,fun v H1 s1 r1=>?_⟩;cases x with
 | str s=>
  cases y with
  | lst l=>
   obtain⟨ts,e3,ed⟩:=j0 ed;split at ed
   ·rename_i hj;cases ed;have ev:=r1.str;subst ev;refine⟨rfl,H0,O0,Z,O,_,R.grow s1,e2,fun v2 H2 s2 r2=>?_⟩;obtain⟨p,xs,rfl,h1,h2⟩:=r2.lst;rw[Uu e3]at h2;rw[Yw.mp h2]at h1;exact⟨s,p,ts,rfl,rfl,js.of h1,hj,q _ H2 (s1.trans s2) (by rw[j8])⟩
   ·cases ed
  | _=>cases ed
 | _=>cases ed
theorem b8{ap:Pos}(ha:PE X a (tR K da))(hb:PE X b (tR K db))(hbase:attributeBase a "split" X.env (eval a X.env)=eval a X.env)(hl:(ap.endLine==pos.line)=true)(hs:∀r:List Expr,starEach (b::r) X.env=(false,eval b X.env)::starEach r X.env)(hK:X.K=K):PE X (.Call (.Attribute a "split" ap) [b] [] pos) (tF K (ZH Jx da db)):=by
 subst hK;refine jt (ZF PySem.F.plainAttrs_str PySem.F.slot_str_split PySem.F.type_str_split xK ha (jx hb jU (hs _)) hbase (by rw[hs];rfl) hl (hs _) rfl) fun U H Q xx=>?_;obtain⟨H0,O0,Z,O,d,R,ed,q⟩:=xx;obtain⟨x,e1,ed⟩:=j0 ed;obtain⟨y,e2,ed⟩:=j0 ed;refine⟨H0,O0,Z,O,x,R,e1,fun v H1 s1 r1=>?_⟩;unfold Jx at ed;split at ed
 ·split at ed
  ·rename_i hz;cases ed;have ev:=r1.str;subst ev;refine⟨rfl,H0,O0,Z,O,_,R.grow s1,e2,fun v2 H2 s2 r2=>?_⟩;have e2':=r2.str;subst e2';refine⟨_,_,rfl,rfl,hz.1,hz.2,fun p hp=>q p _ ((s1.trans s2).trans (jD hp _)) ((s1.trans s2).none hp) ?_⟩;exact⟨_,ju,Yw.mpr rfl⟩
  ·cases ed
 ·cases ed
theorem Ct{ap:Pos}(ha:PE X a (tR K da))(hb:PE X b (tR K db))(hbase:attributeBase a "partition" X.env (eval a X.env)=eval a X.env)(hl:(ap.endLine==pos.line)=true)(hs:∀r:List Expr,starEach (b::r) X.env=(false,eval b X.env)::starEach r X.env)(hK:X.K=K):PE X (.Call (.Attribute a "partition" ap) [b] [] pos) (tE K (d2 UY da db)):=by
 subst hK;refine jt (ZF PySem.F.plainAttrs_str PySem.F.slot_str_partition PySem.F.type_str_partition AZ ha (jx hb jU (hs _)) hbase (by rw[hs];rfl) hl (hs _) rfl) fun U H Q xx=>?_;obtain⟨H0,O0,Z,O,d,R,ed,q⟩:=xx;obtain⟨x,e1,ed⟩:=j0 ed;obtain⟨y,e2,ed⟩:=j0 ed;refine⟨H0,O0,Z,O,x,R,e1,fun v H1 s1 r1=>?_⟩;unfold UY at ed;split at ed
 ·split at ed
  ·rename_i hz;cases ed;have ev:=r1.str;subst ev;refine⟨rfl,H0,O0,Z,O,_,R.grow s1,e2,fun v2 H2 s2 r2=>?_⟩;have e2':=r2.str;subst e2';refine⟨_,_,rfl,rfl,hz.1,hz.2,fun p hp=>q _ _ ((s1.trans s2).trans (jD hp _)) ?_⟩;exact Y3 ((R.grow (s1.trans s2)).new hp) hp (j4.cons (by rw[j8]) (j4.cons (by rw[j8]) (j4.cons (by rw[j8]) j4.nil)))
  ·cases ed
 ·cases ed
end
end DS
namespace L2
open PySem PySem.Spec PyProof.Rows
variable {X:Cx}
def aL(t:Vy):TG:=fun v U H Q=>∃a x xs,v=.ref a/\H a=some (.lst (x::xs))/\∀p,H p=none->t [x,.ref p] U (upd H p (.lst xs)) Q
theorem b9{e0 e1:Expr}{k:Nat}{t:Vy}{sp pos:Pos}(hc:X.calm=true)(h:Vg X [e0,e1] t)(hn:(assignEach [e0,.Starred e1 sp] X.env).length=2)(hst:(assignEach [e0,.Starred e1 sp] X.env).findIdx? (·.1)=some 1)(hm:(assignEach [e0,.Starred e1 sp] X.env).map (·.2)=(assignEach [e0,e1] X.env).map (·.2)):PG X (.Tuple [e0,.Starred e1 sp] k pos) (aL t):=by
 intro pins s U H v u Q I r hw;obtain⟨a,x,xs,rfl,hq,hw⟩:=hw;cases r;obtain⟨its,m,rv,ho,hz⟩:=I.lst hq;cases rv with
 | cons rx rt=>
  have hl:=rt.length;rw[assign_Tuple];refine wAa (vOa ?_);unfold unpack;rw[hn,hst,hm];simp at hz;refine wAa (wDa (KW (I.ok.hd hc) ⟨_,ho,rfl,m,rfl⟩ (by omega) fun h' tk kp=>?_));have I1:Inv X pins U H { s with heap:=h',toks:=tk }:=I.kept kp;have fr:=I1.hok.fresh (wPa _);have I2:=I1.laid (h':=h'.push { cls:=.type "list",data:=.seq _ }) (t':=tk) (fun b o e=>wIa _ e) (wPa _) (show Jb X.prog X.w _ _ _ (.lst xs) from⟨by omega,_,_,rt,wJa _ rfl⟩);exact h pins _ U _ [x,.ref h'.objs.size] _ Q I2 (.cons rx (.cons (show jq (.ref _) _ from rfl) .nil)) (hw _ fr)
end L2
namespace DS
open PySem PySem.Spec PyProof.Rows L2
section
variable {X:Cx} {K:Fr} {a b e:Expr} {da db de:DE} {st:Stmt} {pos:Pos} {i j:Nat}
@[simp] noncomputable def WS(de:DE)(gs:UU)(Z:j6):Option Rs:=(de Z).bind fun d=>match d with
 | .lst (x::l)=>(gs [x,.lst l] Z).bind fun Z'=>some (.nx Z')
 | _=>none
theorem Cu{gs:UU}{kk:Nat}(h:PS X st (Yp (tE K de) (aL (wH K kk gs)))):PS X st (tS K (WS de gs)):=jT h fun D U H xx=>by
 obtain⟨H0,O0,Z,O,r,R,ed,f⟩:=xx;obtain⟨d,e1,ed⟩:=j0 ed;cases d with
 | lst l=>
  cases l with
  | nil=>cases ed
  | cons x l=>
   obtain⟨Z',e2,ed⟩:=j0 ed;cases ed;refine⟨H0,O0,Z,O,_,R,e1,fun v H1 s1 r1=>?_⟩;rw[j8]at r1;obtain⟨a,xs,rfl,g1,g2⟩:=r1;rw[j4]at g2;obtain⟨v0,r',rfl,g3,g4⟩:=g2;refine⟨a,v0,r',rfl,(j_ g1).2,fun p hp=>?_⟩;have s2:=jD hp (.lst r');have R2:=R.grow (s1.trans s2);have sd:=jc (O:=O) s2;refine⟨H0,O0,Z,O,_,Z',R2,j4.cons (g3.same sd) (j4.cons ?_ j4.nil),e2,fun U' R' _=>f U' _ O R' (jc (s1.trans s2))⟩;rw[j8];exact⟨p,r',rfl,by rw[jF ((R.grow s1).new hp)];exact ju,g4.same sd⟩
 | _=>cases ed
def GT(K:Fr)(mg:Str->Option Value)(x:Str)(l:List Str):Prop:=∃p o its n,mg x=some (.ref p)/\K.lookup p=some o/\o.cls=.type "tuple" /\o.dict=none/\o.data=.seq its n/\its.size<=sizeLine/\jg (l.map V.str) its.toList
theorem ij{x:Str}{l:List Str}(g:GT K X.mg x l)(hg:Gl X x)(hd:(x==("__debug__" : Str))=false):PE X (.Name x pos) (tE K (dK (.tup (l.map D.str)))):=by
 obtain⟨p,o,its,n,h1,h2,h3,h4,h5,h6,h7⟩:=g;refine jt (uc (v:=.ref p) hg h1 rfl hd) fun U H Q xx=>?_;obtain⟨H0,O0,Z,O,d,R,ed,q⟩:=xx;cases ed;refine q _ H (j3.refl H) ?_;rw[j8];exact⟨p,_,rfl,.inr ⟨o,its,n,h2,h3,h5,h6,h7⟩,Yw.mpr rfl⟩
@[simp] def xT(l:List Str):D->Option D
 | .str y=>(JN y l).bind fun j=>some (.int (j:Int))
 | _=>none
def im(K:Fr)(l:List Str):V->List V->Hp->VK->Prop:=fun x vs H Q=>∃p y j,x=.ref p/\vs=[.str y]/\Ju K H p (l.map V.str)/\JN y l=some j/\Q (.int (j:Int)) H
theorem Cv{a0 a1 a2 a3:Str}:BM X "tuple.index" (im X.K [a0,a1,a2,a3]):=by
 intro pins s U H x vs v us Q I rx rv h;obtain⟨p,y,j,rfl,rfl,hq,hj,q⟩:=h;cases rx;obtain⟨w',rfl,u,rfl⟩:=rv.one;obtain⟨its,r',pl,hz⟩:=I.tuple hq;obtain⟨l,rfl,el⟩:=ZN (ts:=[a0,a1,a2,a3]) r';obtain⟨⟨c,dx,dt,sl⟩,ho,hc,n,hd⟩:=pl;have hc:c=.type "tuple" := hc;subst hc;rcases l with _ | ⟨⟨b0,k0⟩,_ | ⟨⟨b1,k1⟩,_ | ⟨⟨b2,k2⟩,_ | ⟨⟨b3,k3⟩,_ | ⟨_,_⟩⟩⟩⟩⟩ <;> simp at el
 obtain⟨rfl,rfl,rfl,rfl⟩:=el;have hd:dt=.seq #[.str b0 k0,.str b1 k1,.str b2 k2,.str b3 k3] n:=hd;subst hd;exact call_meets PySem.F.slot_tuple_index ⟨_,ho,rfl⟩ PySem.F.entry_tuple_index (PySem.F.args_tuple_index_2 _ _) (ii p b0 b1 b2 b3 y k0 k1 k2 k3 u n dx sl j hj) ⟨ho,.int (j:Int),H,I.tok _,⟨_,rfl⟩,q⟩
theorem fA{x:Str}{l:List Str}{np ap:Pos}(h4:l.length=4)(g:GT K X.mg x l)(hg:Gl X x)(hd:(x==("__debug__" : Str))=false)(hb:PE X b (tR K db))(hbase:attributeBase (.Name x np) "index" X.env (eval (.Name x np) X.env)=eval (.Name x np) X.env)(hl:(ap.endLine==pos.line)=true)(hs:∀r:List Expr,starEach (b::r) X.env=(false,eval b X.env)::starEach r X.env)(hK:X.K=K):PE X (.Call (.Attribute (.Name x np) "index" ap) [b] [] pos) (tE K (d1 (xT l) db)):=by
 subst hK;obtain⟨p,o,its,n,h1,h2,h3,h5,h6,h7,h8⟩:=g;rcases l with _ | ⟨a0,_ | ⟨a1,_ | ⟨a2,_ | ⟨a3,_ | ⟨_,_⟩⟩⟩⟩⟩ <;> simp at h4
 refine jt (ZF PySem.F.plainAttrs_tuple PySem.F.slot_tuple_index PySem.F.type_tuple_index (Cv (a0:=a0) (a1:=a1) (a2:=a2) (a3:=a3)) (uc (v:=.ref p) hg h1 rfl hd) (jx hb jU (hs _)) hbase (by rw[hs];rfl) hl (hs _) rfl) fun U H Q xx=>?_;obtain⟨H0,O0,Z,O,d,R,ed,q⟩:=xx;obtain⟨y,e2,ed⟩:=j0 ed;refine⟨.inr (.inl ⟨rfl,o,h2,h3,h5⟩),H0,O0,Z,O,_,R,e2,fun v2 H2 s2 r2=>?_⟩;cases y with
 | str y=>
  obtain⟨j,e3,ed⟩:=j0 ed;cases ed;have e2':=r2.str;subst e2';exact⟨p,y,j,rfl,rfl,.inr ⟨o,its,n,h2,h3,h6,h7,h8⟩,e3,q _ H2 s2 (by rw[j8])⟩
 | _=>cases ed
@[simp] noncomputable def zG:List D->Option D
 | [.int i]=>if i.natAbs.log2 < 1920 then some (.str (toString i))else none
 | _=>none
theorem fG:Fn K (fun xs H Q=>∃i,xs=[.int i]/\i.natAbs.log2 < 1920/\Q (.str (toString i)) H) zG:=by
 intro O H ks ds vs d Q h hn e q;unfold zG at e;split at e
 ·split at e
  ·rename_i hz;cases e;obtain⟨v,rfl,r⟩:=YY h;exact⟨_,by rw[r.int],hz,q _ H (j3.refl H) (by rw[j8])⟩
  ·cases e
 ·cases e
noncomputable def zZ:List D->Option D
 | [.str x]=>if x.length<=640 then(PySem.intText? x).bind fun n=>some (.int n)else none
 | _=>none
theorem Cw:Fn K (fun xs H Q=>∃x n,xs=[.str x]/\PySem.intText? x=some n/\x.length<=640/\Q (.int n) H) zZ:=by
 intro O H ks ds vs d Q h hn e q;unfold zZ at e;split at e
 ·split at e
  ·rename_i hz;obtain⟨n,e1,e⟩:=j0 e;cases e;obtain⟨v,rfl,r⟩:=YY h;exact⟨_,n,by rw[r.str],e1,hz,q _ H (j3.refl H) (by rw[j8])⟩
  ·cases e
 ·cases e
@[simp] noncomputable def V1:List D->Option D
 | [.str x]=>if x.length<=sizeLine then some (.int x.length)else none
 | _=>none
theorem Cy:Fn K (fun xs H Q=>∃z,xs=[.str z]/\z.length<=sizeLine/\Q (.int z.length) H) V1:=by
 intro O H ks ds vs d Q h hn e q;unfold V1 at e;split at e
 ·split at e
  ·rename_i hz;cases e;obtain⟨v,rfl,r⟩:=YY h;exact⟨_,by rw[r.str],hz,q _ H (j3.refl H) (by rw[j8])⟩
  ·cases e
 ·cases e
noncomputable def VP:D->D->Option D
 | .str x,.str y=>some (.bl (!(decide (y.cps.toList < x.cps.toList))))
 | _,_=>none
theorem fH:jR K (fun x y H Q=>∃i j,x=.str i/\y=.str j/\Q (.bl (!(decide (j.cps.toList < i.cps.toList)))) H) VP:=by
 intro O H a b d x y Q ha hb hn e q;unfold VP at e;split at e
 ·cases e;exact⟨_,_,ha.str,hb.str,q _ H (j3.refl H) (by rw[j8])⟩
 ·cases e
def Zo:D->D->Option D
 | .str z,.int i=>if z.length<=sizeLine then(atI z.cps.toList i).bind fun c=>some (.str ⟨#[c]⟩)else none
 | _,_=>none
theorem fJ:jR K xg Zo:=by
 intro O H a b d x y Q ha hb hn e q;unfold Zo at e;split at e
 ·split at e
  ·rename_i hz;obtain⟨c,e1,e⟩:=j0 e;cases e;exact⟨_,_,c,ha.str,hb.int,hz,e1,q _ H (j3.refl H) (by rw[j8])⟩
  ·cases e
 ·cases e
end
def xU:D->Bool
 | .ins _ _ l=>gO l
 | d=>aG d
def V2(d:D):Option D:=if xU d=true then some d else none
section
variable {X:Cx} {K:Fr} {e:Expr} {de:DE}
theorem Q9{H H':Hp}(k:∀b o,(∀xs,o≠HO.lst xs)->H b=some o->H' b=some o){d:D}{v:V}(h:xU d=true)(r:j8 K H d v):j8 K H' d v:=by
 have kt:UK H H':=fun b o i h=>k b o (by rintro xs rfl;cases i) h;cases d with
 | ins C ns l=>
  rw[j8]at r⊢;obtain⟨a,dx,xs,rfl,q,n,r⟩:=r;exact⟨a,dx,xs,rfl,k _ _ (by rintro _ z;cases z) q,n,VM kt h r⟩
 | _=>exact kT kt h r
theorem Cz(h:PE X e (tE K de)):PE X e (tE K fun Z=>(de (frz Z)).bind V2):=jt h fun U H Q xx=>by
 obtain⟨H0,O0,Z,O,d,R,ed,q⟩:=xx;obtain⟨d',e1,e2⟩:=j0 ed;obtain⟨O',R',f,_⟩:=R.frz;unfold V2 at e2;split at e2
 ·rename_i ht;cases e2;refine⟨H0,O0,_,O',_,R',e1,fun v H' s r=>q v H' s (Q9 (fun b o no hb=>?_) ht r)⟩;obtain⟨h1,h2⟩:=j_ hb;rw[jF fun z=>?_]
  ·exact h2
  ·rcases f b z with z | ⟨vs,z⟩
   ·exact h1 z
   ·rw[s _ _ z]at h2;cases h2;exact no vs rfl
 ·cases e2
end
open Classical in
noncomputable def K0(F:Addr->List (List D)->List D->Option (List (List D)×D))(ls:List (List D))(ds:List D):Option (List (List D)×D):=if h:∃r,∀l,F l ls ds=some r then some (Classical.choose h)else none
theorem xW{F:Addr->List (List D)->List D->Option (List (List D)×D)}{ls:List (List D)}{ds:List D}{r:List (List D)×D}(l:Addr)(h:K0 F ls ds=some r):F l ls ds=some r:=by
 unfold K0 at h;split at h
 ·rename_i z;cases h;exact Classical.choose_spec z l
 ·cases h
theorem ba{F:Addr->List (List D)->List D->Option (List (List D)×D)}{ls:List (List D)}{ds:List D}{r:List (List D)×D}(h:∀l,F l ls ds=some r):K0 F ls ds=some r:=by
 unfold K0;have z:∃r,∀l,F l ls ds=some r:=⟨r,h⟩
 rw[dif_pos z];exact(Classical.choose_spec z 0).symm.trans (h 0)
theorem xX{K:Fr}{F:Addr->List (List D)->List D->Option (List (List D)×D)}{F0:List (List D)->List D->Option (List (List D)×D)}(hF:∀l ls ds r,F0 ls ds=some r->F l ls ds=some r){vs:List V}{H:Hp}{Q:VK}{E:XK}(h:kY K (fun _=>F0) vs H Q E):kY K F vs H Q E:=by
 obtain⟨O,l,ps,ls,d,ds,v,us,ms,r,a,b,c,e,f,g,q⟩:=h;exact⟨O,l,ps,ls,d,ds,v,us,ms,r,a,b,c,e,f,hF _ _ _ _ g,q⟩
end DS
namespace L2
open PySem PySem.Spec PyProof.Rows PySem.Builtin PySem.Builtin.Str
section
variable {X:Cx}
def ui:V->List V->Hp->VK->Prop:=fun x vs H Q=>∃l xs i y,x=.ref l/\vs=[.int i,y]/\H l=some (.lst xs)/\0<=i/\i<=(xs.length:Int)/\xs.length < 1000000/\Q .non (upd H l (.lst (xs.take i.toNat++y::xs.drop i.toNat)))
theorem WT:1000000 < sizeLine:=by decide
theorem Qa:wD X "list.insert" ui:=by
 intro pins s U H x vs v us Q I rx rv h;obtain⟨l,xs,i,y,rfl,rfl,hH,h0,h1,hz,q⟩:=h;cases rx;cases rv with
 | cons r1 rr=>
 cases rr with
 | cons r2 rr=>
 cases rr;obtain⟨t,rfl⟩:=r1;rename_i u;obtain⟨z,its,n,r,hl,e⟩:=I.lstM hH;have sl:=WT;have hk:i.toNat<=its.length:=by omega
 refine call_meets F.slot_list_insert ⟨_,e,rfl⟩ F.entry_list_insert (F.args_list_insert_3 _ _ _) (AutoListH.list_insert_list_int_val_1 l its.toArray n i t u (by rw[fitsIndex_both (by omega) (by omega)];decide) (by rw[List.size_toArray];omega)) ⟨e,?_⟩;refine⟨.non,_,I.lset (its':=its.take i.toNat++u::its.drop i.toNat) hH e ?_ ?_ ?_,rfl,q⟩
 ·show(have k:=if i < 0 then(i+((its.toArray.size:Nat):Int)).toNat else min i.toNat its.toArray.size;(its.toArray.extract 0 k).push u++its.toArray.extract k)=_;dsimp only;rw[if_neg (by omega),List.size_toArray,Nat.min_eq_left hk];apply Array.ext';simp;exact List.take_of_length_le (by rw[List.length_drop];omega)
 ·exact(r.take i.toNat).append (.cons r2 (r.drop i.toNat))
 ·rw[List.length_append,List.length_cons,List.length_take,List.length_drop];omega
def io:V->Option Int->Option Int->Hp->VK->Prop:=fun x lo hi H Q=>∃z,x=.str z/\z.length<=sizeLine/\Q (.str (Txt.slice z lo hi)) H
theorem wL{v:Value}{o:Option Int}(p:IsPart v o):∃q:Option (Int×Tok),partValue q=v/\q.map (·.1)=o:=by
 cases p with
 | none=>exact⟨none,rfl,rfl⟩
 | int i t=>exact⟨some (i,t),rfl,rfl⟩
theorem CA:XR X io:=by
 intro pins s U H x v vl vu lo hi sl Q I rx hs pl pu h;obtain⟨z,rfl,hz,q⟩:=h;obtain⟨t,rfl⟩:=rx;obtain⟨l,rfl,rfl⟩:=wL pl;obtain⟨u,rfl,rfl⟩:=wL pu;obtain⟨o,ho,hc,hd⟩:=hs;exact⟨"str",_,F.slot_str_getitem.lookup,typeIs_str _ _ _,wpAny_getItem_str_slice (l:=l) (u:=u) (st:=none) ⟨o,ho,hc,hd⟩ rfl (post_val_or_str ⟨wSa (Txt.slice_le z _ _) hz,fun t' k=>⟨.str _,H,I.tok _,⟨_,rfl⟩,q⟩⟩)⟩
end
end L2
namespace DS
open PySem PySem.Spec PyProof.Rows L2
section
variable {X:Cx} {K:Fr} {e:Expr} {de:DE} {pos:Pos} {st:Stmt} {dj dx:DE}
noncomputable def gQ:D->D->Option D
 | .str x,.str y=>some (.bl (!(Builtin.Str.occurrences y x 0 y.length 1).isEmpty))
 | _,_=>none
theorem fL:jR K (fun x y H Q=>∃i j,x=.str i/\y=.str j/\Q (.bl (!(Builtin.Str.occurrences j i 0 j.length 1).isEmpty)) H) gQ:=by
 intro O H a b d x y Q ha hb hn e q;unfold gQ at e;split at e
 ·cases e;exact⟨_,_,ha.str,hb.str,q _ H (j3.refl H) (by rw[j8])⟩
 ·cases e
noncomputable def ka(d:D)(lo hi:Option Int):Option D:=match d with
 | .str z=>if z.length<=sizeLine then some (.str (Txt.slice z lo hi))else none
 | _=>none
@[simp] def ke(de:DE)(p q:UP)(Z:j6):Option D:=(de Z).bind fun d=>(p Z).bind fun lo=>(q Z).bind fun hi=>ka d lo hi
theorem CB{lo hi:Option Expr}{p q:UP}{p2:Pos}(he:PE X e (tR K de))(hl:PO X lo (UQ K p))(hu:PO X hi (UQ K q))(hK:X.K=K:=by rfl):PE X (.Subscript e (.Slice lo hi none p2) pos) (tE K (ke de p q)):=jt (Ui CA he hl hu) fun U H Q xx=>by
 obtain⟨H0,O0,Z,O,d,R,ed,qq⟩:=xx;subst hK;obtain⟨x,e1,ed⟩:=j0 ed;obtain⟨l,e2,ed⟩:=j0 ed;obtain⟨u,e3,ed⟩:=j0 ed;refine⟨H0,O0,Z,O,x,R,e1,fun v H1 s1 r=>⟨H0,O0,Z,O,l,R.grow s1,e2,fun H2 s2=>⟨H0,O0,Z,O,u,R.grow (s1.trans s2),e3,fun H3 s3=>?_⟩⟩⟩;unfold ka at ed;split at ed
 ·split at ed
  ·cases ed;refine⟨_,r.str,by assumption,qq _ _ ((s1.trans s2).trans s3) (by rw[j8])⟩
  ·cases ed
 ·cases ed
@[simp] noncomputable def WU(i:Nat)(dj:DE)(Z:j6):Option Rs:=match Z[i]? with
 | some (.ow q (.lst ds))=>(dj Z).bind fun j=>match j with
  | .int j=>if 0<=j/\j < (ds.length:Int)/\ds.length < 1000000 then some (.nx (Z.set i (.ow q (.lst (ds.eraseIdx j.toNat)))))else none
  | _=>none
 | _=>none
theorem z_{H:Hp}:∀{ds:List D} {vs:List V} (k:Nat),j4 K H ds vs->j4 K H (ds.eraseIdx k) (vs.eraseIdx k)
 | [],vs,k,h=>by
  rw[j4]at h;subst h;simp[j4]
 | d::ds,vs,0,h=>by
  rw[j4]at h;obtain⟨v,us,rfl,r,h⟩:=h;exact h
 | d::ds,vs,k+1,h=>by
  rw[j4]at h;obtain⟨v,us,rfl,r,h⟩:=h;exact j4.cons r (z_ k h)
theorem fN{i:Nat}(h:PS X st (vU (uK K "list" UH (J_ i) (Jk (tR K dj) Y0)))):PS X st (tS K (WU i dj)):=jT h fun D U H xx=>by
 obtain⟨H0,O0,Z,O,r,R,ed,f⟩:=xx;unfold WU at ed;split at ed
 ·rename_i q ds hi;obtain⟨j,e1,ed⟩:=j0 ed;split at ed
  ·split at ed
   ·rename_i hz;cases ed;obtain⟨l,hq,hs,⟨vs,hl,rp⟩,lo,h0⟩:=R.ow i _ _ hi;have hlen:=rp.len;rename_i j;refine⟨_,hs,.inl ⟨rfl,_,js.of hl⟩,H0,O0,Z,O,_,R,e1,fun w H1 s1 r1=>?_⟩;have R':=R.grow s1;have rp':=rp.same (jc s1);have hp:j.toNat < vs.length:=by omega
    refine⟨l,vs,j,j.toNat,vs[j.toNat],rfl,by rw[r1.int],s1 _ _ hl,by omega,by omega,?_,by simp[hp],f _ _ O (R'.change hi hq hs lo h0 ⟨_,ju,z_ _ rp'⟩) ?_⟩
    ·unfold seqIndex?;simp;omega
    ·rw[Jd lo];exact jc s1
   ·cases ed
  ·cases ed
 ·cases ed
@[simp] noncomputable def gR(i:Nat)(dx de:DE)(Z:j6):Option Rs:=match Z[i]? with
 | some (.ow q (.lst ds))=>(dx Z).bind fun x=>(de Z).bind fun d=>match x with
  | .int k=>if 0<=k/\k<=(ds.length:Int)/\ds.length < 1000000 then some (.nx (Z.set i (.ow q (.lst (ds.take k.toNat++d::ds.drop k.toNat)))))else none
  | _=>none
 | _=>none
theorem xY{i:Nat}(h:PS X st (vU (uK K "list" ui (J_ i) (Jk (tR K dx) (Jk (tE K de) Y0))))):PS X st (tS K (gR i dx de)):=jT h fun D U H xx=>by
 obtain⟨H0,O0,Z,O,r,R,ed,f⟩:=xx;unfold gR at ed;split at ed
 ·rename_i q ds hi;obtain⟨x,e1,ed⟩:=j0 ed;obtain⟨d,e2,ed⟩:=j0 ed;split at ed
  ·split at ed
   ·rename_i hz;cases ed;obtain⟨l,hq,hs,⟨vs,hl,rp⟩,lo,h0⟩:=R.ow i _ _ hi;refine⟨_,hs,.inl ⟨rfl,_,js.of hl⟩,H0,O0,Z,O,_,R,e1,fun w H1 s1 r1=>⟨H0,O0,Z,O,d,R.grow s1,e2,fun v H' s rv=>?_⟩⟩;have s':=s1.trans s;have R':=R.grow s';have rp':=rp.same (jc s');refine⟨l,vs,_,v,rfl,by rw[r1.int],s' _ _ hl,hz.1,by rw[rp.len];exact hz.2.1,by rw[rp.len];exact hz.2.2,f _ _ O (R'.change hi hq hs lo h0 ⟨_,ju,(rp'.take _).app (j4.cons rv (rp'.drop _))⟩) ?_⟩;rw[Jd lo];exact jc s'
   ·cases ed
  ·cases ed
 ·cases ed
end
section
variable {X:Cx} {K:Fr} {st:Stmt} {dj dx:DE}
@[simp] noncomputable def uj(i:Nat)(dx dj:DE)(Z:j6):Option Rs:=match Z[i]? with
 | some (.ow q (.lst ds))=>(dx Z).bind fun x=>(dj Z).bind fun j=>match x,j with
  | .int k,.int j=>if 0<=j/\j < (ds.length:Int)/\ds.length < 1000000/\0<=k/\k < (ds.length:Int)then(ds[j.toNat]?).bind fun d=>some (.nx (Z.set i (.ow q (.lst ((ds.eraseIdx j.toNat).take k.toNat++d::(ds.eraseIdx j.toNat).drop k.toNat)))))else none
  | _,_=>none
 | _=>none
theorem xZ{H:Hp}{ds:List D}{vs:List V}{d:D}{k:Nat}(h:j4 K H ds vs)(e:ds[k]?=some d):∃v,vs[k]?=some v/\j8 K H d v:=by
 induction ds generalizing vs k with
 | nil=>cases e
 | cons x ds ih=>
  rw[j4]at h;obtain⟨v,us,rfl,r,h⟩:=h;cases k with
  | zero=>cases e;exact⟨v,rfl,r⟩
  | succ k=>
   obtain⟨w,a,b⟩:=ih (vs:=us) (k:=k) h e;exact⟨w,a,b⟩
theorem x_{i:Nat}(h:PS X st (vU (uK K "list" ui (J_ i) (Jk (tR K dx) (Jk (uK K "list" UH (J_ i) (Jk (tR K dj) Y0)) Y0))))):PS X st (tS K (uj i dx dj)):=jT h fun D U H xx=>by
 obtain⟨H0,O0,Z,O,r,R,ed,f⟩:=xx;unfold uj at ed;split at ed
 ·rename_i q ds hi;obtain⟨x,e1,ed'⟩:=j0 ed;clear ed;obtain⟨j,e2,ed⟩:=j0 ed';clear ed';clear h;split at ed
  ·rename_i k j;split at ed
   ·rename_i hz;obtain⟨d,e3,ed⟩:=j0 ed;cases ed;obtain⟨l,hq,hs,⟨vs,hl,rp⟩,lo,h0⟩:=R.ow i _ _ hi;have hlen:=rp.len;refine⟨_,hs,.inl ⟨rfl,_,js.of hl⟩,H0,O0,Z,O,_,R,e1,fun w H1 s1 r1=>?_⟩;refine⟨_,hs,.inl ⟨rfl,_,js.of (s1 _ _ hl)⟩,H0,O0,Z,O,_,R.grow s1,e2,fun w2 H2 s2 r2=>?_⟩;have s':=s1.trans s2;have R':=R.grow s';have rp':=rp.same (jc s');obtain⟨v,hv,rv⟩:=xZ rp' e3;refine⟨l,vs,j,j.toNat,v,rfl,by rw[r2.int],s' _ _ hl,by omega,by omega,?_,hv,?_⟩
    ·unfold seqIndex?;simp;omega
    ·have le:(vs.eraseIdx j.toNat).length=vs.length - 1:=by
      rw[List.length_eraseIdx,if_pos (by omega)]
     refine⟨l,vs.eraseIdx j.toNat,k,v,rfl,by rw[r1.int],ju,hz.2.2.2.1,by rw[le];omega,by rw[le];omega,?_⟩;have e4:upd (upd H2 l (.lst (vs.eraseIdx j.toNat))) l (.lst ((vs.eraseIdx j.toNat).take k.toNat++v::(vs.eraseIdx j.toNat).drop k.toNat))=upd H2 l (.lst ((vs.eraseIdx j.toNat).take k.toNat++v::(vs.eraseIdx j.toNat).drop k.toNat)):=by
      funext b;unfold upd;split <;> rfl
     rw[e4];refine f _ _ O (R'.change hi hq hs lo h0 ⟨_,ju,((z_ _ rp').take _).app (j4.cons rv ((z_ _ rp').drop _))⟩) ?_;rw[Jd lo];exact jc s'
   ·cases ed
  ·cases ed
 ·cases ed
end
end DS
namespace L2
open PySem PySem.Spec PyProof.Rows
section
variable {X:Cx}
theorem aM{o k e:Expr}{ta:TE}{t:TA}{apos pos:Pos}(ho:PE X o ta)(ha:PA X [k,e] t)
  (hfew:((backTo pos (starEach [k,e] X.env)).all (fun x=>!x.1)&&(backToKw pos (keywordEach [] X.env)).all (fun x=>x.1.isSome)&&decide (([k,e]:List Expr).length+([]:List Keyword).length+(if ([]:List Keyword).isEmpty then 0 else 1) < 30))=true)
  (hline:(apos.endLine==pos.line)=true) (hs:starEach [k,e] X.env=(false,eval k X.env)::starEach [e] X.env) (hplain:(backTo pos (starEach [e] X.env)).any (·.1)=false) (hbase:attributeBase o "insert" X.env (eval o X.env)=eval o X.env:=by rfl):PE X (.Call (.Attribute o "insert" apos) [k,e] [] pos) (uK X.K "list" ui ta t):=
 ZF PySem.F.plainAttrs_list PySem.F.slot_list_insert PySem.F.type_list_insert Qa ho ha hbase hfew hline hs hplain
theorem Qb{a b c d:Expr}{ta tb tc td:TE}{pos:Pos}{op op' op'':CmpOp}{r r' r'':R2}(ho:jH X (compareOp op) r)(ho':jH X (compareOp op') r')(ho'':jH X (compareOp op'') r'')(ha:PE X a ta)(hb:PE X b tb)(hc:PE X c tc)(hd:PE X d td)
  (hm:lastMarks [op,op',op''] [b,c,d]=false):PT X (.Compare a [op,op',op''] [b,c,d] pos) (Wn (gE r r' r'' ta tb tc td)):=by
 intro pins s U H Q I h;refine isTrue_chain (ji (ha pins s U H _ I h) fun v s1 ⟨x,H1,I1,r1,q1⟩=>test_link (ji (hb pins s1 U H1 _ I1 q1) fun u s2 ⟨y,H2,I2,r2,q2⟩=>
  ji (ho pins s2 U H2 x y v u _ I2 r1 r2 q2) fun _ s3 ⟨z,H3,I3,r3,k,e,q3⟩=>?_)) hm
 subst e;cases r3;refine wpAny_truthy_bool ?_;cases k with
 | false=>
  obtain⟨k',e',q'⟩:=q3;cases e';exact ite_ff ⟨H3,I3,q'⟩
 | true=>
  refine ite_tt (test_link (ji (hc pins s3 U H3 _ I3 q3) fun w' s4 ⟨z',H4,I4,r4,q4⟩=>ji (ho' pins s4 U H4 y z' u w' _ I4 r2 r4 q4) fun _ s5 xx=>?_));obtain⟨z5,H5,I5,r5,k5,e5,q5⟩:=xx;subst e5;cases r5;refine wpAny_truthy_bool ?_;cases k5 with
  | false=>
   obtain⟨k',e',q'⟩:=q5;cases e';exact ite_ff ⟨H5,I5,q'⟩
  | true=>
   refine ite_tt (test_last (ji (hd pins s5 U H5 _ I5 q5) fun w6 s6 ⟨z6,H6,I6,r6,q6⟩=>ji (ho'' pins s6 U H6 z' z6 w' w6 _ I6 r4 r6 q6) fun _ s7 xx=>?_));obtain⟨z7,H7,I7,r7,k7,e7,q7⟩:=xx;subst e7;cases r7;exact wpAny_truthy_bool ⟨H7,I7,q7⟩
def ir(K:PySem.W.Frag):V->List V->Hp->VK->Prop:=fun x vs H Q=>∃p l y j,x=.ref p/\vs=[.str y]/\js K H p (l.map V.str)/\JN y l=some j/\Q (.int (j:Int)) H
theorem Qc:∀{l:List Str} {y:Str} {j:Nat},JN y l=some j->l[j]?=some y/\∀m,m < j->∀z,l[m]?=some z->z≠y
 | [],_,_,h=>by cases h
 | a::r,y,j,h=>by
  unfold JN at h;split at h
  ·rename_i e;cases h;exact⟨by rw[e];rfl,fun m hm=>vDa hm (Nat.not_lt_zero _)⟩
  ·rename_i e;cases q:JN y r with
   | none=>rw[q]at h;cases h
   | some k=>
    rw[q]at h;cases h;obtain⟨h1,h2⟩:=Qc q;refine⟨by simpa using h1,fun m hm z hz=>?_⟩;cases m with
    | zero=>cases hz;exact e
    | succ m=>exact h2 m (Nat.lt_of_succ_lt_succ hm) z (by simpa using hz)
noncomputable def CD(y:Str):Value->Bool
 | .str a _=>decide (a=y)
 | _=>false
theorem CF:BM X "list.index" (ir X.K):=by
 intro pins s U H x vs v us Q I rx rv h;obtain⟨p,ts,y,j,rfl,rfl,hq,hj,q⟩:=h;cases rx;obtain⟨w',rfl,u,rfl⟩:=rv.one;obtain⟨its,r',pl,hz⟩:=I.list hq;obtain⟨l,rfl,el⟩:=ZN r';obtain⟨⟨c,dx,dt,sl⟩,ho,hc,n,hd⟩:=id pl.isList;simp only at hc hd;subst hc hd;obtain⟨h1,h2⟩:=Qc hj;subst el;have at':∀m (hm:m < (strValues l).length),∃t k,(strValues l)[m]=.str t k/\(l.map (·.1))[m]?=some t:=fun m hm=>by
  have hm':m < l.length:=by simpa[strValues]using hm
  exact⟨l[m].1,l[m].2,by simp[strValues],by simp[hm']⟩
 have hl:(strValues l).length=l.length:=by simp[strValues]
 have hjl:j < l.length:=by
  obtain⟨z,_⟩:=List.getElem?_eq_some_iff.mp h1;simpa using z
 refine call_meets F.slot_list_index ⟨_,ho,rfl⟩ F.entry_list_index (F.args_list_index_2 _ _) (SeqAt.list_indexAt p _ n dx sl (.str y u) (CD y) j (by simpa[hl]using hjl) (by rw[List.length_map,List.length_map,sizeLine_eq]at hz;omega) ?_ fun m hm hlt=>?_) ⟨ho,fun z hz=>?_,?_⟩
 ·obtain⟨t,k,e1,e2⟩:=at' j (by omega);rw[h1]at e2;cases e2;have:(strValues l).toArray[j]'(by simpa[hl]using hjl)=.str y k:=by simpa using e1
  rw[this];simp[CD]
 ·obtain⟨t,k,e1,e2⟩:=at' m (by simpa using hm);have:(strValues l).toArray[m]'hm=.str t k:=by simpa using e1
  rw[this];exact vBa (h2 m hlt t e2)
 ·have hz':z∈strValues l:=by simpa using hz
  obtain⟨m,hm⟩:=List.mem_iff_getElem.mp hz';obtain⟨hm,rfl⟩:=hm;obtain⟨t,k,e1,e2⟩:=at' m hm;rw[e1];exact fun prog w E Q hq=>wpAny_eqBool_str hq
 ·exact⟨.int (j:Int),H,I.tok _,⟨_,rfl⟩,q⟩
end
end L2
namespace DS
open PySem PySem.Spec PyProof.Rows L2
section
variable {X:Cx} {K:Fr} {a b e:Expr} {da db de:DE} {st:Stmt} {pos:Pos} {i j:Nat}
def gS:D->D->Option D
 | .lst ds,.str y=>(zY ds).bind fun l=>(JN y l).bind fun j=>some (.int (j:Int))
 | _,_=>none
theorem fO{ap:Pos}(ha:PE X a (tR K da))(hb:PE X b (tR K db))(hbase:attributeBase a "index" X.env (eval a X.env)=eval a X.env)(hl:(ap.endLine==pos.line)=true)(hs:∀r:List Expr,starEach (b::r) X.env=(false,eval b X.env)::starEach r X.env)(hK:X.K=K):PE X (.Call (.Attribute a "index" ap) [b] [] pos) (tE K (d2 gS da db)):=by
 subst hK;refine jt (ZF PySem.F.plainAttrs_list PySem.F.slot_list_index PySem.F.type_list_index CF ha (jx hb jU (hs _)) hbase (by rw[hs];rfl) hl (hs _) rfl) fun U H Q xx=>?_;obtain⟨H0,O0,Z,O,d,R,ed,q⟩:=xx;obtain⟨x,e1,ed⟩:=j0 ed;obtain⟨y,e2,ed⟩:=j0 ed;refine⟨H0,O0,Z,O,x,R,e1,fun v H1 s1 r1=>?_⟩;unfold gS at ed;split at ed
 ·obtain⟨ts,e3,ed⟩:=j0 ed;obtain⟨j,e4,ed⟩:=j0 ed;cases ed;obtain⟨p,xs,rfl,h1,h2⟩:=r1.lst;rw[Uu e3]at h2;rw[Yw.mp h2]at h1;refine⟨.inl ⟨rfl,_,js.of h1⟩,H0,O0,Z,O,_,R.grow s1,e2,fun v2 H2 s2 r2=>?_⟩;exact⟨p,ts,_,j,rfl,by rw[r2.str],(js.of (s2 _ _ h1)),e4,q _ H2 (s1.trans s2) (by rw[j8])⟩
 ·cases ed
noncomputable def Z0:List D->Option D
 | [.bl k]=>some (.int (if k then 1 else 0))
 | _=>none
theorem CG:Fn K (fun xs H Q=>(∃i,xs=[.int i]/\Q (.int i) H) \/∃k,xs=[.bl k]/\Q (.int (if k then 1 else 0)) H) Z0:=by
 intro O H ks ds vs d Q h hn e q;unfold Z0 at e;split at e
 ·cases e;obtain⟨v,rfl,r⟩:=YY h;exact .inr ⟨_,by rw[r.bl],q _ H (j3.refl H) (by rw[j8])⟩
 ·cases e
section
variable {c d:Expr} {dc dd:DE}
theorem WV{r r' r'':R2}{f f' f'':D->D->Option D}(hf:jR K r f)(hf':jR K r' f')(hf'':jR K r'' f''):∀U H Q,tE K (yM f f' f'' da db dc dd) U H Q->gE r r' r'' (tR K da) (tR K db) (tR K dc) (tR K dd) U H Q:=fun U H Q xx=>by
 obtain⟨H0,O0,Z,O,d,R,ed,q⟩:=xx;obtain⟨x,ex,ed⟩:=j0 ed;obtain⟨y,ey,ed⟩:=j0 ed;obtain⟨z,ez,ed⟩:=j0 ed;obtain⟨k,rfl,ek⟩:=Yv ed;refine⟨H0,O0,Z,O,x,R,ex,fun vx H1 s1 rx=>⟨H0,O0,Z,O,y,R.grow s1,ey,fun vy H2 s2 ry=>hf O H2 x y _ vx vy _ (rx.same s2) ry (fun p hp=>(R.grow (s1.trans s2)).new hp) ez fun v H3 s3 rz=>?_⟩⟩;rw[j8]at rz;subst rz;refine⟨k,rfl,?_⟩;have s13:=(s1.trans s2).trans s3;rcases ek with⟨rfl,e2⟩ | ⟨rfl,rfl⟩
 ·obtain⟨w,ew,e3⟩:=j0 e2;obtain⟨z',ez',e3⟩:=j0 e3;obtain⟨k',rfl,ek'⟩:=Yv e3;refine yF ⟨H0,O0,Z,O,w,R.grow s13,ew,fun vw H4 s4 rw'=>hf' O H4 y w _ vy vw _ ((ry.same s3).same s4) rw' (fun p hp=>(R.grow (s13.trans s4)).new hp) ez' fun v H5 s5 r=>?_⟩;rw[j8]at r;subst r;refine⟨k',rfl,?_⟩;have s15:=(s13.trans s4).trans s5;rcases ek' with⟨rfl,e4⟩ | ⟨rfl,rfl⟩
  ·obtain⟨u,eu,e5⟩:=j0 e4;exact yF ⟨H0,O0,Z,O,u,R.grow s15,eu,fun vu H6 s6 ru=>hf'' O H6 w u d vw vu Q ((rw'.same s5).same s6) ru (fun p hp=>(R.grow (s15.trans s6)).new hp) e5 fun v H' s r=>q v H' ((s15.trans s6).trans s) r⟩
  ·exact yE (q _ _ s15 (by rw[j8]))
 ·exact yE (q _ _ s13 (by rw[j8]))
theorem X0{op op' op'':CmpOp}{r r' r'':R2}{f f' f'':D->D->Option D}(ho:jH X (compareOp op) r)(ho':jH X (compareOp op') r')(ho'':jH X (compareOp op'') r'')(hf:jR K r f)(hf':jR K r' f')(hf'':jR K r'' f'')(ha:PE X a (tR K da))(hb:PE X b (tR K db))(hc:PE X c (tR K dc))(hd:PE X d (tR K dd))(hm:lastMarks [op,op',op''] [b,c,d]=false):
  PT X (.Compare a [op,op',op''] [b,c,d] pos) (tT K (jy (yM f f' f'' da db dc dd))):=uf (Qb ho ho' ho'' ha hb hc hd hm) fun U H Q xx=>by
 obtain⟨H0,O0,Z,O,k,R,ed,q⟩:=xx;obtain⟨d,e1,e2⟩:=j0 ed;cases Uk e2;exact WV hf hf' hf'' U H _ ⟨H0,O0,Z,O,_,R,e1,fun v H' s r=>⟨k,by rw[j8]at r;exact r,q H' s⟩⟩
end
@[simp] def K3(i:Nat)(de:DE)(dt:DT)(da:DS)(Z:j6):Option Rs:=(de (frz Z)).bind fun d=>(dt ((frz Z).set i (.cl d))).bind fun k=>if k=true then da (Z.set i .un)else some (.nx (Z.set i .un))
end
end DS
set_option maxHeartbeats 1000000
namespace L2
open PySem
def CH(f:Obj->Obj):Prop:=∀o,(f o).dict=o.dict/\(f o).isFreed=o.isFreed
def DK{α:Type}:Sem α->Prop
 | .pure _=>True
 | .raise _=>True
 | .unsupported _=>True
 | .finish _=>True
 | .rule _ k=>DK (k ())
 | .at _ k=>DK (k ())
 | .load _ _ k=>∀o,DK (k o)
 | .update _ _ f k=>CH f/\DK (k ())
 | .alloc _ k=>∀a,DK (k a)
 | .loadIfAlive _ k=>∀o,DK (k o)
 | .point _ k=>DK (k ())
 | .register _ _=>True
 | .fresh k=>∀t,DK (k t)
 | .ask k=>∀t,DK (k t)
 | .choose _ _ k=>∀t,DK (k t)
 | .os _ _ k=>∀t,DK (k t)
 | .call _ _ _ _ _=>False
 | .handled _ k=>∀t,DK (k t)
 | .newGen _ _=>False
 | .genState _ k=>∀t,DK (k t)
 | .resume _ _ _ _=>False
 | .yield _ _ _ _=>True
 | .stack k=>∀t,DK (k t)
 | .fork _ _=>True
 | .thread k=>∀t,DK (k t)
 | .await _ _ _ _ _=>True
theorem DK.bind{α β:Type}{f:α->Sem β}(hf:∀a,DK (f a)):∀{t:Sem α},DK t->DK (t.bind f):=by
 intro t;induction t with
 | pure a=>exact fun _=>hf a
 | raise e=>exact fun _=>trivial
 | unsupported w=>exact fun _=>trivial
 | finish e=>exact fun _=>trivial
 | rule t k ih=>exact fun h=>ih () h
 | «at» p k ih=>exact fun h=>ih () h
 | load a p k ih=>exact fun h o=>ih o (h o)
 | update a p g k ih=>exact fun h=>⟨h.1,ih () h.2⟩
 | alloc o k ih=>exact fun h a=>ih a (h a)
 | loadIfAlive a k ih=>exact fun h a=>ih a (h a)
 | point l k ih=>exact fun h=>ih () h
 | register a k ih=>exact fun _=>trivial
 | fresh k ih=>exact fun h a=>ih a (h a)
 | ask k ih=>exact fun h a=>ih a (h a)
 | choose s n k ih=>exact fun h a=>ih a (h a)
 | os q l k ih=>exact fun h a=>ih a (h a)
 | call c h g l k ih=>exact fun h=>h.elim
 | handled o k ih=>exact fun h a=>ih a (h a)
 | newGen c k ih=>exact fun h=>h.elim
 | genState g k ih=>exact fun h a=>ih a (h a)
 | resume g r l k ih=>exact fun h=>h.elim
 | yield v g l k ih=>exact fun _=>trivial
 | stack k ih=>exact fun h a=>ih a (h a)
 | fork c k ih=>exact fun _=>trivial
 | thread k ih=>exact fun h a=>ih a (h a)
 | await a t d l k ih=>exact fun _=>trivial
def YK(h h':Heap):Prop:=∀b o,h.get? b=some o->∃o',h'.get? b=some o'/\o'.dict=o.dict
theorem YK.trans{h1 h2 h3:Heap}(a:YK h1 h2)(b:YK h2 h3):YK h1 h3:=fun c o e=>by
 obtain⟨o1,e1,d1⟩:=a c o e;obtain⟨o2,e2,d2⟩:=b c o1 e1;exact⟨o2,e2,d2.trans d1⟩
theorem bc(h:Heap)(o:Obj):YK h (h.push o):=fun b u e=>⟨u,wIa _ e,rfl⟩
theorem CI(h:Heap)(a:Addr){f:Obj->Obj}(k:CH f):YK h (h.update a f):=fun b u e=>by
 by_cases z:a=b
 ·subst z;refine⟨f u,vUa f e ?_,(k u).1⟩;rw[(k u).2];exact(Heap.get?_some_iff.mp e).2
 ·exact⟨u,(wKa h f z).trans e,rfl⟩
theorem fP{α:Type}{M:Model}{Γ:Ctx}{Q:α->Pos->Shared->Prop}{E:Value->Pos->Shared->Prop}:∀(t:Sem α) (p:Pos) (s:Shared),DK t->Sem.wp M Γ t Q E p s->Sem.wp M Γ t (fun a p' s'=>Q a p' s'/\YK s.heap s'.heap) E p s:=by
 have mono:∀(t:Sem α) (p:Pos) (s s0:Shared),YK s0.heap s.heap->Sem.wp M Γ t (fun a p' s'=>Q a p' s'/\YK s.heap s'.heap) E p s->Sem.wp M Γ t (fun a p' s'=>Q a p' s'/\YK s0.heap s'.heap) E p s:=fun t p s s0 k h=>Sem.wp_mono M Γ t (fun a p' s' z=>⟨z.1,k.trans z.2⟩) (fun _ _ _ z=>z) p s h;intro t;induction t with
 | pure a=>exact fun p s _ h=>⟨h,fun b o e=>⟨o,e,rfl⟩⟩
 | raise e=>exact fun p s _ h=>h
 | unsupported w=>exact fun p s _ h=>h
 | finish e=>exact fun p s _ h=>h
 | rule t k ih=>exact fun p s d h=>ih () p s d h
 | «at» p k ih=>exact fun _ s d h=>ih () p s d h
 | load a pt k ih=>exact fun p s d h=>by obtain⟨o,e,h⟩:=h;exact⟨o,e,ih o p s (d o) h⟩
 | update a pt g k ih=>exact fun p s d h=>⟨h.1,mono (k ()) p { s with heap:=s.heap.update a g } s (CI s.heap a d.1) (ih () p { s with heap:=s.heap.update a g } d.2 h.2)⟩
 | alloc o k ih=>exact fun p s d h=>mono (k s.heap.objs.size) p { s with heap:=s.heap.push o } s (bc s.heap o) (ih _ p { s with heap:=s.heap.push o } (d _) h)
 | loadIfAlive a k ih=>exact fun p s d h=>ih _ p s (d _) h
 | point l k ih=>exact fun p s d h=>ih () p s d h
 | register a k ih=>exact fun p s d h=>h
 | fresh k ih=>exact fun p s d h=>ih _ p { s with toks:=s.toks+1 } (d _) h
 | ask k ih=>exact fun p s d h=>ih _ p s (d _) h
 | choose src n k ih=>exact fun p s d h=>⟨h.1,ih _ p { s with drawn:=s.drawn.bump src } (d _) h.2⟩
 | os q l k ih=>exact fun p s d h=>ih _ p { s with os:=(Os.step s.os q).1 } (d _) h
 | call c hh g l k ih=>exact fun p s d h=>d.elim
 | handled o k ih=>exact fun p s d h=>ih _ p s (d _) h
 | newGen c k ih=>exact fun p s d h=>d.elim
 | genState g k ih=>exact fun p s d h=>by obtain⟨st,e,h⟩:=h;exact⟨st,e,ih _ p s (d _) h⟩
 | resume g r l k ih=>exact fun p s d h=>d.elim
 | yield v g l k ih=>exact fun p s d h=>h
 | stack k ih=>exact fun p s d h=>ih _ p s (d _) h
 | fork c k ih=>exact fun p s d h=>h
 | thread k ih=>exact fun p s d h=>ih _ p s (d _) h
 | await a t d l k ih=>exact fun p s d h=>h
theorem V3{α:Type}{M:Model}{A:Around}{t:Sem α}{Q:α->Shared->Prop}{E:Value->Shared->Prop}{s:Shared}(d:DK t)(h:wpAny M A t Q E s):wpAny M A t (fun a s'=>Q a s'/\YK s.heap s'.heap) E s:=fun Γ p hΓ=>fP t p s d (h Γ p hΓ)
theorem YL{α β:Type}{x:Sem α}{f:α->Sem β}(hx:DK x)(hf:∀a,DK (f a)):DK (x >>= f):=DK.bind hf hx
theorem KY(v:Value):DK (fieldsOf v):=by
 unfold fieldsOf
 repeat (first | exact trivial | exact dkp _ | refine YL ?_ fun _=>?_ | split | (intro _;exact trivial))
theorem V4(v:Value)(i:Nat):DK (field v i):=by
 unfold field;refine YL (KY v) fun vs=>?_;split <;> exact trivial
theorem K4(f:Array Value->Array Value):CH (Obj.mapFields f):=fun o=>by
 obtain⟨c,d,dt,s⟩:=o;cases dt <;> exact⟨rfl,rfl⟩
theorem uP(v:Value)(i:Nat)(x:Value):DK (setField v i x):=by
 unfold setField;split
 ·unfold updateField
  repeat (first | exact trivial | exact dkp _ | exact⟨K4 _,trivial⟩ | refine YL ?_ fun _=>?_ | split | (intro _;exact trivial))
 ·exact trivial
theorem Uv:DK stack:=fun _=>trivial
theorem Zp(e:Value)(fr:Option Addr):DK (setFlight e fr):=by
 unfold setFlight;refine YL (V4 e 1) fun tb=>?_;split
 ·exact uP _ _ _
 ·exact trivial
theorem Qd(env:Env)(outer:List Env):DK (behindIsImport env outer):=by
 unfold behindIsImport
 repeat (first | exact trivial | exact dkp _ | exact V4 _ _ | refine YL ?_ fun _=>?_ | split)
theorem bf(env:Env)(b:Bool)(outer:List Env):DK (keptBack env b outer):=by
 unfold keptBack;split
 ·unfold underTheClaimsCaller
  repeat (first | exact trivial | exact dkp _ | exact Uv | refine YL ?_ fun _=>?_ | split)
 ·exact trivial
theorem K5:∀l:List Env,DK (readyFrames l)
 | []=>trivial
 | env::outer=>by
  unfold readyFrames;split
  ·refine YL (fun _=>trivial) fun o=>?_;split
   ·exact trivial
   ·refine YL (Qd _ _) fun b=>YL (bf _ _ _) fun v=>YL ?_ fun _=>K5 outer;exact⟨fun o=>⟨rfl,by obtain⟨c,d,dt,s⟩:=o;cases dt <;> rfl⟩,trivial⟩
  ·exact trivial
theorem gU(l:List Env):DK (frameObject l):=by
 unfold frameObject;split
 ·exact trivial
 ·exact YL (K5 _) fun _=>trivial
theorem WW(env:Env):DK (frameOf env):=by
 unfold frameOf frameEnvs;refine YL (YL Uv fun _=>trivial) fun l=>YL (gU _) fun o=>?_;split <;> exact trivial
theorem X1(f:Addr)(b:Bool):DK (entryPlaceOf f b):=by
 unfold entryPlaceOf;refine YL Uv fun acts=>?_;split <;> exact trivial
theorem X2(a b c d e:Value)(l:List Value):DK (EntryCells.newEntry a b c d e l):=by
 unfold EntryCells.newEntry newFields newObj newObjAsIs
 repeat (first | exact trivial | exact dkp _ | refine YL ?_ fun _=>?_ | (intro _;exact trivial) | split)
theorem wM(e:Value)(env:Env):DK (noteFrame e env):=by
 unfold noteFrame;split
 ·refine YL (V4 e 1) fun head=>?_
  repeat (first | exact trivial | exact V4 _ _ | exact uP _ _ _ | exact WW _ | exact X1 _ _ | exact X2 _ _ _ _ _ _ | refine YL ?_ fun _=>?_ | split)
 ·exact trivial
theorem WX(env:Env)(e:Value):DK (leaving env e):=by
 unfold leaving;exact YL (wM e env) fun _=>Zp e none
end L2
namespace L2
open PySem PySem.Spec PyProof.Rows
theorem Jb.ex{P:Program}{w:World}{H:Hp}{h:Heap}{a:Addr}{o:HO}(x:Jb P w H h a o):∃u,h.get? a=some u:=by
 cases o with
 | lst xs=>obtain⟨_,_,_,_,e⟩:=x;exact⟨_,e⟩
 | tup xs=>obtain⟨_,_,_,_,e,_⟩:=x;exact⟨_,e⟩
 | dK kvs=>obtain⟨_,_,_,_,o,_,_,e,_⟩:=x;exact⟨_,e⟩
 | dT kvs=>obtain⟨_,_,_,_,o,_,_,e,_⟩:=x;exact⟨_,e⟩
 | set S n=>obtain⟨o,_,_,_,e,_⟩:=x;exact⟨_,e⟩
 | ins C dx fs=>obtain⟨_,_,_,e,_⟩:=x;exact⟨_,e⟩
 | own y=>exact x
 | xd fs=>obtain⟨_,⟨_,_,_,e,_⟩,_⟩:=x;exact⟨_,e⟩
 | rng lo hi=>obtain⟨_,_,_,e⟩:=x;exact⟨_,e⟩
 | frz ob u=>obtain⟨e,_⟩:=x;exact⟨_,e⟩
 | tbl ps=>exact⟨_,(show h.get? a=some _ from x)⟩
 | met f y=>exact⟨_,(show h.get? a=some _ from x)⟩
 | ext φ=>obtain⟨_,e,_⟩:=x;exact e
structure Fly (P:Program) (w:World) (outer:List Env) (H:Hp) (s:Shared) (H':Hp) (e:Addr) (cls:Value) (s':Shared):Prop where
 os:s'.os=s.os
 bare:AllBare s'.gens
 un:Un (J8 outer) [] H H' s.heap s'.heap
 hok:JG P w H' s'.heap
 fly:∃B a0,Heap.FlyingW B outer e cls a0 s'.heap/\(∀b u,H' b=some u->∃o,B.get? b=some o)/\∀b o,s.heap.get? b=some o->b∉J8 outer->∃o',B.get? b=some o'
def Jy(P:Program)(w:World):Vh:=fun outer H s E ev s'=>∃e cls H' od,ev=.ref e/\Fly P w outer H s H' e cls s'/\(∀d,od=some d->∃oe,s'.heap.get? e=some oe/\oe.dict=some d)/\E cls od H'
section
variable {P:Program} {w:World} {K:PySem.W.Frag} {mg:Str->Option Value} {base:Heap} {N:List Str} {qual:Str} {scope:Scope} {f:Addr} {cd:Value} {A:Around} {outer:List Env} {s0:Shared} {H0:Hp} {E:XK}
theorem wN{od:Option Addr}{pins:List (Addr×Obj)}{U:St}{H H1:Hp}{s:Shared}{e t:Addr}{cls:Value}{oe:Obj}(I:Inv (jP (Jy P w) P w K mg base N qual scope f cd A outer s0 H0 E) pins U H s)
  (he:s.heap.get? e=some oe) (hc:oe.cls=cls) (hd:oe.data=.fields #[.ref t,.none,.none,.none,.bool false,.none]) (h0:s0.heap.get? e=none) (h1:H1 e=none)
  (hH:∀b,H1 b=H b \/ (H1 b=none/\∃φ,H b=some (.ext φ))) (hod:∀d,od=some d->oe.dict=some d) (hE:E cls od H1):(jP (Jy P w) P w K mg base N qual scope f cd A outer s0 H0 E).xe (.ref e) s:=by
 have sub:∀b u,H1 b=some u->H b=some u:=fun b u q=>(hH b).elim (fun z=>z▸q) fun z=>by rw[z.1]at q;cases q
 have bk:∀b u,H b=some u->(∀φ,u≠.ext φ)->H1 b=some u:=fun b u q n=>(hH b).elim (fun z=>z.trans q) fun⟨_,φ,z⟩=>vDa (vFa (q.symm.trans z)) (n φ);have fr:s.heap.FunFrames base (envOfC qual scope s0.heap.objs.size f cd::outer):=I.stack;have memb:∀b,b∈J8 (envOfC qual scope s0.heap.objs.size f cd::outer)->b=s0.heap.objs.size \/ b∈J8 outer:=fun b hb=>by
  unfold J8 at hb;rw[List.filterMap_cons]at hb;exact List.mem_cons.mp hb
 have memr:∀b,b∈J8 outer->b∈J8 (envOfC qual scope s0.heap.objs.size f cd::outer):=fun b hb=>by unfold J8;rw[List.filterMap_cons];exact wMa _ hb
 have hL0:s0.heap.get? s0.heap.objs.size=none:=Heap.get?_none_of_le (wPa _);show wpAny (model P w) (A.deeper (envOfC qual scope s0.heap.objs.size f cd)) (leaving (envOfC qual scope s0.heap.objs.size f cd) (.ref e)) _ _ s;refine wCa (V3 (Q:=fun _ s'=>∃h',s'={ s with heap:=h' }/\Heap.LeftW (PySem.W.hideAll s.heap (e::J8 (envOfC qual scope s0.heap.objs.size f cd::outer))) (envOfC qual scope s0.heap.objs.size f cd::outer) e oe.cls (.ref t) s.heap h') (WX _ _) (wpAny_leaving_firstW (base:=PySem.W.hideAll s.heap (e::J8 (envOfC qual scope s0.heap.objs.size f cd::outer))) (a0:=.ref t) (outer:=outer) (L:=s0.heap.objs.size) I.ok.frames
  (PySem.W.funFrames_hide fr fun env hv b hb=>wMa _ (List.mem_filterMap.mpr ⟨env,hv,hb⟩)) rfl he (fun b o q=>PySem.W.of_hideAll _ q) (PySem.W.hideAll_none _ wNa) hd rfl rfl fun h' z=>⟨h',rfl,z⟩)) (fun _ s' zz=>?_) (fun _ _ z=>z)
 obtain⟨⟨h',rfl,x1,⟨_,_,x2⟩,x3,x4⟩,dk⟩:=zz;have kB:∀b o,s.heap.get? b=some o->b≠e->b≠s0.heap.objs.size->b∉J8 outer->h'.get? b=some o:=fun b o q n0 n1 n2=>x1 b o (PySem.W.hideAll_get _ q fun z=>(List.mem_cons.mp z).elim n0 fun z=>(memb b z).elim n1 n2);have ks:∀b o,b∈J8 outer->s.heap.get? b=some o->∃sl,h'.get? b=some { o with slots:=sl }:=fun b o hb q=>by
  obtain⟨_,o',ho',hd⟩:=fr.mem (b:=b) (memr b hb);rw[q]at ho';cases ho';exact x4 b o q hd
 have ZD:∀b u,H1 b=some u->b≠e/\b≠s0.heap.objs.size/\b∉J8 outer:=fun b u q=>by
  have z:=fun hb=>I.stkFree b hb;refine⟨(fun n=>by rw[n,h1]at q;cases q),fun n=>?_,fun n=>?_⟩
  ·have:=z (by show b∈J8 (envOfC qual scope s0.heap.objs.size f cd::outer);unfold J8;rw[List.filterMap_cons];exact List.mem_cons.mpr (.inl n));rw[sub b u q]at this;cases this
  ·have:=z (memr b n);rw[sub b u q]at this;cases this
 have u:=I.base;have u1:Un (J8 outer) [] H0 H1 s0.heap s.heap:=⟨u.keep,u.slot,(fun b o q n hx=>(hH b).elim (fun z=>z.trans (u.free b o q n hx)) fun z=>z.1),u.there,fun b xs q=>bk b _ (u.tups b xs q) (fun _ z=>nomatch z),fun b o xs q=>bk b _ (u.frzs b o xs q) (fun _ z=>nomatch z),fun b ps q=>let ⟨m,z⟩:=u.tbls b ps q;⟨m,bk b _ z (fun _ z=>nomatch z)⟩⟩
 have hok1:JG P w H1 s.heap:=fun b o q=>(I.hok b o (sub b o q)).stay (fun _ _ _ r=>r) (fun c r=>bk c _ r (fun _ z=>nomatch z)) fun c xs r=>bk c _ r (fun _ z=>nomatch z);have ne0:∀b o,s0.heap.get? b=some o->b≠e/\b≠s0.heap.objs.size:=fun b o q=>⟨(fun z=>by rw[z,h0]at q;cases q),(fun z=>by rw[z,hL0]at q;cases q)⟩
 have hdk:∀d,od=some d->∃ob,h'.get? e=some ob/\ob.dict=some d:=fun d q=>by
  obtain⟨ob,z1,z2⟩:=dk e oe he;exact⟨ob,z1,z2.trans (hod d q)⟩
 refine⟨e,cls,H1,od,rfl,⟨I.os,I.bare,⟨fun b o q n hb hx=>kB b o (u1.keep b o q n hb hx) (ne0 b o q).1 (ne0 b o q).2 hb,fun b o q n hb hx=>?_,u1.free,fun b o q hx=>?_,u1.tups,u1.frzs,u1.tbls⟩,fun b o q=>?_,⟨_,_,⟨x1,PySem.W.hideAll_none _ wNa,x2,hc▸x3⟩,fun b o q=>?_,fun b o q n=>?_⟩⟩,hdk,hE⟩
 ·obtain⟨sl,z⟩:=u1.slot b o q n hb hx;obtain⟨sl',z'⟩:=ks b _ hb z;exact⟨sl',z'⟩
 ·obtain⟨o',z⟩:=u1.there b o q hx;by_cases hb:b∈J8 outer
  ·obtain⟨sl,z'⟩:=ks b o' hb z;exact⟨_,z'⟩
  ·exact⟨_,kB b o' z (ne0 b o q).1 (ne0 b o q).2 hb⟩
 ·refine(hok1 b o q).stay (fun c v hc r=>?_) (fun _ z=>z) fun _ _ z=>z;rcases hc with rfl | hc
  ·exact kB c v r (ZD c o q).1 (ZD c o q).2.1 (ZD c o q).2.2
  ·exact kB c v r (ZD c _ hc).1 (ZD c _ hc).2.1 (ZD c _ hc).2.2
 ·obtain⟨o',z⟩:=(hok1 b o q).ex;exact⟨o',PySem.W.hideAll_get _ z fun m=>(List.mem_cons.mp m).elim (ZD b o q).1 fun m=>(memb b m).elim (ZD b o q).2.1 (ZD b o q).2.2⟩
 ·obtain⟨o',z⟩:=u1.there b o q (by simp);exact⟨o',PySem.W.hideAll_get _ z fun m=>(List.mem_cons.mp m).elim (ne0 b o q).1 fun m=>(memb b m).elim (ne0 b o q).2 n⟩
theorem bg{pins:List (Addr×Obj)}{U:St}{H H1:Hp}{s:Shared}{e t:Addr}{cls:Value}{oe:Obj}(I:Inv (jP (Jy P w) P w K mg base N qual scope f cd A outer s0 H0 E) pins U H s)
  (he:s.heap.get? e=some oe) (hc:oe.cls=cls) (hd:oe.data=.fields #[.ref t,.none,.none,.none,.bool false,.none]) (h0:s0.heap.get? e=none) (h1:H1 e=none)
  (hH:∀b,H1 b=H b \/ (H1 b=none/\∃φ,H b=some (.ext φ))) (hE:E cls none H1):(jP (Jy P w) P w K mg base N qual scope f cd A outer s0 H0 E).xe (.ref e) s:=wN I he hc hd h0 h1 hH (fun _ z=>by cases z) hE
end
theorem bi{K:PySem.W.Frag}{h:Heap}{mg:Str->Option Value}{x:Str}{C:Addr}{bm:List Value}{nid:String}(X:K.In h)(hm:mg x=some (.ref C))(q:PySem.W.excIn K C bm nid=true):OwnCls x C bm nid mg h:=by
 refine⟨hm,?_⟩;unfold PySem.W.excIn at q;split at q
 ·rename_i dd cl slots hobj;split at q
  ·rename_i C1 tl x0 x1 x2 x3 nn x5 hmro hslots;simp only[Bool.and_eq_true,beq_iff_eq,Bool.not_eq_true']at q;obtain⟨⟨⟨⟨⟨rfl,rfl⟩,z1⟩,z2⟩,z3⟩,z4⟩:=q;obtain⟨c1,c2,c3,c4,c5,c6,c7,c8,c9,c10,c11⟩:=cl;dsimp only at hmro z1 z3 z4;subst hmro z1;have e:slots=#[x0,x1,x2,x3,some (.builtin nn),x5]:=by obtain⟨l⟩:=slots;simp only at hslots;rw[hslots]
   subst e;exact⟨tl,c4,c1,c5,c2,c6,c7,c8,c9,c10,dd,x0,x1,x2,x3,x5,_,X _ _ hobj,.of_isNs (PySem.W.isNs_of_in X z3),PySem.W.nsMap_none_of_in X z3 z4,PySem.W.tail_of_in X z2⟩
  ·cases q
 ·cases q
section
variable {P:Program} {w:World} {K:PySem.W.Frag} {mg:Str->Option Value} {base:Heap} {N:List Str} {qual:Str} {scope:Scope} {f:Addr} {cd:Value} {A:Around} {outer:List Env} {s0:Shared} {H0:Hp} {E:XK}
theorem X3{x:Str}{np cpos pos cp:Pos}{z:Str}{j:Nat}{C:Addr}{bm:List Value}{B newId initId:String}
  (ens:PySem.W.nsIn K mainGlobals x=some (some (.ref C))) (exi:PySem.W.excIn K C bm newId=true) (FB:ExcBaseFacts B newId initId bm) (hg:Gl (jP (Jy P w) P w K mg base N qual scope f cd A outer s0 H0 E) x) (hd:(x==("__debug__" : Str))=false):
  PS (jP (Jy P w) P w K mg base N qual scope f cd A outer s0 H0 E) (.Raise (some (.Call (.Name x np) [.Constant (.str z) j cp] [] cpos)) none pos) (fun _ _ H=>E (.ref C) none H):=by
 intro pins s U H D I h;have hm:=PySem.W.mg_of I.mod.kin I.mod.glob ens;have O:OwnCls x C bm newId mg base:=bi I.mod.kin hm exi;have key:wpAny (model P w) (A.deeper (envOfC qual scope s0.heap.objs.size f cd)) (spliced (backTo cpos (starEach [.Constant (.str z) j cp] (envOfC qual scope s0.heap.objs.size f cd))))
   (fun vs s₂=>vs.length<=sizeLine/\(∀b o,base.get? b=some o->s₂.heap.get? b=some o)/\∀h' e,Heap.MadeExcOf s₂.heap h' e (.ref C) vs->(jP (Jy P w) P w K mg base N qual scope f cd A outer s0 H0 E).xe (.ref e) { s₂ with heap:=h' })
   (jP (Jy P w) P w K mg base N qual scope f cd A outer s0 H0 E).xe s:=
  ji ((jx (X:=jP (Jy P w) P w K mg base N qual scope f cd A outer s0 H0 E) qB jU) cpos pins s U H (fun vs H'=>vs.length=1/\E (.ref C) none H') I ⟨rfl,h⟩) fun us s1 ⟨vs,H1,I1,r,q1,q⟩=>
   ⟨by rw[<-r.length,q1];decide,I1.bk,fun h' e hm=>by
    obtain⟨t,he,_⟩:=hm.there;refine bg (H:=H1) (H1:=H1) (t:=t) (I1.kept (t':=s1.toks) hm.keeps) he rfl rfl ?_ ?_ (fun b=>.inl rfl) q
    ·cases z:s0.heap.get? e with
     | none=>rfl
     | some o=>
      obtain⟨o',y⟩:=I1.base.there e o z (by simp[jP]);rw[hm.new]at y;cases y
    ·cases z:H1 e with
     | none=>rfl
     | some u=>
      obtain⟨o',y⟩:=(I1.hok e u z).ex;rw[hm.new]at y;cases y⟩
 show wpAny (model P w) (A.deeper (envOfC qual scope s0.heap.objs.size f cd)) (exec _ (envOfC qual scope s0.heap.objs.size f cd)) _ _ s;have hh:(A.deeper (envOfC qual scope s0.heap.objs.size f cd)).handled=none:=I.ok.hd rfl;obtain⟨tl,N',nm,q,bs,hdct,sn,sub,ab,col,dd,k0,k1,k2,k3,k5,mN,hC,hN,hni,T⟩:=O.obj;exact wpAny_Raise_call_subT (C:=C) (nm:=nm) (q:=q) (N:=N') (bs:=bs) (bm:=tl) (hdct:=hdct) (sn:=sn) (sub:=sub) (ab:=ab) (col:=col) (dd:=dd) (k0:=k0) (k1:=k1) (k2:=k2) (k3:=k3) (k5:=k5) FB (mN:=mN) (T.hasType FB.hasBase) hh rfl hni
  (yL I hg hm ⟨rfl,Calls.evalArgs_plain (wCa key (fun vs s₂ h₂=>⟨rfl,h₂.1,h₂.2.1 _ _ hC,hN.keeps h₂.2.1,T.keeps h₂.2.1,h₂.2.2⟩) fun _ _ y=>y)⟩ hd)
end
noncomputable abbrev Cx.suite(X:Cx)(e:Addr)(oe:Obj):Cx:={ X with A:=X.A.mark (some (.ref e)),calm:=false,xe:=fun _ _=>False,pn:=(e,oe)::X.pn }
theorem Inv.suite{X:Cx}{pins:List (Addr×Obj)}{U:St}{H:Hp}{s:Shared}{e:Addr}{oe:Obj}(I:Inv X pins U H s)(hp:s.heap.get? e=some oe/\H e=none/\e≠X.env.locals/\e∉X.fs/\∀v,oe.data≠.cell v):Inv (X.suite e oe) pins U H s:=
 ⟨⟨I.ok.mod,I.ok.kind,I.ok.glob,I.ok.blt,I.ok.above,I.ok.inj,I.ok.has,I.ok.cab,(fun z=>nomatch z),I.ok.frames,I.ok.stk,I.ok.exf,I.ok.bs,I.ok.bsz,I.ok.noex,I.ok.exfs,I.ok.funs,I.ok.frf⟩,I.os,I.bare,I.base,I.loc,I.cell,I.free,I.freeC,
  (fun p h=>(List.mem_cons.mp (show p∈(e,oe)::(X.pn++pins) from h)).elim (fun z=>by rw[z];exact hp) (I.pin p)),I.hok,I.len⟩
theorem Inv.unsuite{X:Cx}{pins:List (Addr×Obj)}{U:St}{H:Hp}{s:Shared}{e:Addr}{oe:Obj}(I:Inv (X.suite e oe) pins U H s)(hd:X.calm=true->X.A.handled=none):Inv X pins U H s:=
 ⟨⟨I.ok.mod,I.ok.kind,I.ok.glob,I.ok.blt,I.ok.above,I.ok.inj,I.ok.has,I.ok.cab,hd,I.ok.frames,I.ok.stk,I.ok.exf,I.ok.bs,I.ok.bsz,I.ok.noex,I.ok.exfs,I.ok.funs,I.ok.frf⟩,I.os,I.bare,I.base,I.loc,I.cell,I.free,I.freeC,(fun p h=>I.pin p (wMa _ h)),I.hok,I.len⟩
theorem Fly.move{X:Cx}{pins:List (Addr×Obj)}{U:St}{H H':Hp}{s s':Shared}{e:Addr}{cls:Value}{B:Heap}{h:Heap}{t:Nat}(I:Inv X pins U H s)(F:Fly X.prog X.w X.stack H s H' e cls s')
  (hB:B.StaysIn s'.heap) (c1:∀b u,H' b=some u->∃o,B.get? b=some o) (c2:∀b o,s.heap.get? b=some o->b∉J8 X.stack->∃o',B.get? b=some o')
  (k:B.StaysIn h) (fr:s'.heap.FunFrames B X.stack) (up:s'.heap.UpToSlots h):Inv X pins U H' { s' with heap:=h,toks:=t }:=by
 have u:=F.un;have at':∀b o,s'.heap.get? b=some o->(∃o',B.get? b=some o')->h.get? b=some o:=fun b o q ⟨o',z⟩=>by
  have:=hB b o' z;rw[q]at this;cases this;exact k b o z
 have sl:∀b o,b∈J8 X.stack->s'.heap.get? b=some o->∃sl,h.get? b=some { o with slots:=sl }:=fun b o hb q=>by
  obtain⟨_,o',ho',hd⟩:=fr.mem hb;rw[q]at ho';cases ho';exact up b o q hd
 refine I.call' (s':={ s' with heap:=h,toks:=t }) (ch:=[]) F.os ⟨fun b o q n hb hx=>at' b o (u.keep b o q n hb hx) (c2 b o q hb),fun b o q n hb hx=>?_,u.free,fun b o q hx=>?_,u.tups,u.frzs,u.tbls⟩ ?_ F.bare fun b z=>vDa z (by simp)
 ·obtain⟨l,z⟩:=u.slot b o q n hb hx;obtain⟨l',z'⟩:=sl b _ hb z;exact⟨l',z'⟩
 ·obtain⟨o',z⟩:=u.there b o q hx;by_cases hb:b∈J8 X.stack
  ·obtain⟨l',z'⟩:=sl b _ hb z;exact⟨_,z'⟩
  ·exact⟨_,at' b o' z (c2 b o q hb)⟩
 ·intro a o q;refine(F.hok a o q).stay (fun b u hb z=>at' b u z ?_) (fun _ z=>z) fun _ _ z=>z;rcases hb with hb | hb
  ·rw[hb];exact c1 a o q
  ·exact c1 b _ hb
section
variable {X:Cx}
theorem Inv.gone{pins:List (Addr×Obj)}{U:St}{H:Hp}{s:Shared}{i:Nat}{n:Str}{h':Heap}{u:Option Value}(I:Inv X pins U H s)(hN:X.N.Nodup)(hi:X.N[i]?=some n)
  {m:Str->Option Value} (hm:s.heap.Ns X.env.locals m) (hn':h'.Ns X.env.locals (fun x=>if x=n then u else m x)) (hs:Heap.SameBut X.env.locals s.heap h'):Inv X pins (U.set i none) H { s with heap:=h' }:=by
 obtain⟨m0,hn,hl⟩:=id I.loc;have em:m0=m:=by
  obtain⟨o,es,ep,h1,h2,_,h4⟩:=hn;obtain⟨o',es',ep',h1',h2',_,h4'⟩:=hm;rw[h1]at h1';cases h1';rw[h2]at h2';cases h2';funext x;rw[<-h4,<-h4']
 subst em;have neL:∀b o,X.s₀.heap.get? b=some o->b≠X.env.locals:=fun b o e=>wTa (Nat.lt_of_lt_of_le (wLa e) I.ok.above);refine⟨I.ok,I.os,I.bare,⟨fun b o e n hb hx=>(hs.2 b (neL b o e)).trans (I.base.keep b o e n hb hx),fun b o e n hb hx=>?_,I.base.free,fun b o e hx=>?_,I.base.tups,I.base.frzs,I.base.tbls⟩,⟨_,hn',fun j y v' e1 e2 e3=>?_⟩,fun y c e=>?_,I.free,I.freeC,fun p hp=>?_,fun b ob e=>?_,by rw[List.length_set];exact I.len⟩
 ·obtain⟨sl,e1⟩:=I.base.slot b o e n hb hx;exact⟨sl,(hs.2 b (neL b o e)).trans e1⟩
 ·obtain⟨o',e1⟩:=I.base.there b o e hx;exact⟨o',(hs.2 b (neL b o e)).trans e1⟩
 ·by_cases hj:j=i
  ·subst hj;rw[List.getElem?_set]at e2;split at e2
   ·split at e2 <;> cases e2
   ·rename_i z;exact vDa rfl z
  ·rw[List.getElem?_set_ne (Ne.symm hj)]at e2;obtain⟨u',r',q⟩:=hl j y v' e1 e2 e3;refine⟨u',r',?_⟩;rcases q with⟨k,e⟩ | ⟨k,c,e,z⟩
   ·refine .inl ⟨k,?_⟩;have:y≠n:=fun e=>hj (Ug hN e1 (e▸hi));simp[this,e]
   ·exact .inr ⟨k,c,e,z.sameBut hs (I.cne y c e)⟩
 ·obtain⟨w',z⟩:=I.cell y c e;exact⟨w',z.sameBut hs (I.cne y c e)⟩
 ·obtain⟨e,n,ne,nf,d⟩:=I.pin p hp;exact⟨(hs.2 p.1 ne).trans e,n,ne,nf,d⟩
 ·refine(I.hok b ob e).stay (fun c w' hc q=>(hs.2 c ?_).trans q) (fun _ q=>q) fun _ _ q=>q;rintro rfl;rcases hc with rfl | hc
  ·rw[I.free]at e;cases e
  ·rw[I.free]at hc;cases hc
theorem ZR{M:Model}{A:Around}{E:Value->Shared->Prop}{pins:List (Addr×Obj)}{U:St}{H:Hp}{s:Shared}{i:Nat}{n:Str}{pos:Pos}{Q:Unit->Shared->Prop}(I:Inv X pins U H s)(hN:X.N.Nodup)(hi:X.N[i]?=some n)(hl:X.env.kindOf n=some .local)
  (h:∀s',Inv X pins (U.set i none) H s'->Q () s'):wpAny M A (do bindName X.env n .none;unbindBehindTheSuite X.env n pos) Q E s:=by
 have hp:(X.env.scope.kind==.class||(X.env.scope.kind==.module&&X.env.locals != X.env.globals))=false:=by rw[I.ok.kind];rfl
 refine wAa (wpAny_bindName (vT (v:=.non) I hN hi (.inl hl) rfl (fun s1 I1=>?_) (.inr hl)));unfold unbindBehindTheSuite;refine wpAny_onRaise ?_;obtain⟨m,hm,hv⟩:=id I1.loc;have hlen:i < U.length:=by rw[I.len];exact(List.getElem?_eq_some_iff.mp hi).1
 obtain⟨u,r,lk⟩:=hv i n .non hi (by rw[List.getElem?_set_self hlen]) (.inl hl);have hmn:m n=some u:=by
  rcases lk with lk | ⟨k,_⟩
  ·exact lk.2
  ·rw[hl]at k;rcases k with k | k <;> cases k
 refine wpAny_unbindName_local hl hm hmn hp fun h' w hn' hs=>h _ ?_;have J:=I1.gone hN hi hm hn' hs;rw[List.set_set]at J;exact J
end
end L2
namespace L2
open PySem PySem.Spec PyProof.Rows PySem.Builtin
open PySem.W (Looks)
structure ExC (K:PySem.W.Frag) (C:Addr):Prop where
 ga:PySem.W.findIn K (.ref C) "__getattribute__" = some (some (.builtin "BaseException.__getattribute__"))
 gx:PySem.W.findIn K (.ref C) "__getattr__" = some none
 at':PySem.W.findIn K (.ref C) "__class__" = some (some (.builtin "object.__class__"))
 gt:PySem.W.specialIn K (.builtin "object.__class__") "__get__" = some (some (.builtin "getset_descriptor.__get__"))
 tk:PySem.W.takesIn K (.builtin "object.__class__")=some true
 ob:PySem.W.mroIn K C (.type "object")=some true
 be:PySem.W.subIn K (.ref C) (.type "BaseException")=some true
 cl:PySem.W.isClsIn K C=true
def K6(e C:Addr)(h:Heap):Prop:=∃o,h.get? e=some o/\o.cls=.ref C
section
variable {K:PySem.W.Frag} {e C:Addr}
theorem K6.ty{M:Model}{h:Heap}(x:K6 e C h):PySem.W.Looks M h (typeOf (.ref e)) (.ref C):=by
 obtain⟨o,h1,h2⟩:=x;have:=(PySem.W.Looks.ld (M:=M) (part:=none) h1).andThen (f:=fun o=>pure o.cls) .now;rw[h2]at this;exact this
theorem bj{M:Model}{h:Heap}(k:ExC K C)(X:K.In h):PySem.W.Looks M h (Builtin.ObjectAttr.find (.ref e) (.ref C) "__class__") (.bind (.builtin "getset_descriptor.__get__") (.builtin "object.__class__")):=by
 have L1:=PySem.W.looks_findIn (M:=M) X k.at';have L2:=PySem.W.looks_specialIn (M:=M) X k.gt;have L3:=PySem.W.looks_takesIn (M:=M) X k.tk;refine L1.andThen (L2.andThen ?_);intro A' Q' E' s' k' q';refine wAa (wAa (L3 A' _ E' s' k' ?_));exact wBa (wAa (wpAny_rule (wBa q')))
theorem CJ(k:ExC K C){prog:Program}{w:World}{A:Around}{s:Shared}{R:Result->Shared->Prop}{tp:Value}(X:K.In s.heap)(x:K6 e C s.heap)(h:R (.ok (.ret (.ref C))) s):
  codeAny (model prog w) A (.call (.builtin "getset_descriptor.__get__") ⟨[.builtin "object.__class__",.ref e,tp],[]⟩) R s:=by
 obtain⟨hh,g,dr,t,os⟩:=s;have L0:=x.ty (M:=model prog w);have L1:=PySem.W.looks_mroIn (M:=model prog w) X k.ob;refine codeAny_call_builtin PySem.W.KF.slot_gs.plain PySem.W.KF.entry_gs (PySem.W.KF.slot_gs.check _ _ _ _ _ _ _ _ PySem.W.KF.type_class (PySem.W.KF.args_gs _ _ _) ?_);unfold Builtin.«getset_descriptor.__get__» Builtin.Getset_descriptor.descrGet;rw[PySem.W.dga_obj];refine wAa (wBa ?_);unfold Builtin.Getset_descriptor.descrGetter Builtin.Getset_descriptor.descrCheckInstance Builtin.Getset_descriptor.descrNameAndClass isInstance;simp only[PySem.W.KF.owner_class];repeat (open PySem.W in lk)
 refine⟨Code.quiet_builtin _ (by decide +kernel),vSa PySem.W.KF.entry_class ?_⟩;unfold Builtin.«object.__class__» shownTypeOf;repeat (open PySem.W in lk)
 exact h
theorem fQ(SB:ExcAttrFacts "ValueError")(k:ExC K C){prog:Program}{w:World}{A:Around}{E:Value->Shared->Prop}{Q:Option Value->Shared->Prop}{s:Shared}(X:K.In s.heap)(x:K6 e C s.heap)(h:Q (some (.ref C)) { s with toks:=s.toks+1 }):
  wpAny (model prog w) A (getAttr? (.ref e) "__class__") Q E s:=by
 obtain⟨hh,g,d,t,os⟩:=s;have L0:=x.ty (M:=model prog w);have L1:=PySem.W.looks_findIn (M:=model prog w) X k.ga;have L2:=PySem.W.looks_findIn (M:=model prog w) X k.gx;have L3:=bj (e:=e) (M:=model prog w) k X;unfold getAttr? getAttrBy? getAttrBy;refine wAa (wpAny_mkText (wAa (wpAny_attempt (wDa (wAa (L0.at (wAa (L1.at ?_))))))));show wpAny _ _ (getAttrByItsOwn _ _ _ _ _ _) _ _ _;unfold getAttrByItsOwn hookBefore;refine wAa (L2.at (wAa (wpAny_attempt (wDa ?_))));show wpAny _ _ (boundAndCalled _ _ _) _ _ _;unfold boundAndCalled;have hb:bindSpecial (.builtin "BaseException.__getattribute__") (.ref e)=pure (.builtin "BaseException.__getattribute__",[.ref e]):=SB.ga.bind (.ref e);rw[hb];refine wAa (wBa (wHa (codeAny_call_builtin SB.ga.plain F.entry_bexc_ga ?_)));have hsb:Looks (model prog w) hh (isInstance (.ref e) (.type "BaseException")) true:=L0.andThen (PySem.W.looks_subIn (M:=model prog w) X k.be);have ha:=F.args_bexc_ga (.ref e) (.str "__class__" t);have hk:builtinKind "BaseException.__getattribute__" = some .slot:=by decide +kernel
 have hsplit:splitId "BaseException.__getattribute__" = some ("BaseException", "__getattribute__"):=by decide +kernel
 simp only[checkBuiltinCall,hk,hsplit];refine wAa (hsb.at ?_)
 repeat (first | assumption | wp_step)
 have x0:=x;obtain⟨o,h1,h2⟩:=x0;refine wpAny_loadPart_at h1 (wBa ?_);rw[h2];refine wAa (L3.at ?_);show wpAny _ _ (ObjectAttr.bindTo _ _ _ _) _ _ _;unfold ObjectAttr.bindTo;refine wAa (wDa (wHa (CJ k X x ?_)));exact wBa (PySem.W.handed_on rfl (wBa h))
theorem CK(k:ExC K C):PySem.W.KitX K (.ref e) (.ref C) (K6 e C) where
 ty:=fun M h _ x=>x.ty
 it:=fun M h X _=>by
  have z:=k.cl;unfold PySem.W.isClsIn PySem.W.clsIn at z;split at z
  ·rename_i ho;intro A' Q' E' s' k' q';exact wAa (wpAny_loadPart (k' _ _ (X _ _ ho)) (wBa q'))
  ·cases z
 ne:=fun h tp dd its n sl X htp=>by
  have z:=k.cl;refine Bool.eq_false_iff.mpr fun q=>?_;have e:C=tp:=Value.ref.inj (beq_iff_eq.mp q);subst e;unfold PySem.W.isClsIn PySem.W.clsIn at z;split at z
  ·rename_i ho;have y:=(X _ _ ho).symm.trans htp;cases y
  ·cases z
 ca:=fun X x h=>fQ F.excAttr_ValueError k X x h
variable {X:Cx}
end
end L2
namespace L2
open PySem PySem.Spec PyProof.Rows
section
variable {X:Cx}
def FE(X:Cx)(pins:List (Addr×Obj))(U:St)(Er:Value->Hp->Prop)(ev:Value)(s':Shared):Prop:=
 ∃H1 s1 e cls H',ev=.ref e/\Inv X pins U H1 s1/\Fly X.prog X.w X.stack H1 s1 H' e cls s'/\Er cls H'
noncomputable abbrev GG:=St->Hp->(Value->Hp->Prop)->Prop
def wO(X:Cx)(bd:List Stmt)(tb:GG):Prop:=∀(pins:List (Addr×Obj)) (s:Shared) (U:St) (H:Hp) (Er:Value->Hp->Prop),Inv X pins U H s->tb U H Er->
 wpAny (model X.prog X.w) X.A (execs bd X.env) (fun _ _=>False) (FE X pins U Er) s
def FF(X:Cx)(e:Expr)(tb:GG):Prop:=∀(pins:List (Addr×Obj)) (s:Shared) (U:St) (H:Hp) (Er:Value->Hp->Prop),Inv X pins U H s->tb U H Er->
 wpAny (model X.prog X.w) X.A (eval e X.env) (fun _ _=>False) (FE X pins U Er) s
def CL(C:Addr)(sp:Sp)(t:TA):GG:=fun U H Er=>t U H fun vs H1=>∀x dx,H1 x=none->H1 dx=none->dx≠x->sp (.ref x::vs) (upd (upd H1 dx (.own x)) x (.ins C dx [])) (fun _ _=>False) fun cls _ H2=>Er cls H2
theorem bn{k:Nat}{f C:Addr}{fd:FuncData}{ps:List Str}{sp:Sp}{x:Str}{p pos:Pos}{e:Expr}{es:List Expr}{t:TA}(M:Mk X.K C f)(F:FnOk X.prog X.w X.K X.mg X.base (Jy X.prog X.w) k f fd ps sp)(hr:Room (k+1) X.A)(hg:Gl X x)(hm:X.mg x=some (.ref C))(hb:Js X.K fd ps [])
  (ha:PA X.nox (e::es) t) (hdb:(x==("__debug__" : Str))=false:=by decide) (he:starEach (e::es) X.env=(false,eval e X.env)::starEach es X.env:=by rfl) (hpl:(backTo pos (starEach es X.env)).any (·.1)=false:=by rfl):
  FF X (.Call (.Name x p) (e::es) [] pos) (CL C sp t):=by
 intro pins s U H Er I h;refine wpAny_Call_Name_kw (yL I hg hm ?_ hdb);refine PySem.W.callWith_K (h₀:=X.base) I.ok.mod.kin M.kp (wCa (ha pos pins s U H _ (I.wish _) h) (fun us s1 ⟨vs,H1,I1,r,q⟩=>⟨I1.unwish.kIn,?_⟩) fun _ _ z=>False.elim z) he hpl
 replace I1:=I1.unwish
 have hq:=q (s1.heap.objs.size+1) s1.heap.objs.size (I1.hok.fresh (vMa _)) (I1.hok.fresh (wPa _)) (wTa (Nat.lt_succ_self _));have I2:=Inv.made (C:=C) I1;have r2:jg (V.ref (s1.heap.objs.size+1)::vs) (Value.ref (s1.heap.objs.size+1)::us):=.cons rfl r;have hl:((Value.ref (s1.heap.objs.size+1)::us)++[]).length=ps.length:=by
  have e:=r2.length;rw[F.len _ _ _ _ hq]at e;rw[List.append_nil];exact e.symm
 have hbd:=hb _ (Value.ref (s1.heap.objs.size+1)::us) I2.kIn hl;rw[List.append_nil]at hbd;refine wHa (kr (f:=f) I1.kIn M.makes M.init (beq_iff_eq.mp M.fn) (codeAny_mono (F.run _ X.stack _ _ ⟨Value.ref (s1.heap.objs.size+1)::us,[]⟩ (Value.ref (s1.heap.objs.size+1)::us) _ _ _ (hr.make C us [])
  (I2.env0.make C us []) hbd r2 hq) fun r s' hq'=>?_))
 cases r with
 | error ev=>
  obtain⟨e',cls,H',od,rfl,Fl,_,z⟩:=hq';exact⟨_,_,e',cls,H',rfl,I2,Fl,z⟩
 | ok fl=>
  cases fl with
  | ret v=>obtain⟨_,_,_,_,_,_,_,z⟩:=hq';exact z.elim
  | next=>exact False.elim hq'
  | brk=>exact False.elim hq'
  | cont=>exact False.elim hq'
theorem bp{bd:List Stmt}{h0:ExceptHandler}{tpos:Pos}{t:TS}(hbd:jr X.nox bd t):PS X (.Try bd [h0] [] [] tpos) t:=by
 intro pins s U H D I h;refine wpAny_Try_except (wCa (hbd pins s U H D (I.wish _) h) (fun fl s' hq=>?_) fun _ _ z=>False.elim z);have hq:=hq.unwish;cases fl with
 | next=>exact wpAny_execs_nil hq
 | brk=>exact hq
 | cont=>exact hq
 | ret v=>exact hq
theorem WY{st:Stmt}{t1 t2:TS}(h1:PS X st t1)(h2:PS X st t2):PS X st (fun D U H=>t1 D U H \/ t2 D U H):=
 fun pins s U H D I h=>h.elim (h1 pins s U H D I) (h2 pins s U H D I)
end
end L2
namespace DS
open PySem PySem.Spec PyProof.Rows L2
theorem Rel.un{K:Fr}{H0 H:Hp}{O0 O:List Addr}{Z:j6}{U:L2.St}(R:Rel K H0 O0 Z U H O)(i:Nat)(v:Option V):Rel K H0 O0 (Z.set i .un) (U.set i v) H O where
 len:=by rw[List.length_set,List.length_set];exact R.len
 lo:=R.lo.up (fun j q' ls e=>vE (by intro _ _ z;cases z) e) (fun a _ z=>vX (by intro _ _ z;cases z) R.len z) (fun a h _=>⟨h,fun u z=>z⟩) (j3.refl _)
 sub:=R.sub
 fr:=R.fr
 al0:=R.al0
 al:=R.al
 keep:=R.keep
 cl:=fun j d' e=>by
  rcases jh e with⟨rfl,e',hi⟩ | ⟨ne,e'⟩
  ·cases e'
  ·rw[jO ne];exact R.cl j d' e'
 bo:=fun j d' e=>by
  rcases jh e with⟨rfl,e',hi⟩ | ⟨ne,e'⟩
  ·cases e'
  ·rw[jO ne];exact R.bo j d' e'
 ow:=fun j q' d' e=>by
  rcases jh e with⟨rfl,e',hi⟩ | ⟨ne,e'⟩
  ·cases e'
  ·rw[jO ne];exact R.ow j q' d' e'
 dist:=fun j k q1 q2 ds es l e1 e2 s1 s2=>by
  rcases jh e1 with⟨rfl,e',hi⟩ | ⟨ne,e1'⟩
  ·cases e'
  ·rcases jh e2 with⟨rfl,e',hi⟩ | ⟨ne2,e2'⟩
   ·cases e'
   ·rw[jO ne]at s1;rw[jO ne2]at s2;exact R.dist j k q1 q2 ds es l e1' e2' s1 s2
section
variable {X:Cx} {K:Fr}
theorem CM{bd:List Stmt}{t t':GG}(h:wO X bd t)(f:∀U H Q,t' U H Q->t U H Q):wO X bd t':=fun pins s U H Q I q=>h pins s U H Q I (f U H Q q)
theorem wP{H:Hp}:∀bs:List Bool,j4 K H (bs.map D.bl) (bs.map V.bl)
 | []=>by rw[List.map_nil,List.map_nil,j4]
 | b::r=>by rw[List.map_cons,List.map_cons,j4];exact⟨_,_,rfl,by rw[j8],wP r⟩
end
end DS
namespace L2
open PySem PySem.Spec PyProof.Rows PySem.W Builtin Builtin.ObjectAttr
noncomputable def VQ:List Value->Bool
 | .ref _::r=>VQ r
 | l=>l==[.type "ValueError",.type "Exception",.type "BaseException",.type "object"]
theorem UZ(self:Value):∀{l:List Value},VQ l=true->refuseLoop self "__setattr__" l=pure ()
 | .ref c::r,e=>by rw[refuseLoop_ref];exact UZ self e
 | [],e=>by cases e
 | .type a::r,e=>by rw[eq_of_beq (show(Value.type a::r==_)=true from e)];exact PySem.F.store_ValueError.passes self
theorem wQ:∀{l:List Value},VQ l=true->l.contains (.type "object")=true
 | .ref c::r,e=>by rw[List.contains_cons,wQ (l:=r) e,Bool.or_true]
 | [],e=>by cases e
 | .type a::r,e=>by rw[eq_of_beq (show(Value.type a::r==_)=true from e)];decide
section
variable {prog:Program} {w:World} {A:Around} {E:Value->Shared->Prop} {R:Result->Shared->Prop} {s:Shared} {K:Frag} {x C:Addr} {ox:Obj} {od:Option Obj} {name:Str} {tk:Tok} {v:Value}
def vH(K:Frag)(C:Addr):Bool:=(clsIn K C).any fun cd=>VQ cd.mro
theorem bq(X:K.In s.heap)(I:InstAt s.heap x ox C od)(hp:vH K C=true)(ht:takerIn K C name=some none)
  (h:∀b,wpAny (model prog w) A.in1 (storeInOwnDict (.ref x) (.ref C) (.str name tk) name v b)
   (fun fin s'=>match fin with | .done f=>R (.ok f) s' | .again c'=>c'.quiet=true/\codeAny (model prog w) A c' R s') (fun e s'=>R (.error e) s') s):
  codeAny (model prog w) A (.call (.builtin "object.__setattr__") ⟨[.ref x,.str name tk,v],[]⟩) R s:=by
 have SF:=PySem.F.store_object;obtain⟨cd,hc,ho⟩:=any_some hp;have ne:cd.mro.isEmpty=false:=by cases q:cd.mro with | nil=>rw[q]at ho;cases ho | cons _ _=>rfl
 have sub:Looks (model prog w) s.heap (isInstance (.ref x) (.type "object")) true:=I.type.andThen (looks_mroIn X (by unfold mroIn;rw[hc,Option.bind_some,if_neg (by rw[ne];decide),wQ ho]));refine codeAny_call_builtin SF.slot.plain SF.entry (@check_slot (model prog w) _ _ s "object.__setattr__" "object" "__setattr__" (.ref x) [.str name tk,v] [] _ SF.kind SF.split sub (SF.args (.ref x) (.str name tk) v) ?_);obtain⟨attr,ha,hr⟩:=Option.bind_eq_some_iff.mp ht;have hm:Looks (model prog w) s.heap (mroOf (.ref C)) cd.mro:=(looks_clsIn X hc).andThen .now;have L3:Looks (model prog w) s.heap (storeTaker? attr) none:=by
  cases attr with
  | none=>exact .now
  | some a=>
   obtain⟨b,hb,hbb⟩:=Option.map_eq_some_iff.mp hr;refine(looks_takesIn X hb).andThen ?_;cases b with
   | false=>exact .now
   | true=>cases hbb
 rw[osa_eq,refuse_eq];refine wAa (wAa (I.type.here (wAa (hm.here ?_))));rw[UZ _ ho];refine wBa (wAa (I.type.here (wAa ((looks_findIn X ha).here (wAa (L3.here ?_))))));exact h _
theorem X4{vs:Array Value}{Q:Unit->Shared->Prop}(X:K.In s.heap)(hx:s.heap.get? x=some { cls:=.ref C,data:=.fields vs })
  (hs:findIn K (.ref C) "__setattr__" = some (some (.builtin "object.__setattr__"))) (hp:vH K C=true) (ht:takerIn K C name=some none) (hh:hasDictIn K C=true)
  (h:∀h' t',h'.get? x=some { cls:=.ref C,dict:=some s.heap.objs.size,data:=.fields vs }->h'.Ns1 s.heap.objs.size (fun y=>if y=name then some v else none)->(∀b o,b≠x->s.heap.get? b=some o->h'.get? b=some o)->Q () { s with heap:=h',toks:=t' }):
  wpAny (model prog w) A (setAttr (.ref x) name v) Q E s:=by
 have J:InstAt s.heap x { cls:=.ref C,data:=.fields vs } C none:=⟨hx,rfl,rfl,trivial⟩
 refine PySem.W.set_plain X J hs (bq (s:={ s with toks:=s.toks+1 }) X J hp ht fun b=>?_);obtain⟨cd,hc,hd'⟩:=any_some hh;refine wAa (wBa (wAa (wAa (wpAny_loadPart hx (wAa (Looks.here (s:={ s with toks:=s.toks+1 }) (looks_clsIn X hc) ?_))))));rw[hd'];obtain⟨hh,g,d,t,os⟩:=s;have hx₁:(hh.push { cls:=.type "dict",data:=.dict #[] }).get? x=some { cls:=.ref C,data:=.fields vs }:=wIa _ hx;have hxs:x≠hh.objs.size:=wTa (wLa hx);have hgd:((hh.push { cls:=.type "dict",data:=.dict #[] }).update x fun o=>{ cls:=o.cls,dict:=some hh.objs.size,data:=o.data,slots:=o.slots }).get? hh.objs.size
     = some { cls:=.type "dict",data:=.dict #[] }:=
    (Heap.get?_update_ne _ _ _ _ hxs.symm).trans (Heap.get?_push_at rfl rfl)
 have hnd:((hh.push { cls:=.type "dict",data:=.dict #[] }).update x fun o=>{ cls:=o.cls,dict:=some hh.objs.size,data:=o.data,slots:=o.slots }).Ns hh.objs.size (fun _=>none):=
    ⟨_,#[],_,hgd,rfl,fun e he=>vDa he (by simp),fun _=>rfl⟩
 refine wAa (wpAny_alloc' ?_);refine wAa (wpAny_update' hx₁ ?_);refine wBa ?_;show wpAny _ _ (storeInDict hh.objs.size (.str name _) name v) _ _ _;unfold storeInDict newKeyGuard;refine wAa (wBa (wAa (wpAny_nsSet1 (Heap.Ns1.of_empty hnd) fun h' hn' hs=>?_)));obtain⟨oD,esD,epD,hoD,hdD,hcD⟩:=hn'.count (Within.cons name v Within.nil);refine wAa (wpAny_lookBehind hoD (by rw[hdD];exact pastItsLine_dict (wSa hcD (by rw[List.length_cons,List.length_nil,sizeLine_eq];omega))) ?_);refine wBa (h h' _ ((hs.2 x hxs).trans (vUa _ hx₁ rfl)) ?_ fun b o n q=>?_)
 ·exact hn'
 ·exact(hs.2 b (wTa (wLa q))).trans ((Heap.get?_update_ne _ _ _ _ n).trans (wIa _ q))
end
noncomputable def xE(C e:Addr)(od:Option Addr):HO:=.ext fun h=>∃t,h.get? e=some { cls:=.ref C,dict:=od,data:=.fields #[.ref t,.none,.none,.none,.bool false,.none] }
section
variable {P:Program} {w:World} {H:Hp} {hp:Heap} {C e dx t:Addr} {od:Option Addr} {mA:Str->Option Value} {ns:List Str}
theorem aN(h:hp.get? e=some { cls:=.ref C,dict:=od,data:=.fields #[.ref t,.none,.none,.none,.bool false,.none] }):Jb P w H hp e (xE C e od):=⟨⟨t,h⟩,⟨_,h⟩,fun _ _ ⟨t,q⟩ k=>⟨t,k _ q⟩⟩
end
structure ExS (K:Frag) (C:Addr) (f:Str):Prop where
 sa:findIn K (.ref C) "__setattr__" = some (some (.builtin "object.__setattr__"))
 eo:vH K C=true
 tk:takerIn K C f=some none
 hd:hasDictIn K C=true
end L2
namespace L2
open PySem PySem.Spec PyProof.Rows
noncomputable abbrev VR(l:List Value):Obj:={ cls:=.type "tuple",data:=.seq l.toArray }
noncomputable abbrev VS(C t:Addr):Obj:={ cls:=.ref C,data:=.fields #[.ref t,.none,.none,.none,.bool false,.none] }
section
variable {prog:Program} {w:World} {A:Around} {E:Value->Shared->Prop} {h:Heap} {g:Array GenState} {d:Drawn} {t:Nat} {os:OsState}
variable {nm q:Str} {C N fi:Addr} {bs bm bmB:List Value} {hdct:Bool} {sn:List Str} {sub:List Value} {ab:Bool} {col:Option Bool} {dd:Option Addr} {k0 k1 k2 k3 k5:Option Value} {B newId initId:String}
theorem br(F:ExcBaseFacts B newId initId bmB)(T:OwnTail h bmB bm){mN:Str->Option Value}{l:List Value}{Q:Fin->Shared->Prop}
  (hC:h.get? C=some (excClassObj nm q C N bs bm hdct sn sub ab col dd k0 k1 k2 k3 k5 newId)) (hn:h.Ns N mN) (hni:mN "__init__" = some (.ref fi)) (hl:l.length<=sizeLine)
  (hb:∀h':Heap,(∀b o,h.get? b=some o->h'.get? b=some o)->∀self,PySem.W.Looks (model prog w) h' (bindSpecial (.ref fi) self) (.ref fi,[self]))
  (hi:codeAny (model prog w) A (.call (.ref fi) ⟨.ref (h.objs.size+1)::l,[]⟩) (fun r s'=>match r with | .ok (.ret .none)=>Q (.done (.ret (.ref (h.objs.size+1)))) s' | .ok _=>False | .error ev=>E ev s') ⟨(h.push (VR l)).push (VS C h.objs.size),g,d,t,os⟩):
  wpAny (model prog w) A (Builtin.«type.__call__» ⟨.ref C::l,[]⟩) Q E ⟨h,g,d,t,os⟩:=by
 have kp:∀b o,h.get? b=some o->((h.push (VR l)).push (VS C h.objs.size)).get? b=some o:=fun b o e=>wIa _ (wIa _ e)
 repeat (first | with_reducible refine wpAny_loadPart_at hC ?_ | with_reducible refine wpAny_madeBy_exc hC ?_ | wp_step)
 refine codeAny_call_builtin_code (Code.quiet_builtin _ F.quiet) (wpAny_check_new_subT F T hC (codeAny_exc_new_subT F T hC ?_ hl));show wpAny _ _ _ _ _ _;have c1:=kp _ _ hC;have n1:((h.push (VR l)).push (VS C h.objs.size)).Ns N mN:=hn.keeps kp;have T1:=T.keeps kp;have g1:((h.push (VR l)).push (VS C h.objs.size)).get? (h.objs.size+1)=some (VS C h.objs.size):=by heap_get
 have cc:(Value.ref C::bm).contains (.ref C)=true:=by simp
 unfold isInstance
 repeat (first | with_reducible refine wpAny_loadPart_at g1 ?_ | (with_reducible refine wpAny_isSubtype_exc c1 ?_;rw[cc]) | wp_step)
 show wpAny _ _ (typeLookup (.ref C) _) _ _ _;refine wpAny_typeLookup_tail c1 n1 T1 F.mroIs F.init.lookup ?_;rw[hni];refine wDa (wAa ((hb _ kp _).here ?_));refine wAa (wHa (codeAny_mono hi fun r s' z=>?_));cases r with
 | error ev=>exact z
 | ok fl=>
  cases fl with
  | ret v=>
   cases v with
   | none=>exact wBa (wBa z)
   | _=>exact z.elim
  | _=>exact z.elim
theorem Qe(F:ExcBaseFacts B newId initId bmB)(T:OwnTail h bmB bm){mN:Str->Option Value}{l:List Value}{Q:Value->Shared->Prop}
  (hC:h.get? C=some (excClassObj nm q C N bs bm hdct sn sub ab col dd k0 k1 k2 k3 k5 newId)) (hn:h.Ns N mN) (hni:mN "__init__" = some (.ref fi)) (hl:l.length<=sizeLine)
  (hb:∀h':Heap,(∀b o,h.get? b=some o->h'.get? b=some o)->∀self,PySem.W.Looks (model prog w) h' (bindSpecial (.ref fi) self) (.ref fi,[self]))
  (hi:codeAny (model prog w) (A.under (.builtin "type.__call__" ⟨.ref C::l,[]⟩)) (.call (.ref fi) ⟨.ref (h.objs.size+1)::l,[]⟩) (fun r s'=>match r with | .ok (.ret .none)=>Q (.ref (h.objs.size+1)) s' | .ok _=>False | .error ev=>E ev s') ⟨(h.push (VR l)).push (VS C h.objs.size),g,d,t,os⟩):
  wpAny (model prog w) A (call (.ref C) l) Q E ⟨h,g,d,t,os⟩:=by
 have f1:=tc_lookup;have f2:=tc_bind (.ref C);have hT:(⟨h,g,d,t,os⟩:Shared).TypeIs (.ref C) "type" := ⟨_,hC,rfl⟩
 refine wHa (codeAny_of_tree ?_);show wpAny _ _ (callAny (.ref C) _) _ _ _
 repeat (any_goals (first | assumption | with_reducible refine wpAny_loadPart_at hC ?_ | wp_step))
 refine⟨rfl,?_⟩;refine codeAny_call_builtin_at (Code.quiet_builtin _ (by decide +kernel)) entry_typeCall (wpAny_check_type_call_sub hC (br F T hC hn hni hl hb ?_));refine codeAny_mono hi fun r s' z=>?_;cases r with
 | error ev=>exact z
 | ok fl=>
  cases fl with
  | ret v=>cases v <;> exact z
  | _=>exact z
end
theorem WZ{M:Model}{A:Around}{E:Value->Shared->Prop}{env:Env}{nm q:Str}{C N:Addr}{bs bm:List Value}{hdct:Bool}{sn:List Str}{sub:List Value}{ab:Bool}{col:Option Bool}{dd:Option Addr}{k0 k1 k2 k3 k5:Option Value}{newId:String}{s:Shared}{x:Sem Value}{Q:Flow->Shared->Prop}(hb:bm.contains (.type "BaseException")=true)(hh:A.handled=none)
  (h:wpAny M A x (fun v s₁=>∃e oe,v=.ref e/\s₁.heap.get? C=some (excClassObj nm q C N bs bm hdct sn sub ab col dd k0 k1 k2 k3 k5 newId)/\s₁.heap.get? e=some oe/\oe.cls=.ref C/\(∃t,oe.data=.fields #[.ref t,.none,.none,.none,.bool false,.none])/\E (.ref e) s₁) E s):
  wpAny M A (raiseStmt env (some x) none) Q E s:=by
 have cB:(Value.ref C::bm).contains (.type "BaseException")=true:=by rw[List.contains_cons,hb,Bool.or_true]
 unfold raiseStmt;refine wAa (wCa h (fun v s₁ h₁=>?_) fun _ _ x=>x);obtain⟨e,oe,rfl,hC,he,hc,⟨vs,hd⟩,hE⟩:=h₁;obtain⟨hp,g,d,tk,os⟩:=s₁;obtain⟨oc,od,odt,osl⟩:=oe;dsimp only at hc hd;subst hc hd
 repeat (first | with_reducible refine wpAny_loadPart_at he ?_ | with_reducible refine wpAny_loadPart_at hC ?_ | (with_reducible refine wpAny_isSubtype_exc hC ?_;rw[cB]) | wp_step)
 exact wpAny_raiseNew_none hh hE
theorem bt{K:PySem.W.Frag}{h:Heap}{N:Addr}{m:Str->Option Value}{n:Str}{v:Value}(X:K.In h)(G:h.Ns N m)(e:PySem.W.nsIn K N n=some (some v)):m n=some v:=by
 obtain⟨o,es,ep,ho,hd,_,hf⟩:=G;unfold PySem.W.nsIn at e;split at e
 ·rename_i c d es' n' sl q;have z:=X _ _ q;rw[ho]at z;cases z;cases hd;split at e
  ·rename_i en he;cases e;rw[<-hf];unfold nsFind findBy;rw[<-Array.find?_toList,he];rfl
  ·split at e <;> cases e
 ·cases e
noncomputable def VT(K:PySem.W.Frag)(C:Addr)(bmB:List Value)(newId:String)(fi:Addr):Bool:=match K.lookup C with
 | some ⟨.type "type",_,.cls cd,sl⟩=>(match cd.mro,sl.toList with
  | .ref C'::bm,[_,_,_,_,some (.builtin n),_]=>C'==C&&(n==newId&&(!cd.hasDel&&(PySem.W.tailIn K bmB bm&&(PySem.W.nsOkIn K cd.ns&&PySem.W.nsIn K cd.ns "__init__" == some (some (.ref fi))))))
  | _,_=>false)
 | _=>false
theorem X5{K:PySem.W.Frag}{h:Heap}{C fi:Addr}{bmB:List Value}{nid:String}(X:K.In h)(q:VT K C bmB nid fi=true):
  ∃bm N nm q bs hdct sn sub ab col dd k0 k1 k2 k3 k5 mN,h.get? C=some (excClassObj nm q C N bs bm hdct sn sub ab col dd k0 k1 k2 k3 k5 nid)/\h.Ns N mN/\mN "__init__" = some (.ref fi)/\OwnTail h bmB bm:=by
 unfold VT at q;split at q
 ·rename_i dd cl slots hobj;split at q
  ·rename_i C1 tl x0 x1 x2 x3 nn x5 hmro hslots;simp only[Bool.and_eq_true,beq_iff_eq,Bool.not_eq_true']at q;obtain⟨rfl,rfl,z1,z2,z3,z4⟩:=q;obtain⟨c1,c2,c3,c4,c5,c6,c7,c8,c9,c10,c11⟩:=cl;dsimp only at hmro z1 z3 z4;subst hmro z1;have e:slots=#[x0,x1,x2,x3,some (.builtin nn),x5]:=by obtain⟨l⟩:=slots;simp only at hslots;rw[hslots]
   subst e;have G:h.Ns c4 (h.nsMap c4):=.of_isNs (PySem.W.isNs_of_in X z3);exact⟨tl,c4,c1,c5,c2,c6,c7,c8,c9,c10,dd,x0,x1,x2,x3,x5,_,X _ _ hobj,G,bt X G z4,PySem.W.tail_of_in X z2⟩
  ·cases q
 ·cases q
end L2
namespace L2
open PySem PySem.Spec PyProof.Rows PySem.W
noncomputable def xV(dx:Addr)(f:Str)(v:V):HO:=.ext fun h=>∃mA u,h.Ns1 dx mA/\PySem.Within mA [f]/\mA f=some u/\jq v u
theorem fU{P:Program}{w:World}{H:Hp}{hp:Heap}{dx:Addr}{f:Str}{v:V}{u:Value}{mA:Str->Option Value}(hn:hp.Ns1 dx mA)(hw:PySem.Within mA [f])(hu:mA f=some u)(hr:jq v u):Jb P w H hp dx (xV dx f v):=
 ⟨⟨mA,u,hn,hw,hu,hr⟩,(let ⟨o,_,_,e,_⟩:=hn;⟨o,e⟩),fun _ _ ⟨mA,u,⟨o,es,ep,e,c⟩,w,q,r⟩ k=>⟨mA,u,⟨o,es,ep,k _ e,c⟩,w,q,r⟩⟩
section
variable {X:Cx} {pins:List (Addr×Obj)} {U:St} {H:Hp} {s:Shared} {C a dx t:Addr} {f:Str} {u:Value} {v:V} {A:Around} {E:Value->Shared->Prop} {mA:Str->Option Value}
theorem Inv.excV{h':Heap}{t':Nat}(I:Inv X pins U H s)(e:H a=some (xE C a none))(hx:h'.get? a=some { cls:=.ref C,dict:=some s.heap.objs.size,data:=.fields #[.ref t,.none,.none,.none,.bool false,.none] })(hn:h'.Ns1 s.heap.objs.size mA)(hw:PySem.Within mA [f])(hu:mA f=some u)(hr:jq v u)
  (k:∀b o,b≠a->s.heap.get? b=some o->h'.get? b=some o):Inv X pins U (upd (upd H s.heap.objs.size (xV s.heap.objs.size f v)) a (xE C a (some s.heap.objs.size))) { s with heap:=h',toks:=t' }:=by
 have fr:H s.heap.objs.size=none:=I.fresh;have na:∀b,H b=none->b≠a:=fun b n z=>by rw[z,e]at n;cases n
 have nd:∀b o,H b=some o->b≠s.heap.objs.size:=fun b o q z=>by rw[z,fr]at q;cases q
 have oth:∀b o,H b=some o->b≠a->upd (upd H s.heap.objs.size (xV s.heap.objs.size f v)) a (xE C a (some s.heap.objs.size)) b=some o:=fun b o q n=>by rw[je n,je (nd b o q)];exact q
 have ne:∀b o,H b=some o->(∀φ,o≠.ext φ)->b≠a:=fun b o q n z=>by rw[z,e]at q;exact n _ (vFa q).symm
 refine I.un ⟨fun b o q n _ _=>k b o (na b n) q,fun b o q n _ _=>⟨o.slots,k b o (na b n) q⟩,fun b o q n _=>?_,fun b o q _=>?_,fun b xs q=>oth b _ q (ne b _ q fun _ z=>by cases z),fun b o xs q=>oth b _ q (ne b _ q fun _ z=>by cases z),fun b ps q=>⟨#[],by rw[oth b _ q (ne b _ q fun _ z=>by cases z)];simp⟩⟩ fun b o q=>?_
 ·rw[je (na b n),je (Nat.ne_of_lt (Heap.lt_size q))];exact n
 ·by_cases z:b=a
  ·rw[z];exact⟨_,hx⟩
  ·exact⟨o,k b o z q⟩
 ·by_cases z:b=a
  ·subst z;rw[ju]at q;cases q;exact aN hx
  ·rw[je z]at q;by_cases y:b=s.heap.objs.size
   ·subst y;rw[ju]at q;cases q;exact fU hn hw hu hr
   ·rw[je y]at q;refine(I.hok b o q).stay (fun c v hc r=>k c v ?_ r) (fun c r=>oth c _ r (ne c _ r fun _ z=>by cases z)) fun c xs r=>oth c _ r (ne c _ r fun _ z=>by cases z);rcases hc with rfl | hc
    ·exact z
    ·exact ne c _ hc fun _ z=>by cases z
theorem W_{Q:Unit->Shared->Prop}(I:Inv X pins U H s)(e:H a=some (xE C a none))(c:ExS X.K C f)(hr:jq v u)
  (h:∀dx s',H dx=none->dx≠a->Inv X pins U (upd (upd H dx (xV dx f v)) a (xE C a (some dx))) s'->Q () s'):wpAny (model X.prog X.w) A (setAttr (.ref a) f u) Q E s:=by
 obtain⟨⟨t,hx⟩,_⟩:=I.hok a _ e;refine X4 I.kIn hx c.sa c.eo c.tk c.hd fun h' t' q1 q2 q3=>h _ _ I.fresh (fun z=>?_) (I.excV e q1 q2 (PySem.Within.cons f u PySem.Within.nil) (if_pos rfl) hr q3);have:=I.fresh;rw[z,e]at this;cases this
def sV(K:Frag)(ta tv:TE)(f:Str):TS:=fun D U H=>tv U H fun y H1=>ta U H1 fun x H2=>∃a C,x=.ref a/\ExS K C f/\H2 a=some (xE C a none)/\∀dx,H2 dx=none->dx≠a->D.nx U (upd (upd H2 dx (xV dx f y)) a (xE C a (some dx)))
theorem iu{o value:Expr}{ta tv:TE}{pos pos':Pos}(ha:PE X o ta)(hv:PE X value tv)(hs:swapsWith value (some (.Attribute o f pos')) pos.line X.env=pure false):PS X (.Assign [.Attribute o f pos'] value pos) (sV X.K ta tv f):=by
 intro pins s U H D I h;refine plainObj_wpAny_Assign_Attribute (ji (hv pins s U H _ I h) fun u s1 ⟨y,H1,I1,ry,q⟩=>ji (ha pins s1 U H1 _ I1 q) fun ov s2 ⟨x,H2,I2,rx,a,C,ex,c,e,q2⟩=>?_) hs;subst ex;obtain rfl:ov=Value.ref a:=rx;exact W_ I2 e c ry fun dx s3 n1 n2 I3=>⟨U,_,I3,q2 dx n1 n2⟩
end
def aO(C:Addr)(f:Str):Sp:=fun vs H Q _=>∃e v,vs=[.ref e,v]/\H e=some (xE C e none)/\∀dx,H dx=none->dx≠e->Q .non (upd (upd H dx (xV dx f v)) e (xE C e (some dx)))
theorem iy{P:Program}{w:World}{K:PySem.W.Frag}{mg:Str->Option Value}{base:Heap}{x qual:Str}{st:Stmt}{f C:Addr}{fd:FuncData}{k:Nat}{a0 a1 f1:Str}{p1 p2 p3 p4:Pos}(F:Fun K x qual st f fd)(S:FnScope [a0,a1] [a0,a1] (defScope st))
  (hb:defBody st=[.Assign [.Attribute (.Name a0 p1) f1 p2] (.Name a1 p3) p4]) (c1:ExS K C f1) (v0:Go (defScope st) a0) (v1:Go (defScope st) a1)
  (d0:(a0==("__debug__" : Str))=false) (d1:(a1==("__debug__" : Str))=false) (e0:(a0==("__classdict__" : Str))=false) (e1:(a1==("__classdict__" : Str))=false):
  FnOk P w K mg base JH (k+1) f fd [a0,a1] (aO C f1):=by
 refine F.ok S (fun vs H Q E ⟨e,v,z,_⟩=>by rw[z];rfl) fun cdv A outer s H vs Q E hr ⟨e,y,z,he,q⟩=>?_;subst z;rw[hb];refine⟨_,vt (iu (km (i:=0) rfl v0 d0 e0) (km (i:=1) rfl v1 d1 e1) rfl),?_⟩;exact⟨y,rfl,.ref e,rfl,e,C,rfl,c1,he,fun dx n1 n2=>q dx n1 n2⟩
end L2
namespace L2
open PySem PySem.Spec PyProof.Rows
section
variable {P:Program} {w:World} {K:PySem.W.Frag} {mg:Str->Option Value} {base:Heap} {N:List Str} {qual:Str} {scope:Scope} {f:Addr} {cd:Value} {A:Around} {outer:List Env} {s0:Shared} {H0:Hp} {E:XK}
theorem Qf{x:Str}{np cpos pos:Pos}{a:Expr}{C fi:Addr}{bmB:List Value}{B newId initId:String}{fd:FuncData}{k:Nat}{ps:List Str}{g:Str}{ta:TA}
  (ens:PySem.W.nsIn K mainGlobals x=some (some (.ref C))) (exi:VT K C bmB newId fi=true) (FB:ExcBaseFacts B newId initId bmB) (kp:PySem.W.keepIn K (.ref C)=true) (ft:PySem.W.typeIn K (.ref fi)=some (.type "function"))
  (FI:FnOk P w K mg base JH k fi fd ps (aO C g)) (hps:ps.length=2) (hb:Js K fd ps []) (hr:Room (k+1) (A.deeper (envOfC qual scope s0.heap.objs.size f cd)))
  (hg:Gl (jP (Jy P w) P w K mg base N qual scope f cd A outer s0 H0 E) x) (hd:(x==("__debug__" : Str))=false)
  (ha:PA (jP (Jy P w) P w K mg base N qual scope f cd A outer s0 H0 E) [a] ta)
  (he:starEach [a] (envOfC qual scope s0.heap.objs.size f cd)=(false,eval a (envOfC qual scope s0.heap.objs.size f cd))::starEach [] (envOfC qual scope s0.heap.objs.size f cd)) (hpl:(backTo cpos (starEach [] (envOfC qual scope s0.heap.objs.size f cd))).any (·.1)=false):
  PS (jP (Jy P w) P w K mg base N qual scope f cd A outer s0 H0 E) (.Raise (some (.Call (.Name x np) [a] [] cpos)) none pos) (fun _ U H=>ta U H fun vs H1=>∃v,vs=[v]/\∀dx,H1 dx=none->E (.ref C) (some dx) (upd H1 dx (xV dx g v))):=by
 intro pins s U H D I h;have hh:(A.deeper (envOfC qual scope s0.heap.objs.size f cd)).handled=none:=I.ok.hd rfl;obtain⟨bm,N',nm,q,bs,hdct,sn,sub,ab,col,dd,k0,k1,k2,k3,k5,mN,hC,hn,hni,T⟩:=X5 I.mod.kin exi;have hm:=PySem.W.mg_of I.mod.kin I.mod.glob ens;show wpAny (model P w) (A.deeper (envOfC qual scope s0.heap.objs.size f cd)) (exec _ (envOfC qual scope s0.heap.objs.size f cd)) _ _ s;rw[arm_exec_Raise];refine wAa (vOa (WZ (nm:=nm) (q:=q) (C:=C) (N:=N') (bs:=bs) (bm:=bm) (hdct:=hdct) (sn:=sn) (sub:=sub) (ab:=ab) (col:=col) (dd:=dd) (k0:=k0) (k1:=k1) (k2:=k2) (k3:=k3) (k5:=k5) (newId:=newId) (T.hasType FB.hasBase) hh ?_));refine wAa (wCa ?_ (fun v s3 h3=>wAa (vOa (wBa h3))) fun _ _ z=>z);refine wpAny_Call_Name_kw (yL I hg hm ?_ hd);refine PySem.W.callWith_K (h₀:=base) I.ok.mod.kin kp (wCa (ha cpos pins s U H _ I h) (fun us s1 ⟨vs,H1,I1,r,v,q1,qE⟩=>⟨I1.kIn,?_⟩) fun _ _ z=>z) he hpl;subst q1;have hl:us.length=1:=by rw[<-r.length];rfl
 have I2a:=I1.kept (h':=s1.heap.push (VR us)) (t':=s1.toks) fun b u q=>wIa _ q;have I2:=I2a.laid (a:=s1.heap.objs.size+1) (o:=xE C (s1.heap.objs.size+1) none) (h':=(s1.heap.push (VR us)).push (VS C s1.heap.objs.size)) (t':=s1.toks) (fun b u q=>wIa _ q) (Nat.le_of_eq (Heap.size_push _ _)) (aN (t:=s1.heap.objs.size) (by heap_get));have f1':H1 (s1.heap.objs.size+1)=none:=I1.hok.fresh (vMa _);have r2:jg [V.ref (s1.heap.objs.size+1),v] (Value.ref (s1.heap.objs.size+1)::us):=.cons rfl r;have hbd:=hb { s1 with heap:=(s1.heap.push (VR us)).push (VS C s1.heap.objs.size) } (Value.ref (s1.heap.objs.size+1)::us) I2.kIn (by rw[List.append_nil,List.length_cons,hl,hps]);rw[List.append_nil]at hbd;have hsp:aO C g [.ref (s1.heap.objs.size+1),v] (upd H1 (s1.heap.objs.size+1) (xE C (s1.heap.objs.size+1) none)) (fun z H'=>z=.non/\∃dx,H1 dx=none/\dx≠s1.heap.objs.size+1/\H'=upd (upd (upd H1 (s1.heap.objs.size+1) (xE C (s1.heap.objs.size+1) none)) dx (xV dx g v)) (s1.heap.objs.size+1) (xE C (s1.heap.objs.size+1) (some dx))) E:=
  ⟨_,v,rfl,ju,fun dx n1 n2=>⟨rfl,dx,by rw[je n2]at n1;exact n1,n2,rfl⟩⟩
 refine Qe FB (T.keeps I1.bk) (I1.bk _ _ hC) (hn.keeps I1.bk) hni (by show us.length<=sizeLine;rw[hl,sizeLine_eq];omega) (fun h' kk self=>PySem.W.bind_fn (I1.kIn.keeps kk) self ft) (codeAny_mono (FI.run _ _ _ _ ⟨Value.ref (s1.heap.objs.size+1)::us,[]⟩ (Value.ref (s1.heap.objs.size+1)::us) _ _ E (hr.make C us []) (I2.env0.make C us []) hbd r2 hsp) fun r s' hq'=>?_);cases r with
 | error ev=>exact False.elim hq'
 | ok fl=>
  cases fl with
  | ret z=>
   obtain⟨v',H',I3,rv,rfl,dx,n1,n2,rfl⟩:=I2.after hq';obtain rfl:z=Value.none:=rv;have ee:upd (upd (upd H1 (s1.heap.objs.size+1) (xE C (s1.heap.objs.size+1) none)) dx (xV dx g v)) (s1.heap.objs.size+1) (xE C (s1.heap.objs.size+1) (some dx)) (s1.heap.objs.size+1)=some (xE C (s1.heap.objs.size+1) (some dx)):=ju;obtain⟨⟨t,hx⟩,_⟩:=I3.hok _ _ ee;have h1:upd H1 dx (xV dx g v) (s1.heap.objs.size+1)=none:=by rw[je n2.symm];exact f1'
   refine⟨_,_,rfl,I3.bk _ _ hC,hx,rfl,⟨t,rfl⟩,wN (od:=some dx) (H1:=upd H1 dx (xV dx g v)) (t:=t) I3 hx rfl rfl (Heap.get?_none_of_le (Nat.le_succ_of_le I1.sz)) h1 (fun b=>?_) (fun d z=>z) (qE dx n1)⟩;by_cases y:b=s1.heap.objs.size+1
   ·subst y;exact .inr ⟨h1,_,ee⟩
   ·by_cases z:b=dx
    ·subst z;exact .inl (by rw[ju,je y,ju])
    ·exact .inl (by rw[je z,je y,je z,je y])
  | next=>exact False.elim hq'
  | brk=>exact False.elim hq'
  | cont=>exact False.elim hq'
end
section
variable {X:Cx}
def FG(X:Cx)(pins:List (Addr×Obj))(U:St)(Er:XK)(ev:Value)(s':Shared):Prop:=
 ∃H1 s1 e cls H' od,ev=.ref e/\Inv X pins U H1 s1/\Fly X.prog X.w X.stack H1 s1 H' e cls s'/\(∀d,od=some d->∃oe,s'.heap.get? e=some oe/\oe.dict=some d)/\Er cls od H'
noncomputable abbrev wR:=St->Hp->XK->Prop
def CN(X:Cx)(bd:List Stmt)(tb:wR):Prop:=∀(pins:List (Addr×Obj)) (s:Shared) (U:St) (H:Hp) (Er:XK),Inv X pins U H s->tb U H Er->wpAny (model X.prog X.w) X.A (execs bd X.env) (fun _ _=>False) (FG X pins U Er) s
def CO(X:Cx)(e:Expr)(tb:wR):Prop:=∀(pins:List (Addr×Obj)) (s:Shared) (U:St) (H:Hp) (Er:XK),Inv X pins U H s->tb U H Er->wpAny (model X.prog X.w) X.A (eval e X.env) (fun _ _=>False) (FG X pins U Er) s
theorem bu{x:Str}{e:Expr}{pos pos':Pos}{tb:wR}(h:CO X e tb)(hs:swapsWith e (some (.Name x pos')) pos.line X.env=pure false:=by rfl):CN X [.Assign [.Name x pos'] e pos] tb:=
 fun pins s U H Er I q=>wGa (wpAny_Assign_Name (ji (h pins s U H Er I q) fun _ _ z=>False.elim z) hs)
noncomputable def CQ(sp:Sp)(t:TA):wR:=fun U H Er=>t U H fun vs H1=>sp vs H1 (fun _ _=>False) Er
theorem X6{k:Nat}{f:Addr}{fd:FuncData}{ps:List Str}{sp:Sp}{g:Str}{p pos:Pos}{ea:Expr}{es:List Expr}{t:TA}(F:FnOk X.prog X.w X.K X.mg X.base (Jy X.prog X.w) k f fd ps sp)(hr:Room k X.A)(hg:Gl X g)(hm:X.mg g=some (.ref f))(hk:PySem.W.keepIn X.K (.ref f)=true)(hb:Js X.K fd ps [])
  (ha:PA X.nox (ea::es) t) (hdb:(g==("__debug__" : Str))=false) (he:starEach (ea::es) X.env=(false,eval ea X.env)::starEach es X.env) (hpl:(backTo pos (starEach es X.env)).any (·.1)=false):CO X (.Call (.Name g p) (ea::es) [] pos) (CQ sp t):=by
 intro pins s U H Er I h;refine wpAny_Call_Name_kw (yL I hg hm ?_ hdb);refine PySem.W.callWith_K (h₀:=X.base) I.ok.mod.kin hk (wCa (ha pos pins s U H _ (I.wish _) h) (fun us s1 ⟨vs,H1,I1,r,q⟩=>⟨I1.unwish.kIn,?_⟩) fun _ _ z=>False.elim z) he hpl
 replace I1:=I1.unwish
 have r2:jg (vs++[]) (us++[]):=r.append .nil;have q':=q;rw[<-List.append_nil vs]at q';have hl:(us++[]).length=ps.length:=by rw[<-r2.length];exact F.len _ _ _ _ q'
 refine wHa (codeAny_mono (F.run X.A X.stack s1 H1 ⟨[]++us,[]⟩ (us++[]) (vs++[]) _ _ hr I1.env0 (hb s1 us I1.kIn hl) r2 q') fun r s' hq=>?_);cases r with
 | ok fl=>
  cases fl with
  | ret v=>obtain⟨_,_,_,_,_,_,_,z⟩:=hq;exact z.elim
  | next=>exact False.elim hq
  | brk=>exact False.elim hq
  | cont=>exact False.elim hq
 | error ev=>
  obtain⟨e,cls,H',od,rfl,Fl,hdd,hE⟩:=hq;exact⟨H1,s1,e,cls,H',od,rfl,I1,Fl,hdd,hE⟩
def fV(K:PySem.W.Frag)(Dc:Addr)(tb:wR)(i:Nat)(u:Addr->Obj->TS):TS:=fun D U H=>tb U H fun cls od H2=>
 PySem.W.exmOne K cls (.ref Dc)=some true/\∀(e:Addr) (oe:Obj),oe.cls=cls->PySem.W.notCls oe=true->(∀d,od=some d->oe.dict=some d)->H2 e=none->
  u e oe { nx:=fun U' H'=>D.nx (U'.set i none) H',rt:=D.rt,bk:=fun U' H'=>D.bk (U'.set i none) H',ct:=fun U' H'=>D.ct (U'.set i none) H' } (U.set i (some (.ref e))) H2
theorem bv{Dc:Addr}{x n:Str}{np hpos tpos:Pos}{bd:List Stmt}{b₀:Stmt}{suite:List Stmt}{hs:List ExceptHandler}{tb:wR}{i:Nat}{u:Addr->Obj->TS}(hbd:CN X bd tb)
  (hst:X.stack=X.env::X.outer) (hfr:X.env.frame=some X.env.locals) (hNd:X.N.Nodup) (hi:X.N[i]?=some n) (hln:X.env.kindOf n=some .local) (hgx:Gl X x) (hmx:X.mg x=some (.ref Dc))
  (hu:∀e oe,jr (X.suite e oe) (b₀::suite) (u e oe)) (hdx:(x==("__debug__" : Str))=false:=by decide):
  PS X (.Try bd (.ExceptHandler (some (.Name x np)) (some n) (b₀::suite) hpos::hs) [] [] tpos) (fV X.K Dc tb i u):=by
 intro pins s U H D I h;refine wpAny_Try_except (wCa (hbd pins s U H _ I h) (fun _ _ z=>False.elim z) fun ev s' hq=>?_);obtain⟨H1,s1,e,cls,H',od,rfl,I1,Fl,hdd,hmt,hE⟩:=hq;obtain⟨B,a0,fl,c1,c2⟩:=Fl.fly;have fl0:=fl;rw[hst]at fl;refine wCa (V3 (Q:=fun _ s2=>∃h4,s2={ s' with heap:=h4 }/\Heap.HeldW B (X.env::X.outer) e cls a0 X.env.locals h4/\s'.heap.UpToSlots h4) (wM _ _) (wpAny_looks_onW (I.ok.frames.trans (by rw[hst])) hfr fl fun h₄ held₄ sm₄=>⟨h₄,rfl,held₄,sm₄⟩)) (fun _ s2 zz=>?_) (fun _ _ z=>z);obtain⟨⟨h₄,rfl,held₄,sm₄⟩,dk4⟩:=zz;refine wCa (V3 (Q:=fun _ s2=>∃h5,s2={ s' with heap:=h5 }/\Heap.FlyingW B (X.env::X.outer) e cls a0 h5/\h₄.UpToSlots h5) (Zp _ _) (wpAny_landsW held₄ fun h₅ fl₅ sm₅=>⟨h₅,rfl,fl₅,sm₅⟩)) (fun _ s2 zz=>?_) (fun _ _ z=>z);obtain⟨⟨h₅,rfl,fl₅,sm₅⟩,dk5⟩:=zz;have up5:=sm₄.trans sm₅;have I5:Inv X pins U H' { s' with heap:=h₅,toks:=s'.toks }:=Fl.move I1 fl0.1 c1 c2 fl₅.1 fl0.2.2.1 up5;obtain⟨oe,ws,hoe,hoec,hoed,hoe0⟩:=fl₅.first;have hHe:H' e=none:=by
  cases z:H' e with
  | none=>rfl
  | some v=>obtain⟨o,y⟩:=c1 e v z;rw[fl0.2.1]at y;cases y
 have nfr:e∉J8 X.stack:=fun z=>by
  obtain⟨_,o,ho,hd⟩:=fl₅.2.2.1.mem (b:=e) (by rw[hst]at z;exact z);rw[hoe]at ho;cases ho;exact hd _ hoed
 have neL:e≠X.env.locals:=fun z=>nfr (by rw[hst];unfold J8;rw[List.filterMap_cons,hfr];exact List.mem_cons.mpr (.inl z));have nfs:e∉X.fs:=fun z=>nfr (by rw[hst];unfold J8;rw[List.filterMap_cons,hfr];exact wMa _ z);have J5:Inv (X.suite e oe) pins U H' { s' with heap:=h₅,toks:=s'.toks }:=I5.suite ⟨hoe,hHe,neL,nfs,fun v z=>by rw[hoed]at z;cases z⟩;refine wpAny_handleBy_cons (codeAny_handlers_test (yL (X:=X.suite e oe) J5 hgx hmx ?_ hdx)) (by intro q;cases q);have LT:PySem.W.Looks (model X.prog X.w) h₅ (typeOf (.ref e)) cls:=by
  have:=(PySem.W.Looks.ld (M:=model X.prog X.w) (part:=none) hoe).andThen (f:=fun o=>pure o.cls) .now;rw[hoec]at this;exact this
 refine(PySem.W.exm_one I5.kIn LT hmt).here ?_;refine codeAny_handlers_suite_as ?_;refine wCa (V3 (Q:=fun _ s2=>∃h6,s2={ s' with heap:=h6 }/\Heap.FlyingW B (X.env::X.outer) e cls a0 h6/\h₅.UpToSlots h6) (Zp _ _) (lands_againW fl₅ fun h₆ fl₆ sm₆=>⟨h₆,rfl,fl₆,sm₆⟩)) (fun _ s2 zz=>?_) (fun _ _ z=>z);obtain⟨⟨h₆,rfl,fl₆,sm₆⟩,dk6⟩:=zz;have I6:Inv X pins U H' { s' with heap:=h₆,toks:=s'.toks }:=Fl.move I1 fl0.1 c1 c2 fl₆.1 fl0.2.2.1 (up5.trans sm₆);obtain⟨oe6,ws6,hoe6,hoec6,hoed6,_⟩:=fl₆.first;have hdict:∀d,od=some d->oe6.dict=some d:=fun d q=>by
  obtain⟨o1,z1,y1⟩:=hdd d q;obtain⟨o2,z2,y2⟩:=(dk4.trans (dk5.trans dk6)) e o1 z1;rw[hoe6]at z2;cases z2;exact y2.trans y1
 have J6:Inv (X.suite e oe6) pins U H' { s' with heap:=h₆,toks:=s'.toks }:=I6.suite ⟨hoe6,hHe,neL,nfs,fun v z=>by rw[hoed6]at z;cases z⟩;refine vT (X:=X.suite e oe6) (v:=.ref e) J6 hNd hi (.inl hln) rfl (fun s7 J7=>?_) (.inr hln);refine wCa (hu e oe6 pins s7 (U.set i (some (.ref e))) H' _ J7 (hE e oe6 hoec6 (by unfold PySem.W.notCls;rw[hoed6]) hdict hHe)) (fun fw s8 hs=>?_) (fun _ _ z=>False.elim z);have hd:=I.ok.hd;cases fw with
 | next=>obtain⟨U',H2,J,z⟩:=hs;exact ZR (J.unsuite hd) hNd hi hln fun s' I'=>⟨_,_,I',z⟩
 | brk=>obtain⟨U',H2,J,z⟩:=hs;exact ZR (J.unsuite hd) hNd hi hln fun s' I'=>⟨_,_,I',z⟩
 | cont=>obtain⟨U',H2,J,z⟩:=hs;exact ZR (J.unsuite hd) hNd hi hln fun s' I'=>⟨_,_,I',z⟩
 | ret v=>obtain⟨v',U',H2,J,rv,z⟩:=hs;exact ZR (J.unsuite hd) hNd hi hln fun s' I'=>⟨v',_,_,I',rv,z⟩
end
end L2
set_option maxHeartbeats 200000
namespace L2
open PySem PySem.Spec PyProof.Rows PySem.W Builtin
theorem K7:∀{l:List Value},VQ l=true->l.contains (.type "BaseException")=true
 | .ref c::r,e=>by rw[List.contains_cons,K7 (l:=r) e,Bool.or_true]
 | [],e=>by cases e
 | .type a::r,e=>by rw[eq_of_beq (show(Value.type a::r==_)=true from e)];decide
theorem bw:builtinKind "BaseException.__getattribute__" = some .slot:=by decide +kernel
theorem X7:splitId "BaseException.__getattribute__" = some ("BaseException", "__getattribute__"):=by decide +kernel
theorem X8:plainId "BaseException.__getattribute__" = true:=by decide +kernel
section
variable {prog:Program} {w:World} {A:Around} {E:Value->Shared->Prop} {s:Shared} {K:Frag} {x C:Addr} {ox:Obj} {od:Option Obj} {name:Str} {v:Value} {expr:Bool} {Q:Value->Shared->Prop}
theorem bx(X:K.In s.heap)(I:InstAt s.heap x ox C od)(hga:findIn K (.ref C) "__getattribute__" = some (some (.builtin "BaseException.__getattribute__")))(hgn:findIn K (.ref C) "__getattr__" = some none)(hp:vH K C=true)
  (hf:findObj K C od name=some (.value v)) (hh:handedIn v=true) (h:Q v { s with toks:=s.toks+1 }):wpAny (model prog w) A (getAttr (.ref x) name expr) Q E s:=by
 obtain⟨hp',g,d,t,os⟩:=s;have L0:=I.type (M:=model prog w);have L1:=looks_findIn (M:=model prog w) X hga;have L2:=looks_findIn (M:=model prog w) X hgn;have L3:=looks_find (M:=model prog w) X I hf;obtain⟨cd,hc,ho⟩:=any_some hp;have ne:cd.mro.isEmpty=false:=by cases q:cd.mro with | nil=>rw[q]at ho;cases ho | cons _ _=>rfl
 have sub:Looks (model prog w) hp' (isInstance (.ref x) (.type "BaseException")) true:=I.type.andThen (looks_mroIn X (by unfold mroIn;rw[hc,Option.bind_some,if_neg (by rw[ne];decide),K7 ho]));unfold getAttr getAttrBy;refine wAa (wpAny_mkText (wDa (wAa (L0.at (wAa (L1.at ?_))))));show wpAny _ _ (getAttrByItsOwn _ _ _ _ _ _) _ _ _;unfold getAttrByItsOwn;refine wAa ((show Looks (model prog w) hp' (hookBefore (.ref C)) none from L2).at ?_);refine wAa (wpAny_attempt (wDa ?_));have e0:(expr&&onTheHeap (Value.builtin "BaseException.__getattribute__"))=false:=by cases expr <;> rfl
 unfold callGetattribute;rw[e0];show wpAny _ _ (boundAndCalled _ _ _) _ _ _;unfold boundAndCalled;rw[PySem.F.attr_ValueError.ga.bind (.ref x)];refine wAa (wBa ?_);show wpAny _ _ (call (.builtin "BaseException.__getattribute__") [.ref x,.str name t]) _ _ _;refine wHa (codeAny_call_builtin X8 F.entry_bexc_ga (@check_slot (model prog w) _ _ _ "BaseException.__getattribute__" "BaseException" "__getattribute__" (.ref x) [.str name t] [] _ bw X7 sub (F.args_bexc_ga _ _) ?_));unfold Builtin.«object.__getattribute__»;have e1:slotArgs "__getattribute__" 1 { pos:=[Value.ref x,Value.str name t] }=pure (Value.ref x,[Value.str name t]):=rfl;have e2:ObjectAttr.attrName (Value.str name t)=pure name:=rfl;rw[e1];refine wAa (wBa ?_);dsimp only;rw[e2];refine wAa (wBa (wAa (L0.at (wAa (L3.at ?_)))));refine wBa ?_;show wpAny _ _ (handedOut v) _ _ _;rw[handedOut_of hh];exact wBa h
end
end L2
set_option maxHeartbeats 400000
namespace L2
open PySem PySem.Spec PyProof.Rows PySem.W
structure ExG (K:Frag) (C:Addr) (f:Str):Prop where
 ga:findIn K (.ref C) "__getattribute__" = some (some (.builtin "BaseException.__getattribute__"))
 gn:findIn K (.ref C) "__getattr__" = some none
 eo:vH K C=true
 hd:hasDictIn K C=true
 nf:findIn K (.ref C) f=some none
section
variable {X:Cx} {o:Expr} {ta:TE} {f:Str} {pos:Pos}
def iA(X:Cx)(ta:TE)(f:Str):TE:=fun U H Q=>ta U H fun x H1=>∃e oe C dx i,x=.ref e/\(e,oe)∈X.pn/\oe.cls=.ref C/\notCls oe=true/\oe.dict=some dx/\H1 dx=some (xV dx f (.int i))/\ExG X.K C f/\Q (.int i) H1
theorem CS(he:PE X o ta)(hb:attributeBase o f X.env (eval o X.env)=eval o X.env):PE X (.Attribute o f pos) (iA X ta f):=by
 intro pins s U H Q I h;refine YV hb (ji (he pins s U H _ I h) fun u s1 xx=>?_);obtain⟨x,H1,I1,rx,e,oe,C,dx,i,ex,hp,hc,hnc,hd,hx,c,q⟩:=xx;subst ex;obtain rfl:u=Value.ref e:=rx;have hpe:=I1.pin (e,oe) (vIa _ hp)
 obtain⟨⟨mA,uv,hn,hw,hu,hr⟩,_⟩:=I1.hok dx _ hx;obtain⟨tk,rfl⟩:=hr;obtain⟨od,ho,hl⟩:=Gr hn;obtain⟨oc,odt,oda,osl⟩:=oe;dsimp only at hc hd;subst hc hd;have J:InstAt s1.heap e ⟨.ref C,some dx,oda,osl⟩ C (some od):=⟨hpe.1,rfl,hnc,ho⟩
 exact bx I1.kIn J c.ga c.gn c.eo (findObj_own c.hd c.nf rfl (by rw[hl,hu])) rfl ⟨.int i,H1,I1.tok _,⟨tk,rfl⟩,q⟩
end
end L2
namespace DS
open PySem PySem.Spec PyProof.Rows L2
abbrev DY:=j6->Option Int
def PF(C:Addr)(f:Str)(E:XK)(i:Int)(H':Hp):Prop:=∀dx,H' dx=none->E (.ref C) (some dx) (upd H' dx (xV dx f (.int i)))
def CT(K:Fr)(C:Addr)(f:Str)(ks:List Bool)(F:List D->Option Int):Sp:=fun vs H _ E=>∃O ds i,(∀a∈O,H a≠none)/\JQ K O H ks ds vs/\F ds=some i/\∀H',j3 H H'->PF C f E i H'
def tY(K:Fr)(dy:DY)(P:Int->Hp->Prop):TS:=fun _ U H=>∃H0 O0 Z O i,Rel K H0 O0 Z U H O/\dy Z=some i/\∀H',j3 H0 H'->P i H'
noncomputable def Jn:DY:=fun _=>none
noncomputable def J3(y:DY)(d:DS)(y':DY):DY:=fun Z=>match y Z with
 | some c=>some c
 | none=>match d Z with
  | some (.nx Z')=>y' Z'
  | _=>none
noncomputable def Vk(t:DT)(a b:DY):DY:=fun Z=>(t Z).bind fun k=>if k=true then a Z else b Z
noncomputable def zB(d:DE):DY:=fun Z=>(d Z).bind fun x=>match x with
 | .int i=>some i
 | _=>none
section
variable {X:Cx} {K:Fr} {E:XK} {P:Int->Hp->Prop} {C:Addr} {f:Str} {s:Stmt} {t a b:List Stmt} {y y':DY} {d:DS} {c e:Expr} {pos:Pos}
theorem Uw:PS X s (tY K Jn P):=fun _ _ _ _ _ _ ⟨_,_,_,_,_,_,h,_⟩=>by cases h
theorem fW:jr X t (tY K Jn P):=fun _ _ _ _ _ _ ⟨_,_,_,_,_,_,h,_⟩=>by cases h
theorem bz(h:PS X s (tS K d))(hz:PS X s (tY K y P))(hr:jr X t (tY K y' P)):jr X (s::t) (tY K (J3 y d y') P):=ym (yB (WY h hz) hr) fun D U H xx=>by
 obtain⟨H0,O0,Z,O,i,R,e,q⟩:=xx;unfold J3 at e;split at e
 ·rename_i c' hc;cases e;exact .inr ⟨H0,O0,Z,O,i,R,hc,q⟩
 ·split at e
  ·rename_i Z' hd;exact .inl ⟨H0,O0,Z,O,.nx Z',R,hd,fun U' H' O' R' _=>⟨H0,O0,Z',O',i,R',e,q⟩⟩
  ·cases e
theorem wS(hz:PS X s (tY K y P)):jr X (s::t) (tY K y P):=ym (yB hz Gq) fun _ _ _ h=>h
theorem iB{dt:DT}(hc:PT X c (tT K dt))(ha:jr X a (tY K y P))(hb:jr X b (tY K y' P)):PS X (.If c a b pos) (tY K (Vk dt y y') P):=jT (GZ hc ha hb) fun D U H xx=>by
 obtain⟨H0,O0,Z,O,i,R,e,q⟩:=xx;obtain⟨k,e1,e2⟩:=j0 e;refine⟨H0,O0,Z,O,k,R,e1,fun H' s=>?_⟩;have R':=R.grow s;cases k with
 | true=>exact yF ⟨H0,O0,Z,O,i,R',e2,q⟩
 | false=>exact yE ⟨H0,O0,Z,O,i,R',e2,q⟩
theorem bA{de:DE}(h:PS X s (fun _ U H=>Jk (tE K de) Y0 U H fun vs H1=>∃v,vs=[v]/\∀dx,H1 dx=none->E (.ref C) (some dx) (upd H1 dx (xV dx f v)))):PS X s (tY K (zB de) (PF C f E)):=jT h fun D U H xx=>by
 obtain⟨H0,O0,Z,O,i,R,e,q⟩:=xx;unfold zB at e;obtain⟨x,e1,e2⟩:=j0 e;cases x with
 | int j=>
  cases e2;refine⟨H0,O0,Z,O,_,R,e1,fun v H1 s1 r=>?_⟩;exact⟨v,rfl,fun dx hx=>by rw[show v=V.int i from r];exact q H1 ((R.grow s1).keep) dx hx⟩
 | _=>cases e2
end
section
variable {P:Program} {w:World} {K:Fr} {C:Addr} {fl:Str} {mg:Str->Option Value} {base:Heap} {x qual:Str} {st:Stmt} {f:Addr} {fd:FuncData} {N ps:List Str} {ks:List Bool} {k n:Nat}
def aP(ks:List Bool)(n:Nat)(y:DY):List D->Option Int:=fun ds=>y (YJ ks ds n)
theorem iC{y:DY}(F:Fun K x qual st f fd)(S:FnScope N ps (defScope st))(hk:ks.length=ps.length)(hn:N.length - ps.length=n)
  (hb:∀(cdv:Value) (A:Around) (outer:List Env) (s:Shared) (H:Hp) (E:XK),Room k (A.deeper (envOfC qual (defScope st) s.heap.objs.size f cdv))->jr (jP (Jy P w) P w K mg base N qual (defScope st) f cdv A outer s H E) (defBody st) (tY K y (PF C fl E))):
  FnOk P w K mg base (Jy P w) (k+1) f fd ps (CT K C fl ks (aP ks n y)):=by
 obtain⟨oc,od,kV,doc,pm,an,cdv,ct,osl,rfl,lk,hcd⟩:=F.ex;refine Ww lk hcd S (fun vs H Q E h=>?_) fun A outer s H vs Q E hr h=>?_
 ·obtain⟨O,ds,d,_,ak,_⟩:=h;have:=ak.len;omega
 ·obtain⟨O,ds,i,al,ak,e,q⟩:=h;refine⟨_,hb cdv A outer s H E hr,?_⟩;have hl:N.length - vs.length=n:=by have:=ak.len;omega
  unfold L2.start;rw[hl];exact⟨H,O,_,O,i,kS ak al,e,q⟩
end
noncomputable def ZS(g:DG)(s:DS)(y:DY):List D->DY
 | [],_=>none
 | d::ds,Z=>(g d Z).bind fun Z1=>match y Z1 with
  | some i=>some i
  | none=>match s Z1 with
   | some (.nx Z2)=>ZS g s y ds Z2
   | _=>none
def gV(di:DI)(g:DG)(s:DS)(y:DY):DY:=fun Z=>(di Z).bind fun items=>ZS g s y items Z
section
variable {X:Cx} {K:Fr} {P:Int->Hp->Prop} {y:DY} {s1:DS} {pos:Pos} {tg:Expr}
theorem CU{t:List Stmt}{t1 t2:TS}(h1:jr X t t1)(h2:jr X t t2):jr X t (fun D U H=>t1 D U H \/ t2 D U H):=
 fun pins s U H D I h=>h.elim (h1 pins s U H D I) (h2 pins s U H D I)
theorem fX{iter:Expr}{body:List Stmt}{di:DI}{g:DG}{kk:Nat}(hp:PassesOwn (model X.prog X.w) X.A X.env X.xe)(hc:X.calm=true)(hi:PI X tg iter (zx K di))(hg:PG X tg (tG K kk g))(hb:jr X body (tS K s1))(hy:jr X body (tY K y P))(hs:∀x,foldedSetIterable iter X.env x=pure x:=by intro _;rfl):PS X (.For tg iter body [] pos) (tY K (gV di g s1 y) P):=jT (qG hp hc hi hg (CU hb hy) hs) fun D U H xx=>by
 obtain⟨H0,O0,Z,O,c,R,ed,f1⟩:=xx;obtain⟨items,e1,ed⟩:=j0 ed;refine⟨H0,O0,Z,O,items,R,e1,fun J H1 s1' hJ=>?_⟩;have R1:=R.grow s1';refine⟨fun i m U' H'=>∃Z' O',Rel K H0 O0 Z' U' H' O'/\ZS g s1 y (items.drop i) Z'=some c/\j3 (j7 H1 O) (j7 H' O')/\m=items.length - i/\i<=items.length,⟨items.length,Z,O,R1,by simpa using ed,j3.refl _,rfl,Nat.zero_le _⟩,?_⟩;rintro i m U' H' ⟨Z',O',R',d1,sd,rfl,hi'⟩;obtain⟨hgo,hstop⟩:=hJ i H' O' R'.keep R'.in0 sd R'.al;by_cases hlt:i < items.length
 ·right;have hx:items[i]?=some items[i]:=by simp[hlt]
  have hd:items.drop i=items[i]::items.drop (i+1):=(List.getElem_cons_drop hlt).symm;rw[hd]at d1;obtain⟨g1,g2⟩:=hgo _ hx;refine⟨g1,fun U2 H2=>∃Z2 O2,Rel K H0 O0 Z2 U2 H2 O2/\ZS g s1 y (items.drop (i+1)) Z2=some c/\j3 (j7 H1 O) (j7 H2 O2),?_,fun x H'' yy=>?_⟩
  ·rintro U2 H2 ⟨Z2,O2,a1,a2,a3⟩;exact⟨items.length - (i+1),by omega,Z2,O2,a1,a2,a3,rfl,hlt⟩
  ·obtain⟨sy,rx⟩:=g2 x H'' yy;rw[ZS]at d1;obtain⟨Z1,f3,f4⟩:=j0 d1;have t1:=sd.trans (jc sy);refine⟨H0,O0,Z',O',_,Z1,R'.grow sy,rx,f3,fun U2 R3 _=>?_⟩;cases hyv:y Z1 with
   | some j=>
    rw[hyv]at f4;cases f4;exact .inr ⟨H0,O0,Z1,O',c,R3,hyv,f1⟩
   | none=>
    rw[hyv]at f4;cases hsv:s1 Z1 with
    | none=>rw[hsv]at f4;cases f4
    | some r1=>
     rw[hsv]at f4;refine .inl ⟨H0,O0,Z1,O',r1,R3,hsv,?_⟩;cases r1 with
     | nx Z2=>exact fun U3 H3 O3 R4 t=>⟨Z2,O3,R4,f4,t1.trans t⟩
     | _=>cases f4
 ·have e0:items.drop i=[]:=List.drop_of_length_le (by omega);rw[e0]at d1;cases d1
end
end DS
namespace L2
open PySem PySem.Spec PyProof.Rows
section
variable {X:Cx}
theorem X9{bd:List Stmt}{h0:ExceptHandler}{hs:List ExceptHandler}{tpos:Pos}{t:TS}(hbd:jr X.nox bd t):PS X (.Try bd (h0::hs) [] [] tpos) t:=by
 intro pins s U H D I h;refine wpAny_Try_except (wCa (hbd pins s U H D (I.wish _) h) (fun fl s' hq=>?_) fun _ _ z=>False.elim z);have hq:=hq.unwish;cases fl with
 | next=>exact wpAny_execs_nil hq
 | brk=>exact hq
 | cont=>exact hq
 | ret v=>exact hq
def fY(K:PySem.W.Frag)(Dc:Addr)(tb:GG)(u:Addr->Obj->TS):TS:=fun D U H=>tb U H fun cls H2=>
 PySem.W.exmOne K cls (.ref Dc)=some true/\∀(e:Addr) (oe:Obj),oe.cls=cls->H2 e=none->u e oe D U H2
theorem bB{Dc:Addr}{x:Str}{np hpos tpos:Pos}{bd:List Stmt}{b₀:Stmt}{suite:List Stmt}{hs:List ExceptHandler}{tb:GG}{u:Addr->Obj->TS}(hbd:wO X bd tb)
  (hst:X.stack=X.env::X.outer) (hfr:X.env.frame=some X.env.locals) (hgx:Gl X x) (hmx:X.mg x=some (.ref Dc))
  (hu:∀e oe,jr (X.suite e oe) (b₀::suite) (u e oe)) (hdx:(x==("__debug__" : Str))=false:=by decide):
  PS X (.Try bd (.ExceptHandler (some (.Name x np)) none (b₀::suite) hpos::hs) [] [] tpos) (fY X.K Dc tb u):=by
 intro pins s U H D I h;refine wpAny_Try_except (wCa (hbd pins s U H _ I h) (fun _ _ z=>False.elim z) fun ev s' hq=>?_);obtain⟨H1,s1,e,cls,H',rfl,I1,Fl,hmt,hE⟩:=hq;obtain⟨B,a0,fl,c1,c2⟩:=Fl.fly;have fl0:=fl;rw[hst]at fl;refine wpAny_looks_onW (I.ok.frames.trans (by rw[hst])) hfr fl fun h₄ held₄ sm₄=>?_;refine wpAny_landsW held₄ fun h₅ fl₅ sm₅=>?_;have up5:=sm₄.trans sm₅;have I5:Inv X pins U H' { s' with heap:=h₅,toks:=s'.toks }:=Fl.move I1 fl0.1 c1 c2 fl₅.1 fl0.2.2.1 up5;obtain⟨oe,ws,hoe,hoec,hoed,hoe0⟩:=fl₅.first;have hHe:H' e=none:=by
  cases z:H' e with
  | none=>rfl
  | some v=>obtain⟨o,y⟩:=c1 e v z;rw[fl0.2.1]at y;cases y
 have nfr:e∉J8 X.stack:=fun z=>by
  obtain⟨_,o,ho,hd⟩:=fl₅.2.2.1.mem (b:=e) (by rw[hst]at z;exact z);rw[hoe]at ho;cases ho;exact hd _ hoed
 have neL:e≠X.env.locals:=fun z=>nfr (by rw[hst];unfold J8;rw[List.filterMap_cons,hfr];exact List.mem_cons.mpr (.inl z));have nfs:e∉X.fs:=fun z=>nfr (by rw[hst];unfold J8;rw[List.filterMap_cons,hfr];exact wMa _ z);have J5:Inv (X.suite e oe) pins U H' { s' with heap:=h₅,toks:=s'.toks }:=I5.suite ⟨hoe,hHe,neL,nfs,fun v z=>by rw[hoed]at z;cases z⟩;refine wpAny_handleBy_cons (codeAny_handlers_test (yL (X:=X.suite e oe) J5 hgx hmx ?_ hdx)) (by intro q;cases q);have LT:PySem.W.Looks (model X.prog X.w) h₅ (typeOf (.ref e)) cls:=by
  have:=(PySem.W.Looks.ld (M:=model X.prog X.w) (part:=none) hoe).andThen (f:=fun o=>pure o.cls) .now;rw[hoec]at this;exact this
 refine(PySem.W.exm_one I5.kIn LT hmt).here ?_;refine codeAny_handlers_suite ?_;refine lands_againW fl₅ fun h₆ fl₆ sm₆=>?_;have I6:Inv X pins U H' { s' with heap:=h₆,toks:=s'.toks }:=Fl.move I1 fl0.1 c1 c2 fl₆.1 fl0.2.2.1 (up5.trans sm₆);obtain⟨oe6,ws6,hoe6,hoec6,hoed6,_⟩:=fl₆.first;have J6:Inv (X.suite e oe6) pins U H' { s' with heap:=h₆,toks:=s'.toks }:=I6.suite ⟨hoe6,hHe,neL,nfs,fun v z=>by rw[hoed6]at z;cases z⟩;refine wCa (hu e oe6 pins _ U H' _ J6 (hE e oe6 hoec6 hHe)) (fun fw s8 hs=>?_) (fun _ _ z=>False.elim z);have hd:=I.ok.hd;cases fw with
 | next=>obtain⟨U',H2,J,z⟩:=hs;exact⟨U',H2,J.unsuite hd,z⟩
 | brk=>obtain⟨U',H2,J,z⟩:=hs;exact⟨U',H2,J.unsuite hd,z⟩
 | cont=>obtain⟨U',H2,J,z⟩:=hs;exact⟨U',H2,J.unsuite hd,z⟩
 | ret v=>obtain⟨v',U',H2,J,rv,z⟩:=hs;exact⟨v',U',H2,J.unsuite hd,rv,z⟩
end
end L2
namespace DS
open PySem PySem.Spec PyProof.Rows L2
section
variable {X:Cx} {K:Fr} {c:Expr} {de:DE} {dt:DT} {st:Stmt} {sa rest:List Stmt} {pos:Pos} {i:Nat} {da d':DS}
theorem CV(h1:PS X st (Yp (tE K de) (YA i)))(hc:PT X c (tT K dt))(ha:jr X sa (tS K da))(hr:jr X rest (tS K d')):jr X (st::.If c sa [] pos::rest) (tS K (j9 (K3 i de dt da) d')):=ym (yB h1 (yB (GZ hc ha gy) hr)) fun D U H xx=>by
 obtain⟨H0,O0,Z,O,r,R,ed,f⟩:=xx;obtain⟨r1,e1,e2⟩:=j0 ed;obtain⟨d,g1,e1⟩:=j0 e1;obtain⟨k,g2,e1⟩:=j0 e1;obtain⟨O',R',_,_⟩:=R.frz;refine⟨H0,O0,_,O',d,R',g1,fun v H1 s1 rv=>?_⟩;refine⟨H0,O0,_,O',k,(R'.grow s1).set rv i,g2,fun H2 s2=>?_⟩;have Ru:=(R.grow (s1.trans s2)).un i (some v);have sd:=jc (O:=O) (s1.trans s2);cases k with
 | true=>
  rw[if_pos rfl]at e1;refine yF ⟨H0,O0,_,O,r1,Ru,e1,?_⟩;cases r1 with
  | nx Z1=>exact fun U' H' O' R' t=>⟨H0,O0,Z1,O',r,R',e2,f.mono (sd.trans t)⟩
  | bk Z1=>cases e2;exact f.mono sd
  | ct Z1=>cases e2;exact f.mono sd
  | rt d=>cases e2;exact f.mono sd
  | rf o=>cases e2;exact f.mono sd
 | false=>
  rw[if_neg Bool.false_ne_true]at e1;cases e1;exact yE ⟨H0,O0,_,O,r,Ru,e2,f.mono sd⟩
end
section
variable {P:Program} {w:World} {K:Fr} {mg:Str->Option Value} {base:Heap} {x qual:Str} {st:Stmt} {f:Addr} {fd:FuncData} {N ps:List Str} {ks:List Bool} {k n:Nat}
theorem Rel.front{H0 H:Hp}{O0 O:List Addr}{Z:j6}{U:L2.St}(R:Rel K H0 O0 Z U H O)(nl:∀(i:Nat) (q:Option Addr) (ls:List (List D)),Z[i]?≠some (.lo q ls))(v:Option V):Rel K H0 O0 (.un::Z) (v::U) H O where
 len:=by rw[List.length_cons,List.length_cons,R.len]
 lo:=fun i q ls e=>by
  cases i with
  | zero=>cases e
  | succ i=>exact vDa e (nl i q ls)
 sub:=R.sub
 fr:=R.fr
 al0:=R.al0
 al:=R.al
 keep:=R.keep
 cl:=fun j d' e=>by
  cases j with
  | zero=>cases e
  | succ j=>exact R.cl j d' e
 bo:=fun j d' e=>by
  cases j with
  | zero=>cases e
  | succ j=>exact R.bo j d' e
 ow:=fun j q' d' e=>by
  cases j with
  | zero=>cases e
  | succ j=>exact R.ow j q' d' e
 dist:=fun j k q1 q2 ds es l e1 e2 s1 s2=>by
  cases j with
  | zero=>cases e1
  | succ j=>
   cases k with
   | zero=>cases e2
   | succ k=>exact congrArg Nat.succ (R.dist j k q1 q2 ds es l e1 e2 s1 s2)
def qc(F:List D->Option Int)(l:DA):DY:=fun Z=>(YB l Z).bind F
def Xa(K:Fr)(Cx:Addr)(ks:List Bool)(F:List D->Option Int):Sp:=fun vs H _ E=>∃O ds i p vs',vs=.ref p::vs'/\(∀a∈O,H a≠none)/\JQ K O H ks ds vs'/\F ds=some i/\∀H',j3 H H'->E (.ref Cx) none H'
def K8(ks:List Bool)(n:Nat)(z:DY):List D->Option Int:=fun ds=>z (.un::YJ ks ds n)
theorem fZ{z:DY}{Cx:Addr}(F:Fun K x qual st f fd)(S:FnScope N ps (defScope st))(hk:ks.length+1=ps.length)(hn:N.length - ps.length=n)
  (hb:∀(cdv:Value) (A:Around) (outer:List Env) (s:Shared) (H:Hp) (E:XK),Room k (A.deeper (envOfC qual (defScope st) s.heap.objs.size f cdv))->jr (jP (Jy P w) P w K mg base N qual (defScope st) f cdv A outer s H E) (defBody st) (tY K z fun _ H'=>E (.ref Cx) none H')):
  FnOk P w K mg base (Jy P w) (k+1) f fd ps (Xa K Cx ks (K8 ks n z)):=by
 obtain⟨oc,od,kV,doc,pm,an,cdv,ct,osl,rfl,lk,hcd⟩:=F.ex;refine Ww lk hcd S (fun vs H Q E h=>?_) fun A outer s H vs Q E hr h=>?_
 ·obtain⟨O,ds,c,p,vs',rfl,_,ak,_⟩:=h;have:=ak.len;rw[List.length_cons];omega
 ·obtain⟨O,ds,c,p,vs',rfl,al,ak,e,q⟩:=h;refine⟨_,hb cdv A outer s H E hr,?_⟩;have hl:N.length - (V.ref p::vs').length=n:=by have:=ak.len;rw[List.length_cons];omega
  unfold L2.start;rw[hl];refine⟨H,O,_,O,c,(kS ak al).front (fun i q ls z=>?_) _,e,q⟩;obtain⟨k',d',v,_,_,h3⟩:=ya ak (by intro z;cases z) z;cases k' <;> cases h3
end
section
variable {X:Cx} {K:Fr} {e:Expr}
theorem CW{pos:Pos}{tb:GG}(h:FF X e tb):wO X [.Return (some e) pos] tb:=fun pins s U H Er I q=>
 wGa (wpAny_Return_some (ji (h pins s U H Er I q) fun _ _ z=>False.elim z))
def FH(K:Fr)(Cx:Addr)(y:DY):GG:=fun U H Er=>∃H0 O0 Z O i,Rel K H0 O0 Z U H O/\y Z=some i/\∀H',j3 H H'->Er (.ref Cx) H'
theorem Xb{k:Nat}{f C Cx:Addr}{fd:FuncData}{ps:List Str}{ks:List Bool}{g:Str}{p pos rpos:Pos}{es:List Expr}{l:DA}{F:List D->Option Int}(M:Mk X.K C f)(G:FnOk X.prog X.w X.K X.mg X.base (Jy X.prog X.w) k f fd ps (Xa K Cx ks F))(hr:Room (k+1) X.A)(hm:X.mg g=some (.ref C))(hb:Js X.K fd ps [])
  (ha:PA X.nox (e::es) (YC K l)) (hks:l.map (·.1)=ks) (hg:Gl X g) (hdb:(g==("__debug__" : Str))=false) (he:starEach (e::es) X.env=(false,eval e X.env)::starEach es X.env) (hpl:(backTo pos (starEach es X.env)).any (·.1)=false):
  wO X [.Return (some (.Call (.Name g p) (e::es) [] pos)) rpos] (FH K Cx fun Z=>qc F l (frz Z)):=CM (CW (bn M G hr hg hm hb ha hdb he hpl)) fun U H Q xx=>by
 obtain⟨H0,O0,Z,O,c,R,ed,q⟩:=xx;subst hks;obtain⟨ds,e1,e2⟩:=j0 ed;obtain⟨O',R',_,_⟩:=R.frz;refine⟨H0,O0,_,O',ds,R',e1,fun vs H1 s1 ak x dx nx ndx hne=>?_⟩;have s2:j3 H1 (upd (upd H1 dx (.own x)) x (.ins C dx [])):=(jD ndx _).trans (jD (by rw[je (Ne.symm hne)];exact nx) _);exact⟨O',ds,c,x,vs,rfl,(R'.grow (s1.trans s2)).al,ak.same s2,e2,fun H' s=>q H' ((s1.trans s2).trans s)⟩
def U_(z:DY)(de:DE):DM:=fun Z=>match z Z with
 | some _=>some (.rt Z .non)
 | none=>VN de Z
theorem CY{Dc Cx:Addr}{x:Str}{np hpos tpos cp rp:Pos}{kk:Nat}{bd:List Stmt}{z:DY}{de:DE}(hz:wO X bd (FH K Cx z))(hd:jr X.nox bd (tM K (VN de)))
  (hst:X.stack=X.env::X.outer) (hfr:X.env.frame=some X.env.locals) (hgx:Gl X x) (hmx:X.mg x=some (.ref Dc)) (hdx:(x==("__debug__" : Str))=false)
  (hmt:PySem.W.exmOne X.K (.ref Cx) (.ref Dc)=some true):
  jr X [.Try bd [.ExceptHandler (some (.Name x np)) none [.Return (some (.Constant .none kk cp)) rp] hpos] [] [] tpos] (tM K (U_ z de)):=
 ym (vt (WY (bB hz hst hfr hgx hmx (fun e oe=>WM (de:=dK .non) a9) hdx) (bp hd))) fun D U H xx=>by
  obtain⟨H0,O0,Z,O,r,R,ed,f⟩:=xx;unfold U_ at ed;split at ed
  ·rename_i c e2;cases ed;exact .inl ⟨H0,O0,Z,O,c,R,e2,fun H' s=>⟨hmt,fun e oe _ _=>⟨H0,O0,Z,O,_,R.grow s,rfl,f⟩⟩⟩
  ·exact .inr ⟨H0,O0,Z,O,r,R,ed,f⟩
end
section
variable {X:Cx} {K:Fr}
def CZ(K:PySem.W.Frag)(pn:List (Addr×Obj)):List V->Hp->VK->Prop:=fun vs H1 Q=>∃e oe C d dv b,vs=[.ref e,d]/\(∀u,jq d u->u=dv)/\(e,oe)∈pn/\oe.cls=.ref C/\ExC K C/\PySem.W.kitOne K (.ref C) dv=some b/\Q (.bl b) H1
theorem Xc:yw X (.builtin "isinstance") (CZ X.K X.pn):=by
 intro pins s U H xs us Q I r h;obtain⟨e,oe,C,d,dv,b,rfl,hd,hp,hcl,k,hb,q⟩:=h;cases r with
 | cons r1 r2=>
  cases r2 with
  | cons r3 r4=>
   cases r4;cases r1;cases hd _ r3;have hpe:=I.pin (e,oe) (vIa _ hp)
   exact PySem.W.kia_one (CK k) I.kIn ⟨oe,hpe.1,hcl⟩ hb (by intro z;cases z) fun tk=>⟨.bl b,H,I.tok tk,rfl,q⟩
def C_(i m r:Nat)(bs:List Bool)(C:Addr)(f:Str)(e:Addr)(oe:Obj):TS:=fun D U H=>∃k dx,U[i]?=some (some (.ref e))/\oe.cls=.ref C/\PySem.W.notCls oe=true/\oe.dict=some dx/\H dx=some (xV dx f (.int k))/\∀l,H l=none->D.nx ((U.set m (some (.ref l))).set r (some (.int k))) (upd H l (.lst (bs.map V.bl)))
def V5(F:List D->Option Int)(l:DA)(d:DS)(i m r:Nat)(bs:List Bool):DS:=fun Z=>match (YB l Z).bind F with
 | some k=>if i < Z.length/\i≠m/\i≠r then some (.nx (((Z.set i .un).set m (.cl (.lst (bs.map D.bl)))).set r (.cl (.int k))))else none
 | none=>d Z
theorem d8{k:Nat}{fa Dc C:Addr}{fd:FuncData}{ps:List Str}{ks:List Bool}{g x n f:Str}{b₀:Stmt}{suite:List Stmt}{hs:List ExceptHandler}{p pos np hpos tpos epos ypos:Pos}{y:Str}{ea:Expr}{es:List Expr}{l:DA}{F:List D->Option Int}{d:DS}{i m r:Nat}{bs:List Bool}
  (G:FnOk X.prog X.w X.K X.mg X.base (Jy X.prog X.w) k fa fd ps (CT K C f ks F)) (hr:Room k X.A) (hm:X.mg g=some (.ref fa)) (hk:PySem.W.keepIn X.K (.ref fa)=true) (hb:Js X.K fd ps [])
  (ha:PA X.nox (ea::es) (YC K l)) (hks:l.map (·.1)=ks) (hg:Gl X g) (hdb:(g==("__debug__" : Str))=false) (he:starEach (ea::es) X.env=(false,eval ea X.env)::starEach es X.env) (hpl:(backTo pos (starEach es X.env)).any (·.1)=false)
  (hsw:swapsWith (.Call (.Name g p) (ea::es) [] pos) (some (.Name y ypos)) epos.line X.env=pure false)
  (hd:jr X.nox [.Assign [.Name y ypos] (.Call (.Name g p) (ea::es) [] pos) epos] (tS K d))
  (hst:X.stack=X.env::X.outer) (hfr:X.env.frame=some X.env.locals) (hNd:X.N.Nodup) (hi:X.N[i]?=some n) (hln:X.env.kindOf n=some .local) (hgx:Gl X x) (hmx:X.mg x=some (.ref Dc)) (hdx:(x==("__debug__" : Str))=false)
  (hmt:PySem.W.exmOne X.K (.ref C) (.ref Dc)=some true) (hu:∀e oe,jr (X.suite e oe) (b₀::suite) (C_ i m r bs C f e oe)):
  PS X (.Try [.Assign [.Name y ypos] (.Call (.Name g p) (ea::es) [] pos) epos] (.ExceptHandler (some (.Name x np)) (some n) (b₀::suite) hpos::hs) [] [] tpos) (tS K (V5 F l d i m r bs)):=
 jT (WY (bv (bu (X6 G hr hg hm hk hb ha hdb he hpl) hsw) hst hfr hNd hi hln hgx hmx hu hdx) (X9 hd)) fun ZQ U H xx=>by
  obtain⟨H0,O0,Z,O,rr,R,ed,fi⟩:=xx;subst hks;unfold V5 at ed;split at ed
  ·rename_i kk e0;obtain⟨ds,e1,e2⟩:=j0 e0;split at ed
   ·rename_i hij;cases ed;refine .inl ⟨H0,O0,Z,O,ds,R,e1,fun vs H1 s1 ak=>⟨O,ds,kk,(R.grow s1).al,ak,e2,fun H' s dx hdx'=>⟨hmt,fun e oe hc hnc hdict hn=>⟨kk,dx,?_,hc,hnc,hdict dx rfl,ju,fun a ha'=>?_⟩⟩⟩⟩
    ·exact YX (by rw[R.len];exact hij.1)
    ·have s3:=s1.trans (s.trans (jD hdx' (xV dx f (.int kk))));have R1:=(R.grow s3).un i none;have su:=jD ha' (.lst (bs.map V.bl));have R2:=(R1.grow su).set (d:=.lst (bs.map D.bl)) (v:=.ref a) (by rw[j8];exact⟨a,_,rfl,by rw[jF (R1.new ha')];exact ju,wP _⟩) m;have R3:=R2.set (d:=.int kk) (v:=.int kk) (by rw[j8]) r;have es:(((U.set i (some (.ref e))).set m (some (.ref a))).set r (some (.int kk))).set i none=((U.set i none).set m (some (.ref a))).set r (some (.int kk)):=by
      rw[List.set_comm _ _ (Ne.symm hij.2.2),List.set_comm _ _ (Ne.symm hij.2.1),List.set_set]
     show ZQ.nx ((((U.set i (some (.ref e))).set m (some (.ref a))).set r (some (.int kk))).set i none) _;rw[es];exact fi _ _ _ R3 (jc (s3.trans su))
   ·cases ed
  ·exact .inr ⟨H0,O0,Z,O,rr,R,ed,fi⟩
theorem dg{i m r:Nat}{mN rN n A B f:Str}{Ca C:Addr}{T:String}{b1 b2:Bool}{e:Addr}{oe:Obj}{p1 p2 p3 p4 p5 p6 p7 p8 p9 p10 p11 p12 p13 p14 p15:Pos}
  (hv:∀p,PE (X.suite e oe) (.Name n p) (J_ i)) (hg:Gl X "isinstance") (hm:X.mg "isinstance" = none) (hK:X.K=K)
  (hA:∀p,PE (X.suite e oe) (.Name A p) (tC (.ref Ca))) (hB:∀p,PE (X.suite e oe) (.Name B p) (tC (.ty T)))
  (mS:X.N.Nodup/\X.N[m]?=some mN/\Vx X.env.scope mN/\(X.fn mN=true \/ X.env.scope.names.lookup mN=some .local)) (rS:X.N.Nodup/\X.N[r]?=some rN/\Vx X.env.scope rN/\(X.fn rN=true \/ X.env.scope.names.lookup rN=some .local))
  (k:ExC K C) (k1:PySem.W.kitOne K (.ref C) (.ref Ca)=some b1) (k2:PySem.W.kitOne K (.ref C) (.type T)=some b2) (cg:ExG K C f) (him:i≠m):
  jr (X.suite e oe) [.Assign [.Name mN p1] (.List [.Call (.Name "isinstance" p2) [.Name n p3,.Name A p4] [] p5,.Call (.Name "isinstance" p6) [.Name n p7,.Name B p8] [] p9] p10) p11,.Assign [.Name rN p12] (.Attribute (.Name n p13) f p14) p15] (C_ i m r [b1,b2] C f e oe):=by
 subst hK;obtain⟨m1,m2,m3,m4⟩:=mS;obtain⟨r1,r2,r3,r4⟩:=rS;have c1:∀{A:Str} {v:V} {p2 p3 p4 p5:Pos},(∀p,PE (X.suite e oe) (.Name A p) (tC v))->PE (X.suite e oe) (.Call (.Name "isinstance" p2) [.Name n p3,.Name A p4] [] p5) (wA (CZ X.K (X.suite e oe).pn) (Jk (J_ i) (Jk (tC v) Y0))):=fun h=>Yq (X:=X.suite e oe) Xc hg hm PyProof.Rows.boot_isinstance (jx (hv _) (jx (h _) jU));refine ym (yB (Zc (X:=X.suite e oe) m1 m2 m3 (ku (jx (c1 hA) (jx (c1 hB) jU))) rfl m4) (vt (Zc (X:=X.suite e oe) r1 r2 r3 (CS (hv _) rfl) rfl r4))) fun ZQ U H xx=>?_;obtain⟨kk,dx,h1,h2,h3,h4,h5,h6⟩:=xx;refine⟨_,h1,_,_,_,_,_,_,rfl,(fun u r=>r),wNa,h2,k,k1,_,h1,_,_,_,_,_,_,rfl,(fun u r=>r),wNa,h2,k,k2,(by show 2<=sizeLine;decide),fun p hp=>?_⟩;refine⟨_,?_,e,oe,C,dx,kk,rfl,wNa,h2,h3,h4,?_,cg,?_⟩
 ·rw[jO him];exact h1
 ·rw[je (jz h5 hp)];exact h5
 ·exact h6 p hp
end
end DS
namespace CP
open PySem PySem.Spec PyProof.Rows L2 DS
inductive GI where
 | con (i:Int)
 | fE (k:Nat) (ps:List Str) (ks:List Bool) (F:List D->Option D)
 | fF (k:Nat) (ps:List Str) (ks:List Bool) (F:List D->Option OD)
 | mk (k:Nat) (ps:List Str) (ks:List Bool) (F:Addr->List D->Option OD) (G:List D->Option OD)
 | kt (l:List Str)
 | fM (k:Nat) (ps:List Str) (F:List (List D)->List D->Option (List (List D)×D))
 | blt
structure Gm where
 N:List Str
 sc:Scope
 fn:Bool
 kF:Bool
 C:Addr
 gs:List (Str×GI)
 ms:List (Str×GI)
 fl:List Str
 hs:List ((Nat×Nat×Nat)×List Nat)
 sh:List (Nat×Nat)
 ow:List Nat
inductive Dn where
 | E (d:DE) | F (d:DO)
noncomputable def Dn.e:Dn->DE
 | .E d=>d
 | .F d=>dL d
noncomputable def gW(x:Str):List Str->Option Nat
 | []=>none
 | y::r=>if x=y then some 0 else(gW x r).map (· + 1)
noncomputable def kd(sc:Scope)(x:Str):Option NameKind:=sc.names.lookup x
noncomputable def gX(sc:Scope)(x:Str):Bool:=match kd sc x with
 | some .local=>true
 | some .cell=>true
 | some .free=>true
 | _=>false
noncomputable def qd(sc:Scope)(x:Str):Bool:=match kd sc x with
 | some .local=>true
 | some .cell=>true
 | _=>false
noncomputable def gY(sc:Scope)(x:Str):Bool:=match kd sc x with
 | some .local=>true
 | _=>false
noncomputable def zC(Γ:Gm)(x:Str):Bool:=(match kd Γ.sc x with
 | some .globalImplicit=>true
 | _=>false)&&!(x==("__debug__" : Str))
noncomputable def cG(c:Bool){α:Type}(o:Option α):Option α:=if c then o else none
def slot(Γ:Gm)(x:Str):Option Nat:=(gW x Γ.N).bind fun i=>if gX Γ.sc x&&(!(x==("__debug__" : Str))&&!(x==("__classdict__" : Str)))then some i else none
def nm(Γ:Gm):Expr->Option Nat
 | .Name x _=>slot Γ x
 | _=>none
def uQ(Γ:Gm)(x:Str):Option Nat:=(gW x Γ.N).bind fun i=>if qd Γ.sc x&&(Γ.fn||gY Γ.sc x)then some i else none
noncomputable def Je:Expr->Bool
 | .Starred _ _=>false
 | _=>true
structure Rc where
 n:Gm->Expr->Option Dn
 t:Gm->Expr->Option DT
 g:Gm->Nat->Expr->Option DG
section
variable (r:Rc) (Γ:Gm)
noncomputable def cV(f:Nat->DE)(e:Expr):Option DE:=match nm Γ e with
 | some i=>some (f i)
 | none=>(r.n Γ e).map Dn.e
def cA:List Bool->List Expr->Option DA
 | [],[]=>some []
 | k::ks,e::es=>if Je e then(cV r Γ (if k then dC else dV) e).bind fun d=>(cA ks es).bind fun l=>some ((k,d)::l)else none
 | _,_=>none
def dn:Operator->Option (D->D->Option D)
 | .Add=>some jG
 | .Sub=>some kL
 | .Mult=>some y9
 | .Mod=>some jK
 | .FloorDiv=>some kM
 | .Pow=>some xy
 | _=>none
def VU:CmpOp->Option (D->D->Option D)
 | .Eq=>some JU
 | .NotEq=>some zy
 | .Lt=>some UO
 | .LtE=>some J9
 | .Gt=>some vF
 | .GtE=>some ae
 | .In=>some (GD false)
 | .NotIn=>some (GD true)
 | .Is=>some yu
 | .IsNot=>some WC
noncomputable def cB(f:DE->DE->DE):List Expr->Option DE
 | []=>none
 | [a]=>cV r Γ dC a
 | a::b=>(cV r Γ dV a).bind fun d=>(cB f b).bind fun d'=>some (f d d')
noncomputable def cW(f:DT->DT->DT):List Expr->Option DT
 | []=>none
 | [a]=>r.t Γ a
 | a::b=>(r.t Γ a).bind fun d=>(cW f b).bind fun d'=>some (f d d')
def part:Option Expr->Option UP
 | none=>some fun _=>some none
 | some e=>(cV r Γ dV e).map fun d=>fun Z=>(d Z).bind yx
noncomputable def V6(p:Pos):Option (List Nat):=Γ.hs.lookup (p.line,p.col,p.endCol)
noncomputable def g6:Expr->Bool
 | .Call _ _ _ _=>false
 | _=>true
noncomputable def K9:Expr->Bool
 | .Slice _ _ _ _=>false
 | _=>true
def Xd(x:Str)(h:Bool):Option (List D->Option D):=if x = "len" then some (if h then V1 else Jm)else if x = "tuple" then some JR else if x = "all" then some v3 else if x = "str" then some zG else if x = "int" then some (if h then Z0 else zZ)else if x = "max" then some WG else if x = "any" then some ZP else none
def Xe(x:Str)(h:Bool):Option (List D->Option OD):=if x = "list" then some ZJ else none
def uR(x:Str):Bool:=zC Γ x&&(match Γ.gs.lookup x with | some .blt=>true | _=>false)
noncomputable def Xf(x:Str):Option String:=if x = "list" then some "list" else if x = "tuple" then some "tuple" else if x = "bool" then some "bool" else if x = "str" then some "str" else if x = "int" then some "int" else none
def dw(e:Expr):Option DI:=(cV r Γ dP e).map fun d=>match V6 Γ e.pos with
 | some (_::_)=>WN d
 | _=>JI d
def dz(tup:Bool)(x:Str)(as:List Expr):Option DI:=
 if uR Γ x then(match as with
  | [a]=>if x = "range" then cG (Je a) ((cV r Γ dV a).map YH)
   else if x = "enumerate" then cG (Je a&&tup) ((cV r Γ dP a).map UT)else none
  | [a,b]=>if x = "zip" then cG (Je a&&Je b&&tup) ((cV r Γ dP a).bind fun d=>(cV r Γ dP b).map fun d'=>kP d d')else none
  | _=>none)else none
noncomputable def uk:Expr->Bool
 | .Tuple _ _ _=>true
 | _=>false
noncomputable def gb:Expr->Bool
 | .Set _ _ _=>false
 | _=>true
noncomputable def Xg:Keyword->Bool
 | ⟨some k,.Constant (.int 1) _ _,_⟩=>k==("start" : Str)
 | _=>false
def dA(tg e f:Expr)(as:List Expr)(ks:List Keyword)(p:Pos):Option DI:=match f with
 | .Name x _=>(match ks with
  | []=>(match dz r Γ (uk tg) x as with
   | some d=>some d
   | none=>dw r Γ e)
  | k::ks=>(match as,ks with
   | [a],[]=>cG (x==("enumerate" : Str)&&uR Γ x&&Je a&&uk tg&&Xg k) ((cV r Γ dP a).map VO)
   | _,_=>none))
 | _=>none
def cI(tg:Expr)(e:Expr):Option DI:=match e with
 | .Call f as ks p=>dA r Γ tg e f as ks p
 | _=>cG (gb e) (dw r Γ e)
noncomputable def dB(scope sc:Scope):Scope:={ scope with names:=scope.names.map fun(n,k)=>if k==.free&&sc.kind==.function&&sc.names.lookup n==some .cell then(n,.cell)else(n,k) }
noncomputable def FJ:Nat->Expr->List Str
 | 0,_=>[]
 | _+1,.Name x _=>[x]
 | n+1,.Tuple es _ _=>(es.map (FJ n)).flatten
 | _,_=>[]
noncomputable def Ka:List Str->Bool
 | []=>true
 | x::r=>!(r.contains x)&&Ka r
noncomputable def Xh:List Nat->Bool
 | []=>true
 | x::r=>!(r.contains x)&&Xh r
noncomputable def dD(scope:Scope)(p:Str×Nat):Bool:=(match Γ.N[p.2]? with
  | some y=>y==p.1
  | none=>false)&&(match kd Γ.sc p.1 with
  | some .cell=>true
  | some .free=>true
  | _=>false)&&(match kd scope p.1 with
  | some .free=>true
  | _=>false)
noncomputable def FK(scope:Scope):Bool:=(match scope.kind with | .function=>true | _=>false)&&(scope.names.all fun y=>y.2 != .local||scope.names.lookup y.1==some .local)&&(scope.names.all fun y=>y.2 != .cell) &&
 (scope.names.all fun y=>y.2 != .free||Γ.sc.names.lookup y.1==some .cell||Γ.sc.names.lookup y.1==some .free)
def dE(p:Pos):List (Str×Nat):=((V6 Γ p).getD []).map fun j=>(Γ.N.getD j "",j)
def inner(own:List Str)(caps:List (Str×Nat))(scope:Scope):Gm:={ Γ with N:=own++caps.map (·.1),sc:=dB scope Γ.sc,fn:=false }
def dF(elt tg iter:Expr)(ifs:List Expr)(scope:Scope)(p:Pos):Option DO:=
 let own:=FJ 5 tg
 let caps:=dE Γ p
 let Δ:=inner Γ own caps scope
 cG (FK Γ scope&&caps.all (dD Γ scope)&&Ka Δ.N&&Xh (caps.map fun z:Str×Nat=>z.2)&&gb iter)
  ((cI r Γ tg iter).bind fun di=>(r.g Δ own.length tg).bind fun g=>(match ifs with
   | []=>some jS
   | [c]=>r.t Δ c
   | _=>none).bind fun dc=>(cV r Δ dC elt).bind fun de=>some (yH own.length (caps.map fun z:Str×Nat=>z.2) di g dc de))
def Xi(es:List Expr):Option Dn:=match es with
 | [a,t]=>(match t with
  | .Name t _=>cG (Je a&&uR Γ t) ((Xf t).bind fun T=>(cV r Γ dV a).map fun d=>.E (d1 (zF T) d))
  | .Tuple ts _ _=>(match ts with
   | [.Name t _,.Name u _]=>cG (Je a&&uR Γ t&&uR Γ u&&t==("list" : Str)&&u==("tuple" : Str)) ((cV r Γ dV a).map fun d=>.E (d1 WK d))
   | _=>none)
  | _=>none)
 | _=>none
def aQ(x:Str)(es:List Expr)(p:Pos):Option Dn:=cG (zC Γ x&&!es.isEmpty) (match Γ.gs.lookup x with
 | some (.fE _ _ ks F)=>(cA r Γ ks es).map fun l=>.E (jd F l)
 | some (.fF _ _ ks F)=>(cA r Γ ks es).map fun l=>.F (yz F l)
 | some (.mk _ _ ks _ G)=>(cA r Γ ks es).map fun l=>.F (k8 G l)
 | some .blt=>if x = "isinstance" then Xi r Γ es
  else(cA r Γ (es.map fun _=>false) es).bind fun l=>(match Xd x (V6 Γ p).isSome with
   | some f=>some (.E (jd f l))
   | none=>(Xe x (V6 Γ p).isSome).map fun f=>.F (yz f l))
 | _=>none)
noncomputable def dG:Const->Option Dn
 | .int i=>some (.E (dK (.int i)))
 | .bool i=>some (.E (dK (.bl i)))
 | .none=>some (.E (dK .non))
 | .str i=>some (.E (dK (.str i)))
 | _=>none
def dH(op:UnaryOp)(a:Expr):Option Dn:=match op with
 | .USub=>(cV r Γ dV a).map fun d=>.E (gH d)
 | .Not=>(cV r Γ dV a).map fun d=>.E (aj d)
 | _=>none
def FL(a:Expr)(op:Operator)(b:Expr)(p:Pos):Option Dn:=(cV r Γ dV a).bind fun d=>(cV r Γ dV b).bind fun d'=>(match V6 Γ p with
  | some _=>(match op with
   | .Add=>some (.F (ZH gF d d'))
   | _=>none)
  | none=>(dn op).map fun f=>.E (d2 f d d'))
def iE:CmpOp->Option (D->D->Option D)
 | .LtE=>some VP
 | .In=>some gQ
 | _=>none
def GH(p:Pos)(o:CmpOp):Option (D->D->Option D):=if (V6 Γ p).isSome then iE o else VU o
def FM(a:Expr)(os:List CmpOp)(bs:List Expr)(p:Pos):Option DE:=match os,bs with
 | [o],[b]=>cG (!behindInMarks o b) ((cV r Γ dV a).bind fun d=>(cV r Γ dV b).bind fun d'=>(GH Γ p o).map fun f=>d2 f d d')
 | [o,o'],[b,c]=>cG (!lastMarks [o,o'] [b,c]) ((cV r Γ dV a).bind fun d=>(cV r Γ dV b).bind fun d'=>(cV r Γ dV c).bind fun d''=>(GH Γ p o).bind fun f=>(GH Γ p o').map fun f'=>J1 f f' d d' d'')
 | [o,o',o''],[b,c,e]=>cG (!lastMarks [o,o',o''] [b,c,e]) ((cV r Γ dV a).bind fun d=>(cV r Γ dV b).bind fun d'=>(cV r Γ dV c).bind fun d''=>(cV r Γ dV e).bind fun d3=>
   (VU o).bind fun f=>(VU o').bind fun f'=>(VU o'').map fun f''=>yM f f' f'' d d' d'' d3)
 | _,_=>none
def dI(a b:Expr)(p:Pos):Option Dn:=match b with
 | .Slice lo hi st _=>(match st with
  | none=>(cV r Γ dV a).bind fun d=>(part r Γ lo).bind fun x=>(part r Γ hi).map fun y=>(match V6 Γ p with
   | some []=>.E (k6 d x y)
   | some (_::_)=>.E (ke d x y)
   | none=>.F (yN d x y))
  | some _=>none)
 | b=>cG (K9 b) ((cV r Γ dV a).bind fun d=>(cV r Γ dV b).map fun d'=>.E (d2 (if (V6 Γ p).isSome then Zo else jj) d d'))
def aR(elt:Expr)(gs:List Comprehension)(scope:Scope)(p:Pos):Option DO:=match gs with
 | [⟨tg,iter,ifs,a⟩]=>cG (a==0) (dF r Γ elt tg iter ifs scope p)
 | _=>none
def dJ(a b:Expr):Option Dn:=match a with
 | .Name x _=>cG (zC Γ x) (match Γ.gs.lookup x with
  | some (.kt l)=>cG (l.length==4) ((cV r Γ dV b).map fun d=>.E (d1 (xT l) d))
  | _=>none)
 | _=>none
def dM(m:Str)(d d':DE):Option Dn:=if m = "join" then some (.E (d2 V0 d d'))else if m = "split" then some (.F (ZH Jx d d'))else if m = "partition" then some (.E (d2 UY d d'))else none
def dN(a:Expr)(m:Str)(ap:Pos)(es:List Expr)(p:Pos):Option Dn:=match a,es with
 | .Name x np,[]=>cG (ap.endLine==p.line) ((cV r Γ dV (.Name x np)).bind fun d=>match Γ.ms.lookup m with
  | some (.fE _ _ _ F)=>some (.E (d1 (WI Γ.C m F) d))
  | some (.fF _ _ _ F)=>some (.F (wJ (JT Γ.C m F) d))
  | _=>none)
 | a,[b]=>cG (Je b&&ap.endLine==p.line) (if m = "index" then(if (V6 Γ p).isSome then cG (g6 a) ((cV r Γ dV a).bind fun d=>(cV r Γ dV b).map fun d'=>.E (d2 gS d d'))else dJ r Γ a b)else cG (g6 a) ((cV r Γ dV a).bind fun d=>(cV r Γ dV b).bind fun d'=>dM m d d'))
 | _,_=>none
def FN(f:Expr)(es:List Expr)(ks:List Keyword)(p:Pos):Option Dn:=match ks with
 | []=>(match f with
  | .Name x _=>aQ r Γ x es p
  | .Attribute a m ap=>dN r Γ a m ap es p
  | _=>none)
 | _::_=>none
def dQ(e:Expr):Option DE:=match e with
 | .FormattedValue v c s _=>cG (c==-1&&s.isNone) ((cV r Γ dC v).map ZO)
 | e=>cV r Γ dC e
def dR:List Expr->Option (List DE)
 | []=>some []
 | e::es=>(dQ r Γ e).bind fun d=>(dR es).map fun ds=>d::ds
def cN(e:Expr):Option Dn:=match e with
 | .Name x _=>cG (zC Γ x) (match Γ.gs.lookup x with
  | some (.con i)=>some (.E (dK (.int i)))
  | some (.kt l)=>some (.E (dK (.tup (l.map D.str))))
  | _=>none)
 | .Constant c _ _=>dG c
 | .UnaryOp op a _=>dH r Γ op a
 | .BinOp a op b p=>FL r Γ a op b p
 | .Compare a os bs p=>(FM r Γ a os bs p).map .E
 | .BoolOp op vs _=>(match op with
  | .And=>(cB r Γ Y8 vs).map .E
  | .Or=>(cB r Γ WD vs).map .E)
 | .IfExp c a b _=>(r.t Γ c).bind fun t=>(cV r Γ dC a).bind fun d=>(cV r Γ dC b).map fun d'=>.E (WE t d d')
 | .Tuple es _ _=>cG (Nat.ble es.length 1000) ((cA r Γ (es.map fun _=>true) es).map fun l=>.E (YD l))
 | .List es _=>cG (Nat.ble es.length 1000) ((cA r Γ (es.map fun _=>true) es).map fun l=>.F (jB l))
 | .JoinedStr vs _=>cG (Nat.ble 2 vs.length) ((dR r Γ vs).map fun ds=>.E (gP ds))
 | .Attribute a f _=>cG (g6 a&&Γ.fl.contains f) ((cV r Γ dV a).map fun d=>.E (d1 (yv Γ.C f) d))
 | .Subscript a b p=>dI r Γ a b p
 | .ListComp elt gs scope p=>(aR r Γ elt gs scope p).map .F
 | .Call f es ks p=>FN r Γ f es ks p
 | _=>none
noncomputable def dS:Expr->Bool
 | .UnaryOp .Not _ _=>false
 | .BoolOp _ _ _=>false
 | .IfExp _ _ _ _=>false
 | .Compare _ _ _ _=>false
 | _=>true
def FO(a:Expr)(os:List CmpOp)(bs:List Expr)(p:Pos):Option DT:=match os,bs with
 | [o],[b]=>cG (!behindInMarks o b) ((cV r Γ dV a).bind fun d=>(cV r Γ dV b).bind fun d'=>(GH Γ p o).map fun f=>jy (d2 f d d'))
 | [o,o'],[b,c]=>cG (!lastMarks [o,o'] [b,c]) ((cV r Γ dV a).bind fun d=>(cV r Γ dV b).bind fun d'=>(cV r Γ dV c).bind fun d''=>(GH Γ p o).bind fun f=>(GH Γ p o').map fun f'=>jy (J1 f f' d d' d''))
 | [o,o',o''],[b,c,e]=>cG (!lastMarks [o,o',o''] [b,c,e]) ((cV r Γ dV a).bind fun d=>(cV r Γ dV b).bind fun d'=>(cV r Γ dV c).bind fun d''=>(cV r Γ dV e).bind fun d3=>
   (VU o).bind fun f=>(VU o').bind fun f'=>(VU o'').map fun f''=>jy (yM f f' f'' d d' d'' d3))
 | _,_=>none
def cT(e:Expr):Option DT:=match e with
 | .Compare a os bs p=>FO r Γ a os bs p
 | .UnaryOp op a p=>(match op with
  | .Not=>(r.t Γ a).map J0
  | op=>cG (dS (.UnaryOp op a p)) ((cV r Γ dV (.UnaryOp op a p)).map y0))
 | .BoolOp op vs _=>(match op with
  | .And=>cW r Γ ug vs
  | .Or=>cW r Γ Jw vs)
 | e=>cG (dS e) ((cV r Γ dV e).map y0)
def Qg(k:Nat):List Expr->Option UU
 | []=>some gZ
 | e::es=>cG (Je e) ((r.g Γ k e).bind fun g=>(Qg k es).map fun gs=>gC g gs)
def dU(k:Nat):Expr->Option DG
 | .Name x _=>(uQ Γ x).bind fun i=>cG (Nat.blt i k) (some (gN i))
 | .Tuple es _ _=>(Qg r Γ k es).map fun gs=>gT es.length gs
 | _=>none
end
def rc:Nat->Rc
 | 0=>⟨fun _ _=>none,fun _ _=>none,fun _ _ _=>none⟩
 | n+1=>⟨cN (rc n),cT (rc n),dU (rc n)⟩
noncomputable def Kb:Stmt->Nat
 | .Return _ p=>p.line
 | .Assign _ _ p=>p.line
 | .AugAssign _ _ _ p=>p.line
 | .For _ _ _ _ p=>p.line
 | .While _ _ _ p=>p.line
 | .If _ _ _ p=>p.line
 | .Expr _ p=>p.line
 | _=>0
section
variable (r:Rc) (q:Gm->List Stmt->Option DS.DS) (Γ:Gm)
noncomputable def cF(e:Expr):Option DO:=match r.n Γ e with
 | some (.F d)=>some d
 | _=>none
noncomputable def VV:Expr->Bool
 | .ListComp _ _ _ _=>false
 | .SetComp _ _ _ _=>false
 | .DictComp _ _ _ _ _=>false
 | _=>true
def FP(scope:Scope)(x:Str)(np vp:Pos):Bool:=(match Γ.sc.kind with | .function=>true | _=>false)&&gY Γ.sc x&&np.line==vp.line&&!(scope.names.any fun(n,k)=>n==x&&(k==.local||k==.cell))
def FQ(x:Str)(np:Pos)(e:Expr):Option DS.DS:=(uQ Γ x).bind fun i=>match e with
 | .ListComp elt gs scope p=>(aR r Γ elt gs scope p).bind fun d=>cG (FP Γ scope x np p) (some (if Γ.ow.contains i then YI i d else jA i (dL d)))
 | e=>cG (VV e) (if Γ.ow.contains i then(cF r Γ e).map (YI i)else(cV r Γ dC e).map (jA i))
noncomputable def Kc:List Expr->Option (Expr×Expr)
 | [.Name x p,.Starred (.Name y q) _]=>some (.Name x p,.Name y q)
 | _=>none
def dW(t e:Expr):Option DS.DS:=match t with
 | .Name x np=>FQ r Γ x np e
 | .Attribute o f _=>(nm Γ o).bind fun i=>cG (VV e&&Γ.fl.contains f) ((cV r Γ dC e).map fun d=>yO i Γ.C f d)
 | .Subscript o j p=>(nm Γ o).bind fun i=>cG (VV e&&K9 j) ((cV r Γ dV j).bind fun dx=>(cV r Γ dC e).map fun d=>UV i dx d)
 | .Tuple es n p=>cG (VV e&&!uk e) (match Kc es with
  | some (e0,e1)=>(cV r Γ dC e).bind fun d=>(Qg r Γ Γ.N.length [e0,e1]).map fun g=>WS d g
  | none=>(cV r Γ dC e).bind fun d=>(r.g Γ Γ.N.length (.Tuple es n p)).map fun g=>VL d g)
 | _=>none
def qe:Expr->Option (Expr×Expr)
 | .Call (.Attribute o m ap) [j] [] p=>if m = "pop" /\(ap.endLine==p.line)=true/\Je j=true then some (o,j)else none
 | _=>none
def FR(o:Expr)(m:Str)(e:Expr)(l:Bool):Option DS.DS:=(nm Γ o).bind fun i=>cG (Je e&&l) (if m = "append" then(cV r Γ dC e).map fun d=>zh i d else if m = "pop" then(cV r Γ dV e).map fun d=>WU i d else none)
def FT(o:Expr)(m:Str)(k e:Expr)(l:Bool):Option DS.DS:=(nm Γ o).bind fun i=>cG (m==("insert" : Str)&&Je k&&Je e&&l) ((cV r Γ dV k).bind fun x=>match qe e with
 | some (o',j)=>(nm Γ o').bind fun i'=>cG (i==i') ((cV r Γ dV j).map fun dj=>uj i x dj)
 | none=>(cV r Γ dC e).map fun d=>gR i x d)
def FU(f:Expr)(es:List Expr)(ks:List Keyword)(p:Pos):Option DS.DS:=match f,ks with
 | .Attribute o m ap,[]=>(match es with
  | [e]=>FR r Γ o m e (ap.endLine==p.line)
  | [k,e]=>FT r Γ o m k e (ap.endLine==p.line)
  | _=>none)
 | _,_=>none
def FV(e:Expr):Option DS.DS:=match e with
 | .Call f es ks p=>(match FU r Γ f es ks p with
  | some d=>some d
  | none=>(cV r Γ dV (.Call f es ks p)).map WJ)
 | e=>cG (VV e) ((cV r Γ dV e).map WJ)
def cS(s:Stmt):Option DS.DS:=match s with
 | .Assign ts e _=>(match ts with
  | [t]=>dW r Γ t e
  | _=>none)
 | .Expr e _=>FV r Γ e
 | .Return o _=>(match o with
  | none=>some (jv (dK .non))
  | some e=>(match nm Γ e with
   | some i=>if Γ.ow.contains i then some (UW i)else some (jv (dC i))
   | none=>if Γ.kF then(cF r Γ e).map vY else(cV r Γ dC e).map jv))
 | .If c a b _=>(r.t Γ c).bind fun t=>(q Γ a).bind fun x=>(q Γ b).map fun y=>jC t x y
 | .While c b o _=>(match o with
  | []=>(r.t Γ c).bind fun t=>(q Γ b).map fun x=>uN t x 20000
  | _::_=>none)
 | .For tg it b o _=>(match o with
  | []=>cG (gb it) ((cI r Γ tg it).bind fun di=>(r.g Γ Γ.N.length tg).bind fun g=>(q Γ b).map fun x=>JL di g x)
  | _::_=>none)
 | _=>none
def wT(l:Nat):List (Nat×Nat)->DS.DS->DS.DS
 | [],d=>d
 | (m,i)::r,d=>if m=l then VJ i (wT l r d)else wT l r d
noncomputable def dX:Stmt->Bool
 | .Raise _ _ _=>true
 | _=>false
def dY:List Expr->Option (List DO)
 | []=>some []
 | e::es=>cG (Je e) ((cF r Γ e).bind fun f=>(dY es).map fun fs=>f::fs)
def FW(i:Nat)(g:Str)(e0 e1 e2:Expr):Option DS.DS:=match Γ.gs.lookup g with
 | some (.fM _ _ F)=>(nm Γ e1).bind fun j=>cG (zC Γ g&&Je e0&&Je e1&&Je e2) ((cV r Γ dC e0).bind fun a=>(cV r Γ dC e2).map fun b=>zA i j F a b)
 | _=>none
def dZ(i:Nat)(e:Expr):Option DS.DS:=match e with
 | .List es _=>(dY r Γ es).map fun fs=>v_ i fs
 | .Call (.Name g _) [e0,e1,e2] [] _=>FW r Γ i g e0 e1 e2
 | _=>none
def d_(e:Expr):Option DS.DS:=match e with
 | .Call (.Attribute (.Subscript a j _) m ap) [x] [] p=>(nm Γ a).bind fun i=>cG (m==("append" : Str)&&K9 j&&Je x&&ap.endLine==p.line) ((cV r Γ dV j).bind fun dj=>(cV r Γ dC x).map fun de=>uh i dj de)
 | _=>none
noncomputable def aS:List Expr->Option Str
 | [.Name x _]=>some x
 | _=>none
def D0(s:Stmt):Option DS.DS:=match s with
 | .Assign ts e _=>(aS ts).bind fun x=>(uQ Γ x).bind fun i=>dZ r Γ i e
 | .Expr e _=>d_ r Γ e
 | .If c a b _=>(r.t Γ c).bind fun t=>(q Γ a).bind fun x=>(q Γ b).map fun y=>jC (fun Z=>t (frz Z)) x y
 | _=>none
def cX(s:Stmt):Option DS.DS:=if (Γ.hs.lookup (Kb s,0,9)).isSome then D0 r q Γ s else if (Γ.hs.lookup (Kb s,0,10)).isSome then(cS r q Γ s).map fun d=>fun Z=>d (frz Z)else cS r q Γ s
def Ke:Stmt->Option (Str×Expr)
 | .Assign ts e _=>(aS ts).map fun x=>(x,e)
 | _=>none
noncomputable def D6:Stmt->Option (Expr×List Stmt)
 | .If c a b _=>if b.isEmpty then some (c,a)else none
 | _=>none
def FX(s s2:Stmt):Option DS.DS:=(Ke s).bind fun p=>(D6 s2).bind fun p2=>(uQ Γ p.1).bind fun i=>cG (VV p.2) ((cV r Γ dC p.2).bind fun de=>(r.t Γ p2.1).bind fun dt=>(q Γ p2.2).map fun da=>K3 i de dt da)
def Qh:List Stmt->Option DS.DS
 | []=>some jL
 | s::t=>if dX s then some Yb else if (Γ.hs.lookup (Kb s,0,12)).isSome then(match t with
  | []=>none
  | s2::t2=>(FX r q Γ s s2).bind fun d=>(Qh t2).map fun d'=>j9 d d')else(cX r q Γ s).bind fun d=>(match t with
  | []=>some (wT (Kb s) Γ.sh d)
  | t=>(Qh t).map fun d'=>wT (Kb s) Γ.sh (j9 d d'))
end
def cQ(r:Rc):Nat->Gm->List Stmt->Option DS.DS
 | 0=>fun _ _=>none
 | n+1=>fun Γ=>Qh r (cQ r n) Γ
section
variable (P:Program) (w:World) (K':Fr) (mg:Str->Option Value) (base:Heap) (C:Addr) (rm:Nat->Prop) (K:Fr) (x:Str)
def Kf:GI->Prop
 | .con i=>∃t,mg x=some (.int i t)
 | .fE k ps ks F=>FnI P w K' mg base k x ps (uM K ks F)/\rm k
 | .fF k ps ks F=>FnI P w K' mg base k x ps (wI K ks F)/\rm k
 | .mk k ps ks F G=>MkI P w K' mg base k C x ps (ax K C ks F)/\(∀p ds o,G ds=some o->F p ds=some o)/\rm (k+1)
 | .kt l=>GT K mg x l/\K'=K
 | .fM k ps F=>FnI P w K' mg base k x ps (kY K fun _=>F)/\rm k
 | .blt=>mg x=none
def wU:GI->Prop
 | .fE k ps _ F=>MtI P w K' mg base k C x ps (uM K [false] F)/\rm k
 | .fF k ps _ F=>MtI P w K' mg base k C x ps (wI K [false] F)/\rm k
 | _=>True
end
structure OkX (K:Fr) (Γ:Gm) (X:Cx):Prop where
 n:X.N=Γ.N
 sc:X.env.scope=Γ.sc
 nd:Γ.N.Nodup
 calm:X.calm=true
 k:X.K=K
 room:Room 0 X.A
 fn:Γ.fn=true->∀x,X.fn x=true
 gs:∀x g,Γ.gs.lookup x=some g->Kf X.prog X.w X.K X.mg X.base Γ.C (fun k=>Room k X.A) K x g
 ms:∀x g,Γ.ms.lookup x=some g->wU X.prog X.w X.K X.mg X.base Γ.C (fun k=>Room k X.A) K x g
 cl:Cls K Γ.C
 fl:∀f,Γ.fl.contains f=true->yC K Γ.C f
def Vl(X:Cx)(K:Fr)(e:Expr):Dn->Prop
 | .E d=>PE X e (tE K d)
 | .F d=>PE X e (tF K d)
structure RcOk (r:Rc):Prop where
 n:∀{K:Fr} {Γ:Gm} {X:Cx} {e:Expr} {d:Dn},OkX K Γ X->r.n Γ e=some d->Vl X K e d
 t:∀{K:Fr} {Γ:Gm} {X:Cx} {e:Expr} {d:DT},OkX K Γ X->r.t Γ e=some d->PT X e (tT K d)
 g:∀{K:Fr} {Γ:Gm} {X:Cx} {k:Nat} {e:Expr} {d:DG},OkX K Γ X->r.g Γ k e=some d->PG X e (tG K k d)
theorem ja{c:Bool}{α:Type}{o:Option α}{y:α}(h:cG c o=some y):c=true/\o=some y:=by
 cases c with
 | true=>exact⟨rfl,h⟩
 | false=>cases h
theorem j5{α β:Type}{o:Option α}{f:α->β}{y:β}(h:o.map f=some y):∃x,o=some x/\f x=y:=by
 cases o with
 | none=>cases h
 | some x=>exact⟨x,rfl,vFa h⟩
theorem jb{a b:Bool}(h:(a&&b)=true):a=true/\b=true:=by simpa using h
theorem Yc{a:Bool}(h:(!a)=true):a=false:=by simpa using h
theorem V7{x:Str}:∀{l:List Str} {i:Nat},gW x l=some i->l[i]?=some x
 | [],_,h=>by cases h
 | y::r,i,h=>by
  unfold gW at h;split at h
  ·cases h;rename_i e;rw[e];rfl
  ·obtain⟨j,h1,h2⟩:=j5 h;rw[<-h2];simpa using V7 h1
section
variable {r:Rc} {Γ:Gm} {X:Cx} {K:Fr} {x y:Str} {i:Nat} {e a b c tg:Expr} {es:List Expr} {pos:Pos} {d:DE}
theorem gc{sc:Scope}(h:gX sc x=true):Go sc x:=by
 unfold gX at h;split at h <;> first | cases h | skip
 ·exact .inl (by assumption)
 ·exact .inr (.inl (by assumption))
 ·exact .inr (.inr (by assumption))
theorem Qi{sc:Scope}(h:qd sc x=true):Vx sc x:=by
 unfold qd at h;split at h <;> first | cases h | skip
 ·exact .inl (by assumption)
 ·exact .inr (by assumption)
theorem Kg{sc:Scope}(h:gY sc x=true):sc.names.lookup x=some .local:=by
 unfold gY at h;split at h
 ·assumption
 ·cases h
theorem YM(h:OkX K Γ X)(g:zC Γ x=true):Gl X x/\(x==("__debug__" : Str))=false:=by
 obtain⟨g1,g2⟩:=jb g;refine⟨?_,Yc g2⟩;show X.env.scope.names.lookup x=_;rw[h.sc];split at g1
 ·assumption
 ·cases g1
theorem Zq(h:OkX K Γ X)(g:uR Γ x=true):Gl X x/\X.mg x=none:=by
 obtain⟨g1,g2⟩:=jb g;refine⟨(YM h g1).1,?_⟩;split at g2
 ·exact h.gs x _ (by assumption)
 ·cases g2
theorem Kh(e:slot Γ x=some i):gW x Γ.N=some i/\gX Γ.sc x=true/\(x==("__debug__" : Str))=false/\(x==("__classdict__" : Str))=false:=by
 obtain⟨j,e1,e2⟩:=j0 e;split at e2
 ·cases e2;rename_i hh;obtain⟨h1,h2⟩:=jb hh;obtain⟨h2,h3⟩:=jb h2;exact⟨e1,h1,Yc h2,Yc h3⟩
 ·cases e2
theorem Jo(h:OkX K Γ X)(e:slot Γ x=some i):PE X (.Name x pos) (J_ i):=by
 obtain⟨h1,h2,h3,h4⟩:=Kh e;exact pv i (by rw[h.n];exact V7 h1) (by rw[h.sc];exact gc h2) h3 h4
theorem JV(h:nm Γ e=some i):∃x pos,e=.Name x pos/\slot Γ x=some i:=by
 unfold nm at h;split at h
 ·exact⟨_,_,rfl,h⟩
 ·cases h
theorem vI(h:OkX K Γ X)(e:uQ Γ x=some i):X.N.Nodup/\X.N[i]?=some x/\Vx X.env.scope x/\(X.fn x=true \/ X.env.scope.names.lookup x=some .local):=by
 obtain⟨j,e1,e2⟩:=j0 e;split at e2
 ·cases e2;rename_i hh;obtain⟨h1,h2⟩:=jb hh;refine⟨by rw[h.n];exact h.nd,by rw[h.n];exact V7 e1,by rw[h.sc];exact Qi h1,?_⟩;rw[Bool.or_eq_true]at h2;rcases h2 with h2 | h2
  ·exact .inl (h.fn h2 x)
  ·exact .inr (by rw[h.sc];exact Kg h2)
 ·cases e2
theorem jf{env:Env}(h:Je e=true):starEach (e::es) env=(false,eval e env)::starEach es env:=by
 cases e <;> first | rfl | cases h
theorem Yr{env:Env}:∀{es:List Expr},(∀e∈es,Je e=true)->(backTo pos (starEach es env)).any (·.1)=false
 | [],_=>rfl
 | e::es,h=>by
  rw[jf (h e List.mem_cons_self)];show(false||(backTo pos (starEach es env)).any (·.1))=false;rw[Yr fun x hx=>h x (List.mem_cons_of_mem _ hx)];rfl
theorem YV{env:Env}{f:Str}(h:g6 e=true):attributeBase e f env (eval e env)=eval e env:=by
 cases e <;> first | rfl | cases h
theorem V8(h:K9 b=true):gB b:=by
 cases b <;> first | (intro _ _;rfl) | cases h
theorem g_{env:Env}{e:Expr}(h:gb e=true):∀x,foldedSetIterable e env x=pure x:=by
 cases e <;> first | (intro _;rfl) | cases h
theorem yI{env:Env}{t:Option Expr}{l:Nat}(h:VV e=true):swapsWith e t l env=pure false:=by
 cases e <;> first | rfl | cases h
theorem Ki{f:Nat->DE}(h:cV r Γ f e=some d):(∃i,nm Γ e=some i/\d=f i) \/∃n,r.n Γ e=some n/\d=n.e:=by
 unfold cV at h;split at h
 ·exact .inl ⟨_,by assumption,(vFa h).symm⟩
 ·obtain⟨n,h1,h2⟩:=j5 h;exact .inr ⟨n,h1,h2.symm⟩
theorem Xj{n:Dn}(h:Vl X K e n):PE X e (tE K n.e):=by
 cases n with
 | E d=>exact h
 | F d=>exact Hy h
variable (R:RcOk r) (h:OkX K Γ X)
include R h
theorem J4(q:cV r Γ dC e=some d):PE X e (tE K d):=by
 rcases Ki q with⟨i,q1,rfl⟩ | ⟨n,q1,rfl⟩
 ·obtain⟨x,p,rfl,q2⟩:=JV q1;exact a8 i (Jo h q2)
 ·exact Xj (R.n h q1)
theorem jm(q:cV r Γ dV e=some d):PE X e (tR K d):=by
 rcases Ki q with⟨i,q1,rfl⟩ | ⟨n,q1,rfl⟩
 ·obtain⟨x,p,rfl,q2⟩:=JV q1;exact Et i (Jo h q2)
 ·exact Hx (Xj (R.n h q1))
theorem ul(q:cV r Γ dP e=some d):PE X e (tP K d):=by
 rcases Ki q with⟨i,q1,rfl⟩ | ⟨n,q1,rfl⟩
 ·obtain⟨x,p,rfl,q2⟩:=JV q1;exact EZ i (Jo h q2)
 ·exact HV (Xj (R.n h q1))
theorem Z4:∀{ks:List Bool} {es:List Expr} {l:DA},cA r Γ ks es=some l->PA X es (YC K l)/\l.map (·.1)=ks/\(∀e∈es,Je e=true)/\l.length=es.length
 | [],[],l,q=>by cases q;exact⟨EQ,rfl,(fun _ h=>by cases h),rfl⟩
 | k::ks,e::es,l,q=>by
  unfold cA at q;split at q
  ·rename_i hs;obtain⟨d,q1,q⟩:=j0 q;obtain⟨l',q2,q⟩:=j0 q;cases q;obtain⟨a1,a2,a3,a4⟩:=Z4 q2;refine⟨?_,by simp[a2],fun z hz=>?_,by simp[a4]⟩
   ·cases k with
    | true=>exact HP (J4 R h q1) a1 (jf hs)
    | false=>exact HQ (jm R h q1) a1 (jf hs)
   ·rcases List.mem_cons.mp hz with rfl | hz
    ·exact hs
    ·exact a3 z hz
  ·cases q
 | [],_::_,_,q=>by cases q
 | _::_,[],_,q=>by cases q
omit R in
theorem D7{op:Operator}{f:D->D->Option D}(q:dn op=some f):∃t,jH X (binaryOp op) t/\jR K t f:=by
 have:=h.k;subst this;cases op <;> cases q
 ·exact⟨_,AV,EG⟩
 ·exact⟨_,Bx,Ex⟩
 ·exact⟨_,AU,C3⟩
 ·exact⟨_,BA,Ez⟩
 ·exact⟨_,BB,EB⟩
 ·exact⟨_,Am,EA⟩
omit R in
theorem Zr{op:CmpOp}{f:D->D->Option D}(q:VU op=some f):∃t,jH X (compareOp op) t/\jR K t f:=by
 have:=h.k;subst this;cases op <;> cases q
 ·exact⟨_,C8 h.room,H_⟩
 ·exact⟨_,C9 h.room,i6⟩
 ·exact⟨_,Eh,HC⟩
 ·exact⟨_,Ei,HD⟩
 ·exact⟨_,Ej,HE⟩
 ·exact⟨_,Ek,HF⟩
 ·exact⟨_,BE,EC⟩
 ·exact⟨_,An,cq⟩
 ·exact⟨_,qP,Cd⟩
 ·exact⟨_,ky,Cd⟩
omit R in
theorem vJ{p:Pos}{op:CmpOp}{f:D->D->Option D}(q:GH Γ p op=some f):∃t,jH X (compareOp op) t/\jR K t f:=by
 unfold GH at q;split at q
 ·have:=h.k;subst this;cases op <;> cases q
  ·exact⟨_,Q4,fH⟩
  ·exact⟨_,qH,fL⟩
 ·exact Zr h q
theorem Qj:∀{vs:List Expr} {d:DE},cB r Γ Y8 vs=some d->PE X (.BoolOp .And vs pos) (tE K d)
 | [],_,q=>by cases q
 | [a],_,q=>ao (J4 R h q)
 | a::b::c,d,q=>by
  unfold cB at q;obtain⟨d1,q1,q⟩:=j0 q;obtain⟨d2,q2,q⟩:=j0 q;cases q;exact EL (jm R h q1) (Qj q2)
theorem aU:∀{vs:List Expr} {d:DE},cB r Γ WD vs=some d->PE X (.BoolOp .Or vs pos) (tE K d)
 | [],_,q=>by cases q
 | [a],_,q=>ao (J4 R h q)
 | a::b::c,d,q=>by
  unfold cB at q;obtain⟨d1,q1,q⟩:=j0 q;obtain⟨d2,q2,q⟩:=j0 q;cases q;exact HN (jm R h q1) (aU q2)
theorem Qk:∀{vs:List Expr} {d:DT},cW r Γ ug vs=some d->PW X (.BoolOp .And vs pos) (tT K d)
 | [],_,q=>by cases q
 | [a],_,q=>cv (R.t h q)
 | a::b::c,d,q=>by
  unfold cW at q;obtain⟨d1,q1,q⟩:=j0 q;obtain⟨d2,q2,q⟩:=j0 q;cases q;exact EK (R.t h q1) (Qk q2)
theorem aV:∀{vs:List Expr} {d:DT},cW r Γ Jw vs=some d->PW X (.BoolOp .Or vs pos) (tT K d)
 | [],_,q=>by cases q
 | [a],_,q=>EJ (R.t h q)
 | a::b::c,d,q=>by
  unfold cW at q;obtain⟨d1,q1,q⟩:=j0 q;obtain⟨d2,q2,q⟩:=j0 q;cases q;exact HM (R.t h q1) (aV q2)
theorem Za{o:Option Expr}{p:UP}(q:part r Γ o=some p):PO X o (UQ K p):=by
 cases o with
 | none=>cases q;exact HR
 | some e=>
  obtain⟨d,q1,rfl⟩:=j5 q;exact HS (jm R h q1)
theorem Ql{di:DI}(q:dw r Γ e=some di):PI X tg e (zx K di):=by
 obtain⟨d,q1,rfl⟩:=j5 q;split
 ·exact fv (ul R h q1) h.k
 ·exact E_ (ul R h q1) h.k
omit R h in
theorem Ux(t:uk e=true):∃es n p,e=.Tuple es n p:=by
 cases e <;> first | exact⟨_,_,_,rfl⟩ | cases t
theorem D8{di:DI}{es:List Expr}{np:Pos}(q:dz r Γ (uk tg) x es=some di):PI X tg (.Call (.Name x np) es [] pos) (zx K di):=by
 unfold dz at q;split at q
 ·rename_i hb;obtain⟨g1,g2⟩:=Zq h hb;split at q
  ·split at q
   ·rename_i ex;subst ex;obtain⟨s1,q⟩:=ja q;obtain⟨d,q1,rfl⟩:=j5 q;exact cH g1 g2 (jm R h q1) (jf s1)
   ·split at q
    ·rename_i ex;subst ex;obtain⟨s1,q⟩:=ja q;obtain⟨u1,u2⟩:=jb s1;obtain⟨d,q1,rfl⟩:=j5 q;obtain⟨_,_,_,rfl⟩:=Ux u2;exact cJ g1 g2 (ul R h q1) (jf u1) h.k
    ·cases q
  ·split at q
   ·rename_i ex;subst ex;obtain⟨s1,q⟩:=ja q;obtain⟨u1,u3⟩:=jb s1;obtain⟨u1,u2⟩:=jb u1;obtain⟨d,q1,q⟩:=j0 q;obtain⟨d',q2,rfl⟩:=j5 q;obtain⟨_,_,_,rfl⟩:=Ux u3;exact fc g1 g2 (ul R h q1) (ul R h q2) (by rw[jf u1,jf u2];rfl) (jf u2) h.k
   ·cases q
  ·cases q
 ·cases q
omit R h in
theorem bC{k:Keyword}(z:Xg k=true):∃kk cp kp,k=⟨some "start",.Constant (.int 1) kk cp,kp⟩:=by
 unfold Xg at z;split at z
 ·have:=vLa z;subst this;exact⟨_,_,_,rfl⟩
 ·cases z
theorem D9{di:DI}{f:Expr}{as:List Expr}{ks:List Keyword}{p:Pos}(q:dA r Γ tg (.Call f as ks p) f as ks p=some di):PI X tg (.Call f as ks p) (zx K di):=by
 unfold dA at q;split at q
 ·split at q
  ·split at q
   ·cases q;exact D8 R h (by assumption)
   ·exact Ql R h q
  ·split at q
   ·obtain⟨z,q⟩:=ja q;obtain⟨z,z5⟩:=jb z;obtain⟨z,z4⟩:=jb z;obtain⟨z,z3⟩:=jb z;obtain⟨z1,z2⟩:=jb z;obtain⟨d,q1,rfl⟩:=j5 q;have e1:=vLa z1;subst e1;obtain⟨g1,g2⟩:=Zq h z2;obtain⟨_,_,_,rfl⟩:=Ux z4;obtain⟨kk,cp,kp,rfl⟩:=bC z5;exact b7 g1 g2 (ul R h q1) (jf z3) h.k
   ·cases q
 ·cases q
theorem qf{di:DI}(q:cI r Γ tg e=some di):PI X tg e (zx K di):=by
 unfold cI at q;split at q
 ·exact D9 R h q
 ·exact Ql R h (ja q).2
end
theorem G1:∀{l:List Str},Ka l=true->l.Nodup
 | [],_=>List.nodup_nil
 | x::r,h=>by
  obtain⟨h1,h2⟩:=jb h;refine List.nodup_cons.mpr ⟨fun z=>?_,G1 h2⟩;rw[List.contains_iff_mem.mpr z]at h1;cases h1
theorem wV:∀{l:List Nat},Xh l=true->l.Nodup
 | [],_=>List.nodup_nil
 | x::r,h=>by
  obtain⟨h1,h2⟩:=jb h;refine List.nodup_cons.mpr ⟨fun z=>?_,wV h2⟩;rw[List.contains_iff_mem.mpr z]at h1;cases h1
structure LcP (X:Cx) (K:Fr) (elt tg iter:Expr) (ifs:List Expr) (scope:Scope) (own:List Str) (caps:List (Str×Nat)) (di:DI) (g:DG) (dc:DT) (de:DE):Prop where
 S:CScope X scope
 cp:Caps X scope caps
 i:PI X tg iter (zx K di)
 g:∀s3 H3 ex',PG (X.comp (L2.cN own caps) scope s3 H3 ex') tg (tG K own.length g)
 t:∀s3 H3 ex',zE (X.comp (L2.cN own caps) scope s3 H3 ex') ifs (tT K dc)
 e:∀s3 H3 ex',PE (X.comp (L2.cN own caps) scope s3 H3 ex') elt (tE K de)
 nd:(caps.map (·.2)).Nodup
 fs:∀x,foldedSetIterable iter X.env x=pure x
section
variable {r:Rc} {Γ:Gm} {X:Cx} {K:Fr} {x y:Str} {i:Nat} {e a b c tg:Expr} {es:List Expr} {pos:Pos} {d:DE}
theorem Uy{own:List Str}{caps:List (Str×Nat)}{scope:Scope}(h:OkX K Γ X)(hn:Ka (inner Γ own caps scope).N=true){s3:Shared}{H3:Hp}{ex':List Addr}:OkX K (inner Γ own caps scope) (X.comp (L2.cN own caps) scope s3 H3 ex') where
 n:=rfl
 sc:=by
  show relabel scope X.env=dB scope Γ.sc;rw[<-h.sc];rfl
 nd:=G1 hn
 calm:=h.calm
 k:=h.k
 room:=h.room
 fn:=fun z=>by cases z
 gs:=h.gs
 ms:=h.ms
 cl:=h.cl
 fl:=h.fl
theorem f_{scope:Scope}(h:OkX K Γ X)(q:FK Γ scope=true):CScope X scope:=by
 obtain⟨q,q4⟩:=jb q;obtain⟨q,q3⟩:=jb q;obtain⟨q1,q2⟩:=jb q;refine⟨?_,q2,q3,by rw[h.sc];exact q4⟩;split at q1
 ·assumption
 ·cases q1
theorem wW{scope:Scope}(h:OkX K Γ X):∀{caps:List (Str×Nat)},caps.all (dD Γ scope)=true->Caps X scope caps
 | [],_=>.nil
 | (y,j)::r,q=>by
  rw[List.all_cons]at q;obtain⟨q1,q2⟩:=jb q;obtain⟨q1,q5⟩:=jb q1;obtain⟨q3,q4⟩:=jb q1;refine .cons ?_ ?_ ?_ (wW h q2)
  ·rw[h.n];dsimp only at q3;split at q3
   ·rename_i z hz;rw[hz,eq_of_beq q3]
   ·cases q3
  ·show X.env.scope.names.lookup y=_ \/ X.env.scope.names.lookup y=_;rw[h.sc];split at q4
   ·exact .inl (by assumption)
   ·exact .inr (by assumption)
   ·cases q4
  ·split at q5
   ·assumption
   ·cases q5
variable (R:RcOk r) (h:OkX K Γ X)
include R h
theorem Da{elt iter:Expr}{ifs:List Expr}{scope:Scope}{p:Pos}{d:DO}(q:dF r Γ elt tg iter ifs scope p=some d):
  ∃own caps di g dc de,d=yH own.length (caps.map (·.2)) di g dc de/\LcP X K elt tg iter ifs scope own caps di g dc de:=by
 unfold dF at q;dsimp only at q;obtain⟨z,q⟩:=ja q;obtain⟨z,z5⟩:=jb z;obtain⟨z,z4⟩:=jb z;obtain⟨z,z3⟩:=jb z;obtain⟨z1,z2⟩:=jb z;obtain⟨di,q1,q⟩:=j0 q;obtain⟨g,q2,q⟩:=j0 q;obtain⟨dc,q3,q⟩:=j0 q;obtain⟨de,q4,q⟩:=j0 q;refine⟨_,_,di,g,dc,de,(vFa q).symm,f_ h z1,wW h z2,qf R h q1,fun _ _ _=>R.g (Uy h z3) q2,fun _ _ _=>?_,fun _ _ _=>J4 R (Uy h z3) q4,wV z4,g_ z5⟩;split at q3
 ·cases q3;exact HX
 ·exact HY (R.t (Uy h z3) q3)
 ·cases q3
omit R in
theorem bD{b:Bool}{l:DA}{f:List D->Option D}{np:Pos}(q:Xd x b=some f)(g1:Gl X x)(g2:X.mg x=none)(ha:PA X (e::es) (YC K l))(he:starEach (e::es) X.env=(false,eval e X.env)::starEach es X.env)(hpl:(backTo pos (starEach es X.env)).any (·.1)=false):
  PE X (.Call (.Name x np) (e::es) [] pos) (tE K (jd f l)):=by
 have:=h.k;subst this;unfold Xd at q;split at q
 ·rename_i ex;subst ex;cases q;split
  ·exact jt (Yq kC g1 g2 PySem.boot_len ha (by decide) (by decide) he hpl) (YE Cy)
  ·exact jt (Yq kz g1 g2 PySem.boot_len ha (by decide) (by decide) he hpl) (YE EV)
 split at q
 ·rename_i ex;subst ex;cases q;exact jt (zt GN g1 g2 PyProof.Rows.boot_tuple ha (by decide) (by decide) he hpl) (YE AL)
 split at q
 ·rename_i ex;subst ex;cases q;exact jt (Yq (xt h.calm) g1 g2 PyProof.Rows.boot_all ha (by decide) (by decide) he hpl) (YE EX)
 split at q
 ·rename_i ex;subst ex;cases q;exact jt (zt kq g1 g2 (by decide +kernel) ha (by decide) (by decide) he hpl) (YE fG)
 split at q
 ·rename_i ex;subst ex;cases q;split
  ·exact jt (zt qJ g1 g2 (by decide +kernel) ha (by decide) (by decide) he hpl) (YE CG)
  ·exact jt (zt k_ g1 g2 (by decide +kernel) ha (by decide) (by decide) he hpl) (YE Cw)
 split at q
 ·rename_i ex;subst ex;cases q;exact jt (Yq (qI h.calm) g1 g2 PyProof.Rows.boot_max ha (by decide) (by decide) he hpl) (YE EW)
 split at q
 ·rename_i ex;subst ex;cases q;exact jt (Yq (Q8 h.calm) g1 g2 (by decide +kernel) ha (by decide) (by decide) he hpl) (YE Cr)
 ·cases q
omit R in
theorem bE{l:DA}{b:Bool}{f:List D->Option OD}{np:Pos}(q:Xe x b=some f)(g1:Gl X x)(g2:X.mg x=none)(ha:PA X (e::es) (YC K l))(he:starEach (e::es) X.env=(false,eval e X.env)::starEach es X.env)(hpl:(backTo pos (starEach es X.env)).any (·.1)=false):
  PE X (.Call (.Name x np) (e::es) [] pos) (tF K (yz f l)):=by
 have:=h.k;subst this;unfold Xe at q;split at q
 ·rename_i ex;subst ex;cases q;exact jt (zt kD g1 g2 PyProof.Rows.boot_list ha (by decide) (by decide) he hpl) (AJ cx)
 ·cases q
omit R h in
theorem bF{t:Str}{T:String}(q:Xf t=some T):bootBuiltins t=some (.type T)/\t≠ "__name__" /\(t==("__debug__" : Str))=false:=by
 unfold Xf at q
 repeat (split at q;· rename_i ex;subst ex;cases q;exact⟨by first | exact PyProof.Rows.boot_list | exact PyProof.Rows.boot_tuple | exact PyProof.Rows.boot_bool | exact PyProof.Rows.boot_str | exact PyProof.Rows.boot_int,by decide,by decide⟩)
 cases q
theorem bG{n:Dn}{np:Pos}(g1:Gl X "isinstance")(g2:X.mg "isinstance" = none)(q:Xi r Γ es=some n):Vl X K (.Call (.Name "isinstance" np) es [] pos) n:=by
 unfold Xi at q;split at q
 ·split at q
  ·obtain⟨z,q⟩:=ja q;obtain⟨z3,z4⟩:=jb z;obtain⟨T,q1,q⟩:=j0 q;obtain⟨d,q2,rfl⟩:=j5 q;obtain⟨b1,b2,b3⟩:=bF q1;obtain⟨k1,k2⟩:=Zq h z4;exact fj (Yq xw g1 g2 PyProof.Rows.boot_isinstance (jx (jm R h q2) (jx (ud (v:=.ty T) k1 k2 b1 rfl b2 b3) jU) (jf z3)) (by decide) (by decide) (jf z3)) h.k
  ·split at q
   ·obtain⟨z,q⟩:=ja q;obtain⟨z,z7⟩:=jb z;obtain⟨z,z6⟩:=jb z;obtain⟨z,z5⟩:=jb z;obtain⟨z3,z4⟩:=jb z;obtain⟨d,q2,rfl⟩:=j5 q;have e1:=vLa z6;have e2:=vLa z7;subst e1 e2;obtain⟨k1,k2⟩:=Zq h z4;obtain⟨k3,k4⟩:=Zq h z5;exact Ce (AF g1 g2 k1 k2 k3 k4 (jm R h q2) (jf z3)) h.k
   ·cases q
  ·cases q
 ·cases q
theorem Xk{n:Dn}{np:Pos}(q0:aQ r Γ x es pos=some n):Vl X K (.Call (.Name x np) es [] pos) n:=by
 obtain⟨z,q⟩:=ja q0;clear q0;obtain⟨z1,z2⟩:=jb z;obtain⟨g1,g3⟩:=YM h z1;cases es with
 | nil=>cases z2
 | cons e es=>
 split at q
 ·rename_i hl;obtain⟨l,q1,rfl⟩:=j5 q;obtain⟨a1,a2,a3,_⟩:=Z4 R h q1;obtain⟨G,hr⟩:=h.gs _ _ hl;exact cM G hr a1 a2 g1 g3 (jf (a3 _ wNa)) (Yr fun z hz=>a3 z (wMa _ hz))
 ·rename_i hl;obtain⟨l,q1,rfl⟩:=j5 q;obtain⟨a1,a2,a3,_⟩:=Z4 R h q1;obtain⟨G,hr⟩:=h.gs _ _ hl;exact cO G hr a1 a2 g1 g3 (jf (a3 _ wNa)) (Yr fun z hz=>a3 z (wMa _ hz))
 ·rename_i hl;obtain⟨l,q1,rfl⟩:=j5 q;obtain⟨a1,a2,a3,_⟩:=Z4 R h q1;obtain⟨G,hF,hr⟩:=h.gs _ _ hl;exact cP G hF hr a1 a2 g1 g3 (jf (a3 _ wNa)) (Yr fun z hz=>a3 z (wMa _ hz))
 ·rename_i hl;have g2:X.mg x=none:=h.gs _ _ hl;split at q
  ·rename_i ex;subst ex;exact bG R h g1 g2 q
  ·obtain⟨l,q1,q⟩:=j0 q;obtain⟨a1,a2,a3,_⟩:=Z4 R h q1;have s1:=jf (es:=es) (env:=X.env) (a3 _ wNa);have s2:=Yr (pos:=pos) (env:=X.env) fun z hz=>a3 z (wMa _ hz);split at q
   ·rename_i hb;cases q;exact bD h hb g1 g2 a1 s1 s2
   ·obtain⟨f,q2,rfl⟩:=j5 q;exact bE h q2 g1 g2 a1 s1 s2
 ·cases q
omit R h in
theorem Zs:∀{l:DA} {es:List Expr},l.map (·.1)=(es.map fun _=>true)->(l.map (·.1)).all id=true:=fun {l es} q=>by
 rw[q];simp
omit R h in
theorem YZ{env:Env}{m:Str}{ap p cp:Pos}(hl:(ap.endLine==cp.line)=true):eval (.Call (.Attribute (.Name x p) m ap) [] [] cp) env=(do
   let ov<-eval (.Name x p) env
   standAt ap.atName
   let (f,first)<-holding [ov] (getMethod ov m (do return (<-importBound (.Name x p) env).getD true))
   callWith cp f first (backTo cp (starEach [] env)) (backToKw cp (keywordEach [] env))):=by
 have e:methodCallPos true (.Name x p) env ap cp=pure cp:=by unfold methodCallPos;rw[hl];rfl
 have f:methodCallForm 0 (backTo cp (starEach [] env)) (backToKw cp (keywordEach [] env))=true:=rfl;show(do
  let ov<-eval (.Name x p) env
  standAt ap.atName
  methodCall (.Name x p) m ap cp env ov 0 (backTo cp (starEach [] env)) (backToKw cp (keywordEach [] env)))=_
 unfold methodCall;rw[f,e];rfl
omit R h in
theorem Db{c:Const}{k:Nat}{n:Dn}(q:dG c=some n):Vl X K (.Constant c k pos) n:=by
 unfold dG at q;split at q <;> cases q
 ·exact Eu
 ·exact Hz
 ·exact a9
 ·exact Ev
theorem Df{op:UnaryOp}{n:Dn}(q:dH r Γ op a=some n):Vl X K (.UnaryOp op a pos) n:=by
 unfold dH at q;split at q
 ·obtain⟨d,q1,rfl⟩:=j5 q;exact EN (jm R h q1)
 ·obtain⟨d,q1,rfl⟩:=j5 q;exact EM (jm R h q1)
 ·cases q
theorem Dg{op:Operator}{n:Dn}(q:FL r Γ a op b pos=some n):Vl X K (.BinOp a op b pos) n:=by
 obtain⟨d,q1,q⟩:=j0 q;obtain⟨d',q2,q⟩:=j0 q;split at q
 ·split at q
  ·cases q;exact HB BV EF (jm R h q1) (jm R h q2)
  ·cases q
 ·obtain⟨f,q3,rfl⟩:=j5 q;obtain⟨t,o1,o2⟩:=D7 h q3;exact HA o1 o2 (jm R h q1) (jm R h q2)
theorem Dh{os:List CmpOp}{bs:List Expr}{d:DE}(q:FM r Γ a os bs pos=some d):PE X (.Compare a os bs pos) (tE K d):=by
 rcases os with _ | ⟨o,_ | ⟨o',_ | ⟨o'',_ | ⟨_,_⟩⟩⟩⟩ <;> rcases bs with _ | ⟨b,_ | ⟨c,_ | ⟨e,_ | ⟨_,_⟩⟩⟩⟩ <;> try (cases q;done)
 ·obtain⟨z,q⟩:=ja q;obtain⟨d,q1,q⟩:=j0 q;obtain⟨d',q2,q⟩:=j0 q;obtain⟨f,q3,rfl⟩:=j5 q;obtain⟨t,o1,o2⟩:=vJ h q3;exact Ew o1 o2 (jm R h q1) (jm R h q2) (Yc z)
 ·obtain⟨z,q⟩:=ja q;obtain⟨d,q1,q⟩:=j0 q;obtain⟨d',q2,q⟩:=j0 q;obtain⟨d'',q3,q⟩:=j0 q;obtain⟨f,p1,q⟩:=j0 q;obtain⟨f',p2,rfl⟩:=j5 q;obtain⟨t,o1,o2⟩:=vJ h p1;obtain⟨t',o1',o2'⟩:=vJ h p2;exact AH o1 o1' o2 o2' (jm R h q1) (jm R h q2) (jm R h q3) (Yc z)
 ·obtain⟨z,q⟩:=ja q;obtain⟨d,q1,q⟩:=j0 q;obtain⟨d',q2,q⟩:=j0 q;obtain⟨d'',q3,q⟩:=j0 q;obtain⟨d3,q4,q⟩:=j0 q;obtain⟨f,p1,q⟩:=j0 q;obtain⟨f',p2,q⟩:=j0 q;obtain⟨f'',p3,rfl⟩:=j5 q;obtain⟨t,o1,o2⟩:=Zr h p1;obtain⟨t',o1',o2'⟩:=Zr h p2;obtain⟨t'',o1'',o2''⟩:=Zr h p3;exact xA o1 o1' o1'' o2 o2' o2'' (jm R h q1) (jm R h q2) (jm R h q3) (jm R h q4) (Yc z)
theorem Di{n:Dn}(q:dI r Γ a b pos=some n):Vl X K (.Subscript a b pos) n:=by
 have hK:=h.k;unfold dI at q;split at q
 ·split at q
  ·obtain⟨d,q1,q⟩:=j0 q;obtain⟨u,q2,q⟩:=j0 q;obtain⟨v,q3,rfl⟩:=j5 q;split
   ·exact EU (jm R h q1) (Za R h q2) (Za R h q3) hK
   ·exact CB (jm R h q1) (Za R h q2) (Za R h q3) hK
   ·exact ET (jm R h q1) (Za R h q2) (Za R h q3) hK
  ·cases q
 ·obtain⟨z,q⟩:=ja q;obtain⟨d,q1,q⟩:=j0 q;obtain⟨d',q2,rfl⟩:=j5 q;subst hK;split
  ·exact ce qN fJ (jm R h q1) (jm R h q2) (V8 z)
  ·exact ce BP HH (jm R h q1) (jm R h q2) (V8 z)
theorem Qm{elt:Expr}{gs:List Comprehension}{scope:Scope}{d:DO}(q:aR r Γ elt gs scope pos=some d):
  ∃tg iter ifs own caps di g dc de,gs=[⟨tg,iter,ifs,0⟩]/\d=yH own.length (caps.map (·.2)) di g dc de/\LcP X K elt tg iter ifs scope own caps di g dc de:=by
 unfold aR at q;split at q
 ·obtain⟨z,q⟩:=ja q;have z0:=vLa z;subst z0;obtain⟨own,caps,di,g,dc,de,rfl,L⟩:=Da R h q;exact⟨_,_,_,own,caps,di,g,dc,de,rfl,rfl,L⟩
 ·cases q
theorem Dj{b:Expr}{ap:Pos}{n:Dn}(q:dJ r Γ a b=some n)(hl:(ap.endLine==pos.line)=true)(hs:∀r:List Expr,starEach (b::r) X.env=(false,eval b X.env)::starEach r X.env):Vl X K (.Call (.Attribute a "index" ap) [b] [] pos) n:=by
 unfold dJ at q;split at q
 ·obtain⟨z3,q9⟩:=ja q;clear q;split at q9
  ·rename_i hl;obtain⟨z4,q8⟩:=ja q9;obtain⟨d,q1,rfl⟩:=j5 q8;obtain⟨g1,g2⟩:=YM h z3;obtain⟨gt,_⟩:=h.gs _ _ hl;exact fA (vLa z4) gt g1 g2 (jm R h q1) (YV rfl) (by assumption) hs h.k
  ·cases q9
 ·cases q
theorem Dk{b:Expr}{m:Str}{ap:Pos}{n:Dn}{d d':DE}(ha:PE X a (tR K d))(hb:PE X b (tR K d'))(q:dM m d d'=some n)(hbase:∀m,attributeBase a m X.env (eval a X.env)=eval a X.env)(hl:(ap.endLine==pos.line)=true)(hs:∀r:List Expr,starEach (b::r) X.env=(false,eval b X.env)::starEach r X.env):Vl X K (.Call (.Attribute a m ap) [b] [] pos) n:=by
 unfold dM at q;split at q
 ·rename_i em;subst em;cases q;exact Cs ha hb (hbase _) hl hs h.k
 split at q
 ·rename_i em;subst em;cases q;exact b8 ha hb (hbase _) hl hs h.k
 split at q
 ·rename_i em;subst em;cases q;exact Ct ha hb (hbase _) hl hs h.k
 ·cases q
theorem Dl{m:Str}{ap:Pos}{n:Dn}(q:dN r Γ a m ap es pos=some n):Vl X K (.Call (.Attribute a m ap) es [] pos) n:=by
 unfold dN at q;split at q
 ·obtain⟨z,q⟩:=ja q;obtain⟨d,q1,q⟩:=j0 q;split at q
  ·rename_i hl;cases q;obtain⟨M,hr⟩:=h.ms _ _ hl;exact AN (jm R h q1) h.cl M hr (YZ z) h.k
  ·rename_i hl;cases q;obtain⟨M,hr⟩:=h.ms _ _ hl;exact AO (jm R h q1) h.cl M hr (YZ z) h.k
  ·cases q
 ·obtain⟨z,q9⟩:=ja q;clear q;obtain⟨z1,z2⟩:=jb z;by_cases em:m = "index"
  ·rw[if_pos em]at q9;subst em;split at q9
   ·obtain⟨z3,q8⟩:=ja q9;obtain⟨d,q1,q7⟩:=j0 q8;obtain⟨d',q2,rfl⟩:=j5 q7;exact fO (jm R h q1) (jm R h q2) (YV z3) z2 (fun _=>jf z1) h.k
   ·exact Dj R h q9 z2 fun _=>jf z1
  ·rw[if_neg em]at q9;obtain⟨z3,q8⟩:=ja q9;obtain⟨d,q1,q7⟩:=j0 q8;obtain⟨d',q2,q6⟩:=j0 q7;exact Dk R h (jm R h q1) (jm R h q2) q6 (fun _=>YV z3) z2 fun _=>jf z1
 ·cases q
theorem Dm{d:DE}(q:dQ r Γ e=some d):PE X e (tE K d):=by
 unfold dQ at q;split at q
 ·obtain⟨z,q⟩:=ja q;obtain⟨z1,z2⟩:=jb z;obtain⟨d',q1,rfl⟩:=j5 q;have e1:=vLa z1;have e2:=Option.isNone_iff_eq_none.mp z2;subst e1 e2;exact ig (J4 R h q1)
 ·exact J4 R h q
theorem Qo:∀{es:List Expr} {ds:List DE},dR r Γ es=some ds->PFs X K es ds
 | [],_,q=>by cases q;exact .nil
 | e::es,ds,q=>by
  obtain⟨d,q1,q⟩:=j0 q;obtain⟨ds',q2,rfl⟩:=j5 q;exact .cons (Dm R h q1) (Qo q2)
theorem F2{n:Dn}(q:cN r Γ e=some n):Vl X K e n:=by
 have hK:=h.k;unfold cN at q;cases e with
 | Name x p=>
  obtain⟨z,q⟩:=ja q;obtain⟨g1,g2⟩:=YM h z;split at q
  ·rename_i hl;cases q;exact cb (I0 (h.gs _ _ hl) g1 g2)
  ·rename_i hl;cases q;obtain⟨gt,_⟩:=h.gs _ _ hl;exact ij gt g1 g2
  ·cases q
 | Constant c k p=>
  exact Db q
 | UnaryOp op a p=>
  exact Df R h q
 | BinOp a op b p=>
  exact Dg R h q
 | Compare a os bs p=>
  obtain⟨d,q1,rfl⟩:=j5 q;exact Dh R h q1
 | BoolOp op vs p=>
  dsimp only at q;cases op
  ·obtain⟨d,q1,rfl⟩:=j5 q;exact Qj R h q1
  ·obtain⟨d,q1,rfl⟩:=j5 q;exact aU R h q1
 | IfExp c a b p=>
  obtain⟨t,q1,q⟩:=j0 q;obtain⟨d,q2,q⟩:=j0 q;obtain⟨d',q3,rfl⟩:=j5 q;exact EO (R.t h q1) (J4 R h q2) (J4 R h q3)
 | Tuple es k p=>
  obtain⟨z,q⟩:=ja q;obtain⟨l,q1,rfl⟩:=j5 q;obtain⟨a1,a2,_,a4⟩:=Z4 R h q1;exact ER a1 (Zs a2) (by rw[a4];rw[Nat.ble_eq]at z⊢;exact wSa z (by decide))
 | List es p=>
  obtain⟨z,q⟩:=ja q;obtain⟨l,q1,rfl⟩:=j5 q;obtain⟨a1,a2,_,a4⟩:=Z4 R h q1;exact ES a1 (Zs a2) (by rw[a4];rw[Nat.ble_eq]at z⊢;exact wSa z (by decide))
 | JoinedStr vs p=>
  obtain⟨z,q⟩:=ja q;obtain⟨ds,q1,rfl⟩:=j5 q;rcases vs with _ | ⟨v1,_ | ⟨v2,vs⟩⟩
  ·cases z
  ·cases z
  ·exact Cm (Qo R h q1)
 | Attribute a f p=>
  obtain⟨z,q⟩:=ja q;obtain⟨z1,z2⟩:=jb z;obtain⟨d,q1,rfl⟩:=j5 q;exact EY (jm R h q1) h.cl (h.fl _ z2) (YV z1) hK
 | Subscript a b p=>
  exact Di R h q
 | ListComp elt gs sc p=>
  obtain⟨d,q1,rfl⟩:=j5 q;obtain⟨_,_,_,own,caps,di,g,dc,de,rfl,rfl,L⟩:=Qm R h q1;exact HZ own caps L.S L.cp h.calm L.i L.g L.t L.e L.nd L.fs
 | Call f es ks p=>
  dsimp only at q;unfold FN at q;split at q
  ·split at q
   ·exact Xk R h q
   ·exact Dl R h q
   ·cases q
  ·cases q
 | _=>
  cases q
omit R h in
theorem aW{env:Env}(z:dS e=true):∀whole,isTrue e env whole=(do let v<-whole;standAt e.pos;holding [v] (truthy v)):=by
 cases e <;> first | (intro _;rfl) | cases z | skip
 rename_i op _ _;cases op <;> first | (intro _;rfl) | cases z
theorem Dp{os:List CmpOp}{bs:List Expr}{t:DT}(q:FO r Γ a os bs pos=some t):PT X (.Compare a os bs pos) (tT K t):=by
 rcases os with _ | ⟨o,_ | ⟨o',_ | ⟨o'',_ | ⟨_,_⟩⟩⟩⟩ <;> rcases bs with _ | ⟨b,_ | ⟨c,_ | ⟨e,_ | ⟨_,_⟩⟩⟩⟩ <;> try (cases q;done)
 ·obtain⟨z,q⟩:=ja q;obtain⟨d,q1,q⟩:=j0 q;obtain⟨d',q2,q⟩:=j0 q;obtain⟨f,q3,rfl⟩:=j5 q;obtain⟨t,o1,o2⟩:=vJ h q3;exact EH o1 o2 (jm R h q1) (jm R h q2) (Yc z)
 ·obtain⟨z,q⟩:=ja q;obtain⟨d,q1,q⟩:=j0 q;obtain⟨d',q2,q⟩:=j0 q;obtain⟨d'',q3,q⟩:=j0 q;obtain⟨f,p1,q⟩:=j0 q;obtain⟨f',p2,rfl⟩:=j5 q;obtain⟨t,o1,o2⟩:=vJ h p1;obtain⟨t',o1',o2'⟩:=vJ h p2;exact AI o1 o1' o2 o2' (jm R h q1) (jm R h q2) (jm R h q3) (Yc z)
 ·obtain⟨z,q⟩:=ja q;obtain⟨d,q1,q⟩:=j0 q;obtain⟨d',q2,q⟩:=j0 q;obtain⟨d'',q3,q⟩:=j0 q;obtain⟨d3,q4,q⟩:=j0 q;obtain⟨f,p1,q⟩:=j0 q;obtain⟨f',p2,q⟩:=j0 q;obtain⟨f'',p3,rfl⟩:=j5 q;obtain⟨t,o1,o2⟩:=Zr h p1;obtain⟨t',o1',o2'⟩:=Zr h p2;obtain⟨t'',o1'',o2''⟩:=Zr h p3;exact X0 o1 o1' o1'' o2 o2' o2'' (jm R h q1) (jm R h q2) (jm R h q3) (jm R h q4) (Yc z)
theorem F5{t:DT}(q:cT r Γ e=some t):PT X e (tT K t):=by
 unfold cT at q;split at q
 ·exact Dp R h q
 ·split at q
  ·obtain⟨t,q1,rfl⟩:=j5 q;exact EI (R.t h q1)
  ·obtain⟨z,q⟩:=ja q;obtain⟨d,q1,rfl⟩:=j5 q;exact ai (jm R h q1) h.k (aW z)
 ·split at q
  ·exact cw (Qk R h q)
  ·exact cw (aV R h q)
 ·obtain⟨z,q⟩:=ja q;obtain⟨d,q1,rfl⟩:=j5 q;exact ai (jm R h q1) h.k (aW z)
omit R h in
theorem Kj{env:Env}(z:Je e=true):(assignEach (e::es) env)=(false,assign e env)::assignEach es env:=by
 cases e <;> first | rfl | cases z
theorem Kk{k:Nat}:∀{es:List Expr} {gs:UU},Qg r Γ k es=some gs->Vg X es (wH K k gs)/\(assignEach es X.env).length=es.length/\(assignEach es X.env).findIdx? (·.1)=none
 | [],_,q=>by cases q;exact⟨fe,rfl,rfl⟩
 | e::es,gs,q=>by
  unfold Qg at q;obtain⟨z,q⟩:=ja q;obtain⟨g,q1,q⟩:=j0 q;obtain⟨gs',q2,rfl⟩:=j5 q;obtain⟨a1,a2,a3⟩:=Kk q2;refine⟨cL (R.g h q1) a1 (by rw[Kj z];rfl),by rw[Kj z];simp[a2],?_⟩;rw[Kj z,List.findIdx?_cons,a3];rfl
theorem Dq{k:Nat}{g:DG}(q:dU r Γ k e=some g):PG X e (tG K k g):=by
 unfold dU at q;cases e with
 | Name x p=>
  obtain⟨i,q1,q⟩:=j0 q;obtain⟨z,q⟩:=ja q;cases q;obtain⟨s1,s2,s3,s4⟩:=vI h q1;exact cK (Ak s1 s2 s3 s4) (Nat.blt_eq.mp z)
 | Tuple es k p=>
  obtain⟨gs,q1,rfl⟩:=j5 q;obtain⟨a1,a2,a3⟩:=Kk R h q1;exact ff _ h.calm a1 a2 a3 h.k
 | _=>
  cases q
end
theorem Yd:∀n:Nat,RcOk (rc n)
 | 0=>⟨(fun _ q=>by cases q),(fun _ q=>by cases q),(fun _ q=>by cases q)⟩
 | n+1=>⟨fun h q=>F2 (Yd n) h q,fun h q=>F5 (Yd n) h q,fun h q=>Dq (Yd n) h q⟩
section
variable {r:Rc} {Γ:Gm} {X:Cx} {K:Fr} {x y:Str} {i:Nat} {e a b c tg:Expr} {es:List Expr} {pos:Pos} {d:DE}
theorem aX{elt iter:Expr}{ifs:List Expr}{scope:Scope}{np p:Pos}{l:Nat}{aa:Int}(h:OkX K Γ X)(z:FP Γ scope x np p=true):swapsWith (.ListComp elt [⟨tg,iter,ifs,aa⟩] scope p) (some (.Name x np)) l X.env=pure true:=by
 obtain⟨z,z4⟩:=jb z;obtain⟨z,z3⟩:=jb z;obtain⟨z1,z2⟩:=jb z;have k1:Γ.sc.kind=.function:=by
  split at z1
  ·assumption
  ·cases z1
 have e1:X.env.blockKind=.function:=by
  unfold Env.blockKind;rw[h.sc,k1];rfl
 have e2:X.env.kindOf x=some .local:=by
  show X.env.scope.names.lookup x=_;rw[h.sc];exact Kg z2
 show(pure (X.env.blockKind==.function&&X.env.kindOf x==some .local&&np.line==p.line&&!(scope.names.any fun(n,k)=>n==x&&(k==.local||k==.cell))):Sem Bool)=pure true;rw[e1,e2,z3,z4];rfl
theorem Dr{o j:Expr}{env:Env}(z:K9 j=true):∀v,assign (.Subscript o j pos) env v=(do
   let ov<-holding [v] (eval o env)
   let iv<-holding [v,ov] (eval j env)
   standAt pos
   holding [v,ov,iv] (setItem ov iv v)
   release [v,ov,iv] []):=by
 cases j <;> first | (intro _;rfl) | cases z
theorem Kl{env:Env}{tg:Expr}{l:Nat}(h:VV e=true):swapsWithSole [tg] e l env=pure false:=by
 unfold swapsWithSole;exact yI h
theorem Ds{o j e:Expr}{env:Env}{p:Pos}:swappedStores [.Subscript o j p] e env=pure none:=by
 cases e <;> rfl
theorem Qp{es:List Expr}{n:Nat}{e:Expr}{env:Env}{p:Pos}(z:(!uk e)=true):swappedStores [.Tuple es n p] e env=pure none:=by
 cases e <;> first | rfl | cases z
variable (R:RcOk r) (h:OkX K Γ X)
include R h
theorem qg{d:DO}(q:cF r Γ e=some d):PE X e (tF K d):=by
 unfold cF at q;split at q
 ·rename_i hn;cases q;exact R.n h hn
 ·cases q
theorem Dt{np:Pos}{d:DS.DS}(q0:FQ r Γ x np e=some d):PS X (.Assign [.Name x np] e pos) (tS K d):=by
 obtain⟨i,s0,q0⟩:=j0 q0;obtain⟨s1,s2,s3,s4⟩:=vI h s0;split at q0
 ·obtain⟨d0,q1,q0⟩:=j0 q0;obtain⟨z2,q0⟩:=ja q0;cases q0;obtain⟨_,_,_,own,caps,di,g,dc,de,rfl,rfl,L⟩:=Qm R h q1;split
  ·exact AR own caps s1 s2 s3 L.S L.cp h.calm L.i L.g L.t L.e L.nd L.fs (aX h z2) s4
  ·exact AS own caps s1 s2 s3 L.S L.cp h.calm L.i L.g L.t L.e L.nd L.fs (aX h z2) s4
 ·obtain⟨z,q0⟩:=ja q0;split at q0
  ·obtain⟨d0,q1,rfl⟩:=j5 q0;exact az (Zc s1 s2 s3 (qg R h q1) (yI z) s4)
  ·obtain⟨d0,q1,rfl⟩:=j5 q0;exact ay (Zc s1 s2 s3 (J4 R h q1) (yI z) s4)
omit R h in
theorem Qq{es:List Expr}{e0 e1:Expr}(z:Kc es=some (e0,e1)):∃x px y py sp,e0=.Name x px/\e1=.Name y py/\es=[.Name x px,.Starred (.Name y py) sp]:=by
 unfold Kc at z;split at z
 ·cases z;exact⟨_,_,_,_,_,rfl,rfl,rfl⟩
 ·cases z
theorem Du{t:Expr}{d:DS.DS}(q0:dW r Γ t e=some d):PS X (.Assign [t] e pos) (tS K d):=by
 unfold dW at q0;cases t with
 | Name x p=>
  exact Dt R h q0
 | Attribute o f p=>
  obtain⟨i,s9,q9⟩:=j0 q0;clear q0;obtain⟨x,p,rfl,s0⟩:=JV s9;obtain⟨z,q0⟩:=ja q9;obtain⟨z1,z2⟩:=jb z;obtain⟨d0,q1,rfl⟩:=j5 q0;exact Cf (BI (Jo h s0) (J4 R h q1) (yI z1)) h.cl (h.fl _ z2) h.k
 | Subscript o j p=>
  obtain⟨i,s9,q9⟩:=j0 q0;clear q0;obtain⟨x,p,rfl,s0⟩:=JV s9;obtain⟨z,q0⟩:=ja q9;obtain⟨z1,z2⟩:=jb z;have hK:=h.k;subst hK
  ·obtain⟨dx,q1,q0⟩:=j0 q0;obtain⟨d0,q2,rfl⟩:=j5 q0;exact cZ (kn (J4 R h q2) (Bq (Jo h s0) (jm R h q1) xh (Dr z2)) (Kl z1) Ds)
 | Tuple es k p=>
  obtain⟨z,q0⟩:=ja q0;obtain⟨z1,z2⟩:=jb z;split at q0
  ·rename_i e0 e1 hs;obtain⟨d0,q1,q0⟩:=j0 q0;obtain⟨g,q2,rfl⟩:=j5 q0;obtain⟨x,px,y,py,sp,rfl,rfl,rfl⟩:=Qq hs;have hK:=h.k;exact Cu (kn (J4 R h q1) (b9 h.calm (Kk R h q2).1 rfl rfl rfl) (Kl z1) (Qp z2))
  ·obtain⟨d0,q1,q0⟩:=j0 q0;obtain⟨g,q2,rfl⟩:=j5 q0;exact fg (kn (J4 R h q1) (R.g h q2) (Kl z1) (Qp z2))
 | _=>
  cases q0
omit R h in
theorem Xl{e o j:Expr}(q:qe e=some (o,j)):∃ap p,e=.Call (.Attribute o "pop" ap) [j] [] p/\(ap.endLine==p.line)=true/\Je j=true:=by
 unfold qe at q;split at q
 ·split at q
  ·rename_i hh;cases q;obtain⟨rfl,h2,h3⟩:=hh;exact⟨_,_,rfl,h2,h3⟩
  ·cases q
 ·cases q
theorem Qr{o j:Expr}{ap p:Pos}{to:TE}{dj:DE}(ho:PE X o to)(hj:PE X j (tR K dj))(hbase:attributeBase o "pop" X.env (eval o X.env)=eval o X.env)(hl:(ap.endLine==p.line)=true)(hs:Je j=true):PE X (.Call (.Attribute o "pop" ap) [j] [] p) (uK K "list" UH to (Jk (tR K dj) Y0)):=by
 have hK:=h.k;subst hK;exact ZF PySem.F.plainAttrs_list PySem.F.slot_list_pop PySem.F.type_list_pop xi ho (jx hj jU (jf hs)) hbase (by rw[jf hs];rfl) hl (jf hs) rfl
theorem Dv{f:Expr}{es:List Expr}{ks:List Keyword}{p:Pos}{d:DS.DS}(q0:FU r Γ f es ks p=some d):PS X (.Expr (.Call f es ks p) pos) (tS K d):=by
 cases f <;> try (cases q0;done)
 rcases es with _ | ⟨e,_ | ⟨e2,_ | ⟨_,_⟩⟩⟩ <;> rcases ks with _ | ⟨_,_⟩ <;> try (cases q0;done)
 ·obtain⟨i,s9,q9⟩:=j0 (show(FR r Γ _ _ _ _)=some d from q0);clear q0;obtain⟨x,np,rfl,s0⟩:=JV s9;obtain⟨z,q0⟩:=ja q9;obtain⟨z2,z3⟩:=jb z;have hK:=h.k;split at q0
  ·rename_i e1;obtain⟨d0,q1,rfl⟩:=j5 q0;subst e1 hK;exact xH (YU (BZ (Jo h s0) (jx (J4 R h q1) jU (jf z2)) rfl (by rw[jf z2];rfl) z3 (jf z2)))
  ·split at q0
   ·rename_i e1;obtain⟨d0,q1,rfl⟩:=j5 q0;subst e1;exact fN (YU (Qr R h (Jo h s0) (jm R h q1) rfl z3 z2) (yI rfl))
   ·cases q0
 ·obtain⟨i,s9,q9⟩:=j0 (show(FT r Γ _ _ _ _ _)=some d from q0);clear q0;obtain⟨x,np,rfl,s0⟩:=JV s9;obtain⟨z,q0⟩:=ja q9;obtain⟨z,z4⟩:=jb z;obtain⟨z,z3⟩:=jb z;obtain⟨z1,z2⟩:=jb z;obtain⟨d0,q1,q8⟩:=j0 q0;clear q0 q9;have e1:=vLa z1;have hK:=h.k;subst e1 hK;split at q8
  ·rename_i o' j' hp;obtain⟨ap',p',rfl,p1,p2⟩:=Xl hp;obtain⟨i',n9,q7⟩:=j0 q8;clear q8;obtain⟨z5,q6⟩:=ja q7;obtain⟨dj,q2,rfl⟩:=j5 q6;have e2:=vLa z5;subst e2;obtain⟨x',np',rfl,s0'⟩:=JV n9;exact x_ (YU (aM (Jo h s0) (jx (jm R h q1) (jx (Qr R h (Jo h s0') (jm R h q2) rfl p1 p2) jU (jf z3)) (by rw[jf z2])) (by rw[jf z2,jf z3];rfl) z4 (jf z2) (by rw[jf z3];rfl)))
  ·obtain⟨d1,q2,rfl⟩:=j5 q8;exact xY (YU (aM (Jo h s0) (jx (jm R h q1) (jx (J4 R h q2) jU (jf z3)) (by rw[jf z2])) (by rw[jf z2,jf z3];rfl) z4 (jf z2) (by rw[jf z3];rfl)))
theorem aY{q:Gm->List Stmt->Option DS.DS}{s:Stmt}{d:DS.DS}(Q:∀l d,q Γ l=some d->jr X l (tS K d))(hp:PassesOwn (model X.prog X.w) X.A X.env X.xe)(q0:cS r q Γ s=some d):PS X s (tS K d):=by
 unfold cS at q0;cases s with
 | Assign ts e p=>
  dsimp only at q0;split at q0
  ·exact Du R h q0
  ·cases q0
 | Expr e p=>
  dsimp only at q0;unfold FV at q0;split at q0
  ·split at q0
   ·cases q0;exact Dv R h (by assumption)
   ·obtain⟨d0,q1,rfl⟩:=j5 q0;exact Q0 (YU (jm R h q1) (yI rfl))
  ·obtain⟨z,q0⟩:=ja q0;obtain⟨d0,q1,rfl⟩:=j5 q0;exact Q0 (YU (jm R h q1) (yI z))
 | Return o p=>
  dsimp only at q0;split at q0
  ·cases q0;exact C2
  ·split at q0
   ·rename_i hn;obtain⟨x,p,rfl,hs⟩:=JV hn;split at q0
    ·cases q0;exact C0 (Jo h hs)
    ·cases q0;exact aA (a8 _ (Jo h hs))
   ·split at q0
    ·obtain⟨d0,q1,rfl⟩:=j5 q0;exact c_ (qg R h q1)
    ·obtain⟨d0,q1,rfl⟩:=j5 q0;exact aA (J4 R h q1)
 | If c a b p=>
  obtain⟨t,q1,q0⟩:=j0 q0;obtain⟨u,q2,q0⟩:=j0 q0;obtain⟨v,q3,rfl⟩:=j5 q0;exact cR (R.t h q1) (Q _ _ q2) (Q _ _ q3)
 | While c b o p=>
  dsimp only at q0;split at q0
  ·obtain⟨t,q1,q0⟩:=j0 q0;obtain⟨u,q2,rfl⟩:=j5 q0;exact AQ _ hp (R.t h q1) (Q _ _ q2)
  ·cases q0
 | For tg it b o p=>
  dsimp only at q0;split at q0
  ·obtain⟨z,q0⟩:=ja q0;obtain⟨di,q1,q0⟩:=j0 q0;obtain⟨g,q2,q0⟩:=j0 q0;obtain⟨u,q3,rfl⟩:=j5 q0;exact fh hp h.calm (qf R h q1) (R.g h q2) (Q _ _ q3) (g_ z)
  ·cases q0
 | _=>
  cases q0
theorem Qs:∀{es:List Expr} {fs:List DO},dY r Γ es=some fs->PFl X K es fs
 | [],_,q=>by cases q;exact .nil
 | e::es,fs,q=>by
  obtain⟨z,q⟩:=ja q;obtain⟨f,q1,q⟩:=j0 q;obtain⟨fs',q2,rfl⟩:=j5 q;exact .cons (qg R h q1) (jf z) (Qs q2)
omit R h in
theorem Qt{l:List Expr}{x:Str}(q:aS l=some x):∃p,l=[.Name x p]:=by
 unfold aS at q;split at q
 ·cases q;exact⟨_,rfl⟩
 ·cases q
theorem Dw{e:Expr}{p:Pos}{d:DS.DS}(q0:d_ r Γ e=some d):PS X (.Expr e p) (tS K d):=by
 have hK:=h.k;subst hK;unfold d_ at q0;split at q0
 ·obtain⟨i,e1,q⟩:=j0 q0;obtain⟨x',p',rfl,e2⟩:=JV e1;obtain⟨z,q⟩:=ja q;obtain⟨z,z5⟩:=jb z;obtain⟨z,z4⟩:=jb z;obtain⟨z1,z3⟩:=jb z;obtain⟨dj,q1,q⟩:=j0 q;obtain⟨de,q2,rfl⟩:=j5 q;have em:=vLa z1;subst em;exact Ci (YU (BZ (XS wC (Jo h e2) (jm R h q1) (V8 z3)) (jx (J4 R h q2) jU (jf z4)) rfl (by rw[jf z4];rfl) z5 (jf z4)))
 ·cases q0
theorem Dx{e:Expr}{x:Str}{xp p:Pos}{i:Nat}{d:DS.DS}(s0:uQ Γ x=some i)(q0:dZ r Γ i e=some d):PS X (.Assign [.Name x xp] e p) (tS K d):=by
 have hK:=h.k;subst hK;obtain⟨s1,s2,s3,s4⟩:=vI h s0;unfold dZ at q0;split at q0
 ·obtain⟨fs,q1,rfl⟩:=j5 q0;exact Cj (Zc s1 s2 s3 (ku (Qs R h q1).pa) (yI rfl) s4)
 ·unfold FW at q0;split at q0
  ·rename_i hl;obtain⟨j,n1,q0⟩:=j0 q0;obtain⟨z,q0⟩:=ja q0;obtain⟨z,z4⟩:=jb z;obtain⟨z,z3⟩:=jb z;obtain⟨z1,z2⟩:=jb z;obtain⟨a,qa,q0⟩:=j0 q0;obtain⟨b,qb,rfl⟩:=j5 q0;obtain⟨x',p',rfl,e2⟩:=JV n1;obtain⟨G,hr⟩:=h.gs _ _ hl;obtain⟨g1,g3⟩:=YM h z1;exact AW (fun _ _ _ _ z=>z) (Zc s1 s2 s3 (AX G hr (J4 R h qa) (Jo h e2) (J4 R h qb) (fun _=>jf z2) (fun _=>jf z3) (fun _=>jf z4) g1 g3) (yI rfl) s4)
  ·cases q0
 ·cases q0
theorem Dy{q:Gm->List Stmt->Option DS.DS}{s:Stmt}{d:DS.DS}(Q:∀l d,q Γ l=some d->jr X l (tS K d))(q0:D0 r q Γ s=some d):PS X s (tS K d):=by
 unfold D0 at q0;split at q0
 ·obtain⟨x,e1,q1⟩:=j0 q0;obtain⟨i,s0,q2⟩:=j0 q1;obtain⟨p,rfl⟩:=Qt e1;exact Dx R h s0 q2
 ·exact Dw R h q0
 ·obtain⟨t,q1,q2⟩:=j0 q0;obtain⟨x,q3,q4⟩:=j0 q2;obtain⟨y,q5,rfl⟩:=j5 q4;exact cR (aH (R.t h q1)) (Q _ _ q3) (Q _ _ q5)
 ·cases q0
theorem kg{q:Gm->List Stmt->Option DS.DS}{s:Stmt}{d:DS.DS}(Q:∀l d,q Γ l=some d->jr X l (tS K d))(hp:PassesOwn (model X.prog X.w) X.A X.env X.xe)(q0:cX r q Γ s=some d):PS X s (tS K d):=by
 unfold cX at q0;split at q0
 ·exact Dy R h Q q0
 split at q0
 ·obtain⟨d0,q1,rfl⟩:=j5 q0;exact fk (aY R h Q hp q1)
 ·exact aY R h Q hp q0
omit R h in
theorem gd{l:Nat}{st:List Stmt}:∀{sh:List (Nat×Nat)} {d:DS.DS},jr X st (tS K d)->jr X st (tS K (wT l sh d))
 | [],_,h=>h
 | (m,i)::r,d,h=>by
  unfold wT;split
  ·exact xF i (gd h)
  ·exact gd h
omit R h in
theorem um{s:Stmt}{p:Str×Expr}(q:Ke s=some p):∃np sp,s=.Assign [.Name p.1 np] p.2 sp:=by
 cases s <;> try (cases q;done)
 obtain⟨x,q1,rfl⟩:=j5 q;obtain⟨np,rfl⟩:=Qt q1;exact⟨_,_,rfl⟩
omit R h in
theorem Dz{s:Stmt}{p:Expr×List Stmt}(q:D6 s=some p):∃sp,s=.If p.1 p.2 [] sp:=by
 cases s <;> try (cases q;done)
 unfold D6 at q;dsimp only at q;split at q
 ·rename_i hb;cases q;rw[List.isEmpty_iff.mp hb];exact⟨_,rfl⟩
 ·cases q
theorem DB{q:Gm->List Stmt->Option DS.DS}(Q:∀l d,q Γ l=some d->jr X l (tS K d)){s s2:Stmt}{rest:List Stmt}{d d':DS.DS}(q0:FX r q Γ s s2=some d)(hr:jr X rest (tS K d')):jr X (s::s2::rest) (tS K (j9 d d')):=by
 obtain⟨p,h1,q1⟩:=j0 q0;obtain⟨p2,h2,q2⟩:=j0 q1;obtain⟨i,s0,q3⟩:=j0 q2;obtain⟨z,q4⟩:=ja q3;obtain⟨de,a1,q5⟩:=j0 q4;obtain⟨dt,a2,q6⟩:=j0 q5;obtain⟨da,a3,rfl⟩:=j5 q6;obtain⟨np,sp,rfl⟩:=um h1;obtain⟨sp2,rfl⟩:=Dz h2;obtain⟨s1,s2,s3,s4⟩:=vI h s0;exact CV (Zc s1 s2 s3 (J4 R h a1) (yI z) s4) (R.t h a2) (Q _ _ a3) hr
theorem Km{q:Gm->List Stmt->Option DS.DS}(Q:∀l d,q Γ l=some d->jr X l (tS K d))(hp:PassesOwn (model X.prog X.w) X.A X.env X.xe):∀{l:List Stmt} {d:DS.DS},Qh r q Γ l=some d->jr X l (tS K d)
 | [],_,q0=>by cases q0;exact qZ
 | s::t,d,q0=>by
  unfold Qh at q0;split at q0
  ·cases q0;exact xD
  split at q0
  ·cases t with
   | nil=>cases q0
   | cons s2 t2=>
    obtain⟨d1,q1,q2⟩:=j0 q0;obtain⟨d2,q3,rfl⟩:=j5 q2;exact DB R h Q q1 (Km Q hp q3)
  ·obtain⟨d1,q1,q0⟩:=j0 q0;have h1:=kg R h Q hp q1;split at q0
   ·cases q0;exact gd (q_ h1)
   ·obtain⟨d2,q2,rfl⟩:=j5 q0;exact gd (gJ h1 (Km Q hp q2))
theorem uo(hp:PassesOwn (model X.prog X.w) X.A X.env X.xe):∀(n:Nat) {l:List Stmt} {d:DS.DS},cQ r n Γ l=some d->jr X l (tS K d)
 | 0,_,_,q=>by cases q
 | n+1,_,_,q=>Km R h (fun l d q=>uo hp n q) hp q
end
structure De where
 x:Str
 q:Str
 st:Stmt
 ps:List Str
 lo:List Str
 ks:List Bool
 b:DS.DS
 hs:List ((Nat×Nat×Nat)×List Nat)
 sh:List (Nat×Nat)
 ow:List Nat
structure Tb where
 C:Addr
 gs:List (Str×GI)
 ms:List (Str×GI)
 fl:List Str
def gm(T:Tb)(d:De)(kF:Bool):Gm:={ N:=d.ps++d.lo,sc:=defScope d.st,fn:=true,kF:=kF,C:=T.C,gs:=T.gs,ms:=T.ms,fl:=T.fl,hs:=d.hs,sh:=d.sh,ow:=d.ow }
def wX(N ps:List Str)(sc:Scope):Bool:=(match sc.kind with | .function=>true | _=>false)&&!sc.isCoroutine&&!sc.isGenerator&&Ka N&&ps.all (qd sc)&&sc.names.all fun y=>match y.2 with | .free=>false | _=>true
theorem zj{ps lo:List Str}{sc:Scope}(h:wX (ps++lo) ps sc=true):FnScope (ps++lo) ps sc:=by
 obtain⟨h,h6⟩:=jb h;obtain⟨h,h5⟩:=jb h;obtain⟨h,h4⟩:=jb h;obtain⟨h,h3⟩:=jb h;obtain⟨h1,h2⟩:=jb h;refine⟨?_,Yc h2,Yc h3,G1 h4,by simp,fun x hx=>Qi (List.all_eq_true.mp h5 x hx),fun y hy e=>?_⟩
 ·split at h1
  ·assumption
  ·cases h1
 ·have:=List.all_eq_true.mp h6 y hy;rw[e]at this;cases this
def Bd(x q:Str)(st:Stmt)(ps:List Str):Prop:=∀(kV doc pm:Value) (an:Option Addr) (cdv ct:Value) (us:List Value),us.length=ps.length->bindArgs (PySem.W.fnOf x q (defArgs st) (defBody st) (defScope st) .none kV doc pm an cdv ct) ⟨us,[]⟩=pure (ps.zip us)
def ge(T:Tb)(d:De)(kF:Bool):Option DS.DS:=cG (wX (d.ps++d.lo) d.ps (defScope d.st)) (cQ (rc 30) 30 (gm T d kF) (defBody d.st))
structure TOk (P:Program) (w:World) (K:Fr) (mg:Str->Option Value) (base:Heap) (n:Nat) (T:Tb):Prop where
 gs:∀p∈T.gs,Kf P w K mg base T.C (·<=n) K p.1 p.2
 ms:∀p∈T.ms,wU P w K mg base T.C (·<=n) K p.1 p.2
 cl:Cls K T.C
 fl:∀f∈T.fl,yC K T.C f
section
variable {P:Program} {w:World} {K:Fr} {mg:Str->Option Value} {base:Heap} {f C:Addr} {fd:FuncData} {n:Nat} {T:Tb} {d:De} {g:GI} {x:Str}
theorem Kf.mono{r r':Nat->Prop}(m:∀k,r k->r' k)(h:Kf P w K mg base C r K x g):Kf P w K mg base C r' K x g:=by
 cases g with
 | con i=>exact h
 | blt=>exact h
 | fE k ps ks F=>exact⟨h.1,m _ h.2⟩
 | fF k ps ks F=>exact⟨h.1,m _ h.2⟩
 | mk k ps ks F G=>exact⟨h.1,h.2.1,m _ h.2.2⟩
 | kt l=>exact h
 | fM k ps F=>exact⟨h.1,m _ h.2⟩
theorem wU.mono{r r':Nat->Prop}(m:∀k,r k->r' k)(h:wU P w K mg base C r K x g):wU P w K mg base C r' K x g:=by
 cases g with
 | con i=>exact h
 | blt=>exact h
 | fE k ps ks F=>exact⟨h.1,m _ h.2⟩
 | fF k ps ks F=>exact⟨h.1,m _ h.2⟩
 | mk k ps ks F G=>exact h
 | kt l=>exact h
 | fM k ps F=>exact h
theorem TOk.mono{m:Nat}(h:TOk P w K mg base n T)(l:n<=m):TOk P w K mg base m T:=
 ⟨fun p hp=>(h.gs p hp).mono fun _ z=>wSa z l,fun p hp=>(h.ms p hp).mono fun _ z=>wSa z l,h.cl,h.fl⟩
theorem Zt{α:Type}{x:Str}{g:α}:∀{l:List (Str×α)},l.lookup x=some g->(x,g)∈l
 | [],h=>by cases h
 | (y,g')::r,h=>by
  rw[List.lookup_cons]at h;split at h
  ·rename_i e;cases h;rw[eq_of_beq e];exact wNa
  ·exact wMa _ (Zt h)
theorem aZ{kF:Bool}{cdv:Value}{A:Around}{outer:List Env}{s:Shared}{H:Hp}{E:XK}(h:TOk P w K mg base n T)(S:FnScope (d.ps++d.lo) d.ps (defScope d.st))(hr:Room n (A.deeper (envOfC d.q (defScope d.st) s.heap.objs.size f cdv))):
  OkX K (gm T d kF) (jP JH P w K mg base (d.ps++d.lo) d.q (defScope d.st) f cdv A outer s H E).nox where
 n:=rfl
 sc:=rfl
 nd:=S.nd
 calm:=rfl
 k:=rfl
 room:=hr.mono (Nat.zero_le _)
 fn:=fun _ _=>rfl
 gs:=fun x g e=>(h.gs _ (Zt e)).mono fun k z=>hr.mono z
 ms:=fun x g e=>(h.ms _ (Zt e)).mono fun k z=>hr.mono z
 cl:=h.cl
 fl:=fun f e=>h.fl f (List.contains_iff_mem.mp e)
theorem G8{kF:Bool}{b:DS.DS}{cdv:Value}{A:Around}{outer:List Env}{s:Shared}{H:Hp}{E:XK}(h:TOk P w K mg base n T)(c:ge T d kF=some b)(hr:Room n (A.deeper (envOfC d.q (defScope d.st) s.heap.objs.size f cdv))):
  jr (jP JH P w K mg base (d.ps++d.lo) d.q (defScope d.st) f cdv A outer s H E).nox (defBody d.st) (tS K b):=by
 obtain⟨c1,c2⟩:=ja c;exact uo (Yd 30) (aZ h (zj c1) hr) PassesOwn.never 30 c2
theorem FY(h:TOk P w K mg base n T)(F:Fun K d.x d.q d.st f fd)(c:ge T d false=some d.b)(hk:d.ks.length=d.ps.length):FnOk P w K mg base JH (n+1) f fd d.ps (uM K d.ks (yA d.ks d.lo.length d.b)):=
 Cg F (zj (ja c).1) hk (by simp) fun cdv A outer s H E hr=>G8 h c hr
theorem FZ(h:TOk P w K mg base n T)(F:Fun K d.x d.q d.st f fd)(c:ge T d true=some d.b)(hk:d.ks.length=d.ps.length):FnOk P w K mg base JH (n+1) f fd d.ps (wI K d.ks (uO d.ks d.lo.length d.b)):=
 i7 F (zj (ja c).1) hk (by simp) fun cdv A outer s H E hr=>G8 h c hr
theorem Ib(h:TOk P w K mg base n T)(F:Fun K d.x d.q d.st f fd)(c:ge T d false=some d.b)(hk:d.ks.length+1=d.ps.length):FnOk P w K mg base JH (n+1) f fd d.ps (ax K C d.ks (Q2 C d.ks d.lo.length d.b)):=
 i8 F (zj (ja c).1) hk (by simp) fun cdv A outer s H E hr=>G8 h c hr
def At(K:Fr)(x q:Str)(st:Stmt):Prop:=∃f fd,W.nsIn K mainGlobals x=some (some (.ref f))/\Fun K x q st f fd
def uS(K:Fr)(C:Addr)(x q:Str)(st:Stmt):Prop:=∃f fd,W.findIn K (.ref C) x=some (some (.ref f))/\W.isFn K (.ref f)=true/\Fun K x q st f fd
theorem qh{q:Str}{st:Stmt}(a:W.nsIn K mainGlobals x=some (some (.ref f)))(F:Fun K x q st f fd):At K x q st:=⟨f,fd,a,F⟩
theorem Kn{q:Str}{st:Stmt}(a:W.findIn K (.ref C) x=some (some (.ref f)))(i:W.isFn K (.ref f)=true)(F:Fun K x q st f fd):uS K C x q st:=⟨f,fd,a,i,F⟩
def G0(K:Fr)(x:Str):GI->Prop
 | .con i=>∃t,W.nsIn K mainGlobals x=some (some (.int i t))
 | .blt=>W.nsIn K mainGlobals x=some none
 | .kt l=>∃p o its n,W.nsIn K mainGlobals x=some (some (.ref p))/\K.lookup p=some o/\o.cls=.type "tuple" /\o.dict=none/\o.data=.seq its n/\its.size<=sizeLine/\jg (l.map V.str) its.toList
 | _=>False
theorem F_{α:Type}{p:α->Prop}:∀x∈([]:List α),p x:=fun _ h=>by cases h
theorem JJ{α:Type}{p:α->Prop}{a:α}{l:List α}(h:p a)(t:∀x∈l,p x):∀x∈a::l,p x:=fun x hx=>by
 rcases List.mem_cons.mp hx with rfl | hx
 ·exact h
 ·exact t x hx
theorem F7{rm:Nat->Prop}(XG:∀x v,W.nsIn K mainGlobals x=some (some v)->mg x=some v)(XN:∀x,W.nsIn K mainGlobals x=some none->mg x=none)(h:G0 K x g):Kf P w K mg base C rm K x g:=by
 cases g with
 | con i=>obtain⟨t,h⟩:=h;exact⟨t,XG _ _ h⟩
 | blt=>exact XN _ h
 | kt l=>obtain⟨p,o,its,n,h,r⟩:=h;exact⟨⟨p,o,its,n,XG _ _ h,r⟩,rfl⟩
 | _=>exact h.elim
theorem F8{l:List Str}{p:Addr}{its:Array Value}{m:Nat}{sl:Array (Option Value)}(a:W.nsIn K mainGlobals x=some (some (.ref p)))(b:K.lookup p=some ⟨.type "tuple",none,.seq its m,sl⟩)(c:its.size<=sizeLine)(v:jg (l.map V.str) its.toList):G0 K x (.kt l):=⟨p,_,its,m,a,b,rfl,rfl,rfl,c,v⟩
noncomputable def Tb.ag(T:Tb)(x:Str)(i:GI):Tb:={ T with gs:=(x,i)::T.gs }
noncomputable def Tb.am(T:Tb)(x:Str)(i:GI):Tb:={ T with ms:=(x,i)::T.ms }
theorem TOk.ag{m:Nat}(h:TOk P w K mg base n T)(l:n<=m)(q:Kf P w K mg base T.C (·<=m) K x g):TOk P w K mg base m (T.ag x g):=
 ⟨fun p hp=>by
  rcases List.mem_cons.mp hp with rfl | hp
  ·exact q
  ·exact(h.mono l).gs p hp,(h.mono l).ms,h.cl,h.fl⟩
theorem TOk.am{m:Nat}(h:TOk P w K mg base n T)(l:n<=m)(q:wU P w K mg base T.C (·<=m) K x g):TOk P w K mg base m (T.am x g):=
 ⟨(h.mono l).gs,fun p hp=>by
  rcases List.mem_cons.mp hp with rfl | hp
  ·exact q
  ·exact(h.mono l).ms p hp,h.cl,h.fl⟩
def De.E(d:De)(n:Nat):GI:=.fE (n+1) d.ps d.ks (yA d.ks d.lo.length d.b)
def De.F(d:De)(n:Nat):GI:=.fF (n+1) d.ps d.ks (uO d.ks d.lo.length d.b)
structure Ck (T:Tb) (d:De) (kF:Bool):Prop where
 c:ge T d kF=some d.b
 k:(d.ks.length==d.ps.length)=true
 b:Bd d.x d.q d.st d.ps
variable (XG:∀x v,W.nsIn K mainGlobals x=some (some v)->mg x=some v)
include XG
theorem TOk.E(h:TOk P w K mg base n T)(a:At K d.x d.q d.st)(c:Ck T d false):TOk P w K mg base (n+2) (T.ag d.x (d.E n)):=by
 obtain⟨f,fd,a1,F⟩:=a;exact h.ag (vKa _ _) ⟨⟨f,fd,FY h F c.c (vLa c.k),F.binds c.b,F.kp,XG _ _ a1⟩,vMa _⟩
theorem TOk.F(h:TOk P w K mg base n T)(a:At K d.x d.q d.st)(c:Ck T d true):TOk P w K mg base (n+2) (T.ag d.x (d.F n)):=by
 obtain⟨f,fd,a1,F⟩:=a;exact h.ag (vKa _ _) ⟨⟨f,fd,FZ h F c.c (vLa c.k),F.binds c.b,F.kp,XG _ _ a1⟩,vMa _⟩
omit XG in
theorem TOk.mF(h:TOk P w K mg base n T)(a:uS K T.C d.x d.q d.st)(c:Ck T d true)(k:d.ks=[false]):TOk P w K mg base (n+2) (T.am d.x (d.F n)):=by
 obtain⟨f,fd,a1,a2,F⟩:=a;exact h.am (vKa _ _) ⟨⟨f,fd,k▸FZ h F c.c (vLa c.k),F.binds c.b,⟨a1,a2,F.kp⟩⟩,vMa _⟩
theorem TOk.I{x:Str}{G:List D->Option OD}(h:TOk P w K mg base n T)(a:uS K T.C d.x d.q d.st)(hx:d.x = "__init__")(c:ge T d false=some d.b)(k:(d.ks.length+1==d.ps.length)=true)(b:Bd d.x d.q d.st d.ps)(mk:W.makesIn K T.C=true)(kc:W.keepIn K (.ref T.C)=true)
  (aC:W.nsIn K mainGlobals x=some (some (.ref T.C))) (hG:∀p ds o,G ds=some o->Q2 T.C d.ks d.lo.length d.b p ds=some o):TOk P w K mg base (n+2) (T.ag x (.mk (n+1) d.ps d.ks (Q2 T.C d.ks d.lo.length d.b) G)):=by
 obtain⟨f,fd,a1,a2,F⟩:=a;refine h.ag (vKa _ _) ⟨⟨f,fd,Ib h F c (vLa k),F.binds b,⟨mk,?_,a2,kc⟩,XG _ _ aC⟩,hG,wPa _⟩;rw[hx]at a1;exact a1
theorem TOk.R(h:TOk P w K mg base n T)(a:At K d.x d.q d.st)(F:Nat->List D->Option D)(B:(List D->Option D)->DS.DS)(m:Nat)(F0:∀ds,F 0 ds=none)(FS:∀m,F (m+1)=yA d.ks d.lo.length (B (F m)))
  (c:∀m,ge (T.ag d.x (.fE (n+m) d.ps d.ks (F m))) d false=some (B (F m))) (k:(d.ks.length==d.ps.length)=true) (b:Bd d.x d.q d.st d.ps):TOk P w K mg base (n+m) (T.ag d.x (.fE (n+m) d.ps d.ks (F m))):=by
 obtain⟨f,fd,a1,Fu⟩:=a;have all:∀m,FnOk P w K mg base JH (n+m) f fd d.ps (uM K d.ks (F m)):=by
  intro m;induction m with
  | zero=>
   have no:∀vs H Q E,¬uM K d.ks (F 0) vs H Q E:=fun vs H Q E h=>by
    obtain⟨O,ds,d,_,_,h1,_⟩:=h;rw[F0]at h1;cases h1
   exact⟨fun vs H Q E h=>vDa h (no vs H Q E),fun A outer s H args us vs Q E _ _ _ _ h=>vDa h (no vs H Q E)⟩
  | succ m ih=>
   have h':TOk P w K mg base (n+m) (T.ag d.x (.fE (n+m) d.ps d.ks (F m))):=h.ag (vKa _ _) ⟨⟨f,fd,ih,Fu.binds b,Fu.kp,XG _ _ a1⟩,wPa _⟩;rw[FS];exact FY (d:={ d with b:=B (F m) }) h' Fu (c m) (vLa k)
 exact h.ag (vKa _ _) ⟨⟨f,fd,all m,Fu.binds b,Fu.kp,XG _ _ a1⟩,wPa _⟩
end
noncomputable def vK:Expr->Option (Expr×List Expr×List Keyword)
 | .Call f es ks _=>some (f,es,ks)
 | _=>none
noncomputable def v8:Expr->Option Str
 | .Name x _=>some x
 | _=>none
noncomputable def Xm:Expr->Bool
 | .Constant c _ _=>(match c with
  | .str _=>true
  | _=>false)
 | _=>false
noncomputable def uq{α:Type}:List α->Option α
 | [x]=>some x
 | _=>none
theorem ur{e:Expr}{c:Expr×List Expr×List Keyword}(q:vK e=some c):∃p,e=.Call c.1 c.2.1 c.2.2 p:=by
 cases e <;> cases q;exact⟨_,rfl⟩
theorem Z5{e:Expr}{x:Str}(q:v8 e=some x):∃p,e=.Name x p:=by
 cases e <;> cases q;exact⟨_,rfl⟩
theorem DC{e:Expr}(q:Xm e=true):∃x k p,e=.Constant (.str x) k p:=by
 cases e with
 | Constant c k p=>
  cases c <;> cases q;exact⟨_,_,_,rfl⟩
 | _=>cases q
theorem VW{α:Type}{l:List α}{x:α}(q:uq l=some x):l=[x]:=by
 rcases l with _ | ⟨a,_ | ⟨_,_⟩⟩ <;> cases q
 rfl
theorem VX{α β:Type}{o:Option α}{d:β}{f:α->Option β}{z:β}(q:o.elim (some d) f=some z):d=z \/∃a,o=some a/\f a=some z:=by
 cases o
 ·exact .inl (vFa q)
 ·exact .inr ⟨_,rfl,q⟩
noncomputable def a_:List Value:=[.type "ValueError",.type "Exception",.type "BaseException",.type "object"]
def DD:List Expr->Option (Str×Str)
 | [a,b]=>(v8 a).bind fun x=>(v8 b).map fun y=>(x,y)
 | _=>none
theorem DF{l:List Expr}{p:Str×Str}(q:DD l=some p):∃u v,l=[.Name p.1 u,.Name p.2 v]:=by
 rcases l with _ | ⟨a,_ | ⟨b,_ | ⟨_,_⟩⟩⟩ <;> try (cases q;done)
 obtain⟨x,q1,q⟩:=j0 q;obtain⟨y,q2,rfl⟩:=j5 q;obtain⟨u,rfl⟩:=Z5 q1;obtain⟨w,rfl⟩:=Z5 q2;exact⟨_,_,rfl⟩
noncomputable def ZK:Expr->Option (List Expr)
 | .List es _=>some es
 | _=>none
noncomputable def DH:Stmt->Option (List Stmt×List ExceptHandler×List Stmt×List Stmt)
 | .Try b h o f _=>some (b,h,o,f)
 | _=>none
noncomputable def Ga:ExceptHandler->Option Expr×Option Str×List Stmt
 | .ExceptHandler t n b _=>(t,n,b)
section
variable {Γ:Gm} {X:Cx}
theorem Xn{x:Str}{e:Addr}{oe:Obj}(hnd:X.env.scope=Γ.sc)(g:zC Γ x=true):Gl (X.suite e oe) x/\(x==("__debug__" : Str))=false:=by
 obtain⟨g1,g2⟩:=jb g;refine⟨?_,Yc g2⟩;show X.env.scope.names.lookup x=_;rw[hnd];split at g1
 ·assumption
 ·cases g1
end
structure Yi where
 k:Nat
 ps:List Str
 ks:List Bool
 F:List D->Option Int
def V9(P:Program)(w:World)(K:Fr)(mg:Str->Option Value)(base:Heap)(rm:Nat->Prop)(C Cx:Addr)(x:Str)(z:Yi):Prop:=∃f fd,FnOk P w K mg base (Jy P w) z.k f fd z.ps (Xa K Cx z.ks z.F)/\Js K fd z.ps []/\Mk K C f/\mg x=some (.ref C)/\rm (z.k+1)
section
variable {P:Program} {w:World} {K:Fr} {mg:Str->Option Value} {base:Heap} {f C:Addr} {fd:FuncData} {n:Nat} {T:Tb} {d:De} {ex:List Str} {v:Str} {z:DZ}
theorem DJ{kF:Bool}{cdv:Value}{A:Around}{outer:List Env}{s:Shared}{H:Hp}{E:XK}(h:TOk P w K mg base n T)(S:FnScope (d.ps++d.lo) d.ps (defScope d.st))(hr:Room n (A.deeper (envOfC d.q (defScope d.st) s.heap.objs.size f cdv))):
  OkX K (gm T d kF) (jP (Jy P w) P w K mg base (d.ps++d.lo) d.q (defScope d.st) f cdv A outer s H E) where
 n:=rfl
 sc:=rfl
 nd:=S.nd
 calm:=rfl
 k:=rfl
 room:=hr.mono (Nat.zero_le _)
 fn:=fun _ _=>rfl
 gs:=fun x g e=>(h.gs _ (Zt e)).mono fun k z=>hr.mono z
 ms:=fun x g e=>(h.ms _ (Zt e)).mono fun k z=>hr.mono z
 cl:=h.cl
 fl:=fun f e=>h.fl f (List.contains_iff_mem.mp e)
end
noncomputable def qi:Stmt->Option Expr
 | .Return e _=>e
 | _=>none
noncomputable def DL:Expr->Bool
 | .Constant c _ _=>(match c with
  | .none=>true
  | _=>false)
 | _=>false
theorem Qu{s:Stmt}{e:Expr}(q:qi s=some e):∃p,s=.Return (some e) p:=by
 cases s <;> try (cases q;done)
 rename_i v p;have:v=some e:=q;subst this;exact⟨_,rfl⟩
theorem DN{e:Expr}(q:DL e=true):∃k p,e=.Constant .none k p:=by
 cases e with
 | Constant c k p=>
  cases c <;> cases q;exact⟨_,_,rfl⟩
 | _=>cases q
def hI(l:List Stmt):Option (Str×List Expr×Expr):=(uq l).bind fun s=>(qi s).bind fun e=>(vK e).bind fun c=>(v8 c.1).bind fun g=>cG c.2.2.isEmpty (some (g,c.2.1,e))
theorem DP{l:List Stmt}{z:Str×List Expr×Expr}(q:hI l=some z):∃a b c,z.2.2=.Call (.Name z.1 a) z.2.1 [] b/\l=[.Return (some z.2.2) c]:=by
 obtain⟨s,h1,q⟩:=j0 q;obtain⟨e,h2,q⟩:=j0 q;obtain⟨c,h3,q⟩:=j0 q;obtain⟨g,h4,q⟩:=j0 q;obtain⟨h5,q⟩:=ja q;obtain⟨rp,e2⟩:=Qu h2;obtain⟨cp,e3⟩:=ur h3;obtain⟨gp,e4⟩:=Z5 h4;refine⟨gp,cp,rp,?_⟩;rw[<-Option.some.inj q];exact⟨by rw[e3,e4,List.isEmpty_iff.mp h5],by rw[VW h1,e2]⟩
def hU(l:List ExceptHandler):Option Str:=(uq l).bind fun h=>((Ga h).1.bind v8).bind fun x=>(uq (Ga h).2.2).bind fun s=>(qi s).bind fun e=>cG ((Ga h).2.1.isNone&&DL e) (some x)
theorem DQ{l:List ExceptHandler}{x:Str}(q:hU l=some x):∃a b c d e,l=[.ExceptHandler (some (.Name x a)) none [.Return (some (.Constant .none b c)) d] e]:=by
 obtain⟨h,h1,q⟩:=j0 q;obtain⟨y,h2,q⟩:=j0 q;obtain⟨s,h3,q⟩:=j0 q;obtain⟨e,h4,q⟩:=j0 q;obtain⟨z,q9⟩:=ja q;clear q;obtain⟨z1,z2⟩:=jb z;obtain⟨t,h5,h6⟩:=j0 h2;obtain⟨xp,e6⟩:=Z5 h6;obtain⟨rp,e4⟩:=Qu h4;obtain⟨kk,np,e7⟩:=DN z2;obtain⟨ht,hn,hb,hp⟩:=h;have h5:ht=some t:=h5;have h7:hn=none:=Option.isNone_iff_eq_none.mp z1;have h8:hb=[s]:=VW h3;exact⟨xp,kk,np,rp,hp,by rw[VW h1,h5,h7,h8,e4,e6,e7,Option.some.inj q9]⟩
section
variable (r:Rc) (q:Gm->List Stmt->Option DS.DS) (Γ:Gm) (zi:Yi) (cn v:Str)
def hV(t:List Stmt×List ExceptHandler×List Stmt×List Stmt):Option DM:=(hI t.1).bind fun b=>(hU t.2.1).bind fun x=>
 cG (t.2.2.1.isEmpty&&t.2.2.2.isEmpty&&x==v&&b.1==cn&&zC Γ cn&&zC Γ v&&!b.2.1.isEmpty)
  ((cA r Γ zi.ks b.2.1).bind fun l=>(cV r Γ dC b.2.2).map fun d=>U_ (fun Z=>qc zi.F l (frz Z)) fun Z=>(d (frz Z)).bind V2)
def Qw:List Stmt->Option DM
 | []=>none
 | s::t=>(match DH s with
  | some x=>cG t.isEmpty (hV r Γ zi cn v x)
  | none=>(match s with
   | .If c a b p=>(match a,b with
    | [.Return (some e) _],[]=>(r.t Γ c).bind fun dt=>(cV r Γ dC e).bind fun d=>(Qw t).map fun m=>kX (if (Γ.hs.lookup (p.line,0,9)).isSome then fun Z=>dt (frz Z)else dt) d m
    | _,_=>none)
   | s=>(cX r q Γ s).bind fun d=>(Qw t).map fun m=>Ur d m))
end
section
variable {r:Rc} {q:Gm->List Stmt->Option DS.DS} {Γ:Gm} {zi:Yi} {cn v:Str} {X:Cx} {K:Fr} {C Cx:Addr}
variable (R:RcOk r) (h:OkX K Γ X) (hx:X.nox=X) (iz:V9 X.prog X.w X.K X.mg X.base (fun k=>Room k X.A) C Cx cn zi) (ek:W.nsIn K mainGlobals v=some (some (.ref Cx))) (em:W.exmOne K (.ref Cx) (.ref Cx)=some true) (XG:∀x v,W.nsIn K mainGlobals x=some (some v)->X.mg x=some v) (hst:X.stack=X.env::X.outer) (hfr:X.env.frame=some X.env.locals)
include R h hx iz ek em XG hst hfr
theorem DR{b:List Stmt}{hs:List ExceptHandler}{o fb:List Stmt}{p:Pos}{m:DM}(q0:hV r Γ zi cn v (b,hs,o,fb)=some m):jr X [.Try b hs o fb p] (tM K m):=by
 obtain⟨c,h1,q0⟩:=j0 q0;obtain⟨x,h2,q0⟩:=j0 q0;obtain⟨w,q0⟩:=ja q0;obtain⟨l,a1,q0⟩:=j0 q0;obtain⟨d,a2,em'⟩:=j5 q0;clear q0;obtain⟨w,w7⟩:=jb w;obtain⟨w,w6⟩:=jb w;obtain⟨w,w5⟩:=jb w;obtain⟨w,w4⟩:=jb w;obtain⟨w,w3⟩:=jb w;obtain⟨w1,w2⟩:=jb w;obtain⟨gp,cp,rp,e0,e1⟩:=DP h1;obtain⟨_,_,_,_,_,e2⟩:=DQ h2;have hK:=h.k;cases ec:c.2.1 with
 | nil=>rw[ec]at w7;cases w7
 | cons ea es=>
  have e1:b=_:=e1;have e2:hs=_:=e2;rw[ec]at a1;rw[ec,eq_of_beq w4]at e0;rw[e0]at a2 e1;rw[<-em',e1,e2,eq_of_beq w3,show o=[] from List.isEmpty_iff.mp w1,show fb=[] from List.isEmpty_iff.mp w2];obtain⟨b1,b2,b3,_⟩:=Z4 R h a1;obtain⟨g1,g2⟩:=YM h w5;obtain⟨x1,x2⟩:=YM h w6;obtain⟨fi,fd,G,hbd,M,hmC,hr⟩:=iz;rw[hK]at G hbd M;have rz:=Xb (X:=X) (pos:=cp) (rpos:=rp) (p:=gp) (by rw[hK];exact M) (by rw[hK];exact G) hr hmC (by rw[hK];exact hbd) (by rw[hx];exact b1) b2 g1 g2 (jf (b3 _ wNa)) (Yr fun z hz=>b3 z (wMa _ hz));refine CY rz ?_ hst hfr x1 (XG _ _ ek) x2 (by rw[hK];exact em);rw[hx];exact WM (Cz (J4 R h a2))
theorem Ko(Q:∀l d,q Γ l=some d->jr X l (tS K d))(hp:PassesOwn (model X.prog X.w) X.A X.env X.xe):∀{l:List Stmt} {m:DM},Qw r q Γ zi cn v l=some m->jr X l (tM K m)
 | [],_,q0=>by cases q0
 | s::t,m,q0=>by
  unfold Qw at q0;split at q0
  ·rename_i x h0;obtain⟨z,q1⟩:=ja q0;have i1:=List.isEmpty_iff.mp z;subst i1;cases s <;> cases h0;exact DR R h hx iz ek em XG hst hfr q1
  ·split at q0
   ·split at q0
    ·obtain⟨dt,q1,q0⟩:=j0 q0;obtain⟨d,q2,q0⟩:=j0 q0;obtain⟨m',q3,rfl⟩:=j5 q0;refine i9 ?_ (J4 R h q2) (Ko Q hp q3);split
     ·exact aH (R.t h q1)
     ·exact R.t h q1
    ·cases q0
   ·obtain⟨d,q1,q0⟩:=j0 q0;obtain⟨m',q2,rfl⟩:=j5 q0;exact fo (kg R h Q hp q1) (Ko Q hp q2)
end
section
variable {P:Program} {w:World} {K:Fr} {mg:Str->Option Value} {base:Heap} {f C:Addr} {fd:FuncData} {n:Nat} {T:Tb} {d:De} {v cn:Str} {zi:Yi} {Cx:Addr}
def A0(T:Tb)(zi:Yi)(cn v:Str)(d:De):Option DM:=cG (wX (d.ps++d.lo) d.ps (defScope d.st)) (Qw (rc 30) (cQ (rc 30) 30) (gm T d false) zi cn v (defBody d.st))
theorem TOk.Mz{m:Nat}{dm:DM}{F0:List (List D)->List D->Option (List (List D)×D)}(XG:∀x v,W.nsIn K mainGlobals x=some (some v)->mg x=some v)(h:TOk P w K mg base n T)(iz:V9 P w K mg base (·<=n) C Cx cn zi)(ek:W.nsIn K mainGlobals v=some (some (.ref Cx)))(em:W.exmOne K (.ref Cx) (.ref Cx)=some true)(a:At K d.x d.q d.st)(c:A0 T zi cn v d=some dm)(hm:m+2=d.ps.length)(b:Bd d.x d.q d.st d.ps)(hF:∀l ls ds r,F0 ls ds=some r->kZ m d.lo.length dm l ls ds=some r):TOk P w K mg base (n+2) (T.ag d.x (.fM (n+1) d.ps F0)):=by
 obtain⟨f,fd,a1,F⟩:=a;have S:=zj (ja c).1;have ok:FnOk P w K mg base JH (n+1) f fd d.ps (kY K (kZ m d.lo.length dm)):=ie F S hm (by simp) fun cdv A outer s H E hr=>by
  obtain⟨fi,fd',i1,i2,i3,i4,i5⟩:=iz;exact Ko (Yd 30) (aZ h S hr) rfl ⟨fi,fd',i1,i2,i3,i4,hr.mono i5⟩ ek em XG rfl rfl (fun _ _ q=>uo (Yd 30) (aZ h S hr) PassesOwn.never 30 q) PassesOwn.never (ja c).2
 exact h.ag (vKa _ _) ⟨⟨f,fd,ok.imp (fun _ _ _ _ z=>xX hF z),F.binds b,F.kp,XG _ _ a1⟩,vMa _⟩
end
section
variable (r:Rc) (qn:Gm->List Stmt->Option DS.DS) (q:List Stmt->Option DY) (Γ:Gm) (xc:Str) (ms:Bool)
def Ic(e o:Option Expr):Option DY:=if o.isSome then some Jn else(e.bind vK).elim (some Jn) fun c=>(v8 c.1).elim (some Jn) fun x=>(uq c.2.1).elim (some Jn) fun a=>if c.2.2.isEmpty&&x==xc&&Je a&&Xm a==ms then cG (zC Γ x) (if ms=true then some fun _=>some 0 else(cV r Γ dC a).map zB)else some Jn
def yS(s:Stmt):Option DY:=match s with
 | .Raise e o _=>Ic r Γ xc ms e o
 | .If c a b _=>(r.t Γ c).bind fun t=>(q a).bind fun x=>(q b).map fun y=>Vk t x y
 | .For tg it b o _=>if o.isEmpty then cG (gb it) ((cI r Γ tg it).bind fun di=>(r.g Γ Γ.N.length tg).bind fun g=>(qn Γ b).bind fun d=>(q b).map fun y=>gV di g d y)else some Jn
 | _=>some Jn
def A1:List Stmt->Option DY
 | []=>some Jn
 | s::t=>(yS r qn q Γ xc ms s).bind fun y=>if dX s=true then some y else match cX r qn Γ s with
  | some d=>(A1 t).map fun y'=>J3 y d y'
  | none=>some y
end
def yQ(r:Rc)(qn:Gm->List Stmt->Option DS.DS)(Γ:Gm)(xc:Str)(ms:Bool):Nat->List Stmt->Option DY
 | 0=>fun _=>none
 | n+1=>A1 r qn (yQ r qn Γ xc ms n) Γ xc ms
section
variable {r:Rc} {qn:Gm->List Stmt->Option DS.DS} {q:List Stmt->Option DY} {Γ:Gm} {xc:Str} {ms:Bool} {Y:Cx} {K:Fr} {P:Int->Hp->Prop}
variable (R:RcOk r) (h:OkX K Γ Y) (hp:PassesOwn (model Y.prog Y.w) Y.A Y.env Y.xe) (Qn:∀l d,qn Γ l=some d->jr Y l (tS K d))
 (hrs:zC Γ xc=true->∀(np cpos pos:Pos) (a:Expr),Je a=true->(ms=true->Xm a=true->PS Y (.Raise (some (.Call (.Name xc np) [a] [] cpos)) none pos) (tY K (fun _=>some 0) P))/\(ms=false->∀de:DE,PE Y a (tE K de)->PS Y (.Raise (some (.Call (.Name xc np) [a] [] cpos)) none pos) (tY K (zB de) P)))
include R h hp Qn hrs
theorem Fa{s:Stmt}{y:DY}(Q:∀l y,q l=some y->jr Y l (tY K y P))(q0:yS r qn q Γ xc ms s=some y):PS Y s (tY K y P):=by
 cases s with
 | Raise e o p=>
  cases o with
  | some o=>cases q0;exact Uw
  | none=>
  rcases VX (show((e.bind vK).elim (some Jn) _)=some y from q0)with rfl | ⟨c,h1,q2⟩
  ·exact Uw
  rcases VX q2 with rfl | ⟨x,h2,q3⟩
  ·exact Uw
  rcases VX q3 with rfl | ⟨a,h5,q4⟩
  ·exact Uw
  clear q0 q2 q3;obtain⟨e,rfl,h4⟩:=j0 h1;clear h1;obtain⟨cp,rfl⟩:=ur h4;clear h4;obtain⟨f,es,ks⟩:=c;dsimp only at h2 h5 q4⊢;obtain⟨np,rfl⟩:=Z5 h2;have e5:=VW h5;subst e5;split at q4
  ·rename_i hh;obtain⟨k1,k4⟩:=jb hh;obtain⟨k1,k3⟩:=jb k1;obtain⟨k1,k2⟩:=jb k1;have k4:=vLa k4;have e6:=List.isEmpty_iff.mp k1;have e7:=vLa k2;subst e6 e7;obtain⟨c1,q5⟩:=ja q4;obtain⟨hA,hB⟩:=hrs c1 np cp p a k3;split at q5
   ·rename_i hm;cases q5;exact hA hm (k4.trans hm)
   ·rename_i hm;obtain⟨de,q6,rfl⟩:=j5 q5;exact hB (by simpa using hm) de (J4 R h q6)
  ·cases q4;exact Uw
 | If c a b p=>
  obtain⟨t,q1,q0⟩:=j0 q0;obtain⟨x,q2,q0⟩:=j0 q0;obtain⟨y,q3,rfl⟩:=j5 q0;exact iB (R.t h q1) (Q _ _ q2) (Q _ _ q3)
 | For tg it b o p=>
  unfold yS at q0;dsimp only at q0;split at q0
  ·rename_i ho;have e0:=List.isEmpty_iff.mp ho;subst e0;obtain⟨z,q1⟩:=ja q0;obtain⟨di,a1,q2⟩:=j0 q1;obtain⟨g,a2,q3⟩:=j0 q2;obtain⟨d,a3,q4⟩:=j0 q3;obtain⟨y',a4,rfl⟩:=j5 q4;exact fX hp h.calm (qf R h a1) (R.g h a2) (Qn _ _ a3) (Q _ _ a4) (g_ z)
  ·cases q0;exact Uw
 | _=>cases q0;exact Uw
theorem Qx(Q:∀l y,q l=some y->jr Y l (tY K y P)):∀{l:List Stmt} {y:DY},A1 r qn q Γ xc ms l=some y->jr Y l (tY K y P)
 | [],_,q0=>by cases q0;exact fW
 | s::t,y,q0=>by
  unfold A1 at q0;obtain⟨y1,q1,q0⟩:=j0 q0;have p1:=Fa R h hp Qn hrs Q q1;split at q0
  ·cases q0;exact wS p1
  split at q0
  ·rename_i d hd;obtain⟨y',q2,rfl⟩:=j5 q0;exact bz (kg R h Qn hp hd) p1 (Qx Q q2)
  ·cases q0;exact wS p1
theorem qj:∀(n:Nat) {l:List Stmt} {y:DY},yQ r qn Γ xc ms n l=some y->jr Y l (tY K y P)
 | 0,_,_,q0=>by cases q0
 | n+1,_,_,q0=>Qx R h hp Qn hrs (fun l y q=>qj n q) q0
end
def gf(P:Program)(w:World)(K:Fr)(mg:Str->Option Value)(base:Heap)(rm:Nat->Prop)(C:Addr)(fl g:Str)(y:Yi):Prop:=∃f fd,FnOk P w K mg base (Jy P w) y.k f fd y.ps (CT K C fl y.ks y.F)/\Js K fd y.ps []/\W.keepIn K (.ref f)=true/\mg g=some (.ref f)/\rm y.k
def wY(P:Program)(w:World)(K:Fr)(mg:Str->Option Value)(base:Heap)(n:Nat)(x:Str)(C:Addr)(fl:Str):Prop:=∃fi fd ps k,W.nsIn K mainGlobals x=some (some (.ref C))/\VT K C a_ "ValueError.__new__" fi=true/\W.keepIn K (.ref C)=true/\W.typeIn K (.ref fi)=some (.type "function")/\FnOk P w K mg base JH k fi fd ps (aO C fl)/\ps.length=2/\Js K fd ps []/\k+1<=n
theorem bH{P:Program}{w:World}{K:Fr}{mg:Str->Option Value}{base:Heap}{x q:Str}{st:Stmt}{C fi:Addr}{a0 a1 f1:Str}{p1 p2 p3 p4:Pos}(ns:W.nsIn K mainGlobals x=some (some (.ref C)))(hf:W.findIn K (.ref C) "__init__" = some (some (.ref fi)))(exi:VT K C a_ "ValueError.__new__" fi=true)(kp:W.keepIn K (.ref C)=true)
  (a:uS K C "__init__" q st) (c1:ExS K C f1) (hb:defBody st=[.Assign [.Attribute (.Name a0 p1) f1 p2] (.Name a1 p3) p4]) (S:wX ([a0,a1]++[]) [a0,a1] (defScope st)=true)
  (v:(gX (defScope st) a0&&gX (defScope st) a1)=true) (d:([a0,a1].all fun y=>!(y==("__debug__" : Str))&&!(y==("__classdict__" : Str)))=true) (b:Bd "__init__" q st [a0,a1]):wY P w K mg base 2 x C f1:=by
 obtain⟨f,fd,e1,e2,F⟩:=a;rw[hf]at e1;cases e1;have SS:FnScope ([a0,a1]++[]) [a0,a1] (defScope st):=zj S;obtain⟨v0,v1⟩:=jb v;simp only[List.all_cons,List.all_nil,Bool.and_true,Bool.and_eq_true,Bool.not_eq_true']at d;obtain⟨⟨d0,e0⟩,⟨d1,e1⟩⟩:=d;exact⟨fi,fd,_,1,ns,exi,kp,beq_iff_eq.mp e2,iy (k:=0) F SS hb c1 (gc v0) (gc v1) d0 d1 e0 e1,rfl,F.binds b,wPa _⟩
section
variable {P:Program} {w:World} {K:Fr} {mg:Str->Option Value} {base:Heap} {f C:Addr} {fd:FuncData} {n:Nat} {T:Tb} {d:De} {xc fl:Str} {y:DY}
def qk(T:Tb)(xc:Str)(ms:Bool)(d:De):Option DY:=cG (wX (d.ps++d.lo) d.ps (defScope d.st)) (yQ (rc 30) (cQ (rc 30) 30) (gm T d false) xc ms 30 (defBody d.st))
theorem gf.Y(XG:∀x v,W.nsIn K mainGlobals x=some (some v)->mg x=some v)(h:TOk P w K mg base n T)(yc:wY P w K mg base n xc C fl)(a:At K d.x d.q d.st)(c:qk T xc false d=some y)(hk:(d.ks.length==d.ps.length)=true)(hb:Bd d.x d.q d.st d.ps):
  gf P w K mg base (·<=n+2) C fl d.x ⟨n+1,d.ps,d.ks,aP d.ks d.lo.length y⟩:=by
 obtain⟨f,fd,a1,F⟩:=a;obtain⟨c1,c2⟩:=ja c;have S:=zj c1;refine⟨f,fd,iC F S (vLa hk) (by simp) fun cdv A outer s H E hr=>?_,F.binds hb,F.kp,XG _ _ a1,vMa _⟩;have ok:OkX K (gm T d false) (jP (Jy P w) P w K mg base (d.ps++d.lo) d.q (defScope d.st) f cdv A outer s H E):=DJ h S hr;have hp:PassesOwn (model P w) (jP (Jy P w) P w K mg base (d.ps++d.lo) d.q (defScope d.st) f cdv A outer s H E).A (jP (Jy P w) P w K mg base (d.ps++d.lo) d.q (defScope d.st) f cdv A outer s H E).env (jP (Jy P w) P w K mg base (d.ps++d.lo) d.q (defScope d.st) f cdv A outer s H E).xe:=PassesOwn.leaving;refine qj (Yd 30) ok hp (fun l d q=>uo (Yd 30) ok hp 30 q) (fun hg np cpos pos a ha=>⟨(fun z=>by cases z),fun _ de he=>?_⟩) 30 c2;obtain⟨fi,fd',ps,k,y1,y2,y3,y4,y5,y6,y7,y8⟩:=yc;obtain⟨g1,g2⟩:=YM ok hg;exact bA (Qf y1 y2 PySem.F.excBase_ValueError y3 y4 y5 y6 y7 (hr.mono y8) g1 g2 (jx he jU (jf ha)) (jf ha) rfl)
theorem V9.I{x:Str}{Cx:Addr}(XG:∀x v,W.nsIn K mainGlobals x=some (some v)->mg x=some v)(h:TOk P w K mg base n T)(ek:W.nsIn K mainGlobals xc=some (some (.ref Cx)))(ei:W.excIn K Cx a_ "ValueError.__new__" = true)(a:uS K T.C d.x d.q d.st)(hx:d.x = "__init__")(c:qk T xc true d=some y)(k:(d.ks.length+1==d.ps.length)=true)(b:Bd d.x d.q d.st d.ps)(mk:W.makesIn K T.C=true)(kc:W.keepIn K (.ref T.C)=true)
  (aC:W.nsIn K mainGlobals x=some (some (.ref T.C))):V9 P w K mg base (·<=n+2) T.C Cx x ⟨n+1,d.ps,d.ks,K8 d.ks d.lo.length y⟩:=by
 obtain⟨f,fd,a1,a2,F⟩:=a;obtain⟨c1,c2⟩:=ja c;have S:=zj c1;rw[hx]at a1;refine⟨f,fd,fZ F S (vLa k) (by simp) fun cdv A outer s H E hr=>?_,F.binds b,⟨mk,a1,a2,kc⟩,XG _ _ aC,wPa _⟩;have ok:OkX K (gm T d false) (jP (Jy P w) P w K mg base (d.ps++d.lo) d.q (defScope d.st) f cdv A outer s H E):=DJ h S hr;have hp:PassesOwn (model P w) (jP (Jy P w) P w K mg base (d.ps++d.lo) d.q (defScope d.st) f cdv A outer s H E).A (jP (Jy P w) P w K mg base (d.ps++d.lo) d.q (defScope d.st) f cdv A outer s H E).env (jP (Jy P w) P w K mg base (d.ps++d.lo) d.q (defScope d.st) f cdv A outer s H E).xe:=PassesOwn.leaving;refine qj (Yd 30) ok hp (fun l d q=>uo (Yd 30) ok hp 30 q) (fun hg np cpos pos a ha=>⟨fun _ hs=>?_,fun z=>by cases z⟩) 30 c2;obtain⟨_,_,_,rfl⟩:=DC hs;obtain⟨g1,g2⟩:=YM ok hg;refine jT (X3 ek ei PySem.F.excBase_ValueError g1 g2) fun D U H' xx=>?_;obtain⟨H0,O0,Z,O,i,R,e,q⟩:=xx;exact q H' R.keep
end
noncomputable def ql{α:Type}:List α->Option (α×α)
 | [x,y]=>some (x,y)
 | _=>none
theorem Kp{α:Type}{l:List α}{p:α×α}(q:ql l=some p):l=[p.1,p.2]:=by
 rcases l with _ | ⟨a,_ | ⟨b,_ | ⟨_,_⟩⟩⟩ <;> cases q
 rfl
noncomputable def A2:Expr->Option (Expr×Str)
 | .Attribute a f _=>some (a,f)
 | _=>none
theorem DU{e:Expr}{p:Expr×Str}(q:A2 e=some p):∃ap,e=.Attribute p.1 p.2 ap:=by
 cases e <;> cases q;exact⟨_,rfl⟩
def qo(e:Expr):Option (Str×Str):=(vK e).bind fun c=>(v8 c.1).bind fun i=>if i = "isinstance" /\c.2.2.isEmpty=true then DD c.2.1 else none
theorem Qy{e:Expr}{p:Str×Str}(q:qo e=some p):∃a b c d,e=.Call (.Name "isinstance" a) [.Name p.1 b,.Name p.2 c] [] d:=by
 obtain⟨c,h1,q1⟩:=j0 q;obtain⟨i,h2,q2⟩:=j0 q1;split at q2
 ·rename_i hh;obtain⟨e0,h3⟩:=hh;clear q q1;obtain⟨cp,rfl⟩:=ur h1;clear h1;obtain⟨f,es,ks⟩:=c;dsimp only at h2 h3 q2⊢;obtain⟨np,rfl⟩:=Z5 h2;have e3:=List.isEmpty_iff.mp h3;obtain⟨u,v,e4⟩:=DF q2;subst e0 e3 e4;exact⟨_,_,_,_,rfl⟩
 ·cases q2
def DV(l:List Stmt):Option (Str×Str×List Expr):=(uq l).bind fun s=>(Ke s).bind fun p=>(vK p.2).bind fun c=>(v8 c.1).bind fun g=>cG c.2.2.isEmpty (some (p.1,g,c.2.1))
theorem Fb{l:List Stmt}{z:Str×Str×List Expr}(q:DV l=some z):∃a b c d,l=[.Assign [.Name z.1 a] (.Call (.Name z.2.1 b) z.2.2 [] c) d]:=by
 obtain⟨s,h1,q1⟩:=j0 q;obtain⟨p,h2,q2⟩:=j0 q1;obtain⟨c,h3,q3⟩:=j0 q2;obtain⟨g,h4,q4⟩:=j0 q3;obtain⟨h5,q5⟩:=ja q4;obtain⟨np,sp,e2⟩:=um h2;obtain⟨cp,e3⟩:=ur h3;obtain⟨gp,e4⟩:=Z5 h4;exact⟨np,gp,cp,sp,by rw[<-Option.some.inj q5,VW h1,e2,e3,e4,List.isEmpty_iff.mp h5]⟩
def DW(l:List ExceptHandler):Option (Str×Str×List Stmt):=l.head?.bind fun h=>((Ga h).1.bind v8).bind fun x=>(Ga h).2.1.map fun n=>(x,n,(Ga h).2.2)
theorem Fc{l:List ExceptHandler}{z:Str×Str×List Stmt}(q:DW l=some z):∃a b t,l=.ExceptHandler (some (.Name z.1 a)) (some z.2.1) z.2.2 b::t:=by
 obtain⟨h,h1,q1⟩:=j0 q;obtain⟨x,h2,q2⟩:=j0 q1;obtain⟨n,h3,e⟩:=j5 q2;obtain⟨y,h4,h5⟩:=j0 h2;obtain⟨xp,e5⟩:=Z5 h5;cases l with
 | nil=>cases h1
 | cons h0 t0=>
  cases h1;obtain⟨t,nn,b,p⟩:=h;have h4:t=some y:=h4;have h3:nn=some n:=h3;exact⟨xp,p,t0,by rw[<-e,h4,h3,e5];rfl⟩
theorem DX{e:Expr}{l:List Expr}(q:ZK e=some l):∃p,e=.List l p:=by
 cases e <;> cases q;exact⟨_,rfl⟩
def D_(n A fl:Str)(l:List Stmt):Option (Str×Str):=(ql l).bind fun ss=>(Ke ss.1).bind fun p1=>(Ke ss.2).bind fun p2=>(ZK p1.2).bind fun es=>(ql es).bind fun cc=>(qo cc.1).bind fun u=>(qo cc.2).bind fun w=>(A2 p2.2).bind fun a=>(v8 a.1).bind fun n3=>cG (u.1==n&&u.2==A&&w.1==n&&w.2==("ValueError" : Str)&&n3==n&&a.2==fl) (some (p1.1,p2.1))
theorem Fd{n A fl:Str}{l:List Stmt}{z:Str×Str}(q:D_ n A fl l=some z):∃p1 p2 p3 p4 p5 p6 p7 p8 p9 p10 p11 p12 p13 p14 p15,l=[.Assign [.Name z.1 p1] (.List [.Call (.Name "isinstance" p2) [.Name n p3,.Name A p4] [] p5,.Call (.Name "isinstance" p6) [.Name n p7,.Name "ValueError" p8] [] p9] p10) p11,.Assign [.Name z.2 p12] (.Attribute (.Name n p13) fl p14) p15]:=by
 obtain⟨ss,h1,q⟩:=j0 q;obtain⟨p1,h2,q⟩:=j0 q;obtain⟨p2,h3,q⟩:=j0 q;obtain⟨es,h4,q⟩:=j0 q;obtain⟨cc,h5,q⟩:=j0 q;obtain⟨u,h6,q⟩:=j0 q;obtain⟨w,h7,q⟩:=j0 q;obtain⟨a,h8,q⟩:=j0 q;obtain⟨n3,h9,q⟩:=j0 q;obtain⟨z,q⟩:=ja q;obtain⟨z,z6⟩:=jb z;obtain⟨z,z5⟩:=jb z;obtain⟨z,z4⟩:=jb z;obtain⟨z,z3⟩:=jb z;obtain⟨z1,z2⟩:=jb z;obtain⟨a1,a2,e2⟩:=um h2;obtain⟨b1,b2,e3⟩:=um h3;obtain⟨lp,e4⟩:=DX h4;obtain⟨c1,c2,c3,c4,e6⟩:=Qy h6;obtain⟨d1,d2,d3,d4,e7⟩:=Qy h7;obtain⟨ap,e8⟩:=DU h8;obtain⟨np,e9⟩:=Z5 h9;refine⟨a1,c1,c2,c3,c4,d1,d2,d3,d4,lp,a2,b1,np,ap,b2,?_⟩;rw[<-Option.some.inj q,Kp h1,e2,e3,e4,Kp h5,e6,e7,e8,e9,eq_of_beq z1,eq_of_beq z2,eq_of_beq z3,eq_of_beq z4,eq_of_beq z5,eq_of_beq z6]
section
variable (r:Rc) (q:Gm->List Stmt->Option DS.DS) (Γ:Gm) (yi:Yi) (gn xn A fl:Str)
def A3(t:List Stmt×List ExceptHandler×List Stmt×List Stmt):Option DS.DS:=(DV t.1).bind fun b=>(DW t.2.1).bind fun x=>(D_ x.2.1 A fl x.2.2).bind fun z=>(slot Γ x.2.1).bind fun i=>(uQ Γ z.1).bind fun m=>(uQ Γ z.2).bind fun r'=>
 cG (t.2.2.1.isEmpty&&t.2.2.2.isEmpty&&b.2.1==gn&&x.1==xn&&zC Γ gn&&zC Γ xn&&gY Γ.sc x.2.1&&uR Γ "isinstance" && uR Γ "ValueError" && zC Γ A&&!(i==m)&&!b.2.2.isEmpty)
  ((cA r Γ yi.ks b.2.2).bind fun l=>(q Γ t.1).map fun d=>V5 yi.F l d i m r' [false,true])
def Qz:List Stmt->Option DS.DS
 | []=>some jL
 | s::t=>(match DH s with
  | some x=>(A3 r q Γ yi gn xn A fl x).bind fun d=>(Qz t).map fun d'=>j9 d d'
  | none=>(cX r q Γ s).bind fun d=>(match t with
   | []=>some d
   | t=>(Qz t).map fun d'=>j9 d d'))
end
structure YxK (K:Fr) (C:Addr) (x A fl:Str):Prop where
 x:W.nsIn K mainGlobals x=some (some (.ref C))
 m:W.exmOne K (.ref C) (.ref C)=some true
 a:∃Ca,W.nsIn K mainGlobals A=some (some (.ref Ca))/\W.kitOne K (.ref C) (.ref Ca)=some false
 v:W.kitOne K (.ref C) (.type "ValueError")=some true
 e:ExC K C
 g:ExG K C fl
section
variable {r:Rc} {q:Gm->List Stmt->Option DS.DS} {Γ:Gm} {yi:Yi} {gn xn A fl:Str} {X:Cx} {K:Fr} {C:Addr}
variable (R:RcOk r) (h:OkX K Γ X) (hx:X.nox=X) (Q:∀l d,q Γ l=some d->jr X l (tS K d)) (yf:gf X.prog X.w X.K X.mg X.base (fun k=>Room k X.A) C fl gn yi) (yk:YxK K C xn A fl) (XG:∀x v,W.nsIn K mainGlobals x=some (some v)->X.mg x=some v) (hst:X.stack=X.env::X.outer) (hfr:X.env.frame=some X.env.locals)
include R h hx Q yf yk XG hst hfr
theorem bI{y n mN rN:Str}{i m r':Nat}{ea:Expr}{ces:List Expr}{l:DA}{d:DS.DS}{hs:List ExceptHandler}{p1 p2 p3 p4 p5 p6 p7 p8 p9 p10 p11 p12 p13 p14 p15 yp gp cp ep xp hpos tp:Pos}(a1:cA r Γ yi.ks (ea::ces)=some l)(a2:q Γ [.Assign [.Name y yp] (.Call (.Name gn gp) (ea::ces) [] cp) ep]=some d)(h17:slot Γ n=some i)(h18:uQ Γ mN=some m)(h19:uQ Γ rN=some r')
  (z6:zC Γ gn=true) (z7:zC Γ xn=true) (z8:gY Γ.sc n=true) (z9:uR Γ "isinstance" = true) (z10:uR Γ "ValueError" = true) (z11:zC Γ A=true) (him:i≠m):
  PS X (.Try [.Assign [.Name y yp] (.Call (.Name gn gp) (ea::ces) [] cp) ep] (.ExceptHandler (some (.Name xn xp)) (some n) [.Assign [.Name mN p1] (.List [.Call (.Name "isinstance" p2) [.Name n p3,.Name A p4] [] p5,.Call (.Name "isinstance" p6) [.Name n p7,.Name "ValueError" p8] [] p9] p10) p11,.Assign [.Name rN p12] (.Attribute (.Name n p13) fl p14) p15] hpos::hs) [] [] tp) (tS K (V5 yi.F l d i m r' [false,true])):=by
 have hK:=h.k;obtain⟨b1,b2,b3,_⟩:=Z4 R h a1;obtain⟨g1,g2⟩:=YM h z6;obtain⟨x1,x2⟩:=YM h z7;obtain⟨j1,j2⟩:=Zq h z9;obtain⟨v1,v2⟩:=Zq h z10;obtain⟨t1,t2,t3,t4⟩:=Kh h17;obtain⟨fa,fd,G,hbd,hk,hm,hr⟩:=yf;obtain⟨Ca,k1,k2⟩:=yk.a;have hni:=V7 t1;rw[<-h.n]at hni;rw[hK]at G hbd hk;refine d8 (by rw[hK];exact G) hr hm (by rw[hK];exact hk) (by rw[hK];exact hbd) (by rw[hx];exact b1) b2 g1 g2 (jf (b3 _ wNa)) (Yr fun z hz=>b3 z (wMa _ hz)) (yI rfl) (by rw[hx];exact Q _ _ a2) hst hfr (by rw[h.n];exact h.nd) hni (by show X.env.scope.names.lookup _=_;rw[h.sc];exact Kg z8) x1 (XG _ _ yk.x) x2 (by rw[hK];exact yk.m) fun e oe=>?_;obtain⟨ga,ga2⟩:=Xn (X:=X) (e:=e) (oe:=oe) h.sc z11;exact dg (fun p=>pv (X:=X.suite e oe) i hni (by show Go X.env.scope _;rw[h.sc];exact gc t2) t3 t4) j1 j2 hK (fun p=>uc (X:=X.suite e oe) (v:=.ref Ca) ga (XG _ _ k1) rfl ga2) (fun p=>ud (X:=X.suite e oe) (v:=.ty "ValueError") v1 v2 (by decide +kernel) rfl) (vI h h18) (vI h h19) yk.e k2 yk.v yk.g him
theorem Xo{b:List Stmt}{hs:List ExceptHandler}{o fb:List Stmt}{tp:Pos}{d:DS.DS}(q0:A3 r q Γ yi gn xn A fl (b,hs,o,fb)=some d):PS X (.Try b hs o fb tp) (tS K d):=by
 obtain⟨c,h1,q0⟩:=j0 q0;obtain⟨x,h2,q0⟩:=j0 q0;obtain⟨z,h3,q0⟩:=j0 q0;obtain⟨i,h17,q0⟩:=j0 q0;obtain⟨m,h18,q0⟩:=j0 q0;obtain⟨r',h19,q0⟩:=j0 q0;obtain⟨w,q0⟩:=ja q0;obtain⟨l,a1,q0⟩:=j0 q0;obtain⟨d0,a2,ed⟩:=j5 q0;clear q0;obtain⟨w,w12⟩:=jb w;obtain⟨w,w11⟩:=jb w;obtain⟨w,w10⟩:=jb w;obtain⟨w,w9⟩:=jb w;obtain⟨w,w8⟩:=jb w;obtain⟨w,w7⟩:=jb w;obtain⟨w,w6⟩:=jb w;obtain⟨w,w5⟩:=jb w;obtain⟨w,w4⟩:=jb w;obtain⟨w,w3⟩:=jb w;obtain⟨w1,w2⟩:=jb w;obtain⟨_,_,_,_,e1⟩:=Fb h1;obtain⟨_,_,_,e2⟩:=Fc h2;obtain⟨_,_,_,_,_,_,_,_,_,_,_,_,_,_,_,e3⟩:=Fd h3;cases ec:c.2.2 with
 | nil=>rw[ec]at w12;cases w12
 | cons ea ces=>
  have e1:b=_:=e1;have e2:hs=_:=e2;have a2:q Γ b=some d0:=a2;rw[ec]at a1;rw[ec,eq_of_beq w3]at e1;rw[e1]at a2;rw[<-ed,e1,e2,e3,eq_of_beq w4,show o=[] from List.isEmpty_iff.mp w1,show fb=[] from List.isEmpty_iff.mp w2];exact bI R h hx Q yf yk XG hst hfr a1 a2 h17 h18 h19 w5 w6 w7 w8 w9 w10 fun e=>by rw[e]at w11;simp at w11
theorem Kq(hp:PassesOwn (model X.prog X.w) X.A X.env X.xe):∀{l:List Stmt} {d:DS.DS},Qz r q Γ yi gn xn A fl l=some d->jr X l (tS K d)
 | [],_,q0=>by cases q0;exact qZ
 | s::t,d,q0=>by
  unfold Qz at q0;split at q0
  ·rename_i x h0;obtain⟨d1,q1,q2⟩:=j0 q0;obtain⟨d2,q3,rfl⟩:=j5 q2;cases s <;> cases h0;exact gJ (Xo R h hx Q yf yk XG hst hfr q1) (Kq hp q3)
  ·obtain⟨d1,q1,q2⟩:=j0 q0;have h1:=kg R h Q hp q1;split at q2
   ·cases q2;exact q_ h1
   ·obtain⟨d2,q3,rfl⟩:=j5 q2;exact gJ h1 (Kq hp q3)
end
section
variable {P:Program} {w:World} {K:Fr} {mg:Str->Option Value} {base:Heap} {f C:Addr} {fd:FuncData} {n:Nat} {T:Tb} {d:De} {yi:Yi} {gn xn A fl:Str}
def A4(T:Tb)(yi:Yi)(gn xn A fl:Str)(d:De):Option DS.DS:=cG (wX (d.ps++d.lo) d.ps (defScope d.st)) (Qz (rc 30) (cQ (rc 30) 30) (gm T d false) yi gn xn A fl (defBody d.st))
theorem iG(XG:∀x v,W.nsIn K mainGlobals x=some (some v)->mg x=some v)(h:TOk P w K mg base n T)(yf:gf P w K mg base (·<=n) C fl gn yi)(yk:YxK K C xn A fl)(F:Fun K d.x d.q d.st f fd)(c:A4 T yi gn xn A fl d=some d.b)(hk:d.ks.length=d.ps.length):FnOk P w K mg base JH (n+1) f fd d.ps (uM K d.ks (yA d.ks d.lo.length d.b)):=
 Cg F (zj (ja c).1) hk (by simp) fun cdv A outer s H E hr=>by
  have ok:OkX K (gm T d false) (jP JH P w K mg base (d.ps++d.lo) d.q (defScope d.st) f cdv A outer s H E).nox:=aZ h (zj (ja c).1) hr;obtain⟨f',fd',a1,a2,a3,a4,a5⟩:=yf;exact Kq (Yd 30) ok rfl (fun l d q=>uo (Yd 30) ok PassesOwn.never 30 q) ⟨f',fd',a1,a2,a3,a4,hr.mono a5⟩ yk XG rfl rfl PassesOwn.never (ja c).2
end
section
variable {P:Program} {w:World} {K:Fr} {mg:Str->Option Value} {base:Heap} {C:Addr} {x fl:Str} {n m:Nat}
theorem V9.mono{z:Yi}{Cx:Addr}(h:V9 P w K mg base (·<=n) C Cx x z)(l:n<=m):V9 P w K mg base (·<=m) C Cx x z:=by
 obtain⟨f,fd,a,b,c,d,e⟩:=h;exact⟨f,fd,a,b,c,d,wSa e l⟩
theorem wY.mono(h:wY P w K mg base n x C fl)(l:n<=m):wY P w K mg base m x C fl:=by
 obtain⟨f,fd,ps,k,a,b,c,d,e,g,i,j⟩:=h;exact⟨f,fd,ps,k,a,b,c,d,e,g,i,wSa j l⟩
theorem gf.mono{g:Str}{y:Yi}(h:gf P w K mg base (·<=n) C fl g y)(l:n<=m):gf P w K mg base (·<=m) C fl g y:=by
 obtain⟨f,fd,a,b,c,d,e⟩:=h;exact⟨f,fd,a,b,c,d,wSa e l⟩
end
end CP
namespace DS
open PySem L2
theorem Y_{g:DG}{s:DS}{items:List D}(I:Nat->j6->Prop)(h:∀i d Z,items[i]?=some d->I i Z->∃Z1 Z2,g d Z=some Z1/\s Z1=some (.nx Z2)/\I (i+1) Z2):∀{Z:j6},I 0 Z->∃Z',J2 g s items Z=some (.nx Z')/\I items.length Z':=by
 induction items generalizing I with
 | nil=>intro Z h0;exact⟨Z,rfl,h0⟩
 | cons d ds ih=>
  intro Z h0;obtain⟨Z1,Z2,e1,e2,i2⟩:=h 0 d Z rfl h0;obtain⟨Z',e3,i3⟩:=ih (fun i=>I (i+1)) (fun i d' Z hd hi=>h (i+1) d' Z (by simpa using hd) hi) i2;exact⟨Z',by rw[J2,e1];show(s Z1).bind _=_;rw[e2];exact e3,i3⟩
theorem Jf{α:Type}{g:DG}{dc:DT}{de:DE}{Z:j6}(em:α->D)(f:α->D):∀{xs:List α},(∀x∈xs,∃Z1,g (em x) Z=some Z1/\dc Z1=some true/\de Z1=some (f x))->Y9 g dc de (xs.map em) Z=some (xs.map f)
 | [],_=>rfl
 | x::xs,h=>by
  obtain⟨Z1,e1,e2,e3⟩:=h x wNa;have ih:=Jf em f (xs:=xs) fun y hy=>h y (wMa _ hy);simp[Y9,e1,e2,e3,ih]
theorem QA{dt:DT}{s:DS}(I:j6->Prop)(m:j6->Nat)(h:∀Z,I Z->dt Z=some false \/ (dt Z=some true/\∃Z2,s Z=some (.nx Z2)/\I Z2/\m Z2 < m Z)):∀{n:Nat} {Z:j6},I Z->m Z < n->∃Z',uN dt s n Z=some (.nx Z')/\I Z'/\dt Z'=some false
 | 0,Z,_,hn=>vDa hn (Nat.not_lt_zero _)
 | n+1,Z,hi,hn=>by
  rcases h Z hi with e | ⟨e,Z2,e2,i2,hm⟩
  ·exact⟨Z,by simp[uN,e],hi,e⟩
  ·obtain⟨Z',e3,i3,f3⟩:=QA I m h (n:=n) i2 (by omega);exact⟨Z',by simp[uN,e,e2,e3],i3,f3⟩
noncomputable def t3(t:T3):D:=.tup [.int t.1,.int t.2.1,.int t.2.2]
structure Bk where
 size:Int
 kinds:List T3
 shuns:List T3
 bars:List T3
 dues:List T3
noncomputable def yZ(b:Bk):D:=.tup [.int b.size,.lst (b.kinds.map t3),.lst (b.shuns.map t3),.lst (b.bars.map t3),.lst (b.dues.map t3)]
noncomputable def JO(C:Addr)(b:Bk):D:=.ins C ["size", "kind_rows", "shun_rows", "bar_rows", "due_rows"] [.int b.size,.tup (b.kinds.map t3),.tup (b.shuns.map t3),.tup (b.bars.map t3),.tup (b.dues.map t3)]
theorem zD{α:Type}{xs:List α}{k:Int}{x:α}(h0:0<=k)(h:xs[k.toNat]?=some x):atI xs k=some x:=by
 have hk:=(List.getElem?_eq_some_iff.mp h).1;unfold atI zu;rw[if_pos h0,if_pos (by omega)];exact h
theorem Gb{α β:Type}{f:α->β}{xs:List α}{k:Int}{d:α}(h0:0<=k)(h1:k < (xs.length:Int)):atI (xs.map f) k=some (f (xs.getD k.toNat d)):=by
 have hk:k.toNat < xs.length:=by omega
 refine zD h0 ?_;rw[List.getElem?_map,List.getD_eq_getElem?_getD,List.getElem?_eq_getElem hk];rfl
theorem gg{n:Nat}{k:Int}(h0:0<=k)(h1:k < (n:Int)):zu n k=some k.toNat:=by unfold zu;rw[if_pos h0,if_pos h1]
theorem jk{n:Nat}(h:n<=10000):n < sizeLine:=Nat.lt_of_le_of_lt h (by decide)
noncomputable def fK(t:T3):Bool:=decide (1<=t.1)&&(decide (t.1<=t.2.1)&&(decide (t.2.1<=4)&&(decide (0<=t.2.2)&&decide (t.2.2<=4))))
noncomputable def fS(m:Int)(t:T3):Bool:=decide (0<=t.1)&&(decide (t.1 < m)&&(decide (0<=t.2.1)&&(decide (t.2.1 < m)&&(decide (1<=t.2.2)&&decide (t.2.2<=2)))))
noncomputable def fB(m s:Int)(t:T3):Bool:=decide (0<=t.1)&&(decide (t.1 < m)&&(decide (1<=t.2.1)&&(decide (t.2.1<=t.2.2)&&decide (t.2.2<=s))))
noncomputable def fC(s k h b d:Int):Bool:=decide (1<=s)&&(decide (s<=30)&&(decide (1<=k)&&(decide (k<=4)&&(decide (h<=20)&&(decide (b<=12)&&decide (d<=3))))))
def fR(s:Int)(k h b d:List T3):Bool:=k.all fK&&(h.all (fS k.length)&&(b++d).all (fB k.length s))
def JX(b:Bk):Bool:=fC b.size b.kinds.length b.shuns.length b.bars.length b.dues.length&&fR b.size b.kinds b.shuns b.bars b.dues
noncomputable def Gc(C:Addr)(b:Bk):OD:=.ins C ["size", "kind_rows", "shun_rows", "bar_rows", "due_rows"] [.int b.size,.tup (b.kinds.map t3),.tup (b.shuns.map t3),.tup (b.bars.map t3),.tup (b.dues.map t3)]
noncomputable def ef:D->Option T3
 | .tup [.int x,.int y,.int z]=>some (x,y,z)
 | _=>none
def Gd:List D->Option (List T3)
 | []=>some []
 | d::l=>(ef d).bind fun t=>(Gd l).bind fun ts=>some (t::ts)
theorem eg(t:T3):ef (t3 t)=some t:=rfl
theorem Kr:∀ts:List T3,Gd (ts.map t3)=some ts
 | []=>rfl
 | t::ts=>by rw[List.map_cons,Gd,eg,Kr ts];rfl
theorem eh{d:D}{t:T3}(h:ef d=some t):d=t3 t:=by
 cases d with
 | tup l=>
  rcases l with _ | ⟨a,_ | ⟨b,_ | ⟨c,_ | ⟨e,r⟩⟩⟩⟩ <;> try cases h
  all_goals (cases a <;> try cases h)
  all_goals (cases b <;> try cases h)
  all_goals (cases c <;> try cases h)
  rfl
 | _=>cases h
theorem wZ:∀{l:List D} {ts:List T3},Gd l=some ts->l=ts.map t3
 | [],_,h=>by cases h;rfl
 | d::l,ts,h=>by
  rw[Gd]at h;obtain⟨t,e1,h⟩:=j0 h;obtain⟨r,e2,h⟩:=j0 h;cases h;rw[List.map_cons,<-eh e1,<-wZ e2]
noncomputable def gI:D->Option Int
 | .int s=>some s
 | _=>none
def gL:D->Option (List T3)
 | .lst l=>Gd l
 | _=>none
theorem Fe{d:D}{s:Int}(h:gI d=some s):d=.int s:=by
 cases d <;> cases h;rfl
theorem kh{d:D}{ts:List T3}(h:gL d=some ts):d=.lst (ts.map t3):=by
 cases d with
 | lst l=>rw[wZ h]
 | _=>cases h
def Ge(C:Addr):List D->Option OD
 | [s,k,h,b,d]=>(gI s).bind fun s=>(gL k).bind fun k'=>(gL h).bind fun h'=>(gL b).bind fun b'=>(gL d).bind fun d'=>if JX ⟨s,k',h',b',d'⟩=true then some (Gc C ⟨s,k',h',b',d'⟩)else none
 | _=>none
theorem et{C:Addr}{ds:List D}{o:OD}(h:Ge C ds=some o):∃b:Bk,JX b=true/\ds=[.int b.size,.lst (b.kinds.map t3),.lst (b.shuns.map t3),.lst (b.bars.map t3),.lst (b.dues.map t3)]/\Gc C b=o:=by
 rcases ds with _ | ⟨s,_ | ⟨k,_ | ⟨hh,_ | ⟨b,_ | ⟨d,_ | ⟨e,r⟩⟩⟩⟩⟩⟩ <;> try cases h
 have h:((gI s).bind fun s=>(gL k).bind fun k'=>(gL hh).bind fun h'=>(gL b).bind fun b'=>(gL d).bind fun d'=>if JX ⟨s,k',h',b',d'⟩=true then some (Gc C ⟨s,k',h',b',d'⟩)else none)=some o:=h;obtain⟨s0,e0,h⟩:=j0 h;obtain⟨k',e1,h⟩:=j0 h;obtain⟨h',e2,h⟩:=j0 h;obtain⟨b',e3,h⟩:=j0 h;obtain⟨d',e4,h⟩:=j0 h;by_cases ok:JX ⟨s0,k',h',b',d'⟩=true
 ·rw[if_pos ok]at h;rw[Fe e0,kh e1,kh e2,kh e3,kh e4];exact⟨_,ok,rfl,vFa h⟩
 ·rw[if_neg ok]at h;cases h
@[simp] theorem Ik(t:T3):jj (t3 t) (.int 0)=some (.int t.1):=rfl
@[simp] theorem Il(t:T3):jj (t3 t) (.int 1)=some (.int t.2.1):=rfl
@[simp] theorem Im(t:T3):jj (t3 t) (.int 2)=some (.int t.2.2):=rfl
@[simp] theorem Io(b:Bk):jj (yZ b) (.int 0)=some (.int b.size):=rfl
@[simp] theorem Ip(b:Bk):jj (yZ b) (.int 1)=some (.lst (b.kinds.map t3)):=rfl
@[simp] theorem Iq(b:Bk):jj (yZ b) (.int 2)=some (.lst (b.shuns.map t3)):=rfl
@[simp] theorem Ir(b:Bk):jj (yZ b) (.int 3)=some (.lst (b.bars.map t3)):=rfl
@[simp] theorem Iu(b:Bk):jj (yZ b) (.int 4)=some (.lst (b.dues.map t3)):=rfl
@[simp] theorem Iv(t:T3):ZI (t3 t)=false:=rfl
end DS
namespace M
open DS
@[simp high] theorem l7(a:Sl)(l:j6):(a::l)[0]?=some a:=rfl
@[simp high] theorem l8(a x:Sl)(l:j6):List.set (a::l) 0 x=x::l:=rfl
@[simp high] theorem lf(a b:Sl)(l:j6):(a::b::l)[1]?=some b:=rfl
@[simp high] theorem lg(a b x:Sl)(l:j6):List.set (a::b::l) 1 x=a::x::l:=rfl
@[simp high] theorem li(a b c:Sl)(l:j6):(a::b::c::l)[2]?=some c:=rfl
@[simp high] theorem lj(a b c x:Sl)(l:j6):List.set (a::b::c::l) 2 x=a::b::x::l:=rfl
@[simp high] theorem lm(a b c d:Sl)(l:j6):(a::b::c::d::l)[3]?=some d:=rfl
@[simp high] theorem lq(a b c d x:Sl)(l:j6):List.set (a::b::c::d::l) 3 x=a::b::c::x::l:=rfl
@[simp high] theorem lu(a b c d e:Sl)(l:j6):(a::b::c::d::e::l)[4]?=some e:=rfl
@[simp high] theorem lv(a b c d e x:Sl)(l:j6):List.set (a::b::c::d::e::l) 4 x=a::b::c::d::x::l:=rfl
@[simp high] theorem ly(a b c d e f:Sl)(l:j6):(a::b::c::d::e::f::l)[5]?=some f:=rfl
@[simp high] theorem lA(a b c d e f x:Sl)(l:j6):List.set (a::b::c::d::e::f::l) 5 x=a::b::c::d::e::x::l:=rfl
@[simp high] theorem lB(a b c d e f g:Sl)(l:j6):(a::b::c::d::e::f::g::l)[6]?=some g:=rfl
@[simp high] theorem lC(a b c d e f g x:Sl)(l:j6):List.set (a::b::c::d::e::f::g::l) 6 x=a::b::c::d::e::f::x::l:=rfl
@[simp high] theorem lD(a b c d e f g h:Sl)(l:j6):(a::b::c::d::e::f::g::h::l)[7]?=some h:=rfl
@[simp high] theorem lE(a b c d e f g h x:Sl)(l:j6):List.set (a::b::c::d::e::f::g::h::l) 7 x=a::b::c::d::e::f::g::x::l:=rfl
@[simp high] theorem lF(a b c d e f g h i:Sl)(l:j6):(a::b::c::d::e::f::g::h::i::l)[8]?=some i:=rfl
@[simp high] theorem lG(a b c d e f g h i x:Sl)(l:j6):List.set (a::b::c::d::e::f::g::h::i::l) 8 x=a::b::c::d::e::f::g::h::x::l:=rfl
@[simp high] theorem lH(a b c d e f g h i j:Sl)(l:j6):(a::b::c::d::e::f::g::h::i::j::l)[9]?=some j:=rfl
@[simp high] theorem lI(a b c d e f g h i j x:Sl)(l:j6):List.set (a::b::c::d::e::f::g::h::i::j::l) 9 x=a::b::c::d::e::f::g::h::i::x::l:=rfl
@[simp high] theorem Ix(a b c d e f g h i j k:Sl)(l:j6):(a::b::c::d::e::f::g::h::i::j::k::l)[10]?=some k:=rfl
@[simp high] theorem Iy(a b c d e f g h i j k x:Sl)(l:j6):List.set (a::b::c::d::e::f::g::h::i::j::k::l) 10 x=a::b::c::d::e::f::g::h::i::j::x::l:=rfl
@[simp high] theorem Iz(a b c d e f g h i j k m:Sl)(l:j6):(a::b::c::d::e::f::g::h::i::j::k::m::l)[11]?=some m:=rfl
@[simp high] theorem IA(a b c d e f g h i j k m x:Sl)(l:j6):List.set (a::b::c::d::e::f::g::h::i::j::k::m::l) 11 x=a::b::c::d::e::f::g::h::i::j::k::x::l:=rfl
@[simp high] theorem IB(a b c d e f g h i j k m n:Sl)(l:j6):(a::b::c::d::e::f::g::h::i::j::k::m::n::l)[12]?=some n:=rfl
@[simp high] theorem IC(a b c d e f g h i j k m n x:Sl)(l:j6):List.set (a::b::c::d::e::f::g::h::i::j::k::m::n::l) 12 x=a::b::c::d::e::f::g::h::i::j::k::m::x::l:=rfl
@[simp high] theorem IE(a b c d e f g h i j k m n o:Sl)(l:j6):(a::b::c::d::e::f::g::h::i::j::k::m::n::o::l)[13]?=some o:=rfl
@[simp high] theorem IG(a b c d e f g h i j k m n o x:Sl)(l:j6):List.set (a::b::c::d::e::f::g::h::i::j::k::m::n::o::l) 13 x=a::b::c::d::e::f::g::h::i::j::k::m::n::x::l:=rfl
@[simp high] theorem IH(a b c d e f g h i j k m n o p:Sl)(l:j6):(a::b::c::d::e::f::g::h::i::j::k::m::n::o::p::l)[14]?=some p:=rfl
@[simp high] theorem II(a b c d e f g h i j k m n o p x:Sl)(l:j6):List.set (a::b::c::d::e::f::g::h::i::j::k::m::n::o::p::l) 14 x=a::b::c::d::e::f::g::h::i::j::k::m::n::o::x::l:=rfl
@[simp high] theorem IJ(a b c d e f g h i j k m n o p q:Sl)(l:j6):(a::b::c::d::e::f::g::h::i::j::k::m::n::o::p::q::l)[15]?=some q:=rfl
@[simp high] theorem IK(a b c d e f g h i j k m n o p q x:Sl)(l:j6):List.set (a::b::c::d::e::f::g::h::i::j::k::m::n::o::p::q::l) 15 x=a::b::c::d::e::f::g::h::i::j::k::m::n::o::p::x::l:=rfl
@[simp high] theorem IL(a b c d e f g h i j k m n o p q r:Sl)(l:j6):(a::b::c::d::e::f::g::h::i::j::k::m::n::o::p::q::r::l)[16]?=some r:=rfl
@[simp high] theorem IM(a b c d e f g h i j k m n o p q r x:Sl)(l:j6):List.set (a::b::c::d::e::f::g::h::i::j::k::m::n::o::p::q::r::l) 16 x=a::b::c::d::e::f::g::h::i::j::k::m::n::o::p::q::x::l:=rfl
@[simp high] theorem IO(a b c d e f g h i j k m n o p q r s:Sl)(l:j6):(a::b::c::d::e::f::g::h::i::j::k::m::n::o::p::q::r::s::l)[17]?=some s:=rfl
@[simp high] theorem IP(a b c d e f g h i j k m n o p q r s x:Sl)(l:j6):List.set (a::b::c::d::e::f::g::h::i::j::k::m::n::o::p::q::r::s::l) 17 x=a::b::c::d::e::f::g::h::i::j::k::m::n::o::p::q::r::x::l:=rfl
@[simp high] theorem IQ(a b c d e f g h i j k m n o p q r s t:Sl)(l:j6):(a::b::c::d::e::f::g::h::i::j::k::m::n::o::p::q::r::s::t::l)[18]?=some t:=rfl
@[simp high] theorem IR(a b c d e f g h i j k m n o p q r s t x:Sl)(l:j6):List.set (a::b::c::d::e::f::g::h::i::j::k::m::n::o::p::q::r::s::t::l) 18 x=a::b::c::d::e::f::g::h::i::j::k::m::n::o::p::q::r::s::x::l:=rfl
@[simp high] theorem IS(a b c d e f g h i j k m n o p q r s t u:Sl)(l:j6):(a::b::c::d::e::f::g::h::i::j::k::m::n::o::p::q::r::s::t::u::l)[19]?=some u:=rfl
@[simp high] theorem IT(a b c d e f g h i j k m n o p q r s t u x:Sl)(l:j6):List.set (a::b::c::d::e::f::g::h::i::j::k::m::n::o::p::q::r::s::t::u::l) 19 x=a::b::c::d::e::f::g::h::i::j::k::m::n::o::p::q::r::s::t::x::l:=rfl
@[simp high] theorem IU(a b c d e f g h i j k m n o p q r s t u v:Sl)(l:j6):(a::b::c::d::e::f::g::h::i::j::k::m::n::o::p::q::r::s::t::u::v::l)[20]?=some v:=rfl
@[simp high] theorem IV(a b c d e f g h i j k m n o p q r s t u v x:Sl)(l:j6):List.set (a::b::c::d::e::f::g::h::i::j::k::m::n::o::p::q::r::s::t::u::v::l) 20 x=a::b::c::d::e::f::g::h::i::j::k::m::n::o::p::q::r::s::t::u::x::l:=rfl
@[simp high] theorem IW(a b c d e f g h i j k m n o p q r s t u v w:Sl)(l:j6):(a::b::c::d::e::f::g::h::i::j::k::m::n::o::p::q::r::s::t::u::v::w::l)[21]?=some w:=rfl
@[simp high] theorem IX(a b c d e f g h i j k m n o p q r s t u v w x:Sl)(l:j6):List.set (a::b::c::d::e::f::g::h::i::j::k::m::n::o::p::q::r::s::t::u::v::w::l) 21 x=a::b::c::d::e::f::g::h::i::j::k::m::n::o::p::q::r::s::t::u::v::x::l:=rfl
@[elab_as_elim] theorem IY{α:Type}{motive:List α->Prop}(us:List α)(hl:us.length=0)(h:motive []):motive us:=by
 cases us with
 | nil=>exact h 
 | cons y us=>simp at hl
@[elab_as_elim] theorem YN{α:Type}{motive:List α->Prop}(us:List α)(hl:us.length=1)(h:∀x0,motive [x0]):motive us:=by
 cases us with
 | nil=>simp at hl
 | cons x0 us=>
  cases us with
  | nil=>exact h x0
  | cons y us=>simp at hl
@[elab_as_elim] theorem Gf{α:Type}{motive:List α->Prop}(us:List α)(hl:us.length=2)(h:∀x0 x1,motive [x0,x1]):motive us:=by
 cases us with
 | nil=>simp at hl
 | cons x0 us=>
  cases us with
  | nil=>simp at hl
  | cons x1 us=>
   cases us with
   | nil=>exact h x0 x1
   | cons y us=>simp at hl
@[elab_as_elim] theorem eA{α:Type}{motive:List α->Prop}(us:List α)(hl:us.length=3)(h:∀x0 x1 x2,motive [x0,x1,x2]):motive us:=by
 cases us with
 | nil=>simp at hl
 | cons x0 us=>
  cases us with
  | nil=>simp at hl
  | cons x1 us=>
   cases us with
   | nil=>simp at hl
   | cons x2 us=>
    cases us with
    | nil=>exact h x0 x1 x2
    | cons y us=>simp at hl
@[elab_as_elim] theorem iH{α:Type}{motive:List α->Prop}(us:List α)(hl:us.length=4)(h:∀x0 x1 x2 x3,motive [x0,x1,x2,x3]):motive us:=by
 cases us with
 | nil=>simp at hl
 | cons x0 us=>
  cases us with
  | nil=>simp at hl
  | cons x1 us=>
   cases us with
   | nil=>simp at hl
   | cons x2 us=>
    cases us with
    | nil=>simp at hl
    | cons x3 us=>
     cases us with
     | nil=>exact h x0 x1 x2 x3
     | cons y us=>simp at hl
@[elab_as_elim] theorem Xp{α:Type}{motive:List α->Prop}(us:List α)(hl:us.length=5)(h:∀x0 x1 x2 x3 x4,motive [x0,x1,x2,x3,x4]):motive us:=by
 cases us with
 | nil=>simp at hl
 | cons x0 us=>
  cases us with
  | nil=>simp at hl
  | cons x1 us=>
   cases us with
   | nil=>simp at hl
   | cons x2 us=>
    cases us with
    | nil=>simp at hl
    | cons x3 us=>
     cases us with
     | nil=>simp at hl
     | cons x4 us=>
      cases us with
      | nil=>exact h x0 x1 x2 x3 x4
      | cons y us=>simp at hl
@[elab_as_elim] theorem iI{α:Type}{motive:List α->Prop}(us:List α)(hl:us.length=6)(h:∀x0 x1 x2 x3 x4 x5,motive [x0,x1,x2,x3,x4,x5]):motive us:=by
 cases us with
 | nil=>simp at hl
 | cons x0 us=>
  cases us with
  | nil=>simp at hl
  | cons x1 us=>
   cases us with
   | nil=>simp at hl
   | cons x2 us=>
    cases us with
    | nil=>simp at hl
    | cons x3 us=>
     cases us with
     | nil=>simp at hl
     | cons x4 us=>
      cases us with
      | nil=>simp at hl
      | cons x5 us=>
       cases us with
       | nil=>exact h x0 x1 x2 x3 x4 x5
       | cons y us=>simp at hl
@[elab_as_elim] theorem IZ{α:Type}{motive:List α->Prop}(us:List α)(hl:us.length=7)(h:∀x0 x1 x2 x3 x4 x5 x6,motive [x0,x1,x2,x3,x4,x5,x6]):motive us:=by
 cases us with
 | nil=>simp at hl
 | cons x0 us=>
  cases us with
  | nil=>simp at hl
  | cons x1 us=>
   cases us with
   | nil=>simp at hl
   | cons x2 us=>
    cases us with
    | nil=>simp at hl
    | cons x3 us=>
     cases us with
     | nil=>simp at hl
     | cons x4 us=>
      cases us with
      | nil=>simp at hl
      | cons x5 us=>
       cases us with
       | nil=>simp at hl
       | cons x6 us=>
        cases us with
        | nil=>exact h x0 x1 x2 x3 x4 x5 x6
        | cons y us=>simp at hl
end M
noncomputable section
namespace M
open PySem L2 DS CP
noncomputable def PT:List Str:=["kind", "shun", "bar", "due"]
noncomputable def Ys:DS.DG:=(gN 6)
def Jz(C:Addr):DS.DS:=(jC (jy (d2 vF (dV 5) (dK (.int 0)))) (j9 (zh 2 (d2 jK (dV 5) (dK (.int 1009))))
 (jA 5 (d2 kM (dV 5) (dK (.int 1009))))) jL)
noncomputable def yb:DS.DG:=(gN 4)
def yd(C:Addr):DS.DS:=(j9 (jA 3 (d2 jK (d2 jG (d2 jG (d2 y9 (dV 3) (dK (.int 48271))) (d2 jK (dV 4) (dK (.int 1000003)))) (dK (.int 11))) (dK (.int 2147483647))))
 (j9 (jA 5 (d2 kL (dV 4) (d2 xy (dK (.int 10)) (dK (.int 18)))))
 (j9 (jC (jy (d2 UO (dV 5) (dK (.int 0)))) (zh 2 (d2 jK (dV 4) (dK (.int 9973)))) jL)
 (JL (YH (dK (.int 60))) Ys (Jz C)))))
def JA(C:Addr):DS.DT:=(jy (d2 UO (jd Jm [(false,(dV 2))]) (dV 1)))
def Yt(C:Addr):DS.DS:=(j9 (jA 3 (d2 jK (d2 jG (d2 jG (d2 jG (d2 y9 (dV 3) (dV 3)) (d2 y9 (dK (.int 69621)) (dV 3))) (d2 y9 (dK (.int 7)) (jd Jm [(false,(dV 2))]))) (dK (.int 5))) (dK (.int 2147483629))))
 (zh 2 (d2 jK (d2 kM (dV 3) (dK (.int 1013))) (dK (.int 9973)))))
def za(C:Addr):DS.DS:=(j9 (YI 2 (jB []))
 (j9 (jA 3 (dK (.int 29)))
 (j9 (JL (JI (dL (yN (dV 0) (fun _=>some none) (fun Z=>((dK (.int 63)) Z).bind yx)))) yb (yd C))
 (j9 (uN (JA C) (Yt C) 20000)
 (vY (yN (dV 2) (fun _=>some none) (fun Z=>((dV 1) Z).bind yx)))))))
def zb(C:Addr):List D->Option OD:=uO [false,false] 5 (za C)
noncomputable def Ye:DS.DG:=(gT 3 (gC (gN 4) (gC (gN 5) (gC (gN 6) gZ))))
def Yg(C:Addr):DS.DS:=(zh 1 (gP [(ZO (dC 2)),(dK (.str " ")),(ZO (dC 4)),(dK (.str " ")),(ZO (dC 5)),(dK (.str " ")),(ZO (dC 6))]))
noncomputable def Yh:DS.DG:=(gT 2 (gC (gN 2) (gC (gN 3) gZ)))
def Yj(C:Addr):DS.DS:=(JL (JI (dP 3)) Ye (Yg C))
def zk(C:Addr):DS.DS:=(j9 (YI 1 (jB [(true,(d2 jG (dK (.str "size ")) (jd zG [(false,(d2 jj (dV 0) (dK (.int 0))))])))]))
 (j9 (JL (kP (dL (jB [(true,(dK (.str "kind"))),(true,(dK (.str "shun"))),(true,(dK (.str "bar"))),(true,(dK (.str "due")))])) (k6 (dV 0) (fun Z=>((dK (.int 1)) Z).bind yx) (fun _=>some none))) Yh (Yj C))
 (UW 1)))
def vc(C:Addr):List D->Option OD:=uO [false] 6 (zk C)
noncomputable def Zu:DS.DG:=(gN 5)
def Yu(C:Addr):DS.DS:=(j9 (jA 6 (d2 jG (dK (.int 1)) (d2 jK (d2 jj (dV 3) (d2 jG (d2 y9 (dK (.int 3)) (dV 5)) (dK (.int 1)))) (dV 1))))
 (zh 4 (YD [(true,(d2 jK (d2 jj (dV 3) (d2 y9 (dK (.int 3)) (dV 5))) (dV 0))),(true,(dC 6)),(true,(d2 jG (dV 6) (d2 jK (d2 jj (dV 3) (d2 jG (d2 y9 (dK (.int 3)) (dV 5)) (dK (.int 2)))) (d2 jG (d2 kL (dV 1) (dV 6)) (dK (.int 1))))))])))
def zc(C:Addr):DS.DS:=(j9 (YI 4 (jB []))
 (j9 (JL (YH (dV 2)) Zu (Yu C))
 (UW 4)))
def yP(C:Addr):List D->Option OD:=uO [false,false,false,false] 3 (zc C)
noncomputable def Vm:DS.DG:=(gN 5)
def Yk(C:Addr):DS.DS:=(j9 (jA 6 (d2 jG (dK (.int 1)) (d2 jj (dL (jB [(true,(dK (.int 0))),(true,(dK (.int 0))),(true,(dK (.int 1))),(true,(dK (.int 0))),(true,(dK (.int 2))),(true,(dK (.int 3))),(true,(dK (.int 1)))])) (d2 jK (d2 jj (dV 0) (d2 jG (dK (.int 2)) (dV 5))) (dK (.int 7))))))
 (j9 (jA 7 (d2 jj (dL (jB [(true,(dK (.int 0))),(true,(dK (.int 1))),(true,(dK (.int 2))),(true,(dK (.int 0))),(true,(dK (.int 3))),(true,(dK (.int 4))),(true,(dK (.int 1)))])) (d2 jK (d2 jj (dV 0) (d2 jG (dK (.int 10)) (dV 5))) (dK (.int 7)))))
 (j9 (jC (Jw (ug (jy (d2 JU (dV 2) (dK (.int 4)))) (jy (d2 vF (dV 3) (dK (.int 6))))) (jy (d2 vF (dV 3) (dK (.int 12))))) (jA 7 (d2 jK (dV 7) (dK (.int 3)))) jL)
 (zh 4 (YD [(true,(dC 6)),(true,(d2 jG (dV 6) (d2 jK (d2 jj (dV 0) (d2 jG (dK (.int 6)) (dV 5))) (d2 kL (dK (.int 5)) (dV 6))))),(true,(dC 7))])))))
noncomputable def Vn:DS.DG:=(gN 5)
def zH(C:Addr):DS.DS:=(j9 (jA 9 (d2 jG (d2 jG (dK (.int 44)) (d2 y9 (dK (.int 3)) (d2 jK (dV 5) (dK (.int 5))))) (d2 kM (dV 5) (dK (.int 5)))))
 (zh 8 (YD [(true,(d2 jK (d2 jj (dV 0) (dV 9)) (dV 2))),(true,(d2 jK (d2 jj (dV 0) (d2 jG (dV 9) (dK (.int 1)))) (dV 2))),(true,(d2 jG (dK (.int 1)) (d2 jK (d2 jj (dV 0) (d2 jG (dV 9) (dK (.int 2)))) (dK (.int 2)))))])))
def vd(C:Addr):DS.DS:=(j9 (jA 2 (d2 jj (dL (jB [(true,(dK (.int 2))),(true,(dK (.int 3))),(true,(dK (.int 3))),(true,(dK (.int 2))),(true,(dK (.int 1))),(true,(dK (.int 4))),(true,(dK (.int 3)))])) (d2 jK (d2 jj (dV 0) (dK (.int 0))) (dK (.int 7)))))
 (j9 (jA 3 (d2 jG (dK (.int 1)) (d2 jK (d2 jj (dV 0) (dK (.int 1))) (dV 1))))
 (j9 (YI 4 (jB []))
 (j9 (JL (YH (dV 2)) Vm (Yk C))
 (j9 (YI 8 (jB []))
 (j9 (JL (YH (d2 jj (dL (jB [(true,(dK (.int 0))),(true,(dK (.int 0))),(true,(dK (.int 1))),(true,(dK (.int 2))),(true,(dK (.int 3))),(true,(dK (.int 0))),(true,(dK (.int 20)))])) (d2 jK (d2 jj (dV 0) (dK (.int 14))) (dK (.int 7))))) Vn (zH C))
 (j9 (jA 10 (dL (yH 1 [0] (YH (dK (.int 36))) (gN 0) jS (d2 jG (d2 jj (dV 1) (d2 jG (dK (.int 16)) (d2 jK (d2 y9 (dK (.int 5)) (dV 0)) (dK (.int 9))))) (d2 y9 (dK (.int 7)) (dV 0))))))
 (j9 (jA 11 (dL (yz (yP C) [(false,(dV 2)),(false,(dV 3)),(false,(d2 jj (dL (jB [(true,(dK (.int 0))),(true,(dK (.int 1))),(true,(dK (.int 0))),(true,(dK (.int 2))),(true,(dK (.int 12))),(true,(dK (.int 0)))])) (d2 jK (d2 jj (dV 0) (dK (.int 15))) (dK (.int 6))))),(false,(dV 10))])))
 (j9 (jA 12 (d2 jj (dL (jB [(true,(dK (.int 0))),(true,(dK (.int 1))),(true,(dK (.int 0))),(true,(dK (.int 2))),(true,(dK (.int 3))),(true,(dK (.int 1)))])) (d2 jK (d2 jj (dV 0) (dK (.int 25))) (dK (.int 6)))))
 (j9 (jC (ug (jy (d2 vF (dV 3) (dK (.int 5)))) (jy (d2 vF (dV 2) (dK (.int 2))))) (jA 12 (d2 jK (dV 12) (dK (.int 3)))) jL)
 (VJ 4 (VJ 8 (jv (YD [(true,(dC 3)),(true,(dC 4)),(true,(dC 8)),(true,(dC 11)),(true,(dL (yz (yP C) [(false,(dV 2)),(false,(dV 3)),(false,(dV 12)),(false,(dL (yN (dV 0) (fun Z=>((dK (.int 26)) Z).bind yx) (fun Z=>((dK (.int 35)) Z).bind yx))))])))]))))))))))))))
def ve(C:Addr):List D->Option D:=yA [false,false] 11 (vd C)
def Y5(C:Addr):DS.DS:=(j9 (jA 1 (dK (.str " !\"#$&'()*+,-./0123456789:;<=>?@ABCDEFGHIJKLMNOPQRSTUVWXYZ[\\]^_`")))
 (j9 (jA 1 (d2 jG (dV 1) (dK (.str "abcdefghijklmnopqrstuvwxyz{|}~\n"))))
 (jv (d2 Zo (dV 1) (d2 jK (dV 0) (dK (.int 95)))))))
def uT(C:Addr):List D->Option D:=yA [false] 1 (Y5 C)
def Vo(C:Addr):DS.DS:=(j9 (YI 2 (ZH Jx (dV 0) (dK (.str "\n"))))
 (j9 (jA 3 (d2 jK (d2 jj (dV 1) (dK (.int 1))) (d2 jG (jd V1 [(false,(dV 0))]) (dK (.int 1)))))
 (j9 (jA 4 (d2 jK (d2 jj (dV 1) (dK (.int 1))) (jd Jm [(false,(dV 2))])))
 (j9 (jA 5 (d2 jK (d2 jj (dV 1) (dK (.int 2))) (jd Jm [(false,(dV 2))])))
 (j9 (jA 6 (d2 jK (d2 jj (dV 1) (dK (.int 0))) (dK (.int 9))))
 (j9 (jC (jy (d2 UO (dV 6) (dK (.int 3)))) (jv (d2 jG (d2 jG (ke (dV 0) (fun _=>some none) (fun Z=>((dV 3) Z).bind yx)) (d2 jj (dL (jB [(true,(jd (uT C) [(false,(d2 jj (dV 1) (dK (.int 3))))])),(true,(dK (.str "")))])) (jd Z0 [(false,(d2 JU (dV 6) (dK (.int 1))))]))) (ke (dV 0) (fun Z=>((d2 jG (dV 3) (jd Z0 [(false,(d2 vF (dV 6) (dK (.int 0))))])) Z).bind yx) (fun _=>some none)))) jL)
 (j9 (jC (jy (d2 JU (dV 6) (dK (.int 3)))) (WU 2 (dV 4)) jL)
 (j9 (jC (jy (d2 JU (dV 6) (dK (.int 4)))) (gR 2 (dV 5) (d2 jj (dV 2) (dV 4))) jL)
 (j9 (jC (jy (d2 JU (dV 6) (dK (.int 5)))) (uj 2 (dV 5) (dV 4)) jL)
 (j9 (jC (jy (d2 JU (dV 6) (dK (.int 6)))) (j9 (jA 7 (dL (yH 1 [1] (YH (dK (.int 3))) (gN 0) jS (d2 jj (dL (jB [(true,(dK (.int 0))),(true,(dK (.int 1))),(true,(dK (.int 2))),(true,(dK (.int 3))),(true,(dK (.int 4))),(true,(dK (.int 5))),(true,(dK (.int 30))),(true,(dK (.int 31))),(true,(dK (.int 9999))),(true,(dK (.int 10000)))])) (d2 jK (d2 jj (dV 1) (d2 jG (dK (.int 4)) (dV 0))) (dK (.int 10)))))))
 (j9 (jA 8 (d2 jj (dL (jB [(true,(dK (.str "kind"))),(true,(dK (.str "shun"))),(true,(dK (.str "bar"))),(true,(dK (.str "due"))),(true,(dK (.str "size"))),(true,(dK (.str "Kind")))])) (d2 jK (d2 jj (dV 1) (dK (.int 3))) (dK (.int 6)))))
 (gR 2 (d2 jG (dV 4) (dK (.int 1))) (d2 V0 (dK (.str " ")) (dL (ZH gF (dL (jB [(true,(dC 8))])) (dL (yH 1 [] (JI (dP 7)) (gN 0) jS (jd zG [(false,(dV 0))]))))))))) jL)
 (j9 (jC (jy (d2 JU (dV 6) (dK (.int 7)))) (j9 (YI 9 (ZH Jx (d2 jj (dV 2) (dV 4)) (dK (.str " "))))
 (j9 (jA 10 (d2 jK (d2 jj (dV 1) (dK (.int 3))) (jd Jm [(false,(dV 9))])))
 (j9 (UV 9 (dV 10) (d2 jj (dL (jB [(true,(dK (.str ""))),(true,(d2 jG (d2 jG (d2 jj (dV 9) (dV 10)) (dK (.str " "))) (d2 jj (dV 9) (dV 10)))),(true,(d2 jG (dK (.str "0")) (d2 jj (dV 9) (dV 10)))),(true,(dK (.str "-1"))),(true,(dK (.str "31"))),(true,(dK (.str "4")))])) (d2 jK (d2 jj (dV 1) (dK (.int 4))) (dK (.int 6)))))
 (UV 2 (dV 4) (d2 V0 (dK (.str " ")) (dV 9)))))) jL)
 (j9 (jC (jy (d2 JU (dV 6) (dK (.int 8)))) (jv (d2 jj (dL (jB [(true,(dK (.str ""))),(true,(dK (.str "size 3"))),(true,(dK (.str "size 0"))),(true,(dK (.str "size 31\nkind 1 1 0"))),(true,(dK (.str "kind 1 1 0"))),(true,(dK (.str "size 3\nshun 0 0 1")))])) (d2 jK (d2 jj (dV 1) (dK (.int 3))) (dK (.int 6))))) jL)
 (jv (d2 V0 (dK (.str "\n")) (dV 2)))))))))))))))
def yn(C:Addr):List D->Option D:=yA [false,false] 9 (Vo C)
def zI(C:Addr):DS.DS:=(j9 (jC (Jw (J0 (jy (J1 J9 J9 (dK (.int 1)) (jd V1 [(false,(dV 0))]) (dK (.int 4))))) (J0 (y0 (jd v3 [(false,(dL (yH 1 [] (WN (dP 0)) (gN 0) jS (d2 gQ (dV 0) (dK (.str "0123456789"))))))])))) (jv (gH (dK (.int 1)))) jL)
 (j9 (jC (ug (jy (d2 vF (jd V1 [(false,(dV 0))]) (dK (.int 1)))) (jy (d2 JU (d2 Zo (dV 0) (dK (.int 0))) (dK (.str "0"))))) (jv (gH (dK (.int 1)))) jL)
 (jv (jd zZ [(false,(dV 0))]))))
def Yl(C:Addr):List D->Option D:=yA [false] 0 (zI C)
def ZT(C:Addr):DS.DS:=(j9 (jA 1 (dL (ZH Jx (dV 0) (dK (.str " ")))))
 (j9 (jA 2 (dL (jB [(true,(dK (.str "size"))),(true,(dK (.str "kind"))),(true,(dK (.str "shun"))),(true,(dK (.str "bar"))),(true,(dK (.str "due")))])))
 (j9 (jA 3 (dL (yH 1 [] (JI (dL (yN (dV 1) (fun Z=>((dK (.int 1)) Z).bind yx) (fun _=>some none)))) (gN 0) jS (jd (Yl C) [(false,(dV 0))]))))
 (j9 (jC (Jw (jy (d2 (GD true) (d2 jj (dV 1) (dK (.int 0))) (dV 2))) (jy (d2 (GD false) (gH (dK (.int 1))) (dV 3)))) (jv (dK .non)) jL)
 (j9 (jC (jy (d2 zy (jd Jm [(false,(dV 3))]) (d2 jG (dK (.int 1)) (d2 y9 (dK (.int 2)) (jd Z0 [(false,(d2 zy (d2 jj (dV 1) (dK (.int 0))) (dK (.str "size"))))]))))) (jv (dK .non)) jL)
 (jv (YD [(true,(d2 gS (dV 2) (d2 jj (dV 1) (dK (.int 0))))),(true,(jd JR [(false,(dV 3))]))])))))))
def YO(C:Addr):List D->Option D:=yA [false] 3 (ZT C)
noncomputable def Vp:DS.DG:=(gT 3 (gC (gN 6) (gC (gN 7) (gC (gN 8) gZ))))
def zJ(C:Addr):DS.DS:=(jC (Jw (J0 (jy (yM J9 J9 J9 (dK (.int 1)) (dV 6) (dV 7) (dK (.int 4))))) (jy (d2 vF (dV 8) (dK (.int 4))))) (jv (dK (.bl false))) jL)
noncomputable def Vq:DS.DG:=(gT 3 (gC (gN 9) (gC (gN 10) (gC (gN 11) gZ))))
def zK(C:Addr):DS.DS:=(jC (Jw (jy (d2 ae (jd WG [(false,(dV 9)),(false,(dV 10))]) (dV 5))) (jy (d2 (GD true) (dV 11) (dL (jB [(true,(dK (.int 1))),(true,(dK (.int 2)))]))))) (jv (dK (.bl false))) jL)
noncomputable def Vr:DS.DG:=(gT 3 (gC (gN 12) (gC (gN 13) (gC (gN 14) gZ))))
def zL(C:Addr):DS.DS:=(jC (Jw (jy (d2 ae (dV 12) (dV 5))) (J0 (jy (yM J9 J9 J9 (dK (.int 1)) (dV 13) (dV 14) (dV 0))))) (jv (dK (.bl false))) jL)
def uU(C:Addr):DS.DS:=(j9 (jA 5 (jd Jm [(false,(dV 1))]))
 (j9 (jC (Jw (J0 (jy (J1 J9 J9 (dK (.int 1)) (dV 0) (dK (.int 30))))) (Jw (J0 (jy (J1 J9 J9 (dK (.int 1)) (dV 5) (dK (.int 4))))) (Jw (jy (d2 vF (jd Jm [(false,(dV 2))]) (dK (.int 20)))) (Jw (jy (d2 vF (jd Jm [(false,(dV 3))]) (dK (.int 12)))) (jy (d2 vF (jd Jm [(false,(dV 4))]) (dK (.int 3)))))))) (jv (dK (.bl false))) jL)
 (j9 (JL (JI (dP 1)) Vp (zJ C))
 (j9 (JL (JI (dP 2)) Vq (zK C))
 (j9 (JL (JI (dL (ZH gF (dV 3) (dV 4)))) Vr (zL C))
 (jv (dK (.bl true))))))))
def vf(C:Addr):List D->Option D:=yA [false,false,false,false,false] 10 (uU C)
def YQ(C:Addr):DS.DS:=(K3 6 (WE (jy (d2 JU (dV 3) (dK (.int 0)))) (dL (jB [(true,(YD [(true,(dK (.int 1))),(true,(dK (.int 1))),(true,(dK (.int 0)))]))])) (d2 jj (dV 1) (dK (.int 1)))) (J0 (y0 (jd (vf C) [(false,(d2 jj (d2 jj (d2 jj (dV 1) (dK (.int 0))) (dK (.int 0))) (dK (.int 0)))),(false,(dV 6)),(false,(d2 jj (dV 1) (dK (.int 2)))),(false,(d2 jj (dV 1) (dK (.int 3)))),(false,(d2 jj (dV 1) (dK (.int 4))))]))) (jv (YD [(true,(dK .non)),(true,(dC 3))])))
noncomputable def Ja:DS.DG:=(gT 2 (gC (gN 3) (gC (gN 4) gZ)))
def jJ(C:Addr):DS.DS:=(j9 (jA 5 (jd (YO C) [(false,(dV 4))]))
 (j9 (jC (Jw (jy (d2 yu (dV 5) (dK .non))) (Jw (jy (d2 UO (d2 jj (dV 5) (dK (.int 0))) (dV 2))) (jy (d2 zy (d2 JU (d2 jj (dV 5) (dK (.int 0))) (dK (.int 0))) (d2 JU (dV 3) (dK (.int 0))))))) (jv (YD [(true,(dK .non)),(true,(dC 3))])) jL)
 (j9 (jA 2 (d2 jj (dV 5) (dK (.int 0))))
 (j9 (uh 1 (dV 2) (d2 jj (dV 5) (dK (.int 1))))
 (j9 (YQ C)
 jL)))))
def uV(C:Addr):DS.DS:=(j9 (v_ 1 [(jB []),(jB []),(jB []),(jB []),(jB [])])
 (j9 (jA 2 (dK (.int 0)))
 (j9 (JL (UT (dP 0)) Ja (jJ C))
 (j9 (jC (fun Z=>(jy (d2 JU (d2 jj (dV 1) (dK (.int 1))) (dL (jB [])))) (frz Z)) (jv (YD [(true,(dK .non)),(true,(jd Jm [(false,(dV 0))]))])) jL)
 (fun Z=>(jv (YD [(true,(YD [(true,(d2 jj (d2 jj (d2 jj (dV 1) (dK (.int 0))) (dK (.int 0))) (dK (.int 0)))),(true,(d2 jj (dV 1) (dK (.int 1)))),(true,(d2 jj (dV 1) (dK (.int 2)))),(true,(d2 jj (dV 1) (dK (.int 3)))),(true,(d2 jj (dV 1) (dK (.int 4))))])),(true,(gH (dK (.int 1))))])) (frz Z))))))
def uW(C:Addr):List D->Option D:=yA [false] 6 (uV C)
def Y6(C:Addr):DS.DS:=(j9 (jC (Jw (J0 (jy (J1 J9 J9 (dK (.int 1)) (jd V1 [(false,(dV 0))]) (dK (.int 4))))) (J0 (y0 (jd v3 [(false,(dL (yH 1 [] (WN (dP 0)) (gN 0) jS (J1 VP VP (dK (.str "0")) (dV 0) (dK (.str "9"))))))])))) (jv (dK (.bl false))) jL)
 (jv (WD (d2 JU (dV 0) (dK (.str "0"))) (d2 zy (d2 Zo (dV 0) (dK (.int 0))) (dK (.str "0"))))))
def Jv(C:Addr):List D->Option D:=yA [false] 0 (Y6 C)
def vg(C:Addr):DS.DS:=(j9 (VL (d2 UY (dV 0) (dK (.str " "))) (gT 3 (gC (gN 1) (gC (gN 2) (gC (gN 3) gZ)))))
 (j9 (jC (Jw (jy (d2 zy (dV 1) (dK (.str "size")))) (Jw (J0 (y0 (jd (Jv C) [(false,(dV 3))]))) (J0 (jy (J1 J9 J9 (dK (.int 1)) (jd zZ [(false,(dV 3))]) (dK (.int 30))))))) (jv (dK .non)) jL)
 (jv (jd zZ [(false,(dV 3))]))))
def vh(C:Addr):List D->Option D:=yA [false] 3 (vg C)
def vi(C:Addr):DS.DS:=(j9 (WS (dL (ZH Jx (dV 0) (dK (.str " ")))) (gC (gN 1) (gC (gN 2) gZ)))
 (j9 (jC (Jw (jy (d2 (GD true) (dV 1) (dK (.tup (PT.map D.str))))) (Jw (jy (d2 zy (jd Jm [(false,(dV 2))]) (dK (.int 3)))) (J0 (y0 (jd v3 [(false,(dL (yH 1 [] (JI (dP 2)) (gN 0) jS (jd (Jv C) [(false,(dV 0))]))))]))))) (jv (dK .non)) jL)
 (jv (YD [(true,(d1 (xT PT) (dV 1))),(true,(jd JR [(false,(dL (yH 1 [] (JI (dP 2)) (gN 0) jS (jd zZ [(false,(dV 0))]))))]))]))))
def zl(C:Addr):List D->Option D:=yA [false] 2 (vi C)
def zM(C:Addr):DS.DS:=(j9 (jC (Jw (J0 (jy (J1 J9 J9 (dK (.int 1)) (dV 0) (dK (.int 30))))) (J0 (jy (J1 J9 J9 (dK (.int 1)) (jd Jm [(false,(dV 1))]) (dK (.int 4)))))) (jv (dK (.bl false))) jL)
 (jv (Y8 (d2 J9 (jd Jm [(false,(dV 2))]) (dK (.int 20))) (Y8 (d2 J9 (jd Jm [(false,(dV 3))]) (dK (.int 12))) (d2 J9 (jd Jm [(false,(dV 4))]) (dK (.int 3)))))))
def yo(C:Addr):List D->Option D:=yA [false,false,false,false,false] 0 (zM C)
def vj(C:Addr):DS.DS:=(j9 (jC (jy (d2 zy (jd Jm [(false,(dV 0))]) (dK (.int 3)))) (jv (dK (.bl false))) jL)
 (j9 (VL (dC 0) (gT 3 (gC (gN 1) (gC (gN 2) (gC (gN 3) gZ)))))
 (jv (Y8 (yM J9 J9 J9 (dK (.int 1)) (dV 1) (dV 2) (dK (.int 4))) (J1 J9 J9 (dK (.int 0)) (dV 3) (dK (.int 4)))))))
def zm(C:Addr):List D->Option D:=yA [true] 3 (vj C)
def vk(C:Addr):DS.DS:=(j9 (jC (jy (d2 zy (jd Jm [(false,(dV 0))]) (dK (.int 3)))) (jv (dK (.bl false))) jL)
 (j9 (VL (dC 0) (gT 3 (gC (gN 2) (gC (gN 3) (gC (gN 4) gZ)))))
 (jv (Y8 (J1 J9 UO (dK (.int 0)) (dV 2) (dV 1)) (Y8 (J1 J9 UO (dK (.int 0)) (dV 3) (dV 1)) (J1 J9 J9 (dK (.int 1)) (dV 4) (dK (.int 2))))))))
def zn(C:Addr):List D->Option D:=yA [true,false] 3 (vk C)
def vm(C:Addr):DS.DS:=(j9 (jC (jy (d2 zy (jd Jm [(false,(dV 0))]) (dK (.int 3)))) (jv (dK (.bl false))) jL)
 (j9 (VL (dC 0) (gT 3 (gC (gN 3) (gC (gN 4) (gC (gN 5) gZ)))))
 (jv (Y8 (J1 J9 UO (dK (.int 0)) (dV 3) (dV 1)) (yM J9 J9 J9 (dK (.int 1)) (dV 4) (dV 5) (dV 2))))))
def zo(C:Addr):List D->Option D:=yA [true,false,false] 3 (vm C)
def vn(C:Addr):DS.DS:=(j9 (jA 5 (jd Jm [(false,(dV 1))]))
 (j9 (jC (J0 (y0 (jd v3 [(false,(dL (yH 1 [] (JI (dP 1)) (gN 0) jS (jd (zm C) [(true,(dC 0))]))))]))) (jv (dK (.bl false))) jL)
 (j9 (jC (J0 (y0 (jd v3 [(false,(dL (yH 1 [5] (JI (dP 2)) (gN 0) jS (jd (zn C) [(true,(dC 0)),(false,(dV 1))]))))]))) (jv (dK (.bl false))) jL)
 (jv (jd v3 [(false,(dL (yH 1 [5,0] (JI (dL (ZH gF (dV 3) (dV 4)))) (gN 0) jS (jd (zo C) [(true,(dC 0)),(false,(dV 1)),(false,(dV 2))]))))])))))
def Y7(C:Addr):List D->Option D:=yA [false,false,false,false,false] 1 (vn C)
def ye(C:Addr):DS.DS:=(j9 (jC (J0 (y0 (jd (yo C) [(false,(dV 1)),(false,(dV 2)),(false,(dV 3)),(false,(dV 4)),(false,(dV 5))]))) Yb jL)
 (j9 (jC (J0 (y0 (jd (Y7 C) [(false,(dV 1)),(false,(dV 2)),(false,(dV 3)),(false,(dV 4)),(false,(dV 5))]))) Yb jL)
 (j9 (yO 0 C "size" (dC 1))
 (j9 (yO 0 C "kind_rows" (jd JR [(false,(dV 2))]))
 (j9 (yO 0 C "shun_rows" (jd JR [(false,(dV 3))]))
 (j9 (yO 0 C "bar_rows" (jd JR [(false,(dV 4))]))
 (yO 0 C "due_rows" (jd JR [(false,(dV 5))]))))))))
def JP(C:Addr):Addr->List D->Option OD:=Q2 C [true,false,false,false,false] 0 (ye C)
def JB(C:Addr):List D->Option OD:=DS.Ge C
def yg(C:Addr):DY:=(J3 (Vk (J0 (y0 (jd (yo C) [(false,(dV 1)),(false,(dV 2)),(false,(dV 3)),(false,(dV 4)),(false,(dV 5))]))) (fun _=>some 0) Jn) (jC (J0 (y0 (jd (yo C) [(false,(dV 1)),(false,(dV 2)),(false,(dV 3)),(false,(dV 4)),(false,(dV 5))]))) Yb jL)
 (J3 (Vk (J0 (y0 (jd (Y7 C) [(false,(dV 1)),(false,(dV 2)),(false,(dV 3)),(false,(dV 4)),(false,(dV 5))]))) (fun _=>some 0) Jn) (jC (J0 (y0 (jd (Y7 C) [(false,(dV 1)),(false,(dV 2)),(false,(dV 3)),(false,(dV 4)),(false,(dV 5))]))) Yb jL)
 (J3 Jn (yO 0 C "size" (dC 1))
 (J3 Jn (yO 0 C "kind_rows" (jd JR [(false,(dV 2))]))
 (J3 Jn (yO 0 C "shun_rows" (jd JR [(false,(dV 3))]))
 (J3 Jn (yO 0 C "bar_rows" (jd JR [(false,(dV 4))]))
 (J3 Jn (yO 0 C "due_rows" (jd JR [(false,(dV 5))]))
 Jn)))))))
def Y2(C:Addr):List D->Option Int:=K8 [true,false,false,false,false] 0 (yg C)
def YR(C:Addr):DM:=(Ur (jA 3 (jd (zl C) [(false,(dV 2))]))
 (kX (jy (d2 yu (dV 3) (dK .non))) (dK .non)
 (Ur (VL (dC 3) (gT 2 (gC (gN 4) (gC (gN 5) gZ))))
 (kX (fun Z=>(y0 (jd ZP [(false,(dL (yN (dV 1) (fun Z=>((d2 jG (dV 4) (dK (.int 1))) Z).bind yx) (fun _=>some none))))])) (frz Z)) (dK .non)
 (Ur (uh 1 (dV 4) (dC 5))
 (U_ (fun Z=>qc (Y2 C) [(true,(dC 0)),(false,(d2 jj (dV 1) (dK (.int 0)))),(false,(d2 jj (dV 1) (dK (.int 1)))),(false,(d2 jj (dV 1) (dK (.int 2)))),(false,(d2 jj (dV 1) (dK (.int 3))))] (frz Z)) (fun Z=>((dL (k8 (JB C) [(true,(dC 0)),(false,(d2 jj (dV 1) (dK (.int 0)))),(false,(d2 jj (dV 1) (dK (.int 1)))),(false,(d2 jj (dV 1) (dK (.int 2)))),(false,(d2 jj (dV 1) (dK (.int 3))))])) (frz Z)).bind V2)))))))
def yR(C:Addr):List (List D)->List D->Option (List (List D)×D):=K0 (kZ 1 3 (YR C))
def yT(C:Addr):DS.DS:=(jA 1 (dL (ZH Jx (dV 0) (dK (.str "\n")))))
def yU(C:Addr):DS.DS:=(jA 2 (jd (vh C) [(false,(d2 jj (dV 1) (dK (.int 0))))]))
def vL(C:Addr):DS.DS:=(jA 4 (dK .non))
noncomputable def Jg:DS.DG:=(gT 2 (gC (gN 5) (gC (gN 6) gZ)))
def Jh(C:Addr):DS.DS:=(j9 (zA 4 3 (yR C) (dC 2) (dC 6))
 (jC (jy (d2 yu (dV 4) (dK .non))) Yb jL))
def yV(C:Addr):DS.DS:=(JL (VO (dL (yN (dV 1) (fun Z=>((dK (.int 1)) Z).bind yx) (fun _=>some none)))) Jg (Jh C))
def Zv(C:Addr):DS.DS:=(j9 (yT C)
 (j9 (yU C)
 (j9 (jC (jy (d2 yu (dV 2) (dK .non))) Yb jL)
 (j9 (v_ 3 [(jB []),(jB []),(jB []),(jB [])])
 (j9 (vL C)
 (j9 (yV C)
 (j9 (jC (jy (d2 yu (dV 4) (dK .non))) Yb jL)
 (jv (dC 4)))))))))
def YS(C:Addr):List D->Option D:=yA [false] 6 (Zv C)
def Ji(C:Addr):DY:=(J3 Jn (zA 4 3 (yR C) (dC 2) (dC 6))
 (J3 (Vk (jy (d2 yu (dV 4) (dK .non))) (zB (dC 5)) Jn) (jC (jy (d2 yu (dV 4) (dK .non))) Yb jL)
 Jn))
def yJ(C:Addr):DY:=(J3 Jn (yT C)
 (J3 Jn (yU C)
 (J3 (Vk (jy (d2 yu (dV 2) (dK .non))) (zB (dK (.int 0))) Jn) (jC (jy (d2 yu (dV 2) (dK .non))) Yb jL)
 (J3 Jn (v_ 3 [(jB []),(jB []),(jB []),(jB [])])
 (J3 Jn (vL C)
 (J3 (gV (VO (dL (yN (dV 1) (fun Z=>((dK (.int 1)) Z).bind yx) (fun _=>some none)))) Jg (Jh C) (Ji C)) (yV C)
 (J3 (Vk (jy (d2 yu (dV 4) (dK .non))) (zB (jd Jm [(false,(dV 1))])) Jn) (jC (jy (d2 yu (dV 4) (dK .non))) Yb jL)
 (J3 Jn (jv (dC 4))
 Jn))))))))
def JF(C:Addr):List D->Option Int:=aP [false] 6 (yJ C)
def zp(C:Addr)(rec:List D->Option D):DS.DS:=(j9 (jC (jy (d2 yu (dV 1) (dK .non))) (jv (d2 yu (dV 0) (dK .non))) jL)
 (j9 (jC (y0 (d1 WK (dV 1))) (j9 (jC (Jw (jy (d2 zy (d1 (zF "list") (dV 0)) (d1 (zF "list") (dV 1)))) (jy (d2 zy (d1 (zF "tuple") (dV 0)) (d1 (zF "tuple") (dV 1))))) (jv (dK (.bl false))) jL)
 (jv (Y8 (d2 JU (jd Jm [(false,(dV 0))]) (jd Jm [(false,(dV 1))])) (jd v3 [(false,(dL (yH 2 [] (kP (dP 0) (dP 1)) (gT 2 (gC (gN 0) (gC (gN 1) gZ))) jS (jd rec [(false,(dV 0)),(false,(dV 1))]))))])))) jL)
 (j9 (jC (Jw (jy (d2 zy (d1 (zF "bool") (dV 0)) (d1 (zF "bool") (dV 1)))) (jy (d2 zy (d1 (zF "str") (dV 0)) (d1 (zF "str") (dV 1))))) (jv (dK (.bl false))) jL)
 (jv (Y8 (d2 JU (d1 (zF "int") (dV 0)) (d1 (zF "int") (dV 1))) (d2 JU (dV 0) (dV 1)))))))
def jX(C:Addr):Nat->List D->Option D
 | 0=>fun _=>none
 | n+1=>yA [false,false] 0 (zp C (jX C n))
def zN(C:Addr):DS.DS:=(vY (yz ZJ [(false,(d1 (yv C "kind_rows") (dV 0)))]))
def zO(C:Addr):List D->Option OD:=uO [false] 0 (zN C)
def zP(C:Addr):DS.DS:=(vY (yz ZJ [(false,(d1 (yv C "shun_rows") (dV 0)))]))
def zQ(C:Addr):List D->Option OD:=uO [false] 0 (zP C)
def Zw(C:Addr):DS.DS:=(vY (yz ZJ [(false,(d1 (yv C "bar_rows") (dV 0)))]))
def Zx(C:Addr):List D->Option OD:=uO [false] 0 (Zw C)
def Zy(C:Addr):DS.DS:=(vY (yz ZJ [(false,(d1 (yv C "due_rows") (dV 0)))]))
def Zz(C:Addr):List D->Option OD:=uO [false] 0 (Zy C)
noncomputable def w_:DS.DG:=(gN 3)
def Gg(C:Addr):DS.DS:=(jA 2 (jd (yn C) [(false,(dV 2)),(false,(dL (yN (dV 1) (fun Z=>((d2 jG (dK (.int 61)) (d2 y9 (dK (.int 10)) (dV 3))) Z).bind yx) (fun _=>some none))))]))
def qp(C:Addr):DS.DS:=(j9 (jA 1 (dL (yz (zb C) [(false,(dV 0)),(false,(dK (.int 100)))])))
 (j9 (jA 2 (d2 V0 (dK (.str "\n")) (dL (yz (vc C) [(false,(jd (ve C) [(false,(dV 1)),(false,(dK (.int 30)))]))]))))
 (j9 (JL (YH (d2 jK (d2 jj (dV 1) (dK (.int 60))) (dK (.int 3)))) w_ (Gg C))
 (j9 (VL (jd (uW C) [(false,(dL (ZH Jx (dV 2) (dK (.str "\n")))))]) (gT 2 (gC (gN 4) (gC (gN 5) gZ))))
 (j9 (jA 6 (dK .non))
 (j9 (jA 7 (dL (jB [])))
 (j9 (jA 8 (dK .non))
 (j9 (V5 (JF C) [(false,(dV 2))] (jA 6 (jd (YS C) [(false,(dV 2))])) 9 7 8 [false,true])
 (j9 (jC (jy (d2 yu (dV 4) (dK .non))) (jv (Y8 (d2 JU (dV 7) (dL (jB [(true,(dK (.bl false))),(true,(dK (.bl true)))]))) (jd (jX C 6) [(false,(dV 8)),(false,(dV 5))]))) jL)
 (j9 (jC (jy (d2 zy (dV 7) (dL (jB [])))) (jv (dK (.bl false))) jL)
 (jv (jd (jX C 6) [(false,(dL (jB [(true,(d1 (yv C "size") (dV 6))),(true,(dL (wJ (JT C "kinds" (zO C)) (dV 6)))),(true,(dL (wJ (JT C "shuns" (zQ C)) (dV 6)))),(true,(dL (wJ (JT C "bars" (Zx C)) (dV 6)))),(true,(dL (wJ (JT C "dues" (Zz C)) (dV 6))))]))),(false,(dL (yz ZJ [(false,(dV 4))])))]))))))))))))
def ki(C:Addr):List D->Option D:=yA [false] 9 (qp C)
end M
namespace DS
open PySem PySem.Builtin PySem.Builtin.Str PySem.StrLaws
noncomputable def pos(c:Nat):Nat->List Nat->List Nat
 | _,[]=>[]
 | k,a::r=>if a=c then k::pos c (k+1) r else pos c (k+1) r
theorem ut(x:Str)(c m:Nat):∀(l:List Nat) (k:Nat) (st:Array Nat×Nat),x.cps.toList.drop k=l->st.2<=k->k+l.length=x.length->
  (forIn (List.range' k (l.length+1)) st (occBody x ⟨#[c]⟩ x.length m)).run.fst.toList=st.1.toList++(pos c k l).take (m - st.1.size)
 | [],k,st,hd,hf,hl=>by
  have n:¬(k+(⟨#[c]⟩:Str).length<=x.length/\subAt x ⟨#[c]⟩ k=true):=fun h=>by
   have:=(subAt_one x c k).mp h;have:=(List.getElem?_eq_some_iff.mp this).1;simp[Str.length]at this hl;omega
  have e:List.range' k (([]:List Nat).length+1)=[k]:=rfl;rw[e,List.forIn_cons];unfold occBody;rw[if_neg fun h=>n ⟨h.1.2,h.2⟩];simp[pos]
 | a::r,k,st,hd,hf,hl=>by
  have ha:x.cps.toList[k]?=some a:=by
   have:=congrArg (fun l:List Nat=>l[0]?) hd;simpa using this
  have hd':x.cps.toList.drop (k+1)=r:=by
   have:=congrArg (List.drop 1) hd;rw[List.drop_drop]at this;simpa using this
  have hl':k+1+r.length=x.length:=by simp at hl;omega
  have e:List.range' k ((a::r).length+1)=k::List.range' (k+1) (r.length+1):=rfl;rw[e,List.forIn_cons];unfold occBody;by_cases hc:a=c
  ·subst hc;have h1:=(subAt_one x a k).mpr ha;by_cases hm:st.1.size < m
   ·rw[if_pos ⟨⟨⟨hm,hf⟩,h1.1⟩,h1.2⟩];have ih:=ut x a m r (k+1) (st.1.push k,k+1) hd' (wPa _) hl';refine Eq.trans ih ?_;obtain⟨j,hj⟩:∃j,m - st.1.size=j+1:=⟨m - st.1.size - 1,by omega⟩
    have hj':m - (st.1.push k).size=j:=by simp;omega
    rw[hj,hj',pos,if_pos rfl];simp
   ·rw[if_neg fun h=>hm h.1.1.1];have ih:=ut x a m r (k+1) st hd' (Nat.le_succ_of_le hf) hl';refine Eq.trans ih ?_;have hj:m - st.1.size=0:=by omega
    rw[hj];simp
  ·have h1:¬(k+(⟨#[c]⟩:Str).length<=x.length/\subAt x ⟨#[c]⟩ k=true):=fun h=>by
    have:=(subAt_one x c k).mp h;rw[ha]at this;exact hc (vFa this)
   rw[if_neg fun h=>h1 ⟨h.1.2,h.2⟩];have ih:=ut x c m r (k+1) st hd' (Nat.le_succ_of_le hf) hl';refine Eq.trans ih ?_;rw[pos,if_neg hc]
theorem uu(x:Str)(c m:Nat):occurrences x ⟨#[c]⟩ 0 x.length m=(pos c 0 x.cps.toList).take m:=by
 rw[occ_eq];have:=ut x c m x.cps.toList 0 (#[],0) rfl (wPa _) (by simp[Str.length]);have e:x.cps.toList.length+1=x.length+1 - 0:=by simp[Str.length]
 rw[e]at this;simpa using this
theorem W3(c:Nat):∀(l:List Nat) (k:Nat),(pos c k l).length<=l.length
 | [],_=>wPa _
 | a::r,k=>by
  have:=W3 c r (k+1);rw[pos];split <;> simp <;> omega
theorem W4(x:Str)(c:Nat):occurrences x ⟨#[c]⟩ 0 x.length (x.length+1)=pos c 0 x.cps.toList:=by
 rw[uu,List.take_of_length_le];have:=W3 c x.cps.toList 0;simp[Str.length]at this⊢;omega
noncomputable def Jc(c:Nat):List Nat->List Nat->List (List Nat)
 | w,[]=>[w]
 | w,a::r=>if a=c then w::Jc c [] r else Jc c (w++[a]) r
theorem uw{x:Str}{p w r:List Nat}(h:x.cps.toList=p++w++r):strSub x p.length (p.length+w.length)=⟨w.toArray⟩:=by
 have e:x=⟨(p++w++r).toArray⟩:=by cases x;simp only at h;rw[<-h]
 subst e;unfold strSub;congr 1;simp[List.extract_eq_drop_take]
theorem Uz(x:Str)(c:Nat):∀(l p w:List Nat),x.cps.toList=p++w++l->
  ((p.length::(pos c (p.length+w.length) l).map (· + 1)).zip (pos c (p.length+w.length) l++[x.length])).map (fun z=>strSub x z.1 z.2)=(Jc c w l).map fun w=>⟨w.toArray⟩
 | [],p,w,h=>by
  have hl:x.length=p.length+w.length:=by
   have:=congrArg List.length h;simpa[Str.length]using this
  simp[pos,Jc];rw[hl];exact uw h
 | a::r,p,w,h=>by
  rw[pos,Jc];by_cases hc:a=c
  ·rw[if_pos hc,if_pos hc];have ih:=Uz x c r (p++w++[a]) [] (by simp[h]);have e1:(p++w++[a]).length=p.length+w.length+1:=by simp;omega
   rw[e1]at ih;simp only[List.map_cons,List.cons_append,List.zip_cons_cons];simp only[List.length_nil,Nat.add_zero]at ih;rw[ih];congr 1;exact uw (r:=a::r) h
  ·rw[if_neg hc,if_neg hc];have ih:=Uz x c r p (w++[a]) (by simp[h]);have e1:(w++[a]).length=w.length+1:=by simp
   rw[e1]at ih;exact ih
theorem ZU(x:Str)(c:Nat)(hc:c < 256):Txt.split x ⟨#[c]⟩=(Jc c [] x.cps.toList).map fun w=>⟨w.toArray⟩:=by
 have key:=Uz x c x.cps.toList [] [] rfl;simp only[List.length_nil,Nat.add_zero]at key;have no:∀(l w:List Nat) (k:Nat),pos c k l=[]->Jc c w l=[w++l]:=by
  intro l;induction l with
  | nil=>intro w k _;simp[Jc]
  | cons a r ih=>
   intro w k h;rw[pos]at h;split at h
   ·cases h
   ·rename_i hn;rw[Jc,if_neg hn,ih _ _ h];simp
 unfold Txt.split;split
 ·rename_i h;have hk:Str.strKind ⟨#[c]⟩=1:=by simp[Str.strKind,hc]
  have hp:∀y:Str,1<=Str.strKind y:=fun y=>by unfold Str.strKind;split <;> (try split) <;> decide
  have hz:x.length < 1:=by
   rcases Bool.or_eq_true_iff.mp h with h | h
   ·exact vCa h
   ·have:=vCa h;rw[hk]at this;have:=hp x;omega
  have hn:x.cps.toList=[]:=by
   apply List.eq_nil_of_length_eq_zero;simp[Str.length]at hz⊢;exact hz
  rw[hn];simp[Jc];cases x;simp at hn;subst hn;rfl
 ·split
  ·rename_i h;rw[W4]at h;rw[no _ _ _ (List.isEmpty_iff.mp h)];cases x;simp
  ·rw[W4];exact key
theorem vo{c:Nat}:∀(v w l:List Nat),c∉v->Jc c w (v++l)=Jc c (w++v) l
 | [],w,l,_=>by simp
 | a::v,w,l,h=>by
  rw[List.cons_append,Jc,if_neg (fun e=>h (by simp[e])),vo v _ l (fun e=>h (by simp[e]))];simp
noncomputable def Va(c:Nat):List (List Nat)->List Nat
 | []=>[]
 | [w]=>w
 | w::r=>w++c::Va c r
theorem Xq(c:Nat):∀ts:List Str,(Txt.join ⟨#[c]⟩ ts).cps.toList=Va c (ts.map (·.cps.toList)):=by
 intro ts;show(glued ⟨#[c]⟩ ts).cps.toList=_;rw[StrLaws.glued_eq_join];induction ts with
 | nil=>rfl
 | cons t r ih=>
  cases r with
  | nil=>rfl
  | cons u r=>
   show((t.cps++#[c])++(Str.join ⟨#[c]⟩ (u::r)).cps).toList=_;rw[Array.toList_append,ih];simp[Va]
theorem Ks{c:Nat}:∀(v l:List Nat) (k:Nat),c∉v->pos c k (v++l)=pos c (k+v.length) l
 | [],_,_,_=>rfl
 | a::v,l,k,h=>by
  rw[List.cons_append,pos,if_neg (fun e=>h (by simp[e])),Ks v l _ (fun e=>h (by simp[e]))];simp only[List.length_cons];congr 1;omega
theorem Kt{c:Nat}{x a b:Str}(hx:x.cps.toList=a.cps.toList++c::b.cps.toList)(h:c∉a.cps.toList):Txt.partition x ⟨#[c]⟩=(a,⟨#[c]⟩,b):=by
 have hp:occurrences x ⟨#[c]⟩ 0 x.length 1=[a.cps.toList.length]:=by
  rw[uu,hx,Ks _ _ _ h,pos,if_pos rfl];simp
 have hl:x.length=(a.cps.toList++[c]).length+b.cps.toList.length:=by
  have:=congrArg List.length hx;simp[Str.length]at this⊢;omega
 unfold Txt.partition;rw[hp];have e1:=uw (x:=x) (p:=[]) (w:=a.cps.toList) (r:=c::b.cps.toList) (by simp[hx]);have e2:=uw (x:=x) (p:=a.cps.toList++[c]) (w:=b.cps.toList) (r:=[]) (by simp[hx]);rw[<-hl]at e2;simp only[List.length_nil,Nat.zero_add]at e1;simp only[List.length_append,List.length_cons,List.length_nil,Nat.zero_add]at e2;show(strSub x 0 a.cps.toList.length,_,strSub x (a.cps.toList.length+1) x.length)=_;rw[e1,e2]
end DS
namespace M
open PySem L2 DS
theorem Ku(C:Addr)(t:T3):zm C [t3 t]=some (.bl (fK t)):=by
 obtain⟨x,y,z⟩:=t;unfold fK;simp only[zm,vj,t3];by_cases h1:1<=x
 ·by_cases h2:x<=y
  ·by_cases h3:y<=4
   ·by_cases h4:0<=z <;> simp[h1,h2,h3,h4]
   ·simp[h1,h2,h3]
  ·simp[h1,h2]
 ·simp[h1]
theorem Kv(C:Addr)(t:T3)(m:Int):zn C [t3 t,.int m]=some (.bl (fS m t)):=by
 obtain⟨x,y,z⟩:=t;unfold fS;simp only[zn,vk,t3];by_cases h1:0<=x
 ·by_cases h2:x < m
  ·by_cases h3:0<=y
   ·by_cases h4:y < m
    ·by_cases h5:1<=z <;> simp[h1,h2,h3,h4,h5]
    ·simp[h1,h2,h3,h4]
   ·simp[h1,h2,h3]
  ·simp[h1,h2]
 ·simp[h1]
theorem Kw(C:Addr)(t:T3)(m s:Int):zo C [t3 t,.int m,.int s]=some (.bl (fB m s t)):=by
 obtain⟨x,y,z⟩:=t;unfold fB;simp only[zo,vm,t3];by_cases h1:0<=x
 ·by_cases h2:x < m
  ·by_cases h3:1<=y
   ·by_cases h4:y<=z <;> simp[h1,h2,h3,h4]
   ·simp[h1,h2,h3]
  ·simp[h1,h2]
 ·simp[h1]
theorem vM(C:Addr)(s:Int)(k h b d:List D):yo C [.int s,.lst k,.lst h,.lst b,.lst d]=some (.bl (fC s k.length h.length b.length d.length)):=by
 unfold fC;simp only[yo,zM];by_cases h1:1<=s
 ·by_cases h2:s<=30
  ·by_cases h3:(1:Int)<=k.length
   ·by_cases h4:(k.length:Int)<=4
    ·by_cases h5:(h.length:Int)<=20
     ·by_cases h6:(b.length:Int)<=12 <;> simp[h1,h2,h3,h4,h5,h6]
     ·simp[h1,h2,h3,h4,h5]
    ·simp[h1,h2,h3,h4]
   ·simp[h1,h2,h3]
  ·simp[h1,h2]
 ·simp[h1]
theorem yh{α:Type}(f:α->Bool):∀l:List α,Z_ (l.map fun x=>D.bl (f x))=some (l.map f)
 | []=>rfl
 | x::l=>by simp[yh f l]
theorem QB{α:Type}(f:α->Bool)(l m:List α):Z_ (l.map (fun x=>D.bl (f x))++m.map fun x=>D.bl (f x))=some (l.map f++m.map f):=by rw[<-List.map_append,yh,List.map_append]
theorem zd{α:Type}(f:α->Bool)(l:List α):((l.map f).all id)=l.all f:=by
 induction l with
 | nil=>rfl
 | cons t ts ih=>simp only[List.map_cons,List.all_cons,ih,id]
theorem VY(C:Addr)(s:Int)(k h b d:List T3)(hk:k.length<=100)(hh:h.length<=100)(hb:b.length<=100)(hd:d.length<=100):Y7 C [.int s,.lst (k.map t3),.lst (h.map t3),.lst (b.map t3),.lst (d.map t3)]=some (.bl (fR s k h b d)):=by
 have sz:∀n,n<=200->n<=sizeLine:=fun n hn=>wQa (jk (by omega));have c1:∀Z:j6,Y9 (gN 0) jS (jd (zm C) [(true,dC 0)]) (k.map t3) (.un::Z)=some (k.map fun t=>D.bl (fK t)):=fun Z=>Jf t3 _ fun t _=>⟨_,rfl,rfl,by simp[Ku]⟩
 have c2:∀Z:j6,Y9 (gN 0) jS (jd (zn C) [(true,dC 0),(false,dV 1)]) (h.map t3) (.un::.cl (.int k.length)::Z)=some (h.map fun t=>D.bl (fS k.length t)):=fun Z=>Jf t3 _ fun t _=>⟨_,rfl,rfl,by simp[Kv]⟩
 have c3:∀Z:j6,Y9 (gN 0) jS (jd (zo C) [(true,dC 0),(false,dV 1),(false,dV 2)]) ((b++d).map t3) (.un::.cl (.int k.length)::.bo (.int s)::Z)=some ((b++d).map fun t=>D.bl (fB k.length s t)):=fun Z=>Jf t3 _ fun t _=>⟨_,rfl,rfl,by simp[Kw]⟩
 rw[List.map_append]at c3;unfold fR;have e3:b.length+d.length<=sizeLine:=sz _ (by omega);simp only[Y7,vn];by_cases h1:k.all fK=true
 ·by_cases h2:h.all (fS k.length)=true
  ·simp[c1,c2,c3,yh,QB,zd,List.all_append,sz _ (Nat.le_trans hk (by decide:100<=200)),sz _ (Nat.le_trans hh (by decide:100<=200)),e3,h1,h2]
  ·simp[c1,c2,yh,zd,sz _ (Nat.le_trans hk (by decide:100<=200)),sz _ (Nat.le_trans hh (by decide:100<=200)),h1,h2]
 ·simp[c1,yh,zd,sz _ (Nat.le_trans hk (by decide:100<=200)),h1]
structure OkB (b:Bk):Prop where
 s1:1<=b.size
 s2:b.size<=30
 k1:1<=b.kinds.length
 k2:b.kinds.length<=4
 h2:b.shuns.length<=20
 b2:b.bars.length<=12
 d2:b.dues.length<=3
 ks:∀t∈b.kinds,fK t=true
 hs:∀t∈b.shuns,fS b.kinds.length t=true
 bs:∀t∈b.bars,fB b.kinds.length b.size t=true
 ds:∀t∈b.dues,fB b.kinds.length b.size t=true
theorem Yx{b:Bk}:JX b=true↔OkB b:=by
 unfold JX fC fR;simp only[Bool.and_eq_true,decide_eq_true_eq,List.all_eq_true,List.mem_append];constructor
 ·rintro⟨⟨a1,a2,a3,a4,a5,a6,a7⟩,b1,b2,b3⟩;exact⟨a1,a2,by omega,by omega,by omega,by omega,by omega,b1,b2,fun t h=>b3 t (.inl h),fun t h=>b3 t (.inr h)⟩
 ·intro h;exact⟨⟨h.s1,h.s2,by have:=h.k1;omega,by have:=h.k2;omega,by have:=h.h2;omega,by have:=h.b2;omega,by have:=h.d2;omega⟩,h.ks,h.hs,fun t ht=>ht.elim (h.bs t) (h.ds t)⟩
theorem bJ(C p:Addr)(b:Bk)(h:OkB b):JP C p [.int b.size,.lst (b.kinds.map t3),.lst (b.shuns.map t3),.lst (b.bars.map t3),.lst (b.dues.map t3)]=some (Gc C b):=by
 have hb:=Yx.mpr h;unfold JX at hb;rw[Bool.and_eq_true]at hb;have e1:=vM C b.size (b.kinds.map t3) (b.shuns.map t3) (b.bars.map t3) (b.dues.map t3);simp only[List.length_map]at e1;rw[hb.1]at e1;have e2:=VY C b.size b.kinds b.shuns b.bars b.dues (by have:=h.k2;omega) (by have:=h.h2;omega) (by have:=h.b2;omega) (by have:=h.d2;omega);rw[hb.2]at e2;have n1:("size" : Str)≠ "kind_rows" := by decide
 have n2:("size" : Str)≠ "shun_rows" := by decide
 have n3:("size" : Str)≠ "bar_rows" := by decide
 have n4:("size" : Str)≠ "due_rows" := by decide
 have n5:("kind_rows" : Str)≠ "shun_rows" := by decide
 have n6:("kind_rows" : Str)≠ "bar_rows" := by decide
 have n7:("kind_rows" : Str)≠ "due_rows" := by decide
 have n8:("shun_rows" : Str)≠ "bar_rows" := by decide
 have n9:("shun_rows" : Str)≠ "due_rows" := by decide
 have n0:("bar_rows" : Str)≠ "due_rows" := by decide
 simp only[JP,ye,Gc];simp[e1,e2,n1,n2,n3,n4,n5,n6,n7,n8,n9,n0]
theorem uE(C p:Addr)(ds:List D)(o:OD)(h:JB C ds=some o):JP C p ds=some o:=by
 obtain⟨b,ok,rfl,rfl⟩:=et h;exact bJ C p b (Yx.mp ok)
theorem bK(C:Addr)(b:Bk)(h:OkB b):JB C [.int b.size,.lst (b.kinds.map t3),.lst (b.shuns.map t3),.lst (b.bars.map t3),.lst (b.dues.map t3)]=some (Gc C b):=by
 unfold JB Ge;simp[gI,gL,Kr,Yx.mpr h]
@[simp] theorem iJ(C:Addr)(b:Bk):yv C "size" (JO C b)=some (.int b.size):=by unfold yv JO;simp[List.lookup]
@[simp] theorem hW(C:Addr)(b:Bk):yv C "kind_rows" (JO C b)=some (.tup (b.kinds.map t3)):=by
 have n1:(("kind_rows" : Str) == "size")=false:=by decide
 unfold yv JO;simp[List.lookup,n1]
@[simp] theorem hX(C:Addr)(b:Bk):yv C "shun_rows" (JO C b)=some (.tup (b.shuns.map t3)):=by
 have n1:(("shun_rows" : Str) == "size")=false:=by decide
 have n2:(("shun_rows" : Str) == "kind_rows")=false:=by decide
 unfold yv JO;simp[List.lookup,n1,n2]
@[simp] theorem iK(C:Addr)(b:Bk):yv C "bar_rows" (JO C b)=some (.tup (b.bars.map t3)):=by
 have n1:(("bar_rows" : Str) == "size")=false:=by decide
 have n2:(("bar_rows" : Str) == "kind_rows")=false:=by decide
 have n3:(("bar_rows" : Str) == "shun_rows")=false:=by decide
 unfold yv JO;simp[List.lookup,n1,n2,n3]
@[simp] theorem iL(C:Addr)(b:Bk):yv C "due_rows" (JO C b)=some (.tup (b.dues.map t3)):=by
 have n1:(("due_rows" : Str) == "size")=false:=by decide
 have n2:(("due_rows" : Str) == "kind_rows")=false:=by decide
 have n3:(("due_rows" : Str) == "shun_rows")=false:=by decide
 have n4:(("due_rows" : Str) == "bar_rows")=false:=by decide
 unfold yv JO;simp[List.lookup,n1,n2,n3,n4]
def Iw(b:Bk)(row:List Int):Prop:=(∀n∈row,0<=n/\n < (b.kinds.length:Int))/\(row.length:Int)<=b.size
theorem jI{a b:Int}(h:0 < b):0<=a % b/\a % b < b:=⟨Int.emod_nonneg _ (by omega),Int.emod_lt_of_pos _ h⟩
theorem UA{α β:Type}(f:α->β)(xs:List α)(lo hi:Option Int):jZ (xs.map f) lo hi=(jZ xs lo hi).map f:=by
 unfold jZ;rw[List.length_map,List.map_take,List.map_drop]
theorem Kx{α:Type}(xs:List α)(lo hi:Option Int):(jZ xs lo hi).length<=xs.length:=by
 unfold jZ;rw[List.length_take,List.length_drop];omega
theorem gh{α:Type}(xs:List α)(n:Nat):jZ xs (some (n:Int)) none=xs.drop n:=by
 unfold jZ;have e:HT.sIx xs.length xs.length none=xs.length:=rfl;rw[HT.sIx_nat,e];by_cases h:n<=xs.length
 ·rw[Nat.min_eq_left h,List.take_of_length_le (by rw[List.length_drop];omega)]
 ·rw[Nat.min_eq_right (by omega),List.drop_of_length_le (by omega),List.drop_of_length_le (by omega)];simp
theorem eB{α:Type}(xs:List α)(n:Nat):jZ xs none (some (n:Int))=xs.take n:=by
 unfold jZ;have e:HT.sIx xs.length 0 none=0:=rfl;rw[HT.sIx_nat,e,List.drop_zero,Nat.sub_zero];by_cases h:n<=xs.length
 ·rw[Nat.min_eq_left h]
 ·rw[Nat.min_eq_right (by omega),List.take_of_length_le (by omega),List.take_of_length_le (by omega)]
theorem Xr{α:Type}(xs:List α)(n m:Nat)(h1:n<=xs.length)(h2:m<=xs.length):jZ xs (some (n:Int)) (some (m:Int))=(xs.drop n).take (m - n):=by
 unfold jZ;rw[HT.sIx_nat,HT.sIx_nat,Nat.min_eq_left h1,Nat.min_eq_left h2]
theorem Ym{i j:Int}(h1:-(2 ^ 64) < i)(h2:i < 2 ^ 64):Zg i j=true:=by
 have e:(2:Int) ^ 64=18446744073709551616:=by decide
 rw[e]at h1 h2;unfold Zg;rw[Bool.or_eq_true,Nat.blt_eq];exact .inl (by omega)
theorem qr(C:Addr)(ns:List Int)(m:Int)(h63:ns.length<=63)(m0:0<=m)(m1:m<=1000):∃ms:List Int,zb C [.scr ns,.int m]=some (.lst (ms.map .int))/\(ms.length:Int)=m:=by
 have inner:∀(v x seed:Int) (ms:List Int) (x6:Sl) (c:Nat),ms.length<=c->c<=5000->∃(ms':List Int) (v':Int) (x6':Sl),J2 Ys (Jz C) (Jq 0 60) [.bo (.scr ns),.bo (.int m),.ow none (.lst (ms.map .int)),.cl (.int seed),.cl (.int x),.cl (.int v),x6]=some (.nx [.bo (.scr ns),.bo (.int m),.ow none (.lst (ms'.map .int)),.cl (.int seed),.cl (.int x),.cl (.int v'),x6'])/\ms'.length<=c+60:=by
  intro v x seed ms x6 c hc hc2;have L:=Y_ (g:=Ys) (s:=Jz C) (items:=Jq 0 60) (fun i Z=>∃(ms':List Int) (v':Int) (x6':Sl),Z=[.bo (.scr ns),.bo (.int m),.ow none (.lst (ms'.map .int)),.cl (.int seed),.cl (.int x),.cl (.int v'),x6']/\ms'.length<=c+i) ?_ ⟨ms,v,x6,rfl,hc⟩
  ·obtain⟨Z',L1,ms',v',x6',rfl,hl⟩:=L;exact⟨ms',v',x6',L1,hl⟩
  ·rintro i d Z hi ⟨ms',v',x6',rfl,hl⟩;have hi60:i < 60:=by have:=(List.getElem?_eq_some_iff.mp hi).1;simpa[Jq]using this
   have hz:ms'.length < sizeLine:=jk (by omega);by_cases h0:0 < v'
   ·refine⟨_,[.bo (.scr ns),.bo (.int m),.ow none (.lst ((ms'++[v' % 1009]).map .int)),.cl (.int seed),.cl (.int x),.cl (.int (v' / 1009)),.cl d],rfl,?_,ms'++[v' % 1009],v' / 1009,.cl d,rfl,by simp;omega⟩;simp[Jz,h0,hz]
   ·refine⟨_,[.bo (.scr ns),.bo (.int m),.ow none (.lst (ms'.map .int)),.cl (.int seed),.cl (.int x),.cl (.int v'),.cl d],rfl,?_,ms',v',.cl d,rfl,by omega⟩;simp[Jz,h0]
 have L:=Y_ (g:=yb) (s:=yd C) (items:=(jZ ns none (some 63)).map D.int) (fun i Z=>∃(ms:List Int) (seed:Int) (x4 x5 x6:Sl),Z=[.bo (.scr ns),.bo (.int m),.ow none (.lst (ms.map .int)),.cl (.int seed),x4,x5,x6]/\0<=seed/\seed < 2147483648/\ms.length<=i * 61) ?_ ⟨[],29,.un,.un,.un,rfl,by decide,by decide,by simp⟩
 ·obtain⟨Z',L1,ms,seed,x4,x5,x6,rfl,s0,s1,hl⟩:=L;have hc:=Kx ns none (some 63);rw[List.length_map]at hl;have hl:ms.length<=4000:=by omega
  obtain⟨Z2,W1,⟨ms2,seed2,rfl,t0,t1,hl2⟩,W2⟩:=QA (dt:=JA C) (s:=Yt C) (fun Z=>∃(ms:List Int) (seed:Int),Z=[.bo (.scr ns),.bo (.int m),.ow none (.lst (ms.map .int)),.cl (.int seed),x4,x5,x6]/\0<=seed/\seed < 2147483648/\ms.length<=4000) (fun Z=>match Z with | [_,_,.ow _ (.lst l),_,_,_,_]=>6000 - l.length | _=>0) (fun Z=>by
    rintro⟨ms,seed,rfl,s0,s1,hl⟩;by_cases h:(ms.length:Int) < m
    ·right;refine⟨by simp[JA,h],?_⟩;have b1:=jI (a:=seed * seed+69621 * seed+7 * (ms.length:Int)+5) (b:=2147483629) (by decide);have hz:ms.length < sizeLine:=jk (by omega);refine⟨[.bo (.scr ns),.bo (.int m),.ow none (.lst ((ms++[(seed * seed+69621 * seed+7 * (ms.length:Int)+5) % 2147483629 / 1013 % 9973]).map .int)),.cl (.int ((seed * seed+69621 * seed+7 * (ms.length:Int)+5) % 2147483629)),x4,x5,x6],?_,⟨_,_,rfl,b1.1,by omega,by simp;omega⟩,by simp;omega⟩;simp[Yt,Ym (i:=seed) (j:=seed) (by omega) (by omega),Ym (i:=69621) (j:=seed) (by decide) (by decide),Ym (i:=7) (j:=(ms.length:Int)) (by decide) (by decide),hz]
    ·left;simp[JA,h]) (n:=20000) ⟨ms,seed,rfl,s0,s1,hl⟩ (by simp;omega)
  have hm:m<=(ms2.length:Int):=by
   simp[JA]at W2;omega
  refine⟨ms2.take m.toNat,?_,by rw[List.length_take];omega⟩;simp only[zb,za];have em:m=((m.toNat:Nat):Int):=by omega
  have ec:jZ (ms2.map D.int) none (some m)=(ms2.take m.toNat).map D.int:=by
   have z:=eB ms2 m.toNat
   rw[<-em]at z;rw[UA,z]
  rw[List.map_nil]at L1;have s60:JS 60=true:=by decide
  simp[UA,L1,W1]at ec⊢;simp[ec]
 ·rintro i d Z hi ⟨ms,seed,x4,x5,x6,rfl,s0,s1,hl⟩;have hlt:i < 63:=by
   have h1:=(List.getElem?_eq_some_iff.mp hi).1;have h2:=Kx ns none (some 63);rw[List.length_map]at h1;omega
  obtain⟨x,rfl⟩:∃x,d=D.int x:=by
   rw[List.getElem?_map]at hi;cases q:(jZ ns none (some 63))[i]? with
   | none=>rw[q]at hi;cases hi
   | some z=>rw[q]at hi;exact⟨z,(vFa hi).symm⟩
  have b1:=jI (a:=seed * 48271+x % 1000003+11) (b:=2147483647) (by decide);have s60:JS 60=true:=by decide
  have hz:ms.length < sizeLine:=jk (by omega);by_cases h0:x - 10 ^ 18 < 0
  ·obtain⟨ms',v',x6',e,hl'⟩:=inner (x - 10 ^ 18) x ((seed * 48271+x % 1000003+11) % 2147483647) (ms++[x % 9973]) x6 (i * 61+1) (by simp;omega) (by omega);refine⟨_,[.bo (.scr ns),.bo (.int m),.ow none (.lst (ms'.map .int)),.cl (.int ((seed * 48271+x % 1000003+11) % 2147483647)),.cl (.int x),.cl (.int v'),x6'],rfl,?_,ms',_,_,_,_,rfl,b1.1,by omega,by omega⟩;rw[List.map_append]at e;simp only[yd,yb];simp at e h0;simp[Ym (i:=seed) (j:=48271) (by omega) (by omega),h0,hz,e,s60]
  ·obtain⟨ms',v',x6',e,hl'⟩:=inner (x - 10 ^ 18) x ((seed * 48271+x % 1000003+11) % 2147483647) ms x6 (i * 61+1) (by omega) (by omega);refine⟨_,[.bo (.scr ns),.bo (.int m),.ow none (.lst (ms'.map .int)),.cl (.int ((seed * 48271+x % 1000003+11) % 2147483647)),.cl (.int x),.cl (.int v'),x6'],rfl,?_,ms',_,_,_,_,rfl,b1.1,by omega,by omega⟩;simp only[yd,yb];simp at e h0;have h0':¬(x - 1000000000000000000 < 0):=by omega
   simp[Ym (i:=seed) (j:=48271) (by omega) (by omega),h0',hz,e,s60]
theorem vN{ds:List Int}{k:Int}(h0:0<=k)(h1:k < (ds.length:Int)):∃v:Int,atI (ds.map D.int) k=some (.int v):=⟨_,Gb (d:=0) h0 h1⟩
theorem Vb{α:Type}{p:α->Prop}{ts:List α}{t:α}(h:∀x∈ts,p x)(ht:p t):∀x∈ts++[t],p x:=fun x hx=>by
 rcases List.mem_append.mp hx with z | z
 ·exact h x z
 ·have e:x=t:=by simpa using z
  rw[e];exact ht
theorem uz{lo:Int}{n i:Nat}{d:D}(h:(Jq lo n)[i]?=some d):i < n/\d=.int (lo+i):=by
 unfold Jq at h;rw[List.getElem?_map]at h;cases q:(List.range n)[i]? with
 | none=>rw[q]at h;cases h
 | some j=>
  rw[q]at h;obtain⟨h1,h2⟩:=List.getElem?_eq_some_iff.mp q;rw[List.getElem_range]at h2;rw[List.length_range]at h1;exact⟨h1,by rw[<-Option.some.inj h,h2]⟩
theorem Z6(C:Addr)(m s n:Int)(ds:List Int)(m1:1<=m)(s1:1<=s)(s2:s<=1000)(n0:0<=n)(n1:n<=20)(hn:3 * n<=(ds.length:Int)):∃ts:List T3,yP C [.int m,.int s,.int n,.lst (ds.map .int)]=some (.lst (ts.map t3))/\(ts.length:Int)=n/\∀t∈ts,fB m s t=true:=by
 have L:=Y_ (g:=Zu) (s:=Yu C) (items:=Jq 0 n.toNat) (fun i Z=>∃(ts:List T3) (x y:Sl),Z=[.bo (.int m),.bo (.int s),.bo (.int n),.bo (.lst (ds.map .int)),.ow none (.lst (ts.map t3)),x,y]/\ts.length=i/\∀t∈ts,fB m s t=true) ?_ ⟨[],.un,.un,rfl,rfl,fun _ h=>by cases h⟩
 ·obtain⟨Z',L1,ts,x,y,rfl,hl,ht⟩:=L;have hr:(Jq 0 n.toNat).length=n.toNat:=by simp[Jq]
  rw[hr]at hl;refine⟨ts,?_,by omega,ht⟩;simp only[yP,zc];rw[List.map_nil]at L1;have e1:JS n=true:=YG (by omega) (by omega);simp[e1,L1]
 ·rintro i d Z hi ⟨ts,x,y,rfl,hl,ht⟩;obtain⟨hi1,rfl⟩:=uz hi;have c3:Zg 3 (0+(i:Int))=true:=Ym (by decide) (by decide);obtain⟨v1,a1⟩:=vN (ds:=ds) (k:=3 * (0+(i:Int))+1) (by omega) (by omega);obtain⟨v0,a0⟩:=vN (ds:=ds) (k:=3 * (0+(i:Int))) (by omega) (by omega);obtain⟨v2,a2⟩:=vN (ds:=ds) (k:=3 * (0+(i:Int))+2) (by omega) (by omega);have f1:=jI (a:=v1) (b:=s) (by omega);have f3:=jI (a:=v2) (b:=s - (1+v1 % s)+1) (by omega);have f0:=jI (a:=v0) (b:=m) (by omega);have hz:ts.length < sizeLine:=jk (by omega);have q1:0 < s:=by omega
  have q2:0 < m:=by omega
  have q3:0 < s - (1+v1 % s)+1:=by omega
  refine⟨_,[.bo (.int m),.bo (.int s),.bo (.int n),.bo (.lst (ds.map .int)),.ow none (.lst ((ts++[(v0 % m,1+v1 % s,1+v1 % s+v2 % (s - (1+v1 % s)+1))]).map t3)),.cl (.int (0+(i:Int))),.cl (.int (1+v1 % s))],rfl,?_,_,_,_,rfl,by simp[hl],Vb ht ?_⟩
  ·simp only[Yu];simp at a0 a1 a2 c3;simp[c3,a0,a1,a2,q1,q2,q3,hz,t3]
  ·unfold fB;simp only[Bool.and_eq_true,decide_eq_true_eq];omega
theorem uA{ns:List Int}{k lo hi:Int}(h0:0<=k)(h1:k < (ns.length:Int))(hb:∀v∈ns,lo<=v/\v<=hi):∃v,atI (ns.map D.int) k=some (.int v)/\lo<=v/\v<=hi:=by
 have hk:k.toNat < ns.length:=by omega
 refine⟨ns.getD k.toNat 0,Gb h0 h1,?_⟩;rw[List.getD_eq_getElem?_getD,List.getElem?_eq_getElem hk];exact hb _ (List.getElem_mem hk)
theorem bL(C:Addr)(ds:List Int)(mo:Int)(hn:62<=ds.length)(hn2:ds.length<=1000)(mo1:1<=mo)(mo2:mo<=30):∃b:Bk,ve C [.lst (ds.map .int),.int mo]=some (yZ b)/\OkB b/\b.size<=mo:=by
 have at0:∀k:Int,0<=k->k < 62->∃v:Int,atI (ds.map D.int) k=some (.int v):=fun k h0 h1=>vN h0 (by omega);obtain⟨u0,a0⟩:=at0 0 (by decide) (by decide);obtain⟨u1,a1⟩:=at0 1 (by decide) (by decide);obtain⟨u14,a14⟩:=at0 14 (by decide) (by decide);obtain⟨u15,a15⟩:=at0 15 (by decide) (by decide);obtain⟨u25,a25⟩:=at0 25 (by decide) (by decide);have g0:=jI (a:=u0) (b:=7) (by decide);have g1:=jI (a:=u1) (b:=mo) (by omega);have g14:=jI (a:=u14) (b:=7) (by decide);have g15:=jI (a:=u15) (b:=6) (by decide);have g25:=jI (a:=u25) (b:=6) (by decide);obtain⟨m,pm,m1,m4⟩:=uA (ns:=[2,3,3,2,1,4,3]) (k:=u0 % 7) (lo:=1) (hi:=4) g0.1 g0.2 (by decide);obtain⟨nh,ph,nh0,nh1⟩:=uA (ns:=[0,0,1,2,3,0,20]) (k:=u14 % 7) (lo:=0) (hi:=20) g14.1 g14.2 (by decide);obtain⟨nb,pb,nb0,nb1⟩:=uA (ns:=[0,1,0,2,12,0]) (k:=u15 % 6) (lo:=0) (hi:=12) g15.1 g15.2 (by decide);obtain⟨nd,pd,nd0,nd1⟩:=uA (ns:=[0,1,0,2,3,1]) (k:=u25 % 6) (lo:=0) (hi:=3) g25.1 g25.2 (by decide);clear g0 g14 g15 g25;have K1:=Y_ (g:=Vm) (s:=Yk C) (items:=Jq 0 m.toNat) (fun i Z=>∃(ts:List T3) (x5 x6 x7:Sl),Z=[.bo (.lst (ds.map .int)),.bo (.int mo),.cl (.int m),.cl (.int (1+u1 % mo)),.ow none (.lst (ts.map t3)),x5,x6,x7,.un,.un,.un,.un,.un]/\ts.length=i/\∀t∈ts,fK t=true) ?_ ⟨[],.un,.un,.un,rfl,rfl,fun _ h=>by cases h⟩
 rotate_left
 ·rintro i d Z hi ⟨ts,x5,x6,x7,rfl,hl,ht⟩;obtain⟨hi1,rfl⟩:=uz hi;obtain⟨w2,b2⟩:=at0 (2+(0+(i:Int))) (by omega) (by omega);obtain⟨w6,b6⟩:=at0 (6+(0+(i:Int))) (by omega) (by omega);obtain⟨w10,b10⟩:=at0 (10+(0+(i:Int))) (by omega) (by omega);have e2:=jI (a:=w2) (b:=7) (by decide);have e10:=jI (a:=w10) (b:=7) (by decide);obtain⟨le,pl,le0,le3⟩:=uA (ns:=[0,0,1,0,2,3,1]) (k:=w2 % 7) (lo:=0) (hi:=3) e2.1 e2.2 (by decide);obtain⟨re,pr,re0,re4⟩:=uA (ns:=[0,1,2,0,3,4,1]) (k:=w10 % 7) (lo:=0) (hi:=4) e10.1 e10.2 (by decide);clear e2 e10;have q5:0 < 5 - (1+le):=by omega
  have q5':1+le < 5:=by omega
  have e6:=jI (a:=w6) (b:=5 - (1+le)) q5;have e3:=jI (a:=re) (b:=3) (by decide);have hz:ts.length < sizeLine:=jk (by omega);have fin:∀r:Int,0<=r->r<=4->fK (1+le,1+le+w6 % (5 - (1+le)),r)=true:=fun r h0 h4=>by
   unfold fK;simp only[Bool.and_eq_true,decide_eq_true_eq];omega
  have cc:∃r:Int,0<=r/\r<=4/\Yk C ([.bo (.lst (ds.map .int)),.bo (.int mo),.cl (.int m),.cl (.int (1+u1 % mo)),.ow none (.lst (ts.map t3)),.cl (.int (0+(i:Int))),x6,x7,.un,.un,.un,.un,.un])=some (.nx [.bo (.lst (ds.map .int)),.bo (.int mo),.cl (.int m),.cl (.int (1+u1 % mo)),.ow none (.lst ((ts++[(1+le,1+le+w6 % (5 - (1+le)),r)]).map t3)),.cl (.int (0+(i:Int))),.cl (.int (1+le)),.cl (.int r),.un,.un,.un,.un,.un]):=by
   simp only[Yk];simp at b2 b6 b10 pl pr;by_cases h1:m=4
   ·by_cases h2:6 < 1+u1 % mo
    ·exact⟨re % 3,by omega,by omega,by simp[b2,b6,b10,pl,pr,h1,h2,q5,q5',hz,t3]⟩
    ·by_cases h3:12 < 1+u1 % mo
     ·exact⟨re % 3,by omega,by omega,by simp[b2,b6,b10,pl,pr,h1,h2,h3,q5,q5',hz,t3]⟩
     ·exact⟨re,by omega,by omega,by simp[b2,b6,b10,pl,pr,h1,h2,h3,q5,q5',hz,t3]⟩
   ·by_cases h3:12 < 1+u1 % mo
    ·exact⟨re % 3,by omega,by omega,by simp[b2,b6,b10,pl,pr,h1,h3,q5,q5',hz,t3]⟩
    ·exact⟨re,by omega,by omega,by simp[b2,b6,b10,pl,pr,h1,h3,q5,q5',hz,t3]⟩
  obtain⟨r,r0,r4,er⟩:=cc;exact⟨_,_,rfl,er,_,_,_,_,rfl,by simp[hl],Vb ht (fin r r0 r4)⟩
 obtain⟨Zk,K2,ks,x5,x6,x7,rfl,lk,hk⟩:=K1;have hrk:(Jq 0 m.toNat).length=m.toNat:=by simp[Jq]
 rw[hrk]at lk;have S1:=Y_ (g:=Vn) (s:=zH C) (items:=Jq 0 nh.toNat) (fun i Z=>∃(ts:List T3) (x5 x9:Sl),Z=[.bo (.lst (ds.map .int)),.bo (.int mo),.cl (.int m),.cl (.int (1+u1 % mo)),.ow none (.lst (ks.map t3)),x5,x6,x7,.ow none (.lst (ts.map t3)),x9,.un,.un,.un]/\ts.length=i/\∀t∈ts,fS m t=true) ?_ ⟨[],x5,.un,rfl,rfl,fun _ h=>by cases h⟩
 rotate_left
 ·rintro i d Z hi ⟨ts,x5,x9,rfl,hl,ht⟩;obtain⟨hi1,rfl⟩:=uz hi;have d5:=jI (a:=0+(i:Int)) (b:=5) (by decide);have d6:0<=(0+(i:Int)) / 5/\(0+(i:Int)) / 5<=3:=by omega
  obtain⟨w0,b0⟩:=at0 (44+3 * ((0+(i:Int)) % 5)+(0+(i:Int)) / 5) (by omega) (by omega);obtain⟨w1,b1⟩:=at0 (44+3 * ((0+(i:Int)) % 5)+(0+(i:Int)) / 5+1) (by omega) (by omega);obtain⟨w2,b2⟩:=at0 (44+3 * ((0+(i:Int)) % 5)+(0+(i:Int)) / 5+2) (by omega) (by omega);have e0:=jI (a:=w0) (b:=m) (by omega);have e1:=jI (a:=w1) (b:=m) (by omega);have e2:=jI (a:=w2) (b:=2) (by decide);have qm:0 < m:=by omega
  have hz:ts.length < sizeLine:=jk (by omega);have c3:Zg 3 ((0+(i:Int)) % 5)=true:=Ym (by decide) (by decide);refine⟨_,[.bo (.lst (ds.map .int)),.bo (.int mo),.cl (.int m),.cl (.int (1+u1 % mo)),.ow none (.lst (ks.map t3)),.cl (.int (0+(i:Int))),x6,x7,.ow none (.lst ((ts++[(w0 % m,w1 % m,1+w2 % 2)]).map t3)),.cl (.int (44+3 * ((0+(i:Int)) % 5)+(0+(i:Int)) / 5)),.un,.un,.un],rfl,?_,_,_,_,rfl,by simp[hl],Vb ht ?_⟩
  ·simp only[zH];simp at b0 b1 b2 c3;simp[c3,b0,b1,b2,qm,hz,t3]
  ·unfold fS;simp only[Bool.and_eq_true,decide_eq_true_eq];omega
 obtain⟨Zh,S2,hs,x5',x9,rfl,lh,hh⟩:=S1;have hrh:(Jq 0 nh.toNat).length=nh.toNat:=by simp[Jq]
 rw[hrh]at lh;obtain⟨ws,W1,W2⟩:∃ws:List Int,Y9 (gN 0) jS (d2 jG (d2 jj (dV 1) (d2 jG (dK (.int 16)) (d2 jK (d2 y9 (dK (.int 5)) (dV 0)) (dK (.int 9))))) (d2 y9 (dK (.int 7)) (dV 0))) (Jq 0 36) [.un,.bo (.lst (ds.map .int))]=some (ws.map D.int)/\ws.length=36:=by
  have:=Jf (g:=gN 0) (dc:=jS) (de:=d2 jG (d2 jj (dV 1) (d2 jG (dK (.int 16)) (d2 jK (d2 y9 (dK (.int 5)) (dV 0)) (dK (.int 9))))) (d2 y9 (dK (.int 7)) (dV 0))) (Z:=[.un,.bo (.lst (ds.map .int))]) (fun i:Nat=>D.int (0+(i:Int))) (fun i:Nat=>D.int (ds.getD (16+5 * (0+(i:Int)) % 9).toNat 0+7 * (0+(i:Int)))) (xs:=List.range 36) fun i hi=>by
   have hi:=List.mem_range.mp hi;have d9:=jI (a:=5 * (0+(i:Int))) (b:=9) (by decide);have a:=Gb (f:=D.int) (xs:=ds) (d:=0) (k:=16+5 * (0+(i:Int)) % 9) (by omega) (by omega);have c5:Zg 5 (0+(i:Int))=true:=Ym (by decide) (by decide);have c7:Zg 7 (0+(i:Int))=true:=Ym (by decide) (by decide);refine⟨_,rfl,rfl,?_⟩;simp at a c5 c7;simp[c5,c7,a]
  refine⟨(List.range 36).map fun(i:Nat)=>ds.getD (16+5 * (0+(i:Int)) % 9).toNat 0+7 * (0+(i:Int)),?_,by simp⟩;rw[List.map_map];exact this
 obtain⟨bs,B1,B2,B3⟩:=Z6 C m (1+u1 % mo) nb ws m1 (by omega) (by omega) nb0 (by omega) (by rw[W2];omega);have ec:jZ (ds.map D.int) (some 26) (some 35)=(jZ ds (some 26) (some 35)).map D.int:=UA _ _ _ _;have lc:(jZ ds (some 26) (some 35)).length=9:=by
  have:=Xr ds 26 35 (by omega) (by omega);rw[show((26:Nat):Int)=26 from rfl,show((35:Nat):Int)=35 from rfl]at this;rw[this,List.length_take,List.length_drop];omega
 have e3:=jI (a:=nd) (b:=3) (by decide);have ek:(ks.length:Int)=m:=by omega
 have fin:∀n:Int,0<=n->n<=3->∀dd:List T3,(dd.length:Int)=n->(∀t∈dd,fB m (1+u1 % mo) t=true)->OkB ⟨1+u1 % mo,ks,hs,bs,dd⟩:=fun n n0 n3 dd hd hd2=>by
  refine⟨by show 1<=1+u1 % mo;omega,by show 1+u1 % mo<=30;omega,by show 1<=ks.length;omega,by show ks.length<=4;omega,by show hs.length<=20;omega,by show bs.length<=12;omega,by show dd.length<=3;omega,hk,?_,?_,?_⟩
  ·show∀t∈hs,fS (ks.length:Int) t=true;rw[ek];exact hh
  ·show∀t∈bs,fB (ks.length:Int) _ t=true;rw[ek];exact B3
  ·show∀t∈dd,fB (ks.length:Int) _ t=true;rw[ek];exact hd2
 have s1:JS m=true:=YG (by omega) (by omega);have s2:JS nh=true:=YG (by omega) (by omega);have z36:(36:Nat)<=sizeLine:=by decide
 have s3:JS 36=true:=by decide
 have hrw:(Jq 0 36).length=36:=by simp[Jq]
 have qmo:0 < mo:=by omega
 rw[List.map_nil]at K2 S2;simp only[ve,vd];simp only[List.map_cons,List.map_nil]at pm ph pb pd;by_cases c1:5 < 1+u1 % mo
 ·by_cases c2:2 < m
  ·obtain⟨dd,D1,D2,D3⟩:=Z6 C m (1+u1 % mo) (nd % 3) (jZ ds (some 26) (some 35)) m1 (by omega) (by omega) (by omega) (by omega) (by omega);refine⟨⟨1+u1 % mo,ks,hs,bs,dd⟩,?_,fin _ (by omega) (by omega) dd D2 D3,by show 1+u1 % mo<=mo;omega⟩;simp[a0,a1,a14,a15,a25,pm,ph,pb,pd,qmo,s1,s2,s3,K2,S2,W1,z36,hrw,B1,ec,D1,c1,c2,yZ]
  ·obtain⟨dd,D1,D2,D3⟩:=Z6 C m (1+u1 % mo) nd (jZ ds (some 26) (some 35)) m1 (by omega) (by omega) (by omega) (by omega) (by omega);refine⟨⟨1+u1 % mo,ks,hs,bs,dd⟩,?_,fin _ (by omega) (by omega) dd D2 D3,by show 1+u1 % mo<=mo;omega⟩;simp[a0,a1,a14,a15,a25,pm,ph,pb,pd,qmo,s1,s2,s3,K2,S2,W1,z36,hrw,B1,ec,D1,c1,c2,yZ]
 ·obtain⟨dd,D1,D2,D3⟩:=Z6 C m (1+u1 % mo) nd (jZ ds (some 26) (some 35)) m1 (by omega) (by omega) (by omega) (by omega) (by omega);refine⟨⟨1+u1 % mo,ks,hs,bs,dd⟩,?_,fin _ (by omega) (by omega) dd D2 D3,by show 1+u1 % mo<=mo;omega⟩;simp[a0,a1,a14,a15,a25,pm,ph,pb,pd,qmo,s1,s2,s3,K2,S2,W1,z36,hrw,B1,ec,D1,c1,yZ]
mutual
noncomputable def VZ:D->Prop
 | .tup l=>l.length<=sizeLine/\vq l
 | .lst l=>l.length<=sizeLine/\vq l
 | .ins _ _ _=>False
 | .scr _=>False
 | _=>True
noncomputable def vq:List D->Prop
 | []=>True
 | d::ds=>VZ d/\vq ds
end
theorem UB:∀{l:List D} {d:D},vq l->d∈l->VZ d
 | e::l,d,h,hd=>by
  rw[vq]at h;rcases List.mem_cons.mp hd with rfl | hd
  ·exact h.1
  ·exact UB h.2 hd
theorem Ky(l:List D):List.zipWith (fun p q=>D.tup [p,q]) l l=l.map fun x=>D.tup [x,x]:=by
 induction l with
 | nil=>rfl
 | cons x l ih=>rw[List.zipWith_cons_cons,List.map_cons,ih]
theorem Zs{α:Type}(l:List α):Z_ (l.map fun _=>D.bl true)=some (l.map fun _=>true):=yh (fun _=>true) l
theorem W5(C:Addr)(d:D):∀n:Nat,VZ d->Y4 d < n->jX C n [d,d]=some (.bl true):=by
 induction d using D.ind with
 | h d i1 i2=>
  intro n hp hn;cases n with
  | zero=>omega
  | succ n=>
   have seq:∀l:List D,(∀x∈l,jX C n [x,x]=some (.bl true))->Y9 (gT 2 (gC (gN 0) (gC (gN 1) gZ))) jS (jd (jX C n) [(false,dV 0),(false,dV 1)]) (l.map fun x=>D.tup [x,x]) [.un,.un]=some (l.map fun _=>D.bl true):=fun l h=>Jf (fun x=>D.tup [x,x]) _ fun x hx=>⟨_,rfl,rfl,by simp[h x hx]⟩
   have al:∀l:List D,((l.map fun _=>true).all id)=true:=fun l=>by simp
   simp only[jX,zp];cases d with
   | non=>simp
   | bl b=>simp[UJ,vW]
   | int i=>simp[UJ,vW]
   | str s=>simp[UJ,vW]
   | tup l=>
    rw[VZ]at hp;rw[Y4]at hn;have q:=seq l fun x hx=>i1 l rfl x hx n (UB hp.2 hx) (by have:=Uo hx;omega);simp[UJ,vW,Ky,q,hp.1,Zs]
   | lst l=>
    rw[VZ]at hp;rw[Y4]at hn;have q:=seq l fun x hx=>i2 l rfl x hx n (UB hp.2 hx) (by have:=Uo hx;omega);simp[UJ,vW,Ky,q,hp.1,Zs]
   | ins C' ns ds=>exact vDa hp (by rw[VZ];exact id)
   | scr ns=>exact vDa hp (by rw[VZ];exact id)
end M
noncomputable section
namespace M
open PySem L2 DS
noncomputable def nt(i:Int):Str:=toString i
noncomputable def B_:Option D->Bool
 | some (.bl true)=>true
 | _=>false
noncomputable def Xs(i:Nat):Option Int->Bool
 | some (.ofNat j)=>Nat.beq i j
 | _=>false
def Xu(C:Addr)(n:Nat):Bool:=B_ (Jv C [.str (nt n)])&&(Xs n (PySem.intText? (nt n))&&(Nat.ble (nt n).cps.toList.length 2&&(nt n).cps.toList.all fun c=>Nat.ble 48 c))
theorem bM(C:Addr):(List.range 31).all (Xu C)=true:=by kernel_rfl
end M
noncomputable section
namespace M
open PySem L2 DS
def ZV(i:Int):Prop:=0<=i/\i<=30
theorem eC(C:Addr){i:Int}(h:ZV i):Xu C i.toNat=true/\((i.toNat:Nat):Int)=i:=by
 refine⟨List.all_eq_true.mp (bM C) _ (List.mem_range.mpr ?_),?_⟩ <;> (have:=h.1;have:=h.2;omega)
theorem bN{n:Nat}{o:Option Int}(h:Xs n o=true):o=some (n:Int):=by
 unfold Xs at h;split at h
 ·rw[Nat.eq_of_beq_eq_true h];rfl
 ·cases h
theorem JY{i:Int}(h:ZV i):PySem.intText? (nt i)=some i/\(nt i).length<=2/\∀c∈(nt i).cps.toList,48<=c:=by
 obtain⟨h1,h2⟩:=eC 0 h;unfold Xu at h1;rw[h2]at h1;obtain⟨_,h1⟩:=Bool.and_eq_true_iff.mp h1;obtain⟨a,h1⟩:=Bool.and_eq_true_iff.mp h1;obtain⟨b,c⟩:=Bool.and_eq_true_iff.mp h1;refine⟨by rw[bN a,h2],?_,fun x hx=>Nat.le_of_ble_eq_true (List.all_eq_true.mp c x hx)⟩;have:=Nat.le_of_ble_eq_true b;simpa[Str.length]using this
theorem W6{i:Int}(h:ZV i):i.natAbs.log2 < 1920:=by
 have h1:i.natAbs < 2 ^ 5:=by have:=h.1;have:=h.2;omega
 have:i.natAbs.log2<=5:=by
  by_cases h0:i.natAbs=0
  ·rw[h0];decide
  ·exact wQa ((Nat.log2_lt h0).mpr h1)
 omega
theorem bO{i:Int}(h:ZV i):zG [.int i]=some (.str (nt i)):=by
 show(if i.natAbs.log2 < 1920 then some (D.str (nt i))else none)=_;rw[if_pos (W6 h)]
theorem yW:(" " : Str)=⟨#[32]⟩:=by kernel_rfl
theorem gi:("\n" : Str)=⟨#[10]⟩:=by kernel_rfl
def Vs(t:T3):Prop:=ZV t.1/\ZV t.2.1/\ZV t.2.2
noncomputable def YT(w:Str)(t:T3):Str:=Txt.join " " [w,nt t.1,nt t.2.1,nt t.2.2]
theorem bP{sep:Str}{ys:List Str}{m:Nat}(hs:sep.length=1)(h:∀y∈ys,y.length<=m)(hm:m<=1000)(hl:ys.length<=1000):JoinOk sep ys=true:=by
 refine PyProof.Rows.joinOk_of ?_;have:(ys.map (·.length)).sum<=ys.length * m:=by
  clear hl;induction ys with
  | nil=>simp
  | cons y r ih=>
   have h1:=h y (by simp);have h2:=ih fun z hz=>h z (by simp[hz]);simp only[List.map_cons,List.sum_cons,List.length_cons,Nat.succ_mul];omega
 have h3:ys.length * m<=1000 * 1000:=Nat.mul_le_mul hl hm;rw[hs];omega
theorem uB{w:Str}{t:T3}(hw:w.length<=4)(h:Vs t):(YT w t).length<=13:=by
 obtain⟨_,a,_⟩:=JY h.1;obtain⟨_,b,_⟩:=JY h.2.1;obtain⟨_,c,_⟩:=JY h.2.2;unfold YT;show(Builtin.Str.glued _ _).length<=_;rw[StrLaws.glued_eq_join,PyProof.Rows.len_join_cons,yW];simp[Str.length]at *;omega
noncomputable def Z7(n:Int):Str := "size " ++ nt n
def Yn(b:Bk):List Str:=Z7 b.size::(b.kinds.map (YT "kind")++(b.shuns.map (YT "shun")++(b.bars.map (YT "bar")++b.dues.map (YT "due"))))
def kj(b:Bk):Str:=Txt.join "\n" (Yn b)
end M
noncomputable section
namespace M
open PySem L2 DS
theorem OkB.tk{b:Bk}(h:OkB b):∀t∈b.kinds,Vs t:=fun t ht=>by
 have:=h.ks t ht;unfold fK at this;simp only[Bool.and_eq_true,decide_eq_true_eq]at this;unfold Vs ZV;omega
theorem OkB.th{b:Bk}(h:OkB b):∀t∈b.shuns,Vs t:=fun t ht=>by
 have:=h.hs t ht;have:=h.k2;unfold fS at *;simp only[Bool.and_eq_true,decide_eq_true_eq]at *;unfold Vs ZV;omega
theorem OkB.tb{b:Bk}(h:OkB b):∀t∈b.bars,Vs t:=fun t ht=>by
 have:=h.bs t ht;have:=h.k2;have:=h.s2;unfold fB at *;simp only[Bool.and_eq_true,decide_eq_true_eq]at *;unfold Vs ZV;omega
theorem OkB.td{b:Bk}(h:OkB b):∀t∈b.dues,Vs t:=fun t ht=>by
 have:=h.ds t ht;have:=h.k2;have:=h.s2;unfold fB at *;simp only[Bool.and_eq_true,decide_eq_true_eq]at *;unfold Vs ZV;omega
theorem OkB.sz{b:Bk}(h:OkB b):ZV b.size:=⟨by have:=h.s1;omega,h.s2⟩
theorem YZ{C:Addr}{b:Bk}{m:Str}{F:List D->Option OD}{l:List T3}(hm:m∉(["size", "kind_rows", "shun_rows", "bar_rows", "due_rows"]:List Str))(h:F [JO C b]=some (.lst (l.map t3))):JT C m F (JO C b)=some (.lst (l.map t3)):=by
 unfold JT JO at *;simp only[hm,not_false_eq_true,and_self,if_true];exact h
@[simp] theorem Ff(C:Addr)(b:Bk):JT C "kinds" (zO C) (JO C b)=some (.lst (b.kinds.map t3)):=YZ (by decide) (by simp only[zO,zN];simp)
@[simp] theorem Fg(C:Addr)(b:Bk):JT C "shuns" (zQ C) (JO C b)=some (.lst (b.shuns.map t3)):=YZ (by decide) (by simp only[zQ,zP];simp)
@[simp] theorem hZ(C:Addr)(b:Bk):JT C "bars" (Zx C) (JO C b)=some (.lst (b.bars.map t3)):=YZ (by decide) (by simp only[Zx,Zw];simp)
@[simp] theorem h_(C:Addr)(b:Bk):JT C "dues" (Zz C) (JO C b)=some (.lst (b.dues.map t3)):=YZ (by decide) (by simp only[Zz,Zy];simp)
theorem QC{n:Int}(h:ZV n):(Z7 n).length<=7:=by
 have e:("size " : Str).length=5:=by kernel_rfl
 unfold Z7;rw[Str.length_append,e];have:=(JY h).2.1;omega
theorem gj{b:Bk}(h:OkB b):∀r∈Yn b,r.length<=13:=by
 have w0:("kind" : Str).length<=4:=by decide
 have w1:("shun" : Str).length<=4:=by decide
 have w2:("bar" : Str).length<=4:=by decide
 have w3:("due" : Str).length<=4:=by decide
 intro r hr;unfold Yn at hr;simp only[List.mem_cons,List.mem_append,List.mem_map]at hr;rcases hr with rfl | ⟨t,ht,rfl⟩ | ⟨t,ht,rfl⟩ | ⟨t,ht,rfl⟩ | ⟨t,ht,rfl⟩
 ·have:=QC h.sz;omega
 ·exact uB w0 (h.tk t ht)
 ·exact uB w1 (h.th t ht)
 ·exact uB w2 (h.tb t ht)
 ·exact uB w3 (h.td t ht)
theorem GJ{b:Bk}(h:OkB b):(Yn b).length<=40:=by
 have:=h.k2;have:=h.h2;have:=h.b2;have:=h.d2;unfold Yn;simp;omega
theorem QD{b:Bk}(h:OkB b):JoinOk "\n" (Yn b)=true:=bP (m:=13) (by rw[gi];rfl) (gj h) (by omega) (by have:=GJ h;omega)
theorem ze:∀l:List Str,zY (l.map D.str)=some l
 | []=>rfl
 | x::l=>by rw[List.map_cons,zY,ze l];rfl
def Kz(ps:List (Str×List T3)):List Str:=ps.flatMap fun p=>p.2.map (YT p.1)
def eD(p:Str×List T3):Prop:=p.1.length<=4/\p.2.length<=20/\∀t∈p.2,Vs t
noncomputable def A5(p:Str×List T3):D:=.tup [.str p.1,.lst (p.2.map t3)]
noncomputable def UC(b:Bk):List (Str×List T3):=[("kind",b.kinds),("shun",b.shuns),("bar",b.bars),("due",b.dues)]
theorem bQ{b:Bk}(h:OkB b):∀p∈UC b,eD p:=by
 have:=h.k2;have:=h.h2;have:=h.b2;have:=h.d2;intro p hp;simp[UC]at hp;rcases hp with rfl | rfl | rfl | rfl
 ·exact⟨show("kind" : Str).length<=4 by decide,by simp;omega,h.tk⟩
 ·exact⟨show("shun" : Str).length<=4 by decide,by simp;omega,h.th⟩
 ·exact⟨show("bar" : Str).length<=4 by decide,by simp;omega,h.tb⟩
 ·exact⟨show("due" : Str).length<=4 by decide,by simp;omega,h.td⟩
theorem bR(b:Bk):[Z7 b.size]++Kz (UC b)=Yn b:=by simp[Kz,UC,Yn]
end M
noncomputable section
namespace M
open PySem L2 DS
theorem W7(Z:j6):∀(ds:List DE) (ys:List Str) (acc:Str),ds.map (· Z)=ys.map (fun y=>some (D.str y))->acc.length+(ys.map (·.length)).sum<=sizeLine->Q5 ds acc Z=some [.str (ys.foldl (· ++ ·) acc)]
 | [],[],acc,_,_=>rfl
 | [],_::_,_,h,_=>by cases h
 | _::_,[],_,h,_=>by cases h
 | d::ds,y::ys,acc,h,hl=>by
  simp only[List.map_cons,List.cons.injEq]at h;simp only[List.map_cons,List.sum_cons]at hl;have e:=W7 Z ds ys (acc++y) h.2 (by rw[Str.length_append];omega);have l:(acc++y).length<=sizeLine:=by rw[Str.length_append];omega
  rw[Q5,h.1];simp[l,e]
theorem KA:∀(ys:List Str) (acc:Str),(ys.foldl (· ++ ·) acc).length=acc.length+(ys.map (·.length)).sum
 | [],_=>by simp
 | y::ys,acc=>by
  rw[List.foldl_cons,KA ys,Str.length_append];simp;omega
theorem Xv{Z:j6}{ds:List DE}{ys:List Str}(h:ds.map (· Z)=ys.map (fun y=>some (D.str y)))(hl:(ys.map (·.length)).sum<=sizeLine):gP ds Z=some (.str (ys.foldl (· ++ ·) Str.empty)):=by
 have e0:Str.empty.length=0:=rfl;have l:(ys.foldl (· ++ ·) Str.empty).length<=sizeLine:=by rw[KA,e0];omega
 unfold gP;rw[W7 Z ds ys Str.empty h (by rw[e0];omega)];simp[l]
theorem KB{d:DE}{Z:j6}{i:Int}(h:ZV i)(e:d Z=some (.int i)):ZO d Z=some (.str (nt i)):=by
 have l:=W6 h;unfold ZO;rw[e];simp only[Option.bind_some];rw[if_pos l];rfl
theorem eE{d:DE}{Z:j6}{w:Str}(h:w.length<=100)(e:d Z=some (.str w)):ZO d Z=some (.str w):=by
 have l:w.length<=sizeLine:=wQa (jk (by omega));unfold ZO;rw[e];simp only[Option.bind_some];rw[if_pos l]
theorem Xw(w:Str)(t:T3):[w, " ",nt t.1, " ",nt t.2.1, " ",nt t.2.2].foldl (· ++ ·) Str.empty=YT w t:=by
 have e:Str.empty++w=w:=by
  show(⟨#[]++w.cps⟩:Str)=w;rw[Array.empty_append]
 simp only[List.foldl_cons,List.foldl_nil,e];rfl
theorem bS{w:Str}{t:T3}(hw:w.length<=4)(h:Vs t)(x0 x1 x3:Sl):gP [ZO (dC 2),dK (.str " "),ZO (dC 4),dK (.str " "),ZO (dC 5),dK (.str " "),ZO (dC 6)] [x0,x1,.cl (.str w),x3,.cl (.int t.1),.cl (.int t.2.1),.cl (.int t.2.2)]=some (.str (YT w t)):=by
 obtain⟨_,a,_⟩:=JY h.1;obtain⟨_,b,_⟩:=JY h.2.1;obtain⟨_,c,_⟩:=JY h.2.2;have e1:(" " : Str).length=1:=by rw[yW];rfl
 rw[<-Xw];refine Xv ?_ ?_
 ·have f1:=eE (d:=dC 2) (Z:=[x0,x1,.cl (.str w),x3,.cl (.int t.1),.cl (.int t.2.1),.cl (.int t.2.2)]) (w:=w) (by omega) (by simp);have f2:=KB (d:=dC 4) (Z:=[x0,x1,.cl (.str w),x3,.cl (.int t.1),.cl (.int t.2.1),.cl (.int t.2.2)]) h.1 (by simp);have f3:=KB (d:=dC 5) (Z:=[x0,x1,.cl (.str w),x3,.cl (.int t.1),.cl (.int t.2.1),.cl (.int t.2.2)]) h.2.1 (by simp);have f4:=KB (d:=dC 6) (Z:=[x0,x1,.cl (.str w),x3,.cl (.int t.1),.cl (.int t.2.1),.cl (.int t.2.2)]) h.2.2 (by simp);simp only[List.map_cons,List.map_nil,f1,f2,f3,f4];rfl
 ·have s:(100:Nat)<=sizeLine:=by decide
  simp only[List.map_cons,List.map_nil,List.sum_cons,List.sum_nil,e1];omega
theorem W8(C:Addr)(x0 x3:Sl)(w:Str)(hw:w.length<=4):∀(ts:List T3) (rs:List Str) (x4 x5 x6:Sl),(∀t∈ts,Vs t)->rs.length+ts.length<=1000->
  ∃y4 y5 y6,J2 Ye (Yg C) (ts.map t3) [x0,.ow none (.lst (rs.map D.str)),.cl (.str w),x3,x4,x5,x6]=some (.nx [x0,.ow none (.lst ((rs++ts.map (YT w)).map D.str)),.cl (.str w),x3,y4,y5,y6])
 | [],rs,x4,x5,x6,_,_=>⟨x4,x5,x6,by simp[J2]⟩
 | t::ts,rs,x4,x5,x6,ht,hl=>by
  simp only[List.length_cons]at hl;have e:=bS hw (ht t (by simp)) x0 (.ow none (.lst (rs.map D.str))) x3;have hz:rs.length < sizeLine:=jk (by omega);have b1:Yg C [x0,.ow none (.lst (rs.map D.str)),.cl (.str w),x3,.cl (.int t.1),.cl (.int t.2.1),.cl (.int t.2.2)]=some (.nx [x0,.ow none (.lst ((rs++[YT w t]).map D.str)),.cl (.str w),x3,.cl (.int t.1),.cl (.int t.2.1),.cl (.int t.2.2)]):=by
   simp only[Yg];simp[e,hz]
  obtain⟨y4,y5,y6,ih⟩:=W8 C x0 x3 w hw ts (rs++[YT w t]) (.cl (.int t.1)) (.cl (.int t.2.1)) (.cl (.int t.2.2)) (fun q hq=>ht q (by simp[hq])) (by simp;omega);refine⟨y4,y5,y6,?_⟩;have t1:Ye (t3 t) [x0,.ow none (.lst (rs.map D.str)),.cl (.str w),x3,x4,x5,x6]=some [x0,.ow none (.lst (rs.map D.str)),.cl (.str w),x3,.cl (.int t.1),.cl (.int t.2.1),.cl (.int t.2.2)]:=by
   simp[Ye,t3]
  rw[List.map_cons,J2,t1,Option.bind_some,b1,Option.bind_some];refine Eq.trans ih ?_;simp
theorem KC(C:Addr)(x0:Sl):∀(ps:List (Str×List T3)) (rs:List Str) (x2 x3 x4 x5 x6:Sl),(∀p∈ps,eD p)->rs.length+20 * ps.length<=1000->
  ∃y2 y3 y4 y5 y6,J2 Yh (Yj C) (ps.map A5) [x0,.ow none (.lst (rs.map D.str)),x2,x3,x4,x5,x6]=some (.nx [x0,.ow none (.lst ((rs++Kz ps).map D.str)),y2,y3,y4,y5,y6])
 | [],rs,x2,x3,x4,x5,x6,_,_=>⟨x2,x3,x4,x5,x6,by simp[J2,Kz]⟩
 | p::ps,rs,x2,x3,x4,x5,x6,hg,hl=>by
  obtain⟨g1,g2,g3⟩:=hg p (by simp);simp only[List.length_cons]at hl;obtain⟨z4,z5,z6,e⟩:=W8 C x0 (.cl (.lst (p.2.map t3))) p.1 g1 p.2 rs x4 x5 x6 g3 (by omega);have b1:Yj C [x0,.ow none (.lst (rs.map D.str)),.cl (.str p.1),.cl (.lst (p.2.map t3)),x4,x5,x6]=some (.nx [x0,.ow none (.lst ((rs++p.2.map (YT p.1)).map D.str)),.cl (.str p.1),.cl (.lst (p.2.map t3)),z4,z5,z6]):=by
   simp only[Yj,JL];refine Eq.trans ?_ e;simp
  obtain⟨y2,y3,y4,y5,y6,ih⟩:=KC C x0 ps (rs++p.2.map (YT p.1)) (.cl (.str p.1)) (.cl (.lst (p.2.map t3))) z4 z5 z6 (fun q hq=>hg q (by simp[hq])) (by simp;omega);refine⟨y2,y3,y4,y5,y6,?_⟩;have t1:Yh (A5 p) [x0,.ow none (.lst (rs.map D.str)),x2,x3,x4,x5,x6]=some [x0,.ow none (.lst (rs.map D.str)),.cl (.str p.1),.cl (.lst (p.2.map t3)),x4,x5,x6]:=by
   simp[Yh,A5]
  rw[List.map_cons,J2,t1,Option.bind_some,b1,Option.bind_some];refine Eq.trans ih ?_;simp[Kz]
theorem bT{de:DE}{Z:j6}{d:D}(h:de Z=some d):YI 1 (jB [(true,de)]) Z=some (.nx (Z.set 1 (.ow none (.lst [d])))):=by
 simp[h]
theorem KZ(C:Addr)(b:Bk)(h:OkB b):vc C [yZ b]=some (.lst ((Yn b).map D.str)):=by
 have es:=bO h.sz;have e5:("size " : Str).length=5:=by kernel_rfl
 have l0:("size " : Str).length+(nt b.size).length<=sizeLine:=by
  have:=(JY h.sz).2.1;exact wQa (jk (by omega))
 obtain⟨y2,y3,y4,y5,y6,el⟩:=KC C (.bo (yZ b)) (UC b) [Z7 b.size] .un .un .un .un .un (bQ h) (by simp[UC]);rw[bR]at el;simp only[UC,List.map_cons,List.map_nil,A5]at el;have cu:jZ [D.int b.size,.lst (b.kinds.map t3),.lst (b.shuns.map t3),.lst (b.bars.map t3),.lst (b.dues.map t3)] (some 1) none=[.lst (b.kinds.map t3),.lst (b.shuns.map t3),.lst (b.bars.map t3),.lst (b.dues.map t3)]:=gh _ 1;have fs:jG (.str "size ") (.str (nt b.size))=some (.str (Z7 b.size)):=by
  show(if ("size " : Str).length+(nt b.size).length<=sizeLine then some (D.str ("size " ++ nt b.size))else none)=_;rw[if_pos l0];rfl
 have f0:(d2 jG (dK (.str "size ")) (jd zG [(false,(d2 jj (dV 0) (dK (.int 0))))])) [.bo (yZ b),.un,.un,.un,.un,.un,.un]=some (.str (Z7 b.size)):=by
  show((zG [.int b.size]).bind fun y=>jG (.str "size ") y)=_;rw[es];exact fs
 have lz:(5:Nat)<=sizeLine:=by decide
 have l4:(4:Nat)<=sizeLine:=by decide
 have go:zk C [.bo (yZ b),.un,.un,.un,.un,.un,.un]=some (.rf (.lst ((Yn b).map D.str))):=by
  unfold zk;have o1:YI 1 (jB [(true,(d2 jG (dK (.str "size ")) (jd zG [(false,(d2 jj (dV 0) (dK (.int 0))))])))]) [.bo (yZ b),.un,.un,.un,.un,.un,.un]=some (.nx [.bo (yZ b),.ow none (.lst [.str (Z7 b.size)]),.un,.un,.un,.un,.un]):=by
   exact bT f0
  have z1:kP (dL (jB [(true,(dK (.str "kind"))),(true,(dK (.str "shun"))),(true,(dK (.str "bar"))),(true,(dK (.str "due")))])) (k6 (dV 0) (fun Z=>((dK (.int 1)) Z).bind yx) (fun _=>some none)) [.bo (yZ b),.ow none (.lst [.str (Z7 b.size)]),.un,.un,.un,.un,.un]=some [.tup [.str "kind",.lst (b.kinds.map t3)],.tup [.str "shun",.lst (b.shuns.map t3)],.tup [.str "bar",.lst (b.bars.map t3)],.tup [.str "due",.lst (b.dues.map t3)]]:=by
   have ct:WF (yZ b) (some 1) none=some (.tup [.lst (b.kinds.map t3),.lst (b.shuns.map t3),.lst (b.bars.map t3),.lst (b.dues.map t3)]):=rfl;simp[ct,yx]
  rw[j9,o1,Option.bind_some];show(j9 _ _) _=_;rw[j9,JL,z1,Option.bind_some,el,Option.bind_some];simp
 simp only[vc];simp[go]
end M
noncomputable section
namespace M
open PySem L2 DS
noncomputable def wd:Nat->Str
 | 0 => "kind"
 | 1 => "shun"
 | 2 => "bar"
 | _ => "due"
theorem uC:Uq (PT.map D.str)=some (PT.map V.str):=by simp[PT]
end M
noncomputable section
namespace M
open PySem L2 DS
noncomputable def JW(b:Bk):List (List D):=[b.kinds.map t3,b.shuns.map t3,b.bars.map t3,b.dues.map t3]
noncomputable def Jp(b:Bk):Nat->T3->Bk
 | 0,t=>{ b with kinds:=b.kinds++[t] }
 | 1,t=>{ b with shuns:=b.shuns++[t] }
 | 2,t=>{ b with bars:=b.bars++[t] }
 | _,t=>{ b with dues:=b.dues++[t] }
theorem W9:∀l:List T3,gO (l.map t3)=true
 | []=>rfl
 | t::l=>by rw[List.map_cons];simp[t3,W9 l]
theorem Xx(C:Addr)(b:Bk):V2 (JO C b)=some (JO C b):=by
 unfold V2;rw[if_pos];simp[JO,xU,W9]
theorem eF{b:Bk}{p:Nat}(hp:p < 4)(t:T3):∃m,(JW b)[p]?=some m/\(JW b).set p (m++[t3 t])=JW (Jp b p t)/\∃l:List T3,m=l.map t3/\(l=b.kinds \/ l=b.shuns \/ l=b.bars \/ l=b.dues):=by
 have:p=0 \/ p=1 \/ p=2 \/ p=3:=by omega
 rcases this with rfl | rfl | rfl | rfl
 ·exact⟨_,rfl,by simp[JW,Jp],_,rfl,.inl rfl⟩
 ·exact⟨_,rfl,by simp[JW,Jp],_,rfl,.inr (.inl rfl)⟩
 ·exact⟨_,rfl,by simp[JW,Jp],_,rfl,.inr (.inr (.inl rfl))⟩
 ·exact⟨_,rfl,by simp[JW,Jp],_,rfl,.inr (.inr (.inr rfl))⟩
theorem KD(b:Bk)(p:Nat)(t:T3):(Jp b p t).size=b.size:=by
 unfold Jp;split <;> rfl
structure Small (b:Bk):Prop where
 k:b.kinds.length<=100
 h:b.shuns.length<=100
 b':b.bars.length<=100
 d:b.dues.length<=100
end M
noncomputable section
namespace M
open PySem L2 DS CP
theorem sq{s t:DS.DS}{Z Z1:j6}{r:Option Rs}(h:s Z=some (.nx Z1))(k:t Z1=r):j9 s t Z=r:=by rw[j9,h];exact k
theorem sr{s t:DS.DS}{Z:j6}{d:D}(h:s Z=some (.rt d)):j9 s t Z=some (.rt d):=by rw[j9,h];rfl
theorem Wa{s:DS.DS}{m:DM}{Z Z1:j6}{r:Option Rm}(h:s Z=some (.nx Z1))(k:m Z1=r):Ur s m Z=r:=by rw[Ur,h];exact k
theorem A6{c:DT}{d:DE}{m:DM}{Z:j6}{r:Option Rm}{b:Bool}(h:c Z=some b)(k:(if b=true then VN d Z else m Z)=r):kX c d m Z=r:=by rw[kX,h];exact k
theorem uX{y:DY}{d:DS.DS}{y':DY}{Z Z1:j6}{r:Option Int}(h:y Z=none)(e:d Z=some (.nx Z1))(k:y' Z1=r):J3 y d y' Z=r:=by
 unfold J3;rw[h];dsimp only;rw[e];exact k
theorem eG{y:DY}{d:DS.DS}{y':DY}{Z:j6}{i:Int}(h:y Z=some i):J3 y d y' Z=some i:=by
 unfold J3;rw[h]
theorem Wb{c:DT}{a b:DS.DS}{Z:j6}{r:Option Rs}{k:Bool}(h:c Z=some k)(e:(if k=true then a Z else b Z)=r):jC c a b Z=r:=by rw[jC,h];exact e
theorem fE{ks:List Bool}{n:Nat}{b:DS.DS}{ds:List D}{Z:j6}{d:D}(h:b Z=some (.rt d))(e:YJ ks ds n=Z):yA ks n b ds=some d:=by
 show(b (YJ ks ds n)).bind _=_;rw[e,h];rfl
end M
noncomputable section
namespace M
open PySem L2 DS
noncomputable def Yy(c:Nat):Bool:=Nat.ble 48 c&&Nat.ble c 57
def jp(w:Str):Bool:=decide (1<=w.length)&&(decide (w.length<=4)&&(w.cps.toList.all Yy&&(decide (w.cps.toList=[48])||!decide (w.cps.toList.head?=some 48))))
theorem QE(a c:Nat):([c] < [a])↔c < a:=by
 rw[List.cons_lt_cons_iff];simp
theorem Gh{a c:Nat}(h:¬a<=c):Nat.ble a c=false:=by
 cases q:Nat.ble a c with
 | false=>rfl
 | true=>exact vDa (Nat.le_of_ble_eq_true q) h
theorem Wc(a c:Nat):VP (.str ⟨#[a]⟩) (.str ⟨#[c]⟩)=some (.bl (Nat.ble a c)):=by
 show some (D.bl (!(decide ([c] < [a]))))=_;by_cases h:a<=c
 ·rw[decide_eq_false (fun z=>by have:=(QE a c).mp z;omega),Nat.ble_eq_true_of_le h];rfl
 ·rw[decide_eq_true ((QE a c).mpr (by omega)),Gh h];rfl
theorem vO:("0" : Str)=⟨#[48]⟩:=by kernel_rfl
theorem bU:("9" : Str)=⟨#[57]⟩:=by kernel_rfl
theorem KG{x y:Str}:x=y↔x.cps.toList=y.cps.toList:=by
 constructor
 ·rintro rfl;rfl
 ·intro h;cases x;cases y;simp only at h;rw[Array.toList_inj.mp h]
theorem Vt(C:Addr)(w:Str)(hl:w.length<=10000):Jv C [.str w]=some (.bl (jp w)):=by
 have l:w.length<=sizeLine:=wQa (jk hl);have lc:w.cps.toList.length=w.length:=by simp[Str.length]
 have cm:=Jf (g:=gN 0) (dc:=jS) (de:=J1 VP VP (dK (.str "0")) (dV 0) (dK (.str "9"))) (Z:=[.un]) (fun c:Nat=>D.str ⟨#[c]⟩) (fun c=>.bl (Yy c)) (xs:=w.cps.toList) (by
  intro c _;refine⟨_,rfl,rfl,?_⟩;have e1:=Wc 48 c;have e2:=Wc c 57;rw[<-vO]at e1;rw[<-bU]at e2;unfold Yy;cases h:Nat.ble 48 c <;> rw[h]at e1 <;> simp[e1,e2,gG])
 have al:=yh Yy w.cps.toList;have al2:((w.cps.toList.map Yy).all id)=w.cps.toList.all Yy:=zd Yy _;have sg:Us w=w.cps.toList.map fun c=>D.str ⟨#[c]⟩:=rfl;have lw:(w.cps.toList.map Yy).length<=sizeLine:=by rw[List.length_map,lc];exact l
 unfold jp;by_cases h1:1<=w.length
 ·by_cases h2:w.length<=4
  ·have h1':(1:Int)<=(w.length:Int):=by omega
   have h2':(w.length:Int)<=4:=by omega
   obtain⟨c0,r,hc⟩:∃c0 r,w.cps.toList=c0::r:=by
    cases q:w.cps.toList with
    | nil=>rw[q]at lc;simp at lc;omega
    | cons c r=>exact⟨c,r,rfl⟩
   have ix:Zo (.str w) (.int 0)=some (.str ⟨#[c0]⟩):=by
    show(if w.length<=sizeLine then(atI w.cps.toList 0).bind fun c=>some (D.str ⟨#[c]⟩)else none)=_;rw[if_pos l,zD (by decide) (show w.cps.toList[(0:Int).toNat]?=some c0 by rw[hc];rfl)];rfl
   have w0:(w = "0")↔w.cps.toList=[48]:=by rw[KG,vO]
   have c48:((⟨#[c0]⟩:Str) = "0")↔c0=48:=by rw[KG,vO];simp
   have h0:(w.cps.toList.head?=some 48)↔c0=48:=by rw[hc];simp
   simp only[Jv,Y6];cases ha:w.cps.toList.all Yy
   ·rw[ha]at al2;simp[l,h1,h2,h1',h2',sg,lc,cm,al,al2]
   ·rw[ha]at al2;by_cases z:w.cps.toList=[48]
    ·have z':=w0.mpr z;have e:(decide (1<=w.length)&&(decide (w.length<=4)&&(true&&(decide (w.cps.toList=[48])||!decide (w.cps.toList.head?=some 48)))))=true:=by
      rw[decide_eq_true h1,decide_eq_true h2,decide_eq_true z];rfl
     rw[e];clear e;subst z'
     kernel_rfl
    ·have z':¬w = "0" := fun q=>z (w0.mp q);by_cases y:c0=48
     ·have y':=c48.mpr y;have y2:=h0.mpr y;simp[l,h1,h2,h1',h2',sg,lc,cm,al,al2,z,z',ix,y',y2,Zm]
     ·have y':¬(⟨#[c0]⟩:Str) = "0" := fun q=>y (c48.mp q);have y2:¬w.cps.toList.head?=some 48:=fun q=>y (h0.mp q);simp[l,h1,h2,h1',h2',sg,lc,cm,al,al2,z,z',ix,y',y2,Zm]
  ·have h1':(1:Int)<=(w.length:Int):=by omega
   have h2':¬(w.length:Int)<=4:=by omega
   simp only[Jv,Y6];simp[l,h1,h2,h1',h2']
 ·have h1':¬(1:Int)<=(w.length:Int):=by omega
  simp only[Jv,Y6];simp[l,h1,h1']
end M
noncomputable section
namespace M
open PySem L2 DS
theorem V_{w:Str}(h:jp w=true):1<=w.length/\w.length<=4/\∀c∈w.cps.toList,48<=c/\c<=57:=by
 unfold jp at h;simp only[Bool.and_eq_true,decide_eq_true_eq]at h;refine⟨h.1,h.2.1,fun c hc=>?_⟩;have:=List.all_eq_true.mp h.2.2.1 c hc;unfold Yy at this;obtain⟨a,b⟩:=Bool.and_eq_true_iff.mp this;exact⟨Nat.le_of_ble_eq_true a,Nat.le_of_ble_eq_true b⟩
theorem bV{w:Str}(h:jp w=true):∃n:Nat,PySem.intText? w=some (n:Int):=by
 obtain⟨h1,h2,h3⟩:=V_ h;have lc:w.cps.toList.length=w.length:=by simp[Str.length]
 exact⟨_,PySem.intText_digits (x:=w) h3 (fun q=>by rw[q]at lc;simp at lc;omega) (by omega)⟩
noncomputable def jQ(w:Str):Int:=(PySem.intText? w).getD 0
theorem yK{w:Str}(h:jp w=true):zZ [.str w]=some (.int (jQ w))/\0<=jQ w:=by
 obtain⟨n,e⟩:=bV h;obtain⟨h1,h2,h3⟩:=V_ h;have v:jQ w=n:=by unfold jQ;rw[e];rfl
 constructor
 ·show(if w.length<=640 then(PySem.intText? w).bind fun n=>some (D.int n)else none)=_;rw[if_pos (by omega),e,v];rfl
 ·rw[v];omega
def Yo(row:Str):Option Int:=if (Txt.partition row " ").1 = "size" /\jp (Txt.partition row " ").2.2=true/\1<=jQ (Txt.partition row " ").2.2/\jQ (Txt.partition row " ").2.2<=30 then some (jQ (Txt.partition row " ").2.2)else none
noncomputable def oI:Option Int->D
 | none=>.non
 | some i=>.int i
theorem GQ(C:Addr)(row:Str)(hl:row.length<=9999)(hp:(Txt.partition row " ").2.2.length<=10000):vh C [.str row]=some (oI (Yo row)):=by
 have e:UY (.str row) (.str " ")=some (.tup [.str (Txt.partition row " ").1,.str (Txt.partition row " ").2.1,.str (Txt.partition row " ").2.2]):=by
  have l1:1<=(" " : Str).length/\row.length < sizeLine:=⟨by decide,jk (by omega)⟩
  show(if _ then _ else _)=_;rw[if_pos l1]
 unfold Yo;revert e hp;generalize Txt.partition row " " = p;obtain⟨a,b,c⟩:=p;intro hp e;simp only at hp e⊢;have a1:=Vt C c hp;simp only[vh,vg];by_cases h1:a = "size"
 ·cases h2:jp c
  ·rw[h2]at a1;simp[e,h1,a1,oI]
  ·rw[h2]at a1;obtain⟨i1,i2⟩:=yK h2;by_cases h3:1<=jQ c
   ·by_cases h4:jQ c<=30
    ·simp[e,h1,a1,i1,h3,h4,oI]
    ·simp[e,h1,a1,i1,h3,h4,oI]
   ·simp[e,h1,a1,i1,h3,oI]
 ·simp[e,h1,oI]
end M
noncomputable section
namespace M
open PySem L2 DS
theorem qs{w:Str}(h:yD (.str w) (PT.map V.str)=true):∃p,p < 4/\JN w PT=some p/\w=wd p:=by
 have:w = "kind" \/ w = "shun" \/ w = "bar" \/ w = "due" := by
  simp[yD,PT,ZE]at h;rcases h with h | h | h | h <;> simp[h]
 rcases this with rfl | rfl | rfl | rfl
 ·exact⟨0,by decide,by kernel_rfl,rfl⟩
 ·exact⟨1,by decide,by kernel_rfl,rfl⟩
 ·exact⟨2,by decide,by kernel_rfl,rfl⟩
 ·exact⟨3,by decide,by kernel_rfl,rfl⟩
def jM:List Str->Option (Nat×T3)
 | [w,a,b,c]=>if yD (.str w) (PT.map V.str)=true/\jp a=true/\jp b=true/\jp c=true then(JN w PT).map fun p=>(p,jQ a,jQ b,jQ c)else none
 | _=>none
noncomputable def oP:Option (Nat×T3)->D
 | none=>.non
 | some q=>.tup [.int (q.1:Int),t3 q.2]
theorem GR(C:Addr)(row:Str)(hl:row.length<=9999)(hs:∀v∈Txt.split row " ",v.length<=10000)(hn:(Txt.split row " ").length<=10000):zl C [.str row]=some (oP (jM (Txt.split row " "))):=by
 have e:Jx (.str row) (.str " ")=some (.lst ((Txt.split row " ").map D.str)):=by
  have l1:1<=(" " : Str).length/\row.length < sizeLine:=⟨by decide,jk (by omega)⟩
  show(if _ then _ else _)=_;rw[if_pos l1]
 have ps:=PyProof.Rows.split_pos row " ";revert e hs hn ps;generalize Txt.split row " " = ws;intro hs hn e ps;cases ws with
 | nil=>simp at ps
 | cons w ns=>
  have l1:ns.length<=sizeLine:=wQa (jk (by simp at hn;omega));have c1:=Jf (g:=gN 0) (dc:=jS) (de:=jd (Jv C) [(false,dV 0)]) (Z:=[.un]) D.str (fun v=>.bl (jp v)) (xs:=ns) (fun x hx=>⟨_,rfl,rfl,by have:=Vt C x (hs x (by simp[hx]));simp[this]⟩);have al:=yh jp ns;have al2:=zd jp ns;simp only[zl,vi];cases hw:yD (.str w) (PT.map V.str)
  ·have pn:jM (w::ns)=none:=by
    unfold jM;split
    ·rename_i h;cases h;rw[if_neg (by rw[hw];simp)]
    ·rfl
   rw[pn];simp[e,uC,hw,oP]
  ·obtain⟨p,p4,ip,ww⟩:=qs hw;by_cases h3:ns.length=3
   ·obtain⟨a,b,c,rfl⟩:∃a b c,ns=[a,b,c]:=by
     match ns,h3 with
     | [a,b,c],_=>exact⟨a,b,c,rfl⟩
    simp only[List.map_cons,List.map_nil]at c1 al;have s3:3<=sizeLine:=by decide
    cases ha:jp a
    ·rw[ha]at c1 al;have pn:jM [w,a,b,c]=none:=by show(if _ then _ else _)=_;rw[if_neg (by rw[ha];simp)]
     rw[pn];simp[e,uC,hw,c1,s3,Z_,oP]
    cases hb:jp b
    ·rw[ha,hb]at c1 al;have pn:jM [w,a,b,c]=none:=by show(if _ then _ else _)=_;rw[if_neg (by rw[hb];simp)]
     rw[pn];simp[e,uC,hw,c1,s3,Z_,oP]
    cases hc:jp c
    ·rw[ha,hb,hc]at c1 al;have pn:jM [w,a,b,c]=none:=by show(if _ then _ else _)=_;rw[if_neg (by rw[hc];simp)]
     rw[pn];simp[e,uC,hw,c1,s3,Z_,oP]
    rw[ha,hb,hc]at c1 al;have pn:jM [w,a,b,c]=some (p,jQ a,jQ b,jQ c):=by show(if _ then _ else _)=_;rw[if_pos ⟨hw,ha,hb,hc⟩,ip];rfl
    have c2:=Jf (g:=gN 0) (dc:=jS) (de:=jd zZ [(false,dV 0)]) (Z:=[.un]) D.str (fun v=>D.int (jQ v)) (xs:=[a,b,c]) (fun x hx=>⟨_,rfl,rfl,by
     have hx':jp x=true:=by
      simp only[List.mem_cons,List.not_mem_nil,or_false]at hx;rcases hx with rfl | rfl | rfl <;> assumption
     have:=(yK hx').1;simp[this]⟩)
    simp only[List.map_cons,List.map_nil]at c2;rw[pn];simp[e,uC,hw,ip,c1,c2,s3,Z_,oP,t3]
   ·have h3':¬(ns.length:Int)=3:=by omega
    have pn:jM (w::ns)=none:=by
     unfold jM;split
     ·rename_i h;cases h;simp at h3
     ·rfl
    rw[pn];simp[e,uC,hw,h3,h3',oP]
end M
noncomputable section
namespace M
open PySem L2 DS
theorem uD{c:Nat}:∀(l:List Nat) (k:Nat),pos c k l=[]↔c∉l
 | [],k=>by simp[pos]
 | a::r,k=>by
  unfold pos;split
  ·rename_i h;simp[h]
  ·rename_i h;rw[uD r];simp;intro _ e;exact h e.symm
noncomputable def TD:Str := "0123456789"
theorem Fh:TD.cps.toList=[48,49,50,51,52,53,54,55,56,57]:=by kernel_rfl
theorem eH(c:Nat):gQ (.str ⟨#[c]⟩) (.str TD)=some (.bl (Yy c)):=by
 show some (D.bl (!(Builtin.Str.occurrences TD ⟨#[c]⟩ 0 TD.length 1).isEmpty))=_;rw[uu,Fh];have e:(pos c 0 [48,49,50,51,52,53,54,55,56,57]).take 1=[]↔pos c 0 [48,49,50,51,52,53,54,55,56,57]=[]:=by simp
 have m:c∈[48,49,50,51,52,53,54,55,56,57]↔48<=c/\c<=57:=by
  simp only[List.mem_cons,List.not_mem_nil,or_false];omega
 by_cases h:48<=c/\c<=57
 ·have h1:¬(pos c 0 [48,49,50,51,52,53,54,55,56,57]).take 1=[]:=fun z=>(uD _ _).mp (e.mp z) (m.mpr h);have h2:((pos c 0 [48,49,50,51,52,53,54,55,56,57]).take 1).isEmpty=false:=by
   cases q:(pos c 0 [48,49,50,51,52,53,54,55,56,57]).take 1 with
   | nil=>exact vDa q h1
   | cons _ _=>rfl
  rw[h2];unfold Yy;rw[Nat.ble_eq_true_of_le h.1,Nat.ble_eq_true_of_le h.2];rfl
 ·rw[e.mpr ((uD _ _).mpr fun z=>h (m.mp z))];unfold Yy;by_cases h1:48<=c
  ·rw[Gh (a:=c) (c:=57) (by omega),Bool.and_false];rfl
  ·rw[Gh h1];rfl
def zf(w:Str):Int:=if jp w=true then jQ w else -1
theorem Gi(C:Addr)(w:Str)(hl:w.length<=10000):Yl C [.str w]=some (.int (zf w)):=by
 have l:w.length<=sizeLine:=wQa (jk hl);have lc:w.cps.toList.length=w.length:=by simp[Str.length]
 have cm:=Jf (g:=gN 0) (dc:=jS) (de:=d2 gQ (dV 0) (dK (.str "0123456789"))) (Z:=[.un]) (fun c:Nat=>D.str ⟨#[c]⟩) (fun c=>.bl (Yy c)) (xs:=w.cps.toList) (by
  intro c _;refine⟨_,rfl,rfl,?_⟩;have e1:=eH c;unfold TD at e1;simp[e1])
 have al:=yh Yy w.cps.toList;have al2:((w.cps.toList.map Yy).all id)=w.cps.toList.all Yy:=zd Yy _;have sg:Us w=w.cps.toList.map fun c=>D.str ⟨#[c]⟩:=rfl;have lw:(w.cps.toList.map Yy).length<=sizeLine:=by rw[List.length_map,lc];exact l
 unfold zf;simp only[Yl,zI];by_cases h1:1<=w.length
 ·by_cases h2:w.length<=4
  ·have h1':(1:Int)<=(w.length:Int):=by omega
   have h2':(w.length:Int)<=4:=by omega
   obtain⟨c0,r,hc⟩:∃c0 r,w.cps.toList=c0::r:=by
    cases q:w.cps.toList with
    | nil=>rw[q]at lc;simp at lc;omega
    | cons c r=>exact⟨c,r,rfl⟩
   have ix:Zo (.str w) (.int 0)=some (.str ⟨#[c0]⟩):=by
    show(if w.length<=sizeLine then(atI w.cps.toList 0).bind fun c=>some (D.str ⟨#[c]⟩)else none)=_;rw[if_pos l,zD (by decide) (show w.cps.toList[(0:Int).toNat]?=some c0 by rw[hc];rfl)];rfl
   have c48:((⟨#[c0]⟩:Str) = "0")↔c0=48:=by rw[KG,vO];simp
   have h0:(w.cps.toList.head?=some 48)↔c0=48:=by rw[hc];simp
   cases ha:w.cps.toList.all Yy
   ·have no:jp w=false:=by unfold jp;rw[ha];simp
    rw[ha]at al2;simp[l,h1,h2,h1',h2',sg,lc,cm,al,al2,no]
   ·rw[ha]at al2;by_cases hl1:w.length=1
    ·have hr:r=[]:=by
      rw[hc]at lc;simp at lc;cases r with
      | nil=>rfl
      | cons _ _=>simp at lc;omega
     have ok:jp w=true:=by
      unfold jp;rw[ha,hc,hr];simp[hl1]
     have n1:¬(1:Int) < (w.length:Int):=by omega
     have v:=(yK ok).1;simp[l,h1,h2,h1',h2',sg,lc,cm,al,al2,ok,n1,v]
    ·have n1:(1:Int) < (w.length:Int):=by omega
     have n48:¬w.cps.toList=[48]:=fun e=>by rw[e]at lc;simp at lc;omega
     by_cases z:c0=48
     ·have no:jp w=false:=by
       unfold jp;rw[decide_eq_false n48,decide_eq_true (h0.mpr z)];simp
      have y:=c48.mpr z;simp[l,h1,h2,h1',h2',sg,lc,cm,al,al2,no,n1,ix,y,Zm]
     ·have ok:jp w=true:=by
       unfold jp;rw[ha,decide_eq_false (fun q=>z (h0.mp q))];simp[h1,h2]
      have y:¬(⟨#[c0]⟩:Str) = "0" := fun q=>z (c48.mp q);have v:=(yK ok).1;simp[l,h1,h2,h1',h2',sg,lc,cm,al,al2,ok,n1,ix,y,Zm,v]
  ·have h1':(1:Int)<=(w.length:Int):=by omega
   have h2':¬(w.length:Int)<=4:=by omega
   have no:jp w=false:=by unfold jp;rw[decide_eq_false h2];simp
   simp[l,h1,h2,h1',h2',no]
 ·have h1':¬(1:Int)<=(w.length:Int):=by omega
  have no:jp w=false:=by unfold jp;rw[decide_eq_false h1];simp
  simp[l,h1,h1',no]
end M
noncomputable section
namespace M
open PySem L2 DS
noncomputable def NM:List Str:=["size", "kind", "shun", "bar", "due"]
def JM:List Str->Option (Nat×List Int)
 | []=>none
 | w::ns=>(JN w NM).bind fun k=>if ns.all jp=true/\ns.length=(if k=0 then 1 else 3)then some (k,ns.map jQ)else none
theorem JZ(w:Str)(ns:List Str):JM (w::ns)=(JN w NM).bind fun k=>if ns.all jp=true/\ns.length=(if k=0 then 1 else 3)then some (k,ns.map jQ)else none:=rfl
noncomputable def oL:Option (Nat×List Int)->D
 | none=>.non
 | some q=>.tup [.int (q.1:Int),.tup (q.2.map D.int)]
theorem Wd(f:Str->Int):∀l:List Str,Uq (l.map fun v=>D.int (f v))=some (l.map fun v=>V.int (f v))
 | []=>rfl
 | v::l=>by simp[Wd f l]
theorem QF:∀l:List Str,yD (V.int (-1)) (l.map fun v=>V.int (zf v))=!l.all jp
 | []=>rfl
 | v::l=>by
  have ih:=QF l;unfold yD at ih⊢;rw[List.map_cons,List.any_cons,ih,List.all_cons];cases h:jp v
  ·have:zf v=-1:=by unfold zf;rw[h];rfl
   rw[this];rfl
  ·have h0:=(yK h).2;have:zf v=jQ v:=by unfold zf;rw[h];rfl
   rw[this];have:¬jQ v=-1:=by omega
   simp[ZE,this]
theorem Fi{w:Str}(h:yD (.str w) (NM.map V.str)=true):∃k,k < 5/\JN w NM=some k/\(w = "size" ↔k=0):=by
 have:w = "size" \/ w = "kind" \/ w = "shun" \/ w = "bar" \/ w = "due" := by
  simp[yD,NM,ZE]at h;rcases h with h | h | h | h | h <;> simp[h]
 rcases this with rfl | rfl | rfl | rfl | rfl
 ·exact⟨0,by decide,by kernel_rfl,by simp⟩
 ·exact⟨1,by decide,by kernel_rfl,by decide⟩
 ·exact⟨2,by decide,by kernel_rfl,by decide⟩
 ·exact⟨3,by decide,by kernel_rfl,by decide⟩
 ·exact⟨4,by decide,by kernel_rfl,by decide⟩
theorem Fj{w:Str}(h:yD (.str w) (NM.map V.str)=false):JN w NM=none:=by
 simp[yD,NM,ZE]at h;obtain⟨h1,h2,h3,h4,h5⟩:=h;simp[NM,JN,h1,h2,h3,h4,h5]
theorem KH{ns:List Str}(h:ns.all jp=true):(ns.map fun v=>D.int (zf v))=(ns.map jQ).map D.int:=by
 rw[List.map_map];refine List.map_congr_left fun v hv=>?_;have:=List.all_eq_true.mp h v hv;show D.int (zf v)=D.int (jQ v);unfold zf;rw[if_pos this]
theorem qt(k:Bool):Z0 [.bl k]=some (.int (if k then 1 else 0)):=rfl
theorem K_(C:Addr)(row:Str)(hl:row.length<=9999)(hs:∀v∈Txt.split row " ",v.length<=10000)(hn:(Txt.split row " ").length<=10000):YO C [.str row]=some (oL (JM (Txt.split row " "))):=by
 have e:Jx (.str row) (.str " ")=some (.lst ((Txt.split row " ").map D.str)):=by
  have l1:1<=(" " : Str).length/\row.length < sizeLine:=⟨by decide,jk (by omega)⟩
  show(if _ then _ else _)=_;rw[if_pos l1]
 have ps:=PyProof.Rows.split_pos row " ";revert e hs hn ps;generalize Txt.split row " " = ws;intro hs hn e ps;cases ws with
 | nil=>simp at ps
 | cons w ns=>
  have l1:ns.length<=sizeLine:=wQa (jk (by simp at hn;omega));have c1:=Jf (g:=gN 0) (dc:=jS) (de:=jd (Yl C) [(false,dV 0)]) (Z:=[.un]) D.str (fun v=>.int (zf v)) (xs:=ns) (fun x hx=>⟨_,rfl,rfl,by have:=Gi C x (hs x (by simp[hx]));simp[this]⟩);have cu:zX (.lst ((w::ns).map D.str)) (some 1) none=some (.lst (ns.map D.str)):=by
   show some (OD.lst (jZ ((w::ns).map D.str) (some ((1:Nat):Int)) none))=_;rw[gh];rfl
  have i0:atI ((w::ns).map D.str) 0=some (.str w):=zD (by decide) rfl;have fl:=Wd zf ns;have ng:=QF ns;simp only[List.map_cons]at cu i0 e;have c20:Zg 2 0=true:=Ym (by decide) (by decide);have c21:Zg 2 1=true:=Ym (by decide) (by decide);have nmf:Uq (NM.map D.str)=some (NM.map V.str):=by simp[NM]
  refine fE ?_ rfl;refine sq (Z1:=[.bo (.str row),.cl (.lst (.str w::ns.map D.str)),.un,.un]) (by simp[e,OD.toD]) (sq (Z1:=[.bo (.str row),.cl (.lst (.str w::ns.map D.str)),.cl (.lst (NM.map D.str)),.un]) rfl (sq (Z1:=[.bo (.str row),.cl (.lst (.str w::ns.map D.str)),.cl (.lst (NM.map D.str)),.cl (.lst (ns.map fun v=>D.int (zf v)))]) ?_ ?_))
  ·simp only[jA,dL,yH,JI,yN];simp[yx,cu,OD.toD,l1,c1]
  ·cases hw:yD (.str w) (NM.map V.str)
   ·have ln:JM (w::ns)=none:=by rw[JZ,Fj hw];rfl
    rw[ln];simp[i0,nmf,hw,oL]
   ·obtain⟨k,k5,ik,ks⟩:=Fi hw;cases ha:ns.all jp
    ·have ln:JM (w::ns)=none:=by rw[JZ,ik,ha];simp
     rw[ha]at ng;rw[ln];simp[i0,nmf,hw,fl,ng,oL]
    ·rw[ha]at ng;have lx:gS (.lst (NM.map D.str)) (.str w)=some (.int (k:Int)):=by
      unfold gS;dsimp only;rw[ze,Option.bind_some,ik];rfl
     by_cases hk:k=0
     ·have hz:=ks.mpr hk;subst hz;by_cases h1:ns.length=1
      ·have ln:JM ("size" :: ns)=some (k,ns.map jQ):=by rw[JZ,ik,ha];simp[hk,h1]
       have nl:=KH ha;have h1':(ns.length:Int)=1:=by omega
       rw[ln];simp[i0,nmf,hw,fl,ng,oL,l1,h1,h1',qt,c20,c21,lx];simpa using nl
      ·have ln:JM ("size" :: ns)=none:=by rw[JZ,ik,ha];simp[hk,h1]
       have h1':¬(ns.length:Int)=1:=by omega
       rw[ln];simp[i0,nmf,hw,fl,ng,oL,l1,h1,h1',qt,c20,c21]
     ·have hz:¬w = "size" := fun e=>hk (ks.mp e);by_cases h1:ns.length=3
      ·have ln:JM (w::ns)=some (k,ns.map jQ):=by rw[JZ,ik,ha];simp[hk,h1]
       have nl:=KH ha;have h1':(ns.length:Int)=3:=by omega
       rw[ln];simp[i0,nmf,hw,fl,ng,oL,l1,h1,h1',hz,qt,c20,c21,lx];simpa using nl
      ·have ln:JM (w::ns)=none:=by rw[JZ,ik,ha];simp[hk,h1]
       have h1':¬(ns.length:Int)=3:=by omega
       rw[ln];simp[i0,nmf,hw,fl,ng,oL,l1,h1,h1',hz,qt,c20,c21]
end M
noncomputable section
namespace M
open PySem L2 DS
noncomputable def wt(ws:List Str):Nat:=(ws.map fun w=>w.length+1).sum
theorem u7(c:Nat):∀(l w:List Nat),((Jc c w l).map fun v=>v.length+1).sum=w.length+l.length+1
 | [],w=>by simp[Jc]
 | a::r,w=>by
  unfold Jc;split
  ·rw[List.map_cons,List.sum_cons,u7 c r []];simp;omega
  ·rw[u7 c r (w++[a])];simp;omega
theorem yX(x:Str):x.length=x.cps.toList.length:=by simp[Str.length]
theorem Vc(x:Str){c:Nat}(hc:c < 256):wt (Txt.split x ⟨#[c]⟩)=x.length+1:=by
 unfold wt;rw[ZU _ _ hc,List.map_map,yX];have:=u7 c x.cps.toList [];simp at this⊢;exact this
theorem yY(w:Str)(ws:List Str):wt (w::ws)=w.length+1+wt ws:=by simp[wt]
theorem QG(a b:List Str):wt (a++b)=wt a+wt b:=by simp[wt]
theorem gk{ws:List Str}{w:Str}(h:w∈ws):w.length+1<=wt ws:=by
 induction ws with
 | nil=>cases h
 | cons v ws ih=>
  rw[yY];rcases List.mem_cons.mp h with rfl | h
  ·omega
  ·have:=ih h;omega
theorem gl(ws:List Str):ws.length<=wt ws:=by
 induction ws with
 | nil=>simp
 | cons v ws ih=>rw[yY];simp;omega
theorem KI(c:Nat):∀ws:List Str,(Va c (ws.map (·.cps.toList))).length<=wt ws
 | []=>by simp[Va]
 | [w]=>by simp[Va,wt,Str.length]
 | w::v::r=>by
  have ih:=KI c (v::r);rw[yY,List.map_cons,List.map_cons,Va]
  ·rw[List.length_append,List.length_cons,<-yX];rw[List.map_cons]at ih;omega
  ·simp
theorem Gj{c:Nat}(ws:List Str):(Txt.join ⟨#[c]⟩ ws).length<=wt ws:=by
 rw[yX,Xq];exact KI c ws
theorem KJ{x:Str}(h:32∉x.cps.toList):Txt.split x " " = [x]:=by
 rw[yW,ZU _ _ (by decide)];have:=vo (c:=32) x.cps.toList [] [] h;simp[Jc]at this;rw[this];cases x;rfl
theorem KK{x a b:Str}(hx:x.cps.toList=a.cps.toList++32::b.cps.toList)(h:32∉a.cps.toList):Txt.split x " " = a::Txt.split b " " := by
 rw[yW,ZU _ _ (by decide),ZU _ _ (by decide),hx,vo a.cps.toList [] _ h,Jc,if_pos rfl];simp
theorem We{x:Str}(h:32∉x.cps.toList):(Txt.partition x " ").2.2.length=0:=by
 have hp:Builtin.Str.occurrences x ⟨#[32]⟩ 0 x.length 1=[]:=by
  rw[uu,(uD _ _).mpr h];rfl
 rw[yW];unfold Txt.partition;rw[hp];rfl
theorem Vd:∀l:List Nat,32∈l->∃a b,l=a++32::b/\32∉a
 | x::r,h=>by
  by_cases e:x=32
  ·exact⟨[],r,by simp[e],by simp⟩
  ·rcases List.mem_cons.mp h with h | h
   ·exact vDa h.symm e
   ·obtain⟨a,b,h1,h2⟩:=Vd r h;exact⟨x::a,b,by simp[h1],by simp[h2];exact fun z=>e z.symm⟩
theorem Xy{w:Str}(h:32∈w.cps.toList):jp w=false:=by
 cases q:jp w with
 | false=>rfl
 | true=>have:=(V_ q).2.2 32 h;omega
theorem A7(w:Str):JN w NM=if w = "size" then some 0 else(JN w PT).map (· + 1):=by
 show(if ("size" : Str)=w then some 0 else(JN w PT).map (· + 1))=_;by_cases h:w = "size"
 ·rw[if_pos h,if_pos h.symm]
 ·rw[if_neg h,if_neg fun e=>h e.symm]
theorem Fk{w:Str}(h:yD (.str w) (PT.map V.str)=false):JN w PT=none:=by
 simp[yD,PT,ZE]at h;obtain⟨h1,h2,h3,h4⟩:=h;simp[PT,JN,h1,h2,h3,h4]
theorem bW:JN "size" PT=none/\yD (.str "size") (PT.map V.str)=false:=by decide
theorem KL{w:Str}{ns:List Str}(h:¬w = "size"):JM (w::ns)=(jM (w::ns)).map fun q=>(q.1+1,[q.2.1,q.2.2.1,q.2.2.2]):=by
 rw[JZ,A7,if_neg h];cases hw:yD (.str w) (PT.map V.str)
 ·rw[Fk hw];have:jM (w::ns)=none:=by
   unfold jM;split
   ·rename_i e;cases e;rw[if_neg (by rw[hw];simp)]
   ·rfl
  rw[this];rfl
 ·obtain⟨p,p4,ip,_⟩:=qs hw;rw[ip];show(if ns.all jp=true/\ns.length=(if p+1=0 then 1 else 3)then some (p+1,ns.map jQ)else none)=_;rw[if_neg (show¬p+1=0 by omega)];by_cases h3:ns.length=3
  ·obtain⟨a,b,c,rfl⟩:∃a b c,ns=[a,b,c]:=by
    match ns,h3 with
    | [a,b,c],_=>exact⟨a,b,c,rfl⟩
   have pw:jM [w,a,b,c]=if yD (.str w) (PT.map V.str)=true/\jp a=true/\jp b=true/\jp c=true then(JN w PT).map fun p=>(p,jQ a,jQ b,jQ c)else none:=rfl
   rw[pw,hw,ip];by_cases hh:jp a=true/\jp b=true/\jp c=true
   ·rw[if_pos ⟨by simp[hh],rfl⟩,if_pos ⟨rfl,hh⟩];rfl
   ·rw[if_neg fun z=>hh (by simpa using z.1),if_neg fun z=>hh z.2];rfl
  ·rw[if_neg fun z=>h3 z.2];have:jM (w::ns)=none:=by
    unfold jM;split
    ·rename_i e;cases e;simp at h3
    ·rfl
   rw[this];rfl
theorem QH(ns:List Str):jM ("size" :: ns)=none:=by
 unfold jM;split
 ·rename_i e;cases e;rw[if_neg (by rw[bW.2];simp)]
 ·rfl
theorem KM(ns:List Str):JM ("size" :: ns)=if ns.all jp=true/\ns.length=1 then some (0,ns.map jQ)else none:=by
 rw[JZ,A7,if_pos rfl];rfl
theorem bX(r:Str):(Txt.partition r " ").2.2.length<=r.length:=by
 by_cases h:32∈r.cps.toList
 ·obtain⟨a,b,e,ha⟩:=Vd _ h;have hx:r.cps.toList=(⟨a.toArray⟩:Str).cps.toList++32::(⟨b.toArray⟩:Str).cps.toList:=by simpa using e
  have p:=Kt (c:=32) hx (by simpa using ha);rw[<-yW]at p;rw[p,yX r,hx,List.length_append,List.length_cons,<-yX,<-yX];show(⟨b.toArray⟩:Str).length<=_;omega
 ·rw[We h];omega
def kl:List Str->Option Int
 | [w,n]=>if w = "size" /\jp n=true/\1<=jQ n/\jQ n<=30 then some (jQ n)else none
 | _=>none
theorem qu(row:Str):Yo row=kl (Txt.split row " "):=by
 by_cases h:32∈row.cps.toList
 ·obtain⟨a,b,e,ha⟩:=Vd _ h;have hx:row.cps.toList=(⟨a.toArray⟩:Str).cps.toList++32::(⟨b.toArray⟩:Str).cps.toList:=by simpa using e
  have ha':32∉(⟨a.toArray⟩:Str).cps.toList:=by simpa using ha
  have p:=Kt (c:=32) hx ha';rw[<-yW]at p;rw[KK hx ha'];unfold Yo;rw[p];dsimp only;by_cases hb:32∈(⟨b.toArray⟩:Str).cps.toList
  ·have no:=Xy hb;rw[if_neg fun z=>by rw[no]at z;exact absurd z.2.1 (by simp)];obtain⟨a2,b2,e2,ha2⟩:=Vd _ hb;rw[KK (a:=⟨a2.toArray⟩) (b:=⟨b2.toArray⟩) (by simpa using e2) (by simpa using ha2)];have ps:=PyProof.Rows.split_pos (⟨b2.toArray⟩:Str) " ";cases q:Txt.split (⟨b2.toArray⟩:Str) " " with
   | nil=>rw[q]at ps;simp at ps
   | cons _ _=>rfl
  ·rw[KJ hb];rfl
 ·have p:=We h;rw[KJ h];unfold Yo;have no:jp (Txt.partition row " ").2.2=false:=by unfold jp;rw[p];rfl
  rw[if_neg fun z=>by rw[no]at z;exact absurd z.2.1 (by simp)];rfl
end M
noncomputable section
namespace M
open PySem L2 DS
theorem in0{w:Int}(h1:¬w=1)(h2:¬w=2):yD (V.int w) [V.int 1,V.int 2]=false:=by
 have a1:¬(1:Int)=w:=fun e=>h1 e.symm;have a2:¬(2:Int)=w:=fun e=>h2 e.symm;unfold yD;simp[ZE,a1,a2]
def Nn(t:T3):Prop:=0<=t.1/\0<=t.2.1/\0<=t.2.2
structure NnB (b:Bk):Prop where
 k:∀t∈b.kinds,Nn t
 h:∀t∈b.shuns,Nn t
 b':∀t∈b.bars,Nn t
 d:∀t∈b.dues,Nn t
noncomputable abbrev Rg(b:Bk)(l:List Sl):j6:=.bo (.int b.size)::.bo (.lst (b.kinds.map t3))::.bo (.lst (b.shuns.map t3))::.bo (.lst (b.bars.map t3))::.bo (.lst (b.dues.map t3))::.cl (.int b.kinds.length)::l
def Ig(b:Bk)(Z:j6):Prop:=∃s6 s7 s8 s9 s10 s11 s12 s13 s14,Z=Rg b [s6,s7,s8,s9,s10,s11,s12,s13,s14]
theorem A8{g:DG}{s:DS.DS}(I:j6->Prop)(p:T3->Bool):∀(l:List T3),(∀t∈l,∀Z,I Z->∃Z1,g (t3 t) Z=some Z1/\((p t=false/\s Z1=some (.rt (.bl false))) \/ (p t=true/\∃Z2,s Z1=some (.nx Z2)/\I Z2)))->∀Z,I Z->
  (l.all p=false/\J2 g s (l.map t3) Z=some (.rt (.bl false))) \/ (l.all p=true/\∃Z',I Z'/\J2 g s (l.map t3) Z=some (.nx Z'))
 | [],_,Z,i=>.inr ⟨rfl,Z,i,rfl⟩
 | t::l,h,Z,i=>by
  obtain⟨Z1,e1,z⟩:=h t wNa Z i;rw[List.map_cons,J2,e1,Option.bind_some,List.all_cons];rcases z with⟨h1,e2⟩ | ⟨h1,Z2,e2,i2⟩
  ·rw[e2,h1];exact .inl ⟨rfl,rfl⟩
  ·rw[e2,h1,Bool.true_and];exact A8 I p l (fun t ht=>h t (wMa _ ht)) Z2 i2
theorem bZ(C:Addr)(b:Bk)(nn:NnB b)(sm:Small b):vf C [.int b.size,.lst (b.kinds.map t3),.lst (b.shuns.map t3),.lst (b.bars.map t3),.lst (b.dues.map t3)]=some (.bl (JX b)):=by
 have hl:=A8 (g:=Vp) (s:=zJ C) (Ig b) fK b.kinds (by
  rintro t ht Z ⟨s6,s7,s8,s9,s10,s11,s12,s13,s14,rfl⟩;obtain⟨_,_,n3⟩:=nn.k t ht;obtain⟨u,v,w⟩:=t;refine⟨_,rfl,?_⟩;simp only[zJ,fK,Rg];have n3':0<=w:=n3;by_cases h1:1<=u
  ·by_cases h2:u<=v
   ·by_cases h3:v<=4
    ·by_cases h5:4 < w
     ·have:¬w<=4:=by omega
      exact .inl ⟨by simp[this],by simp[h1,h2,h3,h5]⟩
     ·have h5':w<=4:=by omega
      exact .inr ⟨by simp[h1,h2,h3,h5',n3'],_,by simp[h1,h2,h3,h5],.cl (.int u),.cl (.int v),.cl (.int w),s9,s10,s11,s12,s13,s14,rfl⟩
    ·exact .inl ⟨by simp[h3],by simp[h1,h2,h3]⟩
   ·exact .inl ⟨by simp[h2],by simp[h1,h2]⟩
  ·exact .inl ⟨by simp[h1],by simp[h1]⟩)
 have hl2:=A8 (g:=Vq) (s:=zK C) (Ig b) (fS b.kinds.length) b.shuns (by
  rintro t ht Z ⟨s6,s7,s8,s9,s10,s11,s12,s13,s14,rfl⟩;obtain⟨n1,n2,_⟩:=nn.h t ht;obtain⟨u,v,w⟩:=t;have n1:0<=u:=n1;have n2:0<=v:=n2;refine⟨_,rfl,?_⟩;simp only[zK,fS,Rg];have mx:(if u < v then v else u) < (b.kinds.length:Int)↔u < (b.kinds.length:Int)/\v < (b.kinds.length:Int):=by
   split <;> omega
  by_cases h1:u < (b.kinds.length:Int)/\v < (b.kinds.length:Int)
  ·have m1:=mx.mpr h1;have m2:¬(b.kinds.length:Int)<=(if u < v then v else u):=by omega
   by_cases h5:w=1 \/ w=2
   ·have iw:yD (V.int w) [V.int 1,V.int 2]=true:=by rcases h5 with rfl | rfl <;> rfl
    exact .inr ⟨by simp[h1,n1,n2];omega,_,by simp[m2,iw],s6,s7,s8,.cl (.int u),.cl (.int v),.cl (.int w),s12,s13,s14,rfl⟩
   ·have iw:=in0 (w:=w) (by omega) (by omega);exact .inl ⟨by simp[h1,n1,n2];omega,by simp[m2,iw]⟩
  ·have m2:(b.kinds.length:Int)<=(if u < v then v else u):=by
    have:=fun z=>h1 (mx.mp z);omega
   exact .inl ⟨by simp[n1,n2];omega,by simp[m2]⟩)
 have hl3:=A8 (g:=Vr) (s:=zL C) (Ig b) (fB b.kinds.length b.size) (b.bars++b.dues) (by
  rintro t ht Z ⟨s6,s7,s8,s9,s10,s11,s12,s13,s14,rfl⟩;obtain⟨n1,_,_⟩:=(List.mem_append.mp ht).elim (nn.b' t) (nn.d t);obtain⟨u,v,w⟩:=t;have n1:0<=u:=n1;refine⟨_,rfl,?_⟩;simp only[zL,fB,Rg];by_cases h2:(b.kinds.length:Int)<=u
  ·have:¬u < (b.kinds.length:Int):=by omega
   exact .inl ⟨by simp[this],by simp[h2]⟩
  ·have h2':u < (b.kinds.length:Int):=by omega
   by_cases h3:1<=v
   ·by_cases h4:v<=w
    ·by_cases h5:w<=b.size
     ·exact .inr ⟨by simp[n1,h2',h3,h4,h5],_,by simp[h2,h3,h4,h5],s6,s7,s8,s9,s10,s11,.cl (.int u),.cl (.int v),.cl (.int w),rfl⟩
     ·exact .inl ⟨by simp[h5],by simp[h2,h3,h4,h5]⟩
    ·exact .inl ⟨by simp[h4],by simp[h2,h3,h4]⟩
   ·exact .inl ⟨by simp[h3],by simp[h2,h3]⟩)
 have q1:=sm.k;have q2:=sm.h;have q3:=sm.b';have q4:=sm.d;have y1:b.kinds.length<=sizeLine:=wQa (jk (by omega));have y2:b.shuns.length<=sizeLine:=wQa (jk (by omega));have y3:b.bars.length<=sizeLine:=wQa (jk (by omega));have y4:b.dues.length<=sizeLine:=wQa (jk (by omega));have ec:b.bars.length+b.dues.length<=sizeLine:=wQa (jk (by omega));simp only[List.map_append]at hl3;have u9:Ig b (Rg b [.un,.un,.un,.un,.un,.un,.un,.un,.un]):=⟨_,_,_,_,_,_,_,_,_,rfl⟩
 refine fE ?_ rfl;unfold JX;refine sq (Z1:=Rg b [.un,.un,.un,.un,.un,.un,.un,.un,.un]) (by simp[Rg,y1]) ?_;by_cases c:fC b.size b.kinds.length b.shuns.length b.bars.length b.dues.length=true
 ·rw[c,Bool.true_and];unfold fC at c;simp only[Bool.and_eq_true,decide_eq_true_eq]at c;obtain⟨c1,c2,c3,c4,c5,c6,c7⟩:=c;have d5:¬(20:Int) < b.shuns.length:=by omega
  have d6:¬(12:Int) < b.bars.length:=by omega
  have d7:¬(3:Int) < b.dues.length:=by omega
  refine sq (Z1:=Rg b [.un,.un,.un,.un,.un,.un,.un,.un,.un]) (by simp[Rg,y1,y2,y3,y4,c1,c2,c3,c4,d5,d6,d7]) ?_;unfold fR;rcases hl _ u9 with⟨a1,e1⟩ | ⟨a1,Z1,i1,e1⟩
  ·rw[a1];exact sr e1
  ·refine sq e1 ?_;rw[a1];rcases hl2 Z1 i1 with⟨a2,e2⟩ | ⟨a2,Z2,i2,e2⟩
   ·rw[a2];obtain⟨_,_,_,_,_,_,_,_,_,rfl⟩:=i1;exact sr e2
   ·rw[a2];refine sq (Z1:=Z2) ?_ ?_
    ·obtain⟨_,_,_,_,_,_,_,_,_,rfl⟩:=i1;exact e2
    ·obtain⟨_,_,_,_,_,_,_,_,_,rfl⟩:=i2;rcases hl3 _ ⟨_,_,_,_,_,_,_,_,_,rfl⟩with⟨a3,e3⟩ | ⟨a3,Z3,_,e3⟩
     ·rw[a3];refine sr ?_;simp[ec];exact e3
     ·rw[a3];refine sq (Z1:=Z3) ?_ rfl;simp[ec];exact e3
 ·have c0:fC b.size b.kinds.length b.shuns.length b.bars.length b.dues.length=false:=by simpa using c
  rw[c0,Bool.false_and];unfold fC at c0;refine sr ?_;by_cases c1:1<=b.size
  ·by_cases c2:b.size<=30
   ·by_cases c3:(1:Int)<=b.kinds.length
    ·by_cases c4:(b.kinds.length:Int)<=4
     ·by_cases c5:(20:Int) < b.shuns.length
      ·simp[y2,c1,c2,c3,c4,c5]
      ·by_cases c6:(12:Int) < b.bars.length
       ·simp[y2,y3,c1,c2,c3,c4,c5,c6]
       ·have c7:(3:Int) < b.dues.length:=by
         simp[c1,c2,c3,c4]at c0;omega
        simp[y2,y3,y4,c1,c2,c3,c4,c5,c6,c7]
     ·simp[c1,c2,c3,c4]
    ·simp[c1,c2,c3]
   ·simp[c1,c2]
  ·simp[c1]
end M
noncomputable section
namespace M
open PySem L2 DS CP
theorem Wf{ws:List Str}{p:Nat}{t:T3}(h:jM ws=some (p,t)):p < 4/\Nn t:=by
 unfold jM at h;split at h
 ·split at h
  ·rename_i hh;obtain⟨h1,h2,h3,h4⟩:=hh;obtain⟨q,q4,iq,_⟩:=qs h1;rw[iq]at h;cases h;exact⟨q4,(yK h2).2,(yK h3).2,(yK h4).2⟩
  ·cases h
 ·cases h
noncomputable def JK(b:Bk):Nat->Bool
 | 0=>b.shuns.isEmpty&&(b.bars.isEmpty&&b.dues.isEmpty)
 | 1=>b.bars.isEmpty&&b.dues.isEmpty
 | 2=>b.dues.isEmpty
 | _=>true
theorem b_{b:Bk}{p:Nat}(hp:p < 4):(zX (.lst ((JW b).map D.lst)) (some ((p:Int)+1)) none).bind (fun o=>ZP [o.toD])=some (.bl (!JK b p)):=by
 have:p=0 \/ p=1 \/ p=2 \/ p=3:=by omega
 obtain⟨s,k,hh,bb,d⟩:=b;rcases this with rfl | rfl | rfl | rfl
 ·cases hh <;> cases bb <;> cases d <;> rfl
 ·cases bb <;> cases d <;> rfl
 ·cases d <;> rfl
 ·rfl
theorem eI(C:Addr)(b:Bk)(sm:Small b):Y2 C [.int b.size,.lst (b.kinds.map t3),.lst (b.shuns.map t3),.lst (b.bars.map t3),.lst (b.dues.map t3)]=if JX b=true then none else some 0:=by
 have f1:=vM C b.size (b.kinds.map t3) (b.shuns.map t3) (b.bars.map t3) (b.dues.map t3);have f2:=VY C b.size b.kinds b.shuns b.bars b.dues sm.k sm.h sm.b' sm.d;simp only[List.length_map]at f1;have r0:(Sl.un::YJ [true,false,false,false,false] [.int b.size,.lst (b.kinds.map t3),.lst (b.shuns.map t3),.lst (b.bars.map t3),.lst (b.dues.map t3)] 0)=[.un,.cl (.int b.size),.bo (.lst (b.kinds.map t3)),.bo (.lst (b.shuns.map t3)),.bo (.lst (b.bars.map t3)),.bo (.lst (b.dues.map t3))]:=rfl;unfold Y2 K8;rw[r0];unfold yg JX;cases c1:fC b.size b.kinds.length b.shuns.length b.bars.length b.dues.length
 ·rw[c1]at f1;simp[J3,Vk,f1]
 ·rw[c1]at f1;cases c2:fR b.size b.kinds b.shuns b.bars b.dues
  ·rw[c2]at f2;simp[J3,Vk,Jn,f1,f2]
  ·rw[c2]at f2;simp[J3,Vk,Jn,f1,f2]
def eJ(C:Addr)(b:Bk)(ws:List Str):List (List D)×D:=match jM ws with
 | none=>(JW b,.non)
 | some q=>if JK b q.1=true then(JW (Jp b q.1 q.2),if JX (Jp b q.1 q.2)=true then JO C (Jp b q.1 q.2)else .non)else(JW b,.non)
theorem GK{b:Bk}(h1:b.kinds.length<=99)(h2:b.shuns.length<=99)(h3:b.bars.length<=99)(h4:b.dues.length<=99)(p:Nat)(t:T3):Small (Jp b p t):=by
 unfold Jp;split <;> constructor <;> simp <;> omega
structure Sm99 (b:Bk):Prop where
 k:b.kinds.length<=99
 h:b.shuns.length<=99
 b':b.bars.length<=99
 d:b.dues.length<=99
noncomputable abbrev Rr(b:Bk)(l:Addr)(ls:List (List D))(row:Str)(x y z:Sl):j6:=[.cl (.int b.size),.lo (some l) ls,.cl (.str row),x,y,z]
theorem KN(C:Addr)(b:Bk)(row:Str)(hl:row.length<=9999)(hs:∀v∈Txt.split row " ",v.length<=10000)(hn:(Txt.split row " ").length<=10000)(sm:Sm99 b):yR C (JW b) [.int b.size,.str row]=some (eJ C b (Txt.split row " ")):=by
 refine ba fun l=>?_;have rp:=GR C row hl hs hn;revert rp;generalize Txt.split row " " = ws;intro rp;have key:∀x y z ls r,YR C (Rr b l (JW b) row .un .un .un)=some (.rt (Rr b l ls row x y z) r)->kZ 1 3 (YR C) l (JW b) [.int b.size,.str row]=some (ls,r):=fun x y z ls r h=>by
  show xJ l (YR C (Rr b l (JW b) row .un .un .un))=_;rw[h];simp
 unfold eJ;have e1:jA 3 (jd (zl C) [(false,dV 2)]) (Rr b l (JW b) row .un .un .un)=some (.nx (Rr b l (JW b) row (.cl (oP (jM ws))) .un .un)):=by simp[rp]
 cases hp:jM ws with
 | none=>
  rw[hp]at e1;exact key _ _ _ _ _ (Wa e1 (A6 rfl rfl))
 | some q=>
  rw[hp]at e1;obtain⟨p,t⟩:=q;obtain⟨p4,nt⟩:=Wf hp;dsimp only;have cut:∀(k:DM) (r),(if (!JK b p)=true then VN (dK .non) (Rr b l (JW b) row (.cl (oP (some (p,t)))) (.cl (.int (p:Int))) (.cl (t3 t)))else k (Rr b l (JW b) row (.cl (oP (some (p,t)))) (.cl (.int (p:Int))) (.cl (t3 t))))=r->
    kX (fun Z=>(y0 (jd ZP [(false,(dL (yN (dV 1) (fun Z=>((d2 jG (dV 4) (dK (.int 1))) Z).bind yx) (fun _=>some none))))])) (frz Z)) (dK .non) k (Rr b l (JW b) row (.cl (oP (some (p,t)))) (.cl (.int (p:Int))) (.cl (t3 t)))=r:=fun k r h=>A6 (b:=!JK b p) (by
   have lb:=b_ (b:=b) p4;cases hc:zX (.lst ((JW b).map D.lst)) (some ((p:Int)+1)) none with
   | none=>rw[hc]at lb;cases lb
   | some o=>
    rw[hc]at lb;have lb:ZP [o.toD]=_:=lb;simp[frz,fz,yx,hc,-ZP,-OD.toD,lb,ZZ]) h
  cases hb:JK b p
  ·rw[if_neg (by simp)];exact key _ _ _ _ _ (Wa e1 (A6 rfl (Wa rfl (cut _ _ (by rw[hb];rfl)))))
  ·rw[if_pos rfl];obtain⟨m,m1,m2,l3,rfl,m4⟩:=eF (b:=b) p4 t;have ml:l3.length < sizeLine:=by
    have:=sm.k;have:=sm.h;have:=sm.b';have:=sm.d;rcases m4 with rfl | rfl | rfl | rfl <;> exact jk (by omega)
   have ix:zu (JW b).length (p:Int)=some p:=by
    have:(JW b).length=4:=rfl;rw[this,gg (by omega) (by omega)];simp
   have fzv:=eI C (Jp b p t) (GK sm.k sm.h sm.b' sm.d p t);have mk:=fun ok=>bK C (Jp b p t) ok;rw[KD]at fzv mk;generalize Jp b p t=c at fzv mk m2;refine key (.cl (oP (some (p,t)))) (.cl (.int (p:Int))) (.cl (t3 t)) _ _ (Wa e1 (A6 rfl (Wa rfl (cut _ _ ?_))));rw[hb];refine Wa (Z1:=Rr b l (JW c) row (.cl (oP (some (p,t)))) (.cl (.int (p:Int))) (.cl (t3 t))) (by simp[uh,ix,m1,m2,ml]) ?_;unfold U_ qc;have ar:YB [(true,(dC 0)),(false,(d2 jj (dV 1) (dK (.int 0)))),(false,(d2 jj (dV 1) (dK (.int 1)))),(false,(d2 jj (dV 1) (dK (.int 2)))),(false,(d2 jj (dV 1) (dK (.int 3))))] (frz (Rr b l (JW c) row (.cl (oP (some (p,t)))) (.cl (.int (p:Int))) (.cl (t3 t))))=some [.int b.size,.lst (c.kinds.map t3),.lst (c.shuns.map t3),.lst (c.bars.map t3),.lst (c.dues.map t3)]:=rfl;dsimp only;rw[ar,Option.bind_some,fzv];cases ok:JX c
   ·rfl
   ·rw[if_pos rfl];show VN _ _=_;rw[VN,dL,k8,ar,Option.bind_some,mk (Yx.mp ok)];show((V2 (JO C c)).bind _)=_;rw[Xx];rfl
end M
noncomputable section
namespace M
open PySem L2 DS CP
def vP(b:Bk)(k:Nat):List Str->Bk×Option Nat
 | []=>(b,none)
 | row::rs=>match jM (Txt.split row " ")with
  | none=>(b,some k)
  | some q=>if JK b q.1=true/\JX (Jp b q.1 q.2)=true then vP (Jp b q.1 q.2) (k+1) rs else(b,some k)
structure RowB (row:Str):Prop where
 l:row.length<=9999
 s:∀v∈Txt.split row " ",v.length<=10000
 n:(Txt.split row " ").length<=10000
theorem A9{b:Bk}(h:OkB b):Sm99 b:=⟨by have:=h.k2;omega,by have:=h.h2;omega,by have:=h.b2;omega,by have:=h.d2;omega⟩
theorem Ve(b:Bk)(row:Str):(∃q,jM (Txt.split row " ")=some q/\JK b q.1=true/\JX (Jp b q.1 q.2)=true/\∀k rs,vP b k (row::rs)=vP (Jp b q.1 q.2) (k+1) rs) \/
  ((∀q,jM (Txt.split row " ")=some q->¬(JK b q.1=true/\JX (Jp b q.1 q.2)=true))/\∀k rs,vP b k (row::rs)=(b,some k)):=by
 cases hp:jM (Txt.split row " ")with
 | none=>exact .inr ⟨(fun q h=>by cases h),fun k rs=>by rw[vP,hp]⟩
 | some q=>
  by_cases h:JK b q.1=true/\JX (Jp b q.1 q.2)=true
  ·exact .inl ⟨q,rfl,h.1,h.2,fun k rs=>by rw[vP,hp];exact if_pos h⟩
  ·exact .inr ⟨(fun q' e=>by cases e;exact h),fun k rs=>by rw[vP,hp];exact if_neg h⟩
abbrev Rp(x0 x1:Sl)(b:Bk)(x4 x5 x6:Sl):j6:=[x0,x1,.cl (.int b.size),.lo none (JW b),x4,x5,x6]
theorem GL(C:Addr)(x0 x1:Sl):∀(rs:List Str) (b:Bk) (k:Nat) (x4 x5 x6:Sl),(∀r∈rs,RowB r)->Sm99 b->
  (∃b' z4 y5 y6,vP b k rs=(b',none)/\ZS Jg (Jh C) (Ji C) (Jt k (rs.map D.str)) (Rp x0 x1 b x4 x5 x6)=none/\
   J2 Jg (Jh C) (Jt k (rs.map D.str)) (Rp x0 x1 b x4 x5 x6)=some (.nx (Rp x0 x1 b' z4 y5 y6))/\(rs≠[]->z4=.cl (JO C b'))/\(rs=[]->z4=x4)) \/
  (∃b' e,vP b k rs=(b',some e)/\ZS Jg (Jh C) (Ji C) (Jt k (rs.map D.str)) (Rp x0 x1 b x4 x5 x6)=some (e:Int))
 | [],b,k,x4,x5,x6,_,_=>.inl ⟨b,x4,x5,x6,rfl,rfl,rfl,fun h=>vDa rfl h,fun _=>rfl⟩
 | row::rs,b,k,x4,x5,x6,hr,sm=>by
  have t1:Jg (.tup [.int (k:Int),.str row]) (Rp x0 x1 b x4 x5 x6)=some (Rp x0 x1 b x4 (.cl (.int (k:Int))) (.cl (.str row))):=by simp[Jg]
  rw[List.map_cons,Jt,ZS,J2,t1,Option.bind_some,Option.bind_some];have rb:=hr row wNa;have e:=KN C b row rb.l rb.s rb.n sm;unfold eJ at e;rcases Ve b row with⟨q,hp,hb,hk,hd⟩ | ⟨hn,hd⟩
  ·rw[hp]at e;dsimp only at e;rw[if_pos hb,if_pos hk]at e;have n0:DS.ZI (JO C (Jp b q.1 q.2))=false:=rfl;have sz:=KD b q.1 q.2;have y1:Ji C (Rp x0 x1 b x4 (.cl (.int (k:Int))) (.cl (.str row)))=none:=by
    simp[Ji,J3,Jn,zA,e,Vk,n0]
   have l1:Jh C (Rp x0 x1 b x4 (.cl (.int (k:Int))) (.cl (.str row)))=some (.nx (Rp x0 x1 (Jp b q.1 q.2) (.cl (JO C (Jp b q.1 q.2))) (.cl (.int (k:Int))) (.cl (.str row)))):=by
    simp only[Jh];simp[zA,e,n0,sz]
   rw[y1,l1,hd];dsimp only;rw[Option.bind_some];rcases GL C x0 x1 rs (Jp b q.1 q.2) (k+1) (.cl (JO C (Jp b q.1 q.2))) (.cl (.int (k:Int))) (.cl (.str row)) (fun r h=>hr r (wMa _ h)) (A9 (Yx.mp hk))with⟨b',z4,y5,y6,a1,a2,a3,a4,a5⟩ | ⟨b',e,a1,a2⟩
   ·refine .inl ⟨b',z4,y5,y6,a1,a2,a3,fun _=>?_,fun h=>by cases h⟩;cases rs with
    | nil=>
     rw[a5 rfl];cases a1;rfl
    | cons _ _=>exact a4 (by simp)
   ·exact .inr ⟨b',e,a1,a2⟩
  ·have bad:∃ls,yR C (JW b) [.int b.size,.str row]=some (ls,.non):=by
    cases hp:jM (Txt.split row " ")with
    | none=>rw[hp]at e;exact⟨_,e⟩
    | some q=>
     rw[hp]at e;dsimp only at e;by_cases hb:JK b q.1=true
     ·rw[if_pos hb,if_neg fun z=>hn q hp ⟨hb,z⟩]at e;exact⟨_,e⟩
     ·rw[if_neg hb]at e;exact⟨_,e⟩
   obtain⟨ls,e2⟩:=bad;have y1:Ji C (Rp x0 x1 b x4 (.cl (.int (k:Int))) (.cl (.str row)))=some (k:Int):=by
    simp[Ji,J3,Jn,zA,e2,Vk,zB]
   rw[y1];exact .inr ⟨b,k,hd k rs,rfl⟩
def ZW:List Str->Bk ⊕ Nat
 | []=>.inr 0
 | r0::rs=>match Yo r0 with
  | none=>.inr 0
  | some s=>match vP ⟨s,[],[],[],[]⟩ 1 rs with
   | (_,some e)=>.inr e
   | (b,none)=>if rs=[]then .inr 1 else .inl b
theorem Xz(C:Addr)(text:Str)(hl:text.length<=9999)(hr:∀r∈Txt.split text "\n",RowB r):
  (∃b,ZW (Txt.split text "\n")=.inl b/\JF C [.str text]=none/\YS C [.str text]=some (JO C b)) \/ (∃e:Nat,ZW (Txt.split text "\n")=.inr e/\JF C [.str text]=some (e:Int)):=by
 have sp:Jx (.str text) (.str "\n")=some (.lst ((Txt.split text "\n").map D.str)):=if_pos ⟨by decide,jk (by omega)⟩;have ps:=PyProof.Rows.split_pos text "\n";revert sp hr ps;generalize Txt.split text "\n" = ws;intro hr sp ps;cases ws with
 | nil=>simp at ps
 | cons r0 rs=>
  have rb:=hr r0 wNa;have rz:=GQ C r0 rb.l (wSa (bX r0) (by have:=rb.l;omega));generalize hx:(Sl.bo (.str text))=x0;generalize hy:(Sl.cl (.lst ((r0::rs).map D.str)))=x1;have s1:yT C [x0,.un,.un,.un,.un,.un,.un]=some (.nx [x0,x1,.un,.un,.un,.un,.un]):=by
   subst hx hy;simp[yT,sp,OD.toD]
  have s2:yU C [x0,x1,.un,.un,.un,.un,.un]=some (.nx [x0,x1,.cl (oI (Yo r0)),.un,.un,.un,.un]):=by
   subst hx hy;have i0:atI ((r0::rs).map D.str) 0=some (.str r0):=zD (by decide) rfl;simp only[List.map_cons]at i0⊢;simp[yU,i0,rz]
  have fy0:JF C [.str text]=yJ C [x0,.un,.un,.un,.un,.un,.un]:=by subst hx;rfl
  have d0:∀d,Zv C [x0,.un,.un,.un,.un,.un,.un]=some (.rt d)->YS C [.str text]=some d:=fun d h=>fE h (by subst hx;rfl);rw[fy0,ZW];cases hs:Yo r0 with
  | none=>
   rw[hs]at s2;exact .inr ⟨0,rfl,uX rfl s1 (uX rfl s2 (eG rfl))⟩
  | some s=>
   rw[hs]at s2;dsimp only;have P:=GL C x0 x1 rs ⟨s,[],[],[],[]⟩ 1 (.cl .non) .un .un (fun r h=>hr r (wMa _ h)) ⟨by simp,by simp,by simp,by simp⟩;have en:VO (dL (yN (dV 1) (fun Z=>((dK (.int 1)) Z).bind yx) (fun _=>some none))) (Rp x0 x1 ⟨s,[],[],[],[]⟩ (.cl .non) .un .un)=some (Jt 1 (rs.map D.str)):=by
    have cu:zX (.lst ((r0::rs).map D.str)) (some 1) none=some (.lst (rs.map D.str)):=by
     show some (OD.lst (jZ ((r0::rs).map D.str) (some ((1:Nat):Int)) none))=_;rw[gh];rfl
    subst hy;simp only[List.map_cons]at cu⊢;simp[yx,cu,OD.toD]
   have s3:v_ 3 [jB [],jB [],jB [],jB []] [x0,x1,.cl (.int s),.un,.un,.un,.un]=some (.nx [x0,x1,.cl (.int s),.lo none [[],[],[],[]],.un,.un,.un]):=by subst hx hy;rfl
   have yp:∀r,_->yJ C [x0,.un,.un,.un,.un,.un,.un]=r:=fun r h=>uX rfl s1 (uX rfl s2 (uX rfl rfl (uX rfl s3 (uX (Z1:=Rp x0 x1 ⟨s,[],[],[],[]⟩ (.cl .non) .un .un) rfl rfl h))));rcases P with⟨b',z4,y5,y6,a1,a2,a3,a4,a5⟩ | ⟨b',e,a1,a2⟩
   ·rw[a1];dsimp only;have l4:yV C (Rp x0 x1 ⟨s,[],[],[],[]⟩ (.cl .non) .un .un)=some (.nx (Rp x0 x1 b' z4 y5 y6)):=by
     unfold yV;rw[JL,en,Option.bind_some];exact a3
    cases rs with
    | nil=>
     have hz:=a5 rfl;subst hz;refine .inr ⟨1,rfl,yp _ (uX ?_ l4 (eG ?_))⟩
     ·rw[gV,en];exact a2
     ·subst hy;rfl
    | cons r1 rs=>
     have hz:=a4 (by simp);subst hz;refine .inl ⟨b',if_neg (by simp),yp _ (uX ?_ l4 (uX rfl rfl rfl)),d0 _ (sq s1 (sq s2 (sq rfl (sq s3 (sq (Z1:=Rp x0 x1 ⟨s,[],[],[],[]⟩ (.cl .non) .un .un) rfl (sq l4 (sq rfl rfl)))))))⟩;rw[gV,en];exact a2
   ·rw[a1];refine .inr ⟨e,rfl,yp _ (eG ?_)⟩;rw[gV,en];exact a2
end M
noncomputable section
namespace M
open PySem L2 DS CP
noncomputable def y_(b:Bk):List (List D):=[[.tup [.int b.size]],b.kinds.map t3,b.shuns.map t3,b.bars.map t3,b.dues.map t3]
def Ha(b:Bk)(last:Nat):Prop:=∀p,p < 4->JK b p=decide (last<=p+1)
theorem B0{b:Bk}{p:Nat}(hp:p < 4)(t:T3)(h:JK b p=true):Ha (Jp b p t) (p+1):=by
 intro p' h';have e1:p=0 \/ p=1 \/ p=2 \/ p=3:=by omega
 have e2:p'=0 \/ p'=1 \/ p'=2 \/ p'=3:=by omega
 rcases e1 with rfl | rfl | rfl | rfl <;> rcases e2 with rfl | rfl | rfl | rfl <;> simp[JK,Jp]at h⊢<;> simp[h]
theorem QI{b:Bk}{p:Nat}{t:T3}(h:NnB b)(ht:Nn t):NnB (Jp b p t):=by
 have f:∀l:List T3,(∀x∈l,Nn x)->∀x∈l++[t],Nn x:=fun l hl=>Vb hl ht;unfold Jp;split
 ·exact⟨f _ h.k,h.h,h.b',h.d⟩
 ·exact⟨h.k,f _ h.h,h.b',h.d⟩
 ·exact⟨h.k,h.h,f _ h.b',h.d⟩
 ·exact⟨h.k,h.h,h.b',f _ h.d⟩
theorem eK{b:Bk}{p:Nat}(hp:p < 4)(t:T3)(sm:Sm99 b):∃m,(y_ b)[p+1]?=some m/\m.length < sizeLine/\(y_ b).set (p+1) (m++[t3 t])=y_ (Jp b p t):=by
 have:p=0 \/ p=1 \/ p=2 \/ p=3:=by omega
 have:=sm.k;have:=sm.h;have:=sm.b';have:=sm.d;rcases ‹p=0 \/ _› with rfl | rfl | rfl | rfl <;> exact⟨_,rfl,by rw[List.length_map];exact jk (by omega),by simp[y_,Jp]⟩
theorem Ie{i:Nat}{de:DE}{dt:DT}{da:DS.DS}{Z:j6}{d:D}{b:Bool}{r:Option Rs}(h1:de (frz Z)=some d)(h2:dt ((frz Z).set i (.cl d))=some b)(h3:(if b=true then da (Z.set i .un)else some (.nx (Z.set i .un)))=r):K3 i de dt da Z=r:=by
 rw[K3,h1,Option.bind_some,h2];exact h3
noncomputable abbrev Rl(x0:Sl)(gs:List (List D))(last k:Nat)(row:Str)(x5 x6:Sl):j6:=[x0,.lo none gs,.cl (.int (last:Int)),.cl (.int (k:Int)),.cl (.str row),x5,x6]
noncomputable def kb(k:Nat)(b:Bk):Bk:=if k=0 then⟨b.size,[(1,1,0)],b.shuns,b.bars,b.dues⟩else b
theorem Aa(C:Addr)(b:Bk)(k:Nat)(nn:NnB (kb k b))(sm:Small (kb k b))(x0 x6:Sl)(n0:fz x0=x0)(n6:fz x6=x6)(last:Nat)(row:Str)(d5:D):
  YQ C (Rl x0 (y_ b) last k row (.cl d5) x6)=if JX (kb k b)=true then some (.nx (Rl x0 (y_ b) last k row (.cl d5) .un))else some (.rt (.tup [.non,.int (k:Int)])):=by
 have g:=bZ C (kb k b) nn sm;have fr:frz (Rl x0 (y_ b) last k row (.cl d5) x6)=[x0,.cl (.lst ((y_ b).map D.lst)),.cl (.int (last:Int)),.cl (.int (k:Int)),.cl (.str row),.cl d5,x6]:=by
  simp only[frz,List.map_cons,List.map_nil,n0,n6];rfl
 have hs:(kb k b).size=b.size/\(kb k b).shuns=b.shuns/\(kb k b).bars=b.bars/\(kb k b).dues=b.dues:=by
  unfold kb;split <;> exact⟨rfl,rfl,rfl,rfl⟩
 rw[hs.1,hs.2.1,hs.2.2.1,hs.2.2.2]at g;refine Ie (d:=.lst ((kb k b).kinds.map t3)) (b:=!JX (kb k b)) ?_ ?_ ?_
 ·rw[fr];unfold kb;by_cases hk:k=0
  ·subst hk;rfl
  ·have k0:¬(k:Int)=0:=by omega
   rw[WE,show jy (d2 JU (dV 3) (dK (.int 0))) [x0,.cl (.lst ((y_ b).map D.lst)),.cl (.int (last:Int)),.cl (.int (k:Int)),.cl (.str row),.cl d5,x6]=some false by simp[k0,hk],if_neg hk];rfl
 ·rw[fr];show((vf C [.int b.size,.lst ((kb k b).kinds.map t3),.lst (b.shuns.map t3),.lst (b.bars.map t3),.lst (b.dues.map t3)]).bind ZZ).bind _=_;rw[g];rfl
 ·cases JX (kb k b) <;> rfl
theorem Wg(C:Addr)(x0 x5 x6:Sl)(gs:List (List D))(last k:Nat)(row:Str)(rb:RowB row):
  (JM (Txt.split row " ")=none->jJ C (Rl x0 gs last k row x5 x6)=some (.rt (.tup [.non,.int (k:Int)])))/\
  ∀j ns,JM (Txt.split row " ")=some (j,ns)->((j < last \/¬(j=0↔k=0))->jJ C (Rl x0 gs last k row x5 x6)=some (.rt (.tup [.non,.int (k:Int)])))/\
   (¬(j < last \/¬(j=0↔k=0))->∀m gs' (c:Bool) y,gs[j]?=some m->m.length < sizeLine->gs.set j (m++[.tup (ns.map D.int)])=gs'->j < gs.length->
    YQ C (Rl x0 gs' j k row (.cl (oL (some (j,ns)))) x6)=(if c=true then some (.nx (Rl x0 gs' j k row y .un))else some (.rt (.tup [.non,.int (k:Int)])))->
    jJ C (Rl x0 gs last k row x5 x6)=if c=true then some (.nx (Rl x0 gs' j k row y .un))else some (.rt (.tup [.non,.int (k:Int)]))):=by
 have e:=K_ C row rb.l rb.s rb.n;have s5:∀f,JM (Txt.split row " ")=f->jA 5 (jd (YO C) [(false,(dV 4))]) (Rl x0 gs last k row x5 x6)=some (.nx (Rl x0 gs last k row (.cl (oL f)) x6)):=fun f h=>by
  rw[h]at e;simp[e]
 refine⟨fun h=>sq (s5 _ h) (sr rfl),fun j ns h=>?_⟩;have uY:DS.ZI (oL (some (j,ns)))=false:=rfl;have i0:jj (oL (some (j,ns))) (.int 0)=some (.int (j:Int)):=rfl;have c1:((j:Int) < (last:Int))↔j < last:=by omega
 have c2:((j:Int)=0)↔j=0:=by omega
 have c3:((k:Int)=0)↔k=0:=by omega
 refine⟨fun hj=>sq (s5 _ h) (sr ?_),fun hj m gs' c y h1 h2 h3 h4 hf=>sq (s5 _ h) (sq (Z1:=Rl x0 gs last k row (.cl (oL (some (j,ns)))) x6) ?_ (sq (Z1:=Rl x0 gs j k row (.cl (oL (some (j,ns)))) x6) rfl (sq (Z1:=Rl x0 gs' j k row (.cl (oL (some (j,ns)))) x6) ?_ ?_)))⟩
 ·by_cases a1:j < last
  ·simp[uY,i0,c1,a1]
  ·by_cases a2:j=0
   ·subst a2;by_cases a3:k=0
    ·exact vDa (by simp[a3]) (hj.resolve_left a1)
    ·simp at i0;simp[uY,i0,c3,a1,a3]
   ·by_cases a3:k=0
    ·simp[uY,i0,c1,c2,c3,a1,a2,a3]
    ·exact vDa (by simp[a2,a3]) (hj.resolve_left a1)
 ·have a1:¬j < last:=fun z=>hj (.inl z);have a4:j=0↔k=0:=Classical.not_not.mp fun z=>hj (.inr z);by_cases a2:j=0
  ·have a3:=a4.mp a2;subst a2;simp at i0 a1;simp[uY,i0,c3,a1,a3]
  ·have a3:¬k=0:=fun z=>a2 (a4.mpr z);simp[uY,i0,c1,c2,c3,a1,a2,a3]
 ·have ix:zu gs.length (j:Int)=some j:=by rw[gg (by omega) (by omega)];simp
  show((zu gs.length (j:Int)).bind fun n=>(gs[n]?).bind fun m=>if m.length < sizeLine then some (Rs.nx ((Rl x0 gs j k row (.cl (oL (some (j,ns)))) x6).set 1 (.lo none (gs.set n (m++[.tup (ns.map D.int)])))))else none)=_;rw[ix,Option.bind_some,h1,Option.bind_some,if_pos h2,h3];rfl
 ·show j9 (YQ C) jL _=_;rw[j9,hf];cases c <;> rfl
end M
noncomputable section
namespace M
open PySem L2 DS CP
theorem B4(ws:List Str):(∃q,jM ws=some q/\JM ws=some (q.1+1,[q.2.1,q.2.2.1,q.2.2.2])) \/ (jM ws=none/\(JM ws=none \/∃ns,JM ws=some (0,ns))):=by
 cases ws with
 | nil=>exact .inr ⟨rfl,.inl rfl⟩
 | cons w ns=>
  by_cases hz:w = "size"
  ·subst hz;refine .inr ⟨QH ns,?_⟩;rw[KM];split
   ·exact .inr ⟨_,rfl⟩
   ·exact .inl rfl
  ·rw[KL hz];cases hp:jM (w::ns)with
   | none=>exact .inr ⟨rfl,.inl rfl⟩
   | some q=>exact .inl ⟨q,rfl,rfl⟩
theorem qv{k:Nat}(h:k≠0)(b:Bk):kb k b=b:=if_neg h
theorem KO(C:Addr)(x0:Sl)(n0:fz x0=x0):∀(rs:List Str) (b:Bk) (last k:Nat) (x3 x4 x5 x6:Sl),fz x6=x6->(∀r∈rs,RowB r)->Sm99 b->NnB b->Ha b last->k≠0->
  (∃(b':Bk) (y2 y3 y4 y5 y6:Sl),vP b k rs=(b',none)/\J2 Ja (jJ C) (Jt k (rs.map D.str)) [x0,.lo none (y_ b),.cl (.int (last:Int)),x3,x4,x5,x6]=some (.nx [x0,.lo none (y_ b'),y2,y3,y4,y5,y6])/\(rs≠[]->JX b'=true)) \/
  (∃b' e,vP b k rs=(b',some e)/\J2 Ja (jJ C) (Jt k (rs.map D.str)) [x0,.lo none (y_ b),.cl (.int (last:Int)),x3,x4,x5,x6]=some (.rt (.tup [.non,.int (e:Int)])))
 | [],b,last,k,x3,x4,x5,x6,_,_,_,_,_,_=>.inl ⟨b,_,x3,x4,x5,x6,rfl,rfl,fun h=>vDa rfl h⟩
 | row::rs,b,last,k,x3,x4,x5,x6,n6,hr,sm,nn,hl,hk=>by
  have t1:Ja (.tup [.int (k:Int),.str row]) [x0,.lo none (y_ b),.cl (.int (last:Int)),x3,x4,x5,x6]=some (Rl x0 (y_ b) last k row x5 x6):=by simp[Ja]
  rw[List.map_cons,Jt,J2,t1,Option.bind_some];obtain⟨L0,L1⟩:=Wg C x0 x5 x6 (y_ b) last k row (hr row wNa);rcases B4 (Txt.split row " ")with⟨q,hp,hw⟩ | ⟨hp,hw⟩
  ·obtain⟨p4,ht⟩:=Wf (p:=q.1) (t:=q.2) hp;obtain⟨L2,L3⟩:=L1 _ _ hw;have ll:=hl q.1 p4;obtain⟨m,m1,m2,m3⟩:=eK (b:=b) p4 q.2 sm;have fzv:=Aa C (Jp b q.1 q.2) k (by rw[qv hk];exact QI nn ht) (by rw[qv hk];exact GK sm.k sm.h sm.b' sm.d q.1 q.2) x0 x6 n0 n6 (q.1+1) row (oL (some (q.1+1,[q.2.1,q.2.2.1,q.2.2.2])));rw[qv hk]at fzv;rcases Ve b row with⟨q',hp',hb,hk2,hd⟩ | ⟨hn,hd⟩
   ·rw[hp]at hp';cases hp';rw[hb]at ll;have:=vCa ll.symm;have l1:=L3 (by omega) m _ _ _ m1 m2 m3 (by show q.1+1 < 5;omega) fzv;rw[hk2,if_pos rfl]at l1;rw[l1,Option.bind_some,hd];dsimp only;rcases KO C x0 n0 rs (Jp b q.1 q.2) (q.1+1) (k+1) _ _ _ .un rfl (fun r h=>hr r (wMa _ h)) (A9 (Yx.mp hk2)) (QI nn ht) (B0 p4 _ hb) (by omega)with⟨b',z2,z3,z4,z5,z6,a1,a2,a3⟩ | ⟨b',e,a1,a2⟩
    ·refine .inl ⟨b',z2,z3,z4,z5,z6,a1,a2,fun _=>?_⟩;cases rs with
     | nil=>cases a1;exact hk2
     | cons _ _=>exact a3 (by simp)
    ·exact .inr ⟨b',e,a1,a2⟩
   ·refine .inr ⟨b,k,hd k rs,?_⟩;have bad:jJ C (Rl x0 (y_ b) last k row x5 x6)=some (.rt (.tup [.non,.int (k:Int)])):=by
     cases hb:JK b q.1
     ·rw[hb]at ll;have:=of_decide_eq_false ll.symm;exact L2 (.inl (by omega))
     ·rw[hb]at ll;have:=vCa ll.symm;have l1:=L3 (by omega) m _ _ _ m1 m2 m3 (by show q.1+1 < 5;omega) fzv;rw[l1,if_neg fun z=>hn q hp ⟨hb,z⟩]
    rw[bad];rfl
  ·have bad:jJ C (Rl x0 (y_ b) last k row x5 x6)=some (.rt (.tup [.non,.int (k:Int)])):=by
    rcases hw with hw | ⟨ns,hw⟩
    ·exact L0 hw
    ·exact(L1 _ _ hw).1 (.inr (by simp[hk]))
   rcases Ve b row with⟨q',hp',_⟩ | ⟨_,hd⟩
   ·rw[hp]at hp';cases hp'
   ·rw[bad];exact .inr ⟨b,k,hd k rs,rfl⟩
theorem XA(s:Int):JX ⟨s,[(1,1,0)],[],[],[]⟩=(decide (1<=s)&&decide (s<=30)):=by
 unfold JX fC fR fK;simp
theorem XB(row:Str):(∃s,Yo row=some s/\JM (Txt.split row " ")=some (0,[s])/\1<=s/\s<=30) \/ (Yo row=none/\(JM (Txt.split row " ")=none \/ (∃j ns,JM (Txt.split row " ")=some (j,ns)/\j≠0) \/∃s,JM (Txt.split row " ")=some (0,[s])/\¬(1<=s/\s<=30))):=by
 rw[qu];cases Txt.split row " " with
 | nil=>exact .inr ⟨rfl,.inl rfl⟩
 | cons w ns=>
  by_cases hz:w = "size"
  ·subst hz;rw[KM];by_cases hh:ns.all jp=true/\ns.length=1
   ·obtain⟨n,rfl⟩:∃n,ns=[n]:=by
     match ns,hh.2 with
     | [n],_=>exact⟨n,rfl⟩
    have ok:jp n=true:=by simpa using hh.1
    rw[if_pos hh];by_cases hr:1<=jQ n/\jQ n<=30
    ·refine .inl ⟨jQ n,?_,rfl,hr⟩;show(if _ then _ else _)=_;rw[if_pos ⟨rfl,ok,hr⟩]
    ·refine .inr ⟨?_,.inr (.inr ⟨jQ n,rfl,hr⟩)⟩;show(if _ then _ else _)=_;rw[if_neg fun z=>hr z.2.2]
   ·rw[if_neg hh];refine .inr ⟨?_,.inl rfl⟩;unfold kl;split
    ·rename_i e;cases e;rw[if_neg fun z=>hh ⟨by simp[z.2.1],rfl⟩]
    ·rfl
  ·rw[KL hz];have sn:kl (w::ns)=none:=by
    unfold kl;split
    ·rename_i e;cases e;rw[if_neg fun z=>hz z.1]
    ·rfl
   rw[sn];cases jM (w::ns)with
   | none=>exact .inr ⟨rfl,.inl rfl⟩
   | some q=>exact .inr ⟨rfl,.inr (.inl ⟨_,_,rfl,Nat.succ_ne_zero _⟩)⟩
theorem uY(s:Int):NnB ⟨s,[],[],[],[]⟩:=⟨(fun _ h=>by cases h),(fun _ h=>by cases h),(fun _ h=>by cases h),(fun _ h=>by cases h)⟩
theorem qw(C:Addr)(x0:Sl)(n0:fz x0=x0)(row:Str)(rb:RowB row):
  (∃s y5,Yo row=some s/\jJ C (Rl x0 [[],[],[],[],[]] 0 0 row .un .un)=some (.nx (Rl x0 (y_ ⟨s,[],[],[],[]⟩) 0 0 row y5 .un))) \/
  (Yo row=none/\jJ C (Rl x0 [[],[],[],[],[]] 0 0 row .un .un)=some (.rt (.tup [.non,.int 0]))):=by
 obtain⟨L0,L1⟩:=Wg C x0 .un .un [[],[],[],[],[]] 0 0 row rb;have zero:∀s,JM (Txt.split row " ")=some (0,[s])->_:=fun s h=>(L1 0 [s] h).2 (by simp) [] _ _ (.cl (oL (some (0,[s])))) rfl (jk (by simp)) rfl (by decide) (Aa C ⟨s,[],[],[],[]⟩ 0 ⟨(fun t h=>by simp[kb]at h;subst h;exact⟨by decide,by decide,by decide⟩),(uY s).h,(uY s).b',(uY s).d⟩ ⟨by simp[kb],by simp[kb],by simp[kb],by simp[kb]⟩ x0 .un n0 rfl 0 row _);have ok:∀s,JX (kb 0 ⟨s,[],[],[],[]⟩)=(decide (1<=s)&&decide (s<=30)):=XA;rcases XB row with⟨s,h1,h2,h3,h4⟩ | ⟨h1,h2 | ⟨j,ns,h2,hj⟩ | ⟨s,h2,hs⟩⟩
 ·refine .inl ⟨s,.cl (oL (some (0,[s]))),h1,(zero s h2).trans ?_⟩;rw[ok,decide_eq_true h3,decide_eq_true h4];rfl
 ·exact .inr ⟨h1,L0 h2⟩
 ·exact .inr ⟨h1,(L1 _ _ h2).1 (.inr (by simp[hj]))⟩
 ·refine .inr ⟨h1,(zero s h2).trans ?_⟩;rw[ok,if_neg (by simp;omega)];rfl
theorem u8(l:List T3):Zl (l.map t3)<=1:=by
 induction l with
 | nil=>simp[Zl]
 | cons t l ih=>simp[Zl,Y4,t3];omega
theorem eL{l:List T3}(h:l≠[]):JU (.lst (l.map t3)) (.lst [])=some (.bl false):=by
 have d:=u8 l;have d':Y4 (.lst (l.map t3))<=20:=by simp[Y4];omega
 have hl:¬(l.map t3).length=([]:List D).length:=by simp[h]
 show gK false (.lst (l.map t3)) (.lst [])=_;unfold gK;rw[if_pos (show Zm (.lst (l.map t3)) (.lst [])=true/\Y4 (.lst (l.map t3))<=20 from⟨rfl,d'⟩)];unfold Zi;rw[if_neg hl];rfl
def Hb:Bk ⊕ Nat->D
 | .inl b=>.tup [yZ b,.int (-1)]
 | .inr e=>.tup [.non,.int (e:Int)]
theorem B5(C:Addr)(rows:List Str)(hne:rows≠[])(hr:∀r∈rows,RowB r)(hn:rows.length<=10000):uW C [.lst (rows.map D.str)]=some (Hb (ZW rows)):=by
 cases rows with
 | nil=>exact vDa rfl hne
 | cons r0 rs=>
  have ln:(r0::rs).length<=sizeLine:=wQa (jk hn);generalize hx:(Sl.bo (.lst ((r0::rs).map D.str)))=x0;have n0:fz x0=x0:=by subst hx;rfl
  have s1:v_ 1 [(jB []),(jB []),(jB []),(jB []),(jB [])] [x0,.un,.un,.un,.un,.un,.un]=some (.nx [x0,.lo none [[],[],[],[],[]],.un,.un,.un,.un,.un]):=by subst hx;rfl
  have s3:UT (dP 0) [x0,.lo none [[],[],[],[],[]],.cl (.int 0),.un,.un,.un,.un]=some (Jt 0 ((r0::rs).map D.str)):=by subst hx;rfl
  have t1:Ja (.tup [.int ((0:Nat):Int),.str r0]) [x0,.lo none [[],[],[],[],[]],.cl (.int 0),.un,.un,.un,.un]=some (Rl x0 [[],[],[],[],[]] 0 0 r0 .un .un):=by simp[Ja]
  refine fE (Z:=[x0,.un,.un,.un,.un,.un,.un]) ?_ (by subst hx;rfl);refine sq s1 (sq (Z1:=[x0,.lo none [[],[],[],[],[]],.cl (.int 0),.un,.un,.un,.un]) rfl ?_);have lp:∀r,(jJ C (Rl x0 [[],[],[],[],[]] 0 0 r0 .un .un)).bind _=r->JL (UT (dP 0)) Ja (jJ C) [x0,.lo none [[],[],[],[],[]],.cl (.int 0),.un,.un,.un,.un]=r:=fun r h=>by
   rw[JL,s3,Option.bind_some,List.map_cons,Jt,J2,t1,Option.bind_some];exact h
  rw[ZW];rcases qw C x0 n0 r0 (hr r0 wNa)with⟨s,y5,h1,h2⟩ | ⟨h1,h2⟩
  ·rw[h1];dsimp only;rcases KO C x0 n0 rs ⟨s,[],[],[],[]⟩ 0 1 (.cl (.int 0)) (.cl (.str r0)) y5 .un rfl (fun r h=>hr r (wMa _ h)) ⟨by simp,by simp,by simp,by simp⟩ (uY s) (fun p hp=>by
     have:p=0 \/ p=1 \/ p=2 \/ p=3:=by omega
     rcases this with rfl | rfl | rfl | rfl <;> rfl) (by decide)with⟨b',y2,y3,y4,z5,z6,a1,a2,a3⟩ | ⟨b',e,a1,a2⟩
   ·rw[a1];dsimp only;refine sq (Z1:=[x0,.lo none (y_ b'),y2,y3,y4,z5,z6]) (lp _ (by rw[h2];exact a2)) ?_;have fr:frz [x0,.lo none (y_ b'),y2,y3,y4,z5,z6]=[x0,.cl (.lst ((y_ b').map D.lst)),fz y2,fz y3,fz y4,fz z5,fz z6]:=by
     simp only[frz,List.map_cons,List.map_nil,n0];rfl
    cases rs with
    | nil=>
     cases a1;rw[if_pos rfl];subst hx;exact sr (by rw[jC,fr];rfl)
    | cons r1 rs=>
     rw[if_neg (by simp)];have ok:=Yx.mp (a3 (by simp));have ne:b'.kinds≠[]:=fun z=>by have:=ok.k1;rw[z]at this;simp at this
     refine sq (Z1:=[x0,.lo none (y_ b'),y2,y3,y4,z5,z6]) (Wb (k:=false) ?_ rfl) ?_
     ·rw[fr];show(JU (.lst (b'.kinds.map t3)) (.lst [])).bind ah=_;rw[eL ne];rfl
     ·show(jv _ (frz _))=_;rw[fr];rfl
   ·rw[a1];exact sr (lp _ (by rw[h2];exact a2))
  ·rw[h1];exact sr (lp _ (by rw[h2];rfl))
end M
noncomputable section
namespace M
open PySem L2 DS CP
section
variable {w j:Int} {a rest:DS.DS} {Z Z1:j6} {r:Option Rs}
theorem JE(h:Z[6]?=some (.cl (.int w)))(n:w≠j)(k:rest Z=r):j9 (jC (jy (d2 JU (dV 6) (dK (.int j)))) a jL) rest Z=r:=by
 have v:dV 6 Z=some (.int w):=by unfold dV;rw[h]
 exact sq (Wb (k:=false) (by rw[jy,d2,v];show some (decide (w=j))=_;rw[decide_eq_false n]) rfl) k
theorem Hc(h:Z[6]?=some (.cl (.int j))):jy (d2 JU (dV 6) (dK (.int j))) Z=some true:=by
 have v:dV 6 Z=some (.int j):=by unfold dV;rw[h]
 rw[jy,d2,v];show some (decide (j=j))=_;rw[decide_eq_true rfl]
theorem QJ(h:Z[6]?=some (.cl (.int j)))(e:a Z=some (.nx Z1))(k:rest Z1=r):j9 (jC (jy (d2 JU (dV 6) (dK (.int j)))) a jL) rest Z=r:=sq (Wb (Hc h) e) k
end
theorem UD{rs:List Str}(h:wt rs<=100000):JoinOk "\n" rs=true/\JoinOk " " rs=true:=by
 have e:(rs.map (·.length)).sum+rs.length=wt rs:=by
  unfold wt;clear h;induction rs with
  | nil=>rfl
  | cons a r ih=>simp only[List.map_cons,List.sum_cons,List.length_cons]at ih⊢;omega
 have l1:("\n" : Str).length=1:=by rw[gi];rfl
 have l2:(" " : Str).length=1:=by rw[yW];rfl
 exact⟨PyProof.Rows.joinOk_of (by rw[l1];omega),PyProof.Rows.joinOk_of (by rw[l2];omega)⟩
theorem ua{rs:List Str}{Z:j6}(h:Z[2]?=some (.ow none (.lst (rs.map D.str))))(hw:wt rs<=100000):jv (d2 V0 (dK (.str "\n")) (dV 2)) Z=some (.rt (.str (Txt.join "\n" rs))):=by
 have v:dV 2 Z=some (.lst (rs.map D.str)):=by unfold dV;rw[h];rfl
 rw[jv,d2,v];show((zY (rs.map D.str)).bind _).bind _=_;rw[ze,Option.bind_some,if_pos (UD hw).1];rfl
theorem Zb{rs:List Str}:(Txt.join "\n" rs).length<=wt rs:=by rw[gi];exact Gj rs
theorem KP:∀(rs:List Str) (n:Nat),(rs.map D.str).eraseIdx n=(rs.eraseIdx n).map D.str
 | [],_=>rfl
 | _::_,0=>rfl
 | a::r,n+1=>by simp[KP r n]
theorem qx:∀(rs:List Str) (n:Nat),wt (rs.eraseIdx n)<=wt rs
 | [],_=>wPa _
 | a::r,0=>by rw[yY];simp
 | a::r,n+1=>by
  have:=qx r n;simp only[List.eraseIdx_cons_succ,yY];omega
theorem KQ(rs:List Str)(n:Nat)(x:Str):wt (rs.take n++x::rs.drop n)=wt rs+x.length+1:=by
 have e:wt (rs.take n)+wt (rs.drop n)=wt rs:=by rw[<-QG,List.take_append_drop]
 rw[QG,yY];omega
theorem KR:∀(rs:List Str) (n:Nat) (x y:Str),rs[n]?=some y->wt (rs.set n x)+y.length=wt rs+x.length
 | [],_,_,_,h=>by cases h
 | a::r,0,x,y,h=>by cases h;simp only[List.set_cons_zero,yY];omega
 | a::r,n+1,x,y,h=>by
  have:=KR r n x y (by simpa using h);simp only[List.set_cons_succ,yY];omega
theorem gq{rs:List Str}{k:Int}(h0:0<=k)(h1:k < (rs.length:Int)):∃x,rs[k.toNat]?=some x/\atI (rs.map D.str) k=some (.str x):=by
 have hk:k.toNat < rs.length:=by omega
 refine⟨rs[k.toNat],by simp[hk],zD h0 (by simp[hk])⟩
theorem Wh(rs:List Str)(n:Nat)(x:Str):(rs.map D.str).take n++D.str x::(rs.map D.str).drop n=(rs.take n++x::rs.drop n).map D.str:=by simp
theorem Yz(a b:Str):(a++b).length=a.length+b.length:=by
 show(a.cps++b.cps).size=_;rw[Array.size_append];rfl
theorem QK(ws:List Str)(n:Nat)(x:Str):(ws.map D.str).set n (.str x)=(ws.set n x).map D.str:=by rw[List.map_set]
noncomputable def Wi:List Int:=[0,1,2,3,4,5,30,31,9999,10000]
theorem Ih:(Wi.all fun v=>Nat.ble (nt v).cps.toList.length 5&&Nat.blt v.natAbs.log2 1920)=true:=by kernel_rfl
theorem KS(u:Int):∃v,atI (Wi.map D.int) (u % 10)=some (.int v)/\zG [.int v]=some (.str (nt v))/\(nt v).length<=5:=by
 have g:=jI (a:=u) (b:=10) (by decide);have hk:(u % 10).toNat < Wi.length:=by show(u % 10).toNat < 10;omega
 have hm:=List.all_eq_true.mp Ih (Wi[(u % 10).toNat]) (List.getElem_mem hk);obtain⟨h1,h2⟩:=Bool.and_eq_true_iff.mp hm;refine⟨Wi[(u % 10).toNat],zD g.1 (by rw[List.getElem?_map,List.getElem?_eq_getElem hk];rfl),?_,?_⟩
 ·show(if _ then _ else _)=_;rw[if_pos (Nat.blt_eq.mp h2)];rfl
 ·rw[yX];exact Nat.le_of_ble_eq_true h1
noncomputable def eM:List Str:=["kind", "shun", "bar", "due", "size", "Kind"]
theorem Ii:(eM.all fun v=>Nat.ble v.cps.toList.length 4)=true:=by kernel_rfl
noncomputable def eN:List Str:=["", "size 3", "size 0", "size 31\nkind 1 1 0", "kind 1 1 0", "size 3\nshun 0 0 1"]
theorem Ij:(eN.all fun v=>Nat.ble v.cps.toList.length 30)=true:=by kernel_rfl
noncomputable def SG:Str := " !\"#$&'()*+,-./0123456789:;<=>?@ABCDEFGHIJKLMNOPQRSTUVWXYZ[\\]^_`"
noncomputable def SH:Str := "abcdefghijklmnopqrstuvwxyz{|}~\n"
theorem eO:Nat.beq (SG++SH).cps.toList.length 95=true:=by kernel_rfl
theorem B6(C:Addr)(u:Int):∃t,uT C [.int u]=some (.str t)/\t.length=1:=by
 have g:=jI (a:=u) (b:=95) (by decide);have hl:(SG++SH).cps.toList.length=95:=Nat.eq_of_beq_eq_true eO;have hk:(u % 95).toNat < (SG++SH).cps.toList.length:=by omega
 have l1:SG.length+SH.length<=sizeLine:=by rw[<-Yz,yX,hl];exact wQa (jk (by decide))
 have l2:(SG++SH).length<=sizeLine:=by rw[Yz];exact l1
 have ix:Zo (.str (SG++SH)) (.int (u % 95))=some (.str ⟨#[(SG++SH).cps.toList[(u % 95).toNat]]⟩):=by
  show(if (SG++SH).length<=sizeLine then(atI (SG++SH).cps.toList (u % 95)).bind fun c=>some (D.str ⟨#[c]⟩)else none)=_;rw[if_pos l2,zD g.1 (by rw[List.getElem?_eq_getElem hk])];rfl
 refine⟨⟨#[(SG++SH).cps.toList[(u % 95).toNat]]⟩,?_,rfl⟩;have s1:jA 1 (d2 jG (dV 1) (dK (.str "abcdefghijklmnopqrstuvwxyz{|}~\n"))) [.bo (.int u),.cl (.str SG)]=some (.nx [.bo (.int u),.cl (.str (SG++SH))]):=by
  show((if SG.length+SH.length<=sizeLine then some (D.str (SG++SH))else none).bind _)=_;rw[if_pos l1];rfl
 have r1:(jv (d2 Zo (dV 1) (d2 jK (dV 0) (dK (.int 95))))) [.bo (.int u),.cl (.str (SG++SH))]=some (.rt (.str ⟨#[(SG++SH).cps.toList[(u % 95).toNat]]⟩)):=by
  rw[jv,d2];show((Zo (.str (SG++SH)) (.int (u % 95))).bind _)=_;rw[ix];rfl
 show(Y5 C [.bo (.int u),.un]).bind _=_;have go:Y5 C [.bo (.int u),.un]=some (.rt (.str ⟨#[(SG++SH).cps.toList[(u % 95).toNat]]⟩)):=by
  have s0:jA 1 (dK (.str " !\"#$&'()*+,-./0123456789:;<=>?@ABCDEFGHIJKLMNOPQRSTUVWXYZ[\\]^_`")) [.bo (.int u),.un]=some (.nx [.bo (.int u),.cl (.str SG)]):=rfl;unfold Y5;rw[j9,s0,Option.bind_some];show j9 _ _ _=_;rw[j9,s1,Option.bind_some];exact r1
 rw[go];rfl
noncomputable abbrev RS(text:Str)(ds:List Int)(rs:List Str)(x3 x4 x5 x6 x7 x8 x9 x10:Sl):j6:=[.bo (.str text),.bo (.lst (ds.map D.int)),.ow none (.lst (rs.map D.str)),x3,x4,x5,x6,x7,x8,x9,x10]
noncomputable abbrev RW(text:Str)(ds:List Int)(rs:List Str)(a h t w:Int)(x7 x8 x9 x10:Sl):j6:=RS text ds rs (.cl (.int a)) (.cl (.int h)) (.cl (.int t)) (.cl (.int w)) x7 x8 x9 x10
theorem eP{l:List Str}{n m:Nat}(hn:l.length=n)(h0:0 < n)(u:Int)(hl:(l.all fun v=>Nat.ble v.cps.toList.length m)=true):∃x,atI (l.map D.str) (u % (n:Int))=some (.str x)/\x.length<=m:=by
 have g:=jI (a:=u) (b:=(n:Int)) (by omega);obtain⟨x,x1,x2⟩:=gq (rs:=l) (k:=u % (n:Int)) g.1 (by omega);exact⟨x,x2,by rw[yX];exact Nat.le_of_ble_eq_true (List.all_eq_true.mp hl x (wYa x1))⟩
theorem Jr{n:Nat}(h:n<=10000):n<=sizeLine:=wQa (jk h)
theorem QL(C:Addr)(text:Str)(ds:List Int)(tl:text.length<=4600)(hd:10<=ds.length):∃t,yn C [.str text,.lst (ds.map D.int)]=some (.str t)/\t.length<=2 * text.length+60:=by
 have at0:∀k:Int,0<=k->k < 10->∃v:Int,atI (ds.map D.int) k=some (.int v):=fun k h0 h1=>vN h0 (by omega);obtain⟨u0,b0⟩:=at0 0 (by decide) (by decide);obtain⟨u1,b1⟩:=at0 1 (by decide) (by decide);obtain⟨u2,b2⟩:=at0 2 (by decide) (by decide);obtain⟨u3,b3⟩:=at0 3 (by decide) (by decide);obtain⟨u4,b4⟩:=at0 4 (by decide) (by decide);have sp:Jx (.str text) (.str "\n")=some (.lst ((Txt.split text "\n").map D.str)):=if_pos ⟨by decide,jk (by omega)⟩;have ps:=PyProof.Rows.split_pos text "\n";have hq:wt (Txt.split text "\n")=text.length+1:=by rw[gi];exact Vc text (by decide)
 revert sp ps hq;generalize Txt.split text "\n" = rs;intro sp ps hq;have wl:=gl rs;have g0:=jI (a:=u0) (b:=9) (by decide);have g2:=jI (a:=u1) (b:=(rs.length:Int)) (by omega);have g3:=jI (a:=u2) (b:=(rs.length:Int)) (by omega);have lz:rs.length<=sizeLine:=Jr (by omega);have lt:text.length<=sizeLine:=Jr (by omega);generalize hw:u0 % 9=way at g0;generalize ha:u1 % ((text.length:Int)+1)=aq;generalize hh:u1 % (rs.length:Int)=here at g2;generalize ht:u2 % (rs.length:Int)=there at g3;obtain⟨h0,h1⟩:=g2;obtain⟨t0,t1⟩:=g3;have hp:0 < rs.length:=by omega
 have hp1:(0:Int) < (text.length:Int)+1:=by omega
 have sm:rs.length < 1000000:=by omega
 have pre:∀r,_->yn C [.str text,.lst (ds.map D.int)]=some (.str r):=fun r h=>fE (sq (Z1:=RS text ds rs .un .un .un .un .un .un .un .un) (by simp[sp,OD.toD]) (sq (Z1:=RS text ds rs (.cl (.int aq)) .un .un .un .un .un .un .un) (by simp[b1,lt,ha,hp1]) (sq (Z1:=RS text ds rs (.cl (.int aq)) (.cl (.int here)) .un .un .un .un .un .un) (by simp[b1,lz,hh,hp]) (sq (Z1:=RS text ds rs (.cl (.int aq)) (.cl (.int here)) (.cl (.int there)) .un .un .un .un .un) (by simp[b2,lz,ht,hp]) (sq (Z1:=RW text ds rs aq here there way .un .un .un .un) (by simp[b0,hw]) h))))) rfl;clear hw ha hh ht;obtain⟨x,x1,x2⟩:=gq h0 h1;have xl:=gk (wYa x1);by_cases h3:way < 3
 ·obtain⟨sg,s1,s2⟩:=B6 C u3;have e0:("" : Str).length=0:=by kernel_rfl
  have key:∀(i j:Int) (m:Str),Z0 [.bl (decide (way=1))]=some (.int i)->Z0 [.bl (decide (way > 0))]=some (.int j)->atI [D.str sg,D.str ""] i=some (.str m)->m.length<=1->∃t,yn C [.str text,.lst (ds.map D.int)]=some (.str t)/\t.length<=2 * text.length+60:=by
   intro i j m hi hj hm hl;have q1:=PySem.Txt.slice_le text none (some aq);have q2:=PySem.Txt.slice_le text (some (aq+j)) none;have c1:ka (.str text) none (some aq)=some (.str (Txt.slice text none (some aq))):=if_pos lt;have c2:ka (.str text) (some (aq+j)) none=some (.str (Txt.slice text (some (aq+j)) none)):=if_pos lt;have z1:(Txt.slice text none (some aq)).length+m.length<=sizeLine:=Jr (by omega);have z2:(Txt.slice text none (some aq)++m).length+(Txt.slice text (some (aq+j)) none).length<=sizeLine:=Jr (by rw[Yz];omega);refine⟨Txt.slice text none (some aq)++m++Txt.slice text (some (aq+j)) none,pre _ (sr (Wb (k:=true) (by simp[h3]) ?_)),by rw[Yz,Yz];omega⟩;simp[yx,c1,b3,s1,hi,hm,z1,hj,c2,z2,OD.toD]
  have:way=0 \/ way=1 \/ way=2:=by omega
  rcases this with rfl | rfl | rfl
  ·exact key 0 0 sg rfl rfl rfl (by omega)
  ·exact key 1 1 "" rfl rfl rfl (by omega)
  ·exact key 0 1 sg rfl rfl rfl (by omega)
 ·have pr2:∀r,_->yn C [.str text,.lst (ds.map D.int)]=some (.str r):=fun r h=>pre r (sq (Z1:=RW text ds rs aq here there way .un .un .un .un) (Wb (k:=false) (by simp[h3]) rfl) h);have:way=3 \/ way=4 \/ way=5 \/ way=6 \/ way=7 \/ way=8:=by omega
  rcases this with rfl | rfl | rfl | rfl | rfl | rfl
  ·have hw:=qx rs here.toNat
   refine⟨_,pr2 _ (QJ (Z1:=RW text ds (rs.eraseIdx here.toNat) aq here there 3 .un .un .un .un) rfl ?_ (JE rfl (by decide) (JE rfl (by decide) (JE rfl (by decide) (JE rfl (by decide) (JE rfl (by decide) (ua (rs:=rs.eraseIdx here.toNat) rfl (by omega)))))))),wSa Zb (by omega)⟩;show(if 0<=here/\here < ((rs.map D.str).length:Int)/\(rs.map D.str).length < 1000000 then _ else none)=_;rw[if_pos (by rw[List.length_map];exact⟨h0,h1,sm⟩),KP];rfl
  ·have hw:=KQ rs there.toNat x;refine⟨_,pr2 _ (JE rfl (by decide) (QJ (Z1:=RW text ds (rs.take there.toNat++x::rs.drop there.toNat) aq here there 4 .un .un .un .un) rfl ?_ (JE rfl (by decide) (JE rfl (by decide) (JE rfl (by decide) (JE rfl (by decide) (ua (rs:=rs.take there.toNat++x::rs.drop there.toNat) rfl (by omega)))))))),wSa Zb (by omega)⟩;show((atI (rs.map D.str) here).bind fun d=>if 0<=there/\there<=((rs.map D.str).length:Int)/\(rs.map D.str).length < 1000000 then _ else none)=_;rw[x2,Option.bind_some,if_pos (by rw[List.length_map];exact⟨t0,by omega,sm⟩),Wh];rfl
  ·have hw:=KQ (rs.eraseIdx here.toNat) there.toNat x;have hw2:=qx rs here.toNat
   refine⟨_,pr2 _ (JE rfl (by decide) (JE rfl (by decide) (QJ (Z1:=RW text ds ((rs.eraseIdx here.toNat).take there.toNat++x::(rs.eraseIdx here.toNat).drop there.toNat) aq here there 5 .un .un .un .un) rfl ?_ (JE rfl (by decide) (JE rfl (by decide) (JE rfl (by decide) (ua (rs:=(rs.eraseIdx here.toNat).take there.toNat++x::(rs.eraseIdx here.toNat).drop there.toNat) rfl (by omega)))))))),wSa Zb (by omega)⟩;show(if 0<=here/\here < ((rs.map D.str).length:Int)/\(rs.map D.str).length < 1000000/\0<=there/\there < ((rs.map D.str).length:Int)then((rs.map D.str)[here.toNat]?).bind _ else none)=_;rw[if_pos (by rw[List.length_map];exact⟨h0,h1,sm,t0,t1⟩),List.getElem?_map,x1];show some (Rs.nx (([Sl.bo (.str text),.bo (.lst (ds.map D.int)),.ow none (.lst (((rs.map D.str).eraseIdx here.toNat).take there.toNat++D.str x::((rs.map D.str).eraseIdx here.toNat).drop there.toNat)),.cl (.int aq),.cl (.int here),.cl (.int there),.cl (.int 5),.un,.un,.un,.un])))=_;rw[KP,Wh]
  ·obtain⟨u5,b5⟩:=at0 5 (by decide) (by decide);obtain⟨u6,b6⟩:=at0 6 (by decide) (by decide);obtain⟨v4,c4,d4,l4⟩:=KS u4;obtain⟨v5,c5,d5,l5⟩:=KS u5;obtain⟨v6,c6,d6,l6⟩:=KS u6;obtain⟨w,w2,wl⟩:=eP (l:=eM) (n:=6) rfl (by decide) u3 Ii;have jw:wt [w,nt v4,nt v5,nt v6]=w.length+(nt v4).length+(nt v5).length+(nt v6).length+4:=by simp[wt];omega
   have jl:(Txt.join " " [w,nt v4,nt v5,nt v6]).length<=wt [w,nt v4,nt v5,nt v6]:=by rw[yW];exact Gj _
   have jo:=(UD (rs:=[w,nt v4,nt v5,nt v6]) (by omega)).2;have hw:=KQ rs (here+1).toNat (Txt.join " " [w,nt v4,nt v5,nt v6])
   have s3:3<=sizeLine:=by decide
   refine⟨_,pr2 _ (JE rfl (by decide) (JE rfl (by decide) (JE rfl (by decide) (QJ (Z1:=RW text ds (rs.take (here+1).toNat++(Txt.join " " [w,nt v4,nt v5,nt v6])::rs.drop (here+1).toNat) aq here there 6 (.cl (.lst [.int v4,.int v5,.int v6])) (.cl (.str w)) .un .un) rfl (sq (Z1:=RW text ds rs aq here there 6 (.cl (.lst [.int v4,.int v5,.int v6])) .un .un .un) ?_ (sq (Z1:=RW text ds rs aq here there 6 (.cl (.lst [.int v4,.int v5,.int v6])) (.cl (.str w)) .un .un) ?_ ?_)) (JE rfl (by decide) (JE rfl (by decide) (ua (rs:=rs.take (here+1).toNat++(Txt.join " " [w,nt v4,nt v5,nt v6])::rs.drop (here+1).toNat) rfl (by omega)))))))),wSa Zb (by omega)⟩
   ·simp only[Wi,List.map_cons,List.map_nil]at c4 c5 c6;have cm:=Jf (g:=gN 0) (dc:=jS) (de:=(d2 jj (dL (jB [(true,(dK (.int 0))),(true,(dK (.int 1))),(true,(dK (.int 2))),(true,(dK (.int 3))),(true,(dK (.int 4))),(true,(dK (.int 5))),(true,(dK (.int 30))),(true,(dK (.int 31))),(true,(dK (.int 9999))),(true,(dK (.int 10000)))])) (d2 jK (d2 jj (dV 1) (d2 jG (dK (.int 4)) (dV 0))) (dK (.int 10))))) (Z:=[.un,.bo (.lst (ds.map D.int))]) (fun p:Int×Int=>D.int p.1) (fun p=>D.int p.2) (xs:=[(0,v4),(1,v5),(2,v6)]) (by
     intro p hp;refine⟨_,rfl,rfl,?_⟩;simp only[List.mem_cons,List.not_mem_nil,or_false]at hp;rcases hp with rfl | rfl | rfl
     ·simp[b4,c4]
     ·simp[b5,c5]
     ·simp[b6,c6])
    have rg:Jq 0 3=[.int 0,.int 1,.int 2]:=rfl;simp only[List.map_cons,List.map_nil]at cm;rw[<-rg]at cm;have rl:(Jq 0 3).length<=sizeLine:=by rw[rg];exact s3
    simp only[jA,dL,yH,YH];simp[YG (j:=3) (by decide) (by decide),cm,OD.toD,rl]
   ·simp only[eM,List.map_cons,List.map_nil]at w2;simp at w2;simp[b3,w2]
   ·have cj:=Jf (g:=gN 0) (dc:=jS) (de:=jd zG [(false,dV 0)]) (Z:=[.un]) (fun p:Int×Str=>D.int p.1) (fun p=>D.str p.2) (xs:=[(v4,nt v4),(v5,nt v5),(v6,nt v6)]) (by
     intro p hp;refine⟨_,rfl,rfl,?_⟩;simp only[List.mem_cons,List.not_mem_nil,or_false]at hp;rcases hp with rfl | rfl | rfl
     ·exact d4
     ·exact d5
     ·exact d6)
    simp only[List.map_cons,List.map_nil]at cj;have lc:(yH 1 [] (JI (dP 7)) (gN 0) jS (jd zG [(false,(dV 0))])) (RW text ds rs aq here there 6 (.cl (.lst [.int v4,.int v5,.int v6])) (.cl (.str w)) .un .un)=some (.lst [.str (nt v4),.str (nt v5),.str (nt v6)]):=by
     simp only[yH,JI,dP];simp[cj,s3]
    have s4:4<=sizeLine:=by decide
    have sm4:zY [.str w,.str (nt v4),.str (nt v5),.str (nt v6)]=some [w,nt v4,nt v5,nt v6]:=ze [w,nt v4,nt v5,nt v6];have hb:0<=here+1/\here+1<=(rs.length:Int):=by omega
    simp only[gR,d2,dL,ZH];rw[lc];simp[s4,sm4,jo,OD.toD,hb,sm]
  ·have sp:Jx (.str x) (.str " ")=some (.lst ((Txt.split x " ").map D.str)):=if_pos ⟨by decide,jk (by omega)⟩;have ps:=PyProof.Rows.split_pos x " ";have sw:wt (Txt.split x " ")=x.length+1:=by rw[yW];exact Vc x (by decide)
   revert sp ps sw;generalize Txt.split x " " = ws;intro sp ps sw;have wl:=gl ws;have g3:=jI (a:=u3) (b:=(ws.length:Int)) (by omega);generalize hk:u3 % (ws.length:Int)=k at g3;obtain⟨w,w1,w2⟩:=gq g3.1 g3.2;have ww:=gk (wYa w1);have g4:=jI (a:=u4) (b:=6) (by decide);obtain⟨y,y1,y2⟩:=gq (rs:=["",w ++ " " ++ w, "0" ++ w, "-1", "31", "4"]) (k:=u4 % 6) g4.1 (by show u4 % 6 < 6;omega);have l1:(" " : Str).length=1:=by rw[yW];rfl
   have l0:("0" : Str).length=1:=by rw[vO];rfl
   have yl:y.length<=2 * w.length+2:=by
    have:=wYa y1;simp only[List.mem_cons,List.not_mem_nil,or_false]at this;have k0:("" : Str).length=0/\("-1" : Str).length=2/\("31" : Str).length=2/\("4" : Str).length=1:=⟨by kernel_rfl,by kernel_rfl,by kernel_rfl,by kernel_rfl⟩
    rcases this with rfl | rfl | rfl | rfl | rfl | rfl <;> (try rw[Yz]) <;> (try rw[Yz]) <;> omega
   have z1:w.length+(" " : Str).length<=sizeLine:=Jr (by omega);have z2:(w ++ " ").length+w.length<=sizeLine:=Jr (by rw[Yz];omega);have z3:("0" : Str).length+w.length<=sizeLine:=Jr (by omega);have lz:ws.length<=sizeLine:=Jr (by omega);have hp:0 < ws.length:=by omega
   have ix9:zu ws.length k=some k.toNat:=gg g3.1 g3.2;have sw2:=KR ws k.toNat y w w1;have jo:=(UD (rs:=ws.set k.toNat y) (by omega)).2;have jl:(Txt.join " " (ws.set k.toNat y)).length<=wt (ws.set k.toNat y):=by rw[yW];exact Gj _
   have ix2:zu rs.length here=some here.toNat:=gg h0 h1;have hw:=KR rs here.toNat (Txt.join " " (ws.set k.toNat y)) x x1;refine⟨_,pr2 _ (JE rfl (by decide) (JE rfl (by decide) (JE rfl (by decide) (JE rfl (by decide) (QJ (Z1:=RW text ds (rs.set here.toNat (Txt.join " " (ws.set k.toNat y))) aq here there 7 .un .un (.ow none (.lst ((ws.set k.toNat y).map D.str))) (.cl (.int k))) rfl (sq (Z1:=RW text ds rs aq here there 7 .un .un (.ow none (.lst (ws.map D.str))) .un) (by simp[x2,sp,OD.toD]) (sq (Z1:=RW text ds rs aq here there 7 .un .un (.ow none (.lst (ws.map D.str))) (.cl (.int k))) (by simp[b3,lz,hk,hp]) (sq (Z1:=RW text ds rs aq here there 7 .un .un (.ow none (.lst ((ws.set k.toNat y).map D.str))) (.cl (.int k))) ?_ ?_))) (JE rfl (by decide) (ua (rs:=rs.set here.toNat (Txt.join " " (ws.set k.toNat y))) rfl (by omega)))))))),wSa Zb (by omega)⟩
   ·simp only[List.map_cons,List.map_nil]at y2;rw[<-QK];simp[w2,z1,z2,z3,b4,y2,OD.toD,ix9]
   ·show((zY ((ws.set k.toNat y).map D.str)).bind _).bind (fun d=>(zu (rs.map D.str).length here).bind _)=_;rw[ze,Option.bind_some,if_pos jo,Option.bind_some,List.length_map,ix2,Option.bind_some,QK];rfl
  ·obtain⟨w,w2,wl⟩:=eP (l:=eN) (n:=6) rfl (by decide) u3 Ij;refine⟨w,pr2 _ (JE rfl (by decide) (JE rfl (by decide) (JE rfl (by decide) (JE rfl (by decide) (JE rfl (by decide) (sr (Wb (Hc rfl) ?_))))))),by omega⟩;simp only[eN,List.map_cons,List.map_nil]at w2;simp at w2;simp[b3,w2,OD.toD]
end M
noncomputable section
namespace M
open PySem L2 DS CP
theorem Fm{text:Str}(hl:text.length<=9900):(∀r∈Txt.split text "\n",RowB r)/\(Txt.split text "\n").length<=10000:=by
 have sw:wt (Txt.split text "\n")=text.length+1:=by rw[gi];exact Vc text (by decide)
 have wl:=gl (Txt.split text "\n");refine⟨fun r hr=>?_,by omega⟩;have h1:=gk hr;have s2:wt (Txt.split r " ")=r.length+1:=by rw[yW];exact Vc r (by decide)
 have w2:=gl (Txt.split r " ");exact⟨by omega,fun v hv=>by have:=gk hv;omega,by omega⟩
theorem Ab:∀l:List T3,vq (l.map t3)
 | []=>by rw[List.map_nil,vq];trivial
 | t::l=>by
  rw[List.map_cons,vq];refine⟨?_,Ab l⟩;have:(3:Nat)<=sizeLine:=by decide
  simp[t3,VZ,vq,this]
theorem Wj:∀(rs:List Str) (b:Bk) (k:Nat) (b':Bk),vP b k rs=(b',none)->rs≠[]->JX b'=true
 | [],_,_,_,_,h=>vDa rfl h
 | row::rs,b,k,b',e,_=>by
  rcases Ve b row with⟨q,_,_,hk,hd⟩ | ⟨_,hd⟩
  ·rw[hd]at e;cases rs with
   | nil=>cases e;exact hk
   | cons r rs=>exact Wj (r::rs) _ _ _ e (by simp)
  ·rw[hd]at e;cases e
theorem QM{rows:List Str}{b:Bk}(h:ZW rows=.inl b):JX b=true:=by
 unfold ZW at h;split at h
 ·cases h
 ·split at h
  ·cases h
  ·split at h
   ·cases h
   ·rename_i e;split at h
    ·cases h
    ·rename_i hne;cases h;exact Wj _ _ _ _ e hne
theorem Ad{m:Nat}:∀{l:List Str},(∀r∈l,r.length<=m)->wt l<=l.length * (m+1)
 | [],_=>by simp[wt]
 | a::r,h=>by
  have:=Ad (l:=r) fun x hx=>h x (by simp[hx]);have:=h a (by simp);rw[yY,List.length_cons,Nat.succ_mul];omega
noncomputable abbrev Ra(x0 x1:Sl)(t:Str)(x3 x4 x5 x6 x7 x8:Sl):j6:=[x0,x1,.cl (.str t),x3,x4,x5,x6,x7,x8,.un]
theorem XC(C:Addr)(ns:List Int)(h:ns.length<=63):ki C [.scr ns]=some (.bl true):=by
 obtain⟨ms,e1,hm⟩:=qr C ns 100 h (by decide) (by decide);obtain⟨b,e2,ok,_⟩:=bL C ms 30 (by omega) (by omega) (by decide) (by decide);have e3:=KZ C b ok;have rl:(Yn b).length<=40:=GJ ok;have rsh:=Ad (gj ok);have bl:(kj b).length<=600:=wSa Zb (by omega);have j:=QD ok;have sm:=ze (Yn b);obtain⟨u60,b60⟩:=vN (ds:=ms) (k:=60) (by decide) (by omega);have g60:=jI (a:=u60) (b:=3) (by decide);generalize hu:u60 % 3=nn at g60;have S1:=Y_ (g:=w_) (s:=Gg C) (items:=Jq 0 nn.toNat) (fun i Z=>∃(t:Str) (x3:Sl),Z=Ra (.bo (.scr ns)) (.cl (.lst (ms.map D.int))) t x3 .un .un .un .un .un/\t.length<=(if i=0 then 600 else if i=1 then 1300 else 2700)) ?_ ⟨kj b,.un,rfl,by simpa using bl⟩
 rotate_left
 ·rintro i d Z hi ⟨t,x3,rfl,ht⟩;obtain⟨hi1,rfl⟩:=uz hi;have i2:i=0 \/ i=1:=by omega
  have ht4:t.length<=1300:=by rcases i2 with rfl | rfl <;> simp at ht <;> omega
  have cu:zX (.lst (ms.map D.int)) (some ((61:Int)+10 * (i:Int))) none=some (.lst ((ms.drop (61+10 * i)).map D.int)):=by
   show some (OD.lst (jZ (ms.map D.int) (some ((61:Int)+10 * (i:Int))) none))=_;rw[show(61:Int)+10 * (i:Int)=((61+10 * i:Nat):Int) by omega,gh,List.map_drop]
  obtain⟨t',p1,p2⟩:=QL C t (ms.drop (61+10 * i)) (by omega) (by rw[List.length_drop];omega);have c10:Zg 10 (i:Int)=true:=Ym (by decide) (by decide);refine⟨_,Ra (.bo (.scr ns)) (.cl (.lst (ms.map D.int))) t' (.cl (.int (0+(i:Int)))) .un .un .un .un .un,rfl,?_,t',_,rfl,?_⟩
  ·simp only[Gg];generalize List.map D.int (ms.drop (61+10 * i))=dd at cu p1;simp[c10,yx,cu,p1,OD.toD]
  ·rcases i2 with rfl | rfl <;> simp at ht⊢<;> omega
 obtain⟨Zk,K2,t,x3,rfl,tl⟩:=S1;have tl2:t.length<=2700:=by
  split at tl
  ·omega
  ·split at tl <;> omega
 obtain⟨rb,rn⟩:=Fm (text:=t) (by omega);have ps:=PyProof.Rows.split_pos t "\n";have lr:=B5 C (Txt.split t "\n") (fun z=>by rw[z]at ps;simp at ps) rb rn;have sp:Jx (.str t) (.str "\n")=some (.lst ((Txt.split t "\n").map D.str)):=if_pos ⟨by decide,jk (by omega)⟩;have pa:=Xz C t (by omega) rb;have pre:∀D4 D5 r,Hb (ZW (Txt.split t "\n"))=.tup [D4,D5]->_->ki C [.scr ns]=some r:=fun D4 D5 r hD h=>fE (sq (Z1:=[.bo (.scr ns),.cl (.lst (ms.map D.int)),.un,.un,.un,.un,.un,.un,.un,.un]) (by simp[e1,OD.toD]) (sq (Z1:=Ra (.bo (.scr ns)) (.cl (.lst (ms.map D.int))) (kj b) .un .un .un .un .un .un) (by simp[e2,e3,sm,j,OD.toD,<-kj.eq_1]) (sq (Z1:=Ra (.bo (.scr ns)) (.cl (.lst (ms.map D.int))) t x3 .un .un .un .un .un) (by
   rw[JL,show YH _ _=some (Jq 0 nn.toNat) by simp[b60,hu,YG (j:=nn) (by omega) (by omega)],Option.bind_some];exact K2) (sq (Z1:=Ra (.bo (.scr ns)) (.cl (.lst (ms.map D.int))) t x3 (.cl D4) (.cl D5) .un .un .un) (by rw[hD]at lr;simp[sp,OD.toD,lr]) (sq rfl (sq rfl (sq (Z1:=Ra (.bo (.scr ns)) (.cl (.lst (ms.map D.int))) t x3 (.cl D4) (.cl D5) (.cl .non) (.cl (.lst [])) (.cl .non)) rfl h))))))) rfl
 rcases pa with⟨c,q1,q2,q3⟩ | ⟨e,q1,q2⟩
 ·have okc:=Yx.mp (QM q1);refine pre (yZ c) (.int (-1)) _ (by rw[q1];rfl) (sq (Z1:=Ra (.bo (.scr ns)) (.cl (.lst (ms.map D.int))) t x3 (.cl (yZ c)) (.cl (.int (-1))) (.cl (JO C c)) (.cl (.lst [])) (.cl .non)) ?_ ?_)
  ·unfold V5;show(match JF C [.str t]with
    | some k=>_
    | none=>_)=_
   rw[q2];show((YS C [.str t]).bind _)=_;rw[q3];rfl
  ·have bk:=okc.k2;have bh:=okc.h2;have bb:=okc.b2;have bd:=okc.d2;have p5:VZ (.lst [.int c.size,.lst (c.kinds.map t3),.lst (c.shuns.map t3),.lst (c.bars.map t3),.lst (c.dues.map t3)]):=by
    have:(5:Nat)<=sizeLine:=by decide
    have l1:c.kinds.length<=sizeLine:=Jr (by omega);have l2:c.shuns.length<=sizeLine:=Jr (by omega);have l3:c.bars.length<=sizeLine:=Jr (by omega);have l4:c.dues.length<=sizeLine:=Jr (by omega);simp[VZ,vq,Ab,this,l1,l2,l3,l4]
   have sme:=W5 C _ 6 p5 (by
    have:=u8 c.kinds;have:=u8 c.shuns;have:=u8 c.bars;have:=u8 c.dues;simp[Y4,Zl];omega)
   have nb:DS.ZI (yZ c)=false:=rfl;have e00:Zi (.lst []) (.lst [])=some true:=by kernel_rfl
   simp[nb,e00];simp[yZ,sme]
 ·refine pre .non (.int (e:Int)) _ (by rw[q1];rfl) (sq (Z1:=Ra (.bo (.scr ns)) (.cl (.lst (ms.map D.int))) t x3 (.cl .non) (.cl (.int (e:Int))) (.cl .non) (.cl (.lst [.bl false,.bl true])) (.cl (.int (e:Int)))) ?_ ?_)
  ·unfold V5;show(match JF C [.str t]with
    | some k=>_
    | none=>_)=_
   rw[q2];rfl
  ·have sme:=W5 C (.int (e:Int)) 6 (by simp[VZ]) (by simp[Y4]);have e01:Zi (.lst [.bl false,.bl true]) (.lst [.bl false,.bl true])=some true:=by kernel_rfl
   have dl:Y4 (.lst [.bl false,.bl true])<=20:=by decide
   simp[e01,dl,sme]
end M
noncomputable section
namespace M
open PySem L2 DS CP
noncomputable def top(i:Nat):Stmt:=PySem.Challenge.pw_moonseat_k40_rule_texts_refused.main.body.getD i (.Pass ⟨0,0,0,0⟩)
noncomputable def T0(C:Addr):Tb:=⟨C,[("MOST_SIZE",.con 30),("MOST_KINDS",.con 4),("MOST_SHUNS",.con 20),("MOST_BARS",.con 12),("MOST_DUES",.con 3),("MOST_RUN",.con 4),("MOST_REST",.con 4),("MOST_FAR",.con 2),("MOST_FIGURES",.con 4),("PARTS",.kt PT),("ValueError",.blt),("all",.blt),("any",.blt),("bool",.blt),("enumerate",.blt),("int",.blt),("isinstance",.blt),("len",.blt),("list",.blt),("max",.blt),("range",.blt),("str",.blt),("tuple",.blt),("zip",.blt)],[],["size", "kind_rows", "shun_rows", "bar_rows", "due_rows"]⟩
def vQ(C:Addr):De:=⟨"_law_numbers", "_law_numbers",(top 28),["_law_script", "_law_many"],["_law_row", "_law_seed", "_law_cell", "_law_rest", "_law_k"],[false,false],(za C),[],[],[2]⟩
theorem Gk(C:Addr):Ck (T0 C) (vQ C) true:=⟨by kernel_rfl,rfl,fun _ _ _ _ _ _ us hl=>Gf us hl fun _ _=>rfl⟩
def T1(C:Addr):Tb:=(T0 C).ag "_law_numbers" ((vQ C).F 0)
def uZ(C:Addr):De:=⟨"_law_rows", "_law_rows",(top 32),["_law_book_here"],["_law_rows_here", "_law_word", "_law_triples", "_law_one", "_law_two", "_law_three"],[false],(zk C),[((170,71,89),[])],[],[1]⟩
theorem wa(C:Addr):Ck (T1 C) (uZ C) true:=⟨by kernel_rfl,rfl,fun _ _ _ _ _ _ us hl=>YN us hl fun _=>rfl⟩
def T2(C:Addr):Tb:=(T1 C).ag "_law_rows" ((uZ C).F 2)
def vR(C:Addr):De:=⟨"_law_windows", "_law_windows",(top 30),["_law_many", "_law_size", "_law_count", "_law_d"],["_law_rows_here", "_law_k", "_law_first"],[false,false,false,false],(zc C),[],[],[4]⟩
theorem Gn(C:Addr):Ck (T2 C) (vR C) true:=⟨by kernel_rfl,rfl,fun _ _ _ _ _ _ us hl=>iH us hl fun _ _ _ _=>rfl⟩
def T3(C:Addr):Tb:=(T2 C).ag "_law_windows" ((vR C).F 4)
def u_(C:Addr):De:=⟨"_law_book", "_law_book",(top 31),["_law_d", "_law_most"],["_law_many", "_law_size", "_law_kinds", "_law_k", "_law_least", "_law_rest", "_law_shuns", "_law_at", "_law_wide", "_law_bars", "_law_wanted"],[false,false],(vd C),[((162,16,82),[0])],[(167,4),(167,8)],[4,8]⟩
theorem wb(C:Addr):Ck (T3 C) (u_ C) false:=⟨by kernel_rfl,rfl,fun _ _ _ _ _ _ us hl=>Gf us hl fun _ _=>rfl⟩
def T4(C:Addr):Tb:=(T3 C).ag "_law_book" ((u_ C).E 6)
def U4(C:Addr):De:=⟨"_law_sign", "_law_sign",(top 37),["_law_number_here"],["_law_some"],[false],(Y5 C),[((221,11,43),[])],[],[]⟩
theorem wc(C:Addr):Ck (T4 C) (U4 C) false:=⟨by kernel_rfl,rfl,fun _ _ _ _ _ _ us hl=>YN us hl fun _=>rfl⟩
def T5(C:Addr):Tb:=(T4 C).ag "_law_sign" ((U4 C).E 8)
def Vu(C:Addr):De:=⟨"_law_spoilt", "_law_spoilt",(top 38),["_law_text", "_law_d"],["_law_rows_here", "_law_at", "_law_here", "_law_there", "_law_way", "_law_numbers_here", "_law_word", "_law_words", "_law_k"],[false,false],(Vo C),[((224,27,41),[]),((229,15,34),[1]),((229,64,82),[]),((229,86,125),[1]),((229,106,123),[]),((237,28,117),[1]),((239,54,133),[])],[],[2,9]⟩
theorem GS(C:Addr):Ck (T5 C) (Vu C) false:=⟨by kernel_rfl,rfl,fun _ _ _ _ _ _ us hl=>Gf us hl fun _ _=>rfl⟩
def T6(C:Addr):Tb:=(T5 C).ag "_law_spoilt" ((Vu C).E 10)
def Vv(C:Addr):De:=⟨"_law_number", "_law_number",(top 34),["_law_word"],[],[false],(zI C),[((189,101,110),[9]),((189,48,78),[]),((189,16,30),[]),((191,30,42),[]),((191,7,21),[])],[],[]⟩
theorem GU(C:Addr):Ck (T6 C) (Vv C) false:=⟨by kernel_rfl,rfl,fun _ _ _ _ _ _ us hl=>YN us hl fun _=>rfl⟩
def T7(C:Addr):Tb:=(T6 C).ag "_law_number" ((Vv C).E 12)
def ZX(C:Addr):De:=⟨"_law_row_read", "_law_row_read",(top 35),["_law_row"],["_law_words", "_law_names", "_law_numbers_here"],[false],(ZT C),[((200,41,69),[]),((202,12,43),[])],[],[]⟩
theorem gr(C:Addr):Ck (T7 C) (ZX C) false:=⟨by kernel_rfl,rfl,fun _ _ _ _ _ _ us hl=>YN us hl fun _=>rfl⟩
def T8(C:Addr):Tb:=(T7 C).ag "_law_row_read" ((ZX C).E 14)
def U5(C:Addr):De:=⟨"_law_good", "_law_good",(top 33),["_law_size", "_law_kinds", "_law_shuns", "_law_bars", "_law_dues"],["_law_many", "_law_least", "_law_most", "_law_rest", "_law_one", "_law_other", "_law_far", "_law_kind", "_law_first", "_law_last"],[false,false,false,false,false],(uU C),[((184,44,65),[])],[],[]⟩
theorem we(C:Addr):Ck (T8 C) (U5 C) false:=⟨by kernel_rfl,rfl,fun _ _ _ _ _ _ us hl=>Xp us hl fun _ _ _ _ _=>rfl⟩
def T9(C:Addr):Tb:=(T8 C).ag "_law_good" ((U5 C).E 16)
def U8(C:Addr):De:=⟨"_law_read", "_law_read",(top 36),["_law_rows_here"],["_law_groups", "_law_last", "_law_at", "_law_row", "_law_found", "_law_kinds"],[false],(uV C),[((204,0,9),[]),((211,0,9),[]),((212,0,12),[]),((215,0,9),[]),((217,0,10),[])],[],[]⟩
theorem wf(C:Addr):Ck (T9 C) (U8 C) false:=⟨by kernel_rfl,rfl,fun _ _ _ _ _ _ us hl=>YN us hl fun _=>rfl⟩
def eQ(C:Addr):Tb:=(T9 C).ag "_law_read" ((U8 C).E 18)
def U9(C:Addr):De:=⟨"is_number", "is_number",(top 22),["text"],[],[false],(Y6 C),[((76,85,89),[9]),((76,54,72),[]),((76,16,25),[]),((78,26,33),[])],[],[]⟩
theorem wg(C:Addr):Ck (eQ C) (U9 C) false:=⟨by kernel_rfl,rfl,fun _ _ _ _ _ _ us hl=>YN us hl fun _=>rfl⟩
def eR(C:Addr):Tb:=(eQ C).ag "is_number" ((U9 C).E 20)
def Ua(C:Addr):De:=⟨"read_size", "read_size",(top 23),["row"],["word", "blank", "number"],[false],(vg C),[],[],[]⟩
theorem wj(C:Addr):Ck (eR C) (Ua C) false:=⟨by kernel_rfl,rfl,fun _ _ _ _ _ _ us hl=>YN us hl fun _=>rfl⟩
def eS(C:Addr):Tb:=(eR C).ag "read_size" ((Ua C).E 22)
def Ub(C:Addr):De:=⟨"read_part", "read_part",(top 24),["row"],["word", "numbers"],[false],(vi C),[],[],[]⟩
theorem wk(C:Addr):Ck (eS C) (Ub C) false:=⟨by kernel_rfl,rfl,fun _ _ _ _ _ _ us hl=>YN us hl fun _=>rfl⟩
def eT(C:Addr):Tb:=(eS C).ag "read_part" ((Ub C).E 24)
def Vw(C:Addr):De:=⟨"fits_counts", "fits_counts",(top 16),["size", "kinds", "shuns", "bars", "dues"],[],[false,false,false,false,false],(zM C),[],[],[]⟩
theorem GV(C:Addr):Ck (eT C) (Vw C) false:=⟨by kernel_rfl,rfl,fun _ _ _ _ _ _ us hl=>Xp us hl fun _ _ _ _ _=>rfl⟩
def eU(C:Addr):Tb:=(eT C).ag "fits_counts" ((Vw C).E 26)
def Uc(C:Addr):De:=⟨"fits_kind", "fits_kind",(top 13),["row"],["least", "most", "rest"],[true],(vj C),[],[],[]⟩
theorem wm(C:Addr):Ck (eU C) (Uc C) false:=⟨by kernel_rfl,rfl,fun _ _ _ _ _ _ us hl=>YN us hl fun _=>rfl⟩
def eV(C:Addr):Tb:=(eU C).ag "fits_kind" ((Uc C).E 28)
def Ud(C:Addr):De:=⟨"fits_shun", "fits_shun",(top 14),["row", "many"],["one", "other", "far"],[true,false],(vk C),[],[],[]⟩
theorem wn(C:Addr):Ck (eV C) (Ud C) false:=⟨by kernel_rfl,rfl,fun _ _ _ _ _ _ us hl=>Gf us hl fun _ _=>rfl⟩
def eW(C:Addr):Tb:=(eV C).ag "fits_shun" ((Ud C).E 30)
def Ue(C:Addr):De:=⟨"fits_span", "fits_span",(top 15),["row", "many", "size"],["kind", "first", "last"],[true,false,false],(vm C),[],[],[]⟩
theorem wo(C:Addr):Ck (eW C) (Ue C) false:=⟨by kernel_rfl,rfl,fun _ _ _ _ _ _ us hl=>eA us hl fun _ _ _=>rfl⟩
def eX(C:Addr):Tb:=(eW C).ag "fits_span" ((Ue C).E 32)
def Uf(C:Addr):De:=⟨"fits_rows", "fits_rows",(top 17),["size", "kinds", "shuns", "bars", "dues"],["many"],[false,false,false,false,false],(vn C),[((42,15,54),[5]),((44,54,65),[]),((44,15,66),[5,0])],[],[]⟩
theorem wq(C:Addr):Ck (eX C) (Uf C) false:=⟨by kernel_rfl,rfl,fun _ _ _ _ _ _ us hl=>Xp us hl fun _ _ _ _ _=>rfl⟩
def Ae(C:Addr):Tb:=(eX C).ag "fits_rows" ((Uf C).E 34)
def jN(C:Addr):De:=⟨"__init__", "Rules.__init__",(inClass (top 18) 0),["self", "size", "kinds", "shuns", "bars", "dues"],[],[true,false,false,false,false],(ye C),[],[],[0]⟩
theorem UE(C:Addr):ge (Ae C) (jN C) false=some (ye C):=by kernel_rfl
theorem ZA(C:Addr):Bd "__init__" "Rules.__init__" (inClass (top 18) 0) ["self", "size", "kinds", "shuns", "bars", "dues"]:=fun _ _ _ _ _ _ us hl=>iI us hl fun _ _ _ _ _ _=>rfl
def eY(C:Addr):Tb:=(Ae C).ag "Rules" (.mk 37 (jN C).ps (jN C).ks (JP C) (JB C))
theorem uF(C:Addr):qk (Ae C) "BadRules" true (jN C)=some (yg C):=by kernel_rfl
def iz(C:Addr):Yi:=⟨36+1,(jN C).ps,(jN C).ks,K8 (jN C).ks (jN C).lo.length (yg C)⟩
def Vf(C:Addr):De:=⟨"with_row", "with_row",(top 25),["size", "lists", "row"],["part", "at", "triple"],[true,false,false],jL,[((94,0,9),[]),((96,0,9),[]),((98,0,9),[])],[],[]⟩
theorem qy(C:Addr):A0 (eY C) (iz C) "Rules" "BadRules" (Vf C)=some (YR C):=by kernel_rfl
theorem qz(C:Addr):Bd "with_row" "with_row" (top 25) ["size", "lists", "row"]:=fun _ _ _ _ _ _ us hl=>eA us hl fun _ _ _=>rfl
def Af(C:Addr):Tb:=(eY C).ag "with_row" (.fM 39 (Vf C).ps (yR C))
def JC(C:Addr):De:=⟨"read_rules", "read_rules",(top 26),["text"],["rows", "size", "lists", "rules", "at", "row"],[false],(Zv C),[((106,0,9),[]),((109,0,9),[])],[],[]⟩
theorem ub(C:Addr):Ck (Af C) (JC C) false:=⟨by kernel_rfl,rfl,fun _ _ _ _ _ _ us hl=>YN us hl fun _=>rfl⟩
def eZ(C:Addr):Tb:=(Af C).ag "read_rules" ((JC C).E 40)
theorem GW(C:Addr):qk (Af C) "BadRow" false (JC C)=some (yJ C):=by kernel_rfl
def yi(C:Addr):Yi:=⟨40+1,(JC C).ps,(JC C).ks,aP (JC C).ks (JC C).lo.length (yJ C)⟩
def wu(C:Addr):De:=⟨"_law_same", "_law_same",(top 29),["_law_found", "_law_due"],[],[false,false],jL,[],[],[]⟩
theorem wv(C:Addr)(m:Nat):ge ((eZ C).ag "_law_same" (.fE (42+m) ["_law_found", "_law_due"] [false,false] (jX C m))) (wu C) false=some (zp C (jX C m)):=by kernel_rfl
theorem wx(C:Addr):Bd "_law_same" "_law_same" (top 29) ["_law_found", "_law_due"]:=fun _ _ _ _ _ _ us hl=>Gf us hl fun _ _=>rfl
def e_(C:Addr):Tb:=(eZ C).ag "_law_same" (.fE (42+6) ["_law_found", "_law_due"] [false,false] (jX C 6))
def zR(C:Addr):De:=⟨"kinds", "Rules.kinds",(inClass (top 18) 1),["self"],[],[false],(zN C),[],[],[]⟩
theorem GX(C:Addr):Ck (e_ C) (zR C) true:=⟨by kernel_rfl,rfl,fun _ _ _ _ _ _ us hl=>YN us hl fun _=>rfl⟩
def E1(C:Addr):Tb:=(e_ C).am "kinds" ((zR C).F 48)
def zS(C:Addr):De:=⟨"shuns", "Rules.shuns",(inClass (top 18) 2),["self"],[],[false],(zP C),[],[],[]⟩
theorem GY(C:Addr):Ck (E1 C) (zS C) true:=⟨by kernel_rfl,rfl,fun _ _ _ _ _ _ us hl=>YN us hl fun _=>rfl⟩
def E2(C:Addr):Tb:=(E1 C).am "shuns" ((zS C).F 50)
def ZB(C:Addr):De:=⟨"bars", "Rules.bars",(inClass (top 18) 3),["self"],[],[false],(Zw C),[],[],[]⟩
theorem KT(C:Addr):Ck (E2 C) (ZB C) true:=⟨by kernel_rfl,rfl,fun _ _ _ _ _ _ us hl=>YN us hl fun _=>rfl⟩
def E3(C:Addr):Tb:=(E2 C).am "bars" ((ZB C).F 52)
def ZC(C:Addr):De:=⟨"dues", "Rules.dues",(inClass (top 18) 4),["self"],[],[false],(Zy C),[],[],[]⟩
theorem KU(C:Addr):Ck (E3 C) (ZC C) true:=⟨by kernel_rfl,rfl,fun _ _ _ _ _ _ us hl=>YN us hl fun _=>rfl⟩
def He(C:Addr):Tb:=(E3 C).am "dues" ((ZC C).F 54)
def Ag(C:Addr):De:=⟨"law", "law",(top 39),["_law_script"],["_law_numbers_here", "_law_text", "_law_k", "_law_due", "_law_at", "_law_found", "_law_marks", "_law_row", "e"],[false],(qp C),[],[],[]⟩
theorem Fo(C:Addr):A4 (He C) (yi C) "read_rules" "BadRow" "BadRules" "at" (Ag C)=some (qp C):=by kernel_rfl
end M
set_option maxHeartbeats 0
noncomputable def PySem.W.Fast.tw14405828768384484872:PySem.Program:=PySem.Challenge.pw_moonseat_k40_rule_texts_refused
theorem PySem.W.Fast.te14405828768384484872:PySem.Challenge.pw_moonseat_k40_rule_texts_refused=PySem.W.Fast.tw14405828768384484872:=rfl
namespace Hd
noncomputable section
open PySem PySem.W PyProof.Rows L2 M
noncomputable abbrev pw:=PySem.Challenge.pw_moonseat_k40_rule_texts_refused
theorem prm:((fun(_:Params->Obj)=>true) boot_o_0)=true:=by first | k_qdec | rfl
noncomputable def de(P:Params)(x:Str)(t:Nat)(v:Value):DictEntry:=⟨PyData.keyHash P x,.str x t,v⟩
noncomputable def f3(a b:Int)(r:Nat)(l:List Value):List Value:=.int a 0::.int b 0::.ref r::l
noncomputable def fC(n q:Str)(a b c:Nat)(l x1 x2 x3 x4:Int)(r1:Nat)(z:Bool)(k:Int)(r2:Nat)(m:Int)(e:Nat):Data:=.fields #[.str n a,.str q b,.str "/claim/cut.py" c,.int l 0,.int x1 0,.int x2 0,.int x3 0,.int x4 0,.ref r1,.bool z,.int k 0,.ref r2,.none,.none,.none,.none,.int m 0,.int l 0,.str "/claim/cut.py" e]
noncomputable def oU(l:List Value):Obj:=⟨.type "tuple",none,.seq (List.toArray l) 0,#[]⟩
def oF(n q:Str)(s:Stmt)(m:Str)(t cd:Nat):Obj:=⟨.type "function",none,.func (fnOf n q (defArgs s) (defBody s) (defScope s) .none .none .none (.str m t) none (.ref cd) .none),#[]⟩
def oT(n q:Str)(s:Stmt):Obj:=⟨.none,none,.func { name:=n,qualname:=q,params:=defArgs s,body:=.stmts (defBody s),scope:=defScope s,globals:=0,closure:=[],defaults:=.none,kwdefaults:=.none,doc:=.none,pyModule:=.none,annotations:=none,code:=.none,closureTuple:=.none,builtins:=0 },#[]⟩
noncomputable def oS(t:Nat):List Str->List Value
 | []=>[]
 | x::l=>.str x t::oS (t+1) l
def oV(t:Nat)(l:List Str):Obj:=oU (oS t l)
noncomputable def oC(n q:Str)(a:Nat)(l x1:Int)(r:Nat)(l':List Value)(m:Nat):Obj:=⟨.type "code",none,.fields (List.toArray (.str n a::.str q (a+1)::.str "/claim/cut.py" (a+2)::.int l 0::.int x1 0::.int 0 0::.int 0 0::.int 3 0::.ref r::.bool true::.int 181 0::.ref (r+1)::.none::List.append l' [.int m 0,.int l 0,.str "/claim/cut.py" (m+1)])),#[]⟩
def oc(n:Str)(a:Nat)(l x1:Int)(r m:Nat):Obj:=oC n n a l x1 r [.ref (r+2),.ref (r+3),.ref (r+4)] m
def od(n:Str)(a:Nat)(l x1:Int)(r m:Nat):Obj:=oC n n a l x1 r [.none,.none,.ref (r+2)] m
noncomputable def oG(n:Str)(s:Stmt)(c:Nat):Obj:=oF n n s "law_moonseat_k40_rule_texts_refused" 444 c
noncomputable def oH(n:Str)(s:Stmt):Obj:=oT n n s
noncomputable def nz:Nat->List Obj->List (Nat×Obj)
 | _,[]=>[]
 | n,o::l=>(n,o)::nz (n+1) l
noncomputable def ins2:BT->Nat->Obj->BT
 | .nil,_,o=>.node o .nil .nil
 | .node v l r,i,o=>match Nat.beq i 0 with
  | true=>.node o l r
  | false=>match Nat.beq (i % 2) 1 with
   | true=>.node v (ins2 l (i / 2) o) r
   | false=>.node v l (ins2 r (i / 2 - 1) o)
def putAll(t:BT)(l:List (Nat×Obj)):BT:=l.foldl (fun t q=>ins2 t q.1 q.2) t
noncomputable def env:Env:={ scope:=pw.main.scope,locals:=mainNs,globals:=mainNs,cells:=[],code:=.ref 13,frame:=some 14 }
noncomputable def bd:List Stmt:=behindTheImports pw
def cE:Code:=.body bd env
def o0:Obj:=oU []
noncomputable def o1:Obj:=⟨.none,none,(.fields #[]),#[]⟩
def o2:Obj:=⟨.type "code",none,(fC "<module>" "<module>" 182 183 184 1 0 0 0 0 11 false 181 12 185 186),#[]⟩
noncomputable def o3:Obj:=⟨.type "frame",none,.plain,#[some (.ref 13),some (.ref 3),some (.ref 3),none,some (.str "__main__" 164),none,some (.ref 0)]⟩
noncomputable def c4(P:Params):List Obj:=[boot_o_0 P,boot_o_1 P,boot_o_2 P,boot_o_3 P,boot_o_4 P,boot_o_5 P,boot_o_6 P,boot_o_7 P]
def c5(P:Params):List Obj:=[boot_o_8 P,boot_o_9 P,boot_o_10 P,o0,o1,o2,o3]
noncomputable def c6(P:Params):List (Nat×Obj):=nz 0 [boot_o_0 P,boot_o_1 P,boot_o_2 P,boot_o_3 P,boot_o_4 P,boot_o_5 P,boot_o_6 P,boot_o_7 P]
def c7(P:Params):List (Nat×Obj):=nz 8 [boot_o_8 P,boot_o_9 P,boot_o_10 P,o0,o1,o2,o3]
def c8(P:Params):List DictEntry:=[de P "__name__" 165 (.str "moonseat.rules" 248),de P "__doc__" 166 .none,de P "__package__" 167 .none,de P "__loader__" 168 (.builtin "__main__.__loader__#opaque"),de P "__spec__" 169 .none,de P "__annotations__" 170 (.ref 6),de P "__builtins__" 171 (.ref 4),de P "__file__" 173 (.str "/claim/cut.py" 172)]
def c9(P:Params):List DictEntry:=[de P "__cached__" 174 .none,de P "VerseError" 206 (.ref 24),de P "BadRules" 222 (.ref 37),de P "BadRow" 247 (.ref 56),de P "MOST_SIZE" 251 (.int 30 250),de P "MOST_KINDS" 253 (.int 4 252),de P "MOST_SHUNS" 255 (.int 20 254),de P "MOST_BARS" 257 (.int 12 256)]
def c10(P:Params):List DictEntry:=[de P "MOST_DUES" 259 (.int 3 258),de P "MOST_RUN" 261 (.int 4 260),de P "MOST_REST" 263 (.int 4 262),de P "MOST_FAR" 265 (.int 2 264),de P "fits_kind" 275 (.ref 65),de P "fits_shun" 286 (.ref 72),de P "fits_span" 298 (.ref 79),de P "fits_counts" 309 (.ref 86)]
def c11(P:Params):List DictEntry:=[de P "fits_rows" 315 (.ref 91)]
def o12(P:Params):Obj:=⟨.type "dict",none,(.dict (List.toArray (List.append (c8 P) (List.append (c9 P) (List.append (c10 P) (c11 P))))) 25),#[]⟩
noncomputable def c13:List Value:=f3 2 0 20 (f3 4 0 33 (f3 6 0 45 (f3 19 0 64 (f3 24 0 71 (f3 29 0 78 (f3 34 0 85 (f3 38 0 90 ([]))))))))
def o14:Obj:=⟨.none,none,(.fields (List.toArray (c13))),#[]⟩
def o15:Obj:=oU [.type "ValueError"]
noncomputable def o16:Obj:=⟨.type "builtin_function_or_method",none,(.fields #[.builtin "type.__prepare__",.type "type"]),#[]⟩
def o17(P:Params):Obj:=⟨.type "dict",none,(.dict (List.toArray [de P "__module__" 196 (.str "moonseat.errors" 187),de P "__qualname__" 198 (.str "VerseError" 197),de P "__firstlineno__" 200 (.int 2 199),de P "__static_attributes__" 201 (.ref 22)]) 4),#[]⟩
def o18:Obj:=⟨.type "code",none,(fC "VerseError" "VerseError" 191 192 193 2 0 0 0 0 18 false 181 19 194 195),#[]⟩
noncomputable def o19:Obj:=⟨.type "frame",none,.plain,#[some (.ref 20),some (.ref 3),some (.ref 17),none,some (.str "moonseat.errors" 187),none,some (.ref 0)]⟩
def o20(P:Params):Obj:=⟨.type "dict",none,(.dict (List.toArray [de P "__module__" 196 (.str "moonseat.errors" 187),de P "__firstlineno__" 200 (.int 2 199),de P "__static_attributes__" 201 (.ref 22),de P "__weakref__" 203 (.ref 25),de P "__doc__" 204 .none]) 3),#[]⟩
noncomputable def o21:Obj:=⟨.type "type",none,(.cls { name := "VerseError",bases:=[.type "ValueError"],mro:=[.ref 24,.type "ValueError",.type "Exception",.type "BaseException",.type "object"],ns:=23,qualname := "VerseError",hasDict:=true,slotNames:=[],subclasses:=[.ref 37,.ref 56],abstract:=false,collection:=none,hasDel:=false }),#[some (.ref 15),none,some (.str "VerseError" 189),some (.str "VerseError" 197),some (.builtin "ValueError.__new__"),some (.bool true)]⟩
noncomputable def o22:Obj:=⟨.type "getset_descriptor",none,(.fields #[.str "__weakref__" 202,.ref 24,.builtin "ExceptionGroup.__weakref__",.none]),#[]⟩
noncomputable def o23:Obj:=⟨.type "super",none,(.fields #[.ref 24,.ref 24,.ref 24]),#[]⟩
noncomputable def o24:Obj:=⟨.type "builtin_function_or_method",none,(.fields #[.builtin "object.__init_subclass__",.ref 24]),#[]⟩
def o25:Obj:=oU [.ref 24]
def o26(P:Params):Obj:=⟨.type "dict",none,(.dict (List.toArray [de P "__module__" 214 (.str "moonseat.errors" 187),de P "__qualname__" 216 (.str "BadRules" 215),de P "__firstlineno__" 218 (.int 4 217),de P "__static_attributes__" 219 (.ref 35)]) 4),#[]⟩
def o27:Obj:=⟨.type "code",none,(fC "BadRules" "BadRules" 209 210 211 4 0 0 0 0 31 false 181 32 212 213),#[]⟩
noncomputable def o28:Obj:=⟨.type "frame",none,.plain,#[some (.ref 33),some (.ref 3),some (.ref 30),none,some (.str "moonseat.errors" 187),none,some (.ref 0)]⟩
def o29(P:Params):Obj:=⟨.type "dict",none,(.dict (List.toArray [de P "__module__" 214 (.str "moonseat.errors" 187),de P "__firstlineno__" 218 (.int 4 217),de P "__static_attributes__" 219 (.ref 35),de P "__doc__" 220 .none]) 2),#[]⟩
noncomputable def o30:Obj:=⟨.type "type",none,(.cls { name := "BadRules",bases:=[.ref 24],mro:=[.ref 37,.ref 24,.type "ValueError",.type "Exception",.type "BaseException",.type "object"],ns:=36,qualname := "BadRules",hasDict:=true,slotNames:=[],subclasses:=[],abstract:=false,collection:=none,hasDel:=false }),#[some (.ref 28),none,some (.str "BadRules" 207),some (.str "BadRules" 215),some (.builtin "ValueError.__new__"),some (.bool true)]⟩
noncomputable def o31:Obj:=⟨.type "super",none,(.fields #[.ref 37,.ref 37,.ref 37]),#[]⟩
noncomputable def o32:Obj:=⟨.type "builtin_function_or_method",none,(.fields #[.builtin "object.__init_subclass__",.ref 37]),#[]⟩
def o33(P:Params):Obj:=⟨.type "dict",none,(.dict (List.toArray [de P "__module__" 230 (.str "moonseat.errors" 187),de P "__qualname__" 232 (.str "BadRow" 231),de P "__firstlineno__" 234 (.int 6 233),de P "__init__" 242 (.ref 53),de P "__static_attributes__" 244 (.ref 54)]) 5),#[]⟩
noncomputable def o34:Obj:=⟨.none,none,(.fields #[.int 8 0,.int 4 0,.ref 52]),#[]⟩
def o35:Obj:=⟨.type "code",none,(fC "BadRow" "BadRow" 225 226 227 6 0 0 0 0 43 false 181 44 228 229),#[]⟩
noncomputable def o36:Obj:=⟨.type "frame",none,.plain,#[some (.ref 45),some (.ref 3),some (.ref 42),none,some (.str "moonseat.errors" 187),none,some (.ref 0)]⟩
def o37:Obj:=oV 238 ["self", "at"]
def o38:Obj:=oT "__init__" "BadRow.__init__" (inClass (top 3) 0)
def o39:Obj:=oC "__init__" "BadRow.__init__" 235 8 2 47 [.ref 49,.ref 50,.ref 51] 240
def o40:Obj:=oF "__init__" "BadRow.__init__" (inClass (top 3) 0) "moonseat.errors" 187 52
def o41:Obj:=oV 243 ["at"]
def o42(P:Params):Obj:=⟨.type "dict",none,(.dict (List.toArray [de P "__module__" 230 (.str "moonseat.errors" 187),de P "__firstlineno__" 234 (.int 6 233),de P "__init__" 242 (.ref 53),de P "__static_attributes__" 244 (.ref 54),de P "__doc__" 245 .none]) 2),#[]⟩
noncomputable def o43:Obj:=⟨.type "type",none,(.cls { name := "BadRow",bases:=[.ref 24],mro:=[.ref 56,.ref 24,.type "ValueError",.type "Exception",.type "BaseException",.type "object"],ns:=55,qualname := "BadRow",hasDict:=true,slotNames:=[],subclasses:=[],abstract:=false,collection:=none,hasDel:=false }),#[some (.ref 40),none,some (.str "BadRow" 223),some (.str "BadRow" 231),some (.builtin "ValueError.__new__"),some (.bool true)]⟩
noncomputable def o44:Obj:=⟨.type "super",none,(.fields #[.ref 56,.ref 56,.ref 56]),#[]⟩
noncomputable def o45:Obj:=⟨.type "builtin_function_or_method",none,(.fields #[.builtin "object.__init_subclass__",.ref 56]),#[]⟩
def o46:Obj:=oV 269 ["row", "least", "most", "rest"]
def o47:Obj:=oH "fits_kind" (top 13)
def o48:Obj:=oc "fits_kind" 266 19 1 59 273
def o49:Obj:=oF "fits_kind" "fits_kind" (top 13) "moonseat.rules" 248 64
def o50:Obj:=oV 279 ["row", "many", "one", "other", "far"]
def o51:Obj:=oH "fits_shun" (top 14)
def o52:Obj:=oc "fits_shun" 276 24 2 66 284
def o53:Obj:=oF "fits_shun" "fits_shun" (top 14) "moonseat.rules" 248 71
def o54:Obj:=oV 290 ["row", "many", "size", "kind", "first", "last"]
def o55:Obj:=oH "fits_span" (top 15)
def o56:Obj:=oc "fits_span" 287 29 3 73 296
def o57:Obj:=oF "fits_span" "fits_span" (top 15) "moonseat.rules" 248 78
def o58:Obj:=oV 302 ["size", "kinds", "shuns", "bars", "dues"]
def o59:Obj:=oH "fits_counts" (top 16)
def o60:Obj:=oc "fits_counts" 299 34 5 80 307
def o61:Obj:=oF "fits_counts" "fits_counts" (top 16) "moonseat.rules" 248 85
def o62:Obj:=oH "fits_rows" (top 17)
def o63:Obj:=od "fits_rows" 310 38 5 87 313
def o64:Obj:=oF "fits_rows" "fits_rows" (top 17) "moonseat.rules" 248 90
def c65(P:Params):List (Nat×Obj):=List.append [(3,o12 P),(12,o14)] (nz 15 [o15,o16,o17 P,o0,o1,o18])
def c66(P:Params):List (Nat×Obj):=nz 21 [o19,o0,o20 P,o21,o22,o23,o24,o25]
def c67(P:Params):List (Nat×Obj):=nz 29 [o16,o26 P,o0,o1,o27,o28,o0,o29 P]
def c68(P:Params):List (Nat×Obj):=nz 37 [o30,o31,o32,o25,o16,o33 P,o0,o34]
def c69:List (Nat×Obj):=nz 45 [o35,o36,o0,o1,o37,o0,o38,o39]
def c70(P:Params):List (Nat×Obj):=nz 53 [o40,o41,o42 P,o43,o44,o45,o0,o1]
def c71:List (Nat×Obj):=nz 61 [o46,o0,o47,o48,o49,o0,o1,o50]
def c72:List (Nat×Obj):=nz 69 [o0,o51,o52,o53,o0,o1,o54,o0]
def c73:List (Nat×Obj):=nz 77 [o55,o56,o57,o0,o1,o58,o0,o59]
def c74:List (Nat×Obj):=nz 85 [o60,o61,o0,o1,o62,o63,o64]
def c75(P:Params):List DictEntry:=[de P "__name__" 165 (.str "law_moonseat_k40_rule_texts_refused" 444),de P "__doc__" 166 .none,de P "__package__" 167 .none,de P "__loader__" 168 (.builtin "__main__.__loader__#opaque"),de P "__spec__" 169 .none,de P "__annotations__" 170 (.ref 6),de P "__builtins__" 171 (.ref 4),de P "__file__" 173 (.str "/claim/cut.py" 172)]
def c76(P:Params):List DictEntry:=[de P "fits_rows" 315 (.ref 91),de P "Rules" 387 (.ref 143),de P "MOST_FIGURES" 391 (.int 4 390),de P "PARTS" 396 (.ref 148),de P "is_number" 402 (.ref 153),de P "read_size" 412 (.ref 160),de P "read_part" 418 (.ref 165),de P "with_row" 430 (.ref 172)]
def c77(P:Params):List DictEntry:=[de P "read_rules" 443 (.ref 179),de P "_law_numbers" 458 (.ref 186),de P "_law_same" 464 (.ref 191),de P "_law_windows" 477 (.ref 198),de P "_law_book" 483 (.ref 203),de P "_law_rows" 496 (.ref 210),de P "_law_good" 517 (.ref 217),de P "_law_number" 523 (.ref 222)]
def c78(P:Params):List DictEntry:=[de P "_law_row_read" 529 (.ref 227),de P "_law_read" 542 (.ref 234),de P "_law_sign" 550 (.ref 241),de P "_law_spoilt" 556 (.ref 246),de P "law" 572 (.ref 253)]
def o79(P:Params):Obj:=⟨.type "dict",none,(.dict (List.toArray (List.append (c75 P) (List.append (c9 P) (List.append (c10 P) (List.append (c76 P) (List.append (c77 P) (c78 P))))))) 45),#[]⟩
noncomputable def c80:List Value:=f3 45 0 97 (f3 75 0 152 (f3 79 0 159 (f3 84 0 164 (f3 89 0 171 (f3 101 0 178 (f3 116 0 185 (f3 132 0 190 ([]))))))))
noncomputable def c81:List Value:=f3 142 0 197 (f3 148 0 202 (f3 168 0 209 (f3 174 0 216 (f3 188 0 221 (f3 194 0 226 (f3 203 0 233 (f3 218 0 240 ([]))))))))
noncomputable def c82:List Value:=f3 222 0 245 (f3 248 0 252 ([]))
def o83:Obj:=⟨.none,none,(.fields (List.toArray (List.append (c13) (List.append (c80) (List.append (c81) (c82)))))),#[]⟩
def c84(P:Params):List DictEntry:=[de P "__module__" 323 (.str "moonseat.rules" 248),de P "__qualname__" 325 (.str "Rules" 324),de P "__firstlineno__" 327 (.int 45 326),de P "__init__" 339 (.ref 105),de P "kinds" 346 (.ref 112),de P "shuns" 353 (.ref 119),de P "bars" 360 (.ref 126),de P "dues" 367 (.ref 133)]
def c85(P:Params):List DictEntry:=[de P "many" 374 (.ref 140),de P "__static_attributes__" 380 (.ref 141)]
def o86(P:Params):Obj:=⟨.type "dict",none,(.dict (List.toArray (List.append (c84 P) (c85 P))) 10),#[]⟩
noncomputable def c87:List Value:=f3 47 4 104 (f3 58 4 111 (f3 61 4 118 (f3 64 4 125 (f3 67 4 132 (f3 70 4 139 ([]))))))
def o88:Obj:=⟨.none,none,(.fields (List.toArray (c87))),#[]⟩
def o89:Obj:=⟨.type "code",none,(fC "Rules" "Rules" 318 319 320 45 0 0 0 0 95 false 181 96 321 322),#[]⟩
noncomputable def o90:Obj:=⟨.type "frame",none,.plain,#[some (.ref 97),some (.ref 3),some (.ref 94),none,some (.str "moonseat.rules" 248),none,some (.ref 0)]⟩
def o91:Obj:=oV 331 ["self", "size", "kinds", "shuns", "bars", "dues"]
def o92:Obj:=oT "__init__" "Rules.__init__" (inClass (top 18) 0)
def o93:Obj:=oC "__init__" "Rules.__init__" 328 47 6 99 [.ref 101,.ref 102,.ref 103] 337
def o94:Obj:=oF "__init__" "Rules.__init__" (inClass (top 18) 0) "moonseat.rules" 248 104
def o95:Obj:=oV 343 ["self"]
def o96:Obj:=oT "kinds" "Rules.kinds" (inClass (top 18) 1)
def o97:Obj:=oC "kinds" "Rules.kinds" 340 58 1 106 [.ref 108,.ref 109,.ref 110] 344
def o98:Obj:=oF "kinds" "Rules.kinds" (inClass (top 18) 1) "moonseat.rules" 248 111
def o99:Obj:=oV 350 ["self"]
def o100:Obj:=oT "shuns" "Rules.shuns" (inClass (top 18) 2)
def o101:Obj:=oC "shuns" "Rules.shuns" 347 61 1 113 [.ref 115,.ref 116,.ref 117] 351
def o102:Obj:=oF "shuns" "Rules.shuns" (inClass (top 18) 2) "moonseat.rules" 248 118
def o103:Obj:=oV 357 ["self"]
def o104:Obj:=oT "bars" "Rules.bars" (inClass (top 18) 3)
def o105:Obj:=oC "bars" "Rules.bars" 354 64 1 120 [.ref 122,.ref 123,.ref 124] 358
def o106:Obj:=oF "bars" "Rules.bars" (inClass (top 18) 3) "moonseat.rules" 248 125
def o107:Obj:=oV 364 ["self"]
def o108:Obj:=oT "dues" "Rules.dues" (inClass (top 18) 4)
def o109:Obj:=oC "dues" "Rules.dues" 361 67 1 127 [.ref 129,.ref 130,.ref 131] 365
def o110:Obj:=oF "dues" "Rules.dues" (inClass (top 18) 4) "moonseat.rules" 248 132
def o111:Obj:=oV 371 ["self"]
def o112:Obj:=oT "many" "Rules.many" (inClass (top 18) 5)
def o113:Obj:=oC "many" "Rules.many" 368 70 1 134 [.ref 136,.ref 137,.ref 138] 372
def o114:Obj:=oF "many" "Rules.many" (inClass (top 18) 5) "moonseat.rules" 248 139
def o115:Obj:=oV 375 ["bar_rows", "due_rows", "kind_rows", "shun_rows", "size"]
def c116(P:Params):List DictEntry:=[de P "__module__" 323 (.str "moonseat.rules" 248),de P "__firstlineno__" 327 (.int 45 326),de P "__init__" 339 (.ref 105),de P "kinds" 346 (.ref 112),de P "shuns" 353 (.ref 119),de P "bars" 360 (.ref 126),de P "dues" 367 (.ref 133),de P "many" 374 (.ref 140)]
def c117(P:Params):List DictEntry:=[de P "__static_attributes__" 380 (.ref 141),de P "__dict__" 382 (.ref 144),de P "__weakref__" 384 (.ref 145),de P "__doc__" 385 .none]
def o118(P:Params):Obj:=⟨.type "dict",none,(.dict (List.toArray (List.append (c116 P) (c117 P))) 4),#[]⟩
noncomputable def o119:Obj:=⟨.type "type",none,(.cls { name := "Rules",bases:=[.type "object"],mro:=[.ref 143,.type "object"],ns:=142,qualname := "Rules",hasDict:=true,slotNames:=[],subclasses:=[],abstract:=false,collection:=none,hasDel:=false }),#[none,none,some (.str "Rules" 316),some (.str "Rules" 324),some (.builtin "object.__new__"),some (.bool true)]⟩
noncomputable def o120:Obj:=⟨.type "getset_descriptor",none,(.fields #[.str "__dict__" 381,.ref 143,.builtin "function.__dict__",.builtin "function.__dict__#set"]),#[]⟩
noncomputable def o121:Obj:=⟨.type "getset_descriptor",none,(.fields #[.str "__weakref__" 383,.ref 143,.builtin "ExceptionGroup.__weakref__",.none]),#[]⟩
noncomputable def o122:Obj:=⟨.type "super",none,(.fields #[.ref 143,.ref 143,.ref 143]),#[]⟩
noncomputable def o123:Obj:=⟨.type "builtin_function_or_method",none,(.fields #[.builtin "object.__init_subclass__",.ref 143]),#[]⟩
def o124:Obj:=oV 392 ["kind", "shun", "bar", "due"]
def o125:Obj:=oH "is_number" (top 22)
def o126:Obj:=od "is_number" 397 75 1 149 400
def o127:Obj:=oF "is_number" "is_number" (top 22) "moonseat.notes" 388 152
def o128:Obj:=oV 406 ["row", "word", "blank", "number"]
def o129:Obj:=oH "read_size" (top 23)
def o130:Obj:=oc "read_size" 403 79 1 154 410
def o131:Obj:=oF "read_size" "read_size" (top 23) "moonseat.notes" 388 159
def o132:Obj:=oH "read_part" (top 24)
def o133:Obj:=od "read_part" 413 84 1 161 416
def o134:Obj:=oF "read_part" "read_part" (top 24) "moonseat.notes" 388 164
def o135:Obj:=oV 422 ["size", "lists", "row", "part", "at", "triple"]
def o136:Obj:=oH "with_row" (top 25)
def o137:Obj:=oc "with_row" 419 89 3 166 428
def o138:Obj:=oF "with_row" "with_row" (top 25) "moonseat.notes" 388 171
def o139:Obj:=oV 434 ["text", "rows", "size", "lists", "rules", "at", "row"]
def o140:Obj:=oH "read_rules" (top 26)
def o141:Obj:=oc "read_rules" 431 101 1 173 441
def o142:Obj:=oF "read_rules" "read_rules" (top 26) "moonseat.notes" 388 178
def o143:Obj:=oV 449 ["_law_script", "_law_many", "_law_row", "_law_seed", "_law_cell", "_law_rest", "_law_k"]
def o144:Obj:=oH "_law_numbers" (top 28)
def o145:Obj:=oc "_law_numbers" 446 116 2 180 456
def o146:Obj:=oG "_law_numbers" (top 28) 185
def o147:Obj:=oH "_law_same" (top 29)
def o148:Obj:=od "_law_same" 459 132 2 187 462
def o149:Obj:=oG "_law_same" (top 29) 190
def o150:Obj:=oV 468 ["_law_many", "_law_size", "_law_count", "_law_d", "_law_rows_here", "_law_k", "_law_first"]
def o151:Obj:=oH "_law_windows" (top 30)
def o152:Obj:=oc "_law_windows" 465 142 4 192 475
def o153:Obj:=oG "_law_windows" (top 30) 197
def o154:Obj:=oH "_law_book" (top 31)
def o155:Obj:=od "_law_book" 478 148 2 199 481
def o156:Obj:=oG "_law_book" (top 31) 202
def o157:Obj:=oV 487 ["_law_book_here", "_law_rows_here", "_law_word", "_law_triples", "_law_one", "_law_two", "_law_three"]
def o158:Obj:=oH "_law_rows" (top 32)
def o159:Obj:=oc "_law_rows" 484 168 1 204 494
def o160:Obj:=oG "_law_rows" (top 32) 209
def o161:Obj:=oV 500 ["_law_size", "_law_kinds", "_law_shuns", "_law_bars", "_law_dues", "_law_many", "_law_least", "_law_most", "_law_rest", "_law_one", "_law_other", "_law_far", "_law_kind", "_law_first", "_law_last"]
def o162:Obj:=oH "_law_good" (top 33)
def o163:Obj:=oc "_law_good" 497 174 5 211 515
def o164:Obj:=oG "_law_good" (top 33) 216
def o165:Obj:=oH "_law_number" (top 34)
def o166:Obj:=od "_law_number" 518 188 1 218 521
def o167:Obj:=oG "_law_number" (top 34) 221
def o168:Obj:=oH "_law_row_read" (top 35)
def o169:Obj:=od "_law_row_read" 524 194 1 223 527
def o170:Obj:=oG "_law_row_read" (top 35) 226
def o171:Obj:=oV 533 ["_law_rows_here", "_law_groups", "_law_last", "_law_at", "_law_row", "_law_found", "_law_kinds"]
def o172:Obj:=oH "_law_read" (top 36)
def o173:Obj:=oc "_law_read" 530 203 1 228 540
def o174:Obj:=oG "_law_read" (top 36) 233
def o175:Obj:=oV 546 ["_law_number_here", "_law_some"]
def o176:Obj:=oH "_law_sign" (top 37)
def o177:Obj:=oc "_law_sign" 543 218 1 235 548
def o178:Obj:=oG "_law_sign" (top 37) 240
def o179:Obj:=oH "_law_spoilt" (top 38)
def o180:Obj:=od "_law_spoilt" 551 222 2 242 554
def o181:Obj:=oG "_law_spoilt" (top 38) 245
def o182:Obj:=oV 560 ["_law_script", "_law_numbers_here", "_law_text", "_law_k", "_law_due", "_law_at", "_law_found", "_law_marks", "_law_row", "e"]
def o183:Obj:=oH "law" (top 39)
def o184:Obj:=oc "law" 557 248 1 247 570
def o185:Obj:=oG "law" (top 39) 252
def c186(P:Params):List (Nat×Obj):=List.append [(3,o79 P),(12,o83)] (nz 92 [o0,o16,o86 P,o0,o88,o89])
def c187:List (Nat×Obj):=nz 98 [o90,o0,o1,o91,o0,o92,o93,o94]
def c188:List (Nat×Obj):=nz 106 [o0,o1,o95,o0,o96,o97,o98,o0]
def c189:List (Nat×Obj):=nz 114 [o1,o99,o0,o100,o101,o102,o0,o1]
def c190:List (Nat×Obj):=nz 122 [o103,o0,o104,o105,o106,o0,o1,o107]
def c191:List (Nat×Obj):=nz 130 [o0,o108,o109,o110,o0,o1,o111,o0]
def c192(P:Params):List (Nat×Obj):=nz 138 [o112,o113,o114,o115,o118 P,o119,o120,o121]
def c193:List (Nat×Obj):=nz 146 [o122,o123,o124,o0,o1,o125,o126,o127]
def c194:List (Nat×Obj):=nz 154 [o0,o1,o128,o0,o129,o130,o131,o0]
def c195:List (Nat×Obj):=nz 162 [o1,o132,o133,o134,o0,o1,o135,o0]
def c196:List (Nat×Obj):=nz 170 [o136,o137,o138,o0,o1,o139,o0,o140]
def c197:List (Nat×Obj):=nz 178 [o141,o142,o0,o1,o143,o0,o144,o145]
def c198:List (Nat×Obj):=nz 186 [o146,o0,o1,o147,o148,o149,o0,o1]
def c199:List (Nat×Obj):=nz 194 [o150,o0,o151,o152,o153,o0,o1,o154]
def c200:List (Nat×Obj):=nz 202 [o155,o156,o0,o1,o157,o0,o158,o159]
def c201:List (Nat×Obj):=nz 210 [o160,o0,o1,o161,o0,o162,o163,o164]
def c202:List (Nat×Obj):=nz 218 [o0,o1,o165,o166,o167,o0,o1,o168]
def c203:List (Nat×Obj):=nz 226 [o169,o170,o0,o1,o171,o0,o172,o173]
def c204:List (Nat×Obj):=nz 234 [o174,o0,o1,o175,o0,o176,o177,o178]
def c205:List (Nat×Obj):=nz 242 [o0,o1,o179,o180,o181,o0,o1,o182]
def c206:List (Nat×Obj):=nz 250 [o0,o183,o184,o185]
def c207(P:Params):List Obj:=[boot_o_0 P,boot_o_1 P,boot_o_2 P,o79 P,boot_o_4 P,boot_o_5 P,boot_o_6 P,boot_o_7 P]
def c208(P:Params):List Obj:=[boot_o_8 P,boot_o_9 P,boot_o_10 P,o0,o83,o2,o3,o15]
def c209(P:Params):List Obj:=[o16,o17 P,o0,o1,o18,o19,o0,o20 P]
def c210(P:Params):List Obj:=[o21,o22,o23,o24,o25,o16,o26 P,o0]
def c211(P:Params):List Obj:=[o1,o27,o28,o0,o29 P,o30,o31,o32]
def c212(P:Params):List Obj:=[o25,o16,o33 P,o0,o34,o35,o36,o0]
def c213(P:Params):List Obj:=[o1,o37,o0,o38,o39,o40,o41,o42 P]
def c214:List Obj:=[o43,o44,o45,o0,o1,o46,o0,o47]
def c215:List Obj:=[o48,o49,o0,o1,o50,o0,o51,o52]
def c216:List Obj:=[o53,o0,o1,o54,o0,o55,o56,o57]
def c217:List Obj:=[o0,o1,o58,o0,o59,o60,o61,o0]
def c218(P:Params):List Obj:=[o1,o62,o63,o64,o0,o16,o86 P,o0]
def c219:List Obj:=[o88,o89,o90,o0,o1,o91,o0,o92]
def c220:List Obj:=[o93,o94,o0,o1,o95,o0,o96,o97]
def c221:List Obj:=[o98,o0,o1,o99,o0,o100,o101,o102]
def c222:List Obj:=[o0,o1,o103,o0,o104,o105,o106,o0]
def c223:List Obj:=[o1,o107,o0,o108,o109,o110,o0,o1]
def c224(P:Params):List Obj:=[o111,o0,o112,o113,o114,o115,o118 P,o119]
def c225:List Obj:=[o120,o121,o122,o123,o124,o0,o1,o125]
def c226:List Obj:=[o126,o127,o0,o1,o128,o0,o129,o130]
def c227:List Obj:=[o131,o0,o1,o132,o133,o134,o0,o1]
def c228:List Obj:=[o135,o0,o136,o137,o138,o0,o1,o139]
def c229:List Obj:=[o0,o140,o141,o142,o0,o1,o143,o0]
def c230:List Obj:=[o144,o145,o146,o0,o1,o147,o148,o149]
def c231:List Obj:=[o0,o1,o150,o0,o151,o152,o153,o0]
def c232:List Obj:=[o1,o154,o155,o156,o0,o1,o157,o0]
def c233:List Obj:=[o158,o159,o160,o0,o1,o161,o0,o162]
def c234:List Obj:=[o163,o164,o0,o1,o165,o166,o167,o0]
def c235:List Obj:=[o1,o168,o169,o170,o0,o1,o171,o0]
def c236:List Obj:=[o172,o173,o174,o0,o1,o175,o0,o176]
def c237:List Obj:=[o177,o178,o0,o1,o179,o180,o181,o0]
def c238:List Obj:=[o1,o182,o0,o183,o184,o185]
noncomputable def o239:Obj:=⟨.none,none,(.dict (List.toArray []) 0),#[]⟩
def hA(P:Params):Heap:=⟨⟨(List.append (c4 P) (c5 P))⟩,{}⟩
def t0(P:Params):BT:=putAll .nil (List.append (c6 P) (c7 P))
def t1(P:Params):BT:=putAll (t0 P) (List.append (c65 P) (List.append (c66 P) (List.append (c67 P) (List.append (c68 P) (List.append (c69) (List.append (c70 P) (List.append (c71) (List.append (c72) (List.append (c73) (c74))))))))))
def t2(P:Params):BT:=putAll (t1 P) (List.append (c186 P) (List.append (c187) (List.append (c188) (List.append (c189) (List.append (c190) (List.append (c191) (List.append (c192 P) (List.append (c193) (List.append (c194) (List.append (c195) (List.append (c196) (List.append (c197) (List.append (c198) (List.append (c199) (List.append (c200) (List.append (c201) (List.append (c202) (List.append (c203) (List.append (c204) (List.append (c205) (c206)))))))))))))))))))))
def sts0:List Stmt:=[top 0,top 1,top 2,top 3,top 4,top 5,top 6,top 7,top 8,top 9,top 10,top 11,top 12,top 13,top 14,top 15,top 16,top 17]
def sts1:List Stmt:=[top 18,top 19,top 20,top 21,top 22,top 23,top 24,top 25,top 26,top 27,top 28,top 29,top 30,top 31,top 32,top 33,top 34,top 35,top 36,top 37,top 38,top 39]
def hF(P:Params):Heap:=⟨⟨(List.append (c207 P) (List.append (c208 P) (List.append (c209 P) (List.append (c210 P) (List.append (c211 P) (List.append (c212 P) (List.append (c213 P) (List.append (c214) (List.append (c215) (List.append (c216) (List.append (c217) (List.append (c218 P) (List.append (c219) (List.append (c220) (List.append (c221) (List.append (c222) (List.append (c223) (List.append (c224 P) (List.append (c225) (List.append (c226) (List.append (c227) (List.append (c228) (List.append (c229) (List.append (c230) (List.append (c231) (List.append (c232) (List.append (c233) (List.append (c234) (List.append (c235) (List.append (c236) (List.append (c237) (c238))))))))))))))))))))))))))))))))⟩,{}⟩
def K(P:Params):Frag:=((nat_lit 2,o239)::(nat_lit 3,o79 P)::(nat_lit 15,o15)::(nat_lit 22,o0)::(nat_lit 23,o20 P)::(nat_lit 24,o21)::(nat_lit 25,o22)::(nat_lit 28,o25)::(nat_lit 35,o0)::(nat_lit 36,o29 P)::(nat_lit 37,o30)::(nat_lit 40,o25)::(nat_lit 47,o0)::(nat_lit 49,o37)::(nat_lit 50,o0)::(nat_lit 52,o39)::(nat_lit 53,o40)::(nat_lit 54,o41)::(nat_lit 55,o42 P)::(nat_lit 56,o43)::(nat_lit 59,o0)::(nat_lit 61,o46)::(nat_lit 62,o0)::(nat_lit 64,o48)::(nat_lit 65,o49)::(nat_lit 66,o0)::(nat_lit 68,o50)::(nat_lit 69,o0)::(nat_lit 71,o52)::(nat_lit 72,o53)::(nat_lit 73,o0)::(nat_lit 75,o54)::(nat_lit 76,o0)::(nat_lit 78,o56)::(nat_lit 79,o57)::(nat_lit 80,o0)::(nat_lit 82,o58)::(nat_lit 83,o0)::(nat_lit 85,o60)::(nat_lit 86,o61)::(nat_lit 87,o0)::(nat_lit 90,o63)::(nat_lit 91,o64)::(nat_lit 99,o0)::(nat_lit 101,o91)::(nat_lit 102,o0)::(nat_lit 104,o93)::(nat_lit 105,o94)::(nat_lit 106,o0)::(nat_lit 108,o95)::(nat_lit 109,o0)::(nat_lit 111,o97)::(nat_lit 112,o98)::(nat_lit 113,o0)::(nat_lit 115,o99)::(nat_lit 116,o0)::(nat_lit 118,o101)::(nat_lit 119,o102)::(nat_lit 120,o0)::(nat_lit 122,o103)::(nat_lit 123,o0)::(nat_lit 125,o105)::(nat_lit 126,o106)::(nat_lit 127,o0)::(nat_lit 129,o107)::(nat_lit 130,o0)::(nat_lit 132,o109)::(nat_lit 133,o110)::(nat_lit 134,o0)::(nat_lit 136,o111)::(nat_lit 137,o0)::(nat_lit 139,o113)::(nat_lit 140,o114)::(nat_lit 141,o115)::(nat_lit 142,o118 P)::(nat_lit 143,o119)::(nat_lit 144,o120)::(nat_lit 145,o121)::(nat_lit 148,o124)::(nat_lit 149,o0)::(nat_lit 152,o126)::(nat_lit 153,o127)::(nat_lit 154,o0)::(nat_lit 156,o128)::(nat_lit 157,o0)::(nat_lit 159,o130)::(nat_lit 160,o131)::(nat_lit 161,o0)::(nat_lit 164,o133)::(nat_lit 165,o134)::(nat_lit 166,o0)::(nat_lit 168,o135)::(nat_lit 169,o0)::(nat_lit 171,o137)::(nat_lit 172,o138)::(nat_lit 173,o0)::(nat_lit 175,o139)::(nat_lit 176,o0)::(nat_lit 178,o141)::(nat_lit 179,o142)::(nat_lit 180,o0)::(nat_lit 182,o143)::(nat_lit 183,o0)::(nat_lit 185,o145)::(nat_lit 186,o146)::(nat_lit 187,o0)::(nat_lit 190,o148)::(nat_lit 191,o149)::(nat_lit 192,o0)::(nat_lit 194,o150)::(nat_lit 195,o0)::(nat_lit 197,o152)::(nat_lit 198,o153)::(nat_lit 199,o0)::(nat_lit 202,o155)::(nat_lit 203,o156)::(nat_lit 204,o0)::(nat_lit 206,o157)::(nat_lit 207,o0)::(nat_lit 209,o159)::(nat_lit 210,o160)::(nat_lit 211,o0)::(nat_lit 213,o161)::(nat_lit 214,o0)::(nat_lit 216,o163)::(nat_lit 217,o164)::(nat_lit 218,o0)::(nat_lit 221,o166)::(nat_lit 222,o167)::(nat_lit 223,o0)::(nat_lit 226,o169)::(nat_lit 227,o170)::(nat_lit 228,o0)::(nat_lit 230,o171)::(nat_lit 231,o0)::(nat_lit 233,o173)::(nat_lit 234,o174)::(nat_lit 235,o0)::(nat_lit 237,o175)::(nat_lit 238,o0)::(nat_lit 240,o177)::(nat_lit 241,o178)::(nat_lit 242,o0)::(nat_lit 245,o180)::(nat_lit 246,o181)::(nat_lit 247,o0)::(nat_lit 249,o182)::(nat_lit 250,o0)::(nat_lit 252,o184)::(nat_lit 253,o185)::[])
noncomputable def kA:List Addr:=(2::3::15::22::23::24::25::28::35::36::37::40::47::49::50::52::53::54::55::56::59::61::62::64::65::66::68::69::71::72::73::75::76::78::79::80::82::83::85::86::87::90::91::99::101::102::104::105::106::108::109::111::112::113::115::116::118::119::120::122::123::125::126::127::129::130::132::133::134::136::137::139::140::141::142::143::144::145::148::149::152::153::154::156::157::159::160::161::164::165::166::168::169::171::172::173::175::176::178::179::180::182::183::185::186::187::190::191::192::194::195::197::198::199::202::203::204::206::207::209::210::211::213::214::216::217::218::221::222::223::226::227::228::230::231::233::234::235::237::238::240::241::242::245::246::247::249::250::252::253::[])
theorem kOk:∀P,kA=(K P).map (·.1):=fun _=>by kernel_rfl
def q:Program:={ pw with main:={ pw.main with body:=(top 1::top 2::top 3::top 5::top 6::top 7::top 8::top 9::top 10::top 11::top 12::top 13::top 14::top 15::top 16::top 17::top 18::top 20::top 21::top 22::top 23::top 24::top 25::top 26::top 28::top 29::top 30::top 31::top 32::top 33::top 34::top 35::top 36::top 37::top 38::top 39::[]) } }
noncomputable abbrev Xt:Shared->Bool:=fun s=>xlAt q [] s&&recOk (RowW.records (OpenRow.toRowW (OpenLaw.row PySem.Challenge.rw_moonseat_k40_rule_texts_refused))) s
noncomputable def G2(p:Program)(w:World)(m:Nat)(an:Option Value)(n:Nat)(s:Shared)(t:Thread):=segRun treeTable p w m an 1 n s t
lay_quick G2
theorem g2{p:Program}{w:World}{m:Nat}{an:Option Value}{n:Nat}{s:Shared}{t:Thread}{r}(e:PySem.W.Fast.tw10880070632800087129 p w m an n s t=r):segRun treeTable p w m an 1 n s t=r:=by rw[<-PySem.W.Fast.te10880070632800087129]at e;exact e
noncomputable def G3(p:Program)(w:World)(m:Nat)(an:Option Value)(n:Nat)(s:SharedT)(t:Thread):=segRunT treeTable p w m an 1 n s t
lay_quick G3
theorem g3{p:Program}{w:World}{m:Nat}{an:Option Value}{n:Nat}{s:SharedT}{t:Thread}{r}(e:PySem.W.Fast.tw4145583888436359099 p w m an n s t=r):segRunT treeTable p w m an 1 n s t=r:=by rw[<-PySem.W.Fast.te4145583888436359099]at e;exact e
noncomputable def G4(p:Program)(w:World)(m:Nat)(an:Option Value)(n:Nat)(s:Shared)(t:Thread):=topRun treeTable p w m an n s t
lay_quick G4
theorem g4{p:Program}{w:World}{m:Nat}{an:Option Value}{n:Nat}{s:Shared}{t:Thread}{r}(e:PySem.W.Fast.tw6531939937263253831 p w m an n s t=r):topRun treeTable p w m an n s t=r:=by rw[<-PySem.W.Fast.te6531939937263253831]at e;exact e
noncomputable def G7(p:Program)(g h:Heap)(s:Shared):=(staticsOk (importedModules p.main.body) g h&&namesBound p h&&gensDone s&&laidKept g h)
lay_quick G7
theorem g7{p:Program}{g h:Heap}{s:Shared}{r}(e:PySem.W.Fast.tw9566738594451217396 p g h s=r):(staticsOk (importedModules p.main.body) g h&&namesBound p h&&gensDone s&&laidKept g h)=r:=by rw[<-PySem.W.Fast.te9566738594451217396]at e;exact e
noncomputable def G9(h:Heap):=(h.isNs mainGlobals&&(Array.mk []:Array GenState).size==0,h.objs.size,h.nsMap mainGlobals "__annotations__")
lay_quick G9
theorem g9{h:Heap}{r}(e:PySem.W.Fast.tw14578262778655688011 h=r):(h.isNs mainGlobals&&(Array.mk []:Array GenState).size==0,h.objs.size,h.nsMap mainGlobals "__annotations__")=r:=by rw[<-PySem.W.Fast.te14578262778655688011]at e;exact e
noncomputable def G5(q:Program)(R:WRecords)(md:List Str)(s:Shared):=(openSeen q [] md (fun s=>xlAt q [] s&&recOk R s) true s)
noncomputable def G6(q:Program):=openGood q []
lay_quick G5 G6
theorem g5{q:Program}{R:WRecords}{md:List Str}{s:Shared}{α:Type}(f:_->α)(e:f (PySem.W.Fast.tw5989712690265804088 q R md s)=f (PySem.W.Fast.tw12956129408465502666 q)):f (openSeen q [] md (fun s=>xlAt q [] s&&recOk R s) true s)=f (openGood q []):=by rw[<-PySem.W.Fast.te5989712690265804088,<-PySem.W.Fast.te12956129408465502666]at e;exact e
noncomputable def Lpre(w:World)(os:OsState):=topGo treeTable pw w 11 (some (.ref 6)) 12 (⟨boot_heap w.params,Array.mk [],boot_drawn,boot_toks,os⟩:Shared) (topStub pw)
def Rpre(w:World)(os:OsState):=some ((⟨hA w.params,Array.mk [],{},187,os⟩:Shared),(⟨denote treeTable cE,cE,(⟨0,0,0,0⟩:Pos),[topFrame (⟨0,0,0,0⟩:Pos)]⟩:Thread))
lay_quick Lpre Rpre
theorem Qpre:Lpre=Rpre:=PySem.W.Fast.te10476676399240795362.trans ((by kernel_rfl:PySem.W.Fast.tw10476676399240795362=PySem.W.Fast.tw9996742816549557572).trans PySem.W.Fast.te9996742816549557572.symm)
theorem Ppre(w:World)(os:OsState):topGo treeTable pw w 11 (some (.ref 6)) 12 (⟨boot_heap w.params,Array.mk [],boot_drawn,boot_toks,os⟩:Shared) (topStub pw)=some ((⟨hA w.params,Array.mk [],{},187,os⟩:Shared),(⟨denote treeTable cE,cE,(⟨0,0,0,0⟩:Pos),[topFrame (⟨0,0,0,0⟩:Pos)]⟩:Thread)):=congrFun (congrFun Qpre w) os
theorem Pblk(w:World)(os:OsState):segRun treeTable pw w 11 (some (.ref 6)) 1 1 (⟨hA w.params,Array.mk [],{},187,os⟩:Shared) (blockOf bd env cE (⟨0,0,0,0⟩:Pos) [topFrame (⟨0,0,0,0⟩:Pos)])=some (Flow.next,SharedT.abs (⟨t0 w.params,15,{},Array.mk [],{},187,os⟩:SharedT),cE,(⟨0,0,0,0⟩:Pos)):=g2 (by kernel_rfl)
theorem P0(w:World)(os:OsState):segRunT treeTable pw w 11 (some (.ref 6)) 1 893 (⟨t0 w.params,15,{},Array.mk [],{},187,os⟩:SharedT) (piecesOf sts0 env cE (⟨0,0,0,0⟩:Pos) [topFrame (⟨0,0,0,0⟩:Pos)])=some (Flow.next,(⟨t1 w.params,92,{},Array.mk [],{},316,os⟩:SharedT),cE,(⟨38,0,44,67⟩:Pos)):=g3 (by kernel_rfl)
theorem P1(w:World)(os:OsState):segRunT treeTable pw w 11 (some (.ref 6)) 1 961 (⟨t1 w.params,92,{},Array.mk [],{},316,os⟩:SharedT) (piecesOf sts1 env cE (⟨38,0,44,67⟩:Pos) [topFrame (⟨0,0,0,0⟩:Pos)])=some (Flow.next,(⟨t2 w.params,254,{},Array.mk [],{},573,os⟩:SharedT),cE,(⟨248,0,268,133⟩:Pos)):=g3 (by kernel_rfl)
theorem Pfin(w:World)(os:OsState):topRun treeTable pw w 11 (some (.ref 6)) 2 (SharedT.abs (⟨t2 w.params,254,{},Array.mk [],{},573,os⟩:SharedT)) (⟨doneF .next,cE,(⟨248,0,268,133⟩:Pos),[topFrame (⟨0,0,0,0⟩:Pos)]⟩:Thread)=some (⟨hF w.params,Array.mk [],{},573,os⟩:Shared):=g4 (by kernel_rfl)
theorem Pc0(w:World)(os:OsState):(openSeen q [] (importedModules pw.main.body) Xt true (⟨hF w.params,Array.mk [],{},573,os⟩:Shared)).1=(openGood q []).1:=g5 (·.1) (by kernel_rfl)
theorem Pc1(w:World)(os:OsState):(openSeen q [] (importedModules pw.main.body) Xt true (⟨hF w.params,Array.mk [],{},573,os⟩:Shared)).2.1=(openGood q []).2.1:=g5 (·.2.1) (by kernel_rfl)
theorem Pc2(w:World)(os:OsState):(openSeen q [] (importedModules pw.main.body) Xt true (⟨hF w.params,Array.mk [],{},573,os⟩:Shared)).2.2.1=(openGood q []).2.2.1:=g5 (·.2.2.1) (by kernel_rfl)
theorem Pc3(w:World)(os:OsState):(openSeen q [] (importedModules pw.main.body) Xt true (⟨hF w.params,Array.mk [],{},573,os⟩:Shared)).2.2.2.1=(openGood q []).2.2.2.1:=g5 (·.2.2.2.1) (by kernel_rfl)
theorem Pc4(w:World)(os:OsState):(openSeen q [] (importedModules pw.main.body) Xt true (⟨hF w.params,Array.mk [],{},573,os⟩:Shared)).2.2.2.2.1=(openGood q []).2.2.2.2.1:=g5 (·.2.2.2.2.1) (by kernel_rfl)
theorem Pc5(w:World)(os:OsState):(openSeen q [] (importedModules pw.main.body) Xt true (⟨hF w.params,Array.mk [],{},573,os⟩:Shared)).2.2.2.2.2.1=(openGood q []).2.2.2.2.2.1:=g5 (·.2.2.2.2.2.1) (by kernel_rfl)
theorem Pc6(w:World)(os:OsState):(openSeen q [] (importedModules pw.main.body) Xt true (⟨hF w.params,Array.mk [],{},573,os⟩:Shared)).2.2.2.2.2.2.1=(openGood q []).2.2.2.2.2.2.1:=g5 (·.2.2.2.2.2.2.1) (by kernel_rfl)
theorem Pc7(w:World)(os:OsState):(openSeen q [] (importedModules pw.main.body) Xt true (⟨hF w.params,Array.mk [],{},573,os⟩:Shared)).2.2.2.2.2.2.2.1=(openGood q []).2.2.2.2.2.2.2.1:=g5 (·.2.2.2.2.2.2.2.1) (by kernel_rfl)
theorem Pc8(w:World)(os:OsState):(openSeen q [] (importedModules pw.main.body) Xt true (⟨hF w.params,Array.mk [],{},573,os⟩:Shared)).2.2.2.2.2.2.2.2=(openGood q []).2.2.2.2.2.2.2.2:=g5 (·.2.2.2.2.2.2.2.2) (by kernel_rfl)
theorem Pa(w:World)(os:OsState):(staticsOk (importedModules pw.main.body) (boot_heap w.params) (hF w.params)&&namesBound pw (hF w.params)&&gensDone (⟨hF w.params,Array.mk [],{},573,os⟩:Shared)&&laidKept (boot_heap w.params) (hF w.params))=true:=g7 (by kernel_rfl)
theorem Py(w:World)(os:OsState):kA.map ((⟨hF w.params,Array.mk [],{},573,os⟩:Shared)).heap.get?=(K w.params).map fun p=>some p.2:=by kernel_rfl
theorem Pz(w:World):((boot_heap w.params).isNs mainGlobals&&(Array.mk []:Array GenState).size==0,(boot_heap w.params).objs.size,(boot_heap w.params).nsMap mainGlobals "__annotations__")=(true,11,(some (.ref 6))):=g9 (by kernel_rfl)
theorem run(w:World)(os:OsState):topRun treeTable pw w 11 (some (.ref 6)) (12+(1+(893+(961+2)))) (⟨boot_heap w.params,Array.mk [],boot_drawn,boot_toks,os⟩:Shared) (topStub pw)=some (⟨hF w.params,Array.mk [],{},573,os⟩:Shared):=
 go_top (Ppre w os) (piece_block (Pblk w os) (piece_app (l:=sts0) (segRun_of (P0 w os)) (piece_app (l:=sts1) (segRun_of (P1 w os)) (piece_nil (Pfin w os)))))
theorem opn:opening pw=plainProg pw.main.scope.names:=by kernel_rfl
theorem fen(s:Shared):fenceModules? pw s=some s:=by kernel_rfl
theorem left:LeftO pw q [] Xt (Hook.obs (kHook K kA kOk)) (Hook.val (kHook K kA kOk)) 3830:=
 LeftO.of_pieces (H₀:=boot_heap) (H₁:=hF) (boot_open opn (by decide) fen) Pz run (by decide) fun w=>funext fun os=>Prod.ext (Pa w os) (Prod.ext (Prod.ext (Pc0 w os) (Prod.ext (Pc1 w os) (Prod.ext (Pc2 w os) (Prod.ext (Pc3 w os) (Prod.ext (Pc4 w os) (Prod.ext (Pc5 w os) (Prod.ext (Pc6 w os) (Prod.ext (Pc7 w os) (Pc8 w os))))))))) (Py w os))
end
end Hd
namespace M
open PySem L2 DS CP
def gu(K:W.Frag):Sp:=fun vs H Q _=>∃(a:Addr) (ns:List Int),vs=[.ref a]/\js K H a (ns.map V.int)/\ns.length<=63/\∀H',Q (.bl true) H'
theorem B7{K:W.Frag}{C:Addr}(vs:List V)(H:Hp)(Q:VK)(E:XK)(h:gu K vs H Q E):uM K [false] (ki C) vs H Q E:=by
 obtain⟨a,ns,rfl,hS,hl,q⟩:=h;have e:j7 H []=H:=by funext b;rfl
 exact⟨[],[.scr ns],.bl true,(fun a h=>by cases h),⟨.inl (by rw[e];show DS.j8 K H (.scr ns) _;rw[DS.j8];exact⟨a,rfl,hS⟩),trivial⟩,XC C ns hl,fun v H' _ r=>by rw[DS.j8]at r;rw[r];exact q H'⟩
theorem E4{l:W.OpenLaw}{w:World}{K:W.Frag}{h:Heap}{mg:Str->Option Value}{fa C Cb Cx:Addr}(X:K.In h)(G:h.Ns mainGlobals mg)(hfa:mg "law" = some (.ref fa))
 (aC:W.nsIn K mainGlobals "Rules" = some (some (.ref C)))
 (pg:W.plainGet K C Str.empty=true)
 (hd:W.hasDictIn K C=true)
 (po:W.plainOver K C=true)
 (sa:W.findIn K (.ref C) "__setattr__" = some (some (.builtin "object.__setattr__")))
 (mk:W.makesIn K C=true)
 (kc:W.keepIn K (.ref C)=true)
 (h__law_numbers:At K "_law_numbers" "_law_numbers" (top 28))
 (h__law_rows:At K "_law_rows" "_law_rows" (top 32))
 (h__law_windows:At K "_law_windows" "_law_windows" (top 30))
 (h__law_book:At K "_law_book" "_law_book" (top 31))
 (h__law_sign:At K "_law_sign" "_law_sign" (top 37))
 (h__law_spoilt:At K "_law_spoilt" "_law_spoilt" (top 38))
 (h__law_number:At K "_law_number" "_law_number" (top 34))
 (h__law_row_read:At K "_law_row_read" "_law_row_read" (top 35))
 (h__law_good:At K "_law_good" "_law_good" (top 33))
 (h__law_read:At K "_law_read" "_law_read" (top 36))
 (h_is_number:At K "is_number" "is_number" (top 22))
 (h_read_size:At K "read_size" "read_size" (top 23))
 (h_read_part:At K "read_part" "read_part" (top 24))
 (h_fits_counts:At K "fits_counts" "fits_counts" (top 16))
 (h_fits_kind:At K "fits_kind" "fits_kind" (top 13))
 (h_fits_shun:At K "fits_shun" "fits_shun" (top 14))
 (h_fits_span:At K "fits_span" "fits_span" (top 15))
 (h_fits_rows:At K "fits_rows" "fits_rows" (top 17))
 (h_Rules___init__:uS K C "__init__" "Rules.__init__" (inClass (top 18) 0))
 (h_with_row:At K "with_row" "with_row" (top 25))
 (h_read_rules:At K "read_rules" "read_rules" (top 26))
 (h__law_same:At K "_law_same" "_law_same" (top 29))
 (h_Rules_kinds:uS K C "kinds" "Rules.kinds" (inClass (top 18) 1))
 (h_Rules_shuns:uS K C "shuns" "Rules.shuns" (inClass (top 18) 2))
 (h_Rules_bars:uS K C "bars" "Rules.bars" (inClass (top 18) 3))
 (h_Rules_dues:uS K C "dues" "Rules.dues" (inClass (top 18) 4))
 (h_law:At K "law" "law" (top 39))
 (ek:W.nsIn K mainGlobals "BadRules" = some (some (.ref Cx)))
 (ei:W.excIn K Cx a_ "ValueError.__new__" = true)
 (em:W.exmOne K (.ref Cx) (.ref Cx)=some true)
 (yc:∀(mg:Str->Option Value) (base:Heap),wY l.prog w K mg base 2 "BadRow" Cb "at")
 (yk:YxK K Cb "BadRow" "BadRules" "at")
 (hF:∀f∈(T0 C).fl,yC K C f)
 (hG:∀p∈(T0 C).gs,G0 K p.1 p.2):
  ∃fd:FuncData,(∀(s:Shared) (v:Value),BindsTo s fd ⟨[v],[]⟩ [("_law_script",v)])/\∀base:Heap,K.In base->base.Ns mainGlobals mg->FnOk l.prog w K mg base JH 57 fa fd ["_law_script"] (gu K):=by
 have XG:∀x v,W.nsIn K mainGlobals x=some (some v)->mg x=some v:=fun x v a=>W.mg_of X G a;obtain⟨f_law,ki,a_law,F_law⟩:=h_law;have e:=hfa.symm.trans (XG _ _ a_law);cases e;obtain⟨_,_,kV,dc,pm,an,cd,ct,_,rfl,_,_⟩:=F_law.ex;refine⟨W.fnOf "law" "law" (defArgs (top 39)) (defBody (top 39)) (defScope (top 39)) .none kV dc pm an cd ct,fun s v=>.of_eq rfl,fun base _ _=>?_⟩;have h:TOk l.prog w K mg base 0 (T0 C):=⟨fun p hp=>F7 XG (fun x a=>W.mg_none_of X G a) (hG p hp),(fun _ h=>by cases h),⟨pg,hd,po,sa⟩,hF⟩
 have h:TOk l.prog w K mg base 2 (T1 C):=TOk.F XG h h__law_numbers (Gk C);have h:TOk l.prog w K mg base 4 (T2 C):=TOk.F XG h h__law_rows (wa C);have h:TOk l.prog w K mg base 6 (T3 C):=TOk.F XG h h__law_windows (Gn C);have h:TOk l.prog w K mg base 8 (T4 C):=TOk.E XG h h__law_book (wb C);have h:TOk l.prog w K mg base 10 (T5 C):=TOk.E XG h h__law_sign (wc C);have h:TOk l.prog w K mg base 12 (T6 C):=TOk.E XG h h__law_spoilt (GS C);have h:TOk l.prog w K mg base 14 (T7 C):=TOk.E XG h h__law_number (GU C);have h:TOk l.prog w K mg base 16 (T8 C):=TOk.E XG h h__law_row_read (gr C);have h:TOk l.prog w K mg base 18 (T9 C):=TOk.E XG h h__law_good (we C);have h:TOk l.prog w K mg base 20 (eQ C):=TOk.E XG h h__law_read (wf C);have h:TOk l.prog w K mg base 22 (eR C):=TOk.E XG h h_is_number (wg C);have h:TOk l.prog w K mg base 24 (eS C):=TOk.E XG h h_read_size (wj C);have h:TOk l.prog w K mg base 26 (eT C):=TOk.E XG h h_read_part (wk C);have h:TOk l.prog w K mg base 28 (eU C):=TOk.E XG h h_fits_counts (GV C);have h:TOk l.prog w K mg base 30 (eV C):=TOk.E XG h h_fits_kind (wm C);have h:TOk l.prog w K mg base 32 (eW C):=TOk.E XG h h_fits_shun (wn C);have h:TOk l.prog w K mg base 34 (eX C):=TOk.E XG h h_fits_span (wo C);have h:TOk l.prog w K mg base 36 (Ae C):=TOk.E XG h h_fits_rows (wq C);have iz0:V9 l.prog w K mg base (·<=38) C Cx "Rules" (iz C):=V9.I XG h ek ei h_Rules___init__ rfl (uF C) rfl (ZA C) mk kc aC;have h:TOk l.prog w K mg base 38 (eY C):=TOk.I XG (d:=jN C) h h_Rules___init__ rfl (UE C) rfl (ZA C) mk kc aC (uE C);have h:TOk l.prog w K mg base 40 (Af C):=TOk.Mz XG (m:=1) (d:=Vf C) (F0:=yR C) h (iz0.mono (by decide)) ek em h_with_row (qy C) rfl (qz C) fun l _ _ _ z=>xW l z;have yf:gf l.prog w K mg base (·<=42) Cb "at" "read_rules" (yi C):=gf.Y XG h ((yc mg base).mono (by decide)) h_read_rules (GW C) rfl (ub C).b;have h:TOk l.prog w K mg base 42 (eZ C):=TOk.E XG h h_read_rules (ub C);have h:TOk l.prog w K mg base 48 (e_ C):=TOk.R XG h h__law_same (jX C) (zp C) 6 (fun _=>rfl) (fun _=>rfl) (wv C) rfl (wx C);have h:TOk l.prog w K mg base 50 (E1 C):=TOk.mF (d:=zR C) h h_Rules_kinds (GX C) rfl;have h:TOk l.prog w K mg base 52 (E2 C):=TOk.mF (d:=zS C) h h_Rules_shuns (GY C) rfl;have h:TOk l.prog w K mg base 54 (E3 C):=TOk.mF (d:=ZB C) h h_Rules_bars (KT C) rfl;have h:TOk l.prog w K mg base 56 (He C):=TOk.mF (d:=ZC C) h h_Rules_dues (KU C) rfl;exact(iG XG (d:=Ag C) h (yf.mono (by decide)) yk F_law (Fo C) rfl).imp B7
theorem iM{l:W.OpenLaw}{q:Program}{loose:List Str}{XP:(Str->Option Value)->Heap->Prop}{YP:World->Heap->Prop}{d:DefRec}{K:Params->W.Frag}(hn:l.most=some 63)(hdf:d.params.defaults=[])
  (hY:∀(w:World) (h:Heap),YP w h->(K w.params).In h)
  (F:∀(w:World) (mg:Str->Option Value) (fa:Addr) (h:Heap),(K w.params).In h->h.Ns mainGlobals mg->mg d.name=some (.ref fa)->
   ∃fd:FuncData,(∀(s:Shared) (u:Value),BindsTo s fd ⟨[u],[]⟩ [("_law_script",u)])/\∀base:Heap,(K w.params).In base->base.Ns mainGlobals mg->FnOk l.prog w (K w.params) mg base JH 57 fa fd ["_law_script"] (gu (K w.params))):
  W.WalkO q loose XP YP l.row.toRowW d [] (fun f vs=>PySem.call f vs):=
 L2.Az (n:=63) (k:=57) (x := "_law_script") (CX:=fun _=>JH) (sp:=fun w=>gu (K w.params)) hn (by decide) hdf ⟨rfl,by decide,by decide⟩ hY F (fun _ _ a ns hl _ hS=>⟨a,ns,rfl,hS,hl,fun _=>rfl⟩) fun _ _ _ _ _ z=>z
end M
open PySem PySem.W PyProof.Rows
set_option maxRecDepth 100000 in
set_option maxHeartbeats 0 in
theorem PySem.Challenge.cw_moonseat_k40_rule_texts_refused_holds : PySem.Challenge.rw_moonseat_k40_rule_texts_refused.Holds := by
 w_on;o_law
 refine holds_open (q:=Hd.q) (loose:=[]) (Xt:=Hd.Xt) (XP:=XL Hd.q []) (Yf:=Hook.obs (kHook Hd.K Hd.kA Hd.kOk)) (Ya:=Hook.val (kHook Hd.K Hd.kA Hd.kOk)) (YP:=Hook.says (kHook Hd.K Hd.kA Hd.kOk)) (N:=3830) Hd.left (Hook.of _) (Hook.keeps _) (fun s e=>xl_of s (Bool.and_eq_true_iff.mp e).1) XL.keeps (by rfl) (by rfl) (by rfl) (fun s e=>recFacts_of (Bool.and_eq_true_iff.mp e).2) (by rfl) (by assumption) (by decide +kernel) ⟨rfl,rfl,rfl,rfl,rfl,by decide +kernel⟩ ?hw ?hc
 case hw=>w_witness2
 k_fill
 refine M.iM (l:=PySem.Challenge.rw_moonseat_k40_rule_texts_refused) rfl rfl (fun w h Y=>kIn_of Y) ?F
 case F=>
  intro w mg fa h KX G hmg;refine' M.E4 (Cb:=56) (Cx:=37) KX G hmg ?_ ?_ ?_ ?_ ?_ ?_ ?_ ?_ ?_ ?_ ?_ ?_ ?_ ?_ ?_ ?_ ?_ ?_ ?_ ?_ ?_ ?_ ?_ ?_ ?_ ?_ ?_ ?_ ?_ ?_ ?_ ?_ ?_ ?_ ?_ ?_ ?_ ?_ ?_ ?_ ?_
  rotate_left 1
  iterate 7 (next=>k_is)
  iterate 18 (next=>exact CP.qh (by k_is) (L2.vC (by k_is) (by k_is) (by k_is)))
  iterate 1 (next=>exact CP.Kn (by k_is) (by k_is) (L2.vC (by k_is) (by k_is) (by k_is)))
  iterate 3 (next=>exact CP.qh (by k_is) (L2.vC (by k_is) (by k_is) (by k_is)))
  iterate 4 (next=>exact CP.Kn (by k_is) (by k_is) (L2.vC (by k_is) (by k_is) (by k_is)))
  iterate 1 (next=>exact CP.qh (by k_is) (L2.vC (by k_is) (by k_is) (by k_is)))
  iterate 1 (next=>k_is)
  iterate 1 (next=>kernel_rfl)
  iterate 1 (next=>kernel_rfl)
  iterate 1 (next=>exact fun mg base=>CP.bH (C:=56) (st:=L2.inClass (M.top 3) 0) (q := "BadRow.__init__") (by k_is) (by k_is) (by kernel_rfl) (by k_is) (CP.Kn (by k_is) (by k_is) (L2.vC (by k_is) (by k_is) (by k_is))) ⟨by k_is,by kernel_rfl,by k_is,by kernel_rfl⟩ rfl (by kernel_rfl) (by kernel_rfl) (by kernel_rfl) (fun _ _ _ _ _ _ us hl=>M.Gf us hl fun _ _=>rfl))
  iterate 1 (next=>exact⟨by k_is,by kernel_rfl,⟨_,by k_is,by kernel_rfl⟩,by kernel_rfl,⟨by k_is,by k_is,by k_is,by k_is,by k_is,by k_is,by k_is,by k_is⟩,⟨by k_is,by k_is,by kernel_rfl,by kernel_rfl,by k_is⟩⟩)
  iterate 1 (next=>exact CP.JJ (show W.findIn _ _ _=_ by k_is) (CP.JJ (show W.findIn _ _ _=_ by k_is) (CP.JJ (show W.findIn _ _ _=_ by k_is) (CP.JJ (show W.findIn _ _ _=_ by k_is) (CP.JJ (show W.findIn _ _ _=_ by k_is) (CP.F_))))))
  iterate 1 (next=>exact CP.JJ ⟨_,by k_is⟩ (CP.JJ ⟨_,by k_is⟩ (CP.JJ ⟨_,by k_is⟩ (CP.JJ ⟨_,by k_is⟩ (CP.JJ ⟨_,by k_is⟩ (CP.JJ ⟨_,by k_is⟩ (CP.JJ ⟨_,by k_is⟩ (CP.JJ ⟨_,by k_is⟩ (CP.JJ ⟨_,by k_is⟩ (CP.JJ (CP.F8 (by k_is) (by k_is) (by decide) (.cons ⟨_,rfl⟩ (.cons ⟨_,rfl⟩ (.cons ⟨_,rfl⟩ (.cons ⟨_,rfl⟩ .nil))))) (CP.JJ (show W.nsIn _ _ _=_ by k_is) (CP.JJ (show W.nsIn _ _ _=_ by k_is) (CP.JJ (show W.nsIn _ _ _=_ by k_is) (CP.JJ (show W.nsIn _ _ _=_ by k_is) (CP.JJ (show W.nsIn _ _ _=_ by k_is) (CP.JJ (show W.nsIn _ _ _=_ by k_is) (CP.JJ (show W.nsIn _ _ _=_ by k_is) (CP.JJ (show W.nsIn _ _ _=_ by k_is) (CP.JJ (show W.nsIn _ _ _=_ by k_is) (CP.JJ (show W.nsIn _ _ _=_ by k_is) (CP.JJ (show W.nsIn _ _ _=_ by k_is) (CP.JJ (show W.nsIn _ _ _=_ by k_is) (CP.JJ (show W.nsIn _ _ _=_ by k_is) (CP.JJ (show W.nsIn _ _ _=_ by k_is) (CP.F_)))))))))))))))))))))))))
